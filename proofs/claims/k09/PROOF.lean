import PyProof.Rows.All
import Wide.All
import OpenK.AllK
import Wide.FinOn
import Lean
import PyProof.EqAt
import PyProof.EqKinds
import PyProof.TupleCall
import PySem.Challenge.RW_readgrove_k09_whole_put_in
set_option Elab.async false
set_option linter.all false
set_option maxRecDepth 100000
namespace L2
open PySem PySem.Spec PyProof.Rows
abbrev Key := Sum Int Str
def keyIs : Key → Value → Bool
  | .inl k, v => Value.isInt k v
  | .inr x, v => Value.isStrOf x v
def keyH (w : World) : Key → Int
  | .inl k => hashInt k
  | .inr x => hashStr w x
theorem keyIs_shape : ∀ {k : Key} {v : Value}, keyIs k v = true → (∃ i t, k = Sum.inl i ∧ v = Value.int i t) ∨ (∃ x t, k = Sum.inr x ∧ v = Value.str x t)
  | .inl i, v, h => by
    obtain ⟨t, e⟩ := Value.isInt_shape (k := i) (v := v) h
    exact .inl ⟨i, t, rfl, e⟩
  | .inr x, v, h => by
    obtain ⟨t, e⟩ := Value.isStrOf_shape (x := x) (v := v) h
    exact .inr ⟨x, t, rfl, e⟩
theorem keyIs_int (i : Int) (t : Tok) : keyIs (.inl i) (.int i t) = true := by simp [keyIs, Value.isInt]
theorem keyIs_str (x : Str) (t : Tok) : keyIs (.inr x) (.str x t) = true := by simp [keyIs, Value.isStrOf]
theorem key_ll (a b : Int) : decide ((Sum.inl a : Key) = Sum.inl b) = (a == b) := by
  by_cases e : a = b
  · subst e; simp
  · have h : ¬ (Sum.inl a : Key) = Sum.inl b := fun q => e (Sum.inl.inj q)
    rw [decide_eq_false h]
    exact (beq_eq_false_iff_ne.mpr e).symm
theorem key_rr (a b : Str) : decide ((Sum.inr a : Key) = Sum.inr b) = decide (a = b) := by
  by_cases e : a = b
  · subst e; simp
  · have h : ¬ (Sum.inr a : Key) = Sum.inr b := fun q => e (Sum.inr.inj q)
    rw [decide_eq_false h, decide_eq_false e]
theorem key_lr (a : Int) (b : Str) : decide ((Sum.inl a : Key) = Sum.inr b) = false := decide_eq_false (fun q => nomatch q)
theorem key_rl (a : Str) (b : Int) : decide ((Sum.inr a : Key) = Sum.inl b) = false := decide_eq_false (fun q => nomatch q)
def mixKind (prog : Program) (w : World) : PySem.KeyKind prog w Key where
  is := keyIs
  hash := keyH w
  inj := fun v a b ha hb => by
    rcases keyIs_shape ha with ⟨i, t, rfl, rfl⟩ | ⟨x, t, rfl, rfl⟩
    · rcases keyIs_shape hb with ⟨j, u, rfl, e⟩ | ⟨y, u, rfl, e⟩
      · injection e with e1 _; rw [e1]
      · exact nomatch e
    · rcases keyIs_shape hb with ⟨j, u, rfl, e⟩ | ⟨y, u, rfl, e⟩
      · exact nomatch e
      · injection e with e1 _; rw [e1]
  byValue := fun k v h => by
    rcases keyIs_shape h with ⟨i, t, rfl, rfl⟩ | ⟨x, t, rfl, rfl⟩ <;> rfl
  pyHash := fun hv h => by
    rcases keyIs_shape hv with ⟨i, t, rfl, rfl⟩ | ⟨x, t, rfl, rfl⟩
    · exact wpAny_pyHash_int h
    · exact wpAny_pyHash_str h
  eqBool := fun hu hv h => by
    rcases keyIs_shape hu with ⟨i, t, rfl, rfl⟩ | ⟨x, t, rfl, rfl⟩
    · rcases keyIs_shape hv with ⟨j, u, rfl, rfl⟩ | ⟨y, u, rfl, rfl⟩
      · rw [key_ll] at h; exact wpAny_eqBool_int h
      · rw [key_lr] at h; exact SeqAt.EqAt.int_str i t y u _ _ _ _ h
    · rcases keyIs_shape hv with ⟨j, u, rfl, rfl⟩ | ⟨y, u, rfl, rfl⟩
      · rw [key_rl] at h; exact SeqAt.EqAt.str_int x t j u _ _ _ _ h
      · rw [key_rr] at h; exact wpAny_eqBool_str h
  «strs» := fun k x t v h => by
    rcases keyIs_shape h with ⟨i, u, rfl, e⟩ | ⟨y, u, rfl, e⟩
    · exact nomatch e
    · injection e with e1 _
      subst e1
      cases v <;> rfl
theorem mixKind_int (prog : Program) (w : World) (i : Int) (t : Tok) : (mixKind prog w).is (.inl i) (.int i t) = true := keyIs_int i t
theorem mixKind_str (prog : Program) (w : World) (x : Str) (t : Tok) : (mixKind prog w).is (.inr x) (.str x t) = true := keyIs_str x t
end L2
namespace L2
open PySem PySem.Spec PyProof.Rows
inductive V where
  | non | bl (b : Bool) | int (i : Int) | str (x : Str) | byt (b : Array UInt8) | flt (b : UInt64) | ref (a : Addr) | ty (n : String)
  deriving DecidableEq
def RelV : V → Value → Prop
  | .non, u => u = Value.none
  | .bl b, u => u = Value.bool b
  | .int i, u => ∃ t, u = Value.int i t
  | .str x, u => ∃ t, u = Value.str x t
  | .byt b, u => ∃ t, u = Value.bytes b t
  | .flt b, u => ∃ t, u = Value.float b t
  | .ref a, u => u = Value.ref a
  | .ty n, u => u = Value.type n
abbrev Vals : List V → List Value → Prop := Paired RelV
theorem Vals.length {xs : List V} {us : List Value} (r : Vals xs us) : xs.length = us.length := Paired.length r
theorem Vals.get : ∀ {xs : List V} {us : List Value} {i : Nat} {x : V}, Vals xs us → xs[i]? = some x → ∃ u, us[i]? = some u ∧ RelV x u
  | _, _, _, _, .nil, e => by simp at e
  | _, _, 0, _, .cons r _, e => by simp at e; subst e; exact ⟨_, rfl, r⟩
  | _, _, i + 1, x, .cons _ t, e => by
    obtain ⟨u, h1, h2⟩ := Vals.get (i := i) (x := x) t (by simpa using e)
    exact ⟨u, by simpa using h1, h2⟩
theorem Vals.set {x : V} {u : Value} (r : RelV x u) : ∀ {xs : List V} {us : List Value} (i : Nat), Vals xs us → Vals (xs.set i x) (us.set i u)
  | _, _, _, .nil => .nil
  | _, _, 0, .cons _ t => .cons r t
  | _, _, i + 1, .cons q t => .cons q (Vals.set r i t)
theorem Vals.append : ∀ {xs ys : List V} {us ws : List Value}, Vals xs us → Vals ys ws → Vals (xs ++ ys) (us ++ ws)
  | _, _, _, _, .nil, s => s
  | _, _, _, _, .cons r t, s => .cons r (Vals.append t s)
theorem Vals.take : ∀ {xs : List V} {us : List Value} (n : Nat), Vals xs us → Vals (xs.take n) (us.take n)
  | _, _, 0, _ => .nil
  | _, _, _ + 1, .nil => .nil
  | _, _, n + 1, .cons r t => .cons r (Vals.take n t)
theorem Vals.drop : ∀ {xs : List V} {us : List Value} (n : Nat), Vals xs us → Vals (xs.drop n) (us.drop n)
  | _, _, 0, r => r
  | _, _, _ + 1, .nil => .nil
  | _, _, n + 1, .cons _ t => Vals.drop n t
def RelO : Option V → Option Value → Prop
  | some v, some u => RelV v u
  | none, none => True
  | _, _ => False
def KV {κ : Type} : List (κ × V) → List (κ × Value) → Prop := Paired fun (p : κ × V) (q : κ × Value) => p.1 = q.1 ∧ RelV p.2 q.2
def kV : Key → V
  | .inl i => .int i
  | .inr x => .str x
inductive HO where
  /-- a list -/
  | lst (xs : List V)
  /-- a tuple (never changes) -/
  | tup (xs : List V)
  /-- a dict whose keys are ints and texts; one whose keys are tuples of ints and texts (the empty one is both) -/
  | dK (kvs : List (Key × V)) | dT (kvs : List (List Key × V))
  /-- a set of ints: its members, its size -/
  | set (S : Int → Bool) (n : Nat)
  /-- an instance of the class at C, its dict at dx, its attributes -/
  | ins (C dx : Addr) (fs : List (Str × V))
  /-- the dict of the instance at x -/
  | own (x : Addr)
  /-- the dict of an exception -/
  | xd (fs : List (Str × V))
  /-- a bound method, f of x -/
  | met (f x : Addr)
  /-- a range object lo, lo + 1, .. below hi -/
  | rng (lo hi : Int)
  /-- a thing that is known to the object (the script; a dict while a loop walks it): read, never written while it is so -/
  | frz (o : Obj) (u : HO)
  /-- a code object's table -/
  | tbl (ps : Array Value)
  /-- any other thing, by what is true of its one object (a def of one's own: SetO a S n := HO.ext fun h => ..) -/
  | ext (φ : Heap → Prop)
abbrev Hp := Addr → Option HO
def upd (H : Hp) (a : Addr) (o : HO) : Hp := fun b => if b = a then some o else H b
theorem upd_same {H : Hp} {a : Addr} {o : HO} : upd H a o a = some o := by unfold upd; rw [if_pos rfl]
theorem upd_ne {H : Hp} {a b : Addr} {o : HO} (h : b ≠ a) : upd H a o b = H b := by unfold upd; rw [if_neg h]
theorem ne_of {H : Hp} {a b : Addr} {o u : HO} (h : H a = some o) (h' : H b = some u) (d : o ≠ u) : a ≠ b := by
  intro e; subst e; rw [h] at h'; exact d (Option.some.inj h')
theorem ne_of_none {H : Hp} {a b : Addr} {o : HO} (h : H a = some o) (h' : H b = none) : a ≠ b := by
  intro e; subst e; rw [h] at h'; cases h'
section
variable (P : Program) (w : World)
def ObjOk (H : Hp) (h : Heap) (a : Addr) : HO → Prop
  | .lst xs => xs.length ≤ sizeLine ∧ ∃ (its : List Value) (n : Nat), Vals xs its ∧ h.get? a = some { cls := .type "list", data := .seq its.toArray n }
  | .tup xs => xs.length ≤ sizeLine ∧ ∃ its : List Value, Vals xs its ∧ IsTup h a its.toArray
  | .dK kvs => kvs.length ≤ sizeLine ∧ (a == sysModules) = false ∧ ∃ vs, KV kvs vs ∧ h.DictOf (mixKind P w) a vs
  | .dT kvs => kvs.length ≤ sizeLine ∧ (a == sysModules) = false ∧ ∃ xs : List (List Key × Addr × Value),
      Paired (fun (p : List Key × V) (q : List Key × Addr × Value) => p.1 = q.1 ∧ H q.2.1 = some (.tup (p.1.map kV)) ∧ RelV p.2 q.2.2) kvs xs ∧
      ∃ o es ep, h.get? a = some o ∧ o.ExactDict ∧ o.data = .dict es ep ∧ es.toList = xs.map (entryOfKey (tupleKind (mixKind P w))) ∧ (xs.map (·.1)).Nodup
  | .set S n => h.SetOf (intKind P w) a S n
  | .ins C dx fs => H dx = some (.own a) ∧ fs.length ≤ 1000 ∧ dx ≠ a ∧ h.get? a = some (PySem.W.instObj C dx) ∧
      ∃ mA, h.Ns1 dx mA ∧ (∀ f, RelO (fs.lookup f) (mA f)) ∧ PySem.Within mA (fs.map (·.1))
  | .own _ => ∃ o, h.get? a = some o
  | .xd fs => ∃ mA, h.Ns1 a mA ∧ ∀ f, RelO (fs.lookup f) (mA f)
  | .rng lo hi => ∃ t u v, h.get? a = some { cls := .type "range", data := .fields #[.int lo t, .int hi u, .int 1 v] }
  | .frz o u => h.get? a = some o ∧ ObjOk H h a u
  | .tbl ps => h.get? a = some { cls := .none, data := .fields ps }
  | .met f x => h.get? a = some (PySem.W.methodObj (.ref f) (.ref x))
  | .ext φ => φ h ∧ (∃ o, h.get? a = some o) ∧ ∀ h1 h2 : Heap, φ h1 → (∀ o, h1.get? a = some o → h2.get? a = some o) → φ h2
def HOk (H : Hp) (h : Heap) : Prop := ∀ a o, H a = some o → ObjOk P w H h a o
end
section
variable {P : Program} {w : World} {H H' : Hp} {h h' : Heap} {a : Addr} {o : HO}
theorem ObjOk.lt (x : ObjOk P w H h a o) : a < h.objs.size := by
  cases o with
  | lst xs => obtain ⟨_, _, _, _, e⟩ := x; exact Heap.lt_size e
  | tup xs => obtain ⟨_, _, _, p⟩ := x; exact p.lt
  | dK kvs => obtain ⟨_, _, _, _, o, _, _, e, _⟩ := x; exact Heap.lt_size e
  | dT kvs => obtain ⟨_, _, _, _, o, _, _, e, _⟩ := x; exact Heap.lt_size e
  | set S n => obtain ⟨o, _, _, _, e, _⟩ := x; exact Heap.lt_size e
  | ins C dx fs => obtain ⟨_, _, _, e, _⟩ := x; exact Heap.lt_size e
  | own y => obtain ⟨_, e⟩ := x; exact Heap.lt_size e
  | xd fs => obtain ⟨_, ⟨_, _, _, e, _⟩, _⟩ := x; exact Heap.lt_size e
  | rng lo hi => obtain ⟨_, _, _, e⟩ := x; exact Heap.lt_size e
  | frz ob u => obtain ⟨e, _⟩ := x; exact Heap.lt_size e
  | tbl ps => exact Heap.lt_size (show h.get? a = some _ from x)
  | met f y => exact Heap.lt_size (show h.get? a = some _ from x)
  | ext φ => obtain ⟨_, ⟨_, e⟩, _⟩ := x; exact Heap.lt_size e
theorem Paired.mapP {α β : Type} {F G : α → β → Prop} : ∀ {l₁ : List α} {l₂ : List β}, Paired F l₁ l₂ → (∀ a b, F a b → G a b) → Paired G l₁ l₂
  | _, _, .nil, _ => .nil
  | _, _, .cons r t, f => .cons (f _ _ r) (Paired.mapP t f)
theorem ObjOk.stay (x : ObjOk P w H h a o) (k : ∀ b u, (b = a ∨ H b = some (.own a)) → h.get? b = some u → h'.get? b = some u)
    (ho : ∀ b, H b = some (.own a) → H' b = some (.own a)) (ht : ∀ b xs, H b = some (.tup xs) → H' b = some (.tup xs)) : ObjOk P w H' h' a o := by
  induction o with
  | lst xs => obtain ⟨z, its, n, r, e⟩ := x; exact ⟨z, its, n, r, k _ _ (.inl rfl) e⟩
  | tup xs => obtain ⟨z, its, r, ob, e, c⟩ := x; exact ⟨z, its, r, ob, k _ _ (.inl rfl) e, c⟩
  | dK kvs => obtain ⟨z, y, vs, r, ob, es, ep, e, c⟩ := x; exact ⟨z, y, vs, r, ob, es, ep, k _ _ (.inl rfl) e, c⟩
  | dT kvs =>
    obtain ⟨z, y, xs, r, ob, es, ep, e, c⟩ := x
    exact ⟨z, y, xs, Paired.mapP r fun p q z => ⟨z.1, ht _ _ z.2.1, z.2.2⟩, ob, es, ep, k _ _ (.inl rfl) e, c⟩
  | set S n => obtain ⟨ob, es, ep, t, e, c⟩ := x; exact ⟨ob, es, ep, t, k _ _ (.inl rfl) e, c⟩
  | ins C dx fs =>
    obtain ⟨d, z, ne, e, mA, ⟨od, es, ep, e2, c⟩, r⟩ := x
    exact ⟨ho _ d, z, ne, k _ _ (.inl rfl) e, mA, ⟨od, es, ep, k _ _ (.inr d) e2, c⟩, r⟩
  | own y => obtain ⟨ob, e⟩ := x; exact ⟨ob, k _ _ (.inl rfl) e⟩
  | xd fs => obtain ⟨mA, ⟨od, es, ep, e, c⟩, r⟩ := x; exact ⟨mA, ⟨od, es, ep, k _ _ (.inl rfl) e, c⟩, r⟩
  | rng lo hi => obtain ⟨t, u, v, e⟩ := x; exact ⟨t, u, v, k _ _ (.inl rfl) e⟩
  | frz ob u ih => obtain ⟨e, q⟩ := x; exact ⟨k _ _ (.inl rfl) e, ih q⟩
  | tbl ps =>
    have e : h.get? a = some { cls := .none, data := .fields ps } := x
    show h'.get? a = some { cls := .none, data := .fields ps }
    exact k a _ (.inl rfl) e
  | met f y =>
    have e : h.get? a = some (PySem.W.methodObj (.ref f) (.ref y)) := x
    show h'.get? a = some (PySem.W.methodObj (.ref f) (.ref y))
    exact k a _ (.inl rfl) e
  | ext φ => obtain ⟨p, ⟨o, e⟩, st⟩ := x; exact ⟨st _ _ p fun o q => k _ _ (.inl rfl) q, ⟨o, k _ _ (.inl rfl) e⟩, st⟩
theorem HOk.lt (x : HOk P w H h) (e : H a = some o) : a < h.objs.size := (x a o e).lt
theorem HOk.fresh (x : HOk P w H h) (e : h.objs.size ≤ a) : H a = none := by
  cases q : H a with
  | none => rfl
  | some u => exact absurd (Nat.lt_of_lt_of_le (x.lt q) e) (Nat.lt_irrefl _)
theorem HOk.kept (x : HOk P w H h) (k : ∀ b u, h.get? b = some u → h'.get? b = some u) : HOk P w H h' := fun a o e =>
  (x a o e).stay (fun b u _ q => k b u q) (fun _ q => q) fun _ _ q => q
theorem HOk.laid (x : HOk P w H h) (k : ∀ b u, h.get? b = some u → h'.get? b = some u) (hp : h.objs.size ≤ a) (new : ObjOk P w (upd H a o) h' a o) : HOk P w (upd H a o) h' := fun b u e => by
  have hn := x.fresh hp
  by_cases hb : b = a
  · subst hb; rw [upd_same] at e; cases e; exact new
  · rw [upd_ne hb] at e
    exact (x b u e).stay (fun c v _ q => k c v q) (fun c q => by rw [upd_ne (ne_of_none q hn)]; exact q) fun c xs q => by rw [upd_ne (ne_of_none q hn)]; exact q
end
def Rd (H : Hp) (a : Addr) (u : HO) : Prop := H a = some u ∨ ∃ o, H a = some (.frz o u)
theorem Rd.ok {P : Program} {w : World} {H : Hp} {h : Heap} {a : Addr} {u : HO} (r : Rd H a u) (x : HOk P w H h) : ObjOk P w H h a u := by
  rcases r with r | ⟨o, r⟩
  · exact x a u r
  · obtain ⟨_, q⟩ := x a _ r
    exact q
def Mut : Option HO → Prop
  | some (.lst _) => True
  | some (.dK _) => True
  | some (.dT _) => True
  | some (.set _ _) => True
  | some (.ins _ _ _) => True
  | some (.ext _) => True
  | _ => False
section
variable {P : Program} {w : World} {H : Hp} {h h' : Heap} {x e : Addr} {o' : HO}
theorem HOk.write (ok : HOk P w H h) (mu : Mut (H x)) (he : e = x ∨ H e = some (.own x)) (k : ∀ b u, b ≠ e → h.get? b = some u → h'.get? b = some u) (heo : ∃ u, h'.get? e = some u)
    (new : ObjOk P w (upd H x o') h' x o') : HOk P w (upd H x o') h' := fun b u q => by
  have nown : ∀ c y, H c = some (.own y) → c ≠ x := fun c y r z => by subst z; rw [r] at mu; exact mu
  have ntup : ∀ c xs, H c = some (.tup xs) → c ≠ x := fun c xs r z => by subst z; rw [r] at mu; exact mu
  by_cases hb : b = x
  · subst hb; rw [upd_same] at q; cases q; exact new
  · rw [upd_ne hb] at q
    by_cases hbe : b = e
    · have q' : H b = some (.own x) := by
        rcases he with z | z
        · exact absurd (hbe.trans z) hb
        · rw [hbe]; exact z
      rw [q] at q'; cases q'
      obtain ⟨v, hv⟩ := heo
      exact ⟨v, by rw [hbe]; exact hv⟩
    · refine (ok b u q).stay (fun c v hc r => k c v ?_ r) (fun c r => by rw [upd_ne (nown c b r)]; exact r) fun c xs r => by rw [upd_ne (ntup c xs r)]; exact r
      rcases hc with rfl | hc
      · exact hbe
      · rintro rfl
        rcases he with z | z
        · exact nown c b hc z
        · rw [hc] at z; cases z; exact hb rfl
end
structure Un (fs ex : List Addr) (H H' : Hp) (h h' : Heap) : Prop where
  keep : ∀ b o, h.get? b = some o → H b = none → b ∉ fs → b ∉ ex → h'.get? b = some o
  slot : ∀ b o, h.get? b = some o → H b = none → b ∈ fs → b ∉ ex → ∃ sl, h'.get? b = some { o with slots := sl }
  free : ∀ b o, h.get? b = some o → H b = none → b ∉ ex → H' b = none
  there : ∀ b o, h.get? b = some o → b ∉ ex → ∃ o', h'.get? b = some o'
  tups : ∀ b xs, H b = some (.tup xs) → H' b = some (.tup xs)
  frzs : ∀ b o u, H b = some (.frz o u) → H' b = some (.frz o u)
  tbls : ∀ b ps, H b = some (.tbl ps) → ∃ more, H' b = some (.tbl (ps ++ more))
section
variable {fs fs' ex ex' : List Addr} {H H1 H2 : Hp} {h h1 h2 h' : Heap} {a x e : Addr} {o : HO}
theorem Un.any (u : Un fs ex H H1 h h1) {b : Addr} {ob : Obj} (q : h.get? b = some ob) (n : H b = none) (hx : b ∉ ex) : ∃ sl, h1.get? b = some { ob with slots := sl } := by
  by_cases hb : b ∈ fs
  · exact u.slot b ob q n hb hx
  · exact ⟨ob.slots, u.keep b ob q n hb hx⟩
theorem Un.kept (k : ∀ b u, h.get? b = some u → h'.get? b = some u) : Un fs ex H H h h' :=
  ⟨fun b ob q _ _ _ => k b ob q, fun b ob q _ _ _ => ⟨ob.slots, k b ob q⟩, fun _ _ _ n _ => n, fun b ob q _ => ⟨ob, k b ob q⟩, fun _ _ q => q, fun _ _ _ q => q, fun _ ps q => ⟨#[], by rw [q]; simp⟩⟩
theorem Un.refl : Un fs ex H H h h := Un.kept fun _ _ q => q
theorem Un.laid (k : ∀ b u, h.get? b = some u → h'.get? b = some u) (hp : h.objs.size ≤ a) (hn : H a = none) : Un fs ex H (upd H a o) h h' where
  keep := fun b u q _ _ _ => k b u q
  slot := fun b u q _ _ _ => ⟨u.slots, k b u q⟩
  free := fun b u q n _ => by rw [upd_ne (Nat.ne_of_lt (Nat.lt_of_lt_of_le (Heap.lt_size q) hp))]; exact n
  there := fun b u q _ => ⟨u, k b u q⟩
  tups := fun b xs q => by rw [upd_ne (ne_of_none q hn)]; exact q
  frzs := fun b u xs q => by rw [upd_ne (ne_of_none q hn)]; exact q
  tbls := fun b ps q => ⟨#[], by rw [upd_ne (ne_of_none q hn), q]; simp⟩
theorem Un.write (mu : Mut (H x)) (he : e = x ∨ H e = some (.own x)) (k : ∀ b u, b ≠ e → h.get? b = some u → h'.get? b = some u) (heo : ∃ u, h'.get? e = some u) : Un fs ex H (upd H x o) h h' := by
  have hx : ∀ b, H b = none → b ≠ x := fun b n z => by subst z; rw [n] at mu; exact mu
  have hb : ∀ b, H b = none → b ≠ e := fun b n z => by
    subst z
    rcases he with r | r
    · exact hx b n r
    · rw [n] at r; cases r
  have hm : ∀ b u, H b = some u → ¬ Mut (some u) → b ≠ x := fun b u q nm z => by subst z; rw [q] at mu; exact nm mu
  refine ⟨fun b u q n _ _ => k b u (hb b n) q, fun b u q n _ _ => ⟨u.slots, k b u (hb b n) q⟩, fun b u q n _ => by rw [upd_ne (hx b n)]; exact n, fun b u q _ => ?_,
    fun b xs q => by rw [upd_ne (hm b _ q fun z => z)]; exact q, fun b u xs q => by rw [upd_ne (hm b _ q fun z => z)]; exact q, fun b ps q => ⟨#[], by rw [upd_ne (hm b _ q fun z => z), q]; simp⟩⟩
  by_cases hbe : b = e
  · subst hbe; exact heo
  · exact ⟨u, k b u hbe q⟩
end
def trk (h : Heap) (H : Hp) : List Addr := (List.range h.objs.size).filter fun a => (H a).isSome
def hidT (h : Heap) (H : Hp) : Heap := PySem.W.hideAll h (trk h H)
theorem hidT_size (h : Heap) (H : Hp) : (hidT h H).objs.size = h.objs.size := PySem.W.hideAll_size _ _
theorem hidT_get {h : Heap} {H : Hp} {b : Addr} {o : Obj} (e : h.get? b = some o) (n : H b = none) : (hidT h H).get? b = some o :=
  PySem.W.hideAll_get _ e fun hm => by
    have q : (H b).isSome = true := (List.mem_filter.mp hm).2
    rw [n] at q; simp at q
theorem of_hidT {h : Heap} {H : Hp} {b : Addr} {o : Obj} (e : (hidT h H).get? b = some o) : h.get? b = some o ∧ H b = none := by
  have e' : h.get? b = some o := PySem.W.of_hideAll (trk h H) e
  refine ⟨e', ?_⟩
  cases q : H b with
  | none => rfl
  | some x =>
    have hm : b ∈ trk h H := List.mem_filter.mpr ⟨List.mem_range.mpr (Heap.lt_size e'), by simp [q]⟩
    have z : (hidT h H).get? b = none := PySem.W.hideAll_none (trk h H) hm
    rw [z] at e; cases e
def allNews (g h : Heap) (L : Addr) : List (Addr × Obj) := (List.range h.objs.size).filterMap fun a => if a = L ∨ (g.get? a).isSome = true then none else (h.get? a).map fun o => (a, o)
def rest (g h : Heap) (L d : Addr) : List (Addr × Obj) := (allNews g h L).filter fun p => decide (p.1 ≠ d)
end L2
namespace L2
open PySem PySem.Spec PyProof.Rows
structure Mod (K : PySem.W.Frag) (mg : Str → Option Value) (base : Heap) : Prop where
  kin : K.In base
  glob : base.Ns mainGlobals mg
  blt : ∃ mb, base.Ns builtinsNs mb ∧ ∀ x : Str, x ≠ "__name__" → mb x = bootBuiltins x
  nolimit : base.NoLimit
structure Cx where
  prog : Program
  w : World
  K : PySem.W.Frag
  mg : Str → Option Value
  base : Heap
  A : Around
  N : List Str
  s₀ : Shared
  H₀ : Hp
  env : Env
  outer : List Env
  stack : List Env
  ex : List Addr
  fn : Str → Bool
  calm : Bool
  pn : List (Addr × Obj)
  xe : Value → Shared → Prop
def frs (l : List Env) : List Addr := l.filterMap (·.frame)
abbrev Cx.fs (X : Cx) : List Addr := frs X.outer
def Vis (sc : Scope) (x : Str) : Prop := sc.names.lookup x = some .local ∨ sc.names.lookup x = some .cell ∨ sc.names.lookup x = some .free
def Loc (sc : Scope) (x : Str) : Prop := sc.names.lookup x = some .local ∨ sc.names.lookup x = some .cell
def Look (env : Env) (h : Heap) (m : Str → Option Value) (x : Str) (u : Value) : Prop :=
  (env.kindOf x = some .local ∧ m x = some u) ∨ ((env.kindOf x = some .cell ∨ env.kindOf x = some .free) ∧ ∃ c, env.cells.lookup x = some c ∧ h.IsCell c (some u))
structure Cx.Ok (X : Cx) : Prop where
  mod : Mod X.K X.mg X.base
  kind : X.env.scope.kind = .function
  glob : X.env.globals = mainGlobals
  blt : X.env.builtins = builtinsNs
  above : X.s₀.heap.objs.size ≤ X.env.locals
  inj : ∀ x y c, X.env.cells.lookup x = some c → X.env.cells.lookup y = some c → x = y
  has : ∀ x, (X.env.kindOf x = some .cell ∨ X.env.kindOf x = some .free) → ∃ c, X.env.cells.lookup x = some c
  cab : ∀ x c, X.fn x = true → X.env.cells.lookup x = some c → X.s₀.heap.objs.size ≤ c
  hd : X.calm = true → X.A.handled = none
  frames : X.A.frames = some X.stack
  stk : X.stack = X.outer ∨ (X.stack = X.env :: X.outer ∧ X.env.frame = some X.env.locals)
  exf : ∀ b ∈ X.ex, b ≠ X.env.locals ∧ ∀ x c, X.env.cells.lookup x = some c → c ≠ b
  bs : ∀ b o, X.base.get? b = some o → X.s₀.heap.get? b = some o ∧ X.H₀ b = none
  bsz : X.base.objs.size ≤ X.s₀.heap.objs.size
  noex : ∀ b o, X.base.get? b = some o → b ∉ X.ex
  exfs : ∀ b ∈ X.ex, b ∉ X.fs
  funs : X.s₀.heap.FunFrames X.base X.outer
  frf : ∀ b ∈ X.fs, X.H₀ b = none
structure Inv (X : Cx) (pins : List (Addr × Obj)) (σ : List (Option V)) (H : Hp) (s : Shared) : Prop where
  ok : X.Ok
  os : s.os = X.s₀.os
  bare : AllBare s.gens
  base : Un X.fs X.ex X.H₀ H X.s₀.heap s.heap
  loc : ∃ m, s.heap.Ns X.env.locals m ∧ ∀ (i : Nat) (x : Str) (v : V), X.N[i]? = some x → σ[i]? = some (some v) → Vis X.env.scope x → ∃ u, RelV v u ∧ Look X.env s.heap m x u
  cell : ∀ x c, X.env.cells.lookup x = some c → ∃ v, s.heap.IsCell c v
  free : H X.env.locals = none
  freeC : ∀ x c, X.env.cells.lookup x = some c → H c = none
  pin : ∀ p ∈ X.pn ++ pins, s.heap.get? p.1 = some p.2 ∧ H p.1 = none ∧ p.1 ≠ X.env.locals ∧ p.1 ∉ X.fs ∧ ∀ v, p.2.data ≠ .cell v
  hok : HOk X.prog X.w H s.heap
  len : σ.length = X.N.length
section
variable {X : Cx} {pins : List (Addr × Obj)} {σ : List (Option V)} {H H' : Hp} {s : Shared} {h' : Heap}
theorem Cx.Ok.nofr (ok : X.Ok) {b : Addr} {o : Obj} (e : X.base.get? b = some o) : b ∉ X.fs := fun hb => by
  have := (ok.funs.mem hb).1
  rw [e] at this; cases this
theorem Inv.bs (I : Inv X pins σ H s) : ∀ b o, X.base.get? b = some o → s.heap.get? b = some o ∧ H b = none := fun b o e =>
  ⟨I.base.keep b o (I.ok.bs b o e).1 (I.ok.bs b o e).2 (I.ok.nofr e) (I.ok.noex b o e), I.base.free b o (I.ok.bs b o e).1 (I.ok.bs b o e).2 (I.ok.noex b o e)⟩
theorem Inv.bk (I : Inv X pins σ H s) : ∀ b o, X.base.get? b = some o → s.heap.get? b = some o := fun b o e => (I.bs b o e).1
theorem Inv.mod (I : Inv X pins σ H s) : Mod X.K X.mg X.base := I.ok.mod
theorem Inv.kIn (I : Inv X pins σ H s) : X.K.In s.heap := I.ok.mod.kin.keeps I.bk
theorem Inv.nolimit (I : Inv X pins σ H s) : s.heap.NoLimit := I.ok.mod.nolimit.keeps I.bk
theorem Inv.fr (I : Inv X pins σ H s) : ∃ m, Fr X.base X.env.locals s.heap m :=
  let ⟨m, hn, _⟩ := I.loc
  ⟨m, hn, I.bk, Nat.le_trans I.ok.bsz I.ok.above⟩
theorem Inv.lt (I : Inv X pins σ H s) : X.env.locals < s.heap.objs.size := let ⟨_, hn, _⟩ := I.loc; hn.lt
theorem Inv.sz (I : Inv X pins σ H s) : X.s₀.heap.objs.size ≤ s.heap.objs.size := Nat.le_trans I.ok.above (Nat.le_of_lt I.lt)
theorem Inv.nofs (I : Inv X pins σ H s) {a : Addr} (h : s.heap.objs.size ≤ a) : a ∉ X.fs := fun hb => by
  obtain ⟨_, o, ho, _⟩ := I.ok.funs.mem hb
  exact absurd (Nat.lt_of_lt_of_le (Heap.lt_size ho) (Nat.le_trans I.sz h)) (Nat.lt_irrefl _)
theorem Inv.cne (I : Inv X pins σ H s) : ∀ x c, X.env.cells.lookup x = some c → c ≠ X.env.locals := fun x c e z => by
  obtain ⟨v, o, ho, hd⟩ := I.cell x c e
  obtain ⟨m, ⟨o', es, ep, ho', hd', _⟩, _⟩ := I.loc
  rw [z, ho'] at ho; cases ho; rw [hd'] at hd; cases hd
theorem Inv.funs (I : Inv X pins σ H s) : s.heap.FunFrames X.base X.outer := by
  have all : ∀ (l : List Env), (∀ b ∈ frs l, b ∈ X.fs) → X.s₀.heap.FunFrames X.base l → s.heap.FunFrames X.base l := by
    intro l
    induction l with
    | nil => intro _ _; trivial
    | cons env r ih =>
      intro hs hl
      obtain ⟨hk, ⟨L, o, hf, hn, ho, hd⟩, hr⟩ := hl
      have hL : L ∈ X.fs := hs L (by unfold frs; rw [List.filterMap_cons, hf]; exact List.mem_cons_self)
      obtain ⟨sl, e⟩ := I.base.slot L o ho (I.ok.frf L hL) hL fun z => I.ok.exfs L z hL
      exact ⟨hk, ⟨L, _, hf, hn, e, hd⟩, ih (fun b hb => hs b (by unfold frs; rw [List.filterMap_cons, hf]; exact List.mem_cons_of_mem _ hb)) hr⟩
  exact all X.outer (fun _ hb => hb) I.ok.funs
theorem Inv.stack (I : Inv X pins σ H s) : s.heap.FunFrames X.base X.stack := by
  rcases I.ok.stk with e | ⟨e, hf⟩
  · rw [e]; exact I.funs
  · rw [e]
    obtain ⟨m, hn, _⟩ := I.loc
    refine .cons (by rw [I.ok.kind]; decide) hf hn ?_ I.funs
    exact Heap.get?_none_of_le (Nat.le_trans I.ok.bsz I.ok.above)
theorem Inv.stkSub (I : Inv X pins σ H s) : ∀ b ∈ frs X.stack, b ∈ X.env.locals :: X.fs := fun b hb => by
  rcases I.ok.stk with e | ⟨e, hf⟩
  · rw [e] at hb; exact List.mem_cons_of_mem _ hb
  · rw [e] at hb
    unfold frs at hb
    rw [List.filterMap_cons, hf] at hb
    exact hb
theorem Inv.stkFree (I : Inv X pins σ H s) : ∀ b ∈ frs X.stack, H b = none := fun b hb => by
  rcases List.mem_cons.mp (I.stkSub b hb) with e | hb
  · rw [e]; exact I.free
  · obtain ⟨_, o, ho, _⟩ := I.ok.funs.mem hb
    exact I.base.free b o ho (I.ok.frf b hb) fun z => I.ok.exfs b z hb
theorem Inv.step {g' : Array GenState} {t' : Nat} {d' : Drawn} {ch : List Addr} (I : Inv X pins σ H s)
    (hch : ∀ b ∈ ch, (b ∈ X.ex ∨ X.s₀.heap.objs.size ≤ b) ∧ b ≠ X.env.locals ∧ (∀ x c, X.env.cells.lookup x = some c → c ≠ b) ∧ ∀ p ∈ X.pn ++ pins, p.1 ≠ b)
    (keep : ∀ b o, b ≠ X.env.locals → b ∉ X.fs → b ∉ ch → s.heap.get? b = some o → H b = none → h'.get? b = some o)
    (slot : ∀ b o, b ≠ X.env.locals → b ∈ X.fs → b ∉ ch → s.heap.get? b = some o → H b = none → ∃ sl, h'.get? b = some { o with slots := sl }) (free : ∀ b o, b ∉ ch → s.heap.get? b = some o → H b = none → H' b = none)
    (there : ∀ b o, b ∉ ch → s.heap.get? b = some o → ∃ o', h'.get? b = some o')
    (tups : ∀ b xs, H b = some (.tup xs) → H' b = some (.tup xs)) (frzs : ∀ b o u, H b = some (.frz o u) → H' b = some (.frz o u)) (tbls : ∀ b ps, H b = some (.tbl ps) → ∃ more, H' b = some (.tbl (ps ++ more)))
    (ns : ∀ m, s.heap.Ns X.env.locals m → h'.Ns X.env.locals m) (hok : HOk X.prog X.w H' h') (hg : AllBare g') :
    Inv X pins σ H' { s with heap := h', gens := g', drawn := d', toks := t' } := by
  have neL : ∀ b o, X.s₀.heap.get? b = some o → b ≠ X.env.locals := fun b o e => Nat.ne_of_lt (Nat.lt_of_lt_of_le (Heap.lt_size e) I.ok.above)
  have neC : ∀ b o, X.s₀.heap.get? b = some o → b ∉ X.ex → b ∉ ch := fun b o e hx hb => by
    rcases (hch b hb).1 with z | z
    · exact hx z
    · exact absurd (Nat.lt_of_lt_of_le (Heap.lt_size e) z) (Nat.lt_irrefl _)
  have cellK : ∀ x c, X.env.cells.lookup x = some c → ∀ v, s.heap.IsCell c v → h'.IsCell c v := fun x c e v ⟨o, ho, hd⟩ => by
    have nch : c ∉ ch := fun z => (hch c z).2.2.1 x c e rfl
    by_cases hc : c ∈ X.fs
    · obtain ⟨sl, q⟩ := slot c o (I.cne x c e) hc nch ho (I.freeC x c e)
      exact ⟨_, q, hd⟩
    · exact ⟨o, keep c o (I.cne x c e) hc nch ho (I.freeC x c e), hd⟩
  refine ⟨I.ok, I.os, hg, ⟨fun b o e n hb hx => ?_, fun b o e n hb hx => ?_, fun b o e n hx => ?_, fun b o e hx => ?_, fun b xs e => tups b xs (I.base.tups b xs e), fun b o xs e => frzs b o xs (I.base.frzs b o xs e), fun b ps e => ?_⟩, ?_, fun x c e => ?_, ?_, fun x c e => ?_, fun p hp => ?_, hok, I.len⟩
  · exact keep b o (neL b o e) hb (neC b o e hx) (I.base.keep b o e n hb hx) (I.base.free b o e n hx)
  · obtain ⟨sl, e1⟩ := I.base.slot b o e n hb hx
    obtain ⟨sl', e2⟩ := slot b _ (neL b o e) hb (neC b o e hx) e1 (I.base.free b o e n hx)
    exact ⟨sl', e2⟩
  · obtain ⟨o', e1⟩ := I.base.there b o e hx
    exact free b o' (neC b o e hx) e1 (I.base.free b o e n hx)
  · obtain ⟨o', e1⟩ := I.base.there b o e hx
    exact there b o' (neC b o e hx) e1
  · obtain ⟨m1, e1⟩ := I.base.tbls b ps e
    obtain ⟨m2, e2⟩ := tbls b _ e1
    exact ⟨m1 ++ m2, by rw [e2, Array.append_assoc]⟩
  · obtain ⟨m, hn, hl⟩ := I.loc
    refine ⟨m, ns m hn, fun i x v e1 e2 e3 => ?_⟩
    obtain ⟨u, r, l⟩ := hl i x v e1 e2 e3
    refine ⟨u, r, ?_⟩
    rcases l with l | ⟨k, c, e, z⟩
    · exact .inl l
    · exact .inr ⟨k, c, e, cellK x c e _ z⟩
  · obtain ⟨v, z⟩ := I.cell x c e
    exact ⟨v, cellK x c e v z⟩
  · obtain ⟨m, ⟨o, _, _, ho, _⟩, _⟩ := I.loc
    exact free _ o (fun z => (hch _ z).2.1 rfl) ho I.free
  · obtain ⟨v, o, ho, hd⟩ := I.cell x c e
    exact free c o (fun z => (hch c z).2.2.1 x c e rfl) ho (I.freeC x c e)
  · obtain ⟨e, n, ne, nf, d⟩ := I.pin p hp
    have nch : p.1 ∉ ch := fun z => (hch p.1 z).2.2.2 p hp rfl
    exact ⟨keep p.1 p.2 ne nf nch e n, free p.1 p.2 nch e n, ne, nf, d⟩
theorem Inv.un {t' : Nat} (I : Inv X pins σ H s) (u : Un X.fs [] H H' s.heap h') (hok : HOk X.prog X.w H' h') : Inv X pins σ H' { s with heap := h', toks := t' } := by
  obtain ⟨m, ⟨o, es, ep, ho, r⟩, _⟩ := id I.loc
  obtain ⟨sl, hL⟩ := u.any ho I.free (by simp)
  exact I.step (g' := s.gens) (d' := s.drawn) (ch := []) (fun _ z => nomatch z) (fun b o _ hb _ e n => u.keep b o e n hb (by simp)) (fun b o _ hb _ e n => u.slot b o e n hb (by simp)) (fun b o _ e n => u.free b o e n (by simp)) (fun b o _ e => u.there b o e (by simp)) u.tups u.frzs u.tbls (fun m' hm => by
    obtain ⟨o', es', ep', ho', r'⟩ := hm
    rw [ho] at ho'; cases ho'
    exact ⟨_, es', ep', hL, r'⟩) hok I.bare
theorem Inv.call {g' : Array GenState} {t' : Nat} {d' : Drawn} {ch : List Addr} (I : Inv X pins σ H s) (u : Un (frs X.stack) ch H H' s.heap h') (hok : HOk X.prog X.w H' h') (hg : AllBare g')
    (hch : ∀ b ∈ ch, (b ∈ X.ex ∨ X.s₀.heap.objs.size ≤ b) ∧ b ≠ X.env.locals ∧ (∀ x c, X.env.cells.lookup x = some c → c ≠ b) ∧ ∀ p ∈ X.pn ++ pins, p.1 ≠ b) :
    Inv X pins σ H' { s with heap := h', gens := g', drawn := d', toks := t' } := by
  obtain ⟨m, ⟨o, es, ep, ho, r⟩, _⟩ := id I.loc
  obtain ⟨sl, hL⟩ := u.any ho I.free fun z => (hch _ z).2.1 rfl
  exact I.step (ch := ch) hch (fun b o hL hb hc e n => u.keep b o e n (fun z => (List.mem_cons.mp (I.stkSub b z)).elim hL hb) hc) (fun b o _ _ hc e n => u.any e n hc) (fun b o hc e n => u.free b o e n hc) (fun b o hc e => u.there b o e hc) u.tups u.frzs u.tbls (fun m' hm => by
    obtain ⟨o', es', ep', ho', r'⟩ := hm
    rw [ho] at ho'; cases ho'
    exact ⟨_, es', ep', hL, r'⟩) hok hg
theorem Inv.turned {t' : Nat} {it : Addr} (I : Inv X pins σ H s) (k : ∀ b o, b ≠ it → s.heap.get? b = some o → h'.get? b = some o) (hn : H it = none) (hL : it ≠ X.env.locals)
    (h1 : it ∈ X.ex ∨ X.s₀.heap.objs.size ≤ it) (h2 : ∀ x c, X.env.cells.lookup x = some c → c ≠ it) (h3 : ∀ p ∈ X.pn ++ pins, p.1 ≠ it) : Inv X pins σ H { s with heap := h', toks := t' } := by
  have nit : ∀ b u, H b = some u → b ≠ it := fun b u e z => by rw [z, hn] at e; cases e
  refine I.step (g' := s.gens) (d' := s.drawn) (ch := [it]) (fun b hb => ?_) (fun b o _ _ hc e _ => k b o (fun z => hc (by simp [z])) e) (fun b o _ _ hc e _ => ⟨o.slots, k b o (fun z => hc (by simp [z])) e⟩) (fun _ _ _ _ n => n)
    (fun b o hc e => ⟨o, k b o (fun z => hc (by simp [z])) e⟩) (fun _ _ e => e) (fun _ _ _ e => e) (fun b ps e => ⟨#[], by rw [e]; simp⟩) (fun m hm => ?_) (fun b u e => ?_) I.bare
  · have e : b = it := by simpa using hb
    subst e
    exact ⟨h1, hL, h2, h3⟩
  · obtain ⟨o, es, ep, ho, r⟩ := hm
    exact ⟨o, es, ep, k _ o (Ne.symm hL) ho, r⟩
  · refine (I.hok b u e).stay (fun c v hc q => k c v ?_ q) (fun _ q => q) fun _ _ q => q
    rcases hc with z | z
    · rw [z]; exact nit b u e
    · exact nit c _ z
theorem Inv.tok (I : Inv X pins σ H s) (t : Nat) : Inv X pins σ H { s with toks := t } := I.un (h' := s.heap) (t' := t) Un.refl I.hok
theorem Inv.kept {t' : Nat} (I : Inv X pins σ H s) (k : ∀ b u, s.heap.get? b = some u → h'.get? b = some u) : Inv X pins σ H { s with heap := h', toks := t' } := I.un (Un.kept k) (I.hok.kept k)
theorem Inv.laid {a : Addr} {o : HO} {t' : Nat} (I : Inv X pins σ H s) (k : ∀ b u, s.heap.get? b = some u → h'.get? b = some u) (hp : s.heap.objs.size ≤ a) (new : ObjOk X.prog X.w (upd H a o) h' a o) :
    Inv X pins σ (upd H a o) { s with heap := h', toks := t' } := I.un (Un.laid k hp (I.hok.fresh hp)) (I.hok.laid k hp new)
theorem Inv.write {x e : Addr} {o : HO} {t' : Nat} (I : Inv X pins σ H s) (mu : Mut (H x)) (he : e = x ∨ H e = some (.own x)) (k : ∀ b u, b ≠ e → s.heap.get? b = some u → h'.get? b = some u) (heo : ∃ u, h'.get? e = some u)
    (new : ObjOk X.prog X.w (upd H x o) h' x o) : Inv X pins σ (upd H x o) { s with heap := h', toks := t' } := I.un (Un.write mu he k heo) (I.hok.write mu he k heo new)
theorem Inv.pins_of {pins' : List (Addr × Obj)} (I : Inv X pins σ H s) (h : ∀ p ∈ pins', s.heap.get? p.1 = some p.2 ∧ H p.1 = none ∧ p.1 ≠ X.env.locals ∧ p.1 ∉ X.fs ∧ ∀ v, p.2.data ≠ .cell v) : Inv X pins' σ H s :=
  ⟨I.ok, I.os, I.bare, I.base, I.loc, I.cell, I.free, I.freeC, fun p hp => (List.mem_append.mp hp).elim (fun z => I.pin p (List.mem_append_left _ z)) (h p), I.hok, I.len⟩
theorem nodup_ix {N : List Str} (hN : N.Nodup) {i j : Nat} {x : Str} (a : N[i]? = some x) (b : N[j]? = some x) : i = j := by
  obtain ⟨h1, e1⟩ := List.getElem?_eq_some_iff.mp a
  obtain ⟨h2, e2⟩ := List.getElem?_eq_some_iff.mp b
  exact (List.getElem_inj hN).mp (e1.trans e2.symm)
theorem store_ok2 {M : Model} {A : Around} {E : Value → Shared → Prop} {i : Nat} {x : Str} {v : V} {u : Value} {Q : Unit → Shared → Prop} (I : Inv X pins σ H s) (hN : X.N.Nodup) (hi : X.N[i]? = some x) (hx : Loc X.env.scope x) (r : RelV v u)
    (h : ∀ s', Inv X pins (σ.set i (some v)) H s' → (∃ a, Heap.SameBut a s.heap s'.heap ∧ (a = X.env.locals ∨ X.env.cells.lookup x = some a)) → Q () s') (hf : X.fn x = true ∨ X.env.scope.names.lookup x = some .local := by first | exact .inl rfl | exact .inr rfl | assumption) : wpAny M A (storeName X.env x u) Q E s := by
  obtain ⟨m, hn, hl⟩ := id I.loc
  have hcls : (X.env.scope.kind == .class || (X.env.scope.kind == .module && X.env.locals != X.env.globals)) = false := by rw [I.ok.kind]; rfl
  have hiσ : i < σ.length := by rw [I.len]; exact (List.getElem?_eq_some_iff.mp hi).1
  have cne := I.cne
  have tracked : ∀ {a : Addr} {h' : Heap}, (∃ o, s.heap.get? a = some o ∧ H a = none) → Heap.SameBut a s.heap h' → HOk X.prog X.w H h' := fun {a h'} ha hs b ob e => by
    obtain ⟨_, _, hfree⟩ := ha
    refine (I.hok b ob e).stay (fun c w' hc q => (hs.2 c ?_).trans q) (fun _ q => q) fun _ _ q => q
    rintro rfl
    rcases hc with rfl | hc
    · rw [hfree] at e; cases e
    · rw [hfree] at hc; cases hc
  rcases hx with hk | hk
  · refine wpAny_storeName_local hk hn (fun h' hn' hs => ?_) hcls
    obtain ⟨oL, _, _, hoL, _⟩ := id hn
    refine h _ ⟨I.ok, I.os, I.bare, ⟨fun b o e n hb hx => ?_, fun b o e n hb hx => ?_, I.base.free, fun b o e hx => ?_, I.base.tups, I.base.frzs, I.base.tbls⟩, ⟨_, hn', fun j y v' e1 e2 e3 => ?_⟩, fun y c e => ?_, I.free, I.freeC, fun p hp => ?_, tracked ⟨oL, hoL, I.free⟩ hs, by simpa using I.len⟩ ⟨_, hs, .inl rfl⟩
    · exact (hs.2 b (Nat.ne_of_lt (Nat.lt_of_lt_of_le (Heap.lt_size e) I.ok.above))).trans (I.base.keep b o e n hb hx)
    · obtain ⟨sl, e1⟩ := I.base.slot b o e n hb hx
      exact ⟨sl, (hs.2 b (Nat.ne_of_lt (Nat.lt_of_lt_of_le (Heap.lt_size e) I.ok.above))).trans e1⟩
    · obtain ⟨o', e1⟩ := I.base.there b o e hx
      exact ⟨o', (hs.2 b (Nat.ne_of_lt (Nat.lt_of_lt_of_le (Heap.lt_size e) I.ok.above))).trans e1⟩
    · by_cases hj : j = i
      · subst hj
        rw [hi] at e1; cases e1
        rw [List.getElem?_set_self hiσ] at e2
        cases e2
        exact ⟨u, r, .inl ⟨hk, by simp⟩⟩
      · rw [List.getElem?_set_ne (Ne.symm hj)] at e2
        obtain ⟨u', r', q⟩ := hl j y v' e1 e2 e3
        refine ⟨u', r', ?_⟩
        rcases q with ⟨k, e⟩ | ⟨k, c, e, z⟩
        · refine .inl ⟨k, ?_⟩
          have : y ≠ x := fun e => hj (nodup_ix hN e1 (e ▸ hi))
          simp [this, e]
        · exact .inr ⟨k, c, e, z.sameBut hs (cne y c e)⟩
    · obtain ⟨w', z⟩ := I.cell y c e
      exact ⟨w', z.sameBut hs (cne y c e)⟩
    · obtain ⟨e, n, ne, nf, d⟩ := I.pin p hp
      exact ⟨(hs.2 p.1 ne).trans e, n, ne, nf, d⟩
  · have hfn : X.fn x = true := by
      rcases hf with z | z
      · exact z
      · rw [z] at hk; cases hk
    obtain ⟨c, hc⟩ := I.ok.has x (.inl hk)
    obtain ⟨w', z⟩ := I.cell x c hc
    refine wpAny_storeName_cell I.ok.kind hk hc z (fun h' hc' hs => ?_)
    obtain ⟨oc, hoc, hocd⟩ := id z
    refine h { s with heap := h' } ⟨I.ok, I.os, I.bare, ⟨fun b o e n hb hx => ?_, fun b o e n hb hx => ?_, I.base.free, fun b o e hx => ?_, I.base.tups, I.base.frzs, I.base.tbls⟩, ⟨m, hn.sameBut hs (Ne.symm (cne x c hc)), fun j y v' e1 e2 e3 => ?_⟩, fun y c' e => ?_, I.free, I.freeC, fun p hp => ?_, tracked ⟨oc, hoc, I.freeC x c hc⟩ hs, by simpa using I.len⟩ ⟨c, hs, .inr hc⟩
    · exact (hs.2 b (Nat.ne_of_lt (Nat.lt_of_lt_of_le (Heap.lt_size e) (I.ok.cab x c hfn hc)))).trans (I.base.keep b o e n hb hx)
    · obtain ⟨sl, e1⟩ := I.base.slot b o e n hb hx
      exact ⟨sl, (hs.2 b (Nat.ne_of_lt (Nat.lt_of_lt_of_le (Heap.lt_size e) (I.ok.cab x c hfn hc)))).trans e1⟩
    · obtain ⟨o', e1⟩ := I.base.there b o e hx
      exact ⟨o', (hs.2 b (Nat.ne_of_lt (Nat.lt_of_lt_of_le (Heap.lt_size e) (I.ok.cab x c hfn hc)))).trans e1⟩
    · by_cases hj : j = i
      · subst hj
        rw [hi] at e1; cases e1
        rw [List.getElem?_set_self hiσ] at e2
        cases e2
        exact ⟨u, r, .inr ⟨.inl hk, c, hc, hc'⟩⟩
      · rw [List.getElem?_set_ne (Ne.symm hj)] at e2
        obtain ⟨u', r', q⟩ := hl j y v' e1 e2 e3
        refine ⟨u', r', ?_⟩
        rcases q with q | ⟨k, c', e, z'⟩
        · exact .inl q
        · refine .inr ⟨k, c', e, z'.sameBut hs ?_⟩
          rintro rfl
          exact hj (nodup_ix hN e1 (I.ok.inj _ _ _ e hc ▸ hi))
    · by_cases hcc : c' = c
      · subst hcc; exact ⟨_, hc'⟩
      · obtain ⟨w2, z2⟩ := I.cell y c' e
        exact ⟨w2, z2.sameBut hs hcc⟩
    · obtain ⟨e, n, ne, nf, d⟩ := I.pin p hp
      refine ⟨(hs.2 p.1 ?_).trans e, n, ne, nf, d⟩
      intro q
      rw [q, hoc] at e
      have q' : oc = p.2 := Option.some.inj e
      exact d w' (by rw [← q']; exact hocd)
theorem store_ok {M : Model} {A : Around} {E : Value → Shared → Prop} {i : Nat} {x : Str} {v : V} {u : Value} {Q : Unit → Shared → Prop} (I : Inv X pins σ H s) (hN : X.N.Nodup) (hi : X.N[i]? = some x) (hx : Loc X.env.scope x) (r : RelV v u)
    (h : ∀ s', Inv X pins (σ.set i (some v)) H s' → Q () s') (hf : X.fn x = true ∨ X.env.scope.names.lookup x = some .local := by first | exact .inl rfl | exact .inr rfl | assumption) : wpAny M A (storeName X.env x u) Q E s :=
  store_ok2 I hN hi hx r (fun s' I' _ => h s' I') hf
theorem Inv.call' {s' : Shared} {ch : List Addr} (I : Inv X pins σ H s) (ho : s'.os = s.os) (u : Un (frs X.stack) ch H H' s.heap s'.heap) (hok : HOk X.prog X.w H' s'.heap) (hg : AllBare s'.gens)
    (hch : ∀ b ∈ ch, (b ∈ X.ex ∨ X.s₀.heap.objs.size ≤ b) ∧ b ≠ X.env.locals ∧ (∀ x c, X.env.cells.lookup x = some c → c ≠ b) ∧ ∀ p ∈ X.pn ++ pins, p.1 ≠ b) : Inv X pins σ H' s' := by
  obtain ⟨h', g', d', t', o'⟩ := s'
  have e : o' = s.os := ho
  subst e
  exact I.call (g' := g') (t' := t') (d' := d') u hok hg hch
end
abbrev XK := Value → Option Addr → Hp → Prop
abbrev St := List (Option V)
abbrev VK := V → Hp → Prop
abbrev TE := St → Hp → VK → Prop
abbrev TT := St → Hp → (Bool → Hp → Prop) → Prop
abbrev TA := St → Hp → (List V → Hp → Prop) → Prop
structure Ends where
  nx : St → Hp → Prop
  rt : VK
  bk : St → Hp → Prop := fun _ _ => False
  ct : St → Hp → Prop := fun _ _ => False
abbrev TS := Ends → St → Hp → Prop
def EP (X : Cx) (pins : List (Addr × Obj)) (σ : St) (Q : VK) (u : Value) (s' : Shared) : Prop := ∃ v H', Inv X pins σ H' s' ∧ RelV v u ∧ Q v H'
def TP (X : Cx) (pins : List (Addr × Obj)) (σ : St) (Q : Bool → Hp → Prop) (b : Bool) (s' : Shared) : Prop := ∃ H', Inv X pins σ H' s' ∧ Q b H'
def AP (X : Cx) (pins : List (Addr × Obj)) (σ : St) (Q : List V → Hp → Prop) (us : List Value) (s' : Shared) : Prop := ∃ vs H', Inv X pins σ H' s' ∧ Vals vs us ∧ Q vs H'
def SP (X : Cx) (pins : List (Addr × Obj)) (D : Ends) (f : Flow) (s' : Shared) : Prop :=
  match f with
  | .next => ∃ σ' H', Inv X pins σ' H' s' ∧ D.nx σ' H'
  | .brk => ∃ σ' H', Inv X pins σ' H' s' ∧ D.bk σ' H'
  | .cont => ∃ σ' H', Inv X pins σ' H' s' ∧ D.ct σ' H'
  | .ret u => ∃ v σ' H', Inv X pins σ' H' s' ∧ RelV v u ∧ D.rt v H'
def PE (X : Cx) (e : Expr) (t : TE) : Prop :=
  ∀ (pins : List (Addr × Obj)) (s : Shared) (σ : St) (H : Hp) (Q : VK), Inv X pins σ H s → t σ H Q → wpAny (model X.prog X.w) X.A (eval e X.env) (EP X pins σ Q) X.xe s
def PT (X : Cx) (e : Expr) (t : TT) : Prop :=
  ∀ (pins : List (Addr × Obj)) (s : Shared) (σ : St) (H : Hp) (Q : Bool → Hp → Prop), Inv X pins σ H s → t σ H Q → wpAny (model X.prog X.w) X.A (isTrue e X.env (eval e X.env)) (TP X pins σ Q) X.xe s
def PW (X : Cx) (e : Expr) (t : TT) : Prop :=
  ∀ (whole : Sem Value) (pins : List (Addr × Obj)) (s : Shared) (σ : St) (H : Hp) (Q : Bool → Hp → Prop), Inv X pins σ H s → t σ H Q → wpAny (model X.prog X.w) X.A (isTrue e X.env whole) (TP X pins σ Q) X.xe s
theorem PW.pt {X : Cx} {e : Expr} {t : TT} (h : PW X e t) : PT X e t := h _
def PA (X : Cx) (es : List Expr) (t : TA) : Prop :=
  ∀ (pos : Pos) (pins : List (Addr × Obj)) (s : Shared) (σ : St) (H : Hp) (Q : List V → Hp → Prop), Inv X pins σ H s → t σ H Q → wpAny (model X.prog X.w) X.A (spliced (backTo pos (starEach es X.env))) (AP X pins σ Q) X.xe s
def PS (X : Cx) (st : Stmt) (t : TS) : Prop :=
  ∀ (pins : List (Addr × Obj)) (s : Shared) (σ : St) (H : Hp) (D : Ends), Inv X pins σ H s → t D σ H → wpAny (model X.prog X.w) X.A (exec st X.env) (SP X pins D) X.xe s
def PSs (X : Cx) (st : List Stmt) (t : TS) : Prop :=
  ∀ (pins : List (Addr × Obj)) (s : Shared) (σ : St) (H : Hp) (D : Ends), Inv X pins σ H s → t D σ H → wpAny (model X.prog X.w) X.A (execs st X.env) (SP X pins D) X.xe s
theorem thn {α : Type} {t : Sem α} {Q Q' : α → Shared → Prop} {M : Model} {A : Around} {E : Value → Shared → Prop} {s : Shared} (h : wpAny M A t Q E s) (hQ : ∀ a s, Q a s → Q' a s) : wpAny M A t Q' E s := wpAny_mono h hQ fun _ _ x => x
end L2
namespace L2
open PySem PySem.Spec PyProof.Rows
section
variable {X : Cx}
theorem bin {a b : Expr} {ta tb : TE} (ha : PE X a ta) (hb : PE X b tb) {pins : List (Addr × Obj)} {s : Shared} {σ : St} {H : Hp} {R : V → V → Hp → Prop} (I : Inv X pins σ H s) (h : ta σ H fun x H1 => tb σ H1 fun y H2 => R x y H2)
    {α : Type} {Q : α → Shared → Prop} {f : Value → Value → Sem α}
    (hf : ∀ v u s2 x y H2, Inv X pins σ H2 s2 → RelV x v → RelV y u → R x y H2 → wpAny (model X.prog X.w) X.A (f v u) Q X.xe s2) :
    wpAny (model X.prog X.w) X.A (eval a X.env) (fun v s₁ => wpAny (model X.prog X.w) X.A (eval b X.env) (fun u s₂ => wpAny (model X.prog X.w) X.A (f v u) Q X.xe s₂) X.xe s₁) X.xe s := by
  refine thn (ha pins s σ H _ I h) fun v s1 ⟨x, H1, I1, r1, q1⟩ => ?_
  refine thn (hb pins s1 σ H1 _ I1 q1) fun u s2 ⟨y, H2, I2, r2, q2⟩ => ?_
  exact hf v u s2 x y H2 I2 r1 r2 q2
def tVar (i : Nat) : TE := fun σ H Q => ∃ v, σ[i]? = some (some v) ∧ Q v H
def tC (v : V) : TE := fun _ H Q => Q v H
theorem pe_var {i : Nat} {x : Str} {pos : Pos} (hN : X.N[i]? = some x) (hv : Vis X.env.scope x) (hd : (x == ("__debug__" : Str)) = false := by decide) (hcd : (x == ("__classdict__" : Str)) = false := by decide) : PE X (.Name x pos) (tVar i) := by
  intro pins s σ H Q I h
  obtain ⟨v, e, h⟩ := h
  obtain ⟨m, hn, hl⟩ := I.loc
  obtain ⟨u, r, l⟩ := hl i x v hN e hv
  have fin : EP X pins σ Q u s := ⟨v, H, I, r, h⟩
  rcases l with ⟨hk, hm⟩ | ⟨hk, c, hc, hcell⟩
  · exact wpAny_Name (wpAny_loadName_local I.ok.kind hk hn hm fin) hd
  · rcases hk with hk | hk
    · exact wpAny_Name (wpAny_loadName_cell I.ok.kind hk hc hcell fin) hd
    · exact wpAny_Name (wpAny_loadName_free I.ok.kind hk hc hcell fin hcd) hd
theorem pe_int {i j pos} : PE X (.Constant (.int i) j pos) (tC (.int i)) := fun _ _ _ H _ I h => wpAny_Constant_int ⟨.int i, H, I.tok _, ⟨_, rfl⟩, h⟩
theorem pe_bl {b j pos} : PE X (.Constant (.bool b) j pos) (tC (.bl b)) := fun _ _ _ H _ I h => Constant_bool ⟨.bl b, H, I, rfl, h⟩
theorem pe_str {x j pos} : PE X (.Constant (.str x) j pos) (tC (.str x)) := fun _ _ _ H _ I h => Calls.Constant_str ⟨.str x, H, I.tok _, ⟨_, rfl⟩, h⟩
def Gl (X : Cx) (x : Str) : Prop := X.env.kindOf x = some .globalImplicit
theorem ld_glob {E : Value → Shared → Prop} {pins : List (Addr × Obj)} {s : Shared} {σ : St} {H : Hp} {x : Str} {u : Value} {pos : Pos} {Q : Value → Shared → Prop} (I : Inv X pins σ H s) (hg : Gl X x) (hm : X.mg x = some u) (h : Q u s)
    (hd : (x == ("__debug__" : Str)) = false := by decide) : wpAny (model X.prog X.w) X.A (eval (.Name x pos) X.env) Q E s :=
  Calls.Name_function_global I.ok.kind hg (Calls.loadGlobal_global (by rw [I.ok.glob]; exact I.mod.glob.keeps I.bk) hm h) hd
theorem ld_blt {E : Value → Shared → Prop} {pins : List (Addr × Obj)} {s : Shared} {σ : St} {H : Hp} {x : Str} {u : Value} {pos : Pos} {Q : Value → Shared → Prop} (I : Inv X pins σ H s) (hg : Gl X x) (hm : X.mg x = none) (hv : bootBuiltins x = some u) (h : Q u s)
    (hn : x ≠ "__name__" := by decide) (hd : (x == ("__debug__" : Str)) = false := by decide) : wpAny (model X.prog X.w) X.A (eval (.Name x pos) X.env) Q E s := by
  obtain ⟨mb, h1, h2⟩ := I.mod.blt
  exact Calls.Name_function_global I.ok.kind hg (Calls.loadGlobal_builtin (by rw [I.ok.glob]; exact I.mod.glob.keeps I.bk) hm (by rw [I.ok.blt]; exact h1.keeps I.bk) ((h2 x hn).trans hv) h) hd
theorem pe_glob {x : Str} {v : V} {u : Value} {pos : Pos} (hg : Gl X x) (hm : X.mg x = some u) (r : RelV v u) (hd : (x == ("__debug__" : Str)) = false := by decide) : PE X (.Name x pos) (tC v) :=
  fun _ _ _ H _ I h => ld_glob I hg hm ⟨v, H, I, r, h⟩ hd
theorem pe_bltn {x : Str} {v : V} {u : Value} {pos : Pos} (hg : Gl X x) (hm : X.mg x = none) (hv : bootBuiltins x = some u) (r : RelV v u) (hn : x ≠ "__name__" := by decide) (hd : (x == ("__debug__" : Str)) = false := by decide) : PE X (.Name x pos) (tC v) :=
  fun _ _ _ H _ I h => ld_blt I hg hm hv ⟨v, H, I, r, h⟩ hn hd
variable {a b : Expr} {ta tb : TE} {pos : Pos}
variable {tA tB' : TT} {rest : List Expr}
def tAnd (t u : TT) : TT := fun σ H Q => t σ H fun c H1 => if c = true then u σ H1 Q else Q false H1
def tOr (t u : TT) : TT := fun σ H Q => t σ H fun c H1 => if c = true then Q true H1 else u σ H1 Q
def tNot (t : TT) : TT := fun σ H Q => t σ H fun c H1 => Q (!c) H1
theorem pw_and1 (ha : PT X a tA) : PW X (.BoolOp .And [a] pos) tA := by
  intro wh pins s σ H Q I h
  refine isTrue_and (thn (ha pins s σ H Q I h) fun c s1 e => ?_)
  cases c with
  | true => exact isTrue_and_nil e
  | false => exact e
theorem pw_or1 (ha : PT X a tA) : PW X (.BoolOp .Or [a] pos) tA := by
  intro wh pins s σ H Q I h
  refine isTrue_or (thn (ha pins s σ H Q I h) fun c s1 e => ?_)
  cases c with
  | false => exact isTrue_or_nil e
  | true => exact e
theorem pw_and (ha : PT X a tA) (hb : PW X (.BoolOp .And (b :: rest) pos) tB') : PW X (.BoolOp .And (a :: b :: rest) pos) (tAnd tA tB') := by
  intro wh pins s σ H Q I h
  refine isTrue_and (thn (ha pins s σ H _ I h) fun c s1 ⟨H1, I1, q1⟩ => ?_)
  cases c with
  | true => exact hb wh pins s1 σ H1 Q I1 q1
  | false => exact ⟨H1, I1, q1⟩
theorem pw_or (ha : PT X a tA) (hb : PW X (.BoolOp .Or (b :: rest) pos) tB') : PW X (.BoolOp .Or (a :: b :: rest) pos) (tOr tA tB') := by
  intro wh pins s σ H Q I h
  refine isTrue_or (thn (ha pins s σ H _ I h) fun c s1 ⟨H1, I1, q1⟩ => ?_)
  cases c with
  | true => exact ⟨H1, I1, q1⟩
  | false => exact hb wh pins s1 σ H1 Q I1 q1
theorem pt_not (ha : PT X a tA) : PT X (.UnaryOp .Not a pos) (tNot tA) := by
  intro pins s σ H Q I h
  exact isTrue_not (ha pins s σ H (fun c H1 => Q (!c) H1) I h)
def tAndV (ta tb : TE) : TE := fun σ H Q => ta σ H fun x H1 => ∃ c, x = .bl c ∧ if c = true then tb σ H1 Q else Q (.bl false) H1
def tOrV (ta tb : TE) : TE := fun σ H Q => ta σ H fun x H1 => ∃ c, x = .bl c ∧ if c = true then Q (.bl true) H1 else tb σ H1 Q
def tNotV (ta : TE) : TE := fun σ H Q => ta σ H fun x H1 => ∃ c, x = .bl c ∧ Q (.bl (!c)) H1
theorem pe_one {op} {t : TE} (h : PE X a t) : PE X (.BoolOp op [a] pos) t := fun pins s σ H Q I hw => BoolOp_one (h pins s σ H Q I hw)
theorem pe_and (ha : PE X a ta) (hb : PE X (.BoolOp .And (b :: rest) pos) tb) : PE X (.BoolOp .And (a :: b :: rest) pos) (tAndV ta tb) := by
  intro pins s σ H Q I h
  refine BoolOp_and (thn (ha pins s σ H _ I h) fun v s1 ⟨x, H1, I1, r1, q1⟩ => ?_)
  obtain ⟨c, rfl, q1⟩ := q1
  cases r1
  refine wpAny_truthy_bool ?_
  cases c with
  | true => exact hb pins s1 σ H1 Q I1 q1
  | false => exact ⟨.bl false, H1, I1, rfl, q1⟩
theorem pe_or (ha : PE X a ta) (hb : PE X (.BoolOp .Or (b :: rest) pos) tb) : PE X (.BoolOp .Or (a :: b :: rest) pos) (tOrV ta tb) := by
  intro pins s σ H Q I h
  refine BoolOp_or (thn (ha pins s σ H _ I h) fun v s1 ⟨x, H1, I1, r1, q1⟩ => ?_)
  obtain ⟨c, rfl, q1⟩ := q1
  cases r1
  refine wpAny_truthy_bool ?_
  cases c with
  | false => exact hb pins s1 σ H1 Q I1 q1
  | true => exact ⟨.bl true, H1, I1, rfl, q1⟩
theorem pe_not (ha : PE X a ta) : PE X (.UnaryOp .Not a pos) (tNotV ta) := by
  intro pins s σ H Q I h
  refine UnaryOp_ (thn (ha pins s σ H _ I h) fun v s1 ⟨x, H1, I1, r1, q1⟩ => ?_)
  obtain ⟨c, rfl, q1⟩ := q1
  cases r1
  exact not_of (wpAny_truthy_bool ⟨.bl (!c), H1, I1, rfl, q1⟩)
end
end L2
namespace L2
open PySem PySem.Spec PyProof.Rows
def SqL (K : PySem.W.Frag) (H : Hp) (a : Addr) (xs : List V) : Prop :=
  Rd H a (.lst xs) ∨
    ∃ (o : Obj) (its : Array Value) (n : Nat), K.lookup a = some o ∧ o.cls = .type "list" ∧ o.dict = none ∧ o.data = .seq its n ∧ its.size ≤ sizeLine ∧ Vals xs its.toList
def SqT (K : PySem.W.Frag) (H : Hp) (a : Addr) (xs : List V) : Prop :=
  Rd H a (.tup xs) ∨
    ∃ (o : Obj) (its : Array Value) (n : Nat), K.lookup a = some o ∧ o.cls = .type "tuple" ∧ o.data = .seq its n ∧ its.size ≤ sizeLine ∧ Vals xs its.toList
def absV : Value → Option V
  | .none => some .non
  | .bool b => some (.bl b)
  | .int i _ => some (.int i)
  | .str x _ => some (.str x)
  | .bytes b _ => some (.byt b)
  | .float b _ => some (.flt b)
  | .ref a => some (.ref a)
  | .type n => some (.ty n)
  | _ => none
theorem RelV.abs {x : V} {u : Value} (r : RelV x u) : absV u = some x := by
  cases x with
  | non => cases r; rfl
  | bl _ => cases r; rfl
  | int _ => obtain ⟨t, rfl⟩ := r; rfl
  | str _ => obtain ⟨t, rfl⟩ := r; rfl
  | byt _ => obtain ⟨t, rfl⟩ := r; rfl
  | flt _ => obtain ⟨t, rfl⟩ := r; rfl
  | ref _ => cases r; rfl
  | ty _ => cases r; rfl
theorem RelV.inj {x y : V} {u : Value} (r : RelV x u) (q : RelV y u) : x = y := Option.some.inj (r.abs.symm.trans q.abs)
theorem Vals.inj : ∀ {xs ys : List V} {us : List Value}, Vals xs us → Vals ys us → xs = ys
  | _, _, _, .nil, .nil => rfl
  | _, _, _, .cons r t, .cons r' t' => by rw [r.inj r', Vals.inj t t']
section
variable {X : Cx} {pins : List (Addr × Obj)} {σ : St} {H : Hp} {s : Shared} {a : Addr} {xs ys : List V}
theorem SqL.of {K : PySem.W.Frag} (h : H a = some (.lst xs)) : SqL K H a xs := .inl (.inl h)
theorem SqT.of {K : PySem.W.Frag} (h : H a = some (.tup xs)) : SqT K H a xs := .inl (.inl h)
theorem Inv.list (I : Inv X pins σ H s) (h : SqL X.K H a xs) : ∃ its : List Value, Vals xs its ∧ PlainL s.heap a its.toArray ∧ xs.length ≤ sizeLine := by
  rcases h with h | ⟨o, its, n, hk, hc, hd, hs, hz, r⟩
  · obtain ⟨z, its, n, r, e⟩ := h.ok I.hok
    exact ⟨its, r, ⟨_, n, e, rfl, rfl, rfl⟩, z⟩
  · refine ⟨its.toList, r, ⟨o, n, I.kIn a o hk, hc, hd, by simpa using hs⟩, ?_⟩
    have e := r.length
    simp only [Array.length_toList] at e
    omega
theorem Inv.tuple (I : Inv X pins σ H s) (h : SqT X.K H a xs) : ∃ its : List Value, Vals xs its ∧ IsTup s.heap a its.toArray ∧ xs.length ≤ sizeLine := by
  rcases h with h | ⟨o, its, n, hk, hc, hs, hz, r⟩
  · obtain ⟨z, its, r, p⟩ := h.ok I.hok
    exact ⟨its, r, p, z⟩
  · refine ⟨its.toList, r, ⟨o, I.kIn a o hk, hc, n, by simpa using hs⟩, ?_⟩
    have e := r.length
    simp only [Array.length_toList] at e
    omega
theorem Inv.list_inj (I : Inv X pins σ H s) (h : SqL X.K H a xs) (h' : SqL X.K H a ys) : xs = ys := by
  obtain ⟨its, r, ⟨o, n, e, _, _, d⟩, _⟩ := I.list h
  obtain ⟨its', r', ⟨o', n', e', _, _, d'⟩, _⟩ := I.list h'
  rw [e] at e'; cases e'
  rw [d] at d'
  injection d' with d1 _
  have : its = its' := by simpa using congrArg Array.toList d1
  subst this
  exact r.inj r'
theorem Inv.tuple_inj (I : Inv X pins σ H s) (h : SqT X.K H a xs) (h' : SqT X.K H a ys) : xs = ys := by
  obtain ⟨its, r, ⟨o, e, _, n, d⟩, _⟩ := I.tuple h
  obtain ⟨its', r', ⟨o', e', _, n', d'⟩, _⟩ := I.tuple h'
  rw [e] at e'; cases e'
  rw [d] at d'
  injection d' with d1 _
  have : its = its' := by simpa using congrArg Array.toList d1
  subst this
  exact r.inj r'
end
abbrev Cx.wish (X : Cx) (E : Value → Shared → Prop) : Cx := { X with xe := E }
abbrev Cx.nox (X : Cx) : Cx := X.wish fun _ _ => False
theorem Cx.Ok.wish {X : Cx} (ok : X.Ok) (E : Value → Shared → Prop) : (X.wish E).Ok :=
  ⟨ok.mod, ok.kind, ok.glob, ok.blt, ok.above, ok.inj, ok.has, ok.cab, ok.hd, ok.frames, ok.stk, ok.exf, ok.bs, ok.bsz, ok.noex, ok.exfs, ok.funs, ok.frf⟩
theorem Cx.Ok.unwish {X : Cx} {E : Value → Shared → Prop} (ok : (X.wish E).Ok) : X.Ok :=
  ⟨ok.mod, ok.kind, ok.glob, ok.blt, ok.above, ok.inj, ok.has, ok.cab, ok.hd, ok.frames, ok.stk, ok.exf, ok.bs, ok.bsz, ok.noex, ok.exfs, ok.funs, ok.frf⟩
section
variable {X : Cx} {pins : List (Addr × Obj)} {σ : St} {H : Hp} {s : Shared} {E : Value → Shared → Prop}
theorem Inv.wish (I : Inv X pins σ H s) (E : Value → Shared → Prop) : Inv (X.wish E) pins σ H s := ⟨I.ok.wish E, I.os, I.bare, I.base, I.loc, I.cell, I.free, I.freeC, I.pin, I.hok, I.len⟩
theorem Inv.unwish (I : Inv (X.wish E) pins σ H s) : Inv X pins σ H s := ⟨I.ok.unwish, I.os, I.bare, I.base, I.loc, I.cell, I.free, I.freeC, I.pin, I.hok, I.len⟩
theorem SP.unwish {D : Ends} {f : Flow} {s' : Shared} (h : SP (X.wish E) pins D f s') : SP X pins D f s' := by
  cases f with
  | next => obtain ⟨σ', H', I, q⟩ := h; exact ⟨σ', H', I.unwish, q⟩
  | brk => obtain ⟨σ', H', I, q⟩ := h; exact ⟨σ', H', I.unwish, q⟩
  | cont => obtain ⟨σ', H', I, q⟩ := h; exact ⟨σ', H', I.unwish, q⟩
  | ret u => obtain ⟨v, σ', H', I, r, q⟩ := h; exact ⟨v, σ', H', I.unwish, r, q⟩
theorem PSs.nox {st : List Stmt} {t : TS} (h : PSs X.nox st t) : PSs X st t := fun pins s σ H D I hw =>
  wpAny_mono (h pins s σ H D (I.wish _) hw) (fun _ _ q => q.unwish) fun _ _ z => False.elim z
end
section
variable {X : Cx} {st : Stmt} {rest : List Stmt} {t u : TS} {e : Expr} {te : TE} {pos : Pos}
def tNext : TS := fun D σ H => D.nx σ H
def tSeq (t u : TS) : TS := fun D σ H => t { D with nx := u D } σ H
theorem pss_nil : PSs X [] tNext := fun _ _ σ H _ I h => wpAny_execs_nil ⟨σ, H, I, h⟩
theorem pss_cons (h1 : PS X st t) (h2 : PSs X rest u) : PSs X (st :: rest) (tSeq t u) := by
  intro pins s σ H D I h
  refine wpAny_execs_cons (thn (h1 pins s σ H { D with nx := u D } I h) fun f s1 q => ?_)
  cases f with
  | next =>
    obtain ⟨σ', H', I', q⟩ := q
    exact h2 pins s1 σ' H' D I' q
  | ret v => exact q
  | brk => exact q
  | cont => exact q
theorem pss_one (h1 : PS X st t) : PSs X [st] t := by
  intro pins s σ H D I h
  refine wpAny_execs_cons (thn (h1 pins s σ H D I h) fun f s1 q => ?_)
  cases f with
  | next => exact wpAny_execs_nil q
  | ret v => exact q
  | brk => exact q
  | cont => exact q
theorem Inv.quiet {pins : List (Addr × Obj)} {σ : St} {H : Hp} {s : Shared} (I : Inv X pins σ H s) : interactive X.env = false := by simp [interactive, I.ok.kind]
def tDrop (te : TE) : TS := fun D σ H => te σ H fun _ H1 => D.nx σ H1
theorem ps_expr (he : PE X e te) (hs : swapsWith e none pos.line X.env = pure false := by rfl) : PS X (.Expr e pos) (tDrop te) := by
  intro pins s σ H D I h
  exact wpAny_Expr_any (thn (he pins s σ H _ I h) fun v s1 ⟨x, H1, I1, r1, q1⟩ => ⟨σ, H1, I1, q1⟩) I.quiet hs
def tRet (te : TE) : TS := fun D σ H => te σ H D.rt
theorem ps_ret (he : PE X e te) : PS X (.Return (some e) pos) (tRet te) := by
  intro pins s σ H D I h
  exact wpAny_Return_some (thn (he pins s σ H _ I h) fun v s1 ⟨x, H1, I1, r1, q1⟩ => ⟨x, σ, H1, I1, r1, q1⟩)
def tIfS (c : TT) (t u : TS) : TS := fun D σ H => c σ H fun b H1 => if b = true then t D σ H1 else u D σ H1
theorem ps_if {c : Expr} {a b : List Stmt} {tc : TT} (hc : PT X c tc) (ha : PSs X a t) (hb : PSs X b u) : PS X (.If c a b pos) (tIfS tc t u) := by
  intro pins s σ H D I h
  refine wpAny_If (thn (hc pins s σ H _ I h) fun d s1 ⟨H1, I1, q1⟩ => ?_)
  cases d with
  | true => exact ha pins s1 σ H1 D I1 q1
  | false => exact hb pins s1 σ H1 D I1 q1
def tNever : TS := fun _ _ _ => False
theorem ps_never : PS X st tNever := fun _ _ _ _ _ _ h => h.elim
end
abbrev TG := V → St → Hp → (St → Hp → Prop) → Prop
abbrev TGs := List V → St → Hp → (St → Hp → Prop) → Prop
def PG (X : Cx) (target : Expr) (t : TG) : Prop :=
  ∀ (pins : List (Addr × Obj)) (s : Shared) (σ : St) (H : Hp) (v : V) (u : Value) (Q : St → Hp → Prop), Inv X pins σ H s → RelV v u → t v σ H Q →
    wpAny (model X.prog X.w) X.A (assign target X.env u) (fun _ s' => ∃ σ' H', Inv X pins σ' H' s' ∧ Q σ' H') X.xe s
def PGs (X : Cx) (ts : List Expr) (t : TGs) : Prop :=
  ∀ (pins : List (Addr × Obj)) (s : Shared) (σ : St) (H : Hp) (vs : List V) (us : List Value) (Q : St → Hp → Prop), Inv X pins σ H s → Vals vs us → t vs σ H Q →
    wpAny (model X.prog X.w) X.A (assignInOrder ((assignEach ts X.env).map (·.2)) us) (fun _ s' => ∃ σ' H', Inv X pins σ' H' s' ∧ Q σ' H') X.xe s
abbrev TSet := V → V → V → Hp → (Hp → Prop) → Prop
def PSet (X : Cx) (t : TSet) : Prop :=
  ∀ (pins : List (Addr × Obj)) (s : Shared) (σ : St) (H : Hp) (o i v : V) (ov iv u : Value) (Q : Hp → Prop), Inv X pins σ H s → RelV o ov → RelV i iv → RelV v u → t o i v H Q →
    wpAny (model X.prog X.w) X.A (setItem ov iv u) (fun _ s' => ∃ H', Inv X pins σ H' s' ∧ Q H') X.xe s
section
variable {X : Cx} {pos : Pos}
def gName (i : Nat) : TG := fun v σ H Q => Q (σ.set i (some v)) H
theorem pg_name {i : Nat} {x : Str} (hN : X.N.Nodup) (hi : X.N[i]? = some x) (hx : Loc X.env.scope x) (hf : X.fn x = true ∨ X.env.scope.names.lookup x = some .local := by first | exact .inl rfl | exact .inr rfl | assumption) : PG X (.Name x pos) (gName i) := by
  intro pins s σ H v u Q I r h
  exact wpAny_assign_Name (store_ok I hN hi hx r (fun s' I' => ⟨_, H, I', h⟩) hf)
def gNil : TGs := fun vs σ H Q => vs = [] ∧ Q σ H
def gCons (t : TG) (u : TGs) : TGs := fun vs σ H Q => ∃ v r, vs = v :: r ∧ t v σ H fun σ' H' => u r σ' H' Q
theorem pgs_nil : PGs X [] gNil := by
  intro pins s σ H vs us Q I r h
  obtain ⟨e, h⟩ := h
  subst e
  cases r
  exact assignInOrder_nil ⟨σ, H, I, h⟩
theorem pgs_cons {e : Expr} {es : List Expr} {t : TG} {u : TGs} (h1 : PG X e t) (h2 : PGs X es u)
    (hs : (assignEach (e :: es) X.env).map (·.2) = assign e X.env :: (assignEach es X.env).map (·.2) := by rfl) : PGs X (e :: es) (gCons t u) := by
  intro pins s σ H vs us Q I r h
  obtain ⟨v, vr, e1, h⟩ := h
  subst e1
  cases r with
  | cons r rr =>
    rw [hs]
    refine assignInOrder_cons (thn (h1 pins s σ H _ _ _ I r h) fun _ s1 ⟨σ1, H1, I1, q1⟩ => ?_)
    exact h2 pins s1 σ1 H1 _ _ Q I1 rr q1
def gTup (K : PySem.W.Frag) (n : Nat) (t : TGs) : TG := fun v σ H Q => ∃ a xs, v = .ref a ∧ SqT K H a xs ∧ xs.length = n ∧ t xs σ H Q
theorem pg_tup {es : List Expr} {k : Nat} {t : TGs} {n : Nat} (hc : X.calm = true) (h : PGs X es t)
    (hn : (assignEach es X.env).length = n := by rfl) (hst : (assignEach es X.env).findIdx? (·.1) = none := by rfl) : PG X (.Tuple es k pos) (gTup X.K n t) := by
  intro pins s σ H v u Q I r hw
  obtain ⟨a, xs, e1, hq, hl, hw⟩ := hw
  subst e1
  cases r
  obtain ⟨its, rv, ht, hz⟩ := I.tuple hq
  refine assign_Tuple_tuple (I.ok.hd hc) ht (by simp [hn, ← hl, rv.length]) hst fun h' hx => ?_
  have I1 : Inv X pins σ H { s with heap := h' } := I.kept (t' := s.toks) fun b o e => hx b o (Nat.ne_of_lt (Heap.lt_size e)) e
  exact h pins _ σ H xs _ Q I1 (by simpa using rv) hw
def gSub (to ti : TE) (t : TSet) : TG := fun v σ H Q => to σ H fun o H1 => ti σ H1 fun i H2 => t o i v H2 fun H3 => Q σ H3
theorem pg_sub {o i : Expr} {to ti : TE} {t : TSet} (ho : PE X o to) (hi : PE X i ti) (hs : PSet X t)
    (ha : ∀ v, assign (.Subscript o i pos) X.env v = (do
      let ov ← holding [v] (eval o X.env)
      let iv ← holding [v, ov] (eval i X.env)
      standAt pos
      holding [v, ov, iv] (setItem ov iv v)
      release [v, ov, iv] []) := by intro _; rfl) : PG X (.Subscript o i pos) (gSub to ti t) := by
  intro pins s σ H v u Q I r h
  rw [ha]
  refine wpAny_bind (wpAny_holding (thn (ho pins s σ H _ I h) fun ov s1 ⟨x, H1, I1, r1, q1⟩ => ?_))
  refine wpAny_bind (wpAny_holding (thn (hi pins s1 σ H1 _ I1 q1) fun iv s2 ⟨y, H2, I2, r2, q2⟩ => ?_))
  refine wpAny_bind (wpAny_standAt (wpAny_bind (wpAny_holding (thn (hs pins s2 σ H2 x y v ov iv u _ I2 r1 r2 r q2) fun _ s3 ⟨H3, I3, q3⟩ => ?_))))
  exact wpAny_release ⟨σ, H3, I3, q3⟩
def tAsg (te : TE) (g : TG) : TS := fun D σ H => te σ H fun x H1 => g x σ H1 D.nx
theorem ps_asg {tg e : Expr} {te : TE} {g : TG} (he : PE X e te) (hg : PG X tg g) (hs : swapsWithSole [tg] e pos.line X.env = pure false := by rfl) (hw : swappedStores [tg] e X.env = pure none := by rfl)
    (h1 : (assignEach [tg] X.env).map (·.2) = [assign tg X.env] := by rfl) : PS X (.Assign [tg] e pos) (tAsg te g) := by
  intro pins s σ H D I h
  refine wpAny_Assign_stores (thn (he pins s σ H _ I h) fun v s1 ⟨x, H1, I1, r1, q1⟩ => ?_) hs hw
  rw [h1]
  exact thn (hg pins s1 σ H1 x v _ I1 r1 q1) fun _ s2 q => q
theorem ps_set {i : Nat} {x : Str} {e : Expr} {te : TE} {pos' : Pos} (hN : X.N.Nodup) (hi : X.N[i]? = some x) (hx : Loc X.env.scope x) (he : PE X e te) (hs : swapsWith e (some (.Name x pos')) pos.line X.env = pure false := by rfl) (hf : X.fn x = true ∨ X.env.scope.names.lookup x = some .local := by first | exact .inl rfl | exact .inr rfl | assumption) :
    PS X (.Assign [.Name x pos'] e pos) (tAsg te (gName i)) := by
  intro pins s σ H D I h
  refine wpAny_Assign_Name (thn (he pins s σ H _ I h) fun v s1 ⟨y, H1, I1, r1, q1⟩ => ?_) hs
  exact store_ok I1 hN hi hx r1 (fun s2 I2 => ⟨_, H1, I2, q1⟩) hf
end
section
variable {X : Cx} {pos : Pos}
def tWhile (c : TT) (tb : TS) : TS := fun D σ H => ∃ W : Nat → St → Hp → Prop, (∃ m, W m σ H) ∧ ∀ m σ H, W m σ H →
  c σ H fun b H1 => if b = true then ∃ N : St → Hp → Prop, (∀ σ' H', N σ' H' → ∃ m', m' < m ∧ W m' σ' H') ∧ tb { D with nx := N, ct := N, bk := D.nx } σ H1 else D.nx σ H1
theorem ps_while {c : Expr} {body : List Stmt} {tc : TT} {tb : TS} (hp : PassesOwn (model X.prog X.w) X.A X.env X.xe) (hc : PT X c tc) (hb : PSs X body tb) : PS X (.While c body [] pos) (tWhile tc tb) := by
  intro pins s σ H D I h
  obtain ⟨W, ⟨m0, w0⟩, turn⟩ := h
  refine wpAny_While (codeAny_whileLoop (fun n s' => ∃ σ' H', Inv X pins σ' H' s' ∧ W n σ' H') ?_ m0 ⟨σ, H, I, w0⟩)
  rintro n s1 ⟨σ1, H1, I1, w1⟩
  refine wpAny_passesOwn hp (thn (hc pins s1 σ1 H1 _ I1 (turn n σ1 H1 w1)) fun b s2 ⟨H2, I2, q2⟩ => ?_)
  cases b with
  | true =>
    obtain ⟨N, hN, q2⟩ := q2
    rw [if_pos rfl]
    refine wpAny_passesOwn hp (thn (hb pins s2 σ1 H2 _ I2 q2) fun f s3 q3 => ?_)
    cases f with
    | next =>
      obtain ⟨σ3, H3, I3, n3⟩ := q3
      obtain ⟨m', hm, w3⟩ := hN σ3 H3 n3
      exact ⟨m', hm, σ3, H3, I3, w3⟩
    | cont =>
      obtain ⟨σ3, H3, I3, n3⟩ := q3
      obtain ⟨m', hm, w3⟩ := hN σ3 H3 n3
      exact ⟨m', hm, σ3, H3, I3, w3⟩
    | brk => exact q3
    | ret v => exact q3
  | false =>
    rw [if_neg Bool.false_ne_true]
    exact wpAny_execs_nil ⟨σ1, H2, I2, q2⟩
end
structure It where
  go : Nat → Hp → Prop
  yld : Nat → Hp → V → Hp → Prop
  stop : Nat → Hp → Prop
def FpOk (X : Cx) (pins : List (Addr × Obj)) (H : Hp) (b : Addr) : Prop :=
  H b = none ∧ b ≠ X.env.locals ∧ b ∉ X.fs ∧ (b ∈ X.ex ∨ X.s₀.heap.objs.size ≤ b) ∧ (∀ x c, X.env.cells.lookup x = some c → c ≠ b) ∧ ∀ p ∈ X.pn ++ pins, p.1 ≠ b
theorem Inv.fpOk {X : Cx} {pins : List (Addr × Obj)} {σ : St} {H H' : Hp} {s : Shared} {b : Addr} (I : Inv X pins σ H s) (hb : s.heap.objs.size ≤ b) (hn : H' b = none) : FpOk X pins H' b := by
  refine ⟨hn, Nat.ne_of_gt (Nat.lt_of_lt_of_le I.lt hb), I.nofs hb, .inr (Nat.le_trans I.sz hb), fun x c e z => ?_, fun p hp z => ?_⟩
  · obtain ⟨v, q⟩ := I.cell x c e
    exact absurd (Nat.lt_of_lt_of_le q.lt (by rw [z]; exact hb)) (Nat.lt_irrefl _)
  · exact absurd (Nat.lt_of_lt_of_le (Heap.lt_size (I.pin p hp).1) (by rw [z]; exact hb)) (Nat.lt_irrefl _)
structure Turn (P : Program) (w : World) (K : PySem.W.Frag) (tg : Expr) (J : It) (fp : List Addr) (it : Addr) (tn : Nat → Heap → Prop) : Prop where
  mem : it ∈ fp
  obj : ∀ i h, tn i h → ∀ b ∈ fp, ∃ o, h.get? b = some o ∧ ∀ v, o.data ≠ .cell v
  keep : ∀ i h h', tn i h → (∀ b ∈ fp, ∀ o, h.get? b = some o → h'.get? b = some o) → tn i h'
  item : ∀ (X : Cx), X.prog = P → X.w = w → X.K = K → X.calm = true → ∀ (i : Nat) (pins : List (Addr × Obj)) (s : Shared) (σ : St) (H : Hp) (E : Value → Shared → Prop), Inv X pins σ H s → (∀ b ∈ fp, FpOk X pins H b) → tn i s.heap → J.go i H →
    wpAny (model P w) X.A (pyNext (.ref it)) (fun r s1 => ∃ u, r = some u ∧
      wpAny (model P w) X.A (letOwnedTupleGo tg (.ref it) u) (fun _ s2 => ∃ x H', Inv X pins σ H' s2 ∧ RelV x u ∧ J.yld i H x H' ∧ tn (i + 1) s2.heap ∧ ∀ b ∈ fp, H' b = none) E s1) E s
  done : ∀ (X : Cx), X.prog = P → X.w = w → X.K = K → X.calm = true → ∀ (i : Nat) (pins : List (Addr × Obj)) (s : Shared) (σ : St) (H : Hp) (E : Value → Shared → Prop), Inv X pins σ H s → (∀ b ∈ fp, FpOk X pins H b) → tn i s.heap → J.stop i H →
    wpAny (model P w) X.A (pyNext (.ref it)) (fun r s1 => r = none ∧ Inv X pins σ H s1) E s
  self : ∀ (A : Around) (i : Nat) (s : Shared) (Q : Value → Shared → Prop) (E : Value → Shared → Prop), tn i s.heap → Q (.ref it) s → wpAny (model P w) A (pyIter (.ref it)) Q E s
abbrev TI := St → Hp → (It → Hp → Prop) → Prop
def PIE (X : Cx) (pins : List (Addr × Obj)) (σ : St) (tg : Expr) (R : It → Hp → Prop) (itv : Value) (s2 : Shared) : Prop :=
  ∃ (it : Addr) (fp : List Addr) (tn : Nat → Heap → Prop) (J : It) (H' : Hp), itv = .ref it ∧ Inv X pins σ H' s2 ∧ Turn X.prog X.w X.K tg J fp it tn ∧ tn 0 s2.heap ∧ (∀ b ∈ fp, FpOk X pins H' b) ∧ R J H'
def PI (X : Cx) (tg iter : Expr) (wi : TI) : Prop :=
  ∀ (pins : List (Addr × Obj)) (s : Shared) (σ : St) (H : Hp) (R : It → Hp → Prop), Inv X pins σ H s → wi σ H R →
    wpAny (model X.prog X.w) X.A (eval iter X.env) (fun v s1 => wpAny (model X.prog X.w) X.A (pyIter v) (PIE X pins σ tg R) X.xe s1) X.xe s
theorem go_of {M : Model} {A : Around} {E : Value → Shared → Prop} {s : Shared} {tg : Expr} {it : Addr} {u : Value} {o : Obj} {n : String} {vs : Array Value} {Q : Unit → Shared → Prop} (ho : s.heap.get? it = some o) (hc : o.cls = .type n) (hd : o.data = .fields vs)
    (hn : ["enumerate", "zip", "dict_itemiterator", "dict_reverseitemiterator", "odict_iterator", "itertools.zip_longest", "itertools.pairwise"].contains n = false) (hQ : Q () s) : wpAny M A (letOwnedTupleGo tg (.ref it) u) Q E s := by
  unfold letOwnedTupleGo
  cases tg <;> first
    | exact wpAny_pure hQ
    | (cases u <;> first
        | exact wpAny_pure hQ
        | (refine wpAny_bind (wpAny_load ho ?_)
           rw [hc, hd]
           show wpAny M A (if (["enumerate", "zip", "dict_itemiterator", "dict_reverseitemiterator", "odict_iterator", "itertools.zip_longest", "itertools.pairwise"].contains n && vs[0]? == some (rawInt _)) = true then _ else _) Q E s
           rw [if_neg (by intro h; rw [hn, Bool.false_and] at h; cases h)]
           exact wpAny_pure hQ))
def Itl (K : PySem.W.Frag) (a : Addr) : It :=
  ⟨fun i H => ∃ xs x, SqL K H a xs ∧ xs[i]? = some x, fun i H x H' => H' = H ∧ ∀ xs, SqL K H a xs → xs[i]? = some x, fun i H => ∃ xs, SqL K H a xs ∧ xs.length ≤ i⟩
def Itt (K : PySem.W.Frag) (a : Addr) : It :=
  ⟨fun i H => ∃ xs x, SqT K H a xs ∧ xs[i]? = some x, fun i H x H' => H' = H ∧ ∀ xs, SqT K H a xs → xs[i]? = some x, fun i H => ∃ xs, SqT K H a xs ∧ xs.length ≤ i⟩
def Itr (lo : Int) (n : Nat) : It := ⟨fun i _ => i < n, fun i H x H' => H' = H ∧ x = .int (lo + i), fun i _ => n ≤ i⟩
theorem turn_list {P : Program} {w : World} {K : PySem.W.Frag} {tg : Expr} (a it : Addr) : Turn P w K tg (Itl K a) [it] it (fun i h => h.IsListIter it a i) where
  mem := by simp
  obj := fun i h st b hb => by
    have e : b = it := by simpa using hb
    subst e
    obtain ⟨o, e, c, d⟩ := st
    exact ⟨o, e, fun v z => by rw [d] at z; cases z⟩
  keep := fun i h h' st k => st.at fun o e => k it (by simp) o e
  item := by
    intro X hP hw hK hc i pins s σ H E I hf st hg
    subst hP hw hK
    obtain ⟨xs, x, hq, hx⟩ := hg
    obtain ⟨its, rv, p, hz⟩ := I.list hq
    obtain ⟨u, hu, ru⟩ := rv.get hx
    obtain ⟨f0, f1, f2, f3, f4, f5⟩ := hf it (by simp)
    refine wpAny_pyNext_list_item st p.isList (x := u) (by simpa using hu) fun h' st' sb => ?_
    have I1 : Inv X pins σ H { s with heap := h' } := I.turned (t' := s.toks) (fun b o hb e => (sb.2 b hb).trans e) f0 f1 f3 f4 f5
    obtain ⟨o, e, c, d⟩ := id st'
    exact ⟨u, rfl, go_of (s := { s with heap := h' }) e c d (by decide) ⟨x, H, I1, ru, ⟨rfl, fun ys hy => by rw [I.list_inj hy hq]; exact hx⟩, st', fun b hb => (hf b hb).1⟩⟩
  done := by
    intro X hP hw hK hc i pins s σ H E I hf st hg
    subst hP hw hK
    obtain ⟨xs, hq, hx⟩ := hg
    obtain ⟨its, rv, p, hz⟩ := I.list hq
    obtain ⟨f0, f1, f2, f3, f4, f5⟩ := hf it (by simp)
    have hl := rv.length
    exact wpAny_pyNext_list_end (I.ok.hd hc) st p.isList (by simp; omega) fun h' eb => ⟨rfl, I.turned (t' := s.toks) (fun b o hb e => eb b o hb e) f0 f1 f3 f4 f5⟩
  self := fun _ _ _ _ _ st h => wpAny_pyIter_listiter st h
theorem turn_tuple {P : Program} {w : World} {K : PySem.W.Frag} {tg : Expr} (a it : Addr) : Turn P w K tg (Itt K a) [it] it (fun i h => h.IsTupleIter it a i) where
  mem := by simp
  obj := fun i h st b hb => by
    have e : b = it := by simpa using hb
    subst e
    obtain ⟨o, e, c, d⟩ := st
    exact ⟨o, e, fun v z => by rw [d] at z; cases z⟩
  keep := fun i h h' st k => st.at fun o e => k it (by simp) o e
  item := by
    intro X hP hw hK hc i pins s σ H E I hf st hg
    subst hP hw hK
    obtain ⟨xs, x, hq, hx⟩ := hg
    obtain ⟨its, rv, p, hz⟩ := I.tuple hq
    obtain ⟨u, hu, ru⟩ := rv.get hx
    obtain ⟨f0, f1, f2, f3, f4, f5⟩ := hf it (by simp)
    refine wpAny_pyNext_tuple_item st (show s.heap.IsTuple a its.toArray from p) (x := u) (by simpa using hu) fun h' st' sb => ?_
    have I1 : Inv X pins σ H { s with heap := h' } := I.turned (t' := s.toks) (fun b o hb e => (sb.2 b hb).trans e) f0 f1 f3 f4 f5
    obtain ⟨o, e, c, d⟩ := id st'
    exact ⟨u, rfl, go_of (s := { s with heap := h' }) e c d (by decide) ⟨x, H, I1, ru, ⟨rfl, fun ys hy => by rw [I.tuple_inj hy hq]; exact hx⟩, st', fun b hb => (hf b hb).1⟩⟩
  done := by
    intro X hP hw hK hc i pins s σ H E I hf st hg
    subst hP hw hK
    obtain ⟨xs, hq, hx⟩ := hg
    obtain ⟨its, rv, p, hz⟩ := I.tuple hq
    obtain ⟨f0, f1, f2, f3, f4, f5⟩ := hf it (by simp)
    have hl := rv.length
    exact wpAny_pyNext_tuple_end (I.ok.hd hc) st (show s.heap.IsTuple a its.toArray from p) (by simp; omega) fun h' eb => ⟨rfl, I.turned (t' := s.toks) (fun b o hb e => eb b o hb e) f0 f1 f3 f4 f5⟩
  self := fun _ _ _ _ _ st h => wpAny_pyIter_tupleiter st h
theorem turn_range {P : Program} {w : World} {K : PySem.W.Frag} {tg : Expr} (it : Addr) (lo : Int) (n : Nat) : Turn P w K tg (Itr lo n) [it] it (fun i h => IsRangeIter h it (lo + (i : Nat) * 1) ((n : Int) - (i : Nat)) 1) where
  mem := by simp
  obj := fun i h st b hb => by
    have e : b = it := by simpa using hb
    subst e
    exact ⟨_, st, fun v z => by
      have z' : Data.fields _ = Data.cell v := z
      cases z'⟩
  keep := fun i h h' st k => k it (by simp) _ st
  item := by
    intro X hP hw hK hc i pins s σ H E I hf st hg
    subst hP hw hK
    obtain ⟨f0, f1, f2, f3, f4, f5⟩ := hf it (by simp)
    have W := Walks.range (prog := X.prog) (w := X.w) (I.ok.hd hc) it lo 1 n
    refine W.item i s _ _ hg st fun v h' tk hv st' kk => ?_
    obtain ⟨t, rfl⟩ := hv
    have I1 : Inv X pins σ H { s with heap := h', toks := tk } := I.turned (fun b o hb e => kk b o (by simpa using hb) e) f0 f1 f3 f4 f5
    refine ⟨_, rfl, go_of (s := { s with heap := h', toks := tk }) (n := "range_iterator") st' rfl rfl (by decide) ⟨.int (lo + i), H, I1, ⟨t, ?_⟩, ⟨rfl, rfl⟩, st', fun b hb => (hf b hb).1⟩⟩
    rw [Int.mul_one]
  done := by
    intro X hP hw hK hc i pins s σ H E I hf st hg
    subst hP hw hK
    obtain ⟨f0, f1, f2, f3, f4, f5⟩ := hf it (by simp)
    exact wpAny_pyNext_range_end (I.ok.hd hc) st (by have : n ≤ i := hg; omega) fun h' eb => ⟨rfl, I.turned (t' := s.toks) (fun b o hb e => eb b o hb e) f0 f1 f3 f4 f5⟩
  self := fun _ _ _ _ _ st h => wpAny_pyIter_rangeiter st h
end L2
namespace L2
open PySem PySem.Spec PyProof.Rows
section
variable {X : Cx} {tg : Expr}
theorem range_it {pins : List (Addr × Obj)} {σ : St} {H : Hp} {s : Shared} {R : It → Hp → Prop} {E : Value → Shared → Prop} {lo hi : Int} {t u v : Tok} {tk : Nat} (I : Inv X pins σ H s) (h1 : -(2 ^ 62) ≤ lo) (h2 : lo < 2 ^ 62) (h3 : -(2 ^ 62) ≤ hi) (h4 : hi < 2 ^ 62)
    (q : R (Itr lo (hi - lo).toNat) H) : wpAny (model X.prog X.w) X.A (pyIter (.ref s.heap.objs.size)) (PIE X pins σ tg R) E { s with heap := s.heap.push { cls := .type "range", data := .fields #[.int lo t, .int hi u, .int 1 v] }, toks := tk } := by
  refine wpAny_pyIter_range (IsRange.new ..) (small_one h1 h2 h3 h4) ?_
  have I1 : Inv X pins σ H { s with heap := s.heap.push { cls := .type "range", data := .fields #[.int lo t, .int hi u, .int 1 v] }, toks := tk } := I.kept fun b o e => Heap.get?_push_of_some _ e
  refine ⟨(s.heap.push { cls := .type "range", data := .fields #[.int lo t, .int hi u, .int 1 v] }).objs.size, [(s.heap.push { cls := .type "range", data := .fields #[.int lo t, .int hi u, .int 1 v] }).objs.size], _, _, H, rfl,
    I1.kept (t' := tk) fun b o e => Heap.get?_push_of_some _ e, turn_range _ lo (hi - lo).toNat, ?_, fun b hb => ?_, q⟩
  · have e1 : lo + ((0 : Nat) : Int) * 1 = lo := by simp
    have e2 : (((hi - lo).toNat : Nat) : Int) - ((0 : Nat) : Int) = Builtin.Range.rangeSize lo hi 1 := by rw [rangeSize_one]; split <;> omega
    show IsRangeIter _ _ (lo + ((0 : Nat) : Int) * 1) ((((hi - lo).toNat : Nat) : Int) - ((0 : Nat) : Int)) 1
    rw [e1, e2]
    exact Heap.get?_push_size _ rfl
  · have e : b = (s.heap.push { cls := .type "range", data := .fields #[.int lo t, .int hi u, .int 1 v] }).objs.size := by simpa using hb
    subst e
    exact I1.fpOk (Nat.le_refl _) (I1.hok.fresh (Nat.le_refl _))
def iRng1 (ta : TA) : TI := fun σ H R => ta σ H fun vs H1 => ∃ j : Int, vs = [.int j] ∧ -(2 ^ 62) ≤ j ∧ j < 2 ^ 62 ∧ R (Itr 0 j.toNat) H1
theorem pi_range1 {a : Expr} {ta : TA} {p pos : Pos} (hg : Gl X "range") (hm : X.mg "range" = none) (ha : PA X [a] ta) (hs : starEach [a] X.env = [(false, eval a X.env)] := by rfl) : PI X tg (.Call (.Name "range" p) [a] [] pos) (iRng1 ta) := by
  intro pins s σ H R I h
  refine Call_ (ld_blt I hg hm boot_range (PyProof.Rows.callWith_type1 (thn (ha pos pins s σ H _ I h) fun us s1 ⟨vs, H1, I1, r1, q1⟩ => ?_) hs rfl))
  obtain ⟨j, e, q1, q2, q⟩ := q1
  subst e
  cases r1 with
  | cons r rr =>
    cases rr
    obtain ⟨t, rfl⟩ := r
    exact call_range_1 (range_it I1 (by omega) (by omega) q1 q2 (by simpa using q))
def tFor (wi : TI) (g : TG) (tb : TS) : TS := fun D σ H => wi σ H fun J H1 => ∃ W : Nat → Nat → St → Hp → Prop, (∃ m, W 0 m σ H1) ∧ ∀ i m σ H, W i m σ H →
  (J.stop i H ∧ D.nx σ H) ∨ (J.go i H ∧ ∃ N : St → Hp → Prop, (∀ σ' H', N σ' H' → ∃ m', m' < m ∧ W (i + 1) m' σ' H') ∧ ∀ x H', J.yld i H x H' → g x σ H' fun σ2 H2 => tb { D with nx := N, ct := N, bk := D.nx } σ2 H2)
def pinsAt (fp : List Addr) (h : Heap) : List (Addr × Obj) := fp.filterMap fun b => (h.get? b).map fun o => (b, o)
theorem mem_pinsAt {fp : List Addr} {h : Heap} {b : Addr} {o : Obj} (hb : b ∈ fp) (e : h.get? b = some o) : (b, o) ∈ pinsAt fp h := List.mem_filterMap.mpr ⟨b, hb, by rw [e]; rfl⟩
theorem of_pinsAt {fp : List Addr} {h : Heap} {p : Addr × Obj} (hp : p ∈ pinsAt fp h) : p.1 ∈ fp ∧ h.get? p.1 = some p.2 := by
  obtain ⟨b, hb, e⟩ := List.mem_filterMap.mp hp
  cases q : h.get? b with
  | none => rw [q] at e; cases e
  | some o =>
    rw [q] at e
    have e' : (b, o) = p := Option.some.inj e
    subst e'
    exact ⟨hb, q⟩
theorem Inv.pinned {pins : List (Addr × Obj)} {σ : St} {H : Hp} {s : Shared} {fp : List Addr} (I : Inv X pins σ H s) (hf : ∀ b ∈ fp, FpOk X pins H b) (ho : ∀ b ∈ fp, ∃ o, s.heap.get? b = some o ∧ ∀ v, o.data ≠ .cell v) : Inv X (pins ++ pinsAt fp s.heap) σ H s :=
  I.pins_of fun p hp => (List.mem_append.mp hp).elim (fun z => I.pin p (List.mem_append_right _ z)) fun z => by
    obtain ⟨hb, e⟩ := of_pinsAt z
    obtain ⟨f0, f1, f2, _⟩ := hf p.1 hb
    obtain ⟨o, e', d⟩ := ho p.1 hb
    rw [e] at e'; cases e'
    exact ⟨e, f0, f1, f2, d⟩
theorem Inv.unpinned {pins pl : List (Addr × Obj)} {σ : St} {H : Hp} {s : Shared} (I : Inv X (pins ++ pl) σ H s) : Inv X pins σ H s := I.pins_of fun p hp => I.pin p (List.mem_append_right _ (List.mem_append_left _ hp))
theorem ps_for {iter : Expr} {body : List Stmt} {wi : TI} {g : TG} {tb : TS} {pos : Pos} (hp : PassesOwn (model X.prog X.w) X.A X.env X.xe) (hc : X.calm = true) (hi : PI X tg iter wi) (hg : PG X tg g) (hb : PSs X body tb)
    (hs : ∀ x, foldedSetIterable iter X.env x = pure x := by intro _; rfl) : PS X (.For tg iter body [] pos) (tFor wi g tb) := by
  intro pins s σ H D I h
  refine wpAny_For (thn (hi pins s σ H _ I h) fun v s1 h1 => thn h1 fun itv s2 h2 => ?_) hs
  obtain ⟨it, fp, tn, J, H2, e, I2, T, st2, f2, W, ⟨m0, w0⟩, turn⟩ := h2
  subst e
  -- what stays true of the iterator's objects through the loop
  have stat : ∀ {H' : Hp}, (∀ b ∈ fp, H' b = none) → ∀ b ∈ fp, FpOk X pins H' b := fun hn b hb => ⟨hn b hb, (f2 b hb).2⟩
  refine codeAny_forLoop_any (fun n s' => ∃ i σ' H', Inv X pins σ' H' s' ∧ tn i s'.heap ∧ (∀ b ∈ fp, H' b = none) ∧ W i n σ' H') ?_ m0 ⟨0, σ, H2, I2, st2, fun b hb => (f2 b hb).1, w0⟩
  rintro n s3 ⟨i, σ3, H3, I3, st3, fr3, w3⟩
  rcases turn i n σ3 H3 w3 with ⟨stop, qn⟩ | ⟨go, N, hN, step⟩
  · refine wpAny_passesOwn hp (thn (T.done X rfl rfl rfl hc i pins s3 σ3 H3 X.xe I3 (stat fr3) st3 stop) fun r s4 ⟨hr, I4⟩ => ?_)
    subst hr
    exact wpAny_execs_nil ⟨σ3, H3, I4, qn⟩
  · refine wpAny_passesOwn hp (thn (T.item X rfl rfl rfl hc i pins s3 σ3 H3 X.xe I3 (stat fr3) st3 go) fun r s4 ⟨u, hr, h4⟩ => ?_)
    subst hr
    refine wpAny_passesOwn hp (thn h4 fun _ s5 ⟨x, H5, I5, r5, y5, st5, fr5⟩ => ?_)
    have I5' := I5.pinned (stat fr5) (T.obj _ _ st5)
    refine wpAny_passesOwn hp (thn (hg _ s5 σ3 H5 x u _ I5' r5 (step x H5 y5)) fun _ s6 ⟨σ6, H6, I6, q6⟩ => ?_)
    refine wpAny_passesOwn hp (thn (hb _ s6 σ6 H6 _ I6 q6) fun f s7 q7 => ?_)
    have again : ∀ {σ7 : St} {H7 : Hp}, Inv X (pins ++ pinsAt fp s5.heap) σ7 H7 s7 → N σ7 H7 → ∃ m, m < n ∧ ∃ i σ' H', Inv X pins σ' H' s7 ∧ tn i s7.heap ∧ (∀ b ∈ fp, H' b = none) ∧ W i m σ' H' := fun {σ7 H7} I7 n7 => by
      obtain ⟨m', hm, w7⟩ := hN σ7 H7 n7
      refine ⟨m', hm, i + 1, σ7, H7, I7.unpinned, T.keep _ _ _ st5 fun b hb o e => (I7.pin (b, o) (List.mem_append_right _ (List.mem_append_right _ (mem_pinsAt hb e)))).1, fun b hb => ?_, w7⟩
      obtain ⟨o, e, d⟩ := T.obj _ _ st5 b hb
      exact (I7.pin (b, o) (List.mem_append_right _ (List.mem_append_right _ (mem_pinsAt hb e)))).2.1
    cases f with
    | next => obtain ⟨σ7, H7, I7, n7⟩ := q7; exact again I7 n7
    | cont => obtain ⟨σ7, H7, I7, n7⟩ := q7; exact again I7 n7
    | brk => obtain ⟨σ7, H7, I7, q7⟩ := q7; exact ⟨σ7, H7, I7.unpinned, q7⟩
    | ret v => obtain ⟨x7, σ7, H7, I7, r7, q7⟩ := q7; exact ⟨x7, σ7, H7, I7.unpinned, r7, q7⟩
end
end L2
namespace L2
open PySem PySem.Spec PyProof.Rows
abbrev R2 := V → V → Hp → VK → Prop
def OpR (X : Cx) (f : Value → Value → Sem Value) (r : R2) : Prop :=
  ∀ (pins : List (Addr × Obj)) (s : Shared) (σ : St) (H : Hp) (x y : V) (v u : Value) (Q : VK), Inv X pins σ H s → RelV x v → RelV y u → r x y H Q →
    wpAny (model X.prog X.w) X.A (f v u) (EP X pins σ Q) X.xe s
def CallR (X : Cx) (f : Value) (r : List V → Hp → VK → Prop) : Prop :=
  ∀ (pins : List (Addr × Obj)) (s : Shared) (σ : St) (H : Hp) (xs : List V) (us : List Value) (Q : VK), Inv X pins σ H s → Vals xs us → r xs H Q →
    wpAny (model X.prog X.w) X.A (call f us) (EP X pins σ Q) X.xe s
def TruR (X : Cx) (r : V → Hp → (Bool → Hp → Prop) → Prop) : Prop :=
  ∀ (pins : List (Addr × Obj)) (s : Shared) (σ : St) (H : Hp) (x : V) (v : Value) (Q : Bool → Hp → Prop), Inv X pins σ H s → RelV x v → r x H Q →
    wpAny (model X.prog X.w) X.A (truthy v) (TP X pins σ Q) X.xe s
def tOp (r : R2) (ta tb : TE) : TE := fun σ H Q => ta σ H fun x H1 => tb σ H1 fun y H2 => r x y H2 Q
def rI (C : Int → Int → Prop) (g : Int → Int → V) : R2 := fun x y H Q => ∃ i j, x = .int i ∧ y = .int j ∧ C i j ∧ Q (g i j) H
def rI0 (g : Int → Int → V) : R2 := fun x y H Q => ∃ i j, x = .int i ∧ y = .int j ∧ Q (g i j) H
section
variable {X : Cx} {a b c : Expr} {ta tb tc : TE} {pos : Pos}
theorem binT (ha : PE X a ta) (hb : PE X b tb) {pins : List (Addr × Obj)} {s : Shared} {σ : St} {H : Hp} {R : V → V → Hp → Prop} (I : Inv X pins σ H s)
    (h : ta σ H fun x H1 => tb σ H1 fun y H2 => R x y H2) {Q : Value → Shared → Prop} {f : Value → Value → Sem Value}
    (hf : ∀ v u s2 x y H2, Inv X pins σ H2 s2 → RelV x v → RelV y u → R x y H2 → wpAny (model X.prog X.w) X.A (f v u) Q X.xe s2) :
    wpAny (model X.prog X.w) X.A (eval a X.env) (fun v s₁ => wpAny (model X.prog X.w) X.A (eval b X.env) (fun u s₂ => wpAny (model X.prog X.w) X.A (f v u) Q X.xe s₂) X.xe s₁) X.xe s := by
  refine thn (ha pins s σ H _ I h) fun v s1 ⟨x, H1, I1, r1, q1⟩ => ?_
  refine thn (hb pins s1 σ H1 _ I1 q1) fun u s2 ⟨y, H2, I2, r2, q2⟩ => ?_
  exact hf v u s2 x y H2 I2 r1 r2 q2
theorem pe_op {op : Operator} {r : R2} (ho : OpR X (binaryOp op) r) (ha : PE X a ta) (hb : PE X b tb) : PE X (.BinOp a op b pos) (tOp r ta tb) := by
  intro pins s σ H Q I h
  exact wpAny_BinOp (binT ha hb I h fun v u s2 x y H2 I2 rx ry q => ho pins s2 σ H2 x y v u Q I2 rx ry q)
theorem opI {f : Value → Value → Sem Value} {C : Int → Int → Prop} {g : Int → Int → Int}
    (rule : ∀ (i j : Int) (t u : Tok) (s : Shared) (Q : Value → Shared → Prop) (E : Value → Shared → Prop), C i j → Q (.int (g i j) s.toks) { s with toks := s.toks + 1 } → wpAny (model X.prog X.w) X.A (f (.int i t) (.int j u)) Q E s) :
    OpR X f (rI C fun i j => .int (g i j)) := by
  intro pins s σ H x y v u Q I rx ry h
  obtain ⟨i, j, rfl, rfl, hc, q⟩ := h
  obtain ⟨t, rfl⟩ := rx
  obtain ⟨t', rfl⟩ := ry
  exact rule i j t t' s _ _ hc ⟨.int (g i j), H, I.tok _, ⟨_, rfl⟩, q⟩
theorem opI0 {f : Value → Value → Sem Value} {g : Int → Int → Int}
    (rule : ∀ (i j : Int) (t u : Tok) (s : Shared) (Q : Value → Shared → Prop) (E : Value → Shared → Prop), Q (.int (g i j) s.toks) { s with toks := s.toks + 1 } → wpAny (model X.prog X.w) X.A (f (.int i t) (.int j u)) Q E s) :
    OpR X f (rI0 fun i j => .int (g i j)) := by
  intro pins s σ H x y v u Q I rx ry h
  obtain ⟨i, j, rfl, rfl, q⟩ := h
  obtain ⟨t, rfl⟩ := rx
  obtain ⟨t', rfl⟩ := ry
  exact rule i j t t' s _ _ ⟨.int (g i j), H, I.tok _, ⟨_, rfl⟩, q⟩
theorem opB0 {f : Value → Value → Sem Value} {g : Int → Int → Bool}
    (rule : ∀ (i j : Int) (t u : Tok) (s : Shared) (Q : Value → Shared → Prop) (E : Value → Shared → Prop), Q (.bool (g i j)) s → wpAny (model X.prog X.w) X.A (f (.int i t) (.int j u)) Q E s) :
    OpR X f (rI0 fun i j => .bl (g i j)) := by
  intro pins s σ H x y v u Q I rx ry h
  obtain ⟨i, j, rfl, rfl, q⟩ := h
  obtain ⟨t, rfl⟩ := rx
  obtain ⟨t', rfl⟩ := ry
  exact rule i j t t' s _ _ ⟨.bl (g i j), H, I, rfl, q⟩
def CPow (i j : Int) : Prop := 0 ≤ j ∧ j ≤ 1000000 ∧ i.natAbs < 2 ^ 64
def CMul (i j : Int) : Prop := (-(2 ^ 64) < i ∧ i < 2 ^ 64) ∨ (-(2 ^ 64) < j ∧ j < 2 ^ 64)
theorem CMul.ok {i j : Int} (h : CMul i j) : IntMulOk i j := by
  rcases h with ⟨h1, h2⟩ | ⟨h1, h2⟩
  · exact .of_left (intBits_le_64 h1 h2)
  · exact .of_right (intBits_le_64 h1 h2)
theorem two_pow_nn (k : Nat) : (0 : Int) ≤ 2 ^ k := by
  rw [two_pow_cast]
  exact Int.natCast_nonneg _
theorem op_add : OpR X (binaryOp .Add) (rI0 fun i j => .int (i + j)) := opI0 fun _ _ _ _ _ _ _ q => add_int q
theorem op_sub : OpR X (binaryOp .Sub) (rI0 fun i j => .int (i - j)) := opI0 fun _ _ _ _ _ _ _ q => sub_int q
theorem op_mul : OpR X (binaryOp .Mult) (rI CMul fun i j => .int (i * j)) := opI fun _ _ _ _ _ _ _ hc q => mul_int q hc.ok
theorem op_mod : OpR X (binaryOp .Mod) (rI (fun _ j => 0 < j) fun i j => .int (i % j)) := opI fun i j _ _ _ _ _ hc q => by
  have h1 : (0 : Int) < j := hc
  exact mod_int' (by omega) (by rw [Int.fmod_eq_emod_of_nonneg i (by omega)]; exact q)
theorem op_pow : OpR X (binaryOp .Pow) (rI CPow fun i j => .int (i ^ j.toNat)) := opI fun _ _ _ _ _ _ _ hc q => pow_int_small hc.1 hc.2.1 hc.2.2 q
theorem op_shr : OpR X (binaryOp .RShift) (rI (fun _ j => 0 ≤ j) fun i j => .int (i / 2 ^ j.toNat)) := opI fun i j _ _ _ _ _ hc q =>
  rshift_int hc (by rw [Int.fdiv_eq_ediv_of_nonneg i (two_pow_nn _)]; exact q)
theorem op_and : OpR X (binaryOp .BitAnd) (rI0 fun i j => .int (Builtin.bitAnd i j)) := opI0 fun _ _ _ _ _ _ _ q => and_int q
end
def scal : V → V → Bool
  | .non, .non => true | .non, .int _ => true | .int _, .non => true | .non, .bl _ => true | .bl _, .non => true | .non, .str _ => true | .str _, .non => true
  | .int _, .int _ => true | .bl _, .bl _ => true | .str _, .str _ => true | .byt _, .byt _ => true
  | .int _, .str _ => true | .str _, .int _ => true | .bl _, .str _ => true | .str _, .bl _ => true
  | _, _ => false
def rEq : R2 := fun x y H Q => scal x y = true ∧ Q (.bl (decide (x = y))) H
def rNe : R2 := fun x y H Q => scal x y = true ∧ Q (.bl (!decide (x = y))) H
theorem dec_int {i j : Int} : decide (V.int i = V.int j) = (i == j) := by
  rw [Bool.eq_iff_iff]
  simp
theorem dec_bl {i j : Bool} : decide (V.bl i = V.bl j) = (i == j) := by
  rw [Bool.eq_iff_iff]
  simp
theorem dec_str {i j : Str} : decide (V.str i = V.str j) = (i == j) := by
  rw [Bool.eq_iff_iff]
  simp
theorem dec_byt {i j : Array UInt8} : decide (V.byt i = V.byt j) = (i.toList == j.toList) := by
  rw [Bool.eq_iff_iff]
  cases i
  cases j
  simp
section
variable {X : Cx} {a b c : Expr} {ta tb tc : TE} {pos : Pos}
theorem fin_bl {pins : List (Addr × Obj)} {σ : St} {H : Hp} {s : Shared} {Q : VK} {k k' : Bool} (I : Inv X pins σ H s) (q : Q (.bl k) H) (e : k = k') : EP X pins σ Q (.bool k') s := by
  subst e
  exact ⟨.bl k, H, I, rfl, q⟩
theorem op_eq : OpR X (compareOp .Eq) rEq := by
  intro pins s σ H x y v u Q I rx ry h
  obtain ⟨hs, q⟩ := h
  cases x with
  | non =>
    cases rx
    cases y with
    | non => cases ry; exact PySem.EqNone.eq_none_none (fin_bl I q (by simp))
    | bl j => cases ry; exact PySem.EqNone.eq_none_bool (fin_bl I q (by simp))
    | int j => obtain ⟨t', rfl⟩ := ry; exact PySem.EqNone.eq_none_int (fin_bl I q (by simp))
    | str j => obtain ⟨t', rfl⟩ := ry; exact PySem.EqNone.eq_none_str (fin_bl I q (by simp))
    | _ => exact absurd (show false = true from hs) Bool.false_ne_true
  | bl i =>
    cases rx
    cases y with
    | non => cases ry; exact PySem.EqNone.eq_bool_none (fin_bl I q (by simp))
    | bl j => cases ry; exact eq_bool (fin_bl I q dec_bl)
    | str j => obtain ⟨t', rfl⟩ := ry; exact PySem.EqMixed.eq_bool_str (fin_bl I q (by simp))
    | _ => exact absurd (show false = true from hs) Bool.false_ne_true
  | int i =>
    obtain ⟨t, rfl⟩ := rx
    cases y with
    | non => cases ry; exact PySem.EqNone.eq_int_none (fin_bl I q (by simp))
    | int j => obtain ⟨t', rfl⟩ := ry; exact eq_int (fin_bl I q dec_int)
    | str j => obtain ⟨t', rfl⟩ := ry; exact PySem.EqMixed.eq_int_str (fin_bl I q (by simp))
    | _ => exact absurd (show false = true from hs) Bool.false_ne_true
  | str i =>
    obtain ⟨t, rfl⟩ := rx
    cases y with
    | non => cases ry; exact PySem.EqNone.eq_str_none (fin_bl I q (by simp))
    | bl j => cases ry; exact PySem.EqMixed.eq_str_bool (fin_bl I q (by simp))
    | int j => obtain ⟨t', rfl⟩ := ry; exact PySem.EqMixed.eq_str_int (fin_bl I q (by simp))
    | str j => obtain ⟨t', rfl⟩ := ry; exact eq_str (fin_bl I q dec_str)
    | _ => exact absurd (show false = true from hs) Bool.false_ne_true
  | byt i =>
    obtain ⟨t, rfl⟩ := rx
    cases y with
    | byt j => obtain ⟨t', rfl⟩ := ry; exact PySem.W.eq_bytes (fin_bl I q dec_byt)
    | _ => exact absurd (show false = true from hs) Bool.false_ne_true
  | _ => cases y <;> exact absurd (show false = true from hs) Bool.false_ne_true
theorem op_ne : OpR X (compareOp .NotEq) rNe := by
  intro pins s σ H x y v u Q I rx ry h
  obtain ⟨hs, q⟩ := h
  cases x with
  | non =>
    cases rx
    cases y with
    | non => cases ry; exact PySem.EqNone.ne_none_none (fin_bl I q (by simp))
    | bl j => cases ry; exact PySem.EqNone.ne_none_bool (fin_bl I q (by simp))
    | int j => obtain ⟨t', rfl⟩ := ry; exact PySem.EqNone.ne_none_int (fin_bl I q (by simp))
    | str j => obtain ⟨t', rfl⟩ := ry; exact PySem.EqNone.ne_none_str (fin_bl I q (by simp))
    | _ => exact absurd (show false = true from hs) Bool.false_ne_true
  | bl i =>
    cases rx
    cases y with
    | non => cases ry; exact PySem.EqNone.ne_bool_none (fin_bl I q (by simp))
    | bl j => cases ry; exact ne_bool (fin_bl I q (congrArg not dec_bl))
    | str j => obtain ⟨t', rfl⟩ := ry; exact PySem.EqMixed.ne_bool_str (fin_bl I q (by simp))
    | _ => exact absurd (show false = true from hs) Bool.false_ne_true
  | int i =>
    obtain ⟨t, rfl⟩ := rx
    cases y with
    | non => cases ry; exact PySem.EqNone.ne_int_none (fin_bl I q (by simp))
    | int j => obtain ⟨t', rfl⟩ := ry; exact ne_int (fin_bl I q (congrArg not dec_int))
    | str j => obtain ⟨t', rfl⟩ := ry; exact PySem.EqMixed.ne_int_str (fin_bl I q (by simp))
    | _ => exact absurd (show false = true from hs) Bool.false_ne_true
  | str i =>
    obtain ⟨t, rfl⟩ := rx
    cases y with
    | non => cases ry; exact PySem.EqNone.ne_str_none (fin_bl I q (by simp))
    | bl j => cases ry; exact PySem.EqMixed.ne_str_bool (fin_bl I q (by simp))
    | int j => obtain ⟨t', rfl⟩ := ry; exact PySem.EqMixed.ne_str_int (fin_bl I q (by simp))
    | str j => obtain ⟨t', rfl⟩ := ry; exact ne_str (fin_bl I q (congrArg not dec_str))
    | _ => exact absurd (show false = true from hs) Bool.false_ne_true
  | byt i =>
    obtain ⟨t, rfl⟩ := rx
    cases y with
    | byt j => obtain ⟨t', rfl⟩ := ry; exact PySem.W.ne_bytes (fin_bl I q (congrArg not dec_byt))
    | _ => exact absurd (show false = true from hs) Bool.false_ne_true
  | _ => cases y <;> exact absurd (show false = true from hs) Bool.false_ne_true
theorem op_lt : OpR X (compareOp .Lt) (rI0 fun i j => .bl (decide (i < j))) := opB0 fun _ _ _ _ _ _ _ q => lt_int q
theorem op_le : OpR X (compareOp .LtE) (rI0 fun i j => .bl (decide (i ≤ j))) := opB0 fun _ _ _ _ _ _ _ q => le_int q
theorem op_ge : OpR X (compareOp .GtE) (rI0 fun i j => .bl (decide (j ≤ i))) := opB0 fun _ _ _ _ _ _ _ q => ge_int q
theorem op_lt_str : OpR X (compareOp .Lt) (fun x y H Q => ∃ i j, x = .str i ∧ y = .str j ∧ Q (.bl (decide (i.cps.toList < j.cps.toList))) H) := by
  intro pins s σ H x y v u Q I rx ry h
  obtain ⟨i, j, rfl, rfl, q⟩ := h
  obtain ⟨t, rfl⟩ := rx
  obtain ⟨t', rfl⟩ := ry
  exact lt_str (fin_bl I q rfl)
theorem op_in_str : OpR X (compareOp .In) (fun x y H Q => ∃ i j, x = .str i ∧ y = .str j ∧ Q (.bl (!(Builtin.Str.occurrences j i 0 j.length 1).isEmpty)) H) := by
  intro pins s σ H x y v u Q I rx ry h
  obtain ⟨i, j, rfl, rfl, q⟩ := h
  obtain ⟨t, rfl⟩ := rx
  obtain ⟨t', rfl⟩ := ry
  exact in_str (fin_bl I q rfl)
theorem op_notin_str : OpR X (compareOp .NotIn) (fun x y H Q => ∃ i j, x = .str i ∧ y = .str j ∧ Q (.bl (!(!(Builtin.Str.occurrences j i 0 j.length 1).isEmpty))) H) := by
  intro pins s σ H x y v u Q I rx ry h
  obtain ⟨i, j, rfl, rfl, q⟩ := h
  obtain ⟨t, rfl⟩ := rx
  obtain ⟨t', rfl⟩ := ry
  exact notIn_str (fin_bl I q rfl)
theorem nomark (b : Expr) {op : CmpOp} (h : op ≠ .In := by decide) (h2 : op ≠ .NotIn := by decide) : behindInMarks op b = false := by
  have e1 : (op == CmpOp.In) = false := by cases op <;> first | rfl | exact absurd rfl h
  have e2 : (op == CmpOp.NotIn) = false := by cases op <;> first | rfl | exact absurd rfl h2
  cases b <;> simp [behindInMarks, e1, e2]
theorem pe_cmpR {op : CmpOp} {r : R2} (ho : OpR X (compareOp op) r) (ha : PE X a ta) (hb : PE X b tb) (hm : behindInMarks op b = false) : PE X (.Compare a [op] [b] pos) (tOp r ta tb) := by
  intro pins s σ H Q I h
  exact wpAny_Compare1 (binT ha hb I h fun v u s2 x y H2 I2 rx ry q => ho pins s2 σ H2 x y v u Q I2 rx ry q) hm
def tTest (t : TE) : TT := fun σ H Q => t σ H fun x H' => ∃ k, x = .bl k ∧ Q k H'
theorem pt_cmpR {op : CmpOp} {r : R2} (ho : OpR X (compareOp op) r) (ha : PE X a ta) (hb : PE X b tb) (hm : behindInMarks op b = false) : PT X (.Compare a [op] [b] pos) (tTest (tOp r ta tb)) := by
  intro pins s σ H Q I h
  refine wpAny_isTrue_Compare1 (thn (ha pins s σ H _ I h) fun v s1 ⟨x, H1, I1, r1, q1⟩ => thn (hb pins s1 σ H1 _ I1 q1) fun u s2 ⟨y, H2, I2, r2, q2⟩ =>
    thn (ho pins s2 σ H2 x y v u _ I2 r1 r2 q2) fun c s3 ⟨z, H3, I3, r3, k, e, q3⟩ => ?_) hm
  subst e
  cases r3
  exact wpAny_truthy_bool ⟨H3, I3, q3⟩
def tChain (r r' : R2) (ta tb tc : TE) : TE := fun σ H Q => ta σ H fun x H1 => tb σ H1 fun y H2 => r x y H2 fun z H3 => ∃ k, z = .bl k ∧
  (if k = true then tc σ H3 fun w' H4 => r' y w' H4 Q else Q (.bl false) H3)
theorem pt_chain {op op' : CmpOp} {r r' : R2} (ho : OpR X (compareOp op) r) (ho' : OpR X (compareOp op') r') (ha : PE X a ta) (hb : PE X b tb) (hc : PE X c tc)
    (hm : lastMarks [op, op'] [b, c] = false := by with_unfolding_all rfl) : PT X (.Compare a [op, op'] [b, c] pos) (tTest (tChain r r' ta tb tc)) := by
  intro pins s σ H Q I h
  refine isTrue_chain (thn (ha pins s σ H _ I h) fun v s1 ⟨x, H1, I1, r1, q1⟩ => test_link (thn (hb pins s1 σ H1 _ I1 q1) fun u s2 ⟨y, H2, I2, r2, q2⟩ =>
    thn (ho pins s2 σ H2 x y v u _ I2 r1 r2 q2) fun d s3 ⟨z, H3, I3, r3, k, e, q3⟩ => ?_)) hm
  subst e
  cases r3
  refine wpAny_truthy_bool ?_
  cases k with
  | false =>
    obtain ⟨k', e', q'⟩ := q3
    cases e'
    exact ite_ff ⟨H3, I3, q'⟩
  | true =>
    refine ite_tt (test_last (thn (hc pins s3 σ H3 _ I3 q3) fun w' s4 ⟨z', H4, I4, r4, q4⟩ => thn (ho' pins s4 σ H4 y z' u w' _ I4 r2 r4 q4) fun d' s5 ⟨z2, H5, I5, r5, k2, e2, q5⟩ => ?_))
    subst e2
    cases r5
    exact wpAny_truthy_bool ⟨H5, I5, q5⟩
def TruV (K : PySem.W.Frag) (x : V) (H : Hp) (k : Bool) : Prop :=
  match x with
  | .non => k = false
  | .bl b => k = b
  | .int i => k = (i != 0)
  | .str y => y.length ≤ sizeLine ∧ k = ((y.length : Int) != 0)
  | .byt y => y.size ≤ sizeLine ∧ k = ((y.size : Int) != 0)
  | .ref p => (∃ xs, SqL K H p xs ∧ k = !xs.isEmpty) ∨ (∃ xs, SqT K H p xs ∧ k = !xs.isEmpty) ∨ ∃ kvs, H p = some (.dK kvs) ∧ k = !kvs.isEmpty
  | _ => False
theorem isEmpty_kv {κ : Type} {kvs : List (κ × V)} {vs : List (κ × Value)} (r : KV kvs vs) : (!vs.isEmpty) = !kvs.isEmpty := by
  cases r <;> rfl
theorem isEmpty_of {xs : List V} {its : List Value} (r : Vals xs its) : (!its.toArray.isEmpty) = !xs.isEmpty := by
  cases r <;> simp
theorem line63 : (sizeLine : Nat) < 2 ^ 63 := by rw [sizeLine_eq]; decide
theorem tru_ok : TruR X (fun x H Q => ∃ k, TruV X.K x H k ∧ Q k H) := by
  intro pins s σ H x v Q I rx h
  obtain ⟨k, e, q⟩ := h
  have hl := line63
  have hs : sizeLine = 16777216 := sizeLine_eq
  cases x with
  | non =>
    cases rx
    have e' : k = false := e
    subst e'
    exact truthy_none ⟨H, I, q⟩
  | bl b =>
    cases rx
    have e' : k = b := e
    subst e'
    exact wpAny_truthy_bool ⟨H, I, q⟩
  | int i =>
    obtain ⟨t, rfl⟩ := rx
    have e' : k = (i != 0) := e
    subst e'
    exact PySem.P.truthy_int ⟨H, I, q⟩
  | str y =>
    obtain ⟨t, rfl⟩ := rx
    obtain ⟨hy, e'⟩ : y.length ≤ sizeLine ∧ k = ((y.length : Int) != 0) := e
    subst e'
    exact PySem.P.truthy_str (by omega) ⟨H, I.tok _, q⟩
  | byt y =>
    obtain ⟨t, rfl⟩ := rx
    obtain ⟨hy, e'⟩ : y.size ≤ sizeLine ∧ k = ((y.size : Int) != 0) := e
    subst e'
    exact PySem.W.truthy_bytes (by omega) ⟨H, I.tok _, q⟩
  | ref p =>
    cases rx
    have e' : (∃ xs, SqL X.K H p xs ∧ k = !xs.isEmpty) ∨ (∃ xs, SqT X.K H p xs ∧ k = !xs.isEmpty) ∨ ∃ kvs, H p = some (.dK kvs) ∧ k = !kvs.isEmpty := e
    rcases e' with ⟨xs, hx, e'⟩ | ⟨xs, hx, e'⟩ | ⟨kvs, hx, e'⟩
    · subst e'
      obtain ⟨its, r, pl, hz⟩ := I.list hx
      have hlen := r.length
      exact wpAny_truthy_list pl.isList (by simp only [List.size_toArray]; omega) ⟨H, I.tok _, by rw [isEmpty_of r]; exact q⟩
    · subst e'
      obtain ⟨its, r, pl, hz⟩ := I.tuple hx
      have hlen := r.length
      exact truthy_tuple pl (by simp only [List.size_toArray]; omega) ⟨H, I.tok _, by rw [isEmpty_of r]; exact q⟩
    · subst e'
      obtain ⟨hz, hS, vs, r, m⟩ : kvs.length ≤ sizeLine ∧ (p == sysModules) = false ∧ ∃ vs, KV kvs vs ∧ s.heap.DictOf (mixKind X.prog X.w) p vs := I.hok p _ hx
      have hlen : kvs.length = vs.length := Paired.length r
      exact wpAny_truthy_dict hS m (by omega) ⟨H, I.tok _, by rw [isEmpty_kv r]; exact q⟩
  | _ => exact (show False from e).elim
theorem pt_truth (ha : PE X a ta) (he : ∀ whole, isTrue a X.env whole = (do let v ← whole; standAt a.pos; holding [v] (truthy v))) :
    PT X a (fun σ H Q => ta σ H fun x H' => ∃ k, TruV X.K x H' k ∧ Q k H') := by
  intro pins s σ H Q I h
  exact isTrue_plain (thn (ha pins s σ H _ I h) fun v s1 ⟨x, H1, I1, r1, q1⟩ => tru_ok pins s1 σ H1 x v Q I1 r1 q1) (he _)
theorem op_add_str : OpR X (binaryOp .Add) (fun x y H Q => ∃ i j, x = .str i ∧ y = .str j ∧ i.length + j.length ≤ sizeLine ∧ Q (.str (i ++ j)) H) := by
  intro pins s σ H x y v u Q I rx ry h
  obtain ⟨i, j, rfl, rfl, hz, q⟩ := h
  obtain ⟨t, rfl⟩ := rx
  obtain ⟨t', rfl⟩ := ry
  exact add_str (fun t' tk => ⟨.str (i ++ j), H, I.tok _, ⟨_, rfl⟩, q⟩) hz
theorem vals1 {x : V} {us : List Value} (r : Vals [x] us) : ∃ u, us = [u] ∧ RelV x u := by
  cases r with
  | cons r1 r2 => cases r2; exact ⟨_, rfl, r1⟩
theorem vals2 {x y : V} {us : List Value} (r : Vals [x, y] us) : ∃ u w', us = [u, w'] ∧ RelV x u ∧ RelV y w' := by
  cases r with
  | cons r1 r2 =>
    cases r2 with
    | cons r3 r4 => cases r4; exact ⟨_, _, rfl, r1, r3⟩
theorem call_str_int : CallR X (.type "str") (fun xs H Q => ∃ i, xs = [.int i] ∧ i.natAbs.log2 < 1920 ∧ Q (.str (toString i)) H) := by
  intro pins s σ H xs us Q I r h
  obtain ⟨i, rfl, hz, q⟩ := h
  obtain ⟨u, rfl, t, rfl⟩ := vals1 r
  exact PySem.P.str_of_int hz ⟨.str _, H, I.tok _, ⟨_, rfl⟩, q⟩
end
end L2
namespace L2
open PySem PySem.Spec PyProof.Rows
structure ObjM (h : Heap) (x dx C : Addr) (mA : Str → Option Value) : Prop where
  obj : h.get? x = some (PySem.W.instObj C dx)
  ns : h.Ns1 dx mA
  ne : dx ≠ x
theorem lookIn_ns {h : Heap} {dx : Addr} {mA : Str → Option Value} (n : h.Ns1 dx mA) : ∃ od, h.get? dx = some od ∧ ∀ name, PySem.W.lookIn name od = some (mA name) := by
  obtain ⟨o, es, ep, ho, hd, hk, _, hm⟩ := n
  refine ⟨o, ho, fun name => ?_⟩
  have e := hm name
  unfold nsFind findBy at e
  rw [← Array.find?_toList] at e
  unfold PySem.W.lookIn
  rw [hd]
  dsimp only
  split
  · rename_i y q
    rw [q] at e
    exact congrArg some e
  · rename_i q
    rw [q] at e
    have a : es.toList.any (·.refKey) = false := by
      rw [List.any_eq_false]
      intro y hy
      obtain ⟨z, t, hkey⟩ := hk y (Array.mem_toList_iff.mp hy)
      simp [DictEntry.refKey, hkey]
    have a' : ¬ es.toList.any (·.refKey) = true := by rw [a]; exact Bool.false_ne_true
    rw [if_neg a']
    exact congrArg some e
theorem ObjM.look {h : Heap} {x dx C : Addr} {mA : Str → Option Value} (I : ObjM h x dx C mA) : ∃ od, PySem.W.InstAt h x (PySem.W.instObj C dx) C (some od) ∧ ∀ name, PySem.W.lookIn name od = some (mA name) :=
  let ⟨od, ho, hl⟩ := lookIn_ns I.ns
  ⟨od, ⟨I.obj, rfl, rfl, ho⟩, hl⟩
section
variable {prog : Program} {w : World} {A : Around} {E : Value → Shared → Prop} {s : Shared} {K : PySem.W.Frag} {x dx C f : Addr} {mA : Str → Option Value} {name : Str} {v : Value}
end
theorem RelO.some_of {v : V} {o : Option Value} (r : RelO (some v) o) : ∃ u, o = some u ∧ RelV v u := by
  cases o with
  | none => exact (show False from r).elim
  | some u => exact ⟨u, rfl, r⟩
section
variable {P : Program} {w : World} {H H' : Hp} {h h' : Heap} {a C dx : Addr} {fs fs' : List (Str × V)}
theorem ins_get (hok : HOk P w H h) (e : H a = some (.ins C dx fs)) : ∃ mA, ObjM h a dx C mA ∧ (∀ f, RelO (fs.lookup f) (mA f)) ∧ PySem.Within mA (fs.map (·.1)) ∧ fs.length ≤ 1000 ∧ H dx = some (.own a) := by
  obtain ⟨d, z, ne, ob, mA, n, r, q⟩ := (show ObjOk P w H h a (.ins C dx fs) from hok a _ e)
  exact ⟨mA, ⟨ob, n, ne⟩, r, q, z, d⟩
end
structure Cls (K : PySem.W.Frag) (C : Addr) : Prop where
  pg : PySem.W.plainGet K C Str.empty = true
  hd : PySem.W.hasDictIn K C = true
  po : PySem.W.plainOver K C = true
  sa : PySem.W.findIn K (.ref C) "__setattr__" = some (some (.builtin "object.__setattr__"))
theorem Cls.get {K : PySem.W.Frag} {C : Addr} (c : Cls K C) (f : Str) : PySem.W.plainGet K C f = true := c.pg
section
variable {X : Cx} {pins : List (Addr × Obj)} {σ : St} {H : Hp} {s : Shared} {a C dx : Addr} {fs : List (Str × V)} {f : Str} {v : V} {A : Around} {E : Value → Shared → Prop}
end
section
variable {X : Cx} {o e value : Expr} {f : Str} {pos pos' tpos : Pos} {ta tv : TE}
end
section
variable {X : Cx} {pins : List (Addr × Obj)} {σ : St} {H : Hp} {s : Shared} {A : Around} {E : Value → Shared → Prop} {Q : Value → Shared → Prop} {c : Value} {b : Bool}
inductive TyOf (K : PySem.W.Frag) (H : Hp) : V → Value → Prop where
  | non : TyOf K H .non (.type "NoneType")
  | bl (x : Bool) : TyOf K H (.bl x) (.type "bool")
  | int (i : Int) : TyOf K H (.int i) (.type "int")
  | str (x : Str) : TyOf K H (.str x) (.type "str")
  | flt (x : UInt64) : TyOf K H (.flt x) (.type "float")
  | lst {a : Addr} {xs : List V} (e : H a = some (.lst xs)) : TyOf K H (.ref a) (.type "list")
  | frz {a : Addr} {o : Obj} {xs : List V} (e : H a = some (.frz o (.lst xs))) : TyOf K H (.ref a) (.type "list")
  | tup {a : Addr} {xs : List V} (e : H a = some (.tup xs)) : TyOf K H (.ref a) (.type "tuple")
  | dK {a : Addr} {kvs : List (Key × V)} (e : H a = some (.dK kvs)) : TyOf K H (.ref a) (.type "dict")
  | dT {a : Addr} {kvs : List (List Key × V)} (e : H a = some (.dT kvs)) : TyOf K H (.ref a) (.type "dict")
  | ins {a C dx : Addr} {fs : List (Str × V)} (e : H a = some (.ins C dx fs)) (cl : Cls K C) (ha : PySem.W.findIn K (.ref C) "__class__" = some (some (.builtin "object.__class__")))
      (hn : PySem.W.specialIn K (.builtin "object.__class__") "__get__" = some (some (.builtin "getset_descriptor.__get__"))) (htk : PySem.W.takesIn K (.builtin "object.__class__") = some true)
      (hm : PySem.W.mroIn K C (.type "object") = some true) : TyOf K H (.ref a) (.ref C)
theorem isinst_ok {x : V} {u t : Value} (I : Inv X pins σ H s) (rx : RelV x u) (ty : TyOf X.K H x t) (e : PySem.W.kitOne X.K t c = some b) (h : ∀ tk, Q (.bool b) { s with toks := tk }) :
    wpAny (model X.prog X.w) A (call (.builtin "isinstance") [u, c]) Q E s := by
  cases ty with
  | non => cases (show u = Value.none from rx); exact PySem.W.kia_one PySem.W.kitx_none I.kIn True.intro e (fun z => nomatch z) h
  | bl y => cases (show u = Value.bool y from rx); exact PySem.W.kia_one PySem.W.kitx_bool I.kIn True.intro e (fun z => nomatch z) h
  | int i => obtain ⟨t, q⟩ := (show ∃ t, u = Value.int i t from rx); cases q; exact PySem.W.kia_one PySem.W.kitx_int I.kIn True.intro e (fun z => nomatch z) h
  | str y => obtain ⟨t, q⟩ := (show ∃ t, u = Value.str y t from rx); cases q; exact PySem.W.kia_one PySem.W.kitx_str I.kIn True.intro e (fun z => nomatch z) h
  | flt y => obtain ⟨t, q⟩ := (show ∃ t, u = Value.float y t from rx); cases q; exact PySem.W.kia_one PySem.W.kitx_float I.kIn True.intro e (fun z => nomatch z) h
  | @lst a xs ea =>
    cases (show u = Value.ref a from rx)
    obtain ⟨_, _, n, _, h1⟩ := (show ObjOk X.prog X.w H s.heap a (.lst xs) from I.hok a _ ea)
    exact PySem.W.kia_one PySem.W.kitx_list I.kIn ⟨_, h1, rfl⟩ e (fun z => nomatch z) h
  | @frz a ob xs ea =>
    cases (show u = Value.ref a from rx)
    obtain ⟨_, _, _, n, _, h1⟩ := (show ObjOk X.prog X.w H s.heap a (.frz ob (.lst xs)) from I.hok a _ ea)
    exact PySem.W.kia_one PySem.W.kitx_list I.kIn ⟨_, h1, rfl⟩ e (fun z => nomatch z) h
  | @tup a xs ea =>
    cases (show u = Value.ref a from rx)
    obtain ⟨_, _, _, p⟩ := (show ObjOk X.prog X.w H s.heap a (.tup xs) from I.hok a _ ea)
    obtain ⟨o, h1, h2, _⟩ := p
    exact PySem.W.kia_one PySem.W.kitx_tuple I.kIn ⟨o, h1, h2⟩ e (fun z => nomatch z) h
  | @dK a kvs ea =>
    cases (show u = Value.ref a from rx)
    obtain ⟨_, _, vs, _, p⟩ := (show ObjOk X.prog X.w H s.heap a (.dK kvs) from I.hok a _ ea)
    obtain ⟨o, es, ep, h1, h2, _⟩ := p
    exact PySem.W.kia_one PySem.W.kitx_dict I.kIn ⟨o, h1, h2.1⟩ e (fun z => nomatch z) h
  | @dT a kvs ea =>
    cases (show u = Value.ref a from rx)
    obtain ⟨_, _, xs, _, o, es, ep, h1, h2, _⟩ := (show ObjOk X.prog X.w H s.heap a (.dT kvs) from I.hok a _ ea)
    exact PySem.W.kia_one PySem.W.kitx_dict I.kIn ⟨o, h1, h2.1⟩ e (fun z => nomatch z) h
  | @ins a C dx fs ea cl ha hn htk hm =>
    cases (show u = Value.ref a from rx)
    obtain ⟨mA, O, _⟩ := ins_get I.hok ea
    obtain ⟨od, J, _⟩ := O.look
    exact PySem.W.kia_one (PySem.W.kitx_own (cl.get _) cl.hd ha hn htk hm) I.kIn J e (fun z => nomatch z) h
end
end L2
namespace L2
open PySem PySem.Spec PyProof.Rows
structure Room (k : Nat) (A : Around) : Prop where
  hd : A.handled = none
  dp : A.depth + 3 * k + 5 < recursionLimit
  un : A.units + 16 * k + 200 < cLine
theorem Room.mono {j k : Nat} {A : Around} (r : Room k A) (h : j ≤ k) : Room j A := ⟨r.hd, by have := r.dp; omega, by have := r.un; omega⟩
theorem Room.deeper {k : Nat} {A : Around} (r : Room (k + 1) A) (env : Env) : Room k (A.deeper env) :=
  ⟨r.hd, by have := r.dp; show A.depth + 1 + 3 * k + 5 < _; omega, by have := r.un; show A.units + 3 + 16 * k + 200 < _; omega⟩
theorem Room.in1 {k : Nat} {A : Around} (r : Room (k + 1) A) : Room k A.in1 :=
  ⟨r.hd, by have := r.dp; show A.depth + 3 * k + 5 < _; omega, by have := r.un; show A.units + 1 + 16 * k + 200 < _; omega⟩
theorem Room.depth {k : Nat} {A : Around} (r : Room k A) : A.depth < recursionLimit := by have := r.dp; omega
theorem Room.units {k : Nat} {A : Around} (r : Room k A) : A.units + 64 < cLine := by have := r.un; omega
def tNil : TA := fun _ H Q => Q [] H
def tCons (ta : TE) (tr : TA) : TA := fun σ H Q => ta σ H fun x H1 => tr σ H1 fun xs H2 => Q (x :: xs) H2
section
variable {X : Cx} {e : Expr} {es : List Expr} {te : TE} {t : TA} {pos : Pos}
theorem pa_nil : PA X [] tNil := fun _ _ _ _ H Q I h => Calls.spliced_nil ⟨[], H, I, .nil, h⟩
theorem pa_cons (ha : PE X e te) (hr : PA X es t) (hs : starEach (e :: es) X.env = (false, eval e X.env) :: starEach es X.env := by rfl) : PA X (e :: es) (tCons te t) := by
  intro pos pins s σ H Q I h
  rw [hs]
  show wpAny _ _ (spliced ((false, eval e X.env) :: backTo pos (starEach es X.env))) _ _ s
  refine Calls.spliced_cons (thn (ha pins s σ H _ I h) fun u s1 ⟨x, H1, I1, r1, q1⟩ => ?_)
  exact thn (hr pos pins s1 σ H1 _ I1 q1) fun us s2 ⟨xs, H2, I2, r2, q2⟩ => ⟨x :: xs, H2, I2, .cons r1 r2, q2⟩
def tTup (t : TA) : TE := fun σ H Q => t σ H fun xs H1 => xs.length ≤ sizeLine ∧ ∀ p, H1 p = none → Q (.ref p) (upd H1 p (.tup xs))
def tLst (t : TA) : TE := fun σ H Q => t σ H fun xs H1 => xs.length ≤ sizeLine ∧ ∀ p, H1 p = none → Q (.ref p) (upd H1 p (.lst xs))
theorem pe_tup {x1} (h : PA X es t) : PE X (.Tuple es x1 pos) (tTup t) := by
  intro pins s σ H Q I hq
  refine wpAny_Tuple_spliced (thn (h pos pins s σ H _ I hq) fun us s1 ⟨xs, H1, I1, r, z, q⟩ => ⟨by rw [← r.length]; exact z, ?_⟩)
  have hf : H1 s1.heap.objs.size = none := I1.hok.fresh (Nat.le_refl _)
  refine ⟨.ref s1.heap.objs.size, upd H1 s1.heap.objs.size (.tup xs), I1.laid (t' := s1.toks) (fun b u e => Heap.get?_push_of_some _ e) (Nat.le_refl _) ?_, rfl, q _ hf⟩
  exact ⟨z, us, r, ⟨_, Heap.get?_push_size _ rfl, rfl, _, rfl⟩⟩
theorem pe_lst (h : PA X es t) : PE X (.List es pos) (tLst t) := by
  intro pins s σ H Q I hq
  refine wpAny_List_spliced (thn (h pos pins s σ H _ I hq) fun us s1 ⟨xs, H1, I1, r, z, q⟩ => ⟨by rw [← r.length]; exact z, ?_⟩)
  have hf : H1 s1.heap.objs.size = none := I1.hok.fresh (Nat.le_refl _)
  refine ⟨.ref s1.heap.objs.size, upd H1 s1.heap.objs.size (.lst xs), I1.laid (t' := s1.toks) (fun b u e => Heap.get?_push_of_some _ e) (Nat.le_refl _) ?_, rfl, q _ hf⟩
  exact ⟨z, us, 0, r, Heap.get?_push_size _ rfl⟩
end
abbrev Sp := List V → Hp → VK → XK → Prop
abbrev CXT := List Env → Hp → Shared → XK → Value → Shared → Prop
structure Env0 (P : Program) (w : World) (K : PySem.W.Frag) (mg : Str → Option Value) (base : Heap) (A : Around) (outer : List Env) (s : Shared) (H : Hp) : Prop where
  frames : A.frames = some outer
  mod : Mod K mg base
  bs : ∀ b o, base.get? b = some o → s.heap.get? b = some o ∧ H b = none
  bsz : base.objs.size ≤ s.heap.objs.size
  funs : s.heap.FunFrames base outer
  frf : ∀ b ∈ frs outer, H b = none
  hok : HOk P w H s.heap
  bare : AllBare s.gens
def CE (outer : List Env) (P : Program) (w : World) (H : Hp) (s : Shared) (Q : VK) (u : Value) (s' : Shared) : Prop :=
  ∃ v H', s'.os = s.os ∧ AllBare s'.gens ∧ Un (frs outer) [] H H' s.heap s'.heap ∧ HOk P w H' s'.heap ∧ RelV v u ∧ Q v H'
def CR (CX : CXT) (outer : List Env) (P : Program) (w : World) (H : Hp) (s : Shared) (Q : VK) (E : XK) (r : Result) (s' : Shared) : Prop :=
  match r with
  | .ok (.ret u) => CE outer P w H s Q u s'
  | .ok _ => False
  | .error e => CX outer H s E e s'
structure FnOk (P : Program) (w : World) (K : PySem.W.Frag) (mg : Str → Option Value) (base : Heap) (CX : CXT) (k : Nat) (f : Addr) (fd : FuncData) (ps : List Str) (sp : Sp) : Prop where
  len : ∀ vs H Q E, sp vs H Q E → vs.length = ps.length
  run : ∀ (A : Around) (outer : List Env) (s : Shared) (H : Hp) (args : Args) (us : List Value) (vs : List V) (Q : VK) (E : XK), Room k A → Env0 P w K mg base A outer s H → BindsTo s fd args (ps.zip us) → Vals vs us → sp vs H Q E →
    codeAny (model P w) A (.call (.ref f) args) (CR CX outer P w H s Q E) s
theorem FnOk.imp {P : Program} {w : World} {K : PySem.W.Frag} {mg : Str → Option Value} {base : Heap} {CX : CXT} {k : Nat} {f : Addr} {fd : FuncData} {ps : List Str} {sp sp' : Sp} (F : FnOk P w K mg base CX k f fd ps sp)
    (h : ∀ vs H Q E, sp' vs H Q E → sp vs H Q E) : FnOk P w K mg base CX k f fd ps sp' :=
  ⟨fun vs H Q E q => F.len vs H Q E (h _ _ _ _ q), fun A outer s H args us vs Q E hr he hb hv hs => F.run A outer s H args us vs Q E hr he hb hv (h _ _ _ _ hs)⟩
theorem Env0.in1 {P : Program} {w : World} {K : PySem.W.Frag} {mg : Str → Option Value} {base : Heap} {A : Around} {outer : List Env} {s : Shared} {H : Hp} (e : Env0 P w K mg base A outer s H) :
    Env0 P w K mg base A.in1 outer s H := ⟨e.frames, e.mod, e.bs, e.bsz, e.funs, e.frf, e.hok, e.bare⟩
section
variable {X : Cx} {pins : List (Addr × Obj)} {σ : St} {H : Hp} {s s' : Shared}
theorem Inv.env0 (I : Inv X pins σ H s) : Env0 X.prog X.w X.K X.mg X.base X.A X.stack s H :=
  ⟨I.ok.frames, I.ok.mod, I.bs, Nat.le_trans I.ok.bsz I.sz, I.stack, I.stkFree, I.hok, I.bare⟩
theorem Inv.after {Q : VK} {u : Value} (I : Inv X pins σ H s) (h : CE X.stack X.prog X.w H s Q u s') : EP X pins σ Q u s' := by
  obtain ⟨v, H', os, bare, un, hok, r, q⟩ := h
  obtain ⟨hh, g, d, t, os'⟩ := s'
  obtain rfl : os' = s.os := os
  exact ⟨v, H', I.call (h' := hh) (g' := g) (d' := d) (t' := t) (ch := []) un hok bare (fun b z => absurd z (by simp)), r, q⟩
end
def tCall (sp : Sp) (dvs : List V) (E : XK) (t : TA) : TE := fun σ H Q => t σ H fun vs H1 => sp (vs ++ dvs) H1 Q E
def Binds (K : PySem.W.Frag) (fd : FuncData) (ps : List Str) (ds : List Value) : Prop :=
  ∀ (s : Shared) (us : List Value), K.In s.heap → (us ++ ds).length = ps.length → BindsTo s fd ⟨us, []⟩ (ps.zip (us ++ ds))
theorem Binds.all {K : PySem.W.Frag} {fd : FuncData} {ps : List Str} (h : ∀ us : List Value, us.length = ps.length → bindArgs fd ⟨us, []⟩ = pure (ps.zip us)) : Binds K fd ps [] := fun s us _ hl => by
  rw [List.append_nil] at hl ⊢
  exact .of_eq (h us hl)
def Passes (CX : CXT) (X : Cx) (E : XK) : Prop := ∀ (pins : List (Addr × Obj)) (σ : St) (H : Hp) (s : Shared) (e : Value) (s' : Shared), Inv X pins σ H s → CX X.stack H s E e s' → X.xe e s'
section
variable {X : Cx} {CX : CXT} {k : Nat} {f C : Addr} {fd : FuncData} {ps : List Str} {sp : Sp} {dvs : List V} {ds : List Value} {E : XK} {x m : Str} {p pos apos : Pos} {e o : Expr} {es : List Expr} {ta : TE} {t : TA}
theorem run_fn {pins : List (Addr × Obj)} {σ : St} {H : Hp} {s : Shared} {Q : VK} {us : List Value} {vs : List V} (F : FnOk X.prog X.w X.K X.mg X.base CX k f fd ps sp) (hr : Room k X.A) (hb : Binds X.K fd ps ds) (hd : Vals dvs ds) (hx : Passes CX X E)
    (I : Inv X pins σ H s) (r : Vals vs us) (h : sp (vs ++ dvs) H Q E) : wpAny (model X.prog X.w) X.A (call (.ref f) us) (EP X pins σ Q) X.xe s := by
  have r2 : Vals (vs ++ dvs) (us ++ ds) := r.append hd
  have hl : (us ++ ds).length = ps.length := by rw [← r2.length]; exact F.len _ _ _ _ h
  refine wpAny_call (codeAny_mono (F.run X.A X.stack s H ⟨us, []⟩ (us ++ ds) (vs ++ dvs) Q E hr I.env0 (hb s us I.kIn hl) r2 h) fun r s' hq => ?_)
  cases r with
  | error e => exact hx pins σ H s e s' I hq
  | ok fl =>
    cases fl with
    | ret u => exact I.after hq
    | next => exact False.elim hq
    | brk => exact False.elim hq
    | cont => exact False.elim hq
theorem pe_call (F : FnOk X.prog X.w X.K X.mg X.base CX k f fd ps sp) (hr : Room k X.A) (hg : Gl X x) (hm : X.mg x = some (.ref f)) (hk : PySem.W.keepIn X.K (.ref f) = true) (hb : Binds X.K fd ps ds) (hd : Vals dvs ds) (hx : Passes CX X E)
    (ha : PA X (e :: es) t) (hdb : (x == ("__debug__" : Str)) = false := by decide) (he : starEach (e :: es) X.env = (false, eval e X.env) :: starEach es X.env := by rfl) (hpl : (backTo pos (starEach es X.env)).any (·.1) = false := by rfl) :
    PE X (.Call (.Name x p) (e :: es) [] pos) (tCall sp dvs E t) := by
  intro pins s σ H Q I h
  refine wpAny_Call_Name_kw (ld_glob I hg hm ?_ hdb)
  refine PySem.W.callWith_K (h₀ := X.base) I.ok.mod.kin hk (thn (ha pos pins s σ H _ I h) fun us s1 ⟨vs, H1, I1, r, q⟩ => ⟨I1.kIn, ?_⟩) he hpl
  exact run_fn F hr hb hd hx I1 r q
end
section
variable {X : Cx} {CX : CXT} {k : Nat} {f C : Addr} {fd : FuncData} {ps ks : List Str} {sp : Sp} {E : XK} {x m : Str} {p pos apos kpos : Pos} {e o : Expr} {es : List Expr} {kws : List Keyword} {te ta : TE} {t tk : TA} {nm : Option Str}
variable {g : List Value → List Value → List Value} {gV : List V → List V → List V}
end
structure FnScope (N P : List Str) (sc : Scope) : Prop where
  kind : sc.kind = .function
  co : sc.isCoroutine = false
  gen : sc.isGenerator = false
  nd : N.Nodup
  pre : N.take P.length = P
  par : ∀ x ∈ P, sc.names.lookup x = some .local ∨ sc.names.lookup x = some .cell
  nofree : ∀ y ∈ sc.names, y.2 ≠ .free
theorem bindL_out {kindOf : Str → Option NameKind} {x : Str} : ∀ {binds : List (Str × Value)} {m : Str → Option Value}, (∀ v, (x, v) ∉ binds) → bindL kindOf binds m x = m x
  | [], _, _ => rfl
  | (n, v) :: r, m, h => by
    unfold bindL
    rw [bindL_out fun w hw => h w (List.mem_cons_of_mem _ hw)]
    split
    · have : x ≠ n := by rintro rfl; exact h v List.mem_cons_self
      simp [this]
    · rfl
theorem bindC_out {kindOf : Str → Option NameKind} {x : Str} : ∀ {binds : List (Str × Value)} {m : Str → Option Value}, (∀ v, (x, v) ∉ binds) → bindC kindOf binds m x = m x
  | [], _, _ => rfl
  | (n, v) :: r, m, h => by
    unfold bindC
    rw [bindC_out fun w hw => h w (List.mem_cons_of_mem _ hw)]
    split
    · rfl
    · have : x ≠ n := by rintro rfl; exact h v List.mem_cons_self
      simp [this]
theorem bindL_get {kindOf : Str → Option NameKind} {x : Str} {v : Value} : ∀ {P : List Str} {vs : List Value} {i : Nat} {m : Str → Option Value}, P.Nodup → P[i]? = some x → vs[i]? = some v → kindOf x = some .local →
    bindL kindOf (P.zip vs) m x = some v
  | [], _, _, _, _, h, _, _ => by simp at h
  | _ :: _, [], _, _, _, _, h, _ => by simp at h
  | p :: P, w :: vs, 0, m, nd, h1, h2, hk => by
    simp at h1 h2; subst h1; subst h2
    show bindL kindOf ((p, w) :: P.zip vs) m p = _
    unfold bindL
    rw [bindL_out fun v hv => (List.nodup_cons.mp nd).1 (List.of_mem_zip hv).1, if_pos hk]
    simp
  | p :: P, w :: vs, i + 1, m, nd, h1, h2, hk => by
    show bindL kindOf ((p, w) :: P.zip vs) m x = _
    unfold bindL
    exact bindL_get (i := i) (List.nodup_cons.mp nd).2 (by simpa using h1) (by simpa using h2) hk
theorem bindC_get {kindOf : Str → Option NameKind} {x : Str} {v : Value} : ∀ {P : List Str} {vs : List Value} {i : Nat} {m : Str → Option Value}, P.Nodup → P[i]? = some x → vs[i]? = some v → kindOf x ≠ some .local →
    bindC kindOf (P.zip vs) m x = some v
  | [], _, _, _, _, h, _, _ => by simp at h
  | _ :: _, [], _, _, _, _, h, _ => by simp at h
  | p :: P, w :: vs, 0, m, nd, h1, h2, hk => by
    simp at h1 h2; subst h1; subst h2
    show bindC kindOf ((p, w) :: P.zip vs) m p = _
    unfold bindC
    rw [bindC_out fun v hv => (List.nodup_cons.mp nd).1 (List.of_mem_zip hv).1, if_neg hk]
    simp
  | p :: P, w :: vs, i + 1, m, nd, h1, h2, hk => by
    show bindC kindOf ((p, w) :: P.zip vs) m x = _
    unfold bindC
    exact bindC_get (i := i) (List.nodup_cons.mp nd).2 (by simpa using h1) (by simpa using h2) hk
def start (N : List Str) (vs : List V) : St := vs.map some ++ List.replicate (N.length - vs.length) none
def cxOf (CX : CXT) (P : Program) (w : World) (K : PySem.W.Frag) (mg : Str → Option Value) (base : Heap) (N : List Str) (qual : Str) (scope : Scope) (f : Addr) (cd : Value) (A : Around) (outer : List Env) (s : Shared) (H : Hp) (E : XK) : Cx where
  prog := P
  w := w
  K := K
  mg := mg
  base := base
  A := A.deeper (envOfC qual scope s.heap.objs.size f cd)
  N := N
  s₀ := s
  H₀ := H
  env := envOfC qual scope s.heap.objs.size f cd
  outer := outer
  stack := envOfC qual scope s.heap.objs.size f cd :: outer
  ex := []
  calm := true
  fn := fun _ => true
  pn := []
  xe := fun e s' => wpAny (model P w) (A.deeper (envOfC qual scope s.heap.objs.size f cd)) (leaving (envOfC qual scope s.heap.objs.size f cd) e) (fun _ s'' => CX outer H s E e s'') (fun e' s'' => CX outer H s E e' s'') s'
theorem cell_has {sc : Scope} {n : Nat} {x : Str} (h : sc.names.lookup x = some .cell) : ∃ c, (cellsFrom n sc.names []).lookup x = some c := by
  have q := PySem.W.cellsFrom_some sc.names n [] (.inl h)
  exact Option.isSome_iff_exists.mp q
theorem inv_start {CX : CXT} {P : Program} {w : World} {K : PySem.W.Frag} {mg : Str → Option Value} {base : Heap} {N ps : List Str} {qual : Str} {scope : Scope} {f : Addr} {cd : Value} {A : Around} {outer : List Env} {s s1 : Shared} {H : Hp} {E : XK} {us : List Value} {vs : List V}
    (S : FnScope N ps scope) (hd : A.handled = none) (e0 : Env0 P w K mg base A outer s H) (hl : vs.length = ps.length) (r : Vals vs us)
    (x : InCallC s s.heap.objs.size (bindL (envOfC qual scope s.heap.objs.size f cd).kindOf (ps.zip us) fun _ => none) (cellsFrom (s.heap.objs.size + 1) scope.names []) (bindC (envOfC qual scope s.heap.objs.size f cd).kindOf (ps.zip us) fun _ => none) s1) :
    Inv (cxOf CX P w K mg base N qual scope f cd A outer s H E) [] (start N vs) H s1 := by
  have hpl : ps.length ≤ N.length := by have := congrArg List.length S.pre; rw [List.length_take] at this; omega
  obtain ⟨h1, tk, rfl, hk⟩ := x.done
  have noA : ∀ b : Addr, b ∉ (cxOf CX P w K mg base N qual scope f cd A outer s H E).ex := fun b z => absurd (show b ∈ ([] : List Addr) from z) (by simp)
  refine ⟨⟨e0.mod, S.kind, rfl, rfl, Nat.le_refl _, fun y z c h1 h2 => ?_, fun y hy => ?_, fun y c _ h => ?_, fun _ => hd, Around.frames_deeper e0.frames, .inr ⟨rfl, rfl⟩, fun b z => absurd z (noA b), e0.bs, e0.bsz, fun b _ _ => noA b, fun b z => absurd z (noA b), e0.funs, e0.frf⟩,
    rfl, e0.bare, Un.kept hk, ⟨_, x.toInCall.ns, fun i y v h1 h2 h3 => ?_⟩, fun y c h => ⟨_, x.cell y c h⟩, e0.hok.fresh (Nat.le_refl _), fun y c h => ?_, fun p hp => absurd (show p ∈ ([] : List (Addr × Obj)) from hp) (by simp), e0.hok.kept hk, ?_⟩
  · exact name_of_addr x.apart (PySem.mem_of_lookup h1) (PySem.mem_of_lookup h2)
  · have hy : scope.names.lookup y = some .cell ∨ scope.names.lookup y = some .free := hy
    rcases hy with hy | hy
    · exact cell_has hy
    · exact absurd rfl (S.nofree _ (PySem.mem_of_lookup hy))
  · exact Nat.le_of_lt (x.above y c (PySem.mem_of_lookup h))
  · have hi : i < vs.length := by
      unfold start at h2
      by_cases hi : i < vs.length
      · exact hi
      · rw [List.getElem?_append_right (by simpa using hi)] at h2
        rw [List.getElem?_replicate] at h2
        split at h2 <;> cases h2
    have ha : vs[i]? = some v := by
      unfold start at h2
      rw [List.getElem?_append_left (by simpa using hi), List.getElem?_map] at h2
      cases e : vs[i]? with
      | none => rw [e] at h2; cases h2
      | some a => rw [e] at h2; cases h2; rfl
    obtain ⟨u, hu, rv⟩ := r.get ha
    have hp : ps[i]? = some y := by
      rw [← S.pre, List.getElem?_take_of_lt (by omega)]; exact h1
    have ndP : ps.Nodup := by rw [← S.pre]; exact S.nd.sublist (List.take_sublist _ _)
    refine ⟨u, rv, ?_⟩
    rcases S.par y (List.mem_of_getElem? hp) with k | k
    · exact .inl ⟨k, bindL_get ndP hp hu k⟩
    · obtain ⟨c, e⟩ := cell_has (n := s.heap.objs.size + 1) k
      refine .inr ⟨.inl k, c, e, ?_⟩
      have q := x.cell y c e
      rw [bindC_get ndP hp hu (by show scope.names.lookup y ≠ _; rw [k]; decide)] at q
      exact q
  · exact e0.hok.fresh (Nat.le_of_lt (x.above y c (PySem.mem_of_lookup h)))
  · unfold start
    show _ = N.length
    rw [List.length_append, List.length_map, List.length_replicate]
    omega
theorem fn_of {CX : CXT} {P : Program} {w : World} {K : PySem.W.Frag} {mg : Str → Option Value} {base : Heap} {k : Nat} {f : Addr} {name qual : Str} {params : Arguments} {body : List Stmt} {scope : Scope} {dV kV doc pm cdv ct oc : Value} {an od : Option Addr}
    {osl : Array (Option Value)} {N ps : List Str} {sp : Sp} (lk : K.lookup f = some ⟨oc, od, .func (PySem.W.fnOf name qual params body scope dV kV doc pm an cdv ct), osl⟩) (hcd : PySem.W.codeIn K cdv qual = true) (S : FnScope N ps scope)
    (len : ∀ vs H Q E, sp vs H Q E → vs.length = ps.length)
    (hbody : ∀ (A : Around) (outer : List Env) (s : Shared) (H : Hp) (vs : List V) (Q : VK) (E : XK), Room k (A.deeper (envOfC qual scope s.heap.objs.size f cdv)) → sp vs H Q E →
      ∃ t, PSs (cxOf CX P w K mg base N qual scope f cdv A outer s H E) body t ∧ t { nx := fun _ H' => Q .non H', rt := Q } (start N vs) H) :
    FnOk P w K mg base CX (k + 1) f (PySem.W.fnOf name qual params body scope dV kV doc pm an cdv ct) ps sp := by
  refine ⟨len, fun A outer s H args us vs Q E hr e0 hb r hsp => ?_⟩
  have hl := len _ _ _ _ hsp
  have KX : K.In s.heap := e0.mod.kin.keeps fun b o e => (e0.bs b o e).1
  have lim : s.heap.NoLimit := e0.mod.nolimit.keeps fun b o e => (e0.bs b o e).1
  have hkind : ∀ y ∈ ps.zip us, scope.names.lookup y.1 = some .local ∨ (scope.names.lookup y.1 = some .cell ∧ ((cellsFrom (s.heap.objs.size + 1) scope.names []).lookup y.1).isSome = true) := fun ⟨n, v⟩ hy => by
    rcases S.par n (List.of_mem_zip hy).1 with q | q
    · exact .inl q
    · exact .inr ⟨q, PySem.W.cellsFrom_some _ _ _ (.inl q)⟩
  refine codeAny_call_function hr.depth (KX _ _ lk) rfl S.co S.gen rfl (PySem.W.codeRec_of KX hcd) (hb _ _ _ _ ?_)
  refine wpAny_newFunctionEnv_cells S.kind hkind fun env he s1 x => ?_
  subst he
  refine ⟨lim.keeps x.toInCall.keep, codeAny_func ?_⟩
  obtain ⟨t, ht, hq⟩ := hbody A outer s H vs Q E (hr.deeper _) hsp
  have I : Inv (cxOf CX P w K mg base N qual scope f cdv A outer s H E) [] (start N vs) H s1 := inv_start S hr.hd e0 hl r x
  refine wpAny_mono (ht [] s1 (start N vs) H _ I hq) (fun fl s' hs => ?_) fun e s' hs => hs
  have fin : ∀ {σ' : St} {H' : Hp} {v : V} {u : Value}, Inv (cxOf CX P w K mg base N qual scope f cdv A outer s H E) [] σ' H' s' → RelV v u → Q v H' → CE outer P w H s Q u s' :=
    fun {σ' H' v u} J rv q => ⟨v, H', J.os, J.bare, J.base, J.hok, rv, q⟩
  cases fl with
  | ret u =>
    obtain ⟨v, σ', H', J, rv, q⟩ := hs
    exact fin J rv q
  | next =>
    obtain ⟨σ', H', J, q⟩ := hs
    exact fin (v := V.non) (u := Value.none) J rfl q
  | brk =>
    obtain ⟨_, _, _, q⟩ := hs
    exact False.elim q
  | cont =>
    obtain ⟨_, _, _, q⟩ := hs
    exact False.elim q
end L2
namespace L2
open PySem PySem.Spec PyProof.Rows
section
variable {X : Cx} {x : Str} {p pos : Pos} {e : Expr} {es : List Expr} {t : TA} {id T : String} {r : List V → Hp → VK → Prop}
def tCB (r : List V → Hp → VK → Prop) (t : TA) : TE := fun σ H Q => t σ H fun vs H1 => r vs H1 Q
theorem pe_callB (hc : CallR X (.builtin id) r) (hg : Gl X x) (hm : X.mg x = none) (hv : bootBuiltins x = some (.builtin id)) (ha : PA X (e :: es) t) (hn : x ≠ "__name__" := by decide) (hdb : (x == ("__debug__" : Str)) = false := by decide)
    (he : starEach (e :: es) X.env = (false, eval e X.env) :: starEach es X.env := by rfl) (hpl : (backTo pos (starEach es X.env)).any (·.1) = false := by rfl) : PE X (.Call (.Name x p) (e :: es) [] pos) (tCB r t) := by
  intro pins s σ H Q I h
  refine wpAny_Call_Name_kw (ld_blt I hg hm hv ?_ hn hdb)
  exact PyProof.Rows.callWith_builtin1 (thn (ha pos pins s σ H _ I h) fun us s1 ⟨vs, H1, I1, r1, q1⟩ => hc pins s1 σ H1 vs us Q I1 r1 q1) he hpl
theorem pe_callTy (hc : CallR X (.type T) r) (hg : Gl X x) (hm : X.mg x = none) (hv : bootBuiltins x = some (.type T)) (ha : PA X (e :: es) t) (hn : x ≠ "__name__" := by decide) (hdb : (x == ("__debug__" : Str)) = false := by decide)
    (he : starEach (e :: es) X.env = (false, eval e X.env) :: starEach es X.env := by rfl) (hpl : (backTo pos (starEach es X.env)).any (·.1) = false := by rfl) : PE X (.Call (.Name x p) (e :: es) [] pos) (tCB r t) := by
  intro pins s σ H Q I h
  refine wpAny_Call_Name_kw (ld_blt I hg hm hv ?_ hn hdb)
  exact PyProof.Rows.callWith_type1 (thn (ha pos pins s σ H _ I h) fun us s1 ⟨vs, H1, I1, r1, q1⟩ => hc pins s1 σ H1 vs us Q I1 r1 q1) he hpl
end
end L2
namespace HT
open PySem PyProof.Rows
section
open PySem.SeqAt
open PySem.AutoSeq1 (wpAny_loadPart')
open PySem.MeetsSeq PySem.MeetsSeq2 PySem.MeetsSeq3
end
section
variable {prog : Program} {w : World} {A : Around} {E : Value → Shared → Prop} {s : Shared}
theorem cat_tup {t b : Addr} {vs ws : List Value} {Q : Value → Shared → Prop} (ht : IsTup s.heap t vs.toArray) (hb : IsTup s.heap b ws.toArray) (hv : vs ≠ [])
    (h1 : ws = [] → Q (.ref t) s) (h2 : ws ≠ [] → Q (.ref s.heap.objs.size) { s with heap := s.heap.push { cls := .type "tuple", data := .seq (vs ++ ws).toArray } })
    (hsz : vs.length + ws.length ≤ sizeLine) : wpAny (model prog w) A (binaryOp .Add (.ref t) (.ref b)) Q E s := by
  obtain ⟨⟨cls, dd, data, sl⟩, ho, hc, n, hd⟩ := id ht
  obtain ⟨⟨cls2, dd2, data2, sl2⟩, ho2, hc2, n2, hd2⟩ := id hb
  simp only at hc hd hc2 hd2
  subst hc hd hc2 hd2
  have e : vs.toArray ++ ws.toArray = (vs ++ ws).toArray := by simp
  by_cases hw : ws = []
  · exact concat_meets ⟨_, ho, rfl⟩ ⟨_, ho2, rfl⟩ noFill_tuple_add seq_tuple_add PySem.F.slot_tuple_add PySem.F.entry_tuple_add (PySem.F.args_tuple_add_2 _ _)
      (tuple_addW1 t b vs.toArray ws.toArray n n2 dd dd2 sl sl2 (by simpa using hv) (by simp [hw])) ⟨ho, ho2, h1 hw⟩
  · refine concat_meets ⟨_, ho, rfl⟩ ⟨_, ho2, rfl⟩ noFill_tuple_add seq_tuple_add PySem.F.slot_tuple_add PySem.F.entry_tuple_add (PySem.F.args_tuple_add_2 _ _)
      (tuple_addW2 t b vs.toArray ws.toArray n n2 dd dd2 sl sl2 (by simpa using hv) (by simpa using hw) (by rw [List.size_toArray, List.size_toArray]; exact hsz)) ⟨ho, ho2, ?_⟩
    rw [e]
    exact h2 hw
def sIx (n d : Nat) : Option Int → Nat
  | none => d
  | some v => if v < 0 then (v + (n : Int)).toNat else min v.toNat n
theorem sIx_nat (n d k : Nat) : sIx n d (some (k : Int)) = min k n := by
  show (if (k : Int) < 0 then ((k : Int) + (n : Int)).toNat else min (k : Int).toNat n) = min k n
  rw [if_neg (by omega), Int.toNat_natCast]
theorem sIx_le (n d : Nat) (hd : d ≤ n) (o : Option Int) : sIx n d o ≤ n := by
  cases o with
  | none => exact hd
  | some v =>
    show (if v < 0 then (v + (n : Int)).toNat else min v.toNat n) ≤ n
    by_cases hv : v < 0
    · rw [if_pos hv]; omega
    · rw [if_neg hv]; exact Nat.min_le_right _ _
theorem clip_eq (v : Int) (n d : Nat) : (if v < 0 then max (v + (n : Int)) 0 else min v (n : Int)) = ((sIx n d (some v) : Nat) : Int) := by
  show (if v < 0 then max (v + (n : Int)) 0 else min v (n : Int)) = (((if v < 0 then (v + (n : Int)).toNat else min v.toNat n) : Nat) : Int)
  by_cases hv : v < 0
  · simp only [if_pos hv]; omega
  · simp only [if_neg hv]; omega
theorem adjust_gen (lo hi : Option Int) (n : Nat) : Builtin.Slice.sliceAdjust lo hi 1 (n : Int) = (((sIx n 0 lo : Nat) : Int), ((sIx n n hi : Nat) : Int)) := by
  have h1 : ¬ ((1 : Int) < 0) := by omega
  unfold Builtin.Slice.sliceAdjust
  simp only [h1, if_false]
  refine Prod.ext ?_ ?_
  · cases lo with
    | none => rfl
    | some v => exact clip_eq v n 0
  · cases hi with
    | none => rfl
    | some v => exact clip_eq v n n
theorem places_gen (i j : Nat) : Builtin.Slice.slicePlaces (i : Int) (j : Int) 1 = j - i := by
  unfold Builtin.Slice.slicePlaces
  have h1 : (1 : Int) > 0 := by omega
  simp only [h1, if_true, Int.ediv_one]
  split <;> omega
theorem slicePart_ {v : Value} {o : Option Int} {Q : Option Int → Shared → Prop} (p : IsPart v o) (h : Q o s) : wpAny (model prog w) A (Builtin.Slice.slicePartIndex v) Q E s := by
  cases p with
  | none => exact slicePart_none h
  | int i t => exact slicePart_int h
theorem sliceApplied_gen {sl : Addr} {vl vu : Value} {lo hi : Option Int} {n : Nat} {Q : Int × Int × Nat → Shared → Prop} (hs : s.heap.IsSliceOf sl vl vu .none) (pl : IsPart vl lo) (pu : IsPart vu hi)
    (h : Q (((sIx n 0 lo : Nat) : Int), 1, sIx n n hi - sIx n 0 lo) s) : wpAny (model prog w) A (Builtin.Slice.sliceApplied (.ref sl) (pure (n : Int))) Q E s := by
  obtain ⟨os, hos, hcs, hds⟩ := id hs
  unfold Builtin.Slice.sliceApplied Builtin.Slice.sliceFields
  refine wpAny_bind (wpAny_bind (wpAny_field hos hds (x := vl) rfl (wpAny_bind (wpAny_field hos hds (x := vu) rfl (wpAny_bind (wpAny_field hos hds (x := .none) rfl (wpAny_pure ?_)))))))
  refine wpAny_bind (slicePart_none ?_)
  show wpAny _ _ (if ((1 : Int) == 0) = true then _ else _) _ _ s
  rw [if_neg (by decide)]
  refine wpAny_bind (slicePart_ pl (wpAny_bind (slicePart_ pu (wpAny_bind (wpAny_pure ?_)))))
  show wpAny _ _ (match Builtin.Slice.sliceAdjust lo hi 1 (n : Int) with | (lo, hi) => pure (lo, (1 : Int), Builtin.Slice.slicePlaces lo hi 1)) _ _ s
  rw [adjust_gen lo hi n]
  show wpAny _ _ (pure (((sIx n 0 lo : Nat) : Int), (1 : Int), Builtin.Slice.slicePlaces ((sIx n 0 lo : Nat) : Int) ((sIx n n hi : Nat) : Int) 1)) _ _ s
  rw [places_gen]
  exact wpAny_pure h
theorem pick_gen (xs : Array Value) (i k : Nat) : ((List.range k).filterMap fun (m : Nat) => xs[((i : Int) + (m : Int) * 1).toNat]?).toArray = ((xs.toList.drop i).take k).toArray := by
  have e : (fun (m : Nat) => xs[((i : Int) + (m : Int) * 1).toNat]?) = fun m => xs[i + m]? := by
    funext m
    have : ((i : Int) + (m : Int) * 1).toNat = i + m := by omega
    rw [this]
  rw [e]
  have := pick_run xs i k
  rw [List.filterMap_map] at this
  have e2 : ((fun x => xs[x]?) ∘ fun x => i + x) = fun m => xs[i + m]? := rfl
  rw [e2] at this
  rw [this]
theorem getItem_tuple_cut {t sl : Addr} {items : Array Value} {vl vu : Value} {lo hi : Option Int} {Q : Value → Shared → Prop} (ht : IsTup s.heap t items) (hs : s.heap.IsSliceOf sl vl vu .none) (pl : IsPart vl lo) (pu : IsPart vu hi)
    (hw : ¬ (sIx items.size 0 lo = 0 ∧ sIx items.size items.size hi = items.size))
    (h : Q (.ref s.heap.objs.size) { s with heap := s.heap.push { cls := .type "tuple", data := .seq ((items.toList.drop (sIx items.size 0 lo)).take (sIx items.size items.size hi - sIx items.size 0 lo)).toArray } })
    (hsz : items.size ≤ sizeLine) : wpAny (model prog w) A (getItem (.ref t) (.ref sl)) Q E s := by
  have htake : sizeOk (.seq ((items.toList.drop (sIx items.size 0 lo)).take (sIx items.size items.size hi - sIx items.size 0 lo)).toArray) := by
    show ((items.toList.drop (sIx items.size 0 lo)).take (sIx items.size items.size hi - sIx items.size 0 lo)).toArray.size ≤ sizeLine
    rw [List.size_toArray, List.length_take, List.length_drop, Array.length_toList]
    omega
  have hj : sIx items.size items.size hi ≤ items.size := sIx_le _ _ (Nat.le_refl _) hi
  obtain ⟨os, hos, hcs, hds⟩ := id hs
  have hTs : s.TypeIs (.ref sl) "slice" := ⟨os, hos, hcs⟩
  unfold getItem
  try with_reducible refine wpAny_holding ?_
  first | refine wpAny_bind (wpAny_pure ?_) | skip
  refine wpAny_bind (wpAny_sequenceKey ht.typeIs (by decide) ?_)
  refine wpAny_bind (wpAny_callSpecial?_slot (name := Str.ofString "__getitem__") ht.typeIs PyProof.Rows.slot_tuple_getitem
    (wpAny_call_entry PyProof.Rows.slot_tuple_getitem ht.typeIs entry_tuple_getitem ?_ (args_tuple_getitem _ _)))
  show wpAny _ _ (Builtin.Tuple.tupleItemsOf (.ref t) >>= _) _ _ s
  refine wpAny_bind (tupleItemsOf_ ht ?_)
  refine wpAny_bind (wpAny_typeOf hTs ?_)
  rw [if_pos (by decide)]
  refine wpAny_bind (sliceApplied_gen hs pl pu ?_)
  have hno : ¬ ((((sIx items.size 0 lo : Nat) : Int) == 0 && (1 : Int) == 1 && (sIx items.size items.size hi - sIx items.size 0 lo) == items.size) = true) := by
    intro q
    rw [Bool.and_eq_true, Bool.and_eq_true] at q
    have q1 : ((sIx items.size 0 lo : Nat) : Int) = 0 := eq_of_beq q.1.1
    have q2 : sIx items.size items.size hi - sIx items.size 0 lo = items.size := eq_of_beq q.2
    exact hw ⟨by omega, by omega⟩
  show wpAny _ _ (if (((sIx items.size 0 lo : Nat) : Int) == 0 && (1 : Int) == 1 && (sIx items.size items.size hi - sIx items.size 0 lo) == items.size) = true then _ else _) _ _ s
  rw [if_neg hno, pick_gen]
  first
    | exact wpAny_bind (m := Builtin.Tuple.tupleExact _) (wpAny_newObj_type (wpAny_pure ⟨_, rfl, wpAny_pure h⟩) htake)
    | exact wpAny_bind (m := Builtin.Tuple.tupleExact _) (wpAny_newObj_type (wpAny_bind (wpAny_pure (wpAny_pure ⟨_, rfl, wpAny_pure h⟩))) htake)
    | exact wpAny_bind (wpAny_bind (m := Builtin.Tuple.tupleExact _) (wpAny_newObj_type (wpAny_pure (wpAny_pure ⟨_, rfl, wpAny_pure h⟩)) htake))
    | exact wpAny_bind (wpAny_bind (m := Builtin.Tuple.tupleExact _) (wpAny_newObj_type (wpAny_pure ⟨_, rfl, wpAny_pure h⟩) htake))
end
end HT
namespace L2
open PySem PySem.Spec PyProof.Rows
abbrev TO := St → Hp → (Option Int → Hp → Prop) → Prop
def PO (X : Cx) (e : Option Expr) (t : TO) : Prop :=
  ∀ (pins : List (Addr × Obj)) (s : Shared) (σ : St) (H : Hp) (Q : Option Int → Hp → Prop), Inv X pins σ H s → t σ H Q →
    wpAny (model X.prog X.w) X.A (evalPart e X.env) (fun u s' => ∃ o H', Inv X pins σ H' s' ∧ IsPart u o ∧ Q o H') X.xe s
def tNoPart : TO := fun _ H Q => Q none H
def tPart (t : TE) : TO := fun σ H Q => t σ H fun x H1 => ∃ i, x = .int i ∧ Q (some i) H1
section
variable {X : Cx} {e : Expr} {te : TE} {lo hi : Option Expr} {tl th : TO} {pos p2 : Pos}
theorem po_none : PO X none tNoPart := by
  intro pins s σ H Q I h
  rw [evalPart_none]
  exact wpAny_pure ⟨none, H, I, .none, h⟩
theorem po_some (h : PE X e te) : PO X (some e) (tPart te) := by
  intro pins s σ H Q I hw
  rw [evalPart_some]
  refine thn (h pins s σ H _ I hw) fun u s1 ⟨x, H1, I1, r1, q1⟩ => ?_
  obtain ⟨i, rfl, q⟩ := q1
  obtain ⟨t, rfl⟩ := r1
  exact ⟨some i, H1, I1, .int i t, q⟩
def SlR (X : Cx) (r : V → Option Int → Option Int → Hp → VK → Prop) : Prop :=
  ∀ (pins : List (Addr × Obj)) (s : Shared) (σ : St) (H : Hp) (x : V) (v vl vu : Value) (lo hi : Option Int) (sl : Addr) (Q : VK), Inv X pins σ H s → RelV x v → s.heap.IsSliceOf sl vl vu .none → IsPart vl lo → IsPart vu hi → r x lo hi H Q →
    ∃ T id, typeLookup (.type T) "__getitem__" = pure (some (.builtin id)) ∧ s.TypeIs v T ∧ wpAny (model X.prog X.w) X.A (getItem v (.ref sl)) (EP X pins σ Q) X.xe s
def tSl (r : V → Option Int → Option Int → Hp → VK → Prop) (te : TE) (tl th : TO) : TE := fun σ H Q => te σ H fun x H1 => tl σ H1 fun l H2 => th σ H2 fun u H3 => r x l u H3 Q
theorem pe_slice {r : V → Option Int → Option Int → Hp → VK → Prop} (hr : SlR X r) (he : PE X e te) (hl : PO X lo tl) (hu : PO X hi th) : PE X (.Subscript e (.Slice lo hi none p2) pos) (tSl r te tl th) := by
  intro pins s σ H Q I h
  refine Subscript_ (thn (he pins s σ H _ I h) fun v s1 ⟨x, H1, I1, r1, q1⟩ => ?_)
  refine wpAny_Slice (thn (hl pins s1 σ H1 _ I1 q1) fun vl s2 ⟨l, H2, I2, pl, q2⟩ => thn (hu pins s2 σ H2 _ I2 q2) fun vu s3 ⟨u, H3, I3, pu, q3⟩ => ?_)
  rw [evalPart_none]
  refine wpAny_pure ?_
  have I4 : Inv X pins σ H3 { s3 with heap := s3.heap.push { cls := .type "slice", data := .fields #[vl, vu, .none] } } := I3.kept (t' := s3.toks) fun b ob q => Heap.get?_push_of_some _ q
  obtain ⟨T, id, hT, ht, hg⟩ := hr pins { s3 with heap := s3.heap.push { cls := .type "slice", data := .fields #[vl, vu, .none] } } σ H3 x v vl vu l u s3.heap.objs.size Q I4 r1 (Heap.IsSliceOf.new ..) pl pu q3
  show wpAny (model X.prog X.w) X.A (subscriptTail e (.Slice lo hi none p2) v (.ref s3.heap.objs.size)) (EP X pins σ Q) X.xe { s3 with heap := s3.heap.push { cls := .type "slice", data := .fields #[vl, vu, .none] } }
  exact tail_any (ops := [.ref s3.heap.objs.size, v]) ht hT hg (by with_unfolding_all rfl)
def cutV (xs : List V) (lo hi : Option Int) : List V := (xs.drop (HT.sIx xs.length 0 lo)).take (HT.sIx xs.length xs.length hi - HT.sIx xs.length 0 lo)
theorem cutV_length (xs : List V) (lo hi : Option Int) : (cutV xs lo hi).length ≤ xs.length := by
  unfold cutV
  rw [List.length_take, List.length_drop]
  omega
def rSlT (K : PySem.W.Frag) : V → Option Int → Option Int → Hp → VK → Prop := fun x lo hi H Q => ∃ a xs, x = .ref a ∧ SqT K H a xs ∧
  ¬ (HT.sIx xs.length 0 lo = 0 ∧ HT.sIx xs.length xs.length hi = xs.length) ∧ ∀ p, H p = none → Q (.ref p) (upd H p (.tup (cutV xs lo hi)))
theorem sl_tup : SlR X (rSlT X.K) := by
  intro pins s σ H x v vl vu lo hi sl Q I rx hs pl pu h
  obtain ⟨a, xs, rfl, hx, hw, q⟩ := h
  cases rx
  obtain ⟨its, r, ht, hz⟩ := I.tuple hx
  have hlen : its.toArray.size = xs.length := by rw [List.size_toArray]; exact r.length.symm
  refine ⟨"tuple", _, PyProof.Rows.slot_tuple_getitem.lookup, ht.typeIs, ?_⟩
  refine HT.getItem_tuple_cut ht hs pl pu (by rw [hlen]; exact hw) ?_ (by rw [hlen]; exact hz)
  rw [hlen]
  refine ⟨.ref s.heap.objs.size, _, I.laid (t' := s.toks) (o := .tup (cutV xs lo hi)) (fun b ob q => Heap.get?_push_of_some _ q) (Nat.le_refl _) ?_, rfl, q _ (I.hok.fresh (Nat.le_refl _))⟩
  exact ⟨Nat.le_trans (cutV_length xs lo hi) hz, _, (r.drop (HT.sIx xs.length 0 lo)).take (HT.sIx xs.length xs.length hi - HT.sIx xs.length 0 lo), IsTup.new _ _⟩
def rCatT (K : PySem.W.Frag) : R2 := fun x y H Q => ∃ a b xs ys, x = .ref a ∧ y = .ref b ∧ SqT K H a xs ∧ SqT K H b ys ∧ xs ≠ [] ∧ xs.length + ys.length ≤ sizeLine ∧
  (ys = [] → Q (.ref a) H) ∧ (ys ≠ [] → ∀ p, H p = none → Q (.ref p) (upd H p (.tup (xs ++ ys))))
theorem Vals.nil_iff {xs : List V} {us : List Value} (r : Vals xs us) : us = [] ↔ xs = [] := by
  cases r with
  | nil => simp
  | cons _ _ => simp
theorem op_catT : OpR X (binaryOp .Add) (rCatT X.K) := by
  intro pins s σ H x y v u Q I rx ry h
  obtain ⟨a, b, xs, ys, rfl, rfl, ha, hb, hx, hz, q1, q2⟩ := h
  cases rx
  cases ry
  obtain ⟨its, r1, p1, _⟩ := I.tuple ha
  obtain ⟨its2, r2, p2, _⟩ := I.tuple hb
  refine HT.cat_tup p1 p2 (fun z => hx (r1.nil_iff.mp z)) (fun z => ⟨.ref a, H, I, rfl, q1 (r2.nil_iff.mp z)⟩) (fun z => ?_) (by rw [← r1.length, ← r2.length]; exact hz)
  refine ⟨.ref s.heap.objs.size, _, I.laid (t' := s.toks) (o := .tup (xs ++ ys)) (fun b ob q => Heap.get?_push_of_some _ q) (Nat.le_refl _) ?_, rfl, q2 (fun w => z (r2.nil_iff.mpr w)) _ (I.hok.fresh (Nat.le_refl _))⟩
  exact ⟨by rw [List.length_append]; exact hz, _, r1.append r2, IsTup.new _ _⟩
end
end L2
namespace L2
open PySem PySem.Spec PyProof.Rows
def ixN (n : Nat) (i : Int) : Option Nat := if 0 ≤ i then (if i < n then some i.toNat else none) else if -(n : Int) ≤ i then some (i + n).toNat else none
def atI {α : Type} (xs : List α) (i : Int) : Option α := (ixN xs.length i).bind fun j => xs[j]?
theorem ixN_seq {n : Nat} {i : Int} {j : Nat} (h : ixN n i = some j) : seqIndex? i n = some j ∧ j < n ∧ -(n : Int) ≤ i ∧ i < n := by
  unfold ixN at h
  by_cases h0 : 0 ≤ i
  · rw [if_pos h0] at h
    by_cases h1 : i < n
    · rw [if_pos h1] at h
      have e : i.toNat = j := Option.some.inj h
      exact ⟨by rw [seqIndex_of h0 h1, e], by omega, by omega, h1⟩
    · rw [if_neg h1] at h; cases h
  · rw [if_neg h0] at h
    by_cases h1 : -(n : Int) ≤ i
    · rw [if_pos h1] at h
      have e : (i + n).toNat = j := Option.some.inj h
      exact ⟨by rw [seqIndex_neg (by omega) h1, e], by omega, h1, by omega⟩
    · rw [if_neg h1] at h; cases h
theorem atI_get {α : Type} {xs : List α} {i : Int} {v : α} (h : atI xs i = some v) : ∃ j, seqIndex? i xs.length = some j ∧ xs[j]? = some v ∧ j < xs.length ∧ -(xs.length : Int) ≤ i ∧ i < xs.length := by
  unfold atI at h
  cases e : ixN xs.length i with
  | none => rw [e] at h; cases h
  | some j =>
    rw [e] at h
    obtain ⟨h1, h2, h3, h4⟩ := ixN_seq e
    exact ⟨j, h1, h, h2, h3, h4⟩
theorem atI_nat {α : Type} {xs : List α} {j : Nat} {v : α} (h : xs[j]? = some v) : atI xs (j : Int) = some v := by
  have hj : j < xs.length := (List.getElem?_eq_some_iff.mp h).1
  have e : ixN xs.length (j : Int) = some j := by
    unfold ixN
    rw [if_pos (by omega), if_pos (by omega)]; simp
  unfold atI; rw [e]; exact h
def PlainIx (b : Expr) : Prop := ∀ o i, subscripted b false o i = operate [o, i] (getItem o i)
def IxR (X : Cx) (r : R2) : Prop :=
  ∀ (value slice : Expr) (pins : List (Addr × Obj)) (s : Shared) (σ : St) (H : Hp) (x y : V) (v u : Value) (Q : VK), Inv X pins σ H s → RelV x v → RelV y u → r x y H Q →
    subscripted slice false v u = operate [v, u] (getItem v u) → wpAny (model X.prog X.w) X.A (subscriptTail value slice v u) (EP X pins σ Q) X.xe s
def MtR (X : Cx) (id : String) (r : V → List V → Hp → VK → Prop) : Prop :=
  ∀ (pins : List (Addr × Obj)) (s : Shared) (σ : St) (H : Hp) (x : V) (xs : List V) (v : Value) (us : List Value) (Q : VK), Inv X pins σ H s → RelV x v → Vals xs us → r x xs H Q →
    wpAny (model X.prog X.w) X.A (call (.builtin id) (v :: us)) (EP X pins σ Q) X.xe s
section
variable {X : Cx} {a b : Expr} {ta tb : TE} {pos : Pos}
theorem pe_ix {r : R2} (hr : IxR X r) (ha : PE X a ta) (hb : PE X b tb) (hs : PlainIx b) : PE X (.Subscript a b pos) (tOp r ta tb) := by
  intro pins s σ H Q I h
  exact Subscript_ (binT ha hb I h fun v u s2 x y H2 I2 rx ry q => hr a b pins s2 σ H2 x y v u Q I2 rx ry q (hs _ _))
def rIxL (K : PySem.W.Frag) : R2 := fun x y H Q => ∃ p xs i v, x = .ref p ∧ y = .int i ∧ SqL K H p xs ∧ atI xs i = some v ∧ Q v H
def rIxT (K : PySem.W.Frag) : R2 := fun x y H Q => ∃ p xs i v, x = .ref p ∧ y = .int i ∧ SqT K H p xs ∧ atI xs i = some v ∧ Q v H
def rIxS : R2 := fun x y H Q => ∃ z i c, x = .str z ∧ y = .int i ∧ z.length ≤ sizeLine ∧ atI z.cps.toList i = some c ∧ Q (.str ⟨#[c]⟩) H
theorem ix_list : IxR X (rIxL X.K) := by
  intro value slice pins s σ H x y v u Q I rx ry h hs
  obtain ⟨p, xs, i, z, rfl, rfl, hq, he, q⟩ := h
  cases rx
  obtain ⟨t, rfl⟩ := ry
  obtain ⟨its, r, pl, hz⟩ := I.list hq
  obtain ⟨j, h1, h2, h3, h4, h5⟩ := atI_get he
  obtain ⟨w, ew, rw'⟩ := r.get h2
  have hl := r.length
  have hn := line63
  have fin : EP X pins σ Q w s := ⟨z, H, I, rw', q⟩
  by_cases h0 : 0 ≤ i
  · have hj : i.toNat = j := by
      rw [seqIndex_of h0 h5] at h1
      exact Option.some.inj h1
    exact item_listR pl.isList h0 (by omega) (by rw [hj]; simpa using ew) fin hs
  · have hj : (i + (its.toArray.size : Int)).toNat = j := by
      rw [seqIndex_neg (by omega) h4] at h1
      rw [List.size_toArray, ← hl]
      exact Option.some.inj h1
    exact subscriptTail_builtinR (x := w) pl.isList.typeIs slot_list_getitem.lookup
      (wpAny_getItem_list_neg (Q := fun r s' => r = w ∧ EP X pins σ Q r s') pl.isList (by omega) (by rw [List.size_toArray] <;> omega) (by omega) (by rw [hj]; simpa using ew) ⟨rfl, fin⟩) hs
theorem ix_tup : IxR X (rIxT X.K) := by
  intro value slice pins s σ H x y v u Q I rx ry h hs
  obtain ⟨p, xs, i, z, rfl, rfl, hq, he, q⟩ := h
  cases rx
  obtain ⟨t, rfl⟩ := ry
  obtain ⟨its, r, pl, hz⟩ := I.tuple hq
  obtain ⟨j, h1, h2, h3, h4, h5⟩ := atI_get he
  obtain ⟨w, ew, rw'⟩ := r.get h2
  have hl := r.length
  have hn := line63
  have fin : EP X pins σ Q w s := ⟨z, H, I, rw', q⟩
  exact subscriptTail_builtinR (x := w) pl.typeIs slot_tuple_getitem.lookup
    (getItem_tuple (j := j) (Q := fun r s' => r = w ∧ EP X pins σ Q r s') pl (by omega) (by omega) (by rw [List.size_toArray, ← hl]; exact h1) (by simpa using ew) ⟨rfl, fin⟩) hs
theorem ix_str : IxR X rIxS := by
  intro value slice pins s σ H x y v u Q I rx ry h hs
  obtain ⟨z, i, c, rfl, rfl, hz, he, q⟩ := h
  obtain ⟨t, rfl⟩ := rx
  obtain ⟨t', rfl⟩ := ry
  obtain ⟨j, h1, h2, h3, h4, h5⟩ := atI_get he
  have hl : z.cps.toList.length = z.length := by simp [Str.length]
  rw [hl] at h1 h4 h5
  have hn := line63
  exact tail_any (typeIs_str s z t) slot_str_getitem.lookup (getItem_str (c := c) (by
    have e1 : decide (i < -(2 ^ 63 : Int)) = false := decide_eq_false (by omega)
    have e2 : decide (i ≥ 2 ^ 63) = false := decide_eq_false (by omega)
    rw [e1, e2, Bool.or_false]) (by rw [h1]; simpa using h2) ⟨.str ⟨#[c]⟩, H, I.tok _, ⟨_, rfl⟩, q⟩) hs
theorem mapSeq_set (its : List Value) (n j : Nat) (u : Value) : Obj.mapSeq (·.setIfInBounds j u) { cls := .type "list", data := .seq its.toArray n } = { cls := .type "list", data := .seq (its.set j u).toArray n } := by
  simp [Obj.mapSeq]
theorem Inv.lst {pins : List (Addr × Obj)} {σ : St} {H : Hp} {s : Shared} {p : Addr} {xs : List V} (I : Inv X pins σ H s) (h : H p = some (.lst xs)) :
    ∃ (its : List Value) (n : Nat), Vals xs its ∧ s.heap.get? p = some { cls := .type "list", data := .seq its.toArray n } ∧ xs.length ≤ sizeLine := by
  obtain ⟨z, its, n, r, e⟩ := I.hok p _ h
  exact ⟨its, n, r, e, z⟩
theorem Inv.lstUpd {pins : List (Addr × Obj)} {σ : St} {H : Hp} {s : Shared} {p : Addr} {xs ys : List V} {its its' : List Value} {n n' : Nat} {f : Obj → Obj} (I : Inv X pins σ H s) (h : H p = some (.lst xs))
    (ho : s.heap.get? p = some { cls := .type "list", data := .seq its.toArray n }) (hf : f { cls := .type "list", data := .seq its.toArray n } = { cls := .type "list", data := .seq its'.toArray n' }) (r : Vals ys its') (hz : ys.length ≤ sizeLine) (t : Nat) :
    Inv X pins σ (upd H p (.lst ys)) { s with heap := s.heap.update p f, toks := t } := by
  have e : (s.heap.update p f).get? p = some { cls := .type "list", data := .seq its'.toArray n' } := by
    rw [Heap.get?_update_self f ho (by rw [hf] <;> rfl), hf]
  refine I.write (x := p) (e := p) (by rw [h]; trivial) (.inl rfl) (fun b u hb q => (Heap.get?_update_other _ _ (Ne.symm hb)).trans q) ⟨_, e⟩ ?_
  exact ⟨hz, its', n', r, e⟩
def rSetL : V → V → V → Hp → (Hp → Prop) → Prop := fun o i v H Q => ∃ p xs k j, o = .ref p ∧ i = .int k ∧ H p = some (.lst xs) ∧ ixN xs.length k = some j ∧ Q (upd H p (.lst (xs.set j v)))
theorem set_list : PSet X rSetL := by
  intro pins s σ H o i v ov iv u Q I ro ri rv h
  obtain ⟨p, xs, k, j, rfl, rfl, hp, hj, q⟩ := h
  cases ro
  obtain ⟨t, rfl⟩ := ri
  obtain ⟨its, n, r, ho, hz⟩ := I.lst hp
  obtain ⟨h1, h2, h3, h4⟩ := ixN_seq hj
  have hl := r.length
  have hn := line63
  have I' : Inv X pins σ (upd H p (.lst (xs.set j v))) { s with heap := s.heap.update p (Obj.mapSeq (·.setIfInBounds j u)) } :=
    I.lstUpd hp ho (mapSeq_set its n j u) (r.set rv j) (by rw [List.length_set]; exact hz) s.toks
  by_cases h0 : 0 ≤ k
  · have hk : k.toNat = j := by
      rw [seqIndex_of h0 h4] at h1
      exact Option.some.inj h1
    exact PySem.W.ki_setAt ho h0 (by omega) (by rw [List.size_toArray, ← hl]; exact h4) (by rw [hk]; exact ⟨_, I', q⟩)
  · have hk : (k + (its.toArray.size : Int)).toNat = j := by
      rw [seqIndex_neg (by omega) h3] at h1
      rw [List.size_toArray, ← hl]
      exact Option.some.inj h1
    exact PySem.W.ki_setBack ho (by omega) (by rw [List.size_toArray, ← hl]; exact h3) (by omega) (by rw [hk]; exact ⟨_, I', q⟩)
theorem slice_bounds (lo hi : Option Int) (n : Nat) : (sliceBounds lo hi none n).1 = ((HT.sIx n 0 lo : Nat) : Int) ∧ (sliceBounds lo hi none n).2.1 = ((HT.sIx n n hi : Nat) : Int) ∧ (sliceBounds lo hi none n).2.2 = 1 := by
  refine ⟨?_, ?_, rfl⟩
  · cases lo with
    | none => simp [sliceBounds, HT.sIx]
    | some i =>
      simp only [sliceBounds, HT.sIx, Option.getD_none, show (1 : Int) > 0 by decide, if_true]
      by_cases h : i < 0
      · simp only [h, if_true] <;> omega
      · simp only [h, if_false] <;> omega
  · cases hi with
    | none => simp [sliceBounds, HT.sIx]
    | some i =>
      simp only [sliceBounds, HT.sIx, Option.getD_none, show (1 : Int) > 0 by decide, if_true]
      by_cases h : i < 0
      · simp only [h, if_true] <;> omega
      · simp only [h, if_false] <;> omega
theorem slicePick_cut (its : List Value) (lo hi : Option Int) : slicePick its.toArray lo hi none = ((its.drop (HT.sIx its.length 0 lo)).take (HT.sIx its.length its.length hi - HT.sIx its.length 0 lo)).toArray := by
  obtain ⟨h1, h2, h3⟩ := slice_bounds lo hi its.toArray.size
  unfold slicePick
  rw [h1, h2, h3]
  simp only [sliceRange_one, pick_run, List.size_toArray] <;> rfl
def rSlL (K : PySem.W.Frag) : V → Option Int → Option Int → Hp → VK → Prop := fun x lo hi H Q => ∃ a xs, x = .ref a ∧ SqL K H a xs ∧ ∀ p, H p = none → Q (.ref p) (upd H p (.lst (cutV xs lo hi)))
theorem sl_list : SlR X (rSlL X.K) := by
  intro pins s σ H x v vl vu lo hi sl Q I rx hs pl pu h
  obtain ⟨a, xs, rfl, hx, q⟩ := h
  cases rx
  obtain ⟨its, r, ht, hz⟩ := I.list hx
  have hlen := r.length
  refine ⟨"list", _, slot_list_getitem.lookup, ht.isList.typeIs, ?_⟩
  refine wpAny_getItem_list_slice ht.isList hs pl pu .none (by simp) ?_ (by rw [List.size_toArray] <;> omega)
  rw [slicePick_cut, ← hlen]
  refine ⟨.ref s.heap.objs.size, _, I.laid (t' := s.toks) (o := .lst (cutV xs lo hi)) (fun b ob q => Heap.get?_push_of_some _ q) (Nat.le_refl _) ?_, rfl, q _ (I.hok.fresh (Nat.le_refl _))⟩
  exact ⟨Nat.le_trans (cutV_length xs lo hi) hz, _, 0, (r.drop (HT.sIx xs.length 0 lo)).take (HT.sIx xs.length xs.length hi - HT.sIx xs.length 0 lo), Heap.get?_push_size _ rfl⟩
def flatV : V → Bool
  | .non => true
  | .bl _ => true
  | .int _ => true
  | .str _ => true
  | _ => false
def eqV : V → V → Bool
  | .non, .non => true
  | .bl a, .bl b => a == b
  | .bl a, .int b => (if a then 1 else 0) == b
  | .int a, .bl b => a == (if b then 1 else 0)
  | .int a, .int b => a == b
  | .str a, .str b => a == b
  | _, _ => false
theorem eqAt_V {A : Around} {s : Shared} {y x : V} {u v : Value} (ry : RelV y u) (rx : RelV x v) (fy : flatV y = true) (fx : flatV x = true) : SeqAt.EqAt A s u v (eqV y x) := by
  cases y with
  | non =>
    cases ry
    cases x with
    | non => cases rx; exact SeqAt.EqAt.same _
    | bl b => cases rx; exact SeqAt.EqAt.none_bool b
    | int b => obtain ⟨t, rfl⟩ := rx; exact SeqAt.EqAt.none_int b t
    | str b => obtain ⟨t, rfl⟩ := rx; exact SeqAt.EqAt.none_str b t
    | _ => exact absurd (show false = true from fx) Bool.false_ne_true
  | bl a =>
    cases ry
    cases x with
    | non => cases rx; exact SeqAt.EqAt.bool_none a
    | bl b => cases rx; exact SeqAt.EqAt.bool_bool a b
    | int b => obtain ⟨t, rfl⟩ := rx; exact SeqAt.EqAt.bool_int a b t
    | str b => obtain ⟨t, rfl⟩ := rx; exact SeqAt.EqAt.bool_str a b t
    | _ => exact absurd (show false = true from fx) Bool.false_ne_true
  | int a =>
    obtain ⟨t', rfl⟩ := ry
    cases x with
    | non => cases rx; exact SeqAt.EqAt.int_none a t'
    | bl b => cases rx; exact SeqAt.EqAt.int_bool a t' b
    | int b => obtain ⟨t, rfl⟩ := rx; exact SeqAt.EqAt.int_int a t' b t
    | str b => obtain ⟨t, rfl⟩ := rx; exact SeqAt.EqAt.int_str a t' b t
    | _ => exact absurd (show false = true from fx) Bool.false_ne_true
  | str a =>
    obtain ⟨t', rfl⟩ := ry
    cases x with
    | non => cases rx; exact SeqAt.EqAt.str_none a t'
    | bl b => cases rx; exact SeqAt.EqAt.str_bool a t' b
    | int b => obtain ⟨t, rfl⟩ := rx; exact SeqAt.EqAt.str_int a t' b t
    | str b => obtain ⟨t, rfl⟩ := rx; exact SeqAt.EqAt.str_str a t' b t
    | _ => exact absurd (show false = true from fx) Bool.false_ne_true
  | _ => exact absurd (show false = true from fy) Bool.false_ne_true
def eqU (x : V) (u : Value) : Bool := match u with
  | .none => eqV .non x
  | .bool b => eqV (.bl b) x
  | .int i _ => eqV (.int i) x
  | .str z _ => eqV (.str z) x
  | _ => false
theorem eqU_of {x y : V} {u : Value} (r : RelV y u) (f : flatV y = true) : eqU x u = eqV y x := by
  cases y with
  | non => cases r; rfl
  | bl b => cases r; rfl
  | int i => obtain ⟨t, rfl⟩ := r; rfl
  | str z => obtain ⟨t, rfl⟩ := r; rfl
  | _ => exact absurd (show false = true from f) Bool.false_ne_true
theorem any_eqU {x : V} : ∀ {xs : List V} {us : List Value}, Vals xs us → xs.all flatV = true → us.any (eqU x) = xs.any fun y => eqV y x
  | _, _, .nil, _ => rfl
  | y :: xs, u :: us, .cons r t, f => by
    rw [List.all_cons, Bool.and_eq_true] at f
    rw [List.any_cons, List.any_cons, eqU_of r f.1, any_eqU t f.2]
theorem mem_eqAt {A : Around} {s : Shared} {x : V} {v : Value} (rx : RelV x v) (fx : flatV x = true) : ∀ {xs : List V} {us : List Value}, Vals xs us → xs.all flatV = true → ∀ u ∈ us, SeqAt.EqAt A s u v (eqU x u)
  | _, _, .nil, _ => fun u hu => by cases hu
  | y :: xs, u :: us, .cons r t, f => fun u' hu => by
    rw [List.all_cons, Bool.and_eq_true] at f
    rcases List.mem_cons.mp hu with rfl | hu
    · rw [eqU_of r f.1]; exact eqAt_V r rx f.1 fx
    · exact mem_eqAt rx fx t f.2 u' hu
def inV (x : V) (xs : List V) : Bool := xs.any fun y => eqV y x
def rIn (K : PySem.W.Frag) (neg : Bool) : R2 := fun x y H Q => ∃ p xs, y = .ref p ∧ (SqL K H p xs ∨ SqT K H p xs) ∧ flatV x = true ∧ xs.all flatV = true ∧ Q (.bl (if neg then !inV x xs else inV x xs)) H
theorem op_in_seq : OpR X (compareOp .In) (rIn X.K false) := by
  intro pins s σ H x y v u Q I rx ry h
  obtain ⟨p, xs, rfl, hq, fx, fs, q⟩ := h
  cases ry
  rcases hq with hq | hq
  · obtain ⟨its, r, pl, hz⟩ := I.list hq
    refine SeqAt.in_listAt (eqU x) pl.isList (fun w hw => mem_eqAt rx fx r fs w (by simpa using hw)) ⟨.bl _, H, I, rfl, ?_⟩
    rw [show its.toArray.any (eqU x) = its.any (eqU x) by simp, any_eqU r fs]
    exact q
  · obtain ⟨its, r, pl, hz⟩ := I.tuple hq
    refine SeqAt.in_tupleAt (eqU x) pl (fun w hw => mem_eqAt rx fx r fs w (by simpa using hw)) ⟨.bl _, H, I, rfl, ?_⟩
    rw [show its.toArray.any (eqU x) = its.any (eqU x) by simp, any_eqU r fs]
    exact q
theorem op_notIn_seq : OpR X (compareOp .NotIn) (rIn X.K true) := by
  intro pins s σ H x y v u Q I rx ry h
  obtain ⟨p, xs, rfl, hq, fx, fs, q⟩ := h
  cases ry
  rcases hq with hq | hq
  · obtain ⟨its, r, pl, hz⟩ := I.list hq
    refine SeqAt.notIn_listAt (eqU x) pl.isList (fun w hw => mem_eqAt rx fx r fs w (by simpa using hw)) ⟨.bl _, H, I, rfl, ?_⟩
    rw [show its.toArray.any (eqU x) = its.any (eqU x) by simp, any_eqU r fs]
    exact q
  · obtain ⟨its, r, pl, hz⟩ := I.tuple hq
    refine SeqAt.notIn_tupleAt (eqU x) pl (fun w hw => mem_eqAt rx fx r fs w (by simpa using hw)) ⟨.bl _, H, I, rfl, ?_⟩
    rw [show its.toArray.any (eqU x) = its.any (eqU x) by simp, any_eqU r fs]
    exact q
theorem call_len_seq : CallR X (.builtin "len") (fun xs H Q => ∃ p ys, xs = [.ref p] ∧ (SqL X.K H p ys ∨ SqT X.K H p ys) ∧ Q (.int ys.length) H) := by
  intro pins s σ H xs us Q I r h
  obtain ⟨p, ys, rfl, hq, q⟩ := h
  obtain ⟨u, rfl, rx⟩ := vals1 r
  cases rx
  have hn := line63
  rcases hq with hq | hq
  · obtain ⟨its, r', pl, hz⟩ := I.list hq
    have hlen := r'.length
    exact Calls.call_len_list pl.isList (by simp only [List.size_toArray] <;> omega) ⟨.int ys.length, H, I.tok _, ⟨s.toks + 1, by rw [List.size_toArray, hlen]⟩, q⟩
  · obtain ⟨its, r', pl, hz⟩ := I.tuple hq
    have hlen := r'.length
    exact len_tuple pl (by simp only [List.size_toArray] <;> omega) ⟨.int ys.length, H, I.tok _, ⟨s.toks + 1, by rw [List.size_toArray, hlen]⟩, q⟩
theorem call_len_str : CallR X (.builtin "len") (fun xs H Q => ∃ z, xs = [.str z] ∧ z.length ≤ sizeLine ∧ Q (.int z.length) H) := by
  intro pins s σ H xs us Q I r h
  obtain ⟨z, rfl, hz, q⟩ := h
  obtain ⟨u, rfl, t, rfl⟩ := vals1 r
  have hn := line63
  exact len_str (by omega) ⟨.int z.length, H, I.tok _, ⟨_, rfl⟩, q⟩
theorem call_list_of : CallR X (.type "list") (fun xs H Q => ∃ p ys, xs = [.ref p] ∧ (SqL X.K H p ys ∨ SqT X.K H p ys) ∧ ∀ l, H l = none → Q (.ref l) (upd H l (.lst ys))) := by
  intro pins s σ H xs us Q I r h
  obtain ⟨p, ys, rfl, hq, q⟩ := h
  obtain ⟨u, rfl, rx⟩ := vals1 r
  cases rx
  have fin : ∀ (its : List Value), Vals ys its → ys.length ≤ sizeLine → ∀ (h' : Heap) (c' : Nat), (∀ b o', s.heap.get? b = some o' → h'.get? b = some o') →
      h'.get? s.heap.objs.size = some { cls := .type "list", dict := none, data := .seq its.toArray c', slots := #[] } → EP X pins σ Q (.ref s.heap.objs.size) { s with heap := h' } := fun its r' hz h' c' kp e =>
    ⟨.ref s.heap.objs.size, _, I.laid (t' := s.toks) kp (Nat.le_refl _) (show ObjOk X.prog X.w _ h' _ (.lst ys) from ⟨hz, its, c', r', e⟩), rfl, q _ (I.hok.fresh (Nat.le_refl _))⟩
  rcases hq with hq | hq
  · obtain ⟨its, r', pl, hz⟩ := I.list hq
    have hlen := r'.length
    obtain ⟨o, ho, hc, n, hd⟩ := pl.isList
    exact call_list_seq p (.inl rfl) ho hc hd (fun h' c' kp e => fin its r' hz h' c' kp e) (by simp only [List.size_toArray] <;> omega)
  · obtain ⟨its, r', pl, hz⟩ := I.tuple hq
    have hlen := r'.length
    obtain ⟨o, ho, hc, n, hd⟩ := pl
    exact call_list_seq p (.inr rfl) ho hc hd (fun h' c' kp e => fin its r' hz h' c' kp e) (by simp only [List.size_toArray] <;> omega)
theorem call_tuple_of : CallR X (.type "tuple") (fun xs H Q => ∃ p ys, xs = [.ref p] ∧ ((SqL X.K H p ys ∧ ∀ l, H l = none → Q (.ref l) (upd H l (.tup ys))) ∨ (SqT X.K H p ys ∧ Q (.ref p) H))) := by
  intro pins s σ H xs us Q I r h
  obtain ⟨p, ys, rfl, h⟩ := h
  obtain ⟨u, rfl, rx⟩ := vals1 r
  cases rx
  rcases h with ⟨hq, q⟩ | ⟨hq, q⟩
  · obtain ⟨its, r', pl, hz⟩ := I.list hq
    have hlen := r'.length
    refine call_tuple_list pl.isList (fun h' kp => ?_) (by simp only [List.size_toArray] <;> omega)
    have I1 : Inv X pins σ H { s with heap := h' } := I.kept (t' := s.toks) kp
    have I2 : Inv X pins σ (upd H h'.objs.size (.tup ys)) { s with heap := h'.push { cls := .type "tuple", data := .seq its.toArray } } :=
      I1.laid (t' := s.toks) (fun b o e => Heap.get?_push_of_some _ e) (Nat.le_refl _) (show ObjOk X.prog X.w _ _ _ (.tup ys) from ⟨hz, its, r', IsTup.new _ _⟩)
    exact ⟨.ref h'.objs.size, _, I2, rfl, q _ (I1.hok.fresh (Nat.le_refl _))⟩
  · obtain ⟨its, r', pl, hz⟩ := I.tuple hq
    exact call_tuple_same pl ⟨.ref p, H, I, rfl, q⟩
def tyV (K : PySem.W.Frag) (T : String) (x : V) (H : Hp) : Prop := match x with
  | .str _ => T = "str"
  | .int _ => T = "int"
  | .ref p => (T = "list" ∧ ∃ xs, SqL K H p xs) ∨ (T = "tuple" ∧ ∃ o, K.lookup p = some o ∧ o.cls = .type "tuple" ∧ o.dict = none) ∨
      (T = "dict" ∧ ((∃ kvs, H p = some (.dK kvs)) ∨ ∃ kvs, H p = some (.dT kvs))) ∨ (T = "set" ∧ ∃ S n, H p = some (.set S n))
  | _ => False
theorem tyV_is {pins : List (Addr × Obj)} {σ : St} {H : Hp} {s : Shared} {T : String} {x : V} {v : Value} (I : Inv X pins σ H s) (r : RelV x v) (ty : tyV X.K T x H) :
    s.TypeIs v T ∧ ∀ a, v = .ref a → ∃ ob, s.heap.get? a = some ob ∧ ob.dict = none := by
  cases x with
  | str z =>
    obtain ⟨t, rfl⟩ := r
    cases (show T = "str" from ty)
    exact ⟨typeIs_str s z t, fun _ e => nomatch e⟩
  | int i =>
    obtain ⟨t, rfl⟩ := r
    cases (show T = "int" from ty)
    exact ⟨typeIs_int s i t, fun _ e => nomatch e⟩
  | ref p =>
    cases r
    rcases ty with ⟨rfl, xs, hq⟩ | ⟨rfl, o, hk, hc, hd⟩ | ⟨rfl, hk⟩ | ⟨rfl, S, n, hk⟩
    · obtain ⟨its, _, pl, _⟩ := I.list hq
      refine ⟨pl.isList.typeIs, fun a e => ?_⟩
      cases e
      obtain ⟨o, n, e, c, hd, _⟩ := pl
      exact ⟨o, e, hd⟩
    · refine ⟨⟨o, I.kIn p o hk, hc⟩, fun a e => ?_⟩
      cases e
      exact ⟨o, I.kIn _ o hk, hd⟩
    · have z : ∃ o, s.heap.get? p = some o ∧ o.ExactDict := by
        rcases hk with ⟨kvs, hk⟩ | ⟨kvs, hk⟩
        · obtain ⟨_, _, _, _, o, _, _, e, ex, _⟩ := I.hok p _ hk
          exact ⟨o, e, ex⟩
        · obtain ⟨_, _, _, _, o, _, _, e, ex, _⟩ := I.hok p _ hk
          exact ⟨o, e, ex⟩
      obtain ⟨o, e, ex⟩ := z
      refine ⟨⟨o, e, ex.1⟩, fun a e2 => ?_⟩
      cases e2
      exact ⟨o, e, ex.2.1⟩
    · obtain ⟨o, _, _, _, e, ex, _⟩ := I.hok p _ hk
      refine ⟨⟨o, e, ex.1⟩, fun a e2 => ?_⟩
      cases e2
      exact ⟨o, e, ex.2.1⟩
  | _ => exact False.elim ty
def tBM0 (K : PySem.W.Frag) (T : String) (r : V → List V → Hp → VK → Prop) (to : TE) : TE := fun σ H Q => to σ H fun x H1 => tyV K T x H1 ∧ r x [] H1 Q
def tBM (K : PySem.W.Frag) (T : String) (r : V → List V → Hp → VK → Prop) (to : TE) (t : TA) : TE := fun σ H Q => to σ H fun x H1 => tyV K T x H1 ∧ t σ H1 fun xs H2 => r x xs H2 Q
variable {o e : Expr} {es : List Expr} {to : TE} {t : TA} {name : Str} {apos cpos : Pos} {T id : String} {r : V → List V → Hp → VK → Prop}
theorem pe_bm0 (pa : PlainAttrs T) (slot : Slot T name id) (hty : typeOf (.builtin id) = pure (.type "method_descriptor")) (hm : MtR X id r) (ho : PE X o to)
    (hbase : attributeBase o name X.env (eval o X.env) = eval o X.env := by rfl) (hline : (apos.endLine == cpos.line) = true := by rfl) : PE X (.Call (.Attribute o name apos) [] [] cpos) (tBM0 X.K T r to) := by
  intro pins s σ H Q I h
  refine wpAny_Call_method0_late hbase hline (thn (ho pins s σ H _ I h) fun v s1 ⟨x, H1, I1, r1, ty, q1⟩ => ?_)
  obtain ⟨h1, h2⟩ := tyV_is I1 r1 ty
  exact ⟨T, id, pa, slot, hty, h1, h2, Calls.callWith_builtin rfl (PySem.evalArgs_none (hm pins s1 σ H1 x [] v [] Q I1 r1 .nil q1))⟩
theorem pe_bm (pa : PlainAttrs T) (slot : Slot T name id) (hty : typeOf (.builtin id) = pure (.type "method_descriptor")) (hm : MtR X id r) (ho : PE X o to) (ha : PA X (e :: es) t)
    (hbase : attributeBase o name X.env (eval o X.env) = eval o X.env := by rfl)
    (hfew : ((backTo cpos (starEach (e :: es) X.env)).all (fun x => !x.1) && (backToKw cpos (keywordEach [] X.env)).all (fun x => x.1.isSome)
      && decide ((e :: es).length + ([] : List Keyword).length + (if ([] : List Keyword).isEmpty then 0 else 1) < 30)) = true := by rfl)
    (hline : (apos.endLine == cpos.line) = true := by rfl) (hs : starEach (e :: es) X.env = (false, eval e X.env) :: starEach es X.env := by rfl) (hplain : (backTo cpos (starEach es X.env)).any (·.1) = false := by rfl) :
    PE X (.Call (.Attribute o name apos) (e :: es) [] cpos) (tBM X.K T r to t) := by
  intro pins s σ H Q I h
  refine wpAny_Call_method_late hbase hfew hline rfl (thn (ho pins s σ H _ I h) fun v s1 ⟨x, H1, I1, r1, ty, q1⟩ => ?_)
  obtain ⟨h1, h2⟩ := tyV_is I1 r1 ty
  refine ⟨T, id, pa, slot, hty, h1, h2, ?_⟩
  have hA := ha cpos pins s1 σ H1 _ I1 q1
  rw [hs] at hA ⊢
  refine Calls.callWith_builtin (by show (false || (backTo cpos (starEach es X.env)).any (·.1)) = false; rw [hplain] <;> rfl) (Calls.evalArgs_plain ?_)
  exact thn hA fun us s2 ⟨vs, H2, I2, r2, q2⟩ => hm pins s2 σ H2 x vs v us Q I2 r1 r2 q2
end
end L2
namespace L2
open PySem PySem.Spec PyProof.Rows
def MtM (X : Cx) (id : String) (r : V → List V → Hp → VK → Prop) : Prop :=
  ∀ (pins : List (Addr × Obj)) (s : Shared) (σ : St) (H : Hp) (x : V) (xs : List V) (v : Value) (us : List Value) (Q : VK), Inv X pins σ H s → RelV x v → Vals xs us → r x xs H Q →
    wpAny (model X.prog X.w) X.A (call (.builtin id) (v :: us)) (EP X pins σ Q) X.xe s
theorem Vals.one : ∀ {x : V} {us : List Value}, Vals [x] us → ∃ u, us = [u] ∧ RelV x u
  | _, _, .cons r .nil => ⟨_, rfl, r⟩
theorem Vals.zero : ∀ {us : List Value}, Vals [] us → us = []
  | _, .nil => rfl
theorem Vals.dropLast {xs : List V} {us : List Value} (h : Vals xs us) : Vals xs.dropLast us.dropLast := by
  induction h with
  | nil => exact .nil
  | cons r t ih =>
    cases t with
    | nil => exact .nil
    | cons q t' => exact .cons r ih
theorem Vals.eraseIdx : ∀ {xs : List V} {us : List Value} (i : Nat), Vals xs us → Vals (xs.eraseIdx i) (us.eraseIdx i)
  | _, _, _, .nil => .nil
  | _, _, 0, .cons _ t => t
  | _, _, i + 1, .cons r t => .cons r (Vals.eraseIdx i t)
theorem Vals.rep {xs : List V} {us : List Value} (h : Vals xs us) : ∀ k : Nat, Vals (List.replicate k xs).flatten (List.replicate k us).flatten
  | 0 => .nil
  | k + 1 => by
    rw [List.replicate_succ, List.replicate_succ, List.flatten_cons, List.flatten_cons]
    exact Vals.append h (Vals.rep h k)
theorem erase_last {α : Type} (l : List α) : l.eraseIdx (l.length - 1) = l.dropLast := by
  induction l with
  | nil => rfl
  | cons a r ih =>
    cases r with
    | nil => rfl
    | cons b r =>
      have e : (a :: b :: r).length - 1 = ((b :: r).length - 1) + 1 := by
        have h1 : (a :: b :: r).length = r.length + 2 := rfl
        have h2 : (b :: r).length = r.length + 1 := rfl
        omega
      rw [e, List.eraseIdx_cons_succ, ih]
      all_goals rfl
theorem foldl_rep (its : List Value) : ∀ (k : Nat) (acc : List Value),
    List.foldl (fun x1 x2 => x1 ++ x2) acc.toArray (List.replicate k its.toArray) = (acc ++ (List.replicate k its).flatten).toArray
  | 0, acc => by simp
  | k + 1, acc => by
    have e : acc.toArray ++ its.toArray = (acc ++ its).toArray := by simp
    have e2 : (acc ++ its) ++ (List.replicate k its).flatten = acc ++ (List.replicate (k + 1) its).flatten := by
      rw [List.replicate_succ, List.flatten_cons, List.append_assoc]
    rw [← e2, ← foldl_rep its k (acc ++ its), ← e, List.replicate_succ, List.foldl_cons]
section
variable {X : Cx} {pins : List (Addr × Obj)} {σ : St} {H : Hp} {s : Shared} {l b : Addr} {xs ys zs : List V}
theorem Inv.lset {its its' : List Value} {n : Nat} {f : Array Value → Array Value} {t' : Nat} (I : Inv X pins σ H s) (hH : H l = some (.lst xs))
    (e : s.heap.get? l = some { cls := .type "list", data := .seq its.toArray n }) (hf : f its.toArray = its'.toArray) (hv : Vals ys its') (hz : ys.length ≤ sizeLine) :
    Inv X pins σ (upd H l (.lst ys)) { s with heap := s.heap.update l (Obj.mapSeq f), toks := t' } := by
  have q := PySem.IsL.update e f
  rw [hf] at q
  refine I.write (x := l) (e := l) (by rw [hH]; exact trivial) (.inl rfl) (fun b' u hb hu => (Heap.get?_update_other s.heap (Obj.mapSeq f) (Ne.symm hb)).trans hu) ⟨_, q⟩ ?_
  exact ⟨hz, its', _, hv, q⟩
theorem Inv.lnew {its : List Value} {t' : Nat} (I : Inv X pins σ H s) (hv : Vals ys its) (hz : ys.length ≤ sizeLine) :
    Inv X pins σ (upd H s.heap.objs.size (.lst ys)) { s with heap := s.heap.push { cls := .type "list", data := .seq its.toArray }, toks := t' } :=
  I.laid (fun _ _ q => Heap.get?_push_of_some _ q) (Nat.le_refl _) ⟨hz, its, 0, hv, Heap.get?_push_size _ rfl⟩
theorem Inv.fresh (I : Inv X pins σ H s) : H s.heap.objs.size = none := I.hok.fresh (Nat.le_refl _)
theorem Inv.lstM (I : Inv X pins σ H s) (hH : H l = some (.lst xs)) : xs.length ≤ sizeLine ∧ ∃ (its : List Value) (n : Nat), Vals xs its ∧ xs.length = its.length ∧ s.heap.get? l = some { cls := .type "list", data := .seq its.toArray n } := by
  obtain ⟨z, its, n, r, e⟩ := I.hok l _ hH
  exact ⟨z, its, n, r, r.length, e⟩
theorem notLongL {n : Nat} (h : n ≤ sizeLine) : Builtin.List.listTooLong n = false := by
  unfold Builtin.List.listTooLong
  exact decide_eq_false (by omega)
end
section
variable {X : Cx}
def rAppend : V → List V → Hp → VK → Prop := fun x vs H Q => ∃ l xs y, x = .ref l ∧ vs = [y] ∧ H l = some (.lst xs) ∧ xs.length < sizeLine ∧ Q .non (upd H l (.lst (xs ++ [y])))
theorem mt_append : MtM X "list.append" rAppend := by
  intro pins s σ H x vs v us Q I rx rv h
  obtain ⟨l, xs, y, rfl, rfl, hH, hz, q⟩ := h
  cases rx
  obtain ⟨u, rfl, ru⟩ := rv.one
  obtain ⟨z, its, n, r, hl, e⟩ := I.lstM hH
  refine call_meets F.slot_list_append ⟨_, e, rfl⟩ F.entry_list_append (F.args_list_append_2 _ _) (PySem.list_append l its.toArray n u (by rw [List.size_toArray]; omega)) ⟨e, ?_⟩
  refine ⟨.non, _, I.lset (its' := its ++ [u]) hH e (by simp) (r.append (.cons ru .nil)) ?_, rfl, q⟩
  rw [List.length_append, List.length_singleton]
  omega
def rExtend : V → List V → Hp → VK → Prop := fun x vs H Q => ∃ l b xs zs, x = .ref l ∧ vs = [.ref b] ∧ H l = some (.lst xs) ∧ H b = some (.lst zs) ∧ xs.length + zs.length ≤ sizeLine ∧ Q .non (upd H l (.lst (xs ++ zs)))
theorem mt_extend : MtM X "list.extend" rExtend := by
  intro pins s σ H x vs v us Q I rx rv h
  obtain ⟨l, b, xs, zs, rfl, rfl, hH, hB, hz, q⟩ := h
  cases rx
  obtain ⟨u, rfl, ru⟩ := rv.one
  cases ru
  obtain ⟨z, its, n, r, hl, e⟩ := I.lstM hH
  obtain ⟨z2, its2, n2, r2, hl2, e2⟩ := I.lstM hB
  have hsz : its.toArray.size + its2.toArray.size ≤ sizeLine := by rw [List.size_toArray, List.size_toArray]; omega
  have hlong : ¬ (!its.toArray.isEmpty && Builtin.List.listTooLong (its.toArray.size + its2.toArray.size)) = true := by
    rw [notLongL hsz, Bool.and_false]
    exact Bool.false_ne_true
  refine call_meets F.slot_list_extend ⟨_, e, rfl⟩ F.entry_list_extend (F.args_list_extend_2 _ _)
    (AutoSeq1.list_extend_list_list_0 l its.toArray n b its2.toArray n2 hlong (by rw [List.size_toArray]; omega) (by omega)) ⟨e, e2, ?_⟩
  refine ⟨.non, _, I.lset (its' := its ++ its2) hH e (by simp) (r.append r2) ?_, rfl, q⟩
  rw [List.length_append]
  omega
def rPop : V → List V → Hp → VK → Prop := fun x vs H Q => ∃ l xs y, x = .ref l ∧ vs = [] ∧ H l = some (.lst xs) ∧ xs[xs.length - 1]? = some y ∧ Q y (upd H l (.lst xs.dropLast))
theorem mt_pop : MtM X "list.pop" rPop := by
  intro pins s σ H x vs v us Q I rx rv h
  obtain ⟨l, xs, y, rfl, rfl, hH, hy, q⟩ := h
  cases rx
  have hus := rv.zero
  subst hus
  obtain ⟨z, its, n, r, hl, e⟩ := I.lstM hH
  obtain ⟨u, hu, ru⟩ := r.get hy
  have hy' : its.toArray[its.toArray.size - 1]? = some u := by
    show its.toArray[its.length - 1]? = some u
    rw [← Array.getElem?_toList, ← hl]
    exact hu
  refine call_meets F.slot_list_pop ⟨_, e, rfl⟩ F.entry_list_pop (F.args_list_pop_1 _) (MeetsSeq.list_pop_last l its.toArray n u hy' (by rw [List.size_toArray]; omega)) ⟨e, ?_⟩
  refine ⟨y, _, I.lset (its' := its.dropLast) hH e ?_ r.dropLast ?_, ru, q⟩
  · show its.toArray.eraseIdxIfInBounds (its.toArray.size - 1) = its.dropLast.toArray
    rw [List.size_toArray, List.eraseIdxIfInBounds_toArray, erase_last]
  · rw [List.length_dropLast]
    omega
def rCat : R2 := fun x y H Q => ∃ l b xs zs, x = .ref l ∧ y = .ref b ∧ H l = some (.lst xs) ∧ H b = some (.lst zs) ∧ xs.length + zs.length ≤ sizeLine ∧ ∀ p, H p = none → Q (.ref p) (upd H p (.lst (xs ++ zs)))
theorem op_cat : OpR X (binaryOp .Add) rCat := by
  intro pins s σ H x y v u Q I rx ry h
  obtain ⟨l, b, xs, zs, rfl, rfl, hH, hB, hz, q⟩ := h
  cases rx
  cases ry
  obtain ⟨z, its, n, r, hl, e⟩ := I.lstM hH
  obtain ⟨z2, its2, n2, r2, hl2, e2⟩ := I.lstM hB
  refine PySem.P.add_list e e2 ?_ (by rw [List.size_toArray, List.size_toArray]; omega)
  have ea : its.toArray ++ its2.toArray = (its ++ its2).toArray := by simp
  rw [ea]
  exact ⟨.ref _, _, I.lnew (t' := s.toks) (r.append r2) (by rw [List.length_append]; omega), rfl, q _ I.fresh⟩
def rRep : R2 := fun x y H Q => ∃ l k xs, x = .ref l ∧ y = .int k ∧ H l = some (.lst xs) ∧ -(2 ^ 63) ≤ k ∧ k < 2 ^ 63 ∧ xs.length * k.toNat ≤ sizeLine ∧
  ∀ p, H p = none → Q (.ref p) (upd H p (.lst (List.replicate k.toNat xs).flatten))
theorem len_rep {α : Type} (xs : List α) (k : Nat) : (List.replicate k xs).flatten.length = k * xs.length := by
  induction k with
  | zero => simp
  | succ k ih => rw [List.replicate_succ, List.flatten_cons, List.length_append, ih, Nat.succ_mul, Nat.add_comm]
theorem op_rep : OpR X (binaryOp .Mult) rRep := by
  intro pins s σ H x y v u Q I rx ry h
  obtain ⟨l, k, xs, rfl, rfl, hH, h1, h2, hz, q⟩ := h
  cases rx
  obtain ⟨t, rfl⟩ := ry
  obtain ⟨z, its, n, r, hl, e⟩ := I.lstM hH
  have hlen : its.toArray.size * k.toNat ≤ sizeLine := by rw [List.size_toArray, ← hl]; exact hz
  have hcap : ¬ its.toArray.size * k.toNat > (2 ^ 63 - 1) / 8 := by
    have : (sizeLine : Nat) ≤ (2 ^ 63 - 1) / 8 := by decide
    omega
  have hfit : ¬ (!Builtin.List.listFitsIndex k) = true := by
    rw [fitsIndex_both h1 h2]
    exact Bool.false_ne_true
  have hlong : ¬ Builtin.List.listTooLong (its.toArray.size * k.toNat) = true := by
    rw [notLongL hlen]
    exact Bool.false_ne_true
  have hnew : List.foldl (fun x1 x2 => x1 ++ x2) #[] (List.replicate (if its.toArray.isEmpty = true then 0 else k.toNat) its.toArray) = (List.replicate k.toNat its).flatten.toArray := by
    have f0 : ∀ m : Nat, List.foldl (fun x1 x2 => x1 ++ x2) #[] (List.replicate m its.toArray) = (List.replicate m its).flatten.toArray := fun m => by
      have := foldl_rep its m []
      rw [List.nil_append] at this
      exact this
    rw [f0]
    cases its with
    | nil => simp
    | cons a r' => rw [if_neg (by simp)]
  refine wpAny_binaryOp_repeat_ref (T := "list") (U := "int") (by decide) ⟨_, e, rfl⟩ (fun s' => typeIs_int s' k t) noFill_list_mul F.fills_int_mul F.slot_int_rmul repeat_list F.slot_int_index.lookup
    (call_meets F.slot_int_rmul (typeIs_int s k t) F.entry_int_rmul (F.args_int_rmul_2 _ _) (int___rmul___int_list k t l its.toArray n)
      ⟨e, rfl, ⟨_, e, rfl⟩, call_meets F.slot_list_mul ⟨_, e, rfl⟩ F.entry_list_mul (F.args_list_mul_2 _ _) (AutoListH.list___mul___list_int_3 l its.toArray n k t hfit hcap hlong) ⟨e, ?_⟩⟩)
  rw [hnew]
  exact ⟨.ref _, _, I.lnew (t' := s.toks) (r.rep k.toNat) (by rw [len_rep, Nat.mul_comm]; exact hz), rfl, q _ I.fresh⟩
end
section
variable {prog : Program} {w : World} {A : Around} {E : Value → Shared → Prop} {s : Shared}
end
section
variable {X : Cx}
end
end L2
namespace L2
open PySem PySem.Spec PyProof.Rows
section
variable {κ : Type} [DecidableEq κ]
def valV (kvs : List (κ × V)) (k : κ) : Option V := (kvs.find? fun kv => decide (kv.1 = k)).map (·.2)
def putK (kvs : List (κ × V)) (k : κ) (v : V) : List (κ × V) :=
  if (kvs.any fun kv => decide (kv.1 = k)) = true then kvs.map (fun kv => if kv.1 = k then (kv.1, v) else kv) else kvs ++ [(k, v)]
theorem valV_pos {p : κ × V} {r : List (κ × V)} {k : κ} (e : p.1 = k) : valV (p :: r) k = some p.2 := by simp [valV, List.find?_cons, e]
theorem valV_neg {p : κ × V} {r : List (κ × V)} {k : κ} (e : ¬ p.1 = k) : valV (p :: r) k = valV r k := by simp [valV, List.find?_cons, e]
theorem valV_any (k : κ) : ∀ kvs : List (κ × V), (kvs.any fun kv => decide (kv.1 = k)) = (valV kvs k).isSome
  | [] => rfl
  | p :: r => by
    rw [List.any_cons]
    by_cases e : p.1 = k
    · simp only [valV_pos e, decide_eq_true e, Bool.true_or, Option.isSome_some]
    · rw [valV_neg e, decide_eq_false e, Bool.false_or]; exact valV_any k r
theorem length_putK (kvs : List (κ × V)) (k : κ) (v : V) : (putK kvs k v).length ≤ kvs.length + 1 := by
  unfold putK
  split
  · rw [List.length_map]; omega
  · rw [List.length_append, List.length_cons, List.length_nil]; omega
theorem RelO.isSome_eq {o : Option V} {u : Option Value} (r : RelO o u) : o.isSome = u.isSome := by
  cases o with
  | none => cases u with
    | none => rfl
    | some _ => exact (show False from r).elim
  | some _ => cases u with
    | none => exact (show False from r).elim
    | some _ => rfl
theorem RelO.getD {o : Option V} {u : Option Value} {d : V} {d' : Value} (r : RelO o u) (rd : RelV d d') : RelV (o.getD d) (u.getD d') := by
  cases o with
  | none => cases u with
    | none => exact rd
    | some _ => exact (show False from r).elim
  | some _ => cases u with
    | none => exact (show False from r).elim
    | some _ => exact r
theorem KV.val {kvs : List (κ × V)} {vs : List (κ × Value)} (r : KV kvs vs) (k : κ) : RelO (valV kvs k) (valueAt vs k) := by
  unfold KV at r
  induction r with
  | nil => exact True.intro
  | @cons p q ps qs h t ih =>
    obtain ⟨h1, h2⟩ := h
    by_cases e : p.1 = k
    · have e' : q.1 = k := h1.symm.trans e
      have b : valueAt (q :: qs) k = some q.2 := by simp [valueAt, List.find?_cons, e']
      rw [valV_pos e, b]; exact h2
    · have e' : ¬ q.1 = k := fun z => e (h1.trans z)
      have b : valueAt (q :: qs) k = valueAt qs k := by simp [valueAt, List.find?_cons, e']
      rw [valV_neg e, b]; exact ih
theorem KV.any {kvs : List (κ × V)} {vs : List (κ × Value)} (r : KV kvs vs) (k : κ) : (kvs.any fun kv => decide (kv.1 = k)) = vs.any fun kv => decide (kv.1 = k) := by
  unfold KV at r
  induction r with
  | nil => rfl
  | cons h t ih => rw [List.any_cons, List.any_cons, ih, h.1]
theorem KV.repl {kvs : List (κ × V)} {vs : List (κ × Value)} (r : KV kvs vs) (k : κ) {y : V} {u : Value} (ry : RelV y u) :
    KV (kvs.map fun kv => if kv.1 = k then (kv.1, y) else kv) (vs.map fun kv => if kv.1 = k then (kv.1, u) else kv) := by
  unfold KV at r ⊢
  induction r with
  | nil => exact .nil
  | @cons p q ps qs h t ih =>
    rw [List.map_cons, List.map_cons]
    refine .cons ?_ ih
    obtain ⟨h1, h2⟩ := h
    by_cases e : p.1 = k
    · rw [if_pos e, if_pos (h1.symm.trans e)]; exact ⟨h1, ry⟩
    · rw [if_neg e, if_neg (fun z => e (h1.trans z))]; exact ⟨h1, h2⟩
theorem KV.put {kvs : List (κ × V)} {vs : List (κ × Value)} (r : KV kvs vs) (k : κ) {y : V} {u : Value} (ry : RelV y u) : KV (putK kvs k y) (stored vs k u) := by
  unfold putK stored
  rw [r.any k]
  by_cases e : (vs.any fun kv => decide (kv.1 = k)) = true
  · rw [if_pos e, if_pos e]; exact r.repl k ry
  · rw [if_neg e, if_neg e]; exact Paired.snoc r ⟨rfl, ry⟩
theorem KV.length {kvs : List (κ × V)} {vs : List (κ × Value)} (r : KV kvs vs) : kvs.length = vs.length := Paired.length r
end
theorem kV_is {P : Program} {w : World} {k : Key} {u : Value} (r : RelV (kV k) u) : (mixKind P w).is k u = true := by
  cases k with
  | inl i => obtain ⟨t, e⟩ := (show ∃ t, u = Value.int i t from r); subst e; exact mixKind_int P w i t
  | inr x => obtain ⟨t, e⟩ := (show ∃ t, u = Value.str x t from r); subst e; exact mixKind_str P w x t
theorem items_are {P : Program} {w : World} : ∀ {ks : List Key} {us : List Value}, Vals (ks.map kV) us → ItemsAre (mixKind P w) ks us
  | [], _, r => by rw [List.map_nil] at r; cases r; exact .nil
  | k :: ks, _, r => by
    rw [List.map_cons] at r
    cases r with
    | cons h t => exact .cons (kV_is h) (items_are t)
abbrev KT (H : Hp) : List (List Key × V) → List (List Key × Addr × Value) → Prop := Paired fun p q => p.1 = q.1 ∧ H q.2.1 = some (.tup (p.1.map kV)) ∧ RelV p.2 q.2.2
theorem KT.val {H : Hp} {kvs : List (List Key × V)} {xs : List (List Key × Addr × Value)} (r : KT H kvs xs) (k : List Key) : RelO (valV kvs k) ((atKey xs k).map (·.2)) := by
  induction r with
  | nil => exact True.intro
  | @cons p q ps qs h t ih =>
    obtain ⟨h1, _, h2⟩ := h
    by_cases e : p.1 = k
    · have e' : q.1 = k := h1.symm.trans e
      have b : atKey (q :: qs) k = some q.2 := by simp [atKey, List.find?_cons, e']
      rw [valV_pos e, b]; exact h2
    · have e' : ¬ q.1 = k := fun z => e (h1.trans z)
      have b : atKey (q :: qs) k = atKey qs k := by simp [atKey, List.find?_cons, e']
      rw [valV_neg e, b]; exact ih
theorem KT.repl {H : Hp} {kvs : List (List Key × V)} {xs : List (List Key × Addr × Value)} (r : KT H kvs xs) (k : List Key) {y : V} {u : Value} (ry : RelV y u) :
    KT H (kvs.map fun kv => if kv.1 = k then (kv.1, y) else kv) (xs.map (putAt k u)) := by
  induction r with
  | nil => exact .nil
  | @cons p q ps qs h t ih =>
    rw [List.map_cons, List.map_cons]
    refine .cons ?_ ih
    obtain ⟨h1, h2, h3⟩ := h
    unfold putAt
    by_cases e : p.1 = k
    · rw [if_pos e, if_pos (h1.symm.trans e)]; exact ⟨h1, h2, ry⟩
    · rw [if_neg e, if_neg (fun z => e (h1.trans z))]; exact ⟨h1, h2, h3⟩
theorem KT.put {H : Hp} {kvs : List (List Key × V)} {xs : List (List Key × Addr × Value)} (r : KT H kvs xs) (k : List Key) {b : Addr} {y : V} {u : Value} (hb : H b = some (.tup (k.map kV))) (ry : RelV y u) :
    KT H (putK kvs k y) (storedH xs k b u) := by
  have e : (kvs.any fun kv => decide (kv.1 = k)) = (atKey xs k).isSome := by
    rw [valV_any, (r.val k).isSome_eq, Option.isSome_map]
  unfold putK storedH
  rw [e]
  by_cases q : (atKey xs k).isSome = true
  · rw [if_pos q, if_pos q]; exact r.repl k ry
  · rw [if_neg q, if_neg q]; exact Paired.snoc r ⟨rfl, hb, ry⟩
theorem KT.keeps {H H' : Hp} {kvs : List (List Key × V)} {xs : List (List Key × Addr × Value)} (r : KT H kvs xs) (ht : ∀ b ys, H b = some (.tup ys) → H' b = some (.tup ys)) : KT H' kvs xs :=
  Paired.mapP r fun _ _ z => ⟨z.1, ht _ _ z.2.1, z.2.2⟩
section
variable {P : Program} {w : World} {H : Hp} {h : Heap} {a : Addr}
theorem rd_of {u : HO} (ok : HOk P w H h) (e : Rd H a u) : ObjOk P w H h a u := e.ok ok
theorem dk_rd {kvs : List (Key × V)} (ok : HOk P w H h) (e : Rd H a (.dK kvs)) : kvs.length ≤ sizeLine ∧ (a == sysModules) = false ∧ ∃ vs, KV kvs vs ∧ h.DictOf (mixKind P w) a vs :=
  show ObjOk P w H h a (.dK kvs) from rd_of ok e
theorem dk_of {kvs : List (Key × V)} (ok : HOk P w H h) (e : H a = some (.dK kvs)) : kvs.length ≤ sizeLine ∧ (a == sysModules) = false ∧ ∃ vs, KV kvs vs ∧ h.DictOf (mixKind P w) a vs := dk_rd ok (.inl e)
theorem key_of {ks : List Key} (ok : HOk P w H h) (e : H a = some (.tup (ks.map kV))) : (tupleKind (mixKind P w)).is h ks a := by
  obtain ⟨_, its, r, o, h1, h2, n, h3⟩ := (show ObjOk P w H h a (.tup (ks.map kV)) from ok a _ e)
  exact ⟨o, its.toArray, n, h1, h2, h3, by simpa using items_are r⟩
theorem dt_rd {kvs : List (List Key × V)} (ok : HOk P w H h) (e : Rd H a (.dT kvs)) : kvs.length ≤ sizeLine ∧ (a == sysModules) = false ∧
    ∃ xs, KT H kvs xs ∧ h.DictOfH (tupleKind (mixKind P w)) a xs := by
  obtain ⟨z, y, xs, r, o, es, ep, h1, h2, h3, h4, h5⟩ := (show ObjOk P w H h a (.dT kvs) from rd_of ok e)
  refine ⟨z, y, xs, r, o, es, ep, h1, h2, h3, h4, fun x hx => ?_, h5⟩
  have all : ∀ {l : List (List Key × V)} {m : List (List Key × Addr × Value)}, KT H l m → ∀ x ∈ m, (tupleKind (mixKind P w)).is h x.1 x.2.1 := by
    intro l m q
    induction q with
    | nil => intro x hx; exact nomatch hx
    | @cons p q ps qs hq t ih =>
      intro x hx
      rcases List.mem_cons.mp hx with e | hx
      · subst e
        exact key_of ok (by rw [← hq.1]; exact hq.2.1)
      · exact ih x hx
  exact all r x hx
theorem dt_of {kvs : List (List Key × V)} (ok : HOk P w H h) (e : H a = some (.dT kvs)) : kvs.length ≤ sizeLine ∧ (a == sysModules) = false ∧
    ∃ xs, KT H kvs xs ∧ h.DictOfH (tupleKind (mixKind P w)) a xs := dt_rd ok (.inl e)
end
def DGet (H : Hp) (a : Addr) (y : V) (r : Option V) : Prop :=
  (∃ kvs k, Rd H a (.dK kvs) ∧ y = kV k ∧ r = valV kvs k) ∨ ∃ kvs k b, Rd H a (.dT kvs) ∧ y = .ref b ∧ H b = some (.tup (k.map kV)) ∧ r = valV kvs k
def DPut (H : Hp) (a : Addr) (y v : V) (H' : Hp) : Prop :=
  (∃ kvs k, H a = some (.dK kvs) ∧ y = kV k ∧ kvs.length < sizeLine ∧ H' = upd H a (.dK (putK kvs k v))) ∨
  ∃ kvs k b, H a = some (.dT kvs) ∧ y = .ref b ∧ H b = some (.tup (k.map kV)) ∧ kvs.length < sizeLine ∧ H' = upd H a (.dT (putK kvs k v))
theorem DGet.k {H : Hp} {a : Addr} {kvs : List (Key × V)} {k : Key} (e : H a = some (.dK kvs)) : DGet H a (kV k) (valV kvs k) := .inl ⟨kvs, k, .inl e, rfl, rfl⟩
theorem DGet.t {H : Hp} {a b : Addr} {kvs : List (List Key × V)} {k : List Key} (e : H a = some (.dT kvs)) (eb : H b = some (.tup (k.map kV))) : DGet H a (.ref b) (valV kvs k) := .inr ⟨kvs, k, b, .inl e, rfl, eb, rfl⟩
theorem DPut.k {H : Hp} {a : Addr} {kvs : List (Key × V)} {k : Key} {v : V} (e : H a = some (.dK kvs)) (hl : kvs.length < sizeLine) : DPut H a (kV k) v (upd H a (.dK (putK kvs k v))) := .inl ⟨kvs, k, e, rfl, hl, rfl⟩
theorem DPut.t {H : Hp} {a b : Addr} {kvs : List (List Key × V)} {k : List Key} {v : V} (e : H a = some (.dT kvs)) (eb : H b = some (.tup (k.map kV))) (hl : kvs.length < sizeLine) :
    DPut H a (.ref b) v (upd H a (.dT (putK kvs k v))) := .inr ⟨kvs, k, b, e, rfl, eb, hl, rfl⟩
section
variable {X : Cx} {pins : List (Addr × Obj)} {σ : St} {H : Hp} {s : Shared} {a : Addr} {y v : V} {u r : Value} {o : Option V} {A : Around} {E : Value → Shared → Prop}
theorem Inv.big (I : Inv X pins σ H s) : sysModules < s.heap.objs.size := by
  have h : mainGlobals < s.heap.objs.size := (I.mod.glob.keeps I.bk).lt
  exact Nat.lt_trans (by decide) h
theorem d_getItem {Q : Value → Shared → Prop} (hu : A.units + 1 < cLine) (I : Inv X pins σ H s) (g : DGet H a y (some v)) (ry : RelV y u) (h : ∀ w' s', Inv X pins σ H s' → RelV v w' → Q w' s') :
    wpAny (model X.prog X.w) A (getItem (.ref a) u) Q E s := by
  rcases g with ⟨kvs, k, e, ey, l⟩ | ⟨kvs, k, b, e, ey, eb, l⟩
  · subst ey
    obtain ⟨z, hd, vs, rel, dd⟩ := dk_rd I.hok e
    obtain ⟨w', hw, rw'⟩ := RelO.some_of (v := v) (o := valueAt vs k) (by rw [l]; exact rel.val k)
    exact wpAny_getItem_of (kV_is ry) dd.mapOf hw (h w' _ (I.tok _) rw')
  · subst ey
    cases (show u = Value.ref b from ry)
    obtain ⟨z, hd, xs, rel, dd⟩ := dt_rd I.hok e
    obtain ⟨w', hw, rw'⟩ := RelO.some_of (v := v) (o := (atKey xs k).map (·.2)) (by rw [l]; exact rel.val k)
    obtain ⟨p, hp, hp2⟩ := Option.map_eq_some_iff.mp hw
    refine wpAny_getItem_heap (tupleKind_room_in1 hu) (key_of I.hok eb) dd hp ?_
    rw [hp2]
    exact h w' _ (I.tok _) rw'
theorem d_in {Q : Value → Shared → Prop} (hu : A.units + 1 < cLine) (I : Inv X pins σ H s) (g : DGet H a y o) (ry : RelV y u) (h : ∀ s', Inv X pins σ H s' → Q (.bool o.isSome) s') :
    wpAny (model X.prog X.w) A (compareOp .In u (.ref a)) Q E s := by
  rcases g with ⟨kvs, k, e, ey, l⟩ | ⟨kvs, k, b, e, ey, eb, l⟩
  · subst ey
    obtain ⟨z, hd, vs, rel, dd⟩ := dk_rd I.hok e
    refine wpAny_in_of (kV_is ry) hd dd.mapOf ?_
    rw [← (rel.val k).isSome_eq, ← l]
    exact h _ (I.tok _)
  · subst ey
    cases (show u = Value.ref b from ry)
    obtain ⟨z, hd, xs, rel, dd⟩ := dt_rd I.hok e
    refine wpAny_in_heap (tupleKind_room_in1 hu) (key_of I.hok eb) hd dd ?_
    have q := (rel.val k).isSome_eq
    rw [Option.isSome_map] at q
    rw [← q, ← l]
    exact h _ (I.tok _)
theorem d_notIn {Q : Value → Shared → Prop} (hu : A.units + 1 < cLine) (I : Inv X pins σ H s) (g : DGet H a y o) (ry : RelV y u) (h : ∀ s', Inv X pins σ H s' → Q (.bool (!o.isSome)) s') :
    wpAny (model X.prog X.w) A (compareOp .NotIn u (.ref a)) Q E s := by
  rcases g with ⟨kvs, k, e, ey, l⟩ | ⟨kvs, k, b, e, ey, eb, l⟩
  · subst ey
    obtain ⟨z, hd, vs, rel, dd⟩ := dk_rd I.hok e
    refine wpAny_notIn_of (kV_is ry) hd dd.mapOf ?_
    rw [← (rel.val k).isSome_eq, ← l]
    exact h _ (I.tok _)
  · subst ey
    cases (show u = Value.ref b from ry)
    obtain ⟨z, hd, xs, rel, dd⟩ := dt_rd I.hok e
    refine wpAny_notIn_heap (tupleKind_room_in1 hu) (key_of I.hok eb) hd dd ?_
    have q := (rel.val k).isSome_eq
    rw [Option.isSome_map] at q
    rw [← q, ← l]
    exact h _ (I.tok _)
theorem d_write {h' : Heap} {t' : Nat} {ob : HO} (I : Inv X pins σ H s) (mu : Mut (H a)) (hs : Heap.SameBut a s.heap h') (he : ∃ q, h'.get? a = some q) (new : ObjOk X.prog X.w (upd H a ob) h' a ob) :
    Inv X pins σ (upd H a ob) { s with heap := h', toks := t' } :=
  I.write (x := a) (e := a) mu (.inl rfl) (fun b q hb z => (hs.2 b hb).trans z) he new
theorem dk_new {P : Program} {w : World} {H' : Hp} {h' : Heap} {kvs : List (Key × V)} {vs : List (Key × Value)} (z : kvs.length ≤ sizeLine) (hd : (a == sysModules) = false) (rel : KV kvs vs) (dd : h'.DictOf (mixKind P w) a vs) :
    ObjOk P w H' h' a (.dK kvs) := ⟨z, hd, vs, rel, dd⟩
theorem d_setItem {H' : Hp} {Q : Unit → Shared → Prop} (hu : A.units + 1 < cLine) (I : Inv X pins σ H s) (g : DPut H a y v H') (ry : RelV y u) (rv : RelV v r) (h : ∀ s', Inv X pins σ H' s' → Q () s') :
    wpAny (model X.prog X.w) A (setItem (.ref a) u r) Q E s := by
  rcases g with ⟨kvs, k, e, ey, l, eH⟩ | ⟨kvs, k, b, e, ey, eb, l, eH⟩
  · subst ey eH
    obtain ⟨z, hd, vs, rel, dd⟩ := dk_of I.hok e
    have hz : vs.length ≤ sizeLine := by rw [← rel.length]; exact z
    have hl : (putK kvs k v).length ≤ sizeLine := by have := length_putK kvs k v; omega
    refine wpAny_setItem_pairs (hsz := hz) (kV_is ry) dd fun h' dd' hs => h _ ?_
    have he : ∃ q, h'.get? a = some q := let ⟨q, _, _, hq, _⟩ := dd'; ⟨q, hq⟩
    exact d_write I (by rw [e]; exact True.intro) hs he (dk_new hl hd (rel.put k rv) dd')
  · subst ey eH
    cases (show u = Value.ref b from ry)
    obtain ⟨z, hd, xs, rel, dd⟩ := dt_of I.hok e
    have hz : xs.length ≤ sizeLine := by rw [← Paired.length rel]; exact z
    have hl : (putK kvs k v).length ≤ sizeLine := by have := length_putK kvs k v; omega
    refine wpAny_setItem_heap (hsz := hz) (tupleKind_room_in1 hu) (key_of I.hok eb) dd fun h' dd' hs => h _ ?_
    obtain ⟨q, es, ep, hq, h2, h3, h4, _, h5⟩ := dd'
    refine d_write I (by rw [e]; exact True.intro) hs ⟨q, hq⟩ ⟨hl, hd, _, (rel.put k eb rv).keeps fun c ys ec => ?_, q, es, ep, hq, h2, h3, h4, h5⟩
    rw [upd_ne (ne_of ec e (fun z => nomatch z))]
    exact ec
end
section
variable {X : Cx} {pins : List (Addr × Obj)} {σ : St} {H : Hp} {s : Shared} {a : Addr} {kvs : List (Key × V)} {k : Key} {u : Value} {A : Around} {E : Value → Shared → Prop}
theorem d_len {Q : Value → Shared → Prop} (I : Inv X pins σ H s) (e : Rd H a (.dK kvs)) (h : ∀ t s', Inv X pins σ H s' → Q (.int kvs.length t) s') : wpAny (model X.prog X.w) A (call (.builtin "len") [.ref a]) Q E s := by
  obtain ⟨z, hd, vs, rel, dd⟩ := dk_rd I.hok e
  refine call_len_dict hd dd (by rw [← rel.length]; rw [sizeLine_eq] at z; omega) ?_
  rw [← rel.length]
  exact h _ _ (I.tok _)
end
theorem dict_typeIs {X : Cx} {pins : List (Addr × Obj)} {σ : St} {H : Hp} {s : Shared} {a : Addr} {y : V} {o : Option V} (I : Inv X pins σ H s) (g : DGet H a y o) : s.TypeIs (.ref a) "dict" := by
  rcases g with ⟨kvs, k, e, _, _⟩ | ⟨kvs, k, b, e, _, _, _⟩
  · obtain ⟨_, _, vs, _, dd⟩ := dk_rd I.hok e
    exact dd.typeIs
  · obtain ⟨_, _, xs, _, dd⟩ := dt_rd I.hok e
    exact dd.typeIs
section
variable {X : Cx} {o i e value : Expr} {pos pos' tpos : Pos} {td ty tv : TE}
end
theorem dk_empty {P : Program} {w : World} {H : Hp} (h : Heap) (hb : sysModules < h.objs.size) : ObjOk P w H (h.push { cls := .type "dict", data := .dict #[] }) h.objs.size (.dK []) :=
  ⟨Nat.zero_le _, beq_eq_false_iff_ne.mpr (Ne.symm (Nat.ne_of_lt hb)), [], .nil, Heap.DictOf.new h⟩
def tDNewK : TE := fun _ H Q => ∀ p, H p = none → Q (.ref p) (upd H p (.dK []))
section
variable {X : Cx} {pos : Pos}
theorem pe_dnewK : PE X (.Dict [] [] pos) tDNewK := fun pins s σ H Q I h =>
  wpAny_Dict_empty ⟨.ref s.heap.objs.size, _, I.laid (a := s.heap.objs.size) (o := .dK []) (t' := s.toks) (fun _ _ q => Heap.get?_push_of_some _ q) (Nat.le_refl _) (dk_empty s.heap I.big), rfl, h _ (I.hok.fresh (Nat.le_refl _))⟩
end
structure M1 (X : Cx) (o : Expr) (m : Str) (apos : Pos) (e : Expr) (cpos : Pos) : Prop where
  base : attributeBase o m X.env (eval o X.env) = eval o X.env
  few : ((backTo cpos (starEach [e] X.env)).all (fun x => !x.1) && (backToKw cpos (keywordEach [] X.env)).all (fun x => x.1.isSome)
    && decide (([e] : List Expr).length + ([] : List Keyword).length + (if ([] : List Keyword).isEmpty then 0 else 1) < 30)) = true
  line : (apos.endLine == cpos.line) = true
  trees : backTo cpos (starEach [e] X.env) = [(false, eval e X.env)]
structure M2 (X : Cx) (o : Expr) (m : Str) (apos : Pos) (e f : Expr) (cpos : Pos) : Prop where
  base : attributeBase o m X.env (eval o X.env) = eval o X.env
  few : ((backTo cpos (starEach [e, f] X.env)).all (fun x => !x.1) && (backToKw cpos (keywordEach [] X.env)).all (fun x => x.1.isSome)
    && decide (([e, f] : List Expr).length + ([] : List Keyword).length + (if ([] : List Keyword).isEmpty then 0 else 1) < 30)) = true
  line : (apos.endLine == cpos.line) = true
  trees : backTo cpos (starEach [e, f] X.env) = [(false, eval e X.env), (false, eval f X.env)]
section
variable {X : Cx} {pins : List (Addr × Obj)} {σ : St} {H : Hp} {s : Shared} {a : Addr} {y d : V} {u r : Value} {o : Option V} {A : Around} {E : Value → Shared → Prop}
end
section
variable {X : Cx} {o e f : Expr} {apos cpos : Pos} {td ty tx : TE}
end
section
variable {X : Cx} {pins : List (Addr × Obj)} {σ : St} {H : Hp} {s : Shared} {a : Addr} {kvs : List (Key × V)} {A : Around} {E : Value → Shared → Prop}
end
section
variable {X : Cx} {pins : List (Addr × Obj)} {σ : St} {H : Hp} {s : Shared} {a : Addr} {y : V} {u : Value} {A : Around} {E : Value → Shared → Prop}
end
end L2
namespace Att
open PySem PySem.W PySem.Calls PyProof.Rows
theorem ints_of_wellAll {P : Params} {h : Heap} : ∀ (ns : List Int) (vs : List Value), WellAll P h vs (ns.map WData.int) → IntsAre vs ns := by
  intro ns
  induction ns with
  | nil =>
    intro vs w
    rw [List.map_nil] at w
    cases w
    exact .nil
  | cons n ns ih =>
    intro vs w
    rw [List.map_cons] at w
    cases w with
    | cons a b =>
      cases a
      exact .cons _ _ (ih _ b)
theorem script_of {l : OpenLaw} {n : Nat} (hn : l.most = some n) {P : Params} {h : Heap} {args : List WData} {vals : List Value}
    (hpre : l.row.toRowW.claim.pre args = true) (hwl : WellAll P h vals args) :
    ∃ a vs ns, vals = [Value.ref a] ∧ args = [WData.list (ns.map WData.int)] ∧ h.get? a = some { cls := .type "list", data := .seq vs.toArray } ∧ IntsAre vs ns ∧ ns.length ≤ n := by
  have hsh : WShape.hasAll [] args [.list .int] = true := (pre_splitW hpre).1
  have hc : l.pre.holds [] { args := args } = true := (pre_splitW hpre).2
  obtain ⟨d, r, rfl, h1, h2⟩ := hasAllW_cons hsh
  obtain rfl := hasAllW_nil h2
  obtain ⟨xs, rfl, h3⟩ := hasW_list h1
  obtain ⟨ns, rfl⟩ := items_int h3
  have hlen : ns.length ≤ n := by
    unfold OpenLaw.pre at hc
    have h4 : (WTm.not (.lt (.lit (.int (n : Int))) (.len (.arg 0)))).holds [] { args := [.list (ns.map .int)] } = true := by
      have h4 := (holds_andW hc).1
      rw [hn] at h4
      exact h4
    have h5 := condW_of h4 (w_not (w_lt w_lit (w_len_list (w_arg rfl))))
    rw [List.length_map] at h5
    refine Nat.le_of_not_lt fun q => ?_
    have q' : (n : Int) < ((ns.length : Nat) : Int) := by omega
    first
      | (rw [decide_eq_true q'] at h5; exact absurd h5 (by decide))
      | (simp at h5; omega)
  cases hwl with
  | cons w1 w2 =>
    cases w2
    cases w1 with
    | list ho hall => exact ⟨_, _, ns, rfl, rfl, ho, ints_of_wellAll ns _ hall, hlen⟩
theorem post_true (l : OpenLaw) (args : List WData) : l.row.toRowW.claim.post args (.bool true) args = true :=
  postW_of (r := l.row.toRowW) (X := (true == true))
    (show WShape.has [] (.bool true) .bool = true by first | rfl | decide | simp [WShape.has, WShape.arms, WShape.armsAll])
    (show (WTm.eq .res (.lit (.bool true))).value [] { args := args, res := some (.bool true), after := args } = some (.bool (true == true)) from w_eq_bool (w_res rfl) w_lit) rfl
theorem attach_call {l : OpenLaw} {n : Nat} {q : Program} {loose : List Str} {XP : (Str → Option Value) → Heap → Prop} {YP : World → Heap → Prop} {d : DefRec}
    (hn : l.most = some n) (hdf : d.params.defaults = [])
    (call : ∀ (w : World) (s₀ s₁ : Shared) (mg mb : Str → Option Value) (fa : Addr) (o : Obj) (pm cd doc : Value) (a : Addr) (vs : List Value) (ns : List Int),
      Ground q loose [] XP w s₀ mg mb s₁.heap → YP w s₁.heap →
      s₁.heap.get? fa = some o → o.data = .func (docDef d.name d.params d.body d.scope pm cd doc) → s₁.heap.CodeRec cd d.name → mg d.name = some (.ref fa) →
      s₁.heap.get? a = some { cls := .type "list", data := .seq vs.toArray } → IntsAre vs ns → ns.length ≤ n → s₁.gens = #[] →
      codeAny (model l.prog w) callerA (.call (.ref fa) ⟨[.ref a], []⟩) (fun r s' => r = .ok (.ret (.bool true)) ∧ OldK s₁.heap s'.heap ∧ s'.os = s₁.os ∧ AllBare s'.gens) s₁) :
    WalkO q loose XP YP l.row.toRowW d [] (fun f vs => PySem.call f vs) := by
  intro w s₀ s₁ mg mb G Y fa o pm cd doc dV kV ho hd hcd hD hmg hg args vals as hpre hlay hrd hwl hlo
  obtain rfl : dV = .none := Dflts.none hD hdf
  obtain rfl : kV = .none := Dflts.noKw hD
  obtain ⟨a, vs, ns, rfl, rfl, hobj, hints, hlen⟩ := script_of hn hpre hwl
  refine enter_call (codeAny_mono (call w s₀ s₁ mg mb fa o pm cd doc a vs ns G Y ho (fd_plain hd) hcd hmg hobj hints hlen hg) fun r s' hq => ?_)
  obtain ⟨rfl, h2, h3, h4⟩ := hq
  exact ⟨.inl ⟨.bool true, .bool true, [], rfl, fun _ => rfl, .bool true, post_true l _, fun _ => ⟨List.Pairwise.nil, fun _ hm => (nomatch hm)⟩⟩, h2, h3, h4⟩
section
variable {prog : Program} {w : World} {A : Around} {E : Value → Shared → Prop} {s : Shared} {K : Frag}
end
end Att
namespace L2
open PySem PySem.Spec PyProof.Rows
theorem vals_ints : ∀ {vs : List Value} {ns : List Int}, IntsAre vs ns → Vals (ns.map V.int) vs
  | _, _, .nil => .nil
  | _, _, .cons n t h => .cons ⟨t, rfl⟩ (vals_ints h)
def Only (H : Hp) : Prop := ∀ b, H b = none ∨ ∃ o xs, H b = some (.frz o (.lst xs))
theorem law_call {P : Program} {w : World} {K : PySem.W.Frag} {mg mb : Str → Option Value} {CX : CXT} {k : Nat} {fa a : Addr} {fd : FuncData} {x : Str} {sp : Sp} {s₁ : Shared} {vs : List Value} {ns : List Int}
    (KX : K.In s₁.heap) (hns : s₁.heap.Ns mainGlobals mg) (hb : s₁.heap.Ns builtinsNs mb) (hbb : ∀ x : Str, x ≠ "__name__" → mb x = bootBuiltins x) (hlim : s₁.heap.NoLimit) (hg : s₁.gens = #[])
    (ha : s₁.heap.get? a = some { cls := .type "list", data := .seq vs.toArray }) (hi : IntsAre vs ns) (hl : ns.length ≤ sizeLine) (hr : Room k callerA)
    (F : ∀ base : Heap, K.In base → base.Ns mainGlobals mg → FnOk P w K mg base CX k fa fd [x] sp) (hbind : ∀ (s : Shared) (u : Value), BindsTo s fd ⟨[u], []⟩ [(x, u)])
    (hsp : ∀ H : Hp, Only H → SqL K H a (ns.map V.int) → sp [.ref a] H (fun v _ => v = .bl true) fun _ _ _ => False)
    (hCX : ∀ H e s', CX [] H s₁ (fun _ _ _ => False) e s' → False) :
    codeAny (model P w) callerA (.call (.ref fa) ⟨[.ref a], []⟩) (fun r s' => r = .ok (.ret (.bool true)) ∧ OldK s₁.heap s'.heap ∧ s'.os = s₁.os ∧ AllBare s'.gens) s₁ := by
  have rv := vals_ints hi
  have lenV := hi.length
  -- from an abstract heap in which nothing but the script may be tracked
  have core : ∀ H : Hp, Only H → SqL K H a (ns.map V.int) → HOk P w H s₁.heap → (∀ b, H b ≠ none → b = a) → (H a ≠ none → K.lookup a = none) →
      codeAny (model P w) callerA (.call (.ref fa) ⟨[.ref a], []⟩) (fun r s' => r = .ok (.ret (.bool true)) ∧ OldK s₁.heap s'.heap ∧ s'.os = s₁.os ∧ AllBare s'.gens) s₁ := by
    intro H hO hS hok hA hK
    have base_of : ∀ {b : Addr} {o : Obj}, s₁.heap.get? b = some o → H b = none → (hidT s₁.heap H).get? b = some o := fun e n => hidT_get e n
    have noA : ∀ {b : Addr} {o : Obj} {es : Array DictEntry} {ep : Nat}, s₁.heap.get? b = some o → o.data = .dict es ep → H b = none := fun {b o es ep} e d => by
      cases q : H b with
      | none => rfl
      | some u =>
        have e' : b = a := hA b (by rw [q]; simp)
        subst e'
        rw [ha] at e; cases e
        have d' : Data.seq vs.toArray _ = Data.dict es ep := d
        cases d'
    have nsK : ∀ {b : Addr} {m : Str → Option Value}, s₁.heap.Ns b m → (hidT s₁.heap H).Ns b m := fun {b m} ⟨o, es, ep, e, d, r⟩ => ⟨o, es, ep, base_of e (noA e d), d, r⟩
    have hKb : K.In (hidT s₁.heap H) := fun b o e => base_of (KX b o e) (by
      cases q : H b with
      | none => rfl
      | some u =>
        have e' : b = a := hA b (by rw [q]; simp)
        subst e'
        rw [hK (by rw [q]; simp)] at e; cases e)
    have hM : Mod K mg (hidT s₁.heap H) := ⟨hKb, nsK hns, ⟨mb, nsK hb, hbb⟩, let ⟨mc, h1, h2⟩ := hlim; ⟨mc, nsK h1, h2⟩⟩
    have e0 : Env0 P w K mg (hidT s₁.heap H) callerA [] s₁ H := ⟨rfl, hM, fun b o e => of_hidT e, Nat.le_of_eq (hidT_size _ _), trivial, fun b hb => absurd (show b ∈ ([] : List Addr) from hb) (by simp), hok, .of_eq hg⟩
    refine codeAny_mono ((F _ hKb (nsK hns)).run callerA [] s₁ H ⟨[.ref a], []⟩ [.ref a] [.ref a] _ _ hr e0 (hbind s₁ (.ref a)) (.cons rfl .nil) (hsp H hO hS)) fun r s' h => ?_
    cases r with
    | error e => exact (hCX H e s' h).elim
    | ok fl =>
      cases fl with
      | next => exact False.elim h
      | brk => exact False.elim h
      | cont => exact False.elim h
      | ret u =>
        obtain ⟨v, H', os, bare, un, hok', r', q⟩ := h
        have q' : v = .bl true := q
        subst q'
        obtain rfl : u = Value.bool true := r'
        refine ⟨rfl, OldK.of_keep fun b o e => ?_, os, bare⟩
        cases q : H b with
        | none => exact un.keep b o e q (by intro z; exact absurd (show b ∈ ([] : List Addr) from z) (by simp)) (by simp)
        | some u =>
          rcases hO b with z | ⟨ob, xs, z⟩
          · rw [q] at z; cases z
          · have z2 := un.frzs b ob _ z
            obtain ⟨e1, _⟩ := hok b _ z
            obtain ⟨e2, _⟩ := hok' b _ z2
            rw [e] at e1; cases e1
            exact e2
  cases hk : K.lookup a with
  | some o =>
    -- the script is one of the module's own objects
    have e := KX a o hk
    rw [ha] at e
    cases e
    refine core (fun _ => none) (fun _ => .inl rfl) (.inr ⟨_, vs.toArray, _, hk, rfl, rfl, rfl, by rw [List.size_toArray, lenV]; exact hl, by simpa using rv⟩) (fun b u z => by have z' : (none : Option HO) = some u := z; cases z') (fun b z => absurd rfl z) fun z => absurd rfl z
  | none =>
    refine core (fun b => if b = a then some (.frz { cls := .type "list", data := .seq vs.toArray } (.lst (ns.map V.int))) else none) (fun b => ?_) (.inl (.inr ⟨{ cls := .type "list", data := .seq vs.toArray }, if_pos rfl⟩)) (fun b u z => ?_) (fun b z => ?_) fun _ => hk
    · by_cases hb : b = a
      · exact .inr ⟨_, _, if_pos hb⟩
      · exact .inl (if_neg hb)
    · by_cases hb : b = a
      · have z' := (if_pos hb).symm.trans z
        cases z'
        subst hb
        exact ⟨ha, by rw [List.length_map]; exact hl, vs, _, rv, ha⟩
      · have z' := (if_neg hb).symm.trans z
        cases z'
    · by_cases hb : b = a
      · exact hb
      · exact absurd (if_neg hb) z
end L2
namespace L2
open PySem PySem.Spec PyProof.Rows
theorem walk_of {l : PySem.W.OpenLaw} {n k : Nat} {q : Program} {loose : List Str} {XP : (Str → Option Value) → Heap → Prop} {YP : World → Heap → Prop} {d : DefRec} {K : Params → PySem.W.Frag} {CX : World → CXT} {sp : World → Sp} {x : Str}
    (hn : l.most = some n) (hn2 : n ≤ sizeLine) (hdf : d.params.defaults = []) (hr : Room k callerA)
    (hY : ∀ (w : World) (h : Heap), YP w h → (K w.params).In h)
    (F : ∀ (w : World) (mg : Str → Option Value) (fa : Addr) (h : Heap), (K w.params).In h → h.Ns mainGlobals mg → mg d.name = some (.ref fa) →
      ∃ fd : FuncData, (∀ (s : Shared) (u : Value), BindsTo s fd ⟨[u], []⟩ [(x, u)]) ∧
        ∀ base : Heap, (K w.params).In base → base.Ns mainGlobals mg → FnOk l.prog w (K w.params) mg base (CX w) k fa fd [x] (sp w))
    (hsp : ∀ (w : World) (H : Hp) (a : Addr) (ns : List Int), ns.length ≤ n → Only H → SqL (K w.params) H a (ns.map V.int) → sp w [.ref a] H (fun v _ => v = .bl true) fun _ _ _ => False)
    (hCX : ∀ (w : World) (H : Hp) (s : Shared) (e : Value) (s' : Shared), CX w [] H s (fun _ _ _ => False) e s' → False) :
    PySem.W.WalkO q loose XP YP l.row.toRowW d [] (fun f vs => PySem.call f vs) := by
  refine Att.attach_call hn hdf fun w s₀ s₁ mg mb fa o pm cd doc a vs ns G Y ho hd hcd hmg hobj hints hlen hg => ?_
  have KX := hY w _ Y
  obtain ⟨fd, hb, hF⟩ := F w mg fa _ KX G.T.g hmg
  exact law_call KX G.T.g G.T.b G.T.builtins G.T.nolimit hg hobj hints (Nat.le_trans hlen hn2) hr hF hb (fun H hO hS => hsp w H a ns hlen hO hS) fun H e s' => hCX w H s₁ e s'
end L2
namespace L2
open PySem PySem.Spec PyProof.Rows
def defArgs (s : Stmt) : Arguments := match s with
  | .FunctionDef _ a _ _ _ _ _ _ _ _ => a
  | _ => { posonlyargs := [], args := [], vararg := none, kwonlyargs := [], kw_defaults := [], kwarg := none, defaults := [] }
def defBody (s : Stmt) : List Stmt := match s with
  | .FunctionDef _ _ b _ _ _ _ _ _ _ => b
  | _ => []
def defScope (s : Stmt) : Scope := match s with
  | .FunctionDef _ _ _ _ _ _ sc _ _ _ => sc
  | _ => { kind := .function, names := [], isGenerator := false, isCoroutine := false }
abbrev CX0 : CXT := fun _ _ _ _ _ _ => False
abbrev E0 : XK := fun _ _ _ => False
theorem pass0 {X : Cx} : Passes CX0 X E0 := fun _ _ _ _ _ _ _ h => h.elim
structure Fun (K : PySem.W.Frag) (x qual : Str) (st : Stmt) (f : Addr) (fd : FuncData) : Prop where
  ex : ∃ (oc : Value) (od : Option Addr) (kV doc pm : Value) (an : Option Addr) (cdv ct : Value) (osl : Array (Option Value)),
    fd = PySem.W.fnOf x qual (defArgs st) (defBody st) (defScope st) .none kV doc pm an cdv ct ∧ K.lookup f = some ⟨oc, od, .func fd, osl⟩ ∧ PySem.W.codeIn K cdv qual = true
  kp : PySem.W.keepIn K (.ref f) = true
section
variable {P : Program} {w : World} {K : PySem.W.Frag} {mg : Str → Option Value} {base : Heap}
theorem Fun.ok {x qual : Str} {st : Stmt} {f : Addr} {fd : FuncData} {N ps : List Str} {k : Nat} {sp : Sp} (F : Fun K x qual st f fd) (S : FnScope N ps (defScope st)) (len : ∀ vs H Q E, sp vs H Q E → vs.length = ps.length)
    (hbody : ∀ (cdv : Value) (A : Around) (outer : List Env) (s : Shared) (H : Hp) (vs : List V) (Q : VK) (E : XK), Room k (A.deeper (envOfC qual (defScope st) s.heap.objs.size f cdv)) → sp vs H Q E →
      ∃ t, PSs (cxOf CX0 P w K mg base N qual (defScope st) f cdv A outer s H E).nox (defBody st) t ∧ t { nx := fun _ H' => Q .non H', rt := Q } (start N vs) H) : FnOk P w K mg base CX0 (k + 1) f fd ps sp := by
  obtain ⟨oc, od, kV, doc, pm, an, cdv, ct, osl, rfl, lk, hcd⟩ := F.ex
  refine fn_of lk hcd S len fun A outer s H vs Q E hr hsp => ?_
  obtain ⟨t, h, q⟩ := hbody cdv A outer s H vs Q E hr hsp
  exact ⟨t, h.nox, q⟩
theorem Fun.binds {x qual : Str} {st : Stmt} {f : Addr} {fd : FuncData} {ps : List Str} (F : Fun K x qual st f fd)
    (h : ∀ (kV doc pm : Value) (an : Option Addr) (cdv ct : Value) (us : List Value), us.length = ps.length → bindArgs (PySem.W.fnOf x qual (defArgs st) (defBody st) (defScope st) .none kV doc pm an cdv ct) ⟨us, []⟩ = pure (ps.zip us)) : Binds K fd ps [] := by
  obtain ⟨oc, od, kV, doc, pm, an, cdv, ct, osl, rfl, lk, hcd⟩ := F.ex
  exact .all (h kV doc pm an cdv ct)
theorem fun_mk {x qual : Str} {st : Stmt} {f : Addr} {oc : Value} {od an : Option Addr} {osl : Array (Option Value)} {kV doc pm cdv ct : Value} (l : K.lookup f = some ⟨oc, od, .func (PySem.W.fnOf x qual (defArgs st) (defBody st) (defScope st) .none kV doc pm an cdv ct), osl⟩)
    (c : PySem.W.codeIn K cdv qual = true) (k : PySem.W.keepIn K (.ref f) = true) : Fun K x qual st f (PySem.W.fnOf x qual (defArgs st) (defBody st) (defScope st) .none kV doc pm an cdv ct) := ⟨⟨oc, od, kV, doc, pm, an, cdv, ct, osl, rfl, l, c⟩, k⟩
end
theorem hu_of {A : Around} {k : Nat} (hr : Room k A) : A.units + 1 < cLine := Nat.lt_of_le_of_lt (Nat.add_le_add_left (by decide : 1 ≤ 64) _) hr.units
section
variable {X : Cx}
theorem pv (i : Nat) {x : Str} {pos : Pos} (hN : X.N[i]? = some x := by rfl) (hv : Vis X.env.scope x := by first | exact Or.inl rfl | exact Or.inr (Or.inl rfl) | exact Or.inr (Or.inr rfl)) (hd : (x == ("__debug__" : Str)) = false := by decide)
    (hcd : (x == ("__classdict__" : Str)) = false := by decide) : PE X (.Name x pos) (tVar i) := pe_var hN hv hd hcd
theorem call_lenD : CallR X (.builtin "len") (fun xs H Q => ∃ a kvs, xs = [V.ref a] ∧ H a = some (.dK kvs) ∧ Q (.int kvs.length) H) := by
  intro pins s σ H xs us Q I r h
  obtain ⟨a, kvs, rfl, ha, q⟩ := h
  obtain ⟨u, rfl, ru⟩ := vals1 r
  cases ru
  exact d_len I (.inl ha) fun t s' I' => ⟨.int kvs.length, H, I', ⟨t, rfl⟩, q⟩
end
theorem iteF {A B : Prop} (h : B) : if false = true then A else B := by
  rw [if_neg Bool.false_ne_true]
  exact h
theorem iteT {A B : Prop} (h : A) : if true = true then A else B := by
  rw [if_pos rfl]
  exact h
def Same (H H' : Hp) : Prop := ∀ b o, H b = some o → H' b = some o
theorem Same.free {H H' : Hp} (e : Same H H') {l : Addr} (h : H' l = Option.none) : H l = Option.none := by
  cases q : H l with
  | none => rfl
  | some o =>
    rw [e l o q] at h
    cases h
theorem Same.seq {K : PySem.W.Frag} {H H' : Hp} {a : Addr} {xs : List V} (e : Same H H') (h : SqL K H a xs) : SqL K H' a xs := by
  rcases h with (h | ⟨o, h⟩) | h
  · exact .inl (.inl (e _ _ h))
  · exact .inl (.inr ⟨o, e _ _ h⟩)
  · exact .inr h
section
variable {κ : Type} [DecidableEq κ]
end
end L2
set_option Elab.async false
set_option linter.all false
set_option maxRecDepth 100000
set_option maxHeartbeats 4000000
namespace L2
open PySem PySem.Spec PyProof.Rows
structure Blk where
  cl : List (Str × Addr)
  s : Shared
  H : Hp
  fp : List Addr
  C : Addr
def cxB (X : Cx) (sc : Scope) (N' : List Str) (B : Blk) : Cx where
  prog := X.prog
  w := X.w
  K := X.K
  mg := X.mg
  base := X.base
  A := X.A
  N := N'
  s₀ := B.s
  H₀ := B.H
  env := compEnvC sc B.cl B.C X.env
  outer := X.stack
  stack := X.stack
  ex := B.fp
  fn := fun _ => false
  calm := X.calm
  pn := []
  xe := fun _ _ => False
def closL (cells : List (Str × Addr)) : List (Str × NameKind) → List (Str × Addr) → List (Str × Addr)
  | [], acc => acc
  | (n, k) :: r, acc => if k = .free then closL cells r ((n, (cells.lookup n).getD 0) :: acc) else closL cells r acc
theorem closure_ok {scope : Scope} {env : Env} (h : ∀ y ∈ scope.names, y.2 = .free → ∃ c, env.cells.lookup y.1 = some c) : closureFor scope env = pure (closL env.cells scope.names []) := by
  have key : ∀ (names : List (Str × NameKind)) (acc : List (Str × Addr)), (∀ y ∈ names, y.2 = .free → ∃ c, env.cells.lookup y.1 = some c) →
      (forIn names acc fun (x : Str × NameKind) (cs : List (Str × Addr)) => (if (x.2 == NameKind.free) = true then (do let a ← cellOf env x.1; pure (ForInStep.yield ((x.1, a) :: cs))) else pure (ForInStep.yield cs) : Sem (ForInStep (List (Str × Addr))))) = (pure (closL env.cells names acc) : Sem _) := by
    intro names
    induction names with
    | nil => intro acc _; rfl
    | cons y r ih =>
      intro acc hy
      obtain ⟨n, k⟩ := y
      rw [List.forIn_cons]
      by_cases hk : k = .free
      · subst hk
        obtain ⟨c, hc⟩ := hy (n, .free) List.mem_cons_self rfl
        have e1 : cellOf env n = (pure c : Sem Addr) := by
          unfold cellOf
          rw [show env.cells.lookup n = some c from hc]
        simp only [beq_self_eq_true, if_true, e1, pure_bind]
        rw [ih _ fun z hz => hy z (List.mem_cons_of_mem _ hz)]
        simp only [closL, if_true]
        rw [show env.cells.lookup n = some c from hc]
        rfl
      · have hb : (k == NameKind.free) = false := by simpa using hk
        simp only [hb, Bool.false_eq_true, if_false, pure_bind]
        rw [ih _ fun z hz => hy z (List.mem_cons_of_mem _ hz)]
        simp only [closL, if_neg hk]
  have e : closureFor scope env = ((forIn scope.names [] fun (x : Str × NameKind) (cs : List (Str × Addr)) => (if (x.2 == NameKind.free) = true then (do let a ← cellOf env x.1; pure (ForInStep.yield ((x.1, a) :: cs))) else pure (ForInStep.yield cs) : Sem (ForInStep (List (Str × Addr))))) >>= fun cs => pure cs) := by
    unfold closureFor
    rfl
  rw [e, key _ _ h, pure_bind]
theorem closL_sub {cells : List (Str × Addr)} {x : Str} {c : Addr} : ∀ {names : List (Str × NameKind)} {acc : List (Str × Addr)}, (∀ y ∈ names, y.2 = .free → ∃ c, cells.lookup y.1 = some c) →
    (∀ x c, acc.lookup x = some c → cells.lookup x = some c) → (closL cells names acc).lookup x = some c → cells.lookup x = some c
  | [], acc, _, ha, e => ha x c e
  | (n, k) :: r, acc, hy, ha, e => by
    have hr : ∀ y ∈ r, y.2 = .free → ∃ c, cells.lookup y.1 = some c := fun z hz => hy z (List.mem_cons_of_mem _ hz)
    unfold closL at e
    by_cases hk : k = .free
    · subst hk
      rw [if_pos rfl] at e
      obtain ⟨d, hd⟩ := hy (n, .free) List.mem_cons_self rfl
      have hd : cells.lookup n = some d := hd
      refine closL_sub hr (fun z b q => ?_) e
      rw [List.lookup_cons] at q
      by_cases hz : z = n
      · subst hz
        rw [beq_self_eq_true, hd] at q
        rw [hd]; exact q
      · have : (z == n) = false := beq_eq_false_iff_ne.mpr hz
        rw [this] at q
        exact ha z b q
    · rw [if_neg hk] at e
      exact closL_sub hr ha e
theorem closL_has {cells : List (Str × Addr)} {x : Str} : ∀ {names : List (Str × NameKind)} {acc : List (Str × Addr)}, ((x, NameKind.free) ∈ names ∨ ∃ c, acc.lookup x = some c) → ∃ c, (closL cells names acc).lookup x = some c
  | [], acc, h => by
    rcases h with h | h
    · cases h
    · exact h
  | (n, k) :: r, acc, h => by
    unfold closL
    by_cases hk : k = .free
    · subst hk
      rw [if_pos rfl]
      refine closL_has ?_
      by_cases hx : x = n
      · subst hx
        right
        rw [List.lookup_cons, beq_self_eq_true]
        exact ⟨_, rfl⟩
      · have hb : (x == n) = false := beq_eq_false_iff_ne.mpr hx
        rcases h with h | ⟨c, h⟩
        · rcases List.mem_cons.mp h with e | h
          · cases e; exact absurd rfl hx
          · exact .inl h
        · right
          rw [List.lookup_cons, hb]
          exact ⟨c, h⟩
    · rw [if_neg hk]
      refine closL_has ?_
      rcases h with h | h
      · rcases List.mem_cons.mp h with e | h
        · cases e; exact absurd rfl hk
        · exact .inl h
      · exact .inr h
structure CScope (N' : List Str) (sc osc : Scope) : Prop where
  kind : sc.kind = .function
  nd : N'.Nodup
  nocell : ∀ y ∈ sc.names, y.2 ≠ .cell
  loc : ∀ y ∈ sc.names, y.2 = .local → sc.names.lookup y.1 = some .local
  free : ∀ y ∈ sc.names, y.2 = .free → osc.names.lookup y.1 = some .cell ∨ osc.names.lookup y.1 = some .free
def cscopeB (N' : List Str) (sc osc : Scope) : Bool :=
  decide (sc.kind = .function) && decide N'.Nodup && sc.names.all (fun y => decide (y.2 ≠ .cell)) && sc.names.all (fun y => decide (y.2 = .local → sc.names.lookup y.1 = some .local)) &&
    sc.names.all (fun y => decide (y.2 = .free → osc.names.lookup y.1 = some .cell ∨ osc.names.lookup y.1 = some .free))
theorem CScope.of {N' : List Str} {sc osc : Scope} (h : cscopeB N' sc osc = true) : CScope N' sc osc := by
  unfold cscopeB at h
  simp only [Bool.and_eq_true] at h
  obtain ⟨⟨⟨⟨h1, h2⟩, h3⟩, h4⟩, h5⟩ := h
  exact ⟨of_decide_eq_true h1, of_decide_eq_true h2, fun y hy => of_decide_eq_true (List.all_eq_true.mp h3 y hy), fun y hy => of_decide_eq_true (List.all_eq_true.mp h4 y hy), fun y hy => of_decide_eq_true (List.all_eq_true.mp h5 y hy)⟩
def cmap (js : List (Option Nat)) (σ : St) : St := js.map fun o => o.bind fun j => (σ[j]?).join
def jsOk (N' N : List Str) (sc : Scope) : List (Option Nat) → List Str → Bool
  | [], [] => true
  | none :: js, _ :: r => jsOk N' N sc js r
  | some j :: js, x :: r => decide (N[j]? = some x) && decide (sc.names.lookup x = some .free) && jsOk N' N sc js r
  | _, _ => false
theorem jsOk_len {N' N : List Str} {sc : Scope} : ∀ {js : List (Option Nat)} {r : List Str}, jsOk N' N sc js r = true → js.length = r.length
  | [], [], _ => rfl
  | none :: js, _ :: r, h => by
    have := jsOk_len (js := js) (r := r) h
    simp [this]
  | some j :: js, x :: r, h => by
    unfold jsOk at h
    rw [Bool.and_eq_true] at h
    have := jsOk_len (js := js) (r := r) h.2
    simp [this]
  | [], _ :: _, h => by simp [jsOk] at h
  | none :: _, [], h => by simp [jsOk] at h
  | some _ :: _, [], h => by simp [jsOk] at h
theorem jsOk_get {N' N : List Str} {sc : Scope} : ∀ {js : List (Option Nat)} {r : List Str} {i j : Nat} {x : Str}, jsOk N' N sc js r = true → js[i]? = some (some j) → r[i]? = some x → N[j]? = some x ∧ sc.names.lookup x = some .free
  | [], [], i, j, x, _, e, _ => by simp at e
  | none :: js, _ :: r, 0, j, x, h, e, _ => by simp at e
  | none :: js, _ :: r, i + 1, j, x, h, e, e2 => jsOk_get (js := js) (r := r) (i := i) h (by simpa using e) (by simpa using e2)
  | some k :: js, y :: r, 0, j, x, h, e, e2 => by
    unfold jsOk at h
    rw [Bool.and_eq_true, Bool.and_eq_true] at h
    simp at e e2
    subst e; subst e2
    exact ⟨of_decide_eq_true h.1.1, of_decide_eq_true h.1.2⟩
  | some k :: js, y :: r, i + 1, j, x, h, e, e2 => by
    unfold jsOk at h
    rw [Bool.and_eq_true, Bool.and_eq_true] at h
    exact jsOk_get (js := js) (r := r) (i := i) h.2 (by simpa using e) (by simpa using e2)
  | [], _ :: _, _, _, _, h, _, _ => by simp [jsOk] at h
  | none :: _, [], _, _, _, h, _, _ => by simp [jsOk] at h
  | some _ :: _, [], _, _, _, h, _, _ => by simp [jsOk] at h
theorem relabel_kind {env : Env} {x : Str} : ∀ {names : List (Str × NameKind)}, (∀ y ∈ names, y.2 ≠ .cell) →
    (((names.map fun (n, k) => if (k == NameKind.free && env.scope.kind == .function && env.kindOf n == some .cell) then (n, NameKind.cell) else (n, k)).lookup x = some .cell ∨
     (names.map fun (n, k) => if (k == NameKind.free && env.scope.kind == .function && env.kindOf n == some .cell) then (n, NameKind.cell) else (n, k)).lookup x = some .free) ↔ names.lookup x = some .free)
  | [], _ => by simp
  | (n, k) :: r, h => by
    have ih := @relabel_kind env x r fun y hy => h y (List.mem_cons_of_mem _ hy)
    have hk : k ≠ .cell := h (n, k) List.mem_cons_self
    rw [List.map_cons]
    dsimp only
    by_cases hx : (x == n) = true
    · by_cases hc : (k == NameKind.free && env.scope.kind == .function && env.kindOf n == some .cell) = true
      · rw [if_pos hc]
        simp only [List.lookup_cons, hx]
        have : k = .free := by
          rw [Bool.and_eq_true, Bool.and_eq_true] at hc
          exact beq_iff_eq.mp hc.1.1
        simp [this]
      · rw [if_neg hc]
        simp only [List.lookup_cons, hx]
        constructor
        · rintro (e | e)
          · cases e; exact absurd rfl hk
          · exact e
        · intro e; exact .inr e
    · have hx : (x == n) = false := by simpa using hx
      by_cases hc : (k == NameKind.free && env.scope.kind == .function && env.kindOf n == some .cell) = true
      · rw [if_pos hc]
        simp only [List.lookup_cons, hx]
        exact ih
      · rw [if_neg hc]
        simp only [List.lookup_cons, hx]
        exact ih
theorem lookup_memF {x : Str} {k : NameKind} : ∀ {names : List (Str × NameKind)}, names.lookup x = some k → (x, k) ∈ names := fun h => PySem.mem_of_lookup h
section
variable {X : Cx} {sc : Scope} {N' : List Str} {js : List (Option Nat)} {pins : List (Addr × Obj)} {σ : St} {H H1 : Hp} {s : Shared} {fp : List Addr} {C : Addr}
theorem cells_of (S : CScope N' sc X.env.scope) (I : Inv X pins σ H s) : ∀ y ∈ sc.names, y.2 = .free → ∃ c, X.env.cells.lookup y.1 = some c := fun y hy hk =>
  I.ok.has y.1 (S.free y hy hk)
theorem inv_blk (S : CScope N' sc X.env.scope) (hj : jsOk N' X.N sc js N' = true) (I : Inv X pins σ H s) (hf : ∀ b ∈ fp, FpOk X pins H b) (ho : ∀ b ∈ fp, ∃ o, s.heap.get? b = some o)
    {h1 : Heap} {tk : Nat} {m : Str → Option Value} (hC : s.heap.objs.size ≤ C) (keep : ∀ b o, s.heap.get? b = some o → h1.get? b = some o) (un : Un (frs X.stack) fp H H1 s.heap h1) (hok : HOk X.prog X.w H1 h1) (hn : h1.Ns C m) (hfree : H1 C = none) :
    Inv (cxB X sc N' ⟨closL X.env.cells sc.names [], s, H, fp, C⟩) [] (cmap js σ) H1 { s with heap := h1, toks := tk } := by
  have cs := cells_of S I
  have sub : ∀ x c, (closL X.env.cells sc.names []).lookup x = some c → X.env.cells.lookup x = some c := fun x c e => closL_sub cs (fun _ _ z => by simp at z) e
  refine ⟨⟨I.ok.mod, S.kind, I.ok.glob, I.ok.blt, hC, fun x y c e1 e2 => I.ok.inj x y c (sub x c e1) (sub y c e2), fun x hx => ?_, fun _ _ h _ => absurd (show false = true from h) Bool.false_ne_true, I.ok.hd, I.ok.frames, .inl rfl, fun b hb => ?_, I.bs, Nat.le_trans I.ok.bsz I.sz, fun b o e hb => ?_, fun b hb hb' => ?_, I.stack, I.stkFree⟩,
    rfl, I.bare, un, ⟨m, hn, fun i x v e1 e2 e3 => ?_⟩, fun x c e => ?_, hfree, fun x c e => ?_, fun p hp => absurd (show p ∈ ([] : List (Addr × Obj)) from hp) (by simp), hok, ?_⟩
  · have q : sc.names.lookup x = some .free := (relabel_kind (env := X.env) S.nocell).mp hx
    exact closL_has (.inl (lookup_memF q))
  · obtain ⟨o, e⟩ := ho b hb
    exact ⟨Nat.ne_of_lt (Nat.lt_of_lt_of_le (Heap.lt_size e) hC), fun x c q => (hf b hb).2.2.2.2.1 x c (sub x c q)⟩
  · rcases (hf b hb).2.2.2.1 with z | z
    · exact I.ok.noex b o e z
    · exact absurd (Nat.lt_of_lt_of_le (Heap.lt_size e) (Nat.le_trans I.ok.bsz z)) (Nat.lt_irrefl _)
  · rcases List.mem_cons.mp (I.stkSub b hb') with z | z
    · exact (hf b hb).2.1 z
    · exact (hf b hb).2.2.1 z
  · -- the names that are handed in
    have e1 : N'[i]? = some x := e1
    unfold cmap at e2
    rw [List.getElem?_map] at e2
    cases hji : js[i]? with
    | none => rw [hji] at e2; cases e2
    | some o =>
      rw [hji] at e2
      cases o with
      | none => cases e2
      | some j =>
        obtain ⟨a1, a2⟩ := jsOk_get hj hji e1
        have e2 : (σ[j]?).join = some v := by simpa using e2
        have e2' : σ[j]? = some (some v) := by
          cases q : σ[j]? with
          | none => rw [q] at e2; cases e2
          | some z => rw [q] at e2; simpa using e2
        obtain ⟨m0, hn0, hl0⟩ := I.loc
        have kx := S.free _ (lookup_memF a2) rfl
        obtain ⟨u, r, l⟩ := hl0 j x v a1 e2' (kx.elim (fun z => .inr (.inl z)) fun z => .inr (.inr z))
        refine ⟨u, r, .inr ⟨(relabel_kind (env := X.env) S.nocell).mpr a2, ?_⟩⟩
        rcases l with ⟨k, _⟩ | ⟨_, c, ec, hc⟩
        · have k : X.env.scope.names.lookup x = some .local := k
          rcases kx with z | z
          · rw [k] at z; cases z
          · rw [k] at z; cases z
        · obtain ⟨c', ec'⟩ := closL_has (cells := X.env.cells) (acc := []) (.inl (lookup_memF a2))
          have : c' = c := Option.some.inj ((sub x c' ec').symm.trans ec)
          subst this
          obtain ⟨oc, hoc, hd⟩ := hc
          exact ⟨c', ec', oc, keep _ _ hoc, hd⟩
  · obtain ⟨v, oc, hoc, hd⟩ := I.cell x c (sub x c e)
    exact ⟨v, oc, keep _ _ hoc, hd⟩
  · obtain ⟨v, oc, hoc, hd⟩ := I.cell x c (sub x c e)
    have nfp : c ∉ fp := fun z => (hf c z).2.2.2.2.1 x c (sub x c e) rfl
    exact un.free c oc hoc (I.freeC x c (sub x c e)) nfp
  · show (cmap js σ).length = N'.length
    unfold cmap
    rw [List.length_map]
    exact jsOk_len hj
end
section
variable {prog : Program} {w : World} {A : Around} {R : Result → Shared → Prop} {s : Shared}
theorem compLoop_any {elt target iter : Expr} {ifs : List Expr} {scope : Scope} {pos : Pos} {it acc : Value} {env : Env} (I : Nat → Shared → Prop)
    (turn : ∀ n s, I n s → wpAny (model prog w) A (pyNext it) (fun r s₁ => match r with
      | none => R (.ok .next) s₁
      | some v => wpAny (model prog w) A (letOwnedTupleGo target it v) (fun _ s₀ => wpAny (model prog w) A (assign target env v) (fun _ s₂ =>
          wpAny (model prog w) A (forIn ifs true fun c r => if r = true then do let ok ← isTrue c env (eval c env); pure (ForInStep.yield ok) else pure (ForInStep.yield r)) (fun ok s₃ =>
            if ok = true then wpAny (model prog w) A (eval elt env) (fun x s₄ =>
              wpAny (model prog w) A (call (.builtin "list.append") [acc, x]) (fun _ s₅ => ∃ m, m < n ∧ I m s₅) (fun _ _ => False) s₄) (fun _ _ => False) s₃
            else ∃ m, m < n ∧ I m s₃) (fun _ _ => False) s₂) (fun _ _ => False) s₀) (fun _ _ => False) s₁) (fun _ _ => False) s)
    (n : Nat) (h : I n s) :
    codeAny (model prog w) A (.compLoop (.ListComp elt [⟨target, iter, ifs, 0⟩] scope pos) 0 it acc env) R s := by
  refine codeAny_loop rfl I (fun n s hI => ?_) n h
  show wpAny _ A ((compTurn (.ListComp elt [⟨target, iter, ifs, 0⟩] scope pos) 0 it acc env).onRaise (fun x => do noteFrame x env; theTreesLotGoes x)) _ _ s
  refine wpAny_noted ?_
  rw [compTurn_list]
  refine wpAny_bind (wpAny_standAt (wpAny_bind (wpAny_mono (turn n s hI) (fun r s₁ h₁ => ?_) fun _ _ h' => h'.elim)))
  cases r with
  | none => exact wpAny_pure h₁
  | some v =>
    refine wpAny_bind (wpAny_mono h₁ (fun _ s₀ h₀ => ?_) fun _ _ h' => h'.elim)
    refine wpAny_bind (wpAny_mono h₀ (fun _ s₂ h₂ => wpAny_bind (wpAny_mono h₂ (fun ok s₃ h₃ => ?_) fun _ _ h' => h'.elim)) fun _ _ h' => h'.elim)
    cases ok with
    | false => exact wpAny_pure ⟨rfl, h₃⟩
    | true =>
      exact wpAny_bind (wpAny_bind (wpAny_mono h₃ (fun x s₄ h₄ => wpAny_bind (wpAny_mono h₄ (fun _ s₅ h₅ => wpAny_pure (wpAny_pure ⟨rfl, h₅⟩)) fun _ _ h' => h'.elim)) fun _ _ h' => h'.elim))
end
def PIfs (X : Cx) (ifs : List Expr) (t : TT) : Prop :=
  ∀ (pins : List (Addr × Obj)) (s : Shared) (σ : St) (H : Hp) (Q : Bool → Hp → Prop), Inv X pins σ H s → t σ H Q →
    wpAny (model X.prog X.w) X.A (forIn ifs true fun c r => if r = true then do let ok ← isTrue c X.env (eval c X.env); pure (ForInStep.yield ok) else pure (ForInStep.yield r)) (TP X pins σ Q) X.xe s
def tTrue : TT := fun _ H Q => Q true H
theorem pifs_nil {X : Cx} : PIfs X [] tTrue := fun _ _ _ H _ I h => wpAny_tests_nil ⟨H, I, h⟩
theorem pifs_one {X : Cx} {c : Expr} {t : TT} (h : PT X c t) : PIfs X [c] t := fun pins s σ H Q I hw => wpAny_tests_one (h pins s σ H Q I hw)
def CompW (J : It) (g : TG) (tt : TT) (te : TE) (p : Addr) (σ₀ : St) (H1 : Hp) (Q : VK) : Prop :=
  ∃ W : Nat → Nat → St → List V → Hp → Prop, (∃ m, W 0 m σ₀ [] (upd H1 p (.lst []))) ∧ ∀ i m σ' acc H, W i m σ' acc H →
    (J.stop i H ∧ Q (.ref p) H) ∨ (J.go i H ∧ ∃ N : St → List V → Hp → Prop, (∀ σ2 acc' H', N σ2 acc' H' → ∃ m', m' < m ∧ W (i + 1) m' σ2 acc' H') ∧ ∀ x H', J.yld i H x H' → g x σ' H' fun σ2 H2 => tt σ2 H2 fun b H3 =>
      if b = true then te σ2 H3 fun y H4 => H4 p = some (.lst acc) ∧ acc.length < sizeLine ∧ N σ2 (acc ++ [y]) (upd H4 p (.lst (acc ++ [y])))
      else N σ2 acc H3)
def tComp (wi : TI) (g : Blk → TG) (tt : Blk → TT) (te : Blk → TE) (js : List (Option Nat)) : TE := fun σ H Q => wi σ H fun J H1 => ∀ p, H1 p = none → ∀ B : Blk, CompW J (g B) (tt B) (te B) p (cmap js σ) H1 Q
section
variable {X : Cx} {sc : Scope} {N' : List Str} {js : List (Option Nat)} {tg iter elt : Expr} {ifs : List Expr} {pos : Pos} {wi : TI} {g : Blk → TG} {tt : Blk → TT} {te : Blk → TE}
theorem comp_core (S : CScope N' sc X.env.scope) (hj : jsOk N' X.N sc js N' = true) (hc : X.calm = true)
    (hg : ∀ B, PG (cxB X sc N' B) tg (g B)) (ht : ∀ B, PIfs (cxB X sc N' B) ifs (tt B)) (he : ∀ B, PE (cxB X sc N' B) elt (te B))
    {pins : List (Addr × Obj)} {s : Shared} {σ : St} {J : It} {H : Hp} {it : Addr} {fp : List Addr} {tn : Nat → Heap → Prop} (I : Inv X pins σ H s) (T : Turn X.prog X.w X.K tg J fp it tn) (st : tn 0 s.heap) (hf : ∀ b ∈ fp, FpOk X pins H b)
    {Q : VK} (hw : ∀ p, H p = none → ∀ B : Blk, CompW J (g B) (tt B) (te B) p (cmap js σ) H Q) {E : Value → Shared → Prop} {RR : Value → Addr → Result → Shared → Prop}
    (hRR : ∀ p C H' s' m, Inv X pins σ H' s' → FpOk X pins H' C → s'.heap.Ns C m → Q (.ref p) H' → RR (.ref p) C (.ok .next) s') :
    wpAny (model X.prog X.w) X.A (newList []) (fun acc s₃ => wpAny (model X.prog X.w) X.A (newFunctionEnv sc X.env.globals (closL X.env.cells sc.names []) [] X.env.qual none .none (some X.env)) (fun cenv s₄ =>
      codeAny (model X.prog X.w) X.A (.compStart (.ListComp elt [⟨tg, iter, ifs, 0⟩] sc pos) 0 (.ref it) acc { cenv with scope := relabel sc X.env }) (RR acc cenv.locals) s₄) E s₃) E s := by
  refine wpAny_newObj_type (wpAny_newFunctionEnv S.nocell (by intro y hy; simp at hy) (fun h₁ hns₁ hsb₁ => ?_) S.kind)
  dsimp only at hns₁ hsb₁ ⊢
  generalize hH2 : s.heap.push { cls := .type "list", dict := none, data := .seq ([] : List Value).toArray } = H2 at hns₁ hsb₁ ⊢
  have hC : H2.objs.size = s.heap.objs.size + 1 := by rw [← hH2, Heap.size_push]
  have hDC : s.heap.objs.size ≠ H2.objs.size := by rw [hC]; exact Nat.ne_of_lt (Nat.lt_succ_self _)
  have hCle : s.heap.objs.size ≤ H2.objs.size := by rw [hC]; exact Nat.le_succ _
  have below : ∀ b, b < s.heap.objs.size → b ≠ H2.objs.size := fun b hb => by rw [hC]; exact Nat.ne_of_lt (Nat.lt_succ_of_lt hb)
  have old : ∀ b o, s.heap.get? b = some o → h₁.get? b = some o := fun b o e => hsb₁.extBut b o (below b (Heap.lt_size e)) (Heap.get?_push_of_some _ (hH2 ▸ Heap.get?_push_of_some _ e))
  have hacc : h₁.get? s.heap.objs.size = some { cls := .type "list", dict := none, data := .seq ([] : List Value).toArray } := hsb₁.extBut _ _ hDC (Heap.get?_push_of_some _ (hH2 ▸ Heap.get?_push_size _ rfl))
  have hp0 : H s.heap.objs.size = none := I.hok.fresh (Nat.le_refl _)
  have newO : ObjOk X.prog X.w (upd H s.heap.objs.size (.lst [])) h₁ s.heap.objs.size (.lst []) := ⟨Nat.zero_le _, [], _, .nil, hacc⟩
  have hok1 : HOk X.prog X.w (upd H s.heap.objs.size (.lst [])) h₁ := I.hok.laid old (Nat.le_refl _) newO
  have un1 : Un (frs X.stack) fp H (upd H s.heap.objs.size (.lst [])) s.heap h₁ := Un.laid old (Nat.le_refl _) hp0
  have fC : (upd H s.heap.objs.size (.lst [])) H2.objs.size = none := by rw [upd_ne (Ne.symm hDC)]; exact I.hok.fresh hCle
  have IB := inv_blk (tk := s.toks + ([] : List (Str × Value)).length) S hj I hf (fun b hb => let ⟨o, e, _⟩ := T.obj 0 _ st b hb; ⟨o, e⟩) hCle old un1 hok1 hns₁ fC
  obtain ⟨W, ⟨m0, w0⟩, turn⟩ := hw _ hp0 ⟨closL X.env.cells sc.names [], s, H, fp, H2.objs.size⟩
  have st1 : tn 0 h₁ := T.keep _ _ _ st fun b _ o e => old b o e
  have loop : ∀ s₃ : Shared, s₃ = { s with heap := h₁, toks := s.toks + ([] : List (Str × Value)).length } →
      codeAny (model X.prog X.w) X.A (.compLoop (.ListComp elt [⟨tg, iter, ifs, 0⟩] sc pos) 0 (.ref it) (.ref s.heap.objs.size) (compEnvC sc (closL X.env.cells sc.names []) H2.objs.size X.env))
        (RR (.ref s.heap.objs.size) H2.objs.size) s₃ := by
    rintro s₃ rfl
    generalize hB : (⟨closL X.env.cells sc.names [], s, H, fp, H2.objs.size⟩ : Blk) = B at turn w0 IB
    have eB : compEnvC sc (closL X.env.cells sc.names []) H2.objs.size X.env = (cxB X sc N' B).env := by subst hB; rfl
    have exB : (cxB X sc N' B).ex = fp := by subst hB; rfl
    rw [eB]
    have stat : ∀ {σ' : St} {H' : Hp} {s' : Shared}, Inv (cxB X sc N' B) [] σ' H' s' → (∀ b ∈ fp, H' b = none) → ∀ b ∈ fp, FpOk (cxB X sc N' B) [] H' b := fun {σ' H' s'} J' hn b hb => by
      refine ⟨hn b hb, (J'.ok.exf b (by rw [exB]; exact hb)).1, J'.ok.exfs b (by rw [exB]; exact hb), .inl (by rw [exB]; exact hb), (J'.ok.exf b (by rw [exB]; exact hb)).2, fun p hp => absurd (show p ∈ ([] : List (Addr × Obj)) from hp) (by simp)⟩
    have fp0 : ∀ b ∈ fp, (upd H s.heap.objs.size (.lst [])) b = none := fun b hb => by
      obtain ⟨o, e, _⟩ := T.obj 0 _ st b hb
      rw [upd_ne (Nat.ne_of_lt (Heap.lt_size e))]
      exact (hf b hb).1
    refine compLoop_any (fun n s' => ∃ i σ' acc H', Inv (cxB X sc N' B) [] σ' H' s' ∧ tn i s'.heap ∧ (∀ b ∈ fp, H' b = none) ∧ W i n σ' acc H') ?_ m0 ⟨0, _, [], _, IB, st1, fp0, w0⟩
    rintro n s3 ⟨i, σ3, acc, H3, I3, st3, fr3, w3⟩
    rcases turn i n σ3 acc H3 w3 with ⟨stop, qn⟩ | ⟨go, N, hN, step⟩
    · refine thn (T.done (cxB X sc N' B) rfl rfl rfl hc i [] s3 σ3 H3 (fun _ _ => False) I3 (stat I3 fr3) st3 stop) fun r s4 ⟨hr, I4⟩ => ?_
      subst hr
      obtain ⟨m4, hn4, _⟩ := I4.loc
      have u4 : Un (frs X.stack) fp H H3 s.heap s4.heap := by have := I4.base; subst hB; exact this
      have o4 : s4.os = s.os := by have := I4.os; subst hB; exact this
      have c4 : (cxB X sc N' B).env.locals = H2.objs.size := by subst hB; rfl
      have hIX : Inv X pins σ H3 s4 := I.call' (ch := fp) o4 u4 I4.hok I4.bare fun b hb => ⟨(hf b hb).2.2.2.1, (hf b hb).2.1, (hf b hb).2.2.2.2.1, (hf b hb).2.2.2.2.2⟩
      exact hRR _ _ H3 s4 m4 hIX (I.fpOk hCle (by rw [← c4]; exact I4.free)) (by rw [← c4]; exact hn4) qn
    · refine thn (T.item (cxB X sc N' B) rfl rfl rfl hc i [] s3 σ3 H3 (fun _ _ => False) I3 (stat I3 fr3) st3 go) fun r s4 ⟨u, hr, h4⟩ => ?_
      subst hr
      refine thn h4 fun _ s5 ⟨x, H5, I5, r5, y5, st5, fr5⟩ => ?_
      have I5' := I5.pinned (stat I5 fr5) (T.obj _ _ st5)
      refine thn (hg B _ s5 σ3 H5 x u _ I5' r5 (step x H5 y5)) fun _ s6 ⟨σ6, H6, I6, q6⟩ => ?_
      refine thn (ht B _ s6 σ6 H6 _ I6 q6) fun ok s7 ⟨H7, I7, q7⟩ => ?_
      have again : ∀ {H8 : Hp} {s8 : Shared} {acc' : List V}, Inv (cxB X sc N' B) ([] ++ pinsAt fp s5.heap) σ6 H8 s8 → (∃ m', m' < n ∧ W (i + 1) m' σ6 acc' H8) → ∃ m, m < n ∧ ∃ i σ' acc H', Inv (cxB X sc N' B) [] σ' H' s8 ∧ tn i s8.heap ∧ (∀ b ∈ fp, H' b = none) ∧ W i m σ' acc H' :=
        fun {H8 s8 acc'} I8 ⟨m', hm, w8⟩ => by
          refine ⟨m', hm, i + 1, σ6, acc', H8, I8.unpinned, T.keep _ _ _ st5 fun b hb o e => (I8.pin (b, o) (List.mem_append_right _ (List.mem_append_right _ (mem_pinsAt hb e)))).1, fun b hb => ?_, w8⟩
          obtain ⟨o, e, d⟩ := T.obj _ _ st5 b hb
          exact (I8.pin (b, o) (List.mem_append_right _ (List.mem_append_right _ (mem_pinsAt hb e)))).2.1
      cases ok with
      | false =>
        rw [if_neg Bool.false_ne_true] at q7
        rw [if_neg Bool.false_ne_true]
        exact again I7 (hN _ _ _ q7)
      | true =>
        rw [if_pos rfl] at q7
        rw [if_pos rfl]
        refine thn (he B _ s7 σ6 H7 _ I7 q7) fun y s8 ⟨z, H8, I8, r8, hp8, hl8, q8⟩ => ?_
        exact thn (mt_append _ s8 σ6 H8 (.ref s.heap.objs.size) [z] (.ref s.heap.objs.size) [y] (fun _ H9 => N σ6 (acc ++ [z]) H9) I8 rfl (.cons r8 .nil) ⟨_, acc, z, rfl, rfl, hp8, hl8, q8⟩) fun _ s9 ⟨_, H9, I9, _, q9⟩ => again I9 (hN _ _ _ q9)
  exact codeAny_compStart_list (loop _ rfl) (T.self _ 0 _ _ _ st1 (loop _ rfl))
theorem pe_comp (N' : List Str) (js : List (Option Nat)) (hi : PI X tg iter wi)
    (hg : ∀ B, PG (cxB X sc N' B) tg (g B)) (ht : ∀ B, PIfs (cxB X sc N' B) ifs (tt B)) (he : ∀ B, PE (cxB X sc N' B) elt (te B))
    (S0 : cscopeB N' sc X.env.scope = true := by kernel_rfl) (hj : jsOk N' X.N sc js N' = true := by kernel_rfl) (hc : X.calm = true := by rfl) (hs : ∀ x, foldedSetIterable iter X.env x = pure x := by intro _; rfl) : PE X (.ListComp elt [⟨tg, iter, ifs, 0⟩] sc pos) (tComp wi g tt te js) := by
  intro pins s σ H Q I h
  have S := CScope.of S0
  rw [eval_ListComp]
  refine wpAny_comprehension_free (use := none) rfl hs (closure_ok (cells_of S I)) S.kind S.loc (thn (hi pins s σ H _ I h) fun xv s₁ h₁ => thn h₁ fun itv s₂ h₂ => ?_)
  obtain ⟨it, fp, tn, J, H2, e, I2, T, st2, f2, hw⟩ := h₂
  subst e
  refine comp_core (RR := fun acc C => compPost (model X.prog X.w) X.A X.xe none (EP X pins σ Q) acc C) S hj hc hg ht he I2 T st2 f2 hw ?_
  intro p C H' s' m I' fC hn q
  refine ⟨m, hn, fun h' hs' => ⟨.ref p, H', ?_, rfl, q⟩⟩
  exact I'.turned (t' := s'.toks) (fun b o hb e => (hs'.2 b hb).trans e) fC.1 fC.2.1 fC.2.2.2.1 fC.2.2.2.2.1 fC.2.2.2.2.2
theorem ps_setcomp {i : Nat} {x : Str} {px spos : Pos} (hN : X.N.Nodup) (hi0 : X.N[i]? = some x) (hx : Loc X.env.scope x) (N' : List Str) (js : List (Option Nat)) (hi : PI X tg iter wi)
    (hg : ∀ B, PG (cxB X sc N' B) tg (g B)) (ht : ∀ B, PIfs (cxB X sc N' B) ifs (tt B)) (he : ∀ B, PE (cxB X sc N' B) elt (te B))
    (S0 : cscopeB N' sc X.env.scope = true := by kernel_rfl) (hj : jsOk N' X.N sc js N' = true := by kernel_rfl) (hc : X.calm = true := by rfl) (hsw : swapsWith (.ListComp elt [⟨tg, iter, ifs, 0⟩] sc pos) (some (.Name x px)) spos.line X.env = pure true := by rfl)
    (hf : X.fn x = true ∨ X.env.scope.names.lookup x = some .local := by first | exact .inl rfl | exact .inr rfl | assumption)
    (hs : ∀ x, foldedSetIterable iter X.env x = pure x := by intro _; rfl) : PS X (.Assign [.Name x px] (.ListComp elt [⟨tg, iter, ifs, 0⟩] sc pos) spos) (tAsg (tComp wi g tt te js) (gName i)) := by
  intro pins s σ H D I h
  have S := CScope.of S0
  rw [exec_Assign_Name_used _ _ _ _ hsw]
  refine wpAny_bind (wpAny_standAt (wpAny_bind ?_))
  show wpAny _ X.A (do let _ ← comprehension (.ListComp elt [⟨tg, iter, ifs, 0⟩] sc pos) sc X.env _ (newList []) false (eval iter X.env) (some (assign (.Name x px) X.env))) _ _ s
  refine wpAny_bind (wpAny_mono (wpAny_comprehension_free (use := some (assign (.Name x px) X.env)) (Q := fun _ s' => SP X pins D .next s') rfl hs (closure_ok (cells_of S I)) S.kind S.loc
    (thn (hi pins s σ H _ I h) fun xv s₁ h₁ => thn h₁ fun itv s₂ h₂ => ?_)) (fun _ s' hq => wpAny_pure (wpAny_pure hq)) fun _ _ e => e)
  obtain ⟨it, fp, tn, J, H2, e, I2, T, st2, f2, hw⟩ := h₂
  subst e
  refine comp_core (RR := fun acc C => compPost (model X.prog X.w) X.A X.xe (some (assign (.Name x px) X.env)) (fun _ s' => SP X pins D .next s') acc C) S hj hc hg ht he I2 T st2 f2 hw ?_
  intro p C H' s' m I' fC hn q
  show wpAny _ X.A (assign (.Name x px) X.env (.ref p)) _ _ _
  refine wpAny_assign_Name (store_ok2 I' hN hi0 hx (v := .ref p) rfl (fun s'' I'' ⟨a, sb, ha⟩ => ?_) hf)
  have hCa : C ≠ a := by
    rcases ha with e | e
    · rw [e]; exact fC.2.1
    · exact fun z => fC.2.2.2.2.1 x a e z.symm
  refine ⟨m, hn.sameBut sb hCa, fun h' hs' => ⟨_, H', ?_, q⟩⟩
  exact I''.turned (t' := s''.toks) (fun b o hb e => (hs'.2 b hb).trans e) fC.1 fC.2.1 fC.2.2.2.1 fC.2.2.2.2.1 fC.2.2.2.2.2
end
section
variable {g : TG} {tt : TT} {te : TE} {p : Addr} {σ₀ : St} {H1 : Hp} {Q : VK}
theorem comp_by {J : It} (n : Nat) (Pv : Nat → St → List V → Hp → Prop) (h0 : Pv 0 σ₀ [] (upd H1 p (.lst []))) (hd : ∀ σ acc H, Pv n σ acc H → J.stop n H ∧ Q (.ref p) H)
    (hs : ∀ i σ acc H, i < n → Pv i σ acc H → J.go i H ∧ ∀ x H', J.yld i H x H' → g x σ H' fun σ2 H2 => tt σ2 H2 fun b H3 =>
      if b = true then te σ2 H3 fun y H4 => H4 p = some (.lst acc) ∧ acc.length < sizeLine ∧ Pv (i + 1) σ2 (acc ++ [y]) (upd H4 p (.lst (acc ++ [y]))) else Pv (i + 1) σ2 acc H3) : CompW J g tt te p σ₀ H1 Q := by
  refine ⟨fun i m σ acc H => m = n - i ∧ i ≤ n ∧ Pv i σ acc H, ⟨n, by simp, Nat.zero_le _, h0⟩, ?_⟩
  rintro i m σ acc H ⟨rfl, hi, q⟩
  by_cases hlt : i < n
  · obtain ⟨hg, hy⟩ := hs i σ acc H hlt q
    exact .inr ⟨hg, Pv (i + 1), fun σ2 acc' H' q' => ⟨n - (i + 1), by omega, rfl, hlt, q'⟩, hy⟩
  · have e : i = n := by omega
    subst e
    exact .inl (hd σ acc H q)
end
end L2
set_option Elab.async false
set_option linter.all false
set_option maxRecDepth 100000
set_option maxHeartbeats 4000000
namespace L2
open PySem PySem.Spec PyProof.Rows
section
variable {X : Cx}
theorem bits_small {i : Int} (h : i.natAbs < 2 ^ 4096) : Builtin.Int.intBits i ≤ 2 ^ 20 := by
  unfold Builtin.Int.intBits
  split
  · exact Nat.zero_le _
  · rename_i h0
    have hn : i.natAbs ≠ 0 := by
      intro z
      have : i = 0 := Int.natAbs_eq_zero.mp z
      rw [this] at h0
      exact h0 rfl
    have : i.natAbs.log2 < 4096 := (Nat.log2_lt hn).mpr h
    have e : (2 : Nat) ^ 20 = 1048576 := by decide
    omega
def CBig (i j : Int) : Prop := i.natAbs < 2 ^ 4096 ∧ j.natAbs < 2 ^ 4096
theorem op_mulB : OpR X (binaryOp .Mult) (rI CBig fun i j => .int (i * j)) := opI fun _ _ _ _ _ _ _ hc q => mul_int q (IntMulOk.of_bits (bits_small hc.1) (bits_small hc.2))
def CDivB (i j : Int) : Prop := 0 < j ∧ j < 2 ^ 4096
theorem op_fdivB : OpR X (binaryOp .FloorDiv) (rI CDivB fun i j => .int (i / j)) := opI fun i j _ _ _ _ _ hc q => by
  refine floordiv_int (by have := hc.1; omega) ?_ (.inl (PyProof.noPylong_of_log2 ?_))
  · rw [Int.fdiv_eq_ediv_of_nonneg _ (Int.le_of_lt hc.1)]; exact q
  · have h0 : j.natAbs ≠ 0 := by have := hc.1; omega
    have h1 : j.natAbs < 2 ^ 4096 := by
      have a := hc.1
      have b := hc.2
      omega
    have := (Nat.log2_lt h0).mpr h1
    omega
theorem op_mulS : OpR X (binaryOp .Mult) (fun x y H Q => ∃ z n, x = .str z ∧ y = .int n ∧ z.length ≤ 16 ∧ -(2 ^ 63) ≤ n ∧ n ≤ 1048576 ∧ Q (.str (Txt.mul z n)) H) := by
  intro pins s σ H x y v u Q I rx ry h
  obtain ⟨z, n, rfl, rfl, h1, h2, h3, q⟩ := h
  obtain ⟨t, rfl⟩ := rx
  obtain ⟨t', rfl⟩ := ry
  exact SB.mul (mulOk_of 16 1048576 h1 h3 h2 (by decide) (by decide)) fun t' k => ⟨.str _, H, I.tok _, ⟨_, rfl⟩, q⟩
theorem mt_upper : MtR X "str.upper" (fun x vs H Q => ∃ z, x = .str z ∧ vs = [] ∧ z.length ≤ 5592405 ∧ Q (.str (Txt.upper z)) H) := by
  intro pins s σ H x xs v us Q I rx rv h
  obtain ⟨z, rfl, rfl, hz, q⟩ := h
  obtain ⟨t, rfl⟩ := rx
  have := rv.zero
  subst this
  exact SC.upper (fit_upper hz) ⟨.str _, H, I.tok _, ⟨_, rfl⟩, q⟩
theorem mt_partition : MtR X "str.partition" (fun x vs H Q => ∃ z y, x = .str z ∧ vs = [.str y] ∧ (y.length == 0) = false ∧ z.length ≤ sizeLine ∧
    ∀ p, H p = none → Q (.ref p) (upd H p (.tup [.str (Txt.partition z y).1, .str (Txt.partition z y).2.1, .str (Txt.partition z y).2.2]))) := by
  intro pins s σ H x xs v us Q I rx rv h
  obtain ⟨z, y, rfl, rfl, hy, hz, q⟩ := h
  obtain ⟨t, rfl⟩ := rx
  obtain ⟨u, rfl, ru⟩ := rv.one
  obtain ⟨t', rfl⟩ := ru
  refine call_meets F.slot_str_partition (typeIs_str _ _ _) F.entry_str_partition (F.args_str_partition_2 _ _) (meets_str_partition z y t t' hy hz) ?_
  have q' := q s.heap.objs.size (I.hok.fresh (Nat.le_refl _))
  have fin : ∀ (a b c : Str) (ta tb tc : Tok) (tk : Nat), Q (.ref s.heap.objs.size) (upd H s.heap.objs.size (.tup [.str a, .str b, .str c])) →
      EP X pins σ Q (.ref s.heap.objs.size) { s with toks := tk, heap := s.heap.push { cls := .type "tuple", data := .seq [.str a ta, .str b tb, .str c tc].toArray } } := fun a b c ta tb tc tk qq =>
    ⟨.ref s.heap.objs.size, _, I.laid (o := .tup [.str a, .str b, .str c]) (t' := tk) (fun b o e => Heap.get?_push_of_some _ e) (Nat.le_refl _)
      ⟨by show 3 ≤ sizeLine; decide, [.str a ta, .str b tb, .str c tc], .cons ⟨_, rfl⟩ (.cons ⟨_, rfl⟩ (.cons ⟨_, rfl⟩ .nil)), ⟨_, Heap.get?_push_size _ rfl, rfl, _, rfl⟩⟩, rfl, qq⟩
  unfold Txt.partition at q'
  revert q'
  cases Builtin.Str.occurrences z y 0 z.length 1 with
  | nil => intro q'; exact fin _ _ _ _ _ _ _ q'
  | cons i r => intro q'; exact fin _ _ _ _ _ _ _ q'
theorem all_range {bs : List Bool} : (List.range bs.length).all (fun i => bs.getD i false) = bs.all id := by
  induction bs with
  | nil => rfl
  | cons b r ih =>
    rw [List.length_cons, List.range_succ_eq_map, List.all_cons, List.all_map, List.all_cons]
    have : ((fun i => (b :: r).getD i false) ∘ Nat.succ) = fun i => r.getD i false := by
      funext i; simp [List.getD]
    rw [this, ih]
    simp
theorem call_all (hc : X.calm = true) : CallR X (.builtin "all") (fun xs H Q => ∃ (p : Addr) (bs : List Bool), xs = [.ref p] ∧ SqL X.K H p (bs.map V.bl) ∧ Q (.bl (bs.all id)) H) := by
  intro pins s σ H xs us Q I r h
  obtain ⟨p, bs, rfl, hq, q⟩ := h
  obtain ⟨u, rfl, ru⟩ := vals1 r
  cases ru
  obtain ⟨its, rv, pl, hz⟩ := I.list hq
  have hlt : p < s.heap.objs.size := by obtain ⟨_, e, _⟩ := pl.isList; exact Heap.lt_size e
  refine call_all_walk (wpAny_pyIter_list pl.isList ?_)
  have hA : X.A.in1.handled = none := I.ok.hd hc
  refine ⟨s.heap.objs.size, [s.heap.objs.size, p], [s.heap.objs.size], its.toArray.size, (fun i v => its.toArray[i]? = some v), _, (fun i => bs.getD i false), rfl, Walks.list hA s.heap.objs.size p (Nat.ne_of_lt hlt) its.toArray,
    ⟨⟨_, Heap.get?_push_size _ rfl, rfl, rfl⟩, pl.isList.push _⟩, ?_, fun h' tk hk => ?_⟩
  · intro i v s' Q' E' hv hQ'
    have hv' : its[i]? = some v := by simpa using hv
    have hi : i < its.length := (List.getElem?_eq_some_iff.mp hv').1
    have hl := rv.length
    rw [List.length_map] at hl
    have hb : bs[i]? = some (bs.getD i false) := by
      have hi' : i < bs.length := by omega
      simp [List.getD, List.getElem?_eq_getElem hi']
    obtain ⟨u, hu, ru⟩ := rv.get (i := i) (x := .bl (bs.getD i false)) (by rw [List.getElem?_map, hb]; rfl)
    rw [hv'] at hu; cases hu
    cases (show v = Value.bool (bs.getD i false) from ru)
    exact wpAny_pure hQ'
  · have hl := rv.length
    rw [List.length_map] at hl
    have e : (List.range its.toArray.size).all (fun i => bs.getD i false) = bs.all id := by
      rw [List.size_toArray, ← hl, all_range]
    rw [e]
    refine ⟨.bl (bs.all id), H, ?_, rfl, q⟩
    exact I.kept (t' := tk) fun b o eb => hk b o (fun z => by
      have : b = s.heap.objs.size := by simpa using z
      exact absurd (Heap.lt_size eb) (by rw [this]; exact Nat.lt_irrefl _)) (Heap.get?_push_of_some _ eb)
theorem call_isinst : CallR X (.builtin "isinstance") (fun xs H Q => ∃ x T t b, xs = [x, .ty T] ∧ TyOf X.K H x t ∧ PySem.W.kitOne X.K t (.type T) = some b ∧ Q (.bl b) H) := by
  intro pins s σ H xs us Q I r h
  obtain ⟨x, T, t, b, rfl, ty, e, q⟩ := h
  obtain ⟨u, w', rfl, ru, rw'⟩ := vals2 r
  cases (show w' = Value.type T from rw')
  exact isinst_ok I ru ty e fun tk => ⟨.bl b, H, I.tok _, rfl, q⟩
def Its (z : Str) : It := ⟨fun i _ => i < z.cps.size, fun i H x H' => H' = H ∧ ∃ c, z.cps.toList[i]? = some c ∧ x = .str ⟨#[c]⟩, fun i _ => z.cps.size ≤ i⟩
theorem turn_str {P : Program} {w : World} {K : PySem.W.Frag} {x : Str} {px : Pos} (z : Str) (it : Addr) (ty : String) (tk0 : Tok)
    (nx : ∀ (A : Around) (s : Shared) (i c : Nat) (Q : Option Value → Shared → Prop) (E : Value → Shared → Prop), s.heap.IsStrIter it ty z tk0 i → z.cps[i]? = some c →
      (∀ h', h'.IsStrIter it ty z tk0 (i + 1) → Heap.SameBut it s.heap h' → Q (some (.str ⟨#[c]⟩ s.toks)) { s with heap := h', toks := s.toks + 1 }) → wpAny (model P w) A (pyNext (.ref it)) Q E s)
    (en : ∀ (A : Around) (s : Shared) (i : Nat) (Q : Option Value → Shared → Prop) (E : Value → Shared → Prop), A.handled = none → s.heap.IsStrIter it ty z tk0 i → z.cps[i]? = none →
      (∀ h', Heap.ExtBut it s.heap h' → Q none { s with heap := h' }) → wpAny (model P w) A (pyNext (.ref it)) Q E s)
    (slf : ∀ (A : Around) (i : Nat) (s : Shared) (Q : Value → Shared → Prop) (E : Value → Shared → Prop), s.heap.IsStrIter it ty z tk0 i → Q (.ref it) s → wpAny (model P w) A (pyIter (.ref it)) Q E s) :
    Turn P w K (.Name x px) (Its z) [it] it (fun i h => h.IsStrIter it ty z tk0 i) where
  mem := by simp
  obj := fun i h st b hb => by
    have e : b = it := by simpa using hb
    subst e
    obtain ⟨o, ho, _, hd⟩ := st
    exact ⟨o, ho, fun v q => by rw [hd] at q; cases q⟩
  keep := fun i h h' st k => by
    obtain ⟨o, ho, r⟩ := st
    exact ⟨o, k it (by simp) o ho, r⟩
  item := by
    intro X hP hw hK hc i pins s σ H E I hf st hg
    subst hP hw hK
    obtain ⟨f0, f1, f2, f3, f4, f5⟩ := hf it (by simp)
    have hi : z.cps[i]? = some z.cps[i] := Array.getElem?_eq_getElem hg
    refine nx X.A s i _ _ _ st hi fun h' st' sb => ?_
    have I1 : Inv X pins σ H { s with heap := h', toks := s.toks + 1 } := I.turned (fun b o hb e => (sb.2 b hb).trans e) f0 f1 f3 f4 f5
    exact ⟨_, rfl, wpAny_pure ⟨.str ⟨#[z.cps[i]]⟩, H, I1, ⟨_, rfl⟩, ⟨rfl, z.cps[i], by rw [Array.getElem?_toList]; exact hi, rfl⟩, st', fun b hb => (hf b hb).1⟩⟩
  done := by
    intro X hP hw hK hc i pins s σ H E I hf st hg
    subst hP hw hK
    obtain ⟨f0, f1, f2, f3, f4, f5⟩ := hf it (by simp)
    have hg' : z.cps.size ≤ i := hg
    exact en X.A s i _ _ (I.ok.hd hc) st (Array.getElem?_eq_none hg') fun h' eb => ⟨rfl, I.turned (t' := s.toks) (fun b o hb e => eb b o hb e) f0 f1 f3 f4 f5⟩
  self := slf
theorem draw_list {prog : Program} {w : World} {A : Around} {E : Value → Shared → Prop} {it l : Addr} {items : Array Value} (hne : l ≠ it) : ∀ (n i : Nat) (s : Shared) (Q : List Value → Shared → Prop), s.heap.IsListIter it l i → s.heap.IsList l items → i + n ≤ items.size →
    (∀ h', h'.IsListIter it l (i + n) → Heap.SameBut it s.heap h' → Q ((items.toList.drop i).take n) { s with heap := h' }) → wpAny (model prog w) A (draw (.ref it) n) Q E s
  | 0, i, s, Q, hit, _, _, hQ => by
    show wpAny _ _ (pure []) Q E s
    exact wpAny_pure (by simpa using hQ s.heap hit (Heap.SameBut.refl ..))
  | n + 1, i, s, Q, hit, ht, hle, hQ => by
    have hlt : i < items.size := by omega
    show wpAny _ _ (pyNext (.ref it) >>= _) Q E s
    refine wpAny_bind (wpAny_pyNext_list_item hit ht (x := items[i]) (by simp [hlt]) fun h₁ hit₁ hs₁ => ?_)
    refine wpAny_bind (wpAny_holding (draw_list hne n (i + 1) _ _ hit₁ (ht.extBut hs₁.extBut hne) (by omega) fun h₂ hit₂ hs₂ => wpAny_pure ?_))
    have hd : items.toList.drop i = items[i] :: items.toList.drop (i + 1) := by simp [List.drop_eq_getElem_cons, hlt]
    have := hQ h₂ (by rw [show i + (n + 1) = i + 1 + n by omega]; exact hit₂) (hs₁.trans hs₂)
    rw [hd, List.take_succ_cons] at this
    exact this
theorem unpack_list {prog : Program} {w : World} {A : Around} {E : Value → Shared → Prop} {s : Shared} {t : Addr} {items : Array Value} {targets : List (Bool × (Value → Sem Unit))} {Q : Unit → Shared → Prop} (hh : A.handled = none) (ht : s.heap.IsList t items)
    (hn : targets.length = items.size) (hstar : targets.findIdx? (·.1) = none)
    (h : ∀ h', Heap.ExtBut s.heap.objs.size s.heap h' → wpAny (model prog w) A (assignInOrder (targets.map (·.2)) items.toList) Q E { s with heap := h' }) :
    wpAny (model prog w) A (unpack (.ref t) targets) Q E s := by
  have hlt : t ≠ s.heap.objs.size := by obtain ⟨o, ho, _⟩ := ht; exact Nat.ne_of_lt (Heap.lt_size ho)
  unfold unpack
  rw [hn, hstar]
  refine wpAny_bind (wpAny_holding ?_)
  unfold unpackItems
  refine wpAny_bind ?_
  unfold notIterableAtAll
  refine wpAny_bind (wpAny_specialOf ht.typeIs F.slot_list_iter.lookup ?_)
  refine wpAny_pure ?_
  simp only [Bool.false_eq_true, if_false]
  refine wpAny_bind (wpAny_holding (wpAny_pyIter_list ht ?_))
  refine wpAny_bind (wpAny_holding (draw_list hlt items.size 0 _ _ ⟨_, Heap.get?_push_size _ rfl, rfl, rfl⟩ (ht.push _) (by omega) fun h₁ hit₁ hs₁ => ?_))
  have hall : List.take items.size (List.drop 0 items.toList) = items.toList := by
    rw [List.drop_zero]; exact List.take_of_length_le (by simp)
  rw [hall]
  rw [if_neg (by simp)]
  have ht₁ : h₁.IsList t items := (ht.push _).extBut hs₁.extBut hlt
  refine wpAny_bind (wpAny_holding (wpAny_pyNext_list_end hh hit₁ ht₁ (by simp) fun h₂ he₂ => ?_))
  simp only [Option.isSome_none, Bool.false_eq_true, if_false]
  refine wpAny_pure (h h₂ fun b o hb e => he₂ b o hb (hs₁.extBut b o hb (Heap.get?_push_of_some _ e)))
def gLst (K : PySem.W.Frag) (n : Nat) (t : TGs) : TG := fun v σ H Q => ∃ a xs, v = .ref a ∧ SqL K H a xs ∧ xs.length = n ∧ t xs σ H Q
theorem pg_lst {es : List Expr} {k : Nat} {pos : Pos} {t : TGs} {n : Nat} (hc : X.calm = true) (h : PGs X es t)
    (hn : (assignEach es X.env).length = n := by rfl) (hst : (assignEach es X.env).findIdx? (·.1) = none := by rfl) : PG X (.Tuple es k pos) (gLst X.K n t) := by
  intro pins s σ H v u Q I r hw
  obtain ⟨a, xs, e1, hq, hl, hw⟩ := hw
  subst e1
  cases r
  obtain ⟨its, rv, ht, hz⟩ := I.list hq
  rw [PyProof.Rows.assign_Tuple]
  refine wpAny_bind (wpAny_standAt (unpack_list (I.ok.hd hc) ht.isList (by simp [hn, ← hl, rv.length]) hst fun h' hx => ?_))
  have I1 : Inv X pins σ H { s with heap := h' } := I.kept (t' := s.toks) fun b o e => hx b o (Nat.ne_of_lt (Heap.lt_size e)) e
  exact h pins _ σ H xs _ Q I1 (by simpa using rv) hw
end
end L2
set_option Elab.async false
set_option linter.all false
set_option maxRecDepth 100000
set_option maxHeartbeats 4000000
namespace Rg
open PySem PySem.Spec PyProof.Rows L2
abbrev GREAT : Str := "ABCDEFGHIJKLMNOPQRSTUVWXYZ"
abbrev FIGS : Str := "0123456789"
abbrev SMALL : Str := "abcdefghijklmnopqrstuvwxyz"
def cs (z : Str) : List Nat := z.cps.toList
def madeB (z g : Str) : Bool := (!decide (V.str z = V.str "")) && (cs z).all fun c => decide (c ∈ cs g)
def isNameB (z : Str) : Bool := (decide (V.str (Txt.partition z "_").2.1 = V.str "") || madeB (Txt.partition z "_").2.2 FIGS) && madeB (Txt.partition z "_").1 GREAT
theorem cs_inj {x y : Str} (h : cs x = cs y) : x = y := by
  obtain ⟨x⟩ := x; obtain ⟨y⟩ := y
  exact congrArg Str.mk (Array.toList_inj.mp h)
theorem cs_len (x : Str) : (cs x).length = x.length := by unfold cs Str.length; simp
theorem cs_app (x y : Str) : cs (x ++ y) = cs x ++ cs y := by
  show (x.cps ++ y.cps).toList = _
  rw [Array.toList_append]; rfl
theorem cs_empty : cs "" = [] := by decide +kernel
theorem vstr_empty (z : Str) : decide (V.str z = V.str "") = decide (cs z = []) := by
  by_cases h : z = ""
  · subst h; simp [cs_empty]
  · rw [decide_eq_false (fun e => h (V.str.inj e)), decide_eq_false]
    intro e
    exact h (cs_inj (e.trans cs_empty.symm))
theorem madeB_eq (z g : Str) : madeB z g = (!decide (cs z = []) && (cs z).all fun c => decide (c ∈ cs g)) := by unfold madeB; rw [vstr_empty]
theorem under_eq : ("_" : Str) = ⟨#[95]⟩ := by decide +kernel
theorem cs_under : cs "_" = [95] := by decide +kernel
theorem part_none {z : Str} (h : 95 ∉ cs z) : Txt.partition z "_" = (z, Str.empty, Str.empty) := by
  rw [under_eq]
  rcases partition_whole z ⟨#[95]⟩ with ⟨e, _⟩ | ⟨i, _, hi, _⟩
  · exact e
  · exact absurd ((mem_iff_at z 95).mpr ⟨i, hi⟩) h
theorem cs_sub (z : Str) (i j : Nat) : cs (Builtin.Str.strSub z i j) = ((cs z).drop i).take (j - i) := by
  show (z.cps.extract i j).toList = _
  rw [Array.toList_extract]; rfl
theorem part_one {z a b : Str} (e : cs z = cs a ++ 95 :: cs b) (h : 95 ∉ cs a) : Txt.partition z "_" = (a, ("_" : Str), b) := by
  have hz : z.length = (cs a).length + 1 + (cs b).length := by
    rw [← cs_len, e, List.length_append, List.length_cons]; omega
  rw [under_eq]
  rcases partition_whole z ⟨#[95]⟩ with ⟨_, hn⟩ | ⟨i, hp, hi, hn⟩
  · have hm : 95 ∈ cs z := by rw [e]; simp
    obtain ⟨j, hj⟩ := (mem_iff_at z 95).mp hm
    exact absurd hj (hn j)
  · have h1 : (cs z)[i]? = some 95 := (StrLaws.subAt_one z 95 i).mp hi
    have h2 : ∀ k, k < i → (cs z)[k]? ≠ some 95 := fun k hk q => hn k hk ((StrLaws.subAt_one z 95 k).mpr q)
    have hi' : i = (cs a).length := by
      rcases Nat.lt_trichotomy i (cs a).length with q | q | q
      · rw [e, List.getElem?_append_left q] at h1
        exact absurd (List.mem_of_getElem? h1) h
      · exact q
      · refine absurd ?_ (h2 (cs a).length q)
        rw [e, List.getElem?_append_right (Nat.le_refl _)]
        simp
    rw [hp]
    have ea : Builtin.Str.strSub z 0 i = a := by
      apply cs_inj
      rw [cs_sub, List.drop_zero, e, hi', Nat.sub_zero, List.take_left']
      rfl
    have eb : Builtin.Str.strSub z (i + (⟨#[95]⟩ : Str).length) z.length = b := by
      apply cs_inj
      have l1 : (⟨#[95]⟩ : Str).length = 1 := rfl
      rw [cs_sub, l1, e, hi', hz]
      have d : (cs a ++ 95 :: cs b).drop ((cs a).length + 1) = cs b := by
        rw [List.drop_append]
        simp
      rw [d]
      have : (cs a).length + 1 + (cs b).length - ((cs a).length + 1) = (cs b).length := by omega
      rw [this, List.take_length]
    rw [ea, eb]
theorem name_letters {z : Str} (h0 : cs z ≠ []) (h : ∀ c ∈ cs z, c ∈ cs GREAT) : isNameB z = true := by
  have h95 : 95 ∉ cs z := fun m => absurd (h _ m) (by decide +kernel)
  unfold isNameB
  rw [part_none h95]
  dsimp only
  rw [vstr_empty]
  have e : cs Str.empty = [] := by decide +kernel
  simp only [e, decide_true, Bool.true_or, Bool.true_and]
  rw [madeB_eq, decide_eq_false h0, List.all_eq_true.mpr fun c hc => decide_eq_true (h c hc)]
  rfl
theorem name_figures {z a b : Str} (e : cs z = cs a ++ 95 :: cs b) (h0 : cs a ≠ []) (h : ∀ c ∈ cs a, c ∈ cs GREAT) (h1 : cs b ≠ []) (h2 : ∀ c ∈ cs b, c ∈ cs FIGS) : isNameB z = true := by
  have h95 : 95 ∉ cs a := fun m => absurd (h _ m) (by decide +kernel)
  unfold isNameB
  rw [part_one e h95, madeB_eq, madeB_eq]
  rw [decide_eq_false h0, List.all_eq_true.mpr fun c hc => decide_eq_true (h c hc), decide_eq_false h1, List.all_eq_true.mpr fun c hc => decide_eq_true (h2 c hc)]
  simp
theorem name_not {z : Str} (h0 : cs z ≠ []) (h : ∀ c ∈ cs z, c ∈ cs SMALL) : isNameB z = false := by
  have h95 : 95 ∉ cs z := fun m => absurd (h _ m) (by decide +kernel)
  unfold isNameB
  rw [part_none h95, madeB_eq, madeB_eq]
  have hh : ((cs z).all fun c => decide (c ∈ cs GREAT)) = false := by
    cases hz : cs z with
    | nil => exact absurd hz h0
    | cons c r =>
      have hc : c ∈ cs SMALL := h c (by rw [hz]; simp)
      have hn : c ∉ cs GREAT := by
        have key : ∀ c ∈ cs SMALL, c ∉ cs GREAT := by decide +kernel
        exact key c hc
      rw [List.all_cons, decide_eq_false hn, Bool.false_and]
  rw [hh]
  simp
theorem figs_of {m : Nat} : (∀ c ∈ cs (Str.ofString (toString ((m : Nat) : Int))), c ∈ cs FIGS) ∧ cs (Str.ofString (toString ((m : Nat) : Int))) ≠ [] := by
  have e := PySem.W.KIN.signs_num m
  have e : cs (Str.ofString (toString ((m : Nat) : Int))) = (Nat.toDigits 10 m).map Char.toNat := e
  constructor
  · intro c hc
    rw [e] at hc
    obtain ⟨ch, hch, rfl⟩ := List.mem_map.mp hc
    have hd : ch.isDigit = true := Nat.isDigit_of_mem_toDigits (by decide) (by decide) hch
    have : 48 ≤ ch.toNat ∧ ch.toNat ≤ 57 := by
      unfold Char.isDigit at hd
      simp only [Bool.and_eq_true, decide_eq_true_eq] at hd
      exact ⟨hd.1, hd.2⟩
    have key : ∀ k, 48 ≤ k → k ≤ 57 → k ∈ cs FIGS := by
      intro k h1 h2
      have : k = 48 ∨ k = 49 ∨ k = 50 ∨ k = 51 ∨ k = 52 ∨ k = 53 ∨ k = 54 ∨ k = 55 ∨ k = 56 ∨ k = 57 := by omega
      rcases this with h | h | h | h | h | h | h | h | h | h <;> subst h <;> decide +kernel
    exact key _ this.1 this.2
  · rw [e]
    intro z
    have : Nat.toDigits 10 m = [] := List.map_eq_nil_iff.mp z
    have hl : 0 < (Nat.toDigits 10 m).length := by
      by_cases h : m < 10
      · rw [Nat.toDigits_of_lt_base h]; simp
      · have hm : m % 10 < 10 := Nat.mod_lt m (by decide)
        have t : Nat.toDigits 10 (m / 10) ++ Nat.toDigits 10 (m % 10) = Nat.toDigits 10 (10 * (m / 10) + m % 10) := Nat.toDigits_append_toDigits (by decide) (by omega) hm
        rw [Nat.div_add_mod] at t
        rw [← t, Nat.toDigits_of_lt_base hm]
        simp
    rw [this] at hl
    exact absurd hl (by simp)
theorem mul_one (x : Str) : Txt.mul x 1 = x := by unfold Txt.mul; rw [if_neg (by decide), if_pos (by simp)]
def Below (d s : Int) : Prop := 0 ≤ d ∧ d < s
abbrev Drawn : List Int → List Int → Prop := Paired Below
theorem stir1 {a k : Int} (h0 : 0 ≤ a) (h1 : a < 10 ^ 40) (h2 : 0 ≤ k) (h3 : k ≤ 1000) : (a * 48271 + 3 ^ 60 * (k + 1) * (k + 1) + k).natAbs < 2 ^ 200 := by
  have e3 : (3 : Int) ^ 60 = 42391158275216203514294433201 := by decide
  have e1 : (10 : Int) ^ 40 = 10000000000000000000000000000000000000000 := by decide
  have e2 : (2 : Nat) ^ 200 = 1606938044258990275541962092341162602522202993782792835301376 := by decide
  rw [e3, e2]
  rw [e1] at h1
  have m1 : (k + 1) * (k + 1) ≤ 1001 * 1001 := Int.mul_le_mul (by omega) (by omega) (by omega) (by omega)
  have m0 : 0 ≤ (k + 1) * (k + 1) := Int.mul_nonneg (by omega) (by omega)
  rw [Int.mul_assoc]
  generalize (k + 1) * (k + 1) = q at m1 m0
  omega
theorem natAbs_mul_lt {i j : Int} {m n : Nat} (hi : i.natAbs < 2 ^ m) (hj : j.natAbs < 2 ^ n) : (i * j).natAbs < 2 ^ (m + n) := by
  rw [Int.natAbs_mul, Nat.pow_add]
  exact Nat.mul_lt_mul'' hi hj
theorem natAbs_add_lt {i j : Int} {m : Nat} (hi : i.natAbs < 2 ^ m) (hj : j.natAbs < 2 ^ m) : (i + j).natAbs < 2 ^ (m + 1) := by
  rw [Nat.pow_succ]; omega
theorem lt_pow {i : Nat} {m n : Nat} (h : i < 2 ^ m) (hm : m ≤ n) : i < 2 ^ n := Nat.lt_of_lt_of_le h (Nat.pow_le_pow_right (by decide) hm)
end Rg
set_option Elab.async false
set_option linter.all false
set_option maxRecDepth 100000
set_option maxHeartbeats 4000000
namespace L2
open PySem PySem.Spec PyProof.Rows
mutual
inductive RT (H : Hp) : V → PyData → Prop
  | non : RT H .non .none
  | bl (b : Bool) : RT H (.bl b) (.bool b)
  | int (i : Int) : RT H (.int i) (.int i)
  | str (x : Str) : RT H (.str x) (.str x)
  | tup {a : Addr} {xs : List V} {ds : List PyData} : H a = some (.tup xs) → RTs H xs ds → RT H (.ref a) (.tuple ds)
inductive RTs (H : Hp) : List V → List PyData → Prop
  | nil : RTs H [] []
  | cons {v : V} {vs : List V} {d : PyData} {ds : List PyData} : RT H v d → RTs H vs ds → RTs H (v :: vs) (d :: ds)
end
def KeepT (H H' : Hp) : Prop := ∀ b xs, H b = some (.tup xs) → H' b = some (.tup xs)
mutual
theorem RT.keep {H H' : Hp} (k : KeepT H H') : ∀ {v : V} {d : PyData}, RT H v d → RT H' v d
  | _, _, .non => .non
  | _, _, .bl b => .bl b
  | _, _, .int i => .int i
  | _, _, .str x => .str x
  | _, _, .tup e r => .tup (k _ _ e) (RTs.keep k r)
theorem RTs.keep {H H' : Hp} (k : KeepT H H') : ∀ {vs : List V} {ds : List PyData}, RTs H vs ds → RTs H' vs ds
  | _, _, .nil => .nil
  | _, _, .cons a b => .cons (RT.keep k a) (RTs.keep k b)
end
theorem RTs.getD {H : Hp} : ∀ {vs : List V} {ds : List PyData} {i : Nat} {d : PyData}, RTs H vs ds → ds[i]? = some d → ∃ v, vs[i]? = some v ∧ RT H v d
  | _, _, _, _, .nil, e => by simp at e
  | _, _, 0, _, .cons a _, e => by simp at e; subst e; exact ⟨_, rfl, a⟩
  | _, _, i + 1, d, .cons _ r, e => by
    obtain ⟨v, h1, h2⟩ := RTs.getD (i := i) (d := d) r (by simpa using e)
    exact ⟨v, by simpa using h1, h2⟩
section
variable {P : Program} {w : World} {H : Hp} {h : Heap}
end
def RD (K : PySem.W.Frag) (H : Hp) (v : V) (d : PyData) : Prop := RT H v d ∨ ∃ a xs ds, v = .ref a ∧ d = .list ds ∧ SqL K H a xs ∧ RTs H xs ds
theorem RD.l {K : PySem.W.Frag} {H : Hp} {a : Addr} {xs : List V} {ds : List PyData} (h : SqL K H a xs) (r : RTs H xs ds) : RD K H (.ref a) (.list ds) := .inr ⟨a, xs, ds, rfl, rfl, h, r⟩
section
variable {X : Cx}
def Flt (d : PyData) : Prop := d.canLay0 = true ∧ d.depth ≤ 60
theorem vals_of : ∀ {xs : List V} {us : List Value}, xs.length = us.length → (∀ (j : Nat) (u : Value), us[j]? = some u → ∃ x, xs[j]? = some x ∧ RelV x u) → Vals xs us
  | [], [], _, _ => .nil
  | [], _ :: _, h, _ => by simp at h
  | _ :: _, [], h, _ => by simp at h
  | x :: xs, u :: us, h, k => by
    obtain ⟨y, e, r⟩ := k 0 u rfl
    simp at e
    subst e
    exact .cons r (vals_of (by simpa using h) fun j v hv => by
      obtain ⟨y, e, r⟩ := k (j + 1) v (by simpa using hv)
      exact ⟨y, by simpa using e, r⟩)
theorem kv_get : ∀ {kvs : List (Key × V)} {vs : List (Key × Value)} {j : Nat} {k : Key} {x : Value}, KV kvs vs → vs[j]? = some (k, x) → ∃ v, kvs[j]? = some (k, v)
  | _, _, _, _, _, .nil, e => by simp at e
  | _, _, 0, _, _, .cons (a := p) r _, e => by
    simp at e
    subst e
    exact ⟨p.2, by obtain ⟨a, b⟩ := p; cases r.1; rfl⟩
  | _, _, j + 1, k, x, .cons _ t, e => by
    obtain ⟨v, q⟩ := kv_get (j := j) (k := k) (x := x) t (by simpa using e)
    exact ⟨v, by simpa using q⟩
theorem kV_rel {k : Key} {v : Value} (h : keyIs k v = true) : RelV (kV k) v := by
  rcases keyIs_shape h with ⟨i, t, rfl, rfl⟩ | ⟨x, t, rfl, rfl⟩
  · exact ⟨t, rfl⟩
  · exact ⟨t, rfl⟩
theorem call_list_dict (hc : X.calm = true) : CallR X (.type "list") (fun xs H Q => ∃ d kvs, xs = [.ref d] ∧ H d = some (.dK kvs) ∧ ∀ l, H l = none → Q (.ref l) (upd H l (.lst (kvs.map fun kv => kV kv.1)))) := by
  intro pins s σ H xs us Q I r h
  obtain ⟨d, kvs, rfl, hd, q⟩ := h
  obtain ⟨u, rfl, ru⟩ := vals1 r
  cases ru
  obtain ⟨hz, hne, vs, rkv, hD⟩ := (show ObjOk X.prog X.w H s.heap d (.dK kvs) from I.hok d _ hd)
  obtain ⟨ep, hat⟩ := hD.dictAt
  have hl := rkv.length
  refine PySem.W.kdl_call (PySem.W.kdl_dict (knd := mixKind X.prog X.w) (kvs := vs) (ep := ep) hne) (I.ok.hd hc) hat (by rw [← hl]; exact hz) fun h' tk acc' c' hk hS hacc => ?_
  refine ⟨.ref s.heap.objs.size, _, I.laid (o := .lst (kvs.map fun kv => kV kv.1)) (t' := tk) hk (Nat.le_refl _) ⟨by rw [List.length_map]; exact hz, acc'.toList, c', ?_, by rw [Array.toArray_toList]; exact hS⟩, rfl, q _ (I.hok.fresh (Nat.le_refl _))⟩
  refine vals_of (by have h1 := hacc.1; have h2 : acc'.toList.length = acc'.size := Array.length_toList; have h3 : (kvs.map fun kv => kV kv.1).length = kvs.length := List.length_map ..; omega) fun j v hv => ?_
  obtain ⟨k, x, hx, hk'⟩ := hacc.2 j v (by rw [← Array.getElem?_toList]; exact hv)
  obtain ⟨y, hy⟩ := kv_get rkv hx
  exact ⟨kV k, by rw [List.getElem?_map, hy]; rfl, kV_rel hk'⟩
theorem ad2 {n : Nat} (i j : Nat) (h : i ≠ j) : n + i ≠ n + j := by omega
theorem ad0 {n : Nat} (i : Nat) (h : i ≠ 0) : n + i ≠ n := by omega
theorem ad0' {n : Nat} (i : Nat) (h : i ≠ 0) : n ≠ n + i := by omega
theorem adl {n a : Nat} (i : Nat) (h : a < n) : a ≠ n + i := by omega
theorem adl0 {n a : Nat} (h : a < n) : a ≠ n := by omega
def Itz (K : PySem.W.Frag) (a b : Addr) (xs ys : List V) : It :=
  ⟨fun i H => SqL K H a xs ∧ SqL K H b ys ∧ i < xs.length ∧ i < ys.length,
   fun i H x H' => ∃ p u v, xs[i]? = some u ∧ ys[i]? = some v ∧ H p = none ∧ x = .ref p ∧ H' = upd H p (.tup [u, v]),
   fun i H => SqL K H a xs ∧ SqL K H b ys ∧ (xs.length ≤ i ∨ ys.length ≤ i)⟩
theorem turn_zip {P : Program} {w : World} {K : PySem.W.Frag} {es : List Expr} {kx : Nat} {px : Pos} (a b z TI TO i1 i2 : Addr) (xs ys : List V) (D : ZipApart z TI TO i1 i2 a b) :
    Turn P w K (.Tuple es kx px) (Itz K a b xs ys) [z, TI, TO, i1, i2] z (fun i h => IsZip h z TI TO .none ∧ IsPair h TI (.ref i1) (.ref i2) ∧ (∃ c d, IsPair h TO c d) ∧ h.IsListIter i1 a i ∧ h.IsListIter i2 b i) where
  mem := by simp
  obj := fun i h st c hc => by
    obtain ⟨h1, h2, ⟨p, q, h3⟩, ⟨o4, h4, _, h4d⟩, ⟨o5, h5, _, h5d⟩⟩ := st
    simp only [List.mem_cons, List.mem_nil_iff, or_false] at hc
    rcases hc with rfl | rfl | rfl | rfl | rfl
    · exact ⟨_, h1, fun v q => by cases q⟩
    · exact ⟨_, h2, fun v q => by cases q⟩
    · exact ⟨_, h3, fun v q => by cases q⟩
    · exact ⟨_, h4, fun v q => by rw [h4d] at q; cases q⟩
    · exact ⟨_, h5, fun v q => by rw [h5d] at q; cases q⟩
  keep := fun i h h' st k => by
    obtain ⟨h1, h2, ⟨p, q, h3⟩, ⟨o4, h4, r4⟩, ⟨o5, h5, r5⟩⟩ := st
    exact ⟨k z (by simp) _ h1, k TI (by simp) _ h2, ⟨p, q, k TO (by simp) _ h3⟩, ⟨o4, k i1 (by simp) _ h4, r4⟩, ⟨o5, k i2 (by simp) _ h5, r5⟩⟩
  item := by
    intro X hP hw hK hc i pins s σ H E I hf st hg
    subst hP hw hK
    obtain ⟨h1, h2, ⟨c, d, h3⟩, h4, h5⟩ := st
    obtain ⟨hqa, hqb, hi, hj⟩ := hg
    obtain ⟨its, rv, pl, hz⟩ := I.list hqa
    obtain ⟨its2, rv2, pl2, hz2⟩ := I.list hqb
    obtain ⟨u, hu, ru⟩ := rv.get (List.getElem?_eq_getElem hi)
    obtain ⟨v, hv, rvv⟩ := rv2.get (List.getElem?_eq_getElem hj)
    refine wpAny_pyNext_zip_item D h1 h2 h3 h4 h5 pl.isList pl2.isList (x := u) (y := v) (by simpa using hu) (by simpa using hv) fun h' a1 a2 a3 a4 a5 a6 hk => ?_
    refine ⟨_, rfl, wpAny_letOwnedTupleGo_zip a1 fun h'' z' sb => ?_⟩
    have hfr : H s.heap.objs.size = none := I.hok.fresh (Nat.le_refl _)
    have ltz : z < s.heap.objs.size := Heap.lt_size h1
    have ltO : TO < s.heap.objs.size := Heap.lt_size h3
    have lt1 : i1 < s.heap.objs.size := by obtain ⟨_, e, _⟩ := h4; exact Heap.lt_size e
    have lt2 : i2 < s.heap.objs.size := by obtain ⟨_, e, _⟩ := h5; exact Heap.lt_size e
    have keep2 : ∀ q o, q ∉ [z, TI, TO, i1, i2] → s.heap.get? q = some o → h''.get? q = some o := fun q o hq e => by
      simp only [List.mem_cons, List.mem_nil_iff, or_false, not_or] at hq
      exact (sb.2 q hq.1).trans (hk q o hq.1 hq.2.2.1 hq.2.2.2.1 hq.2.2.2.2 e)
    have hp2 : IsPair h'' s.heap.objs.size u v := (sb.2 _ (Nat.ne_of_gt ltz)).trans a5
    have nfp : ∀ q ∈ [z, TI, TO, i1, i2], H q = none := fun q hq => (hf q hq).1
    have I1 : Inv X pins σ (upd H s.heap.objs.size (.tup [xs[i], ys[i]])) { s with heap := h'' } := by
      refine I.step (g' := s.gens) (d' := s.drawn) (t' := s.toks) (ch := [z, TI, TO, i1, i2]) (fun q hq => ⟨(hf q hq).2.2.2.1, (hf q hq).2.1, (hf q hq).2.2.2.2.1, (hf q hq).2.2.2.2.2⟩)
        (fun q o _ _ hc e _ => keep2 q o hc e) (fun q o _ _ hc e _ => ⟨o.slots, keep2 q o hc e⟩) (fun q o _ e n => by rw [upd_ne (Nat.ne_of_lt (Heap.lt_size e))]; exact n)
        (fun q o hc e => ⟨o, keep2 q o hc e⟩) (fun q zs e => by rw [upd_ne (ne_of_none e hfr)]; exact e) (fun q o zs e => by rw [upd_ne (ne_of_none e hfr)]; exact e) (fun q ps e => ⟨#[], by rw [upd_ne (ne_of_none e hfr), e]; simp⟩) (fun m hm => ?_) ?_ I.bare
      · obtain ⟨o, es, ep, ho, r⟩ := hm
        exact ⟨o, es, ep, keep2 _ o (fun z => absurd rfl (hf _ z).2.1) ho, r⟩
      · intro q o e
        by_cases hq : q = s.heap.objs.size
        · subst hq
          rw [upd_same] at e; cases e
          exact ⟨by show 2 ≤ sizeLine; decide, [u, v], .cons ru (.cons rvv .nil), ⟨_, hp2, rfl, _, rfl⟩⟩
        · rw [upd_ne hq] at e
          refine (I.hok q o e).stay (fun t w' ht qq => keep2 t w' (fun z => ?_) qq) (fun t qq => by rw [upd_ne (ne_of_none qq hfr)]; exact qq) fun t zs qq => by rw [upd_ne (ne_of_none qq hfr)]; exact qq
          have n0 := nfp t z
          rcases ht with rfl | ht
          · rw [n0] at e; cases e
          · rw [n0] at ht; cases ht
    refine ⟨.ref s.heap.objs.size, _, I1, rfl, ⟨s.heap.objs.size, xs[i], ys[i], List.getElem?_eq_getElem hi, List.getElem?_eq_getElem hj, hfr, rfl, rfl⟩, ⟨z', (sb.2 _ D.TIz).trans (hk _ _ D.TIz D.TITO D.TIi1 D.TIi2 h2), ⟨u, v, (sb.2 _ D.TOz).trans a2⟩, a3.extBut sb.extBut D.i1z, a4.extBut sb.extBut D.i2z⟩, fun q hq => ?_⟩
    rw [upd_ne]
    · exact nfp q hq
    · intro e
      subst e
      have : H s.heap.objs.size = none := hfr
      simp only [List.mem_cons, List.mem_nil_iff, or_false] at hq
      have ltI : TI < s.heap.objs.size := Heap.lt_size h2
      rcases hq with e | e | e | e | e
      · exact Nat.ne_of_gt ltz e
      · exact Nat.ne_of_gt ltI e
      · exact Nat.ne_of_gt ltO e
      · exact Nat.ne_of_gt lt1 e
      · exact Nat.ne_of_gt lt2 e
  done := by
    intro X hP hw hK hc i pins s σ H E I hf st hg
    subst hP hw hK
    obtain ⟨h1, h2, ⟨c, d, h3⟩, h4, h5⟩ := st
    obtain ⟨hqa, hqb, hij⟩ := hg
    obtain ⟨its, rv, pl, hz⟩ := I.list hqa
    obtain ⟨its2, rv2, pl2, hz2⟩ := I.list hqb
    have l1 := rv.length
    have l2 := rv2.length
    refine wpAny_pyNext_zip_end (I.ok.hd hc) D h1 h2 h3 h4 h5 pl.isList pl2.isList (hij.elim (fun q => .inl (by simp; omega)) fun q => .inr (by simp; omega)) fun h' hk => ⟨rfl, ?_⟩
    have keep2 : ∀ q o, q ∉ [z, TI, TO, i1, i2] → s.heap.get? q = some o → h'.get? q = some o := fun q o hq e => by
      simp only [List.mem_cons, List.mem_nil_iff, or_false, not_or] at hq
      exact hk q o hq.1 hq.2.2.1 hq.2.2.2.1 hq.2.2.2.2 e
    have nfp : ∀ q ∈ [z, TI, TO, i1, i2], H q = none := fun q hq => (hf q hq).1
    refine I.step (g' := s.gens) (d' := s.drawn) (t' := s.toks) (ch := [z, TI, TO, i1, i2]) (fun q hq => ⟨(hf q hq).2.2.2.1, (hf q hq).2.1, (hf q hq).2.2.2.2.1, (hf q hq).2.2.2.2.2⟩)
        (fun q o _ _ hc e _ => keep2 q o hc e) (fun q o _ _ hc e _ => ⟨o.slots, keep2 q o hc e⟩) (fun q o _ e n => n)
        (fun q o hc e => ⟨o, keep2 q o hc e⟩) (fun q zs e => e) (fun q o zs e => e) (fun q ps e => ⟨#[], by rw [e]; simp⟩) (fun m hm => ?_) ?_ I.bare
    · obtain ⟨o, es, ep, ho, r⟩ := hm
      exact ⟨o, es, ep, keep2 _ o (fun z => absurd rfl (hf _ z).2.1) ho, r⟩
    · intro q o e
      refine (I.hok q o e).stay (fun t w' ht qq => keep2 t w' (fun z => ?_) qq) (fun t qq => qq) fun t zs qq => qq
      have n0 := nfp t z
      rcases ht with rfl | ht
      · rw [n0] at e; cases e
      · rw [n0] at ht; cases ht
  self := fun _ _ _ _ _ st h => wpAny_pyIter_zip st.1 h
theorem bt_zip : bootBuiltins "zip" = some (.type "zip") := by decide +kernel
end
end L2
set_option Elab.async false
set_option linter.all false
set_option maxRecDepth 100000
set_option maxHeartbeats 4000000
namespace L2
open PySem PySem.Spec PyProof.Rows
section
variable {X : Cx}
theorem Inv.laidT {pins : List (Addr × Obj)} {σ : St} {H : Hp} {s : Shared} {fp : List Addr} {h'' : Heap} {tk : Nat} {xs : List V} {its : List Value} (I : Inv X pins σ H s) (hf : ∀ b ∈ fp, FpOk X pins H b)
    (keep2 : ∀ q o, q ∉ fp → s.heap.get? q = some o → h''.get? q = some o) (hz : xs.length ≤ sizeLine) (rv : Vals xs its) (hp2 : h''.get? s.heap.objs.size = some { cls := .type "tuple", data := .seq its.toArray }) :
    Inv X pins σ (upd H s.heap.objs.size (.tup xs)) { s with heap := h'', toks := tk } := by
  have hfr : H s.heap.objs.size = none := I.hok.fresh (Nat.le_refl _)
  have nfp : ∀ q ∈ fp, H q = none := fun q hq => (hf q hq).1
  refine I.step (g' := s.gens) (d' := s.drawn) (t' := tk) (ch := fp) (fun q hq => ⟨(hf q hq).2.2.2.1, (hf q hq).2.1, (hf q hq).2.2.2.2.1, (hf q hq).2.2.2.2.2⟩)
    (fun q o _ _ hc e _ => keep2 q o hc e) (fun q o _ _ hc e _ => ⟨o.slots, keep2 q o hc e⟩) (fun q o _ e n => by rw [upd_ne (Nat.ne_of_lt (Heap.lt_size e))]; exact n)
    (fun q o hc e => ⟨o, keep2 q o hc e⟩) (fun q zs e => by rw [upd_ne (ne_of_none e hfr)]; exact e) (fun q o zs e => by rw [upd_ne (ne_of_none e hfr)]; exact e) (fun q ps e => ⟨#[], by rw [upd_ne (ne_of_none e hfr), e]; simp⟩) (fun m hm => ?_) ?_ I.bare
  · obtain ⟨o, es, ep, ho, r⟩ := hm
    exact ⟨o, es, ep, keep2 _ o (fun z => absurd rfl (hf _ z).2.1) ho, r⟩
  · intro q o e
    by_cases hq : q = s.heap.objs.size
    · subst hq
      rw [upd_same] at e; cases e
      exact ⟨hz, its, rv, ⟨_, hp2, rfl, _, rfl⟩⟩
    · rw [upd_ne hq] at e
      refine (I.hok q o e).stay (fun t w' ht qq => keep2 t w' (fun z => ?_) qq) (fun t qq => by rw [upd_ne (ne_of_none qq hfr)]; exact qq) fun t zs qq => by rw [upd_ne (ne_of_none qq hfr)]; exact qq
      have n0 := nfp t z
      rcases ht with rfl | ht
      · rw [n0] at e; cases e
      · rw [n0] at ht; cases ht
theorem Inv.turnedT {pins : List (Addr × Obj)} {σ : St} {H : Hp} {s : Shared} {fp : List Addr} {h'' : Heap} {tk : Nat} (I : Inv X pins σ H s) (hf : ∀ b ∈ fp, FpOk X pins H b)
    (keep2 : ∀ q o, q ∉ fp → s.heap.get? q = some o → h''.get? q = some o) : Inv X pins σ H { s with heap := h'', toks := tk } := by
  have nfp : ∀ q ∈ fp, H q = none := fun q hq => (hf q hq).1
  refine I.step (g' := s.gens) (d' := s.drawn) (t' := tk) (ch := fp) (fun q hq => ⟨(hf q hq).2.2.2.1, (hf q hq).2.1, (hf q hq).2.2.2.2.1, (hf q hq).2.2.2.2.2⟩)
      (fun q o _ _ hc e _ => keep2 q o hc e) (fun q o _ _ hc e _ => ⟨o.slots, keep2 q o hc e⟩) (fun q o _ e n => n)
      (fun q o hc e => ⟨o, keep2 q o hc e⟩) (fun q zs e => e) (fun q o zs e => e) (fun q ps e => ⟨#[], by rw [e]; simp⟩) (fun m hm => ?_) ?_ I.bare
  · obtain ⟨o, es, ep, ho, r⟩ := hm
    exact ⟨o, es, ep, keep2 _ o (fun z => absurd rfl (hf _ z).2.1) ho, r⟩
  · intro q o e
    refine (I.hok q o e).stay (fun t w' ht qq => keep2 t w' (fun z => ?_) qq) (fun t qq => qq) fun t zs qq => qq
    have n0 := nfp t z
    rcases ht with rfl | ht
    · rw [n0] at e; cases e
    · rw [n0] at ht; cases ht
end
end L2
set_option Elab.async false
set_option linter.all false
set_option maxRecDepth 100000
set_option maxHeartbeats 4000000
namespace PySem
namespace Rv
open PyProof.Rows L2 PySem.Spec
theorem called_rev : TypeCalled "reversed" "reversed.__new__" "object.__init__" :=
  ⟨by decide +kernel, by decide +kernel, ⟨_, _, F.mro_reversed⟩, madeBy_type F.mro_reversed F.lookup_reversed_new (by decide +kernel), by decide +kernel, F.sub_reversed_self,
    .of (owner := "object") (n := "__init__") (by rw [typeLookup_type, builtinLookup_eq_fast]; kernel_rfl) (by decide +kernel) (by decide +kernel) (by decide +kernel) (by first | exact .inl (by decide +kernel) | exact .inr (by decide +kernel)) (by rw [isSubtype_type]; kernel_rfl)⟩
theorem no_rev_tuple : typeLookup (.type "tuple") "__reversed__" = pure none := by rw [typeLookup_type, builtinLookup_eq_fast]; kernel_rfl
def rvObj (t : Addr) (i : Int) : Obj := { cls := .type "reversed", data := .fields #[.ref t, rawInt i] }
theorem meets_rev (t : Addr) (items : Array Value) :
    Meets (Builtin.«reversed.__new__» ⟨[.type "reversed", .ref t], []⟩) (fun _ R s => s.heap.IsTuple t items ∧ items.size ≤ sizeLine ∧
      ∀ tk', R (.ok (.ret (.ref s.heap.objs.size))) { s with toks := tk', heap := s.heap.push (rvObj t ((items.size : Int) - 1)) }) :=
  .of_wp fun prog w A R s h => by
    obtain ⟨hp, g, d, tk, os⟩ := s
    obtain ⟨ht, hz, h⟩ := h
    have hty := Heap.IsTuple.typeIs (s := ⟨hp, g, d, tk, os⟩) ht
    unfold Builtin.«reversed.__new__»
    refine wpAny_bind (wpAny_of_eq (newClass_reversed _) (by
      dsimp only
      refine wpAny_bind (wpAny_of_eq (a := ()) rfl (wpAny_bind (wpAny_of_eq (a := ()) (by first | rfl | kernel_rfl) ?_)))
      try dsimp only
      refine wpAny_bind (wpAny_specialOf hty no_rev_tuple (wpAny_bind ?_))
      wp_delta
      refine wpAny_bind (wpAny_isInstance (T := "tuple") (b := false) hty (by rw [isSubtype_type]; kernel_rfl) ?_)
      try dsimp only
      rw [if_neg (by decide)]
      refine wpAny_bind (wpAny_specialOf hty F.slot_tuple_getitem.lookup ?_)
      generalize hid : ("tuple.__getitem__" : String) = id0
      dsimp only
      rw [if_pos (by subst hid; decide +kernel)]
      refine wpAny_pure ?_
      rw [if_neg (by decide)]
      refine wpAny_bind (len_tuple (s := ⟨hp, g, d, tk, os⟩) (t := t) (items := items) ht (by have := line63; omega) (wpAny_bind (wpAny_of_eq (a := some (items.size : Int)) rfl (wpAny_bind (m := Builtin.SmallTypes.newRecord _ _) ?_))))
      unfold Builtin.SmallTypes.newRecord
      dsimp only
      exact wpAny_newObj_type (wpAny_pure ⟨_, rfl, h _⟩) (by first | size_fits | decide)))
section
variable {prog : Program} {w : World} {A : Around} {E : Value → Shared → Prop} {s : Shared}
theorem call_rev {t : Addr} {items : Array Value} {Q : Value → Shared → Prop} (ht : s.heap.IsTuple t items) (hz : items.size ≤ sizeLine)
    (h : ∀ tk', Q (.ref s.heap.objs.size) { s with toks := tk', heap := s.heap.push (rvObj t ((items.size : Int) - 1)) }) : wpAny (model prog w) A (call (.type "reversed") [.ref t]) Q E s :=
  callType_new called_rev (by decide) (F.typeCall_reversed_1 _) (F.newCall_reversed_1 _) (fun obj => F.args_object_init_2 obj _) F.entry_reversed_new (meets_rev t items) ⟨ht, hz, fun tk' => ⟨⟨_, Heap.get?_push_size _ rfl, rfl⟩, h tk'⟩⟩
theorem slot_next : Slot "reversed" "__next__" "reversed.__next__" :=
  .of (owner := "reversed") (n := "__next__") (by rw [typeLookup_type, builtinLookup_eq_fast]; kernel_rfl) (by decide +kernel) (by decide +kernel) (by decide +kernel) (by first | exact .inl (by decide +kernel) | exact .inr (by decide +kernel)) (by rw [isSubtype_type]; kernel_rfl)
theorem slot_iter : Slot "reversed" "__iter__" "reversed.__iter__" :=
  .of (owner := "reversed") (n := "__iter__") (by rw [typeLookup_type, builtinLookup_eq_fast]; kernel_rfl) (by decide +kernel) (by decide +kernel) (by decide +kernel) (by first | exact .inl (by decide +kernel) | exact .inr (by decide +kernel)) (by rw [isSubtype_type]; kernel_rfl)
theorem entry_next : entryFor table "reversed.__next__" = some Builtin.«reversed.__next__» := entryFor_of_tree (by kernel_rfl)
theorem entry_iter : entryFor table "reversed.__iter__" = some Builtin.«dict_keyiterator.__iter__» :=
  entryFor_alias (id' := "dict_keyiterator.__iter__") (by kernel_rfl) (by first | rfl | decide +kernel) (by decide +kernel) (by kernel_rfl)
theorem owner_rev : Manifest.owners.lookup (String.ofList ['d', 'e', 's', 'r', 'e', 'v', 'e', 'r'].reverse) = some Manifest.sig_reversed := by kernel_rfl
theorem args_next (a : Value) : argsOk "reversed.__next__" ⟨[a], []⟩ := by
  unfold argsOk
  rw [signature?_of (id := "reversed.__next__") (n := ['_', '_', 't', 'x', 'e', 'n', '_', '_']) (o := ['d', 'e', 's', 'r', 'e', 'v', 'e', 'r']) (by kernel_rfl) owner_rev]
  kernel_rfl
theorem args_iter (a : Value) : argsOk "reversed.__iter__" ⟨[a], []⟩ := by
  unfold argsOk
  rw [signature?_of (id := "reversed.__iter__") (n := ['_', '_', 'r', 'e', 't', 'i', '_', '_']) (o := ['d', 'e', 's', 'r', 'e', 'v', 'e', 'r']) (by kernel_rfl) owner_rev]
  kernel_rfl
abbrev IsRv (h : Heap) (a t : Addr) (i : Int) : Prop := h.get? a = some { cls := .type "reversed", dict := none, data := .fields #[.ref t, rawInt i], slots := #[] }
theorem rvType {a t : Addr} {i : Int} (x : IsRv s.heap a t i) : s.TypeIs (.ref a) "reversed" := ⟨_, x, rfl⟩
theorem next_item {a t : Addr} {i : Nat} {items : Array Value} {x : Value} {Q : Option Value → Shared → Prop} (hr : IsRv s.heap a t i) (ht : s.heap.IsTuple t items) (hx : items[i]? = some x) (hi : (i : Int) < 2 ^ 63)
    (hQ : ∀ h' tk, IsRv h' a t ((i : Int) - 1) → Heap.SameBut a s.heap h' → Q (some x) { s with heap := h', toks := tk }) : wpAny (model prog w) A (pyNext (.ref a)) Q E s := by
  unfold pyNext
  refine wpAny_bind (wpAny_attempt (wpAny_callSpecial?_slot (name := Str.ofString "__next__") (rvType hr) slot_next (wpAny_call_entry slot_next (rvType hr) entry_next ?_ (args_next _))))
  unfold Builtin.«reversed.__next__»
  refine wpAny_bind (wpAny_of_eq (a := (Value.ref a, [])) rfl ?_)
  dsimp only
  refine wpAny_bind (wpAny_field hr rfl (x := .ref t) rfl (wpAny_bind (wpAny_field hr rfl (x := rawInt (i : Int)) rfl ?_)))
  show wpAny _ _ (if (i : Int) < 0 then _ else _) _ _ _
  rw [if_neg (by omega)]
  refine wpAny_bind (wpAny_specialOf ht.typeIs F.slot_tuple_getitem.lookup ?_)
  rw [if_neg (by decide)]
  have hlt : i < items.size := (Array.getElem?_eq_some_iff.mp hx).1
  have hix : ixN items.size (i : Int) = some i := by unfold ixN; rw [if_pos (by omega), if_pos (by omega), Int.toNat_natCast]
  refine wpAny_bind (wpAny_mkInt (wpAny_bind (wpAny_attempt (getItem_tuple (j := i) (x := x) ht (by omega) hi (ixN_seq hix).1 hx ?_))))
  dsimp only
  refine wpAny_bind (wpAny_field (s := { s with toks := s.toks + 1 }) hr rfl (x := rawInt (i : Int)) rfl ?_)
  exact wpAny_bind (wpAny_setField_rec (s := { s with toks := s.toks + 1 }) hr (by simp) fun h1 r1 sb => wpAny_pure ⟨x, rfl, wpAny_pure (hQ h1 _ r1 sb)⟩)
theorem next_end {a t : Addr} {Q : Option Value → Shared → Prop} (hh : A.handled = none) (hr : IsRv s.heap a t (-1)) (hQ : ∀ h', Heap.ExtBut a s.heap h' → Q none { s with heap := h' }) : wpAny (model prog w) A (pyNext (.ref a)) Q E s := by
  unfold pyNext
  refine wpAny_bind (wpAny_attempt (wpAny_callSpecial?_slot (name := Str.ofString "__next__") (rvType hr) slot_next (wpAny_call_entry slot_next (rvType hr) entry_next ?_ (args_next _))))
  unfold Builtin.«reversed.__next__»
  refine wpAny_bind (wpAny_of_eq (a := (Value.ref a, [])) rfl ?_)
  dsimp only
  refine wpAny_bind (wpAny_field hr rfl (x := .ref t) rfl (wpAny_bind (wpAny_field hr rfl (x := rawInt (-1)) rfl ?_)))
  show wpAny _ _ (if (-1 : Int) < 0 then _ else _) _ _ _
  rw [if_pos (by decide)]
  refine wpAny_bind (wpAny_rule (wpAny_bind ?_))
  wp_delta
  refine wpAny_bind (wpAny_setField_rec hr (by simp) fun h1 r1 sb1 => wpAny_setField_rec r1 (by simp) fun h2 r2 sb2 => wpAny_bind ?_)
  unfold Builtin.SmallTypes.stopIteration
  refine wpAny_bind (m := newExc (.type "StopIteration") []) ?_
  simp only [newExc, newTuple]
  refine wpAny_bind (wpAny_newObj_type (wpAny_bind (m := firstArgMember _ _) (wpAny_of_eq (a := Value.none) (by first | rfl | (simp only [firstArgMember]; rfl)) (wpAny_newObj_type ?_ (by size_fits)))) (by size_fits))
  simp only [raiseNew]
  refine wpAny_bind (wpAny_handled ?_)
  rw [show A.in1.handled = none from hh]
  refine wpAny_bind (wpAny_pure (wpAny_throw (wpAny_bind ?_)))
  refine wpAny_isInstance (T := "StopIteration") (b := true) ⟨_, Heap.get?_push_size _ rfl, rfl⟩ isSubtype_stop (wpAny_pure (hQ _ fun c o hc e => ?_))
  exact Heap.get?_push_of_some _ (Heap.get?_push_of_some _ (sb2.extBut _ _ hc (sb1.extBut _ _ hc e)))
theorem iter_self {a t : Addr} {i : Int} {Q : Value → Shared → Prop} (hr : IsRv s.heap a t i) (h : Q (.ref a) s) : wpAny (model prog w) A (pyIter (.ref a)) Q E s := by
  refine wpAny_pyIter_slot (rvType hr) slot_iter (wpAny_call_entry slot_iter (rvType hr) entry_iter ?_ (args_iter _))
  show wpAny _ _ (ret (.ref a)) _ _ s
  exact wpAny_pure ⟨_, rfl, "reversed", _, rvType hr, slot_next.lookup, h⟩
end
theorem walk_rev {prog : Program} {w : World} {A : Around} (hh : A.handled = none) (I t : Addr) (hne : t ≠ I) (items : Array Value) (hz : items.size ≤ sizeLine) :
    Walks prog w A I [I, t] [I] items.size (fun i v => items[items.size - 1 - i]? = some v) (fun i h => i ≤ items.size ∧ IsRv h I t ((items.size : Int) - 1 - (i : Int)) ∧ h.IsTuple t items) where
  sub := fun b hb => by simp at hb; simp [hb]
  frame := fun i h h' x hk => ⟨x.1, hk I (by simp) _ x.2.1, by obtain ⟨o, e, r⟩ := x.2.2; exact ⟨o, hk t (by simp) o e, r⟩⟩
  item := fun i s Q E hi x hQ => by
    obtain ⟨x1, x2, x3⟩ := x
    have hx : items[items.size - 1 - i]? = some (items[items.size - 1 - i]'(by omega)) := Array.getElem?_eq_getElem (by omega)
    rw [show (items.size : Int) - 1 - (i : Int) = ((items.size - 1 - i : Nat) : Int) by omega] at x2
    refine next_item x2 x3 hx (by have := line63; omega) fun h' tk r sb => hQ _ h' tk hx ⟨hi, ?_, ?_⟩ fun b o hb eo => sb.extBut b o (fun h => hb (by simp [h])) eo
    · rw [show (items.size : Int) - 1 - ((i + 1 : Nat) : Int) = ((items.size - 1 - i : Nat) : Int) - 1 by omega]; exact r
    · obtain ⟨o, e, q⟩ := x3; exact ⟨o, (sb.2 t hne).trans e, q⟩
  done := fun s Q E x hQ => by
    have x2 := x.2.1
    rw [show (items.size : Int) - 1 - (items.size : Int) = -1 by omega] at x2
    exact next_end hh x2 fun h' he => hQ h' s.toks fun b o hb eo => he b o (fun h => hb (by simp [h])) eo
  self := fun _ _ _ _ x hQ => iter_self x.2.1 hQ
end Rv
end PySem
namespace PySem
namespace Rv
open PyProof.Rows L2 PySem.Spec
section
variable {prog : Program} {w : World} {A : Around} {E : Value → Shared → Prop} {s : Shared}
theorem no_len : typeLookup (.type "reversed") "__len__" = pure none := by rw [typeLookup_type, builtinLookup_eq_fast]; kernel_rfl
theorem has_hint : typeLookup (.type "reversed") "__length_hint__" = pure (some (.builtin "reversed.__length_hint__")) := by rw [typeLookup_type, builtinLookup_eq_fast]; kernel_rfl
theorem slot_hint : Slot "reversed" "__length_hint__" "reversed.__length_hint__" :=
  .of (owner := "reversed") (n := "__length_hint__") (by rw [typeLookup_type, builtinLookup_eq_fast]; kernel_rfl) (by decide +kernel) (by decide +kernel) (by decide +kernel) (by first | exact .inl (by decide +kernel) | exact .inr (by decide +kernel)) (by rw [isSubtype_type]; kernel_rfl)
theorem entry_hint : entryFor table "reversed.__length_hint__" = some Builtin.«reversed.__length_hint__» := entryFor_of_tree (by kernel_rfl)
theorem args_hint (a : Value) : argsOk "reversed.__length_hint__" ⟨[a], []⟩ := by
  unfold argsOk
  rw [signature?_of (id := "reversed.__length_hint__") (n := ['_', '_', 't', 'n', 'i', 'h', '_', 'h', 't', 'g', 'n', 'e', 'l', '_', '_']) (o := ['d', 'e', 's', 'r', 'e', 'v', 'e', 'r']) (by kernel_rfl) owner_rev]
  kernel_rfl
theorem call_hint {r t : Addr} {items : Array Value} {Q : Value → Shared → Prop} (hr : IsRv s.heap r t ((items.size : Int) - 1)) (ht : s.heap.IsTuple t items) (hz : items.size ≤ sizeLine)
    (h : ∀ tk tk', Q (.int items.size tk) { s with toks := tk' }) : wpAny (model prog w) A (call (.builtin "reversed.__length_hint__") [.ref r]) Q E s := by
  refine wpAny_call_entry slot_hint (rvType hr) entry_hint ?_ (args_hint _)
  unfold Builtin.«reversed.__length_hint__»
  have l63 := line63
  refine wpAny_bind (wpAny_of_eq (a := Value.ref r) rfl (wpAny_bind (wpAny_field hr rfl (x := .ref t) rfl ?_)))
  rw [if_neg (show ¬ (Value.ref t == Value.none) = true from Bool.false_ne_true)]
  refine wpAny_bind (len_tuple (t := t) (items := items) ht (by omega) (wpAny_bind (wpAny_of_eq (a := some (items.size : Int)) rfl ?_)))
  try dsimp only
  refine wpAny_bind (wpAny_field (s := { s with toks := s.toks + 1 + 1 }) hr rfl (x := rawInt ((items.size : Int) - 1)) rfl ?_)
  show wpAny _ _ (if (items.size : Int) < (items.size : Int) - 1 + 1 then _ else _) _ _ _
  rw [if_neg (by omega), show (items.size : Int) - 1 + 1 = items.size by omega]
  exact wpAny_bind (wpAny_mkInt (wpAny_pure ⟨_, rfl, h _ _⟩))
theorem hint {r t : Addr} {items : Array Value} {Q : Bool → Shared → Prop} (hr : IsRv s.heap r t ((items.size : Int) - 1)) (ht : s.heap.IsTuple t items) (hz : items.size ≤ sizeLine) (h : ∀ b tk, Q b { s with toks := tk }) : wpAny (model prog w) A (Builtin.List.listLengthHint (.ref r)) Q E s := by
  unfold Builtin.List.listLengthHint
  refine wpAny_bind (wpAny_specialOf (rvType hr) no_len ?_)
  try dsimp only
  rw [if_neg (by decide)]
  rw [if_neg (by decide)]
  refine wpAny_bind (wpAny_specialOf (rvType hr) has_hint ?_)
  generalize hid : ("reversed.__length_hint__" : String) = id0
  try dsimp only
  rw [show splitId id0 = some ("reversed", "__length_hint__") from by subst hid; decide +kernel]
  subst hid
  refine wpAny_bind (wpAny_isInstance (T := "reversed") (b := true) (rvType hr) F.sub_reversed_self ?_)
  try dsimp only
  rw [if_neg (by decide)]
  rw [if_neg (by decide +kernel)]
  refine wpAny_bind (wpAny_rule (wpAny_bind (wpAny_of_eq (slot_hint.bind _) ?_)))
  try dsimp only
  refine wpAny_bind (wpAny_attempt (call_hint hr ht hz fun tk tk' => ?_))
  have e1 : asInt? (Value.int (items.size : Int) tk) = pure (some (items.size : Int)) := rfl
  show wpAny _ _ (asInt? (Value.int (items.size : Int) tk) >>= _) _ _ _
  rw [e1, pure_bind]
  try dsimp only
  have l63 := line63
  have fits : Builtin.List.listFitsIndex (items.size : Int) = true := by
    unfold Builtin.List.listFitsIndex
    rw [Bool.and_eq_true]
    exact ⟨decide_eq_true (by omega), decide_eq_true (by omega)⟩
  rw [if_neg (show ¬ (!Builtin.List.listFitsIndex (items.size : Int)) = true by rw [fits]; exact Bool.false_ne_true), if_neg (show ¬ (items.size : Int) < 0 by omega), if_neg (by rw [Int.toNat_natCast]; exact fun z => absurd z (by rw [notLongL hz]; decide))]
  exact wpAny_pure (h _ _)
end
end Rv
end PySem
set_option Elab.async false
set_option linter.all false
set_option maxRecDepth 100000
set_option maxHeartbeats 4000000
namespace PySem
namespace Rv
open PyProof.Rows L2 PySem.Spec
section
variable {prog : Program} {w : World} {A : Around} {E : Value → Shared → Prop} {s : Shared}
theorem extend_rev {R : Result → Shared → Prop} {S r t : Addr} {items : Array Value} {c₀ : Nat} (hh : A.handled = none) (hr : IsRv s.heap r t ((items.size : Int) - 1)) (ht : s.heap.IsTuple t items) (hz : items.size ≤ sizeLine)
    (hSr : S ≠ r) (hSt : S ≠ t) (htr : t ≠ r) (hS : s.heap.get? S = some { cls := .type "list", data := .seq #[] c₀ })
    (hR : ∀ h' tk acc' c', (∀ b o, b ≠ S → b ≠ r → s.heap.get? b = some o → h'.get? b = some o) → h'.get? S = some { cls := .type "list", dict := none, data := .seq acc' c', slots := #[] } → ItemsOf (fun i v => items[items.size - 1 - i]? = some v) acc' items.size → R (.ok (.ret .none)) { s with heap := h', toks := tk }) :
    wpAny (model prog w) A.in1 (Builtin.List.listExtendWith (.ref S) (.ref r) .none)
      (fun fin s' => match fin with | .done f => R (.ok f) s' | .again c' => c'.quiet = true ∧ codeAny (model prog w) A c' R s') (fun e s' => R (.error e) s') s := by
  have W := walk_rev (prog := prog) (w := w) (A := A.in1) hh r t htr items hz
  have hSf : S ∉ [r, t] := by simp [hSr, hSt]
  have loop : ∀ (h : Heap) (c₁ tk : Nat), IsRv h r t ((items.size : Int) - 1) → h.IsTuple t items → (∀ b o, b ≠ S → s.heap.get? b = some o → h.get? b = some o) → h.get? S = some { cls := .type "list", data := .seq #[] c₁ } →
      codeAny (model prog w) A (.builtin "list.extend.loop" ⟨[.ref S, .ref r, .none], []⟩) R { s with heap := h, toks := tk } := fun h c₁ tk h1 h2 hk h3 => by
    refine codeAny_extend_loopS W.toS hz S hSf .none items.size 0 _ #[] c₁ rfl (Nat.zero_le _) ⟨Nat.zero_le _, by simpa using h1, h2⟩ h3 (ItemsOf.nil _) fun s' acc' c' hm hS' hacc => ?_
    rw [Moved.eq_with hm]
    exact hR s'.heap s'.toks acc' c' (fun b o hb hbr e => hm.heap b o (by simp [hb, hbr]) (hk b o hb e)) hS' hacc
  unfold Builtin.List.listExtendWith
  refine wpAny_bind (wpAny_typeOf (T := "reversed") (rvType hr) ?_)
  rw [if_neg (by simp [Builtin.List.listSameRef, hSr])]
  refine wpAny_bind (iter_self hr (wpAny_bind (wpAny_holding (hint hr ht hz fun b tk => ?_))))
  refine wpAny_ite_split (fun _ => ?_) (fun _ => wpAny_pure ⟨plainId_quiet PySem.F.plain_extend_loop _, loop _ c₀ _ hr ht (fun b o _ e => e) hS⟩)
  refine wpAny_bind (wpAny_rule (wpAny_bind (m := Builtin.List.listTouch _) ?_))
  show wpAny _ _ (updateSeq S (·.push .none) >>= fun _ => updateSeq S (·.pop)) _ _ _
  have g1 := Heap.get?_update_self (Obj.mapSeq (·.push Value.none)) hS rfl
  have g2 := Heap.get?_update_self (Obj.mapSeq (·.pop)) g1 rfl
  have ot : ∀ b o, b ≠ S → s.heap.get? b = some o → ((s.heap.update S (Obj.mapSeq (·.push Value.none))).update S (Obj.mapSeq (·.pop))).get? b = some o := fun b o hb e => by
    rw [Heap.get?_update_other _ _ (Ne.symm hb), Heap.get?_update_other _ _ (Ne.symm hb)]; exact e
  refine wpAny_bind (wpAny_updateSeq (s := { s with toks := tk }) hS rfl (wpAny_updateSeq (hz := by seq_fits) g1 rfl (wpAny_pure ⟨plainId_quiet PySem.F.plain_extend_loop _, loop _ _ _ (ot r _ (Ne.symm hSr) hr) ?_ ot g2⟩)))
  obtain ⟨o, e, q⟩ := ht
  exact ⟨o, ot t o (Ne.symm hSt) e, q⟩
theorem list_rev {Q : Value → Shared → Prop} {r t : Addr} {items : Array Value} (hh : A.handled = none) (hr : IsRv s.heap r t ((items.size : Int) - 1)) (ht : s.heap.IsTuple t items) (hz : items.size ≤ sizeLine) (htr : t ≠ r)
    (hQ : ∀ h' tk acc' c', (∀ b o, b ≠ r → s.heap.get? b = some o → h'.get? b = some o) → h'.get? s.heap.objs.size = some { cls := .type "list", dict := none, data := .seq acc' c', slots := #[] } → ItemsOf (fun i v => items[items.size - 1 - i]? = some v) acc' items.size →
      Q (.ref s.heap.objs.size) { s with heap := h', toks := tk }) : wpAny (model prog w) A (call (.type "list") [.ref r]) Q E s := by
  have lr : r < s.heap.objs.size := Heap.lt_size hr
  have lt : t < s.heap.objs.size := by obtain ⟨o, e, _⟩ := ht; exact Heap.lt_size e
  refine callType_codes (Q₁ := fun obj s₁ => obj = .ref s.heap.objs.size ∧ s₁ = { s with heap := s.heap.push { cls := .type "list", data := .seq #[] } }) PySem.F.called_list (PySem.F.typeCall_list_1 _) PySem.F.entry_list_init (code_list_new _ ⟨rfl, rfl⟩) ?_
  rintro obj s₁ ⟨rfl, rfl⟩
  have g0 : (s.heap.push { cls := .type "list", data := .seq #[] }).get? s.heap.objs.size = some { cls := .type "list", data := .seq #[] } := Heap.get?_push_size _ rfl
  have g1 := Heap.get?_update_self (Obj.mapSeq fun _ => (#[] : Array Value)) g0 rfl
  have ot : ∀ b o, b ≠ s.heap.objs.size → s.heap.get? b = some o → ((s.heap.push { cls := .type "list", data := .seq #[] }).update s.heap.objs.size (Obj.mapSeq fun _ => (#[] : Array Value))).get? b = some o := fun b o hb e => by
    rw [Heap.get?_update_other _ _ (Ne.symm hb)]; exact Heap.get?_push_of_some _ e
  refine ⟨⟨_, g0, rfl⟩, PySem.F.args_list_init_2 _ _, ?_⟩
  show wpAny _ _ (Builtin.List.listItems (.ref s.heap.objs.size) >>= fun old => Builtin.List.listUpdate (.ref s.heap.objs.size) (fun _ => #[]) >>= fun _ => letGo old.toList.reverse >>= fun _ => Builtin.List.listExtendWith (.ref s.heap.objs.size) (.ref r) .none) _ _ _
  refine wpAny_bind (wpAny_listItems g0 rfl (wpAny_bind ?_))
  show wpAny _ _ (updateSeq s.heap.objs.size (fun _ => #[])) _ _ _
  refine wpAny_updateSeq g0 rfl (wpAny_bind (wpAny_letGo (extend_rev (A := A.in1) hh (ot r _ (Nat.ne_of_lt lr) hr) ?_ hz (Nat.ne_of_gt lr) (Nat.ne_of_gt lt) htr g1 fun h' tk acc' c' hk hS' hacc => ⟨rfl, hQ h' tk acc' c' (fun b o hb e => hk b o (Nat.ne_of_lt (Heap.lt_size e)) hb (ot b o (Nat.ne_of_lt (Heap.lt_size e)) e)) hS' hacc⟩)))
  obtain ⟨o, e, q⟩ := ht
  exact ⟨o, ot t o (Nat.ne_of_lt lt) e, q⟩
end
end Rv
end PySem
set_option Elab.async false
set_option linter.all false
set_option maxRecDepth 100000
set_option maxHeartbeats 4000000
namespace L2
open PySem PySem.Spec PyProof.Rows
section
variable {X : Cx} {a : Expr} {ta : TA} {p p2 pos pos2 : Pos}
theorem vals_rev {xs : List V} {its : List Value} {acc : Array Value} (r : Vals xs its) (h : ItemsOf (fun i v => its.toArray[its.toArray.size - 1 - i]? = some v) acc its.toArray.size) : Vals xs.reverse acc.toList := by
  have hl := r.length
  have ha : acc.size = its.length := by simpa using h.1
  have ha2 : acc.toList.length = acc.size := Array.length_toList
  refine vals_of (by rw [List.length_reverse]; omega) fun j v hv => ?_
  have hv' : acc[j]? = some v := by rw [← Array.getElem?_toList]; exact hv
  have hj : j < acc.size := (Array.getElem?_eq_some_iff.mp hv').1
  have e := h.2 j v hv'
  have e' : its[its.length - 1 - j]? = some v := by simpa using e
  have hlt : its.length - 1 - j < xs.length := by omega
  obtain ⟨u, hu, ru⟩ := r.get (List.getElem?_eq_getElem hlt)
  rw [e'] at hu; cases hu
  refine ⟨xs[its.length - 1 - j], ?_, ru⟩
  rw [List.getElem?_reverse (by omega), List.getElem?_eq_getElem (by omega)]
  congr 2
  omega
def tListRev (K : PySem.W.Frag) (ta : TA) : TE := fun σ H Q => ta σ H fun vs H1 => ∃ t xs, vs = [.ref t] ∧ SqT K H1 t xs ∧ ∀ q, H1 q = none → Q (.ref q) (upd H1 q (.lst xs.reverse))
theorem bt_reversed : bootBuiltins "reversed" = some (.type "reversed") := by decide +kernel
theorem bt_list0 : bootBuiltins "list" = some (.type "list") := by decide +kernel
theorem pe_listrev (hc : X.calm = true) (hg : Gl X "list") (hm : X.mg "list" = none) (hg2 : Gl X "reversed") (hm2 : X.mg "reversed" = none) (ha : PA X [a] ta)
    (hs1 : starEach [.Call (.Name "reversed" p2) [a] [] pos2] X.env = [(false, eval (.Call (.Name "reversed" p2) [a] [] pos2) X.env)] := by rfl) (hs2 : starEach [a] X.env = [(false, eval a X.env)] := by rfl) :
    PE X (.Call (.Name "list" p) [.Call (.Name "reversed" p2) [a] [] pos2] [] pos) (tListRev X.K ta) := by
  intro pins s σ H Q I h
  refine wpAny_Call_Name_kw (ld_blt I hg hm bt_list0 (PyProof.Rows.callWith_type1 ?_ hs1 rfl))
  rw [hs1]
  refine Calls.spliced_cons (wpAny_Call_Name_kw (ld_blt I hg2 hm2 bt_reversed (PyProof.Rows.callWith_type1 (thn (ha pos2 pins s σ H _ I h) fun us s1 ⟨vs, H1, I1, r1, q1⟩ => ?_) hs2 rfl)))
  obtain ⟨t, xs, rfl, hq, q⟩ := q1
  obtain ⟨u, rfl, ru⟩ := vals1 r1
  cases ru
  obtain ⟨its, rv, pl, hz⟩ := I1.tuple hq
  have hsz : its.toArray.size ≤ sizeLine := by rw [List.size_toArray]; have := rv.length; omega
  refine Rv.call_rev (t := t) (items := its.toArray) pl hsz fun tk' => Calls.spliced_nil ?_
  have lt : t < s1.heap.objs.size := by obtain ⟨o, e, _⟩ := (show s1.heap.IsTuple t its.toArray from pl); exact Heap.lt_size e
  refine Rv.list_rev (s := { s1 with toks := tk', heap := s1.heap.push (Rv.rvObj t ((its.toArray.size : Int) - 1)) }) (t := t) (items := its.toArray) (I1.ok.hd hc) (Heap.get?_push_size _ rfl) ?_ hsz (Nat.ne_of_lt lt) fun h' tk acc' c' hk hS hacc => ?_
  · obtain ⟨o, e, r⟩ := (show s1.heap.IsTuple t its.toArray from pl)
    exact ⟨o, Heap.get?_push_of_some _ e, r⟩
  · have hp : ({ s1 with toks := tk', heap := s1.heap.push (Rv.rvObj t ((its.toArray.size : Int) - 1)) } : Shared).heap.objs.size = s1.heap.objs.size + 1 := Heap.size_push ..
    rw [hp] at hS ⊢
    have hle : s1.heap.objs.size ≤ s1.heap.objs.size + 1 := Nat.le_succ _
    have va := vals_rev rv hacc
    refine ⟨.ref (s1.heap.objs.size + 1), _, I1.laid (o := .lst xs.reverse) (t' := tk) (fun b o e => hk b o (Nat.ne_of_lt (Heap.lt_size e)) (Heap.get?_push_of_some _ e)) hle ⟨by rw [List.length_reverse]; exact hz, acc'.toList, c', va, by rw [Array.toArray_toList]; exact hS⟩, rfl, q _ (I1.hok.fresh hle)⟩
end
end L2
set_option Elab.async false
set_option linter.all false
set_option maxRecDepth 100000
set_option maxHeartbeats 4000000
namespace PySem
namespace Zt
open PyProof.Rows L2 PySem.Spec
section
variable {prog : Program} {w : World} {A : Around} {E : Value → Shared → Prop} {s : Shared}
theorem stop_it {α : Type} {Q : α → Shared → Prop} (hh : A.handled = none) (hE : ∀ h' e, (∀ c o, s.heap.get? c = some o → h'.get? c = some o) → (∃ o, h'.get? e = some o ∧ o.cls = .type "StopIteration") → E (.ref e) { s with heap := h' }) :
    wpAny (model prog w) A (Builtin.SmallTypes.stopIteration : Sem α) Q E s := by
  unfold Builtin.SmallTypes.stopIteration
  refine wpAny_bind (m := newExc (.type "StopIteration") []) ?_
  simp only [newExc, newTuple]
  refine wpAny_bind (wpAny_newObj_type (wpAny_bind (m := firstArgMember _ _) (wpAny_of_eq (a := Value.none) (by first | rfl | (simp only [firstArgMember]; rfl)) (wpAny_newObj_type ?_ (by size_fits)))) (by size_fits))
  simp only [raiseNew]
  refine wpAny_bind (wpAny_handled ?_)
  rw [hh]
  refine wpAny_bind (wpAny_pure (wpAny_throw (hE _ _ (fun c o e => Heap.get?_push_of_some _ (Heap.get?_push_of_some _ e)) ⟨_, Heap.get?_push_size _ rfl, rfl⟩)))
structure Side (prog : Program) (w : World) (i l : Addr) (xs : Array Value) (St : Nat → Heap → Prop) : Prop where
  keep : ∀ k h h', St k h → (∀ c, c = i ∨ c = l → ∀ o, h.get? c = some o → h'.get? c = some o) → St k h'
  there : ∀ k h, St k h → i < h.objs.size
  item : ∀ (A : Around) (E : Value → Shared → Prop) (s : Shared) (k : Nat) (x : Value) (Q : Value → Shared → Prop), St k s.heap → xs[k]? = some x → (∀ h', St (k + 1) h' → Heap.SameBut i s.heap h' → Q x { s with heap := h' }) →
    wpAny (model prog w) A (Builtin.SmallTypes.nextOf (.ref i)) Q E s
  stop : ∀ (A : Around) (E : Value → Shared → Prop) (s : Shared) (k : Nat) (Q : Value → Shared → Prop), A.handled = none → St k s.heap → xs[k]? = none →
    (∀ h' e, Heap.ExtBut i s.heap h' → (∃ o, h'.get? e = some o ∧ o.cls = .type "StopIteration") → E (.ref e) { s with heap := h' }) → wpAny (model prog w) A (Builtin.SmallTypes.nextOf (.ref i)) Q E s
theorem side_tuple (i l : Addr) (hne : l ≠ i) (xs : Array Value) : Side prog w i l xs (fun k h => h.IsTupleIter i l k ∧ h.IsTuple l xs) where
  keep := fun k h h' x hk => by
    obtain ⟨⟨o, e, r⟩, ⟨u, g, q⟩⟩ := x
    exact ⟨⟨o, hk i (.inl rfl) o e, r⟩, ⟨u, hk l (.inr rfl) u g, q⟩⟩
  there := fun k h x => by obtain ⟨_, e, _⟩ := x.1; exact Heap.lt_size e
  item := fun A E s k x Q st hx hQ => by
    obtain ⟨⟨o, ho, hc, hd⟩, ⟨u, hu, hcu, n, hdu⟩⟩ := st
    have ty : s.TypeIs (.ref i) "tuple_iterator" := ⟨o, ho, hc⟩
    unfold Builtin.SmallTypes.nextOf
    refine wpAny_bind (wpAny_callSpecial?_slot (name := Str.ofString "__next__") ty F.slot_tuple_iterator_next (wpAny_call_entry F.slot_tuple_iterator_next ty F.entry_tuple_iterator_next ?_ (F.args_tuple_iterator_next_1 _)))
    show wpAny _ _ (field (.ref i) 0 >>= fun q => _) _ _ _
    refine wpAny_bind (wpAny_field ho hd (x := .ref l) rfl ?_)
    show wpAny _ _ (if (Value.ref l == Value.none) = true then _ else _) _ _ s
    rw [if_neg (show ¬ (Value.ref l == Value.none) = true from fun z => nomatch z)]
    show wpAny _ _ (field (.ref i) 1 >>= fun q => _) _ _ _
    refine wpAny_bind (wpAny_field ho hd (x := .int k 0) rfl ?_)
    show wpAny _ _ (seqItems? (.ref l) >>= fun q => _) _ _ _
    refine wpAny_bind (wpAny_seqItems hu hdu ?_)
    simp only [Int.toNat_natCast, hx]
    refine wpAny_bind (wpAny_setField ho hd (by simp) (wpAny_pure ⟨x, rfl, wpAny_pure (hQ _ ⟨⟨_, Heap.get?_update_self _ ho (Obj.isFreed_of_fields (Obj.data_mapFields hd _)), (Obj.cls_mapFields ..).trans hc, ?_⟩, ⟨u, ?_, hcu, n, hdu⟩⟩ (Heap.SameBut.update ..))⟩))
    · rw [Obj.data_mapFields hd]; simp [rawInt]
    · exact (Heap.get?_update_other _ _ (Ne.symm hne)).trans hu
  stop := fun A E s k Q hh st hx hE => by
    obtain ⟨⟨o, ho, hc, hd⟩, ⟨u, hu, hcu, n, hdu⟩⟩ := st
    have ty : s.TypeIs (.ref i) "tuple_iterator" := ⟨o, ho, hc⟩
    unfold Builtin.SmallTypes.nextOf
    refine wpAny_bind (wpAny_callSpecial?_slot (name := Str.ofString "__next__") ty F.slot_tuple_iterator_next (wpAny_call_entry F.slot_tuple_iterator_next ty F.entry_tuple_iterator_next ?_ (F.args_tuple_iterator_next_1 _)))
    show wpAny _ _ (field (.ref i) 0 >>= fun q => _) _ _ _
    refine wpAny_bind (wpAny_field ho hd (x := .ref l) rfl ?_)
    show wpAny _ _ (if (Value.ref l == Value.none) = true then _ else _) _ _ s
    rw [if_neg (show ¬ (Value.ref l == Value.none) = true from fun z => nomatch z)]
    show wpAny _ _ (field (.ref i) 1 >>= fun q => _) _ _ _
    refine wpAny_bind (wpAny_field ho hd (x := .int k 0) rfl ?_)
    show wpAny _ _ (seqItems? (.ref l) >>= fun q => _) _ _ _
    refine wpAny_bind (wpAny_seqItems hu hdu ?_)
    simp only [Int.toNat_natCast, hx]
    refine wpAny_bind (wpAny_rule (wpAny_bind (wpAny_setField ho hd (by simp) (stop_it hh fun h' e hk he => hE h' e (fun c q hc' g => hk c q ((Heap.get?_update_other _ _ (Ne.symm hc')).trans g)) he))))
structure Apart (z TI TO i1 i2 l1 l2 : Addr) : Prop where
  nd : [z, TI, TO, i1, i2].Nodup
  a : l1 ≠ z ∧ l1 ≠ TI ∧ l1 ≠ TO ∧ l1 ≠ i1 ∧ l1 ≠ i2
  b : l2 ≠ z ∧ l2 ≠ TI ∧ l2 ≠ TO ∧ l2 ≠ i1 ∧ l2 ≠ i2
variable {z TI TO i1 i2 l1 l2 : Addr} {xs ys : Array Value} {S1 S2 : Nat → Heap → Prop}
theorem item {k : Nat} {x y a b : Value} {Q : Value → Shared → Prop} (D : Apart z TI TO i1 i2 l1 l2) (W1 : Side prog w i1 l1 xs S1) (W2 : Side prog w i2 l2 ys S2) (hz : IsZip s.heap z TI TO .none) (hI : IsPair s.heap TI (.ref i1) (.ref i2)) (hO : IsPair s.heap TO a b)
    (h1 : S1 k s.heap) (h2 : S2 k s.heap) (hx : xs[k]? = some x) (hy : ys[k]? = some y)
    (hQ : ∀ h', IsZip h' z TI TO (rawInt s.heap.objs.size) → IsPair h' TO x y → S1 (k + 1) h' → S2 (k + 1) h' → IsPair h' s.heap.objs.size x y → (∀ c o, c ≠ z → c ≠ TO → c ≠ i1 → c ≠ i2 → s.heap.get? c = some o → h'.get? c = some o) → Q (.ref s.heap.objs.size) { s with heap := h' }) :
    wpAny (model prog w) A (Builtin.«zip.__next__» ⟨[.ref z], []⟩) (fun fin s' => ∃ v, fin = .done (.ret v) ∧ Q v s') E s := by
  have nd := D.nd
  simp only [List.nodup_cons, List.mem_cons, List.not_mem_nil, or_false, not_or, not_false_eq_true, List.nodup_nil, and_true] at nd
  obtain ⟨⟨zI, zO, z1, z2⟩, ⟨IO, I1, I2⟩, ⟨O1, O2⟩, n12⟩ := nd
  obtain ⟨az, aI, aO, a1, a2⟩ := D.a
  obtain ⟨bz, bI, bO, b1, b2⟩ := D.b
  show wpAny _ _ (field (.ref z) 2 >>= fun q => _) _ _ _
  refine wpAny_bind (wpAny_field hz rfl (x := .bool false) rfl ?_)
  show wpAny _ _ (field (.ref z) 3 >>= fun q => _) _ _ _
  refine wpAny_bind (wpAny_field hz rfl (x := .ref TI) rfl (wpAny_bind (wpAny_seqItems hI rfl ?_)))
  show wpAny _ _ (Builtin.SmallTypes.ownedTupleIsFree (.ref z) >>= fun q => _) _ _ _
  refine wpAny_bind ?_
  unfold Builtin.SmallTypes.ownedTupleIsFree
  refine wpAny_bind (wpAny_field hz rfl (x := .none) rfl (wpAny_pure ?_))
  simp only [if_true]
  refine wpAny_bind (wpAny_rule (wpAny_bind (wpAny_field hz rfl (x := .ref TO) rfl (wpAny_bind (wpAny_setField_rec hz (by simp) fun g1 q1 s1 => wpAny_bind ?_)))))
  simp only [List.zipIdx_cons, List.zipIdx_nil, List.forIn_cons, List.forIn_nil]
  have k1 : ∀ c, c = i1 ∨ c = l1 → c ≠ z ∧ c ≠ TO ∧ c ≠ i2 := fun c hc => by
    rcases hc with rfl | rfl
    · exact ⟨Ne.symm z1, Ne.symm O1, n12⟩
    · exact ⟨az, aO, a2⟩
  have k2 : ∀ c, c = i2 ∨ c = l2 → c ≠ z ∧ c ≠ TO ∧ c ≠ i1 := fun c hc => by
    rcases hc with rfl | rfl
    · exact ⟨Ne.symm z2, Ne.symm O2, Ne.symm n12⟩
    · exact ⟨bz, bO, b1⟩
  refine wpAny_bind (wpAny_bind (wpAny_onRaise ?_))
  show wpAny _ _ (Builtin.SmallTypes.nextOf (.ref i1) >>= fun q => _) _ _ _
  refine wpAny_bind (W1.item _ _ { s with heap := g1 } k x _ (W1.keep k _ _ h1 fun c hc o e => s1.extBut c o (k1 c hc).1 e) hx fun g2 t2 s2 => wpAny_pure ?_)
  have o2 : IsPair g2 TO a b := s2.extBut _ _ O1 (s1.extBut _ _ (Ne.symm zO) hO)
  refine wpAny_bind (wpAny_seqItems o2 rfl (wpAny_bind (wpAny_updateSeq_pair o2 fun g3 o3 s3 => wpAny_bind (wpAny_letGo (wpAny_pure ?_)))))
  replace o3 : IsPair g3 TO x b := o3
  refine wpAny_bind (wpAny_bind (wpAny_onRaise ?_))
  show wpAny _ _ (Builtin.SmallTypes.nextOf (.ref i2) >>= fun q => _) _ _ _
  refine wpAny_bind (W2.item _ _ { s with heap := g3 } k y _ (W2.keep k _ _ h2 fun c hc o e => s3.extBut c o (k2 c hc).2.1 (s2.extBut c o (k2 c hc).2.2 (s1.extBut c o (k2 c hc).1 e))) hy fun g4 t4 s4 => wpAny_pure ?_)
  have o4 : IsPair g4 TO x b := s4.extBut _ _ O2 o3
  refine wpAny_bind (wpAny_seqItems o4 rfl (wpAny_bind (wpAny_updateSeq_pair o4 fun g5 o5 s5 => wpAny_bind (wpAny_letGo (wpAny_pure (wpAny_pure ?_))))))
  replace o5 : IsPair g5 TO x y := o5
  refine wpAny_bind (wpAny_seqItems o5 rfl (wpAny_bind (wpAny_newTuple ?_)))
  have size5 : g5.objs.size = s.heap.objs.size := by rw [s5.1, s4.1, s3.1, s2.1, s1.1]
  have z5 : IsZip g5 z TI TO .ellipsis := s5.extBut _ _ zO (s4.extBut _ _ z2 (s3.extBut _ _ zO (s2.extBut _ _ z1 q1)))
  have lz : z < g5.objs.size := Heap.lt_size z5
  refine wpAny_bind (m := Builtin.SmallTypes.ownedTupleHandOut _ _) ?_
  unfold Builtin.SmallTypes.ownedTupleHandOut
  have z6 : IsZip (g5.push { cls := .type "tuple", data := .seq #[x, y] }) z TI TO .ellipsis := Heap.get?_push_of_some _ z5
  refine wpAny_bind (wpAny_setField_rec z6 (by simp) fun g7 z7 s7 => wpAny_setField_rec z7 (by simp) fun g8 z8 s8 => wpAny_pure ⟨_, rfl, ?_⟩)
  have up : ∀ c o, c ≠ z → g5.get? c = some o → g8.get? c = some o := fun c o hc e => s8.extBut _ _ hc (s7.extBut _ _ hc (Heap.get?_push_of_some _ e))
  have t8 : IsPair g8 g5.objs.size x y := s8.extBut _ _ (Nat.ne_of_gt lz) (s7.extBut _ _ (Nat.ne_of_gt lz) (Heap.get?_push_size _ rfl))
  have r1 : S1 (k + 1) g8 := W1.keep _ _ _ t2 fun c hc o e => up c o (k1 c hc).1 (s5.extBut _ _ (k1 c hc).2.1 (s4.extBut _ _ (k1 c hc).2.2 (s3.extBut _ _ (k1 c hc).2.1 e)))
  have r2 : S2 (k + 1) g8 := W2.keep _ _ _ t4 fun c hc o e => up c o (k2 c hc).1 (s5.extBut _ _ (k2 c hc).2.1 e)
  show Q (.ref g5.objs.size) _
  replace z8 : IsZip g8 z TI TO (rawInt g5.objs.size) := z8
  rw [size5] at z8 t8 ⊢
  exact hQ g8 z8 (up _ _ (Ne.symm zO) o5) r1 r2 t8 fun c o c1 c2 c3 c4 e => up c o c1 (s5.extBut _ _ c2 (s4.extBut _ _ c4 (s3.extBut _ _ c2 (s2.extBut _ _ c3 (s1.extBut _ _ c1 e)))))
theorem stop {k : Nat} {a b : Value} {Q : Fin → Shared → Prop} (hh : A.handled = none) (D : Apart z TI TO i1 i2 l1 l2) (W1 : Side prog w i1 l1 xs S1) (W2 : Side prog w i2 l2 ys S2) (hz : IsZip s.heap z TI TO .none) (hI : IsPair s.heap TI (.ref i1) (.ref i2)) (hO : IsPair s.heap TO a b)
    (h1 : S1 k s.heap) (h2 : S2 k s.heap) (hend : xs[k]? = none ∨ ys[k]? = none)
    (hE : ∀ h' e, (∀ c o, c ≠ z → c ≠ TO → c ≠ i1 → c ≠ i2 → s.heap.get? c = some o → h'.get? c = some o) → (∃ o, h'.get? e = some o ∧ o.cls = .type "StopIteration") → E (.ref e) { s with heap := h' }) :
    wpAny (model prog w) A (Builtin.«zip.__next__» ⟨[.ref z], []⟩) Q E s := by
  have nd := D.nd
  simp only [List.nodup_cons, List.mem_cons, List.not_mem_nil, or_false, not_or, not_false_eq_true, List.nodup_nil, and_true] at nd
  obtain ⟨⟨zI, zO, z1, z2⟩, ⟨IO, I1, I2⟩, ⟨O1, O2⟩, n12⟩ := nd
  obtain ⟨az, aI, aO, a1, a2⟩ := D.a
  obtain ⟨bz, bI, bO, b1, b2⟩ := D.b
  have k1 : ∀ c, c = i1 ∨ c = l1 → c ≠ z := fun c hc => by rcases hc with rfl | rfl; exact Ne.symm z1; exact az
  have k2 : ∀ c, c = i2 ∨ c = l2 → c ≠ z ∧ c ≠ TO ∧ c ≠ i1 := fun c hc => by
    rcases hc with rfl | rfl
    · exact ⟨Ne.symm z2, Ne.symm O2, Ne.symm n12⟩
    · exact ⟨bz, bO, b1⟩
  show wpAny _ _ (field (.ref z) 2 >>= fun q => _) _ _ _
  refine wpAny_bind (wpAny_field hz rfl (x := .bool false) rfl ?_)
  show wpAny _ _ (field (.ref z) 3 >>= fun q => _) _ _ _
  refine wpAny_bind (wpAny_field hz rfl (x := .ref TI) rfl (wpAny_bind (wpAny_seqItems hI rfl ?_)))
  show wpAny _ _ (Builtin.SmallTypes.ownedTupleIsFree (.ref z) >>= fun q => _) _ _ _
  refine wpAny_bind ?_
  unfold Builtin.SmallTypes.ownedTupleIsFree
  refine wpAny_bind (wpAny_field hz rfl (x := .none) rfl (wpAny_pure ?_))
  simp only [if_true]
  refine wpAny_bind (wpAny_rule (wpAny_bind (wpAny_field hz rfl (x := .ref TO) rfl (wpAny_bind (wpAny_setField_rec hz (by simp) fun g1 q1 s1 => wpAny_bind ?_)))))
  simp only [List.zipIdx_cons, List.zipIdx_nil, List.forIn_cons, List.forIn_nil]
  refine wpAny_bind (wpAny_bind (wpAny_onRaise ?_))
  show wpAny _ _ (Builtin.SmallTypes.nextOf (.ref i1) >>= fun q => _) _ _ _
  cases hx : xs[k]? with
  | none =>
    refine wpAny_bind (W1.stop _ _ { s with heap := g1 } k _ hh (W1.keep k _ _ h1 fun c hc o e => s1.extBut c o (k1 c hc) e) hx fun g2 e s2 he => ?_)
    obtain ⟨oe, ge, ce⟩ := he
    have q2 : IsZip g2 z TI TO .ellipsis := s2 _ _ z1 q1
    have ez : e ≠ z := fun u => by subst u; rw [q2] at ge; cases ge; simp at ce
    exact wpAny_setField_rec q2 (by simp) fun g3 _ s3 => hE g3 e (fun c o c1 _ c3 _ u => s3.extBut _ _ c1 (s2 _ _ c3 (s1.extBut _ _ c1 u))) ⟨oe, s3.extBut _ _ ez ge, ce⟩
  | some x =>
    have hy : ys[k]? = none := by rcases hend with h | h; rw [hx] at h; cases h; exact h
    refine wpAny_bind (W1.item _ _ { s with heap := g1 } k x _ (W1.keep k _ _ h1 fun c hc o e => s1.extBut c o (k1 c hc) e) hx fun g2 t2 s2 => wpAny_pure ?_)
    have o2 : IsPair g2 TO a b := s2.extBut _ _ O1 (s1.extBut _ _ (Ne.symm zO) hO)
    refine wpAny_bind (wpAny_seqItems o2 rfl (wpAny_bind (wpAny_updateSeq_pair o2 fun g3 o3 s3 => wpAny_bind (wpAny_letGo (wpAny_pure ?_)))))
    refine wpAny_bind (wpAny_bind (wpAny_onRaise ?_))
    show wpAny _ _ (Builtin.SmallTypes.nextOf (.ref i2) >>= fun q => _) _ _ _
    refine wpAny_bind (W2.stop _ _ { s with heap := g3 } k _ hh (W2.keep k _ _ h2 fun c hc o e => s3.extBut c o (k2 c hc).2.1 (s2.extBut c o (k2 c hc).2.2 (s1.extBut c o (k2 c hc).1 e))) hy fun g4 e s4 he => ?_)
    obtain ⟨oe, ge, ce⟩ := he
    have q4 : IsZip g4 z TI TO .ellipsis := s4 _ _ z2 (s3.extBut _ _ zO (s2.extBut _ _ z1 q1))
    have ez : e ≠ z := fun u => by subst u; rw [q4] at ge; cases ge; simp at ce
    exact wpAny_setField_rec q4 (by simp) fun g5 _ s5 => hE g5 e (fun c o c1 c2 c3 c4 u => s5.extBut _ _ c1 (s4 _ _ c4 (s3.extBut _ _ c2 (s2.extBut _ _ c3 (s1.extBut _ _ c1 u))))) ⟨oe, s5.extBut _ _ ez ge, ce⟩
end
end Zt
end PySem
set_option Elab.async false
set_option linter.all false
set_option maxRecDepth 100000
set_option maxHeartbeats 4000000
namespace PySem
namespace Zt
open PyProof.Rows L2 PySem.Spec
section
variable {prog : Program} {w : World} {A : Around} {E : Value → Shared → Prop} {s : Shared} {z TI TO i1 i2 l1 l2 : Addr} {xs ys : Array Value} {S1 S2 : Nat → Heap → Prop}
theorem next_item {k : Nat} {x y a b : Value} {Q : Option Value → Shared → Prop} (D : Apart z TI TO i1 i2 l1 l2) (W1 : Side prog w i1 l1 xs S1) (W2 : Side prog w i2 l2 ys S2) (hz : IsZip s.heap z TI TO .none) (hI : IsPair s.heap TI (.ref i1) (.ref i2)) (hO : IsPair s.heap TO a b)
    (h1 : S1 k s.heap) (h2 : S2 k s.heap) (hx : xs[k]? = some x) (hy : ys[k]? = some y)
    (hQ : ∀ h', IsZip h' z TI TO (rawInt s.heap.objs.size) → IsPair h' TO x y → S1 (k + 1) h' → S2 (k + 1) h' → IsPair h' s.heap.objs.size x y → (∀ c o, c ≠ z → c ≠ TO → c ≠ i1 → c ≠ i2 → s.heap.get? c = some o → h'.get? c = some o) → Q (some (.ref s.heap.objs.size)) { s with heap := h' }) :
    wpAny (model prog w) A (pyNext (.ref z)) Q E s := by
  have ty : s.TypeIs (.ref z) "zip" := ⟨_, hz, rfl⟩
  unfold pyNext
  exact wpAny_bind (wpAny_attempt (wpAny_callSpecial?_slot (name := Str.ofString "__next__") ty F.slot_zip_next (wpAny_call_entry F.slot_zip_next ty F.entry_zip_next (item D W1 W2 hz hI hO h1 h2 hx hy fun h' c1 c2 c3 c4 c5 c6 => wpAny_pure (hQ h' c1 c2 c3 c4 c5 c6)) (F.args_zip_next_1 _))))
theorem next_stop {k : Nat} {a b : Value} {Q : Option Value → Shared → Prop} (hh : A.handled = none) (D : Apart z TI TO i1 i2 l1 l2) (W1 : Side prog w i1 l1 xs S1) (W2 : Side prog w i2 l2 ys S2) (hz : IsZip s.heap z TI TO .none) (hI : IsPair s.heap TI (.ref i1) (.ref i2)) (hO : IsPair s.heap TO a b)
    (h1 : S1 k s.heap) (h2 : S2 k s.heap) (hend : xs[k]? = none ∨ ys[k]? = none)
    (hQ : ∀ h', (∀ c o, c ≠ z → c ≠ TO → c ≠ i1 → c ≠ i2 → s.heap.get? c = some o → h'.get? c = some o) → Q none { s with heap := h' }) : wpAny (model prog w) A (pyNext (.ref z)) Q E s := by
  have ty : s.TypeIs (.ref z) "zip" := ⟨_, hz, rfl⟩
  unfold pyNext
  refine wpAny_bind (wpAny_attempt (wpAny_callSpecial?_slot (name := Str.ofString "__next__") ty F.slot_zip_next (wpAny_call_entry F.slot_zip_next ty F.entry_zip_next (stop hh D W1 W2 hz hI hO h1 h2 hend fun h' e hk ⟨o, ho, hc⟩ => ?_) (F.args_zip_next_1 _))))
  exact wpAny_bind (wpAny_isInstance (T := "StopIteration") (b := true) ⟨o, ho, hc⟩ isSubtype_stop (wpAny_pure (hQ _ hk)))
end
abbrev zh1 (h : Heap) (a : Addr) : Heap := h.push { cls := .type "tuple_iterator", data := .fields #[.ref a, .int 0 0] }
abbrev zh2 (h : Heap) (a b : Addr) : Heap := (zh1 h a).push { cls := .type "tuple_iterator", data := .fields #[.ref b, .int 0 0] }
abbrev zh3 (h : Heap) (a b : Addr) : Heap := (zh2 h a b).push { cls := .type "tuple", data := .seq #[.ref h.objs.size, .ref (zh1 h a).objs.size] }
abbrev zh4 (h : Heap) (a b : Addr) : Heap := (zh3 h a b).push { cls := .type "tuple", data := .seq #[.none, .none] }
abbrev zh5 (h : Heap) (a b : Addr) : Heap := (zh4 h a b).push { cls := .type "zip", data := .fields #[.none, .bool false, .bool false, .ref (zh2 h a b).objs.size, .ref (zh3 h a b).objs.size] }
theorem meets_new (a b : Addr) (xs ys : Array Value) :
    Meets (Builtin.«zip.__new__» ⟨[.type "zip", .ref a, .ref b], []⟩) (fun _ R s => s.heap.IsTuple a xs ∧ s.heap.IsTuple b ys ∧ R (.ok (.ret (.ref (zh4 s.heap a b).objs.size))) { s with heap := zh5 s.heap a b }) :=
  .of_wp fun prog w A R s h => by
    obtain ⟨hp, g, d, tk, os⟩ := s; obtain ⟨ta, tb, h⟩ := h
    have hsub := sub_zip
    have T1 : Heap.IsTuple (Shared.heap ⟨hp, g, d, tk, os⟩) a xs := ta
    have T2 : Heap.IsTuple (Shared.heap ⟨hp.push { cls := .type "tuple_iterator", data := .fields #[.ref a, .int 0 0] }, g, d, tk, os⟩) b ys := by
      obtain ⟨o, e, r⟩ := (show hp.IsTuple b ys from tb)
      exact ⟨o, Heap.get?_push_of_some _ e, r⟩
    wp_walk using wpAny_pyIter_tuple T1, wpAny_pyIter_tuple T2
    exact ⟨_, rfl, h⟩
end Zt
end PySem
set_option Elab.async false
set_option linter.all false
set_option maxRecDepth 100000
set_option maxHeartbeats 4000000
namespace L2
open PySem PySem.Spec PyProof.Rows
def Itzt (K : PySem.W.Frag) (a b : Addr) (xs ys : List V) : It :=
  ⟨fun i H => SqT K H a xs ∧ SqT K H b ys ∧ i < xs.length ∧ i < ys.length,
   fun i H x H' => ∃ p u v, xs[i]? = some u ∧ ys[i]? = some v ∧ H p = none ∧ x = .ref p ∧ H' = upd H p (.tup [u, v]),
   fun i H => SqT K H a xs ∧ SqT K H b ys ∧ (xs.length ≤ i ∨ ys.length ≤ i)⟩
theorem turn_zipT {P : Program} {w : World} {K : PySem.W.Frag} {es : List Expr} {kx : Nat} {px : Pos} (a b z TI TO i1 i2 : Addr) (xs ys : List V) (D : Zt.Apart z TI TO i1 i2 a b) :
    Turn P w K (.Tuple es kx px) (Itzt K a b xs ys) [z, TI, TO, i1, i2] z (fun i h => IsZip h z TI TO .none ∧ IsPair h TI (.ref i1) (.ref i2) ∧ (∃ c d, IsPair h TO c d) ∧ h.IsTupleIter i1 a i ∧ h.IsTupleIter i2 b i) where
  mem := by simp
  obj := fun i h st c hc => by
    obtain ⟨h1, h2, ⟨p, q, h3⟩, ⟨o4, h4, _, d4⟩, ⟨o5, h5, _, d5⟩⟩ := st
    simp only [List.mem_cons, List.mem_nil_iff, or_false] at hc
    rcases hc with rfl | rfl | rfl | rfl | rfl
    · exact ⟨_, h1, fun v g => nomatch g⟩
    · exact ⟨_, h2, fun v g => nomatch g⟩
    · exact ⟨_, h3, fun v g => nomatch g⟩
    · exact ⟨_, h4, fun v g => by rw [d4] at g; cases g⟩
    · exact ⟨_, h5, fun v g => by rw [d5] at g; cases g⟩
  keep := fun i h h' st k => by
    obtain ⟨h1, h2, ⟨p, q, h3⟩, ⟨o4, h4, r4⟩, ⟨o5, h5, r5⟩⟩ := st
    exact ⟨k z (by simp) _ h1, k TI (by simp) _ h2, ⟨p, q, k TO (by simp) _ h3⟩, ⟨o4, k i1 (by simp) _ h4, r4⟩, ⟨o5, k i2 (by simp) _ h5, r5⟩⟩
  item := by
    intro X hP hw hK hc i pins s σ H E I hf st hg
    subst hP hw hK
    obtain ⟨h1, h2, ⟨c, d, h3⟩, h4, h5⟩ := st
    obtain ⟨hqa, hqb, hi, hj⟩ := hg
    obtain ⟨its, rv, pl, hz⟩ := I.tuple hqa
    obtain ⟨its2, rv2, pl2, hz2⟩ := I.tuple hqb
    obtain ⟨u, hu, ru⟩ := rv.get (List.getElem?_eq_getElem hi)
    obtain ⟨v, hv, rvv⟩ := rv2.get (List.getElem?_eq_getElem hj)
    refine Zt.next_item D (Zt.side_tuple i1 a D.a.2.2.2.1 its.toArray) (Zt.side_tuple i2 b D.b.2.2.2.2 its2.toArray) h1 h2 h3 ⟨h4, pl⟩ ⟨h5, pl2⟩ (x := u) (y := v) (by simpa using hu) (by simpa using hv) fun h' c1 c2 c3 c4 c5 hk => ?_
    refine ⟨_, rfl, wpAny_letOwnedTupleGo_zip c1 fun h'' z' sb => ?_⟩
    have nd := D.nd
    simp only [List.nodup_cons, List.mem_cons, List.not_mem_nil, or_false, not_or, not_false_eq_true, List.nodup_nil, and_true] at nd
    obtain ⟨⟨zI, zO, z1, z2⟩, ⟨IO, I1', I2'⟩, ⟨O1, O2⟩, n12⟩ := nd
    have hfr : H s.heap.objs.size = none := I.hok.fresh (Nat.le_refl _)
    have ltz : z < s.heap.objs.size := Heap.lt_size h1
    have keep2 : ∀ q o, q ∉ [z, TI, TO, i1, i2] → s.heap.get? q = some o → h''.get? q = some o := fun q o hq e => by
      simp only [List.mem_cons, List.mem_nil_iff, or_false, not_or] at hq
      exact (sb.2 q hq.1).trans (hk q o hq.1 hq.2.2.1 hq.2.2.2.1 hq.2.2.2.2 e)
    have hp2 : h''.get? s.heap.objs.size = some { cls := .type "tuple", data := .seq [u, v].toArray } := (sb.2 _ (Nat.ne_of_gt ltz)).trans c5
    have I1 : Inv X pins σ (upd H s.heap.objs.size (.tup [xs[i], ys[i]])) { s with heap := h'', toks := s.toks } := I.laidT (its := [u, v]) hf keep2 (by show 2 ≤ sizeLine; decide) (.cons ru (.cons rvv .nil)) hp2
    have low : ∀ q ∈ [z, TI, TO, i1, i2], q < s.heap.objs.size := fun q hq => by
      simp only [List.mem_cons, List.mem_nil_iff, or_false] at hq
      rcases hq with rfl | rfl | rfl | rfl | rfl
      · exact ltz
      · exact Heap.lt_size h2
      · exact Heap.lt_size h3
      · obtain ⟨_, e, _⟩ := h4; exact Heap.lt_size e
      · obtain ⟨_, e, _⟩ := h5; exact Heap.lt_size e
    refine ⟨.ref s.heap.objs.size, _, I1, rfl, ⟨s.heap.objs.size, xs[i], ys[i], List.getElem?_eq_getElem hi, List.getElem?_eq_getElem hj, hfr, rfl, rfl⟩, ⟨z', (sb.2 _ (Ne.symm zI)).trans (hk _ _ (Ne.symm zI) IO I1' I2' h2), ⟨u, v, (sb.2 _ (Ne.symm zO)).trans c2⟩, ?_, ?_⟩, fun q hq => ?_⟩
    · obtain ⟨o, e, r⟩ := c3.1; exact ⟨o, (sb.2 _ (Ne.symm z1)).trans e, r⟩
    · obtain ⟨o, e, r⟩ := c4.1; exact ⟨o, (sb.2 _ (Ne.symm z2)).trans e, r⟩
    · rw [upd_ne (Nat.ne_of_lt (low q hq))]; exact (hf q hq).1
  done := by
    intro X hP hw hK hc i pins s σ H E I hf st hg
    subst hP hw hK
    obtain ⟨h1, h2, ⟨c, d, h3⟩, h4, h5⟩ := st
    obtain ⟨hqa, hqb, hij⟩ := hg
    obtain ⟨its, rv, pl, hz⟩ := I.tuple hqa
    obtain ⟨its2, rv2, pl2, hz2⟩ := I.tuple hqb
    have l1 := rv.length
    have l2 := rv2.length
    refine Zt.next_stop (I.ok.hd hc) D (Zt.side_tuple i1 a D.a.2.2.2.1 its.toArray) (Zt.side_tuple i2 b D.b.2.2.2.2 its2.toArray) h1 h2 h3 ⟨h4, pl⟩ ⟨h5, pl2⟩ (hij.elim (fun q => .inl (by simp; omega)) fun q => .inr (by simp; omega)) fun h' hk => ⟨rfl, ?_⟩
    exact I.turnedT (tk := s.toks) hf fun q o hq e => hk q o (fun y => hq (by simp [y])) (fun y => hq (by simp [y])) (fun y => hq (by simp [y])) (fun y => hq (by simp [y])) e
  self := fun _ _ _ _ _ st h => wpAny_pyIter_zip st.1 h
theorem nd5 (n : Nat) : [n + 4, n + 2, n + 3, n, n + 1].Nodup := by
  simp only [List.nodup_cons, List.mem_cons, List.not_mem_nil, or_false, not_or, not_false_eq_true, List.nodup_nil, and_true]
  omega
theorem ge5 {n q : Nat} (h : q ∈ [n + 4, n + 2, n + 3, n, n + 1]) : n ≤ q := by
  simp only [List.mem_cons, List.mem_nil_iff, or_false] at h
  omega
section
variable {X : Cx}
theorem zip_tailT {pins : List (Addr × Obj)} {s1 : Shared} {σ : St} {H1 : Hp} {R : It → Hp → Prop} {a b : Addr} {xs ys : List V} {es : List Expr} {kx : Nat} {px : Pos} (I1 : Inv X pins σ H1 s1) (hqa : SqT X.K H1 a xs) (hqb : SqT X.K H1 b ys) (q : R (Itzt X.K a b xs ys) H1) :
    wpAny (model X.prog X.w) X.A (call (.type "zip") [.ref a, .ref b]) (fun v s1 => wpAny (model X.prog X.w) X.A (pyIter v) (PIE X pins σ (.Tuple es kx px) R) X.xe s1) X.xe s1 := by
  obtain ⟨its, rv1, pl, hz⟩ := I1.tuple hqa
  obtain ⟨its2, rv2, pl2, hz2⟩ := I1.tuple hqb
  have la : a < s1.heap.objs.size := by obtain ⟨_, e, _⟩ := (show s1.heap.IsTuple a its.toArray from pl); exact Heap.lt_size e
  have lb : b < s1.heap.objs.size := by obtain ⟨_, e, _⟩ := (show s1.heap.IsTuple b its2.toArray from pl2); exact Heap.lt_size e
  have y1 : (Zt.zh1 s1.heap a).objs.size = s1.heap.objs.size + 1 := Heap.size_push ..
  have y2 : (Zt.zh2 s1.heap a b).objs.size = s1.heap.objs.size + 2 := by rw [Heap.size_push, y1]
  have y3 : (Zt.zh3 s1.heap a b).objs.size = s1.heap.objs.size + 3 := by rw [Heap.size_push, y2]
  have y4 : (Zt.zh4 s1.heap a b).objs.size = s1.heap.objs.size + 4 := by rw [Heap.size_push, y3]
  have kall : ∀ c o, s1.heap.get? c = some o → (Zt.zh5 s1.heap a b).get? c = some o := fun c o e => Heap.get?_push_of_some _ (Heap.get?_push_of_some _ (Heap.get?_push_of_some _ (Heap.get?_push_of_some _ (Heap.get?_push_of_some _ e))))
  have e5 : (Zt.zh5 s1.heap a b).get? (Zt.zh4 s1.heap a b).objs.size = some _ := Heap.get?_push_size _ rfl
  have e4 : (Zt.zh5 s1.heap a b).get? (Zt.zh3 s1.heap a b).objs.size = some _ := Heap.get?_push_of_some _ (Heap.get?_push_size _ rfl)
  have e3 : (Zt.zh5 s1.heap a b).get? (Zt.zh2 s1.heap a b).objs.size = some _ := Heap.get?_push_of_some _ (Heap.get?_push_of_some _ (Heap.get?_push_size _ rfl))
  have e2 : (Zt.zh5 s1.heap a b).get? (Zt.zh1 s1.heap a).objs.size = some _ := Heap.get?_push_of_some _ (Heap.get?_push_of_some _ (Heap.get?_push_of_some _ (Heap.get?_push_size _ rfl)))
  have e1 : (Zt.zh5 s1.heap a b).get? s1.heap.objs.size = some _ := Heap.get?_push_of_some _ (Heap.get?_push_of_some _ (Heap.get?_push_of_some _ (Heap.get?_push_of_some _ (Heap.get?_push_size _ rfl))))
  refine callType_new F.called_zip (by decide) (F.typeCall_zip_2 _ _) (F.newCall_zip_2 _ _) (fun obj => F.args_object_init_3 obj _ _) F.entry_zip_new (Zt.meets_new a b its.toArray its2.toArray) ⟨pl, pl2, ⟨_, e5, rfl⟩, ?_⟩
  refine wpAny_pyIter_zip e5 ?_
  rw [y2, y3, y4] at e5
  rw [y1, y2] at e3
  rw [y3] at e4
  rw [y1] at e2
  rw [y4]
  refine ⟨s1.heap.objs.size + 4, [s1.heap.objs.size + 4, s1.heap.objs.size + 2, s1.heap.objs.size + 3, s1.heap.objs.size, s1.heap.objs.size + 1], _, _, H1, rfl, I1.kept (t' := s1.toks) kall,
    turn_zipT a b (s1.heap.objs.size + 4) (s1.heap.objs.size + 2) (s1.heap.objs.size + 3) s1.heap.objs.size (s1.heap.objs.size + 1) xs ys ⟨nd5 _, ⟨adl 4 la, adl 2 la, adl 3 la, adl0 la, adl 1 la⟩, ⟨adl 4 lb, adl 2 lb, adl 3 lb, adl0 lb, adl 1 lb⟩⟩, ⟨e5, e3, ⟨_, _, e4⟩, ⟨_, e1, rfl, rfl⟩, ⟨_, e2, rfl, rfl⟩⟩, fun q hq => I1.fpOk (ge5 hq) (I1.hok.fresh (ge5 hq)), q⟩
theorem zip_tailL {pins : List (Addr × Obj)} {s1 : Shared} {σ : St} {H1 : Hp} {R : It → Hp → Prop} {a b : Addr} {xs ys : List V} {es : List Expr} {kx : Nat} {px : Pos} (I1 : Inv X pins σ H1 s1) (hqa : SqL X.K H1 a xs) (hqb : SqL X.K H1 b ys) (q : R (Itz X.K a b xs ys) H1) :
    wpAny (model X.prog X.w) X.A (call (.type "zip") [.ref a, .ref b]) (fun v s1 => wpAny (model X.prog X.w) X.A (pyIter v) (PIE X pins σ (.Tuple es kx px) R) X.xe s1) X.xe s1 := by
  obtain ⟨its, rv1, pl, hz⟩ := I1.list hqa
  obtain ⟨its2, rv2, pl2, hz2⟩ := I1.list hqb
  have la : a < s1.heap.objs.size := by obtain ⟨_, e, _⟩ := pl.isList; exact Heap.lt_size e
  have lb : b < s1.heap.objs.size := by obtain ⟨_, e, _⟩ := pl2.isList; exact Heap.lt_size e
  refine call_zip_2 pl.isList pl2.isList fun h' g1 g2 g3 g4 g5 g6 k => wpAny_pyIter_zip g1 ?_
  refine ⟨s1.heap.objs.size + 4, [s1.heap.objs.size + 4, s1.heap.objs.size + 2, s1.heap.objs.size + 3, s1.heap.objs.size, s1.heap.objs.size + 1], _, _, H1, rfl, I1.kept (t' := s1.toks) k,
    turn_zip a b _ _ _ _ _ xs ys ⟨ad2 2 4 (by decide), ad2 3 4 (by decide), ad0' 4 (by decide), ad2 1 4 (by decide), ad2 2 3 (by decide), ad0 2 (by decide), ad2 2 1 (by decide), ad0 3 (by decide), ad2 3 1 (by decide), ad0' 1 (by decide), adl 4 la, adl 3 la, adl0 la, adl 1 la, adl 4 lb, adl 3 lb, adl0 lb, adl 1 lb⟩, ⟨g1, g2, ⟨_, _, g3⟩, g4, g5⟩, fun q hq => I1.fpOk (ge5 hq) (I1.hok.fresh (ge5 hq)), q⟩
def iZipU (K : PySem.W.Frag) (ta : TA) : TI := fun σ H R => ta σ H fun vs H1 => ∃ a b xs ys, vs = [.ref a, .ref b] ∧ ((SqT K H1 a xs ∧ SqT K H1 b ys ∧ R (Itzt K a b xs ys) H1) ∨ (SqL K H1 a xs ∧ SqL K H1 b ys ∧ R (Itz K a b xs ys) H1))
theorem pi_zipU {a b : Expr} {ta : TA} {p pos : Pos} {es : List Expr} {kx : Nat} {px : Pos} (hg : Gl X "zip") (hm : X.mg "zip" = none) (ha : PA X [a, b] ta) (hs : starEach [a, b] X.env = [(false, eval a X.env), (false, eval b X.env)] := by rfl) (hs2 : starEach [b] X.env = [(false, eval b X.env)] := by rfl) :
    PI X (.Tuple es kx px) (.Call (.Name "zip" p) [a, b] [] pos) (iZipU X.K ta) := by
  intro pins s σ H R I h
  refine Call_ (ld_blt I hg hm bt_zip (PyProof.Rows.callWith_type1 (thn (ha pos pins s σ H _ I h) fun us s1 ⟨vs, H1, I1, r1, q1⟩ => ?_) (by rw [hs, hs2]) (by rw [hs2]; rfl)))
  obtain ⟨a, b, xs, ys, rfl, q1⟩ := q1
  obtain ⟨u, v, rfl, ru, rv⟩ := vals2 r1
  cases ru; cases rv
  rcases q1 with ⟨h1, h2, q⟩ | ⟨h1, h2, q⟩
  · exact zip_tailT I1 h1 h2 q
  · exact zip_tailL I1 h1 h2 q
end
end L2
set_option Elab.async false
set_option linter.all false
set_option maxRecDepth 100000
set_option maxHeartbeats 4000000
namespace L2
open PySem PySem.Spec PyProof.Rows
section
variable {X : Cx}
theorem strsAre_of : ∀ {vs : List Value} {ks : List Str}, vs.length = ks.length → (∀ (j : Nat) v, vs[j]? = some v → ∃ x t, ks[j]? = some x ∧ v = .str x t) → StrsAre vs ks
  | [], [], _, _ => .nil
  | [], _ :: _, e, _ => by simp at e
  | _ :: _, [], e, _ => by simp at e
  | v :: vs, k :: ks, e, h => by
    obtain ⟨x, t, h1, rfl⟩ := h 0 v rfl
    cases (show k = x by simpa using h1)
    exact .cons k t (strsAre_of (by simpa using e) fun j v hv => by simpa using h (j + 1) v (by simpa using hv))
theorem strs_vals : ∀ {vs : List Value} {ss : List Str}, StrsAre vs ss → Vals (ss.map V.str) vs
  | _, _, .nil => .nil
  | _, _, .cons y t r => .cons ⟨t, rfl⟩ (strs_vals r)
theorem call_sorted_dict (hc : X.calm = true) : CallR X (.builtin "sorted") (fun xs H Q => ∃ (d : Addr) (kvs : List (Key × V)) (ks : List Str), xs = [.ref d] ∧ H d = some (.dK kvs) ∧ kvs.map Prod.fst = ks.map Sum.inr ∧ ks.length < 64 ∧
    ∀ ss : List Str, ss.Perm ks → ∀ p, H p = none → Q (.ref p) (upd H p (.lst (ss.map V.str)))) := by
  intro pins s σ H xs us Q I r h
  obtain ⟨d, kvs, ks, rfl, hd, hks, h64, q⟩ := h
  obtain ⟨u, rfl, ru⟩ := vals1 r
  cases ru
  obtain ⟨hz, hne, vs, rkv, hD⟩ := (show ObjOk X.prog X.w H s.heap d (.dK kvs) from I.hok d _ hd)
  obtain ⟨ep, hat⟩ := hD.dictAt
  have hl := rkv.length
  have hkl : kvs.length = ks.length := by have := congrArg List.length hks; simpa using this
  refine Calls.call_function_entry kind_sorted plain_sorted entry_sorted (args_sorted1 _) ?_
  unfold Builtin.«sorted»
  refine wpAny_bind (m := checkCount "sorted" 1 1 _) (wpAny_pure (wpAny_bind (PySem.W.kdu_collect (A := X.A.in1) (PySem.W.kdl_dict (knd := mixKind X.prog X.w) (kvs := vs) (ep := ep) hne) (I.ok.hd hc) hat (by rw [← hl]; exact hz) fun h' tk acc hk hacc => ?_)))
  have hsz : acc.toList.length = ks.length := by have h1 := hacc.1; have h2 : acc.toList.length = acc.size := Array.length_toList; omega
  have hS : StrsAre acc.toList ks := strsAre_of hsz fun j v hv => by
    obtain ⟨k, x, hx, hk'⟩ := hacc.2 j v (by rw [← Array.getElem?_toList]; exact hv)
    obtain ⟨y, hy⟩ := kv_get rkv hx
    have e1 : (kvs.map Prod.fst)[j]? = some k := by rw [List.getElem?_map, hy]; rfl
    rw [hks, List.getElem?_map] at e1
    obtain ⟨z, hz', rfl⟩ := Option.map_eq_some_iff.mp e1
    obtain ⟨t, e⟩ := (show RelV (kV (Sum.inr z)) v from kV_rel hk')
    exact ⟨z, t, hz', e⟩
  have I1 : Inv X pins σ H { s with heap := h', toks := tk } := I.kept (t' := tk) hk
  refine wpAny_bind (wpAny_newList ?_ (by rw [hsz]; omega))
  have ho : (h'.push (seqObj "list" acc.toList.toArray 0)).get? h'.objs.size = some (seqObj "list" acc.toList.toArray 0) := Heap.get?_push_size _ rfl
  refine wpAny_bind (wpAny_holding (wpAny_call_entry slot_list_sort ⟨_, ho, rfl⟩ entry_list_sort (list_sort_treeK strKind_oneLt ho hS.keysOf (fun v₁ v₂ rest e => keyKind_strs (by rw [← e]; exact hS)) (by rw [hsz]; exact h64) fun st' a1 a2 => ⟨_, rfl, ?_⟩) (args_list_sort _)))
  obtain ⟨ss, h1, h2, h3⟩ := sorted_out_str hS a1 a2
  obtain ⟨e, he⟩ := sortedHeap_at (out := (arrOf st').map (·.2)) ho
  have hlen : ss.length = ks.length := h2.length_eq
  refine wpAny_pure ⟨_, rfl, .ref h'.objs.size, _, I1.laid (o := .lst (ss.map V.str)) (t' := tk) (fun b o eb => ?_) (Nat.le_refl _) ⟨by rw [List.length_map]; exact Nat.le_trans (Nat.le_of_lt (by omega : ss.length < 64)) (by decide), ((arrOf st').map (·.2)).toList, e, strs_vals h1, by rw [Array.toArray_toList]; exact he⟩, rfl, q ss h2 _ I1.fresh⟩
  have hlt : b < h'.objs.size := Heap.lt_size eb
  exact (sortedHeap_old (Nat.ne_of_lt hlt) (by rw [Heap.size_push]; exact Nat.lt_succ_of_lt hlt)).trans (Heap.get?_push_of_some _ eb)
end
end L2
set_option Elab.async false
set_option linter.all false
set_option maxRecDepth 100000
set_option maxHeartbeats 4000000
namespace L2
open PySem PySem.Spec PyProof.Rows
section
variable {X : Cx}
theorem ints_get {ns : List Int} {its : List Value} (r : Vals (ns.map V.int) its) {i : Nat} {v : Value} (h : its[i]? = some v) : ∃ t, v = .int (ns.getD i 0) t := by
  have hl := r.length
  rw [List.length_map] at hl
  have hi : i < ns.length := by have := (List.getElem?_eq_some_iff.mp h).1; omega
  obtain ⟨u, hu, ru⟩ := r.get (i := i) (x := .int ns[i]) (by rw [List.getElem?_map, List.getElem?_eq_getElem hi]; rfl)
  rw [h] at hu; cases hu
  obtain ⟨t, e⟩ := ru
  exact ⟨t, by rw [e]; congr 1; simp [List.getD, List.getElem?_eq_getElem hi]⟩
theorem call_sumB (hc : X.calm = true) : CallR X (.builtin "sum") (fun xs H Q => ∃ (p : Addr) (ns : List Int), xs = [.ref p] ∧ SqL X.K H p (ns.map V.int) ∧ Q (.int ns.sum) H) := by
  intro pins s σ H xs us Q I r h
  obtain ⟨p, ns, rfl, hq, q⟩ := h
  obtain ⟨u, rfl, ru⟩ := vals1 r
  cases ru
  obtain ⟨its, rv, pl, hz⟩ := I.list hq
  have hlt : p < s.heap.objs.size := by obtain ⟨_, e, _⟩ := pl.isList; exact Heap.lt_size e
  have hl := rv.length
  rw [List.length_map] at hl
  have hA : X.A.in1.handled = none := I.ok.hd hc
  refine call_sum_walkG (wpAny_pyIter_list pl.isList ⟨s.heap.objs.size, [s.heap.objs.size, p], [s.heap.objs.size], its.toArray.size, (fun i v => its.toArray[i]? = some v), _, (fun i => ns.getD i 0), rfl, Walks.list (A := X.A.in1) hA s.heap.objs.size p (Nat.ne_of_lt hlt) its.toArray,
    ⟨⟨_, Heap.get?_push_size _ rfl, rfl, rfl⟩, pl.isList.push _⟩, ?_, fun i v hv => ints_get rv (by simpa using hv), fun h' tk t' hk => ?_⟩)
  · intro b hb
    rw [Heap.size_push]
    simp only [List.mem_cons, List.mem_nil_iff, or_false] at hb
    rcases hb with rfl | rfl
    · exact Nat.lt_succ_self _
    · exact Nat.lt_succ_of_lt hlt
  · rw [preSum_getD, List.size_toArray, ← hl, List.take_length]
    refine ⟨.int ns.sum, H, I.kept (t' := tk) fun b o eb => hk b o (fun z => ?_) (Heap.get?_push_of_some _ eb), ⟨_, rfl⟩, q⟩
    exact absurd (Heap.lt_size eb) (by rw [List.mem_singleton.mp z]; exact Nat.lt_irrefl _)
theorem call_maxB (hc : X.calm = true) : CallR X (.builtin "max") (fun xs H Q => ∃ (p : Addr) (ns : List Int), xs = [.ref p] ∧ SqL X.K H p (ns.map V.int) ∧ 0 < ns.length ∧ ∀ m, m ∈ ns → (∀ a ∈ ns, a ≤ m) → Q (.int m) H) := by
  intro pins s σ H xs us Q I r h
  obtain ⟨p, ns, rfl, hq, hn, q⟩ := h
  obtain ⟨u, rfl, ru⟩ := vals1 r
  cases ru
  obtain ⟨its, rv, pl, hz⟩ := I.list hq
  have hlt : p < s.heap.objs.size := by obtain ⟨_, e, _⟩ := pl.isList; exact Heap.lt_size e
  have hl := rv.length
  rw [List.length_map] at hl
  have hA : X.A.in1.handled = none := I.ok.hd hc
  obtain ⟨b1, b2⟩ := argBest_gt (fun i => ns.getD i 0) (its.toArray.size - 1)
  refine call_max_walk (wpAny_pyIter_list pl.isList ⟨s.heap.objs.size, [s.heap.objs.size, p], [s.heap.objs.size], its.toArray.size, (fun i v => its.toArray[i]? = some v), _, (fun i j => decide (ns.getD i 0 > ns.getD j 0)), rfl, Walks.list (A := X.A.in1) hA s.heap.objs.size p (Nat.ne_of_lt hlt) its.toArray,
    ⟨⟨_, Heap.get?_push_size _ rfl, rfl, rfl⟩, pl.isList.push _⟩, ?_, by rw [List.size_toArray]; omega, fun i j vi vj s' Q' E' hi hj hQ' => ?_, fun v h' tk hv hk => ?_⟩)
  · intro b hb
    rw [Heap.size_push]
    simp only [List.mem_cons, List.mem_nil_iff, or_false] at hb
    rcases hb with rfl | rfl
    · exact Nat.lt_succ_self _
    · exact Nat.lt_succ_of_lt hlt
  · obtain ⟨t, rfl⟩ := ints_get rv (i := i) (v := vi) (by simpa using hi)
    obtain ⟨t', rfl⟩ := ints_get rv (i := j) (v := vj) (by simpa using hj)
    exact gt_int hQ'
  · dsimp only at hv
    rw [List.getElem?_toArray] at hv
    obtain ⟨t, rfl⟩ := ints_get rv hv
    rw [List.size_toArray] at b1 b2
    have hget : ∀ i, i < ns.length → ns.getD i 0 ∈ ns := fun i hi => by rw [List.getD, List.getElem?_eq_getElem hi]; exact List.getElem_mem hi
    refine ⟨.int _, H, I.kept (t' := tk) fun b o eb => hk b o (fun z => ?_) (Heap.get?_push_of_some _ eb), ⟨_, rfl⟩, q _ (hget _ ?_) fun a ha => ?_⟩
    · exact absurd (Heap.lt_size eb) (by rw [List.mem_singleton.mp z]; exact Nat.lt_irrefl _)
    · rw [List.size_toArray]; exact Nat.lt_of_le_of_lt b1 (by omega)
    · obtain ⟨j, hj, rfl⟩ := List.mem_iff_getElem.mp ha
      have := b2 j (by omega)
      rw [List.size_toArray]
      rw [show ns.getD j 0 = ns[j] by rw [List.getD, List.getElem?_eq_getElem hj]; rfl] at this
      exact this
theorem op_neE (hu : X.A.units + 1 < cLine) : OpR X (compareOp .NotEq) (fun x y H Q => ∃ a b ka, x = .ref a ∧ y = .ref b ∧ H a = some (.dK ka) ∧ H b = some (.dK []) ∧ Q (.bl (!ka.isEmpty)) H) := by
  intro pins s σ H x y v u Q I rx ry h
  obtain ⟨a, b, ka, rfl, rfl, ha, hb, q⟩ := h
  cases rx; cases ry
  obtain ⟨z1, n1, vs, rel, da⟩ := dk_of I.hok ha
  obtain ⟨z2, n2, us, rel2, db⟩ := dk_of I.hok hb
  have l1 := rel.length
  have l2 := rel2.length
  have e2 : us = [] := by cases us; rfl; simp at l2
  subst e2
  refine PySem.W.keq_ne (r := true) n1 n2 da db (by omega) (fun e => ?_) ⟨.bl (!ka.isEmpty), H, I, ?_, q⟩
  · have : vs = [] := by cases vs; rfl; simp at e
    subst this; exact .nil
  · show Value.bool _ = Value.bool _
    congr 1
    cases ka with
    | nil => cases vs; rfl; simp at l1
    | cons p r => cases vs; simp at l1; rfl
end
end L2
set_option Elab.async false
set_option linter.all false
set_option maxRecDepth 100000
set_option maxHeartbeats 4000000
namespace L3
open PySem PySem.Spec PyProof.Rows L2
abbrev SV := L2.St
inductive W where
  | non | bl (b : Bool) | int (i : Int) | str (x : Str) | ty (n : String) | tup (ws : List W) | rl (ws : List W) | sc (ws : List W) | ref (a : Addr)
  | dk (kvs : List (Key × W)) | dt (kvs : List (List Key × W))
inductive MO where
  | lst (ws : List W) | dK (kvs : List (Key × W)) | dT (kvs : List (List Key × W)) | fix (vs : List V)
abbrev Mm := Addr → Option MO
def put (M : Mm) (a : Addr) (o : MO) : Mm := fun b => if b = a then some o else M b
def del (M : Mm) (a : Addr) : Mm := fun b => if b = a then none else M b
theorem put_same {M : Mm} {a : Addr} {o : MO} : put M a o a = some o := by unfold put; rw [if_pos rfl]
theorem put_ne {M : Mm} {a b : Addr} {o : MO} (h : b ≠ a) : put M a o b = M b := by unfold put; rw [if_neg h]
theorem put_put {M : Mm} {a : Addr} {o u : MO} : put (put M a o) a u = put M a u := by
  funext b; unfold put; split <;> rfl
theorem del_put {M : Mm} {a : Addr} {o : MO} (h : M a = none) : del (put M a o) a = M := by
  funext b; unfold del put; split
  · rename_i e; rw [e, h]
  · rfl
theorem del_same {M : Mm} {a : Addr} : del M a a = none := by unfold del; rw [if_pos rfl]
theorem del_ne {M : Mm} {a b : Addr} (h : b ≠ a) : del M a b = M b := by unfold del; rw [if_neg h]
theorem put_comm {M : Mm} {a b : Addr} {o u : MO} (h : a ≠ b) : put (put M a o) b u = put (put M b u) a o := by
  funext c
  unfold put
  by_cases h1 : c = b
  · by_cases h2 : c = a
    · exact absurd (h2.symm.trans h1) h
    · rw [if_pos h1, if_neg h2, if_pos h1]
  · by_cases h2 : c = a
    · rw [if_neg h1, if_pos h2, if_pos h2]
    · rw [if_neg h1, if_neg h2, if_neg h2, if_neg h1]
theorem put_self {M : Mm} {a : Addr} {o : MO} (h : M a = some o) : put M a o = M := by
  funext b; unfold put; split
  · rename_i e; rw [e, h]
  · rfl
def Sub (M M' : Mm) : Prop := ∀ a o, M a = some o → M' a = some o
theorem Sub.refl (M : Mm) : Sub M M := fun _ _ h => h
theorem Sub.trans {M M1 M2 : Mm} (a : Sub M M1) (b : Sub M1 M2) : Sub M M2 := fun c o h => b c o (a c o h)
theorem Sub.new {M : Mm} {a : Addr} {o : MO} (h : M a = none) : Sub M (put M a o) := fun b u e => by
  rw [put_ne (fun z => by rw [z, h] at e; cases e)]; exact e
theorem Sub.put {M M' : Mm} {a : Addr} {o : MO} (h : Sub M M') : Sub (put M a o) (put M' a o) := fun b u e => by
  unfold L3.put at e ⊢
  split at e
  · rename_i z; rw [if_pos z]; exact e
  · rename_i z; rw [if_neg z]; exact h b u e
theorem Sub.del {M : Mm} {a : Addr} : Sub (del M a) M := fun b u e => by
  unfold L3.del at e
  split at e
  · cases e
  · exact e
theorem Sub.non {M M' : Mm} (h : Sub M M') {a : Addr} (e : M' a = none) : M a = none := by
  cases q : M a with
  | none => rfl
  | some o => rw [h a o q] at e; cases e
def SqR (K : PySem.W.Frag) (H : Hp) (a : Addr) (xs : List V) : Prop :=
  (∃ o, H a = some (.frz o (.lst xs))) ∨
    ∃ (o : Obj) (its : Array Value) (n : Nat), K.lookup a = some o ∧ o.cls = .type "list" ∧ o.dict = none ∧ o.data = .seq its n ∧ its.size ≤ sizeLine ∧ Vals xs its.toList
theorem SqR.sq {K : PySem.W.Frag} {H : Hp} {a : Addr} {xs : List V} (h : SqR K H a xs) : SqL K H a xs := by
  rcases h with ⟨o, h⟩ | h
  · exact .inl (.inr ⟨o, h⟩)
  · exact .inr h
mutual
inductive AV (K : PySem.W.Frag) (H : Hp) (M : Mm) : V → W → Prop
  | non : AV K H M .non .non
  | bl (b : Bool) : AV K H M (.bl b) (.bl b)
  | int (i : Int) : AV K H M (.int i) (.int i)
  | str (x : Str) : AV K H M (.str x) (.str x)
  | ty (n : String) : AV K H M (.ty n) (.ty n)
  | tup {a : Addr} {xs : List V} {ws : List W} : H a = some (.tup xs) → AVs K H M xs ws → AV K H M (.ref a) (.tup ws)
  | sc {a : Addr} {xs : List V} {ws : List W} : SqR K H a xs → AVs K H M xs ws → AV K H M (.ref a) (.sc ws)
  | rl {a : Addr} {xs : List V} {ws : List W} : H a = some (.lst xs) → M a = none → AVs K H M xs ws → AV K H M (.ref a) (.rl ws)
  | ref (a : Addr) : AV K H M (.ref a) (.ref a)
  | dk {a : Addr} {ks : List (Key × V)} {kvs : List (Key × W)} : H a = some (.dK ks) → M a = none → ks.map Prod.fst = kvs.map Prod.fst → AVs K H M (ks.map Prod.snd) (kvs.map Prod.snd) → AV K H M (.ref a) (.dk kvs)
  | dt {a : Addr} {ks : List (List Key × V)} {kvs : List (List Key × W)} : H a = some (.dT ks) → M a = none → ks.map Prod.fst = kvs.map Prod.fst → AVs K H M (ks.map Prod.snd) (kvs.map Prod.snd) → AV K H M (.ref a) (.dt kvs)
inductive AVs (K : PySem.W.Frag) (H : Hp) (M : Mm) : List V → List W → Prop
  | nil : AVs K H M [] []
  | cons {v : V} {vs : List V} {w : W} {ws : List W} : AV K H M v w → AVs K H M vs ws → AVs K H M (v :: vs) (w :: ws)
end
abbrev PKV (K : PySem.W.Frag) (H : Hp) (M : Mm) (κ : Type) : List (κ × V) → List (κ × W) → Prop := Paired fun p q => p.1 = q.1 ∧ AV K H M p.2 q.2
theorem pkv_of {K : PySem.W.Frag} {H : Hp} {M : Mm} {κ : Type} : ∀ {ks : List (κ × V)} {kvs : List (κ × W)}, ks.map Prod.fst = kvs.map Prod.fst → AVs K H M (ks.map Prod.snd) (kvs.map Prod.snd) → PKV K H M κ ks kvs
  | [], [], _, _ => .nil
  | [], _ :: _, e, _ => by simp at e
  | _ :: _, [], e, _ => by simp at e
  | p :: ps, q :: qs, e, h => by
    rw [List.map_cons, List.map_cons] at e h
    rw [List.cons.injEq] at e
    cases h with
    | cons x r => exact .cons ⟨e.1, x⟩ (pkv_of e.2 r)
theorem PKV.keys {K : PySem.W.Frag} {H : Hp} {M : Mm} {κ : Type} {ks : List (κ × V)} {kvs : List (κ × W)} (h : PKV K H M κ ks kvs) : ks.map Prod.fst = kvs.map Prod.fst := by
  induction h with
  | nil => rfl
  | cons r _ ih => rw [List.map_cons, List.map_cons, ih, r.1]
theorem PKV.vals {K : PySem.W.Frag} {H : Hp} {M : Mm} {κ : Type} {ks : List (κ × V)} {kvs : List (κ × W)} (h : PKV K H M κ ks kvs) : AVs K H M (ks.map Prod.snd) (kvs.map Prod.snd) := by
  induction h with
  | nil => exact .nil
  | cons r _ ih => exact .cons r.2 ih
def AO (K : PySem.W.Frag) (H : Hp) (M : Mm) (a : Addr) : MO → Prop
  | .lst ws => ∃ vs, H a = some (.lst vs) ∧ AVs K H M vs ws
  | .dK kvs => ∃ ks, H a = some (.dK ks) ∧ PKV K H M Key ks kvs
  | .dT kvs => ∃ ks, H a = some (.dT ks) ∧ PKV K H M (List Key) ks kvs
  | .fix vs => H a = some (.lst vs)
def AM (K : PySem.W.Frag) (H : Hp) (M : Mm) : Prop := ∀ a o, M a = some o → AO K H M a o
structure Kp (H : Hp) (M : Mm) (H' : Hp) (M' : Mm) : Prop where
  fr : ∀ a o, M a = none → H a = some o → H' a = some o ∧ M' a = none
  dom : ∀ a o, M a = some o → ∃ u, H' a = some u
structure Go (H : Hp) (M : Mm) (H' : Hp) (M' : Mm) : Prop where
  ht : ∀ b xs, H b = some (.tup xs) → H' b = some (.tup xs)
  hf : ∀ b o u, H b = some (.frz o u) → H' b = some (.frz o u)
  hl : ∀ b o, M b = none → H b = some o → H' b = some o ∧ M' b = none
section
variable {K : PySem.W.Frag} {H H' H1 H2 : Hp} {M M' M1 M2 : Mm} {a : Addr}
theorem AO.has {o : MO} (h : AO K H M a o) : ∃ u, H a = some u := by
  cases o with
  | lst ws => obtain ⟨vs, e, _⟩ := h; exact ⟨_, e⟩
  | dK kvs => obtain ⟨ks, e, _⟩ := h; exact ⟨_, e⟩
  | dT kvs => obtain ⟨ks, e, _⟩ := h; exact ⟨_, e⟩
  | fix vs => exact ⟨_, h⟩
theorem AM.nonM (am : AM K H M) (h : H a = none) : M a = none := by
  cases q : M a with
  | none => rfl
  | some o => obtain ⟨u, e⟩ := (am a o q).has; rw [h] at e; cases e
theorem AM.noTup (am : AM K H M) {xs : List V} (h : H a = some (.tup xs)) : M a = none := by
  cases q : M a with
  | none => rfl
  | some o =>
    have := am a o q
    cases o with
    | lst ws => obtain ⟨vs, e, _⟩ := this; rw [h] at e; cases e
    | dK kvs => obtain ⟨ks, e, _⟩ := this; rw [h] at e; cases e
    | dT kvs => obtain ⟨ks, e, _⟩ := this; rw [h] at e; cases e
    | fix vs => have e : H a = some (.lst vs) := this; rw [h] at e; cases e
theorem AM.noFrz (am : AM K H M) {ob : Obj} {u : HO} (h : H a = some (.frz ob u)) : M a = none := by
  cases q : M a with
  | none => rfl
  | some o =>
    have := am a o q
    cases o with
    | lst ws => obtain ⟨vs, e, _⟩ := this; rw [h] at e; cases e
    | dK kvs => obtain ⟨ks, e, _⟩ := this; rw [h] at e; cases e
    | dT kvs => obtain ⟨ks, e, _⟩ := this; rw [h] at e; cases e
    | fix vs => have e : H a = some (.lst vs) := this; rw [h] at e; cases e
theorem Kp.refl (am : AM K H M) : Kp H M H M := ⟨fun a o h e => ⟨e, h⟩, fun a o h => (am a o h).has⟩
theorem Kp.trans (x : Kp H M H1 M1) (y : Kp H1 M1 H2 M2) : Kp H M H2 M2 where
  fr := fun a o h e => by
    obtain ⟨e1, n1⟩ := x.fr a o h e
    exact y.fr a o n1 e1
  dom := fun a o h => by
    obtain ⟨u, e⟩ := x.dom a o h
    cases q : M1 a with
    | none => exact ⟨u, (y.fr a u q e).1⟩
    | some o1 => exact y.dom a o1 q
theorem Kp.sub (x : Kp H M H1 M1) (h : Sub M2 M1) : Kp H M H1 M2 where
  fr := fun a o n e => ⟨(x.fr a o n e).1, h.non (x.fr a o n e).2⟩
  dom := x.dom
theorem Kp.go (am : AM K H M) (k : Kp H M H' M') : Go H M H' M' := ⟨fun b xs e => (k.fr b _ (am.noTup e) e).1, fun b o u e => (k.fr b _ (am.noFrz e) e).1, k.fr⟩
theorem Go.sub (h : Sub M' M) : Go H M H M' := ⟨fun _ _ e => e, fun _ _ _ e => e, fun b o n e => ⟨e, h.non n⟩⟩
mutual
theorem AV.go (g : Go H M H' M') : ∀ {v : V} {w : W}, AV K H M v w → AV K H' M' v w
  | _, _, .non => .non
  | _, _, .bl b => .bl b
  | _, _, .int i => .int i
  | _, _, .str x => .str x
  | _, _, .ty n => .ty n
  | _, _, .tup e r => .tup (g.ht _ _ e) (AVs.go g r)
  | _, _, .sc e r => .sc (e.elim (fun ⟨o, q⟩ => .inl ⟨o, g.hf _ _ _ q⟩) .inr) (AVs.go g r)
  | _, _, .rl e n r => .rl (g.hl _ _ n e).1 (g.hl _ _ n e).2 (AVs.go g r)
  | _, _, .ref a => .ref a
  | _, _, .dk e n ke r => .dk (g.hl _ _ n e).1 (g.hl _ _ n e).2 ke (AVs.go g r)
  | _, _, .dt e n ke r => .dt (g.hl _ _ n e).1 (g.hl _ _ n e).2 ke (AVs.go g r)
theorem AVs.go (g : Go H M H' M') : ∀ {vs : List V} {ws : List W}, AVs K H M vs ws → AVs K H' M' vs ws
  | _, _, .nil => .nil
  | _, _, .cons x r => .cons (AV.go g x) (AVs.go g r)
end
theorem PKV.go {κ : Type} {ks : List (κ × V)} {kvs : List (κ × W)} (g : Go H M H' M') (h : PKV K H M κ ks kvs) : PKV K H' M' κ ks kvs := Paired.mapP h fun p q z => ⟨z.1, z.2.go g⟩
theorem AO.go {o : MO} (g : Go H M H' M') (e : H' a = H a) (h : AO K H M a o) : AO K H' M' a o := by
  cases o with
  | lst ws => obtain ⟨vs, e1, r⟩ := h; exact ⟨vs, by rw [e]; exact e1, r.go g⟩
  | dK kvs => obtain ⟨vs, e1, r⟩ := h; exact ⟨vs, by rw [e]; exact e1, r.go g⟩
  | dT kvs => obtain ⟨vs, e1, r⟩ := h; exact ⟨vs, by rw [e]; exact e1, r.go g⟩
  | fix vs => exact e.trans h
theorem AM.sub (am : AM K H M') (h : Sub M M') : AM K H M := fun a o e => (am a o (h a o e)).go (Go.sub h) rfl
theorem AV.sub (h : Sub M' M) {v : V} {w : W} (x : AV K H M v w) : AV K H M' v w := x.go (Go.sub h)
theorem AVs.sub (h : Sub M' M) {v : List V} {w : List W} (x : AVs K H M v w) : AVs K H M' v w := x.go (Go.sub h)
theorem AV.kp (am : AM K H M) (k : Kp H M H' M') {v : V} {w : W} (h : AV K H M v w) : AV K H' M' v w := h.go (k.go am)
theorem AVs.kp (am : AM K H M) (k : Kp H M H' M') {vs : List V} {ws : List W} (h : AVs K H M vs ws) : AVs K H' M' vs ws := h.go (k.go am)
theorem AVs.length : ∀ {vs : List V} {ws : List W}, AVs K H M vs ws → vs.length = ws.length
  | _, _, .nil => rfl
  | _, _, .cons _ r => by simp [AVs.length r]
theorem AVs.append : ∀ {vs us : List V} {ws zs : List W}, AVs K H M vs ws → AVs K H M us zs → AVs K H M (vs ++ us) (ws ++ zs)
  | _, _, _, _, .nil, s => s
  | _, _, _, _, .cons x r, s => .cons x (AVs.append r s)
theorem AVs.getW : ∀ {vs : List V} {ws : List W} {i : Nat} {w : W}, AVs K H M vs ws → ws[i]? = some w → ∃ v, vs[i]? = some v ∧ AV K H M v w
  | _, _, _, _, .nil, e => by simp at e
  | _, _, 0, _, .cons x _, e => by simp at e; subst e; exact ⟨_, rfl, x⟩
  | _, _, i + 1, w, .cons _ r, e => by
    obtain ⟨v, h1, h2⟩ := AVs.getW (i := i) (w := w) r (by simpa using e)
    exact ⟨v, by simpa using h1, h2⟩
theorem AVs.getV : ∀ {vs : List V} {ws : List W} {i : Nat} {v : V}, AVs K H M vs ws → vs[i]? = some v → ∃ w, ws[i]? = some w ∧ AV K H M v w
  | _, _, _, _, .nil, e => by simp at e
  | _, _, 0, _, .cons x _, e => by simp at e; subst e; exact ⟨_, rfl, x⟩
  | _, _, i + 1, v, .cons _ r, e => by
    obtain ⟨w, h1, h2⟩ := AVs.getV (i := i) (v := v) r (by simpa using e)
    exact ⟨w, by simpa using h1, h2⟩
theorem AVs.set {v : V} {w : W} (x : AV K H M v w) : ∀ {vs : List V} {ws : List W} (i : Nat), AVs K H M vs ws → AVs K H M (vs.set i v) (ws.set i w)
  | _, _, _, .nil => .nil
  | _, _, 0, .cons _ t => .cons x t
  | _, _, i + 1, .cons q t => .cons q (AVs.set x i t)
theorem AVs.take : ∀ {vs : List V} {ws : List W} (n : Nat), AVs K H M vs ws → AVs K H M (vs.take n) (ws.take n)
  | _, _, 0, _ => by simp; exact .nil
  | _, _, _ + 1, .nil => .nil
  | _, _, n + 1, .cons x t => .cons x (AVs.take n t)
theorem AVs.drop : ∀ {vs : List V} {ws : List W} (n : Nat), AVs K H M vs ws → AVs K H M (vs.drop n) (ws.drop n)
  | _, _, 0, h => h
  | _, _, _ + 1, .nil => .nil
  | _, _, n + 1, .cons _ t => AVs.drop n t
theorem AVs.reverse {vs : List V} {ws : List W} (h : AVs K H M vs ws) : AVs K H M vs.reverse ws.reverse := by
  induction vs generalizing ws with
  | nil => cases h; exact .nil
  | cons v vs ih =>
    cases h with
    | cons x r => rw [List.reverse_cons, List.reverse_cons]; exact (ih r).append (.cons x .nil)
theorem AVs.dropLast {vs : List V} {ws : List W} (h : AVs K H M vs ws) : AVs K H M vs.dropLast ws.dropLast := by
  rw [List.dropLast_eq_take, List.dropLast_eq_take, h.length]; exact h.take _
theorem AVs.eraseIdx : ∀ {vs : List V} {ws : List W} (i : Nat), AVs K H M vs ws → AVs K H M (vs.eraseIdx i) (ws.eraseIdx i)
  | _, _, _, .nil => .nil
  | _, _, 0, .cons _ t => t
  | _, _, i + 1, .cons q t => .cons q (AVs.eraseIdx i t)
theorem AVs.flatRep {vs : List V} {ws : List W} (h : AVs K H M vs ws) : ∀ n : Nat, AVs K H M (List.replicate n vs).flatten (List.replicate n ws).flatten
  | 0 => .nil
  | n + 1 => by
    rw [List.replicate_succ, List.replicate_succ, List.flatten_cons, List.flatten_cons]
    exact h.append (AVs.flatRep h n)
theorem AVs.int (is : List Int) : AVs K H M (is.map V.int) (is.map W.int) := by
  induction is with
  | nil => exact .nil
  | cons i r ih => exact .cons (.int i) ih
theorem go_new {p : Addr} {u : HO} (hp : H p = none) (hs : ∀ b, b ≠ p → M b = none → M' b = none) : Go H M (upd H p u) M' :=
  ⟨fun b xs e => by rw [upd_ne (ne_of_none e hp)]; exact e, fun b o x e => by rw [upd_ne (ne_of_none e hp)]; exact e, fun b o n e => ⟨by rw [upd_ne (ne_of_none e hp)]; exact e, hs b (ne_of_none e hp) n⟩⟩
theorem go_put {p : Addr} {o : MO} {u : HO} (hp : H p = none) : Go H M (upd H p u) (put M p o) := go_new hp fun b ne n => by rw [put_ne ne]; exact n
theorem go_same {p : Addr} {u : HO} (hp : H p = none) : Go H M (upd H p u) M := go_new hp fun b ne n => n
theorem AM.laid {p : Addr} {o : MO} {u : HO} (am : AM K H M) (hp : H p = none) (h : AO K (upd H p u) (put M p o) p o) : AM K (upd H p u) (put M p o) ∧ Kp H M (upd H p u) (put M p o) := by
  refine ⟨fun a x e => ?_, fun a x h e => ⟨?_, ?_⟩, fun a x h => ?_⟩
  · by_cases ha : a = p
    · subst ha; rw [put_same] at e; cases e; exact h
    · rw [put_ne ha] at e
      exact (am a x e).go (go_put hp) (upd_ne ha)
  · rw [upd_ne (ne_of_none e hp)]; exact e
  · rw [put_ne (ne_of_none e hp)]; exact h
  · obtain ⟨y, e⟩ := (am a x h).has
    exact ⟨y, by rw [upd_ne (ne_of_none e hp)]; exact e⟩
theorem go_re {p : Addr} {o u : MO} : Go H (put M p o) H (put M p u) := ⟨fun _ _ e => e, fun _ _ _ e => e, fun b x n e => ⟨e, by
  have ne : b ≠ p := fun z => by rw [z, put_same] at n; cases n
  rw [put_ne ne] at n ⊢; exact n⟩⟩
theorem AM.tup {p : Addr} {u : HO} (am : AM K H M) (hp : H p = none) : AM K (upd H p u) M ∧ Kp H M (upd H p u) M := by
  refine ⟨fun a x e => ?_, fun a x h e => ⟨?_, h⟩, fun a x h => ?_⟩
  · have ne : a ≠ p := fun z => by rw [z, am.nonM hp] at e; cases e
    exact (am a x e).go (go_same hp) (upd_ne ne)
  · rw [upd_ne (ne_of_none e hp)]; exact e
  · obtain ⟨y, e⟩ := (am a x h).has
    exact ⟨y, by rw [upd_ne (ne_of_none e hp)]; exact e⟩
theorem go_wr {l : Addr} {o0 o : MO} {u : HO} (am : AM K H M) (hl : M l = some o0) : Go H M (upd H l u) (put M l o) :=
  ⟨fun b xs e => by rw [upd_ne (fun z => by rw [← z, am.noTup e] at hl; cases hl)]; exact e, fun b ob x e => by rw [upd_ne (fun z => by rw [← z, am.noFrz e] at hl; cases hl)]; exact e,
   fun b x n e => by
    have ne : b ≠ l := fun z => by rw [← z, n] at hl; cases hl
    rw [upd_ne ne, put_ne ne]; exact ⟨e, n⟩⟩
theorem AM.write {l : Addr} {o0 o : MO} {u : HO} (am : AM K H M) (hl : M l = some o0) (h : AO K (upd H l u) (put M l o) l o) : AM K (upd H l u) (put M l o) ∧ Kp H M (upd H l u) (put M l o) := by
  refine ⟨fun a x e => ?_, fun a x h e => ?_, fun a x h => ?_⟩
  · by_cases ha : a = l
    · subst ha; rw [put_same] at e; cases e; exact h
    · rw [put_ne ha] at e
      exact (am a x e).go (go_wr am hl) (upd_ne ha)
  · have : a ≠ l := fun z => by rw [z, hl] at h; cases h
    rw [upd_ne this, put_ne this]; exact ⟨e, h⟩
  · by_cases ha : a = l
    · subst ha; exact ⟨u, upd_same⟩
    · obtain ⟨y, e⟩ := (am a x h).has
      exact ⟨y, by rw [upd_ne ha]; exact e⟩
theorem AM.lst (am : AM K H M) {ws : List W} (h : M a = some (.lst ws)) : ∃ vs, H a = some (.lst vs) ∧ AVs K H M vs ws := am a _ h
theorem AVs.newT {p : Addr} {u : HO} {vs : List V} {ws : List W} (hp : H p = none) (h : AVs K H M vs ws) : AVs K (upd H p u) M vs ws := h.go (go_same hp)
theorem AVs.newL {p : Addr} {u : HO} {o : MO} {vs : List V} {ws : List W} (hp : H p = none) (h : AVs K H M vs ws) : AVs K (upd H p u) (put M p o) vs ws := h.go (go_put hp)
theorem AVs.wr {l : Addr} {o0 o : MO} {u : HO} {vs : List V} {ws : List W} (am : AM K H M) (hl : M l = some o0) (h : AVs K H M vs ws) : AVs K (upd H l u) (put M l o) vs ws := h.go (go_wr am hl)
theorem AV.wr {l : Addr} {o0 o : MO} {u : HO} {v : V} {w : W} (am : AM K H M) (hl : M l = some o0) (h : AV K H M v w) : AV K (upd H l u) (put M l o) v w := h.go (go_wr am hl)
end
abbrev S3 := List (Option W)
abbrev K3 := W → Mm → Prop
abbrev TE3 := S3 → Mm → K3 → Prop
abbrev TT3 := S3 → Mm → (Bool → Mm → Prop) → Prop
abbrev TA3 := S3 → Mm → (List W → Mm → Prop) → Prop
abbrev R3 := W → W → Mm → K3 → Prop
structure D3 where
  nx : S3 → Mm → Prop
  rt : K3
  bk : S3 → Mm → Prop := fun _ _ => False
  ct : S3 → Mm → Prop := fun _ _ => False
abbrev TS3 := D3 → S3 → Mm → Prop
def AS (K : PySem.W.Frag) (H : Hp) (M : Mm) : SV → S3 → Prop := Paired fun ov ow => ∀ w, ow = some w → ∃ v, ov = some v ∧ AV K H M v w
section
variable {K : PySem.W.Frag} {H H' : Hp} {M M' : Mm}
theorem AS.kp (am : AM K H M) (k : Kp H M H' M') {σ : SV} {τ : S3} (h : AS K H M σ τ) : AS K H' M' σ τ :=
  Paired.mapP h fun ov ow z w e => by obtain ⟨v, e1, r⟩ := z w e; exact ⟨v, e1, r.kp am k⟩
theorem AS.sub {M' : Mm} (g : Sub M' M) {σ : SV} {τ : S3} (h : AS K H M σ τ) : AS K H M' σ τ :=
  Paired.mapP h fun ov ow z w e => by obtain ⟨v, e1, r⟩ := z w e; exact ⟨v, e1, r.sub g⟩
theorem AS.get {w : W} : ∀ {σ : SV} {τ : S3} {i : Nat}, AS K H M σ τ → τ[i]? = some (some w) → ∃ v, σ[i]? = some (some v) ∧ AV K H M v w
  | _, _, _, .nil, e => by simp at e
  | _, _, 0, .cons r _, e => by
    simp at e
    obtain ⟨v, h1, h2⟩ := r w e
    exact ⟨v, by rw [h1]; rfl, h2⟩
  | _, _, i + 1, .cons _ t, e => by
    obtain ⟨v, h1, h2⟩ := AS.get (i := i) t (by simpa using e)
    exact ⟨v, by simpa using h1, h2⟩
theorem AS.set {v : V} {w : W} (r : AV K H M v w) : ∀ {σ : SV} {τ : S3} (i : Nat), AS K H M σ τ → AS K H M (σ.set i (some v)) (τ.set i (some w))
  | _, _, _, .nil => .nil
  | _, _, 0, .cons _ t => .cons (fun x e => ⟨v, rfl, by cases e; exact r⟩) t
  | _, _, i + 1, .cons q t => .cons q (AS.set r i t)
theorem AS.nones : ∀ n : Nat, AS K H M (List.replicate n none) (List.replicate n none)
  | 0 => .nil
  | n + 1 => .cons (fun _ e => nomatch e) (AS.nones n)
theorem AS.start {vs : List V} {ws : List W} (h : AVs K H M vs ws) (n : Nat) : AS K H M (vs.map some ++ List.replicate n none) (ws.map some ++ List.replicate n none) := by
  induction vs generalizing ws with
  | nil => cases h; exact AS.nones n
  | cons v vs ih =>
    cases h with
    | cons x r => exact .cons (fun w e => ⟨v, rfl, by cases e; exact x⟩) (ih r)
end
def Up (K : PySem.W.Frag) (H : Hp) (M : Mm) (R : K3) (Q : VK) : Prop := ∀ v H' w M', Kp H M H' M' → AM K H' M' → AV K H' M' v w → R w M' → Q v H'
def up (K : PySem.W.Frag) (t : TE3) : TE := fun σ H Q => ∃ τ M R, AS K H M σ τ ∧ AM K H M ∧ t τ M R ∧ Up K H M R Q
def upT (K : PySem.W.Frag) (t : TT3) : TT := fun σ H Q => ∃ (τ : S3) (M : Mm) (R : Bool → Mm → Prop), AS K H M σ τ ∧ AM K H M ∧ t τ M R ∧ ∀ b H' M', Kp H M H' M' → AM K H' M' → R b M' → Q b H'
def upA (K : PySem.W.Frag) (t : TA3) : TA := fun σ H Q => ∃ (τ : S3) (M : Mm) (R : List W → Mm → Prop), AS K H M σ τ ∧ AM K H M ∧ t τ M R ∧ ∀ vs H' ws M', Kp H M H' M' → AM K H' M' → AVs K H' M' vs ws → R ws M' → Q vs H'
def UpS (K : PySem.W.Frag) (H : Hp) (M : Mm) (R : S3 → Mm → Prop) (Q : SV → Hp → Prop) : Prop := ∀ σ' H' τ' M', Kp H M H' M' → AM K H' M' → AS K H' M' σ' τ' → R τ' M' → Q σ' H'
structure UpD (K : PySem.W.Frag) (H : Hp) (M : Mm) (D : D3) (E : Ends) : Prop where
  nx : UpS K H M D.nx E.nx
  rt : Up K H M D.rt E.rt
  bk : UpS K H M D.bk E.bk
  ct : UpS K H M D.ct E.ct
def upS (K : PySem.W.Frag) (t : TS3) : TS := fun E σ H => ∃ τ M D, AS K H M σ τ ∧ AM K H M ∧ t D τ M ∧ UpD K H M D E
section
variable {K : PySem.W.Frag} {H H1 : Hp} {M M1 : Mm}
theorem Up.kp {R : K3} {Q : VK} (h : Up K H M R Q) (k : Kp H M H1 M1) : Up K H1 M1 R Q := fun v H' w M' k' am av r => h v H' w M' (k.trans k') am av r
theorem UpS.kp {R : S3 → Mm → Prop} {Q : SV → Hp → Prop} (h : UpS K H M R Q) (k : Kp H M H1 M1) : UpS K H1 M1 R Q := fun v H' w M' k' am av r => h v H' w M' (k.trans k') am av r
theorem UpD.kp {D : D3} {E : Ends} (h : UpD K H M D E) (k : Kp H M H1 M1) : UpD K H1 M1 D E := ⟨h.nx.kp k, h.rt.kp k, h.bk.kp k, h.ct.kp k⟩
theorem Up.at {R : K3} {Q : VK} (h : Up K H M R Q) (am : AM K H M) {v : V} {w : W} (av : AV K H M v w) (r : R w M) : Q v H := h v H w M (Kp.refl am) am av r
end
def frz : W → Mm → K3 → Prop
  | .ref p, M, R => (∃ ws, M p = some (.lst ws) ∧ R (.rl ws) (del M p)) ∨ (∃ kvs, M p = some (.dK kvs) ∧ R (.dk kvs) (del M p)) ∨ (∃ kvs, M p = some (.dT kvs) ∧ R (.dt kvs) (del M p)) ∨ R (.ref p) M
  | w, M, R => R w M
theorem Up.frz {K : PySem.W.Frag} {H : Hp} {M : Mm} {R : K3} {Q : VK} (h : Up K H M R Q) : Up K H M (fun w M' => frz w M' R) Q := fun v H' w M' k am av r => by
  have av' := av
  cases av <;> first | exact h _ _ _ _ k am av' r | skip
  case ref p =>
    rcases r with ⟨ws, e, r⟩ | ⟨kvs, e, r⟩ | ⟨kvs, e, r⟩ | r
    · obtain ⟨vs, f, q⟩ := am.lst e
      exact h _ _ _ _ (k.sub Sub.del) (am.sub Sub.del) (.rl f del_same (q.sub Sub.del)) r
    · obtain ⟨ks, f, q⟩ := am _ _ e
      exact h _ _ _ _ (k.sub Sub.del) (am.sub Sub.del) (.dk f del_same q.keys (q.vals.sub Sub.del)) r
    · obtain ⟨ks, f, q⟩ := am _ _ e
      exact h _ _ _ _ (k.sub Sub.del) (am.sub Sub.del) (.dt f del_same q.keys (q.vals.sub Sub.del)) r
    · exact h _ _ _ _ k am (.ref p) r
theorem frz_new {M : Mm} {p : Addr} {ws : List W} {R : K3} (hp : M p = none) (r : R (.rl ws) M) : frz (.ref p) (put M p (.lst ws)) R := .inl ⟨ws, put_same, by rw [del_put hp]; exact r⟩
theorem frz_newK {M : Mm} {p : Addr} {kvs : List (Key × W)} {R : K3} (hp : M p = none) (r : R (.dk kvs) M) : frz (.ref p) (put M p (.dK kvs)) R := .inr (.inl ⟨kvs, put_same, by rw [del_put hp]; exact r⟩)
def New (ws : List W) (M : Mm) (R : K3) : Prop := ∀ p, M p = none → R (.ref p) (put M p (.lst ws))
def NewK (kvs : List (Key × W)) (M : Mm) (R : K3) : Prop := ∀ p, M p = none → R (.ref p) (put M p (.dK kvs))
def NewT (kvs : List (List Key × W)) (M : Mm) (R : K3) : Prop := ∀ p, M p = none → R (.ref p) (put M p (.dT kvs))
theorem New.frz {M : Mm} {ws : List W} {R : K3} (r : R (.rl ws) M) : New ws M fun w M' => L3.frz w M' R := fun p hp => frz_new hp r
theorem NewK.frz {M : Mm} {kvs : List (Key × W)} {R : K3} (r : R (.dk kvs) M) : NewK kvs M fun w M' => L3.frz w M' R := fun p hp => frz_newK hp r
def vFrz (t : TE3) : TE3 := fun τ M R => t τ M fun w M' => frz w M' R
end L3
namespace L2
section
variable {X : Cx}
theorem PE.weak {e : PySem.Expr} {t t' : TE} (h : PE X e t) (k : ∀ σ H Q, t' σ H Q → t σ H Q) : PE X e t' := fun pins s σ H Q I q => h pins s σ H Q I (k σ H Q q)
theorem PT.weak {e : PySem.Expr} {t t' : TT} (h : PT X e t) (k : ∀ σ H Q, t' σ H Q → t σ H Q) : PT X e t' := fun pins s σ H Q I q => h pins s σ H Q I (k σ H Q q)
theorem PW.weak {e : PySem.Expr} {t t' : TT} (h : PW X e t) (k : ∀ σ H Q, t' σ H Q → t σ H Q) : PW X e t' := fun wh pins s σ H Q I q => h wh pins s σ H Q I (k σ H Q q)
theorem PA.weak {es : List PySem.Expr} {t t' : TA} (h : PA X es t) (k : ∀ σ H Q, t' σ H Q → t σ H Q) : PA X es t' := fun pos pins s σ H Q I q => h pos pins s σ H Q I (k σ H Q q)
theorem PS.weak {st : PySem.Stmt} {t t' : TS} (h : PS X st t) (k : ∀ D σ H, t' D σ H → t D σ H) : PS X st t' := fun pins s σ H D I q => h pins s σ H D I (k D σ H q)
theorem PSs.weak {st : List PySem.Stmt} {t t' : TS} (h : PSs X st t) (k : ∀ D σ H, t' D σ H → t D σ H) : PSs X st t' := fun pins s σ H D I q => h pins s σ H D I (k D σ H q)
theorem PO.weak {e : Option PySem.Expr} {t t' : TO} (h : PO X e t) (k : ∀ σ H Q, t' σ H Q → t σ H Q) : PO X e t' := fun pins s σ H Q I q => h pins s σ H Q I (k σ H Q q)
theorem PIfs.weak {es : List PySem.Expr} {t t' : TT} (h : PIfs X es t) (k : ∀ σ H Q, t' σ H Q → t σ H Q) : PIfs X es t' := fun pins s σ H Q I q => h pins s σ H Q I (k σ H Q q)
end
end L2
set_option Elab.async false
set_option linter.all false
set_option maxRecDepth 100000
set_option maxHeartbeats 4000000
namespace L3
open PySem PySem.Spec PyProof.Rows L2
abbrev E3 (X : Cx) (e : Expr) (t : TE3) : Prop := PE X e (up X.K t)
abbrev T3 (X : Cx) (e : Expr) (t : TT3) : Prop := PT X e (upT X.K t)
abbrev W3 (X : Cx) (e : Expr) (t : TT3) : Prop := PW X e (upT X.K t)
abbrev A3 (X : Cx) (es : List Expr) (t : TA3) : Prop := PA X es (upA X.K t)
def upO (K : PySem.W.Frag) (r : R3) : R2 := fun x y H Q => ∃ wx wy M R, AM K H M ∧ AV K H M x wx ∧ AV K H M y wy ∧ r wx wy M R ∧ Up K H M R Q
def upC (K : PySem.W.Frag) (r : List W → Mm → K3 → Prop) : List V → Hp → VK → Prop := fun xs H Q => ∃ ws M R, AM K H M ∧ AVs K H M xs ws ∧ r ws M R ∧ Up K H M R Q
def upM (K : PySem.W.Frag) (r : W → List W → Mm → K3 → Prop) : V → List V → Hp → VK → Prop := fun x xs H Q => ∃ wx ws M R, AM K H M ∧ AV K H M x wx ∧ AVs K H M xs ws ∧ r wx ws M R ∧ Up K H M R Q
section
variable {X : Cx} {a b c : Expr} {ta tb tc : TE3} {pos : Pos}
def vVar (i : Nat) : TE3 := fun τ M R => ∃ w, τ[i]? = some (some w) ∧ R w M
def vC (w : W) : TE3 := fun _ M R => R w M
theorem v (i : Nat) {x : Str} {pos : Pos} (hN : X.N[i]? = some x := by rfl) (hv : Vis X.env.scope x := by first | exact Or.inl rfl | exact Or.inr (Or.inl rfl) | exact Or.inr (Or.inr rfl)) (hd : (x == ("__debug__" : Str)) = false := by decide)
    (hcd : (x == ("__classdict__" : Str)) = false := by decide) : E3 X (.Name x pos) (vVar i) := (pe_var hN hv hd hcd).weak fun σ H Q ⟨τ, M, R, as, am, ⟨w, e, r⟩, k⟩ => by
  obtain ⟨v, e1, av⟩ := as.get e
  exact ⟨v, e1, k.at am av r⟩
theorem v_int {i j pos} : E3 X (.Constant (.int i) j pos) (vC (.int i)) := pe_int.weak fun σ H Q ⟨τ, M, R, as, am, r, k⟩ => k.at am (.int i) r
theorem v_bl {b j pos} : E3 X (.Constant (.bool b) j pos) (vC (.bl b)) := pe_bl.weak fun σ H Q ⟨τ, M, R, as, am, r, k⟩ => k.at am (.bl b) r
theorem v_str {x j pos} : E3 X (.Constant (.str x) j pos) (vC (.str x)) := pe_str.weak fun σ H Q ⟨τ, M, R, as, am, r, k⟩ => k.at am (.str x) r
theorem v_glob {x : Str} {y : V} {w : W} {u : Value} {pos : Pos} (hg : Gl X x) (hm : X.mg x = some u) (r : RelV y u) (hw : ∀ H M, AV X.K H M y w) (hd : (x == ("__debug__" : Str)) = false := by decide) : E3 X (.Name x pos) (vC w) :=
  (pe_glob hg hm r hd).weak fun σ H Q ⟨τ, M, R, as, am, r, k⟩ => k.at am (hw H M) r
theorem v_bltn {x : Str} {y : V} {w : W} {u : Value} {pos : Pos} (hg : Gl X x) (hm : X.mg x = none) (hv : bootBuiltins x = some u) (r : RelV y u) (hw : ∀ H M, AV X.K H M y w) (hn : x ≠ "__name__" := by decide) (hd : (x == ("__debug__" : Str)) = false := by decide) : E3 X (.Name x pos) (vC w) :=
  (pe_bltn hg hm hv r hn hd).weak fun σ H Q ⟨τ, M, R, as, am, r, k⟩ => k.at am (hw H M) r
theorem v_frz (ha : E3 X a ta) : E3 X a (vFrz ta) := ha.weak fun σ H Q ⟨τ, M, R, as, am, h, k⟩ => ⟨τ, M, _, as, am, h, k.frz⟩
def vOp (r : R3) (ta tb : TE3) : TE3 := fun τ M R => ta τ M fun x M1 => tb τ M1 fun y M2 => r x y M2 R
theorem vOp_up {K : PySem.W.Frag} {r : R3} {σ : SV} {H : Hp} {Q : VK} (h : up K (vOp r ta tb) σ H Q) : tOp (upO K r) (up K ta) (up K tb) σ H Q := by
  obtain ⟨τ, M, R, as, am, h, k⟩ := h
  refine ⟨τ, M, _, as, am, h, fun x H1 wx M1 k1 am1 ax h1 => ⟨τ, M1, _, as.kp am k1, am1, h1, fun y H2 wy M2 k2 am2 ay h2 => ?_⟩⟩
  exact ⟨wx, wy, M2, R, am2, ax.kp am1 k2, ay, h2, (k.kp k1).kp k2⟩
theorem v_op {op : Operator} {r : R3} (ho : OpR X (binaryOp op) (upO X.K r)) (ha : E3 X a ta) (hb : E3 X b tb) : E3 X (.BinOp a op b pos) (vOp r ta tb) := (pe_op ho ha hb).weak fun _ _ _ h => vOp_up h
theorem v_cmp {op : CmpOp} {r : R3} (ho : OpR X (compareOp op) (upO X.K r)) (ha : E3 X a ta) (hb : E3 X b tb) (hm : behindInMarks op b = false) : E3 X (.Compare a [op] [b] pos) (vOp r ta tb) := (pe_cmpR ho ha hb hm).weak fun _ _ _ h => vOp_up h
def vTest (t : TE3) : TT3 := fun τ M Q => t τ M fun w M' => ∃ k, w = .bl k ∧ Q k M'
theorem AV.bl_inv {K : PySem.W.Frag} {H : Hp} {M : Mm} {v : V} {k : Bool} (h : AV K H M v (.bl k)) : v = .bl k := by cases h; rfl
theorem t_cmp {op : CmpOp} {r : R3} (ho : OpR X (compareOp op) (upO X.K r)) (ha : E3 X a ta) (hb : E3 X b tb) (hm : behindInMarks op b = false) : T3 X (.Compare a [op] [b] pos) (vTest (vOp r ta tb)) :=
  (pt_cmpR ho ha hb hm).weak fun σ H Q ⟨τ, M, R, as, am, h, k⟩ => vOp_up ⟨τ, M, _, as, am, h, fun v H' w M' k' am' av ⟨c, e, r⟩ => by
    subst e
    exact ⟨c, av.bl_inv, k c H' M' k' am' r⟩⟩
def vUn (r : W → Mm → K3 → Prop) (ta : TE3) : TE3 := fun τ M R => ta τ M fun x M1 => r x M1 R
def vTru : W → Mm → (Bool → Mm → Prop) → Prop
  | .non, M, Q => Q false M
  | .bl b, M, Q => Q b M
  | .int i, M, Q => Q (i != 0) M
  | .str y, M, Q => y.length ≤ sizeLine ∧ Q ((y.length : Int) != 0) M
  | .tup ws, M, Q => Q (!ws.isEmpty) M
  | .rl ws, M, Q => Q (!ws.isEmpty) M
  | .sc ws, M, Q => Q (!ws.isEmpty) M
  | .dk kvs, M, Q => Q (!kvs.isEmpty) M
  | .ref p, M, Q => (∃ ws, M p = some (.lst ws) ∧ Q (!ws.isEmpty) M) ∨ ∃ kvs, M p = some (.dK kvs) ∧ Q (!kvs.isEmpty) M
  | _, _, _ => False
def vTruth (t : TE3) : TT3 := fun τ M Q => t τ M fun w M' => vTru w M' Q
theorem AVs.empty {K : PySem.W.Frag} {H : Hp} {M : Mm} {vs : List V} {ws : List W} (h : AVs K H M vs ws) : (!ws.isEmpty) = !vs.isEmpty := by cases h <;> rfl
theorem t_val (ha : E3 X a ta) (he : ∀ whole, isTrue a X.env whole = (do let v ← whole; standAt a.pos; holding [v] (truthy v)) := by intro _; rfl) : T3 X a (vTruth ta) :=
  (pt_truth ha he).weak fun σ H Q ⟨τ, M, R, as, am, h, k⟩ => ⟨τ, M, _, as, am, h, fun v H' w M' k' am' av r => by
    cases av with
    | non => exact ⟨false, rfl, k _ _ _ k' am' r⟩
    | bl b => exact ⟨b, rfl, k _ _ _ k' am' r⟩
    | int i => exact ⟨_, rfl, k _ _ _ k' am' r⟩
    | str y => exact ⟨_, ⟨r.1, rfl⟩, k _ _ _ k' am' r.2⟩
    | ty n => exact (show False from r).elim
    | tup e q => exact ⟨_, .inr (.inl ⟨_, SqT.of e, q.empty⟩), k _ _ _ k' am' r⟩
    | rl e n q => exact ⟨_, .inl ⟨_, SqL.of e, q.empty⟩, k _ _ _ k' am' r⟩
    | sc e q => exact ⟨_, .inl ⟨_, e.sq, q.empty⟩, k _ _ _ k' am' r⟩
    | @dk a ks kvs e n ke q => exact ⟨!kvs.isEmpty, .inr (.inr ⟨_, e, by have := pkv_of ke q; cases this <;> rfl⟩), k _ _ _ k' am' r⟩
    | dt e n ke q => exact (show False from r).elim
    | ref p =>
      rcases r with ⟨ws, e, r⟩ | ⟨kvs, e, r⟩
      · obtain ⟨vs, e1, q⟩ := am'.lst e
        exact ⟨_, .inl ⟨_, SqL.of e1, q.empty⟩, k _ _ _ k' am' r⟩
      · obtain ⟨ks, e1, q⟩ := am' _ _ e
        exact ⟨!kvs.isEmpty, .inr (.inr ⟨_, e1, by cases q <;> rfl⟩), k _ _ _ k' am' r⟩⟩
def vAnd (t u : TT3) : TT3 := fun τ M Q => t τ M fun c M1 => if c = true then u τ M1 Q else Q false M1
def vOr (t u : TT3) : TT3 := fun τ M Q => t τ M fun c M1 => if c = true then Q true M1 else u τ M1 Q
def vNot (t : TT3) : TT3 := fun τ M Q => t τ M fun c M1 => Q (!c) M1
variable {tA tB' : TT3} {rest : List Expr}
theorem t_and1 (ha : T3 X a tA) : W3 X (.BoolOp .And [a] pos) tA := pw_and1 ha
theorem t_or1 (ha : T3 X a tA) : W3 X (.BoolOp .Or [a] pos) tA := pw_or1 ha
theorem t_and (ha : T3 X a tA) (hb : W3 X (.BoolOp .And (b :: rest) pos) tB') : W3 X (.BoolOp .And (a :: b :: rest) pos) (vAnd tA tB') :=
  (pw_and ha hb).weak fun σ H Q ⟨τ, M, R, as, am, h, k⟩ => ⟨τ, M, _, as, am, h, fun c H1 M1 k1 am1 h1 => by
    cases c with
    | true => exact ⟨τ, M1, R, as.kp am k1, am1, h1, fun b H' M' k' am' r => k b H' M' (k1.trans k') am' r⟩
    | false => exact k false H1 M1 k1 am1 h1⟩
theorem t_or (ha : T3 X a tA) (hb : W3 X (.BoolOp .Or (b :: rest) pos) tB') : W3 X (.BoolOp .Or (a :: b :: rest) pos) (vOr tA tB') :=
  (pw_or ha hb).weak fun σ H Q ⟨τ, M, R, as, am, h, k⟩ => ⟨τ, M, _, as, am, h, fun c H1 M1 k1 am1 h1 => by
    cases c with
    | true => exact k true H1 M1 k1 am1 h1
    | false => exact ⟨τ, M1, R, as.kp am k1, am1, h1, fun b H' M' k' am' r => k b H' M' (k1.trans k') am' r⟩⟩
theorem t_not (ha : T3 X a tA) : T3 X (.UnaryOp .Not a pos) (vNot tA) :=
  (pt_not ha).weak fun σ H Q ⟨τ, M, R, as, am, h, k⟩ => ⟨τ, M, _, as, am, h, fun c H1 M1 k1 am1 h1 => k (!c) H1 M1 k1 am1 h1⟩
def vAndV (ta tb : TE3) : TE3 := fun τ M R => ta τ M fun x M1 => ∃ c, x = .bl c ∧ if c = true then tb τ M1 R else R (.bl false) M1
def vOrV (ta tb : TE3) : TE3 := fun τ M R => ta τ M fun x M1 => ∃ c, x = .bl c ∧ if c = true then R (.bl true) M1 else tb τ M1 R
def vNotV (ta : TE3) : TE3 := fun τ M R => ta τ M fun x M1 => ∃ c, x = .bl c ∧ R (.bl (!c)) M1
theorem v_one {op} (h : E3 X a ta) : E3 X (.BoolOp op [a] pos) ta := pe_one h
theorem v_and (ha : E3 X a ta) (hb : E3 X (.BoolOp .And (b :: rest) pos) tb) : E3 X (.BoolOp .And (a :: b :: rest) pos) (vAndV ta tb) :=
  (pe_and ha hb).weak fun σ H Q ⟨τ, M, R, as, am, h, k⟩ => ⟨τ, M, _, as, am, h, fun x H1 wx M1 k1 am1 ax ⟨c, e, h1⟩ => by
    subst e
    refine ⟨c, ax.bl_inv, ?_⟩
    cases c with
    | true => exact ⟨τ, M1, R, as.kp am k1, am1, h1, k.kp k1⟩
    | false => exact (k.kp k1).at am1 (.bl false) h1⟩
theorem v_or (ha : E3 X a ta) (hb : E3 X (.BoolOp .Or (b :: rest) pos) tb) : E3 X (.BoolOp .Or (a :: b :: rest) pos) (vOrV ta tb) :=
  (pe_or ha hb).weak fun σ H Q ⟨τ, M, R, as, am, h, k⟩ => ⟨τ, M, _, as, am, h, fun x H1 wx M1 k1 am1 ax ⟨c, e, h1⟩ => by
    subst e
    refine ⟨c, ax.bl_inv, ?_⟩
    cases c with
    | true => exact (k.kp k1).at am1 (.bl true) h1
    | false => exact ⟨τ, M1, R, as.kp am k1, am1, h1, k.kp k1⟩⟩
theorem v_not (ha : E3 X a ta) : E3 X (.UnaryOp .Not a pos) (vNotV ta) :=
  (pe_not ha).weak fun σ H Q ⟨τ, M, R, as, am, h, k⟩ => ⟨τ, M, _, as, am, h, fun x H1 wx M1 k1 am1 ax ⟨c, e, h1⟩ => by
    subst e
    exact ⟨c, ax.bl_inv, (k.kp k1).at am1 (.bl _) h1⟩⟩
def vIf (t : TT3) (ta tb : TE3) : TE3 := fun τ M R => t τ M fun c M1 => if c = true then ta τ M1 R else tb τ M1 R
def aNil : TA3 := fun _ M R => R [] M
def aCons (ta : TE3) (tr : TA3) : TA3 := fun τ M R => ta τ M fun x M1 => tr τ M1 fun xs M2 => R (x :: xs) M2
variable {e : Expr} {es : List Expr} {te : TE3} {t : TA3}
theorem a_nil : A3 X [] aNil := pa_nil.weak fun σ H Q ⟨τ, M, R, as, am, h, k⟩ => k [] H [] M (Kp.refl am) am .nil h
theorem a_cons (ha : E3 X e te) (hr : A3 X es t) (hs : starEach (e :: es) X.env = (false, eval e X.env) :: starEach es X.env := by rfl) : A3 X (e :: es) (aCons te t) :=
  (pa_cons ha hr hs).weak fun σ H Q ⟨τ, M, R, as, am, h, k⟩ => ⟨τ, M, _, as, am, h, fun x H1 wx M1 k1 am1 ax h1 => ⟨τ, M1, _, as.kp am k1, am1, h1, fun xs H2 ws M2 k2 am2 axs h2 =>
    k (x :: xs) H2 (wx :: ws) M2 (k1.trans k2) am2 (.cons (ax.kp am1 k2) axs) h2⟩⟩
def vTup (t : TA3) : TE3 := fun τ M R => t τ M fun ws M1 => ws.length ≤ sizeLine ∧ R (.tup ws) M1
def vLst (t : TA3) : TE3 := fun τ M R => t τ M fun ws M1 => ws.length ≤ sizeLine ∧ New ws M1 R
theorem laidT {K : PySem.W.Frag} {H : Hp} {M : Mm} {R : K3} {Q : VK} {p : Addr} {xs : List V} {ws : List W} (am : AM K H M) (k : Up K H M R Q) (hp : H p = none) (ax : AVs K H M xs ws) (r : R (.tup ws) M) : Q (.ref p) (upd H p (.tup xs)) := by
  obtain ⟨am2, k2⟩ := am.tup (u := .tup xs) hp
  exact k _ _ _ _ k2 am2 (.tup upd_same (ax.newT hp)) r
theorem laidL {K : PySem.W.Frag} {H : Hp} {M : Mm} {R : K3} {Q : VK} {p : Addr} {xs : List V} {ws : List W} (am : AM K H M) (k : Up K H M R Q) (hp : H p = none) (ax : AVs K H M xs ws) (r : ∀ p, M p = none → R (.ref p) (put M p (.lst ws))) : Q (.ref p) (upd H p (.lst xs)) := by
  obtain ⟨am2, k2⟩ := am.laid (o := .lst ws) (u := .lst xs) hp ⟨xs, upd_same, ax.newL hp⟩
  exact k _ _ _ _ k2 am2 (.ref p) (r p (am.nonM hp))
theorem wroteL {K : PySem.W.Frag} {H : Hp} {M : Mm} {R : K3} {Q : VK} {l : Addr} {xs : List V} {ws ws0 : List W} {y : V} {w : W} (am : AM K H M) (k : Up K H M R Q) (hl : M l = some (.lst ws0)) (ax : AVs K H M xs ws) (ay : AV K H M y w) (r : R w (put M l (.lst ws))) : Q y (upd H l (.lst xs)) := by
  obtain ⟨am2, k2⟩ := am.write (o := .lst ws) (u := .lst xs) hl ⟨xs, upd_same, ax.wr am hl⟩
  exact k _ _ _ _ k2 am2 (ay.wr am hl) r
theorem v_tup {x1} (h : A3 X es t) : E3 X (.Tuple es x1 pos) (vTup t) :=
  (pe_tup h).weak fun σ H Q ⟨τ, M, R, as, am, h, k⟩ => ⟨τ, M, _, as, am, h, fun xs H1 ws M1 k1 am1 axs ⟨hl, r⟩ => ⟨by rw [axs.length]; exact hl, fun p hp => laidT am1 (k.kp k1) hp axs r⟩⟩
theorem v_lst (h : A3 X es t) : E3 X (.List es pos) (vLst t) :=
  (pe_lst h).weak fun σ H Q ⟨τ, M, R, as, am, h, k⟩ => ⟨τ, M, _, as, am, h, fun xs H1 ws M1 k1 am1 axs ⟨hl, r⟩ => ⟨by rw [axs.length]; exact hl, fun p hp => laidL am1 (k.kp k1) hp axs r⟩⟩
def vCB (r : List W → Mm → K3 → Prop) (t : TA3) : TE3 := fun τ M R => t τ M fun ws M1 => r ws M1 R
variable {x : Str} {p : Pos} {id T : String} {r : List W → Mm → K3 → Prop}
theorem vCB_up {K : PySem.W.Frag} {σ : SV} {H : Hp} {Q : VK} (h : up K (vCB r t) σ H Q) : tCB (upC K r) (upA K t) σ H Q := by
  obtain ⟨τ, M, R, as, am, h, k⟩ := h
  exact ⟨τ, M, _, as, am, h, fun xs H1 ws M1 k1 am1 axs h1 => ⟨ws, M1, R, am1, axs, h1, k.kp k1⟩⟩
theorem v_callB (hc : CallR X (.builtin id) (upC X.K r)) (hg : Gl X x) (hm : X.mg x = none) (hv : bootBuiltins x = some (.builtin id)) (ha : A3 X (e :: es) t) (hn : x ≠ "__name__" := by decide) (hdb : (x == ("__debug__" : Str)) = false := by decide)
    (hs : starEach (e :: es) X.env = (false, eval e X.env) :: starEach es X.env := by rfl) (hpl : (backTo pos (starEach es X.env)).any (·.1) = false := by rfl) : E3 X (.Call (.Name x p) (e :: es) [] pos) (vCB r t) := (pe_callB hc hg hm hv ha hn hdb hs hpl).weak fun _ _ _ h => vCB_up h
theorem v_callTy (hc : CallR X (.type T) (upC X.K r)) (hg : Gl X x) (hm : X.mg x = none) (hv : bootBuiltins x = some (.type T)) (ha : A3 X (e :: es) t) (hn : x ≠ "__name__" := by decide) (hdb : (x == ("__debug__" : Str)) = false := by decide)
    (hs : starEach (e :: es) X.env = (false, eval e X.env) :: starEach es X.env := by rfl) (hpl : (backTo pos (starEach es X.env)).any (·.1) = false := by rfl) : E3 X (.Call (.Name x p) (e :: es) [] pos) (vCB r t) := (pe_callTy hc hg hm hv ha hn hdb hs hpl).weak fun _ _ _ h => vCB_up h
abbrev Sp3 := List W → Mm → K3 → Prop
def upSp (K : PySem.W.Frag) (sp : Sp3) : Sp := fun vs H Q _ => ∃ ws M R, AM K H M ∧ AVs K H M vs ws ∧ sp ws M R ∧ Up K H M R Q
variable {k : Nat} {f : Addr} {fd : FuncData} {ps : List Str} {sp : Sp3}
def vCall (sp : Sp3) (t : TA3) : TE3 := fun τ M R => t τ M fun ws M1 => sp ws M1 R
theorem vCall_up {K : PySem.W.Frag} {σ : SV} {H : Hp} {Q : VK} (h : up K (vCall sp t) σ H Q) : tCall (upSp K sp) [] E0 (upA K t) σ H Q := by
  obtain ⟨τ, M, R, as, am, h, k⟩ := h
  exact ⟨τ, M, _, as, am, h, fun xs H1 ws M1 k1 am1 axs h1 => ⟨ws, M1, R, am1, by rw [List.append_nil]; exact axs, h1, k.kp k1⟩⟩
theorem v_call (F : FnOk X.prog X.w X.K X.mg X.base CX0 k f fd ps (upSp X.K sp)) (hr : Room k X.A) (hg : Gl X x) (hm : X.mg x = some (.ref f)) (hk : PySem.W.keepIn X.K (.ref f) = true) (hb : Binds X.K fd ps [])
    (ha : A3 X (e :: es) t) (hdb : (x == ("__debug__" : Str)) = false := by decide) (he : starEach (e :: es) X.env = (false, eval e X.env) :: starEach es X.env := by rfl) (hpl : (backTo pos (starEach es X.env)).any (·.1) = false := by rfl) :
    E3 X (.Call (.Name x p) (e :: es) [] pos) (vCall sp t) := (pe_call F hr hg hm hk hb .nil pass0 ha hdb he hpl).weak fun _ _ _ h => vCall_up h
def tyW (T : String) : W → Mm → Prop
  | .str _, _ => T = "str"
  | .int _, _ => T = "int"
  | .rl _, _ => T = "list"
  | .sc _, _ => T = "list"
  | .dk _, _ => T = "dict"
  | .dt _, _ => T = "dict"
  | .ref p, M => (T = "list" ∧ ∃ ws, M p = some (.lst ws)) ∨ (T = "dict" ∧ ((∃ kvs, M p = some (.dK kvs)) ∨ ∃ kvs, M p = some (.dT kvs)))
  | _, _ => False
theorem tyW_up {K : PySem.W.Frag} {H : Hp} {M : Mm} {v : V} {w : W} (am : AM K H M) (av : AV K H M v w) (h : tyW T w M) : tyV K T v H := by
  cases av with
  | str y => exact h
  | int i => exact h
  | rl e n q => exact .inl ⟨h, _, SqL.of e⟩
  | sc e q => exact .inl ⟨h, _, e.sq⟩
  | dk e n ke q => exact .inr (.inr (.inl ⟨h, .inl ⟨_, e⟩⟩))
  | dt e n ke q => exact .inr (.inr (.inl ⟨h, .inr ⟨_, e⟩⟩))
  | ref p =>
    rcases h with ⟨e, ws, h⟩ | ⟨e, h⟩
    · obtain ⟨vs, e1, _⟩ := am.lst h
      exact .inl ⟨e, vs, SqL.of e1⟩
    · refine .inr (.inr (.inl ⟨e, ?_⟩))
      rcases h with ⟨kvs, h⟩ | ⟨kvs, h⟩
      · obtain ⟨ks, e1, _⟩ := am _ _ h; exact .inl ⟨ks, e1⟩
      · obtain ⟨ks, e1, _⟩ := am _ _ h; exact .inr ⟨ks, e1⟩
  | non => exact h.elim
  | bl b => exact h.elim
  | ty n => exact h.elim
  | tup e q => exact h.elim
variable {o : Expr} {to : TE3} {name : Str} {apos cpos : Pos} {rm : W → List W → Mm → K3 → Prop}
def vBM0 (T : String) (r : W → List W → Mm → K3 → Prop) (to : TE3) : TE3 := fun τ M R => to τ M fun x M1 => tyW T x M1 ∧ r x [] M1 R
def vBM (T : String) (r : W → List W → Mm → K3 → Prop) (to : TE3) (t : TA3) : TE3 := fun τ M R => to τ M fun x M1 => tyW T x M1 ∧ t τ M1 fun xs M2 => r x xs M2 R
theorem v_bm0 (pa : PlainAttrs T) (slot : Slot T name id) (hty : typeOf (.builtin id) = pure (.type "method_descriptor")) (hm : MtR X id (upM X.K rm)) (ho : E3 X o to)
    (hbase : attributeBase o name X.env (eval o X.env) = eval o X.env := by rfl) (hline : (apos.endLine == cpos.line) = true := by rfl) : E3 X (.Call (.Attribute o name apos) [] [] cpos) (vBM0 T rm to) :=
  (pe_bm0 pa slot hty hm ho hbase hline).weak fun σ H Q ⟨τ, M, R, as, am, h, k⟩ => ⟨τ, M, _, as, am, h, fun x H1 wx M1 k1 am1 ax ⟨ty, h1⟩ => ⟨tyW_up am1 ax ty, wx, [], M1, R, am1, ax, .nil, h1, k.kp k1⟩⟩
theorem v_bm (pa : PlainAttrs T) (slot : Slot T name id) (hty : typeOf (.builtin id) = pure (.type "method_descriptor")) (hm : MtR X id (upM X.K rm)) (ho : E3 X o to) (ha : A3 X (e :: es) t)
    (hbase : attributeBase o name X.env (eval o X.env) = eval o X.env := by rfl)
    (hfew : ((backTo cpos (starEach (e :: es) X.env)).all (fun x => !x.1) && (backToKw cpos (keywordEach [] X.env)).all (fun x => x.1.isSome)
      && decide ((e :: es).length + ([] : List Keyword).length + (if ([] : List Keyword).isEmpty then 0 else 1) < 30)) = true := by rfl)
    (hline : (apos.endLine == cpos.line) = true := by rfl) (hs : starEach (e :: es) X.env = (false, eval e X.env) :: starEach es X.env := by rfl) (hplain : (backTo cpos (starEach es X.env)).any (·.1) = false := by rfl) :
    E3 X (.Call (.Attribute o name apos) (e :: es) [] cpos) (vBM T rm to t) :=
  (pe_bm pa slot hty hm ho ha hbase hfew hline hs hplain).weak fun σ H Q ⟨τ, M, R, as, am, h, k⟩ => ⟨τ, M, _, as, am, h, fun x H1 wx M1 k1 am1 ax ⟨ty, h1⟩ => ⟨tyW_up am1 ax ty, τ, M1, _, as.kp am k1, am1, h1, fun xs H2 ws M2 k2 am2 axs h2 =>
    ⟨wx, ws, M2, R, am2, ax.kp am1 k2, axs, h2, (k.kp k1).kp k2⟩⟩⟩
end
end L3
set_option Elab.async false
set_option linter.all false
set_option maxRecDepth 100000
set_option maxHeartbeats 4000000
namespace L3
open PySem PySem.Spec PyProof.Rows L2
section
variable {X : Cx}
def rAdd : R3
  | .int i, .int j, M, R => R (.int (i + j)) M
  | .str i, .str j, M, R => i.length + j.length ≤ sizeLine ∧ R (.str (i ++ j)) M
  | .tup xs, .tup ys, M, R => xs ≠ [] ∧ xs.length + ys.length ≤ sizeLine ∧ R (.tup (xs ++ ys)) M
  | .ref a, .ref b, M, R => ∃ xs ys, M a = some (.lst xs) ∧ M b = some (.lst ys) ∧ xs.length + ys.length ≤ sizeLine ∧ New (xs ++ ys) M R
  | .rl xs, .ref b, M, R => ∃ ys, M b = some (.lst ys) ∧ xs.length + ys.length ≤ sizeLine ∧ New (xs ++ ys) M R
  | .ref a, .rl ys, M, R => ∃ xs, M a = some (.lst xs) ∧ xs.length + ys.length ≤ sizeLine ∧ New (xs ++ ys) M R
  | .rl xs, .rl ys, M, R => xs.length + ys.length ≤ sizeLine ∧ New (xs ++ ys) M R
  | _, _, _, _ => False
theorem o_add : OpR X (binaryOp .Add) (upO X.K rAdd) := by
  rintro pins s σ H x y v u Q I rx ry ⟨wx, wy, M, R, am, ax, ay, h, k⟩
  cases ax <;> cases ay <;> first | exact (show False from h).elim | skip
  case int.int i j => exact op_add pins s σ H _ _ v u Q I rx ry ⟨i, j, rfl, rfl, k.at am (.int _) h⟩
  case str.str i j => exact op_add_str pins s σ H _ _ v u Q I rx ry ⟨i, j, rfl, rfl, h.1, k.at am (.str _) h.2⟩
  case tup.tup a xs ws e q b ys zs e2 q2 =>
    refine op_catT pins s σ H _ _ v u Q I rx ry ⟨a, b, xs, ys, rfl, rfl, SqT.of e, SqT.of e2, fun z => ?_, by rw [q.length, q2.length]; exact h.2.1, fun z => ?_, fun _ p hp => ?_⟩
    · subst z; cases q; exact h.1 rfl
    · subst z; cases q2
      have := h.2.2
      rw [List.append_nil] at this
      exact k.at am (.tup e q) this
    · exact laidT am k hp (q.append q2) h.2.2
  case ref.ref a b =>
    obtain ⟨xs, ys, e1, e2, hl, r⟩ := h
    obtain ⟨vs, f1, q1⟩ := am.lst e1
    obtain ⟨us, f2, q2⟩ := am.lst e2
    exact op_cat pins s σ H _ _ v u Q I rx ry ⟨a, b, vs, us, rfl, rfl, f1, f2, by rw [q1.length, q2.length]; exact hl, fun p hp => laidL am k hp (q1.append q2) r⟩
  case rl.ref a vs xs f1 _ q1 b =>
    obtain ⟨ys, e2, hl, r⟩ := h
    obtain ⟨us, f2, q2⟩ := am.lst e2
    exact op_cat pins s σ H _ _ v u Q I rx ry ⟨a, b, vs, us, rfl, rfl, f1, f2, by rw [q1.length, q2.length]; exact hl, fun p hp => laidL am k hp (q1.append q2) r⟩
  case ref.rl a b us ys f2 _ q2 =>
    obtain ⟨xs, e1, hl, r⟩ := h
    obtain ⟨vs, f1, q1⟩ := am.lst e1
    exact op_cat pins s σ H _ _ v u Q I rx ry ⟨a, b, vs, us, rfl, rfl, f1, f2, by rw [q1.length, q2.length]; exact hl, fun p hp => laidL am k hp (q1.append q2) r⟩
  case rl.rl a vs xs f1 _ q1 b us ys f2 _ q2 =>
    exact op_cat pins s σ H _ _ v u Q I rx ry ⟨a, b, vs, us, rfl, rfl, f1, f2, by rw [q1.length, q2.length]; exact h.1, fun p hp => laidL am k hp (q1.append q2) h.2⟩
def rII (C : Int → Int → Prop) (g : Int → Int → W) : R3
  | .int i, .int j, M, R => C i j ∧ R (g i j) M
  | _, _, _, _ => False
theorem o_II {f : Value → Value → Sem Value} {C : Int → Int → Prop} {g : Int → Int → V} {g' : Int → Int → W} (h0 : OpR X f (rI C g)) (hg : ∀ H M i j, AV X.K H M (g i j) (g' i j)) : OpR X f (upO X.K (rII C g')) := by
  rintro pins s σ H x y v u Q I rx ry ⟨wx, wy, M, R, am, ax, ay, h, k⟩
  cases ax <;> cases ay <;> first | exact (show False from h).elim | skip
  case int.int i j => exact h0 pins s σ H _ _ v u Q I rx ry ⟨i, j, rfl, rfl, h.1, k.at am (hg H M i j) h.2⟩
def rII0 (g : Int → Int → W) : R3
  | .int i, .int j, M, R => R (g i j) M
  | _, _, _, _ => False
theorem o_II0 {f : Value → Value → Sem Value} {g : Int → Int → V} {g' : Int → Int → W} (h0 : OpR X f (rI0 g)) (hg : ∀ H M i j, AV X.K H M (g i j) (g' i j)) : OpR X f (upO X.K (rII0 g')) := by
  rintro pins s σ H x y v u Q I rx ry ⟨wx, wy, M, R, am, ax, ay, h, k⟩
  cases ax <;> cases ay <;> first | exact (show False from h).elim | skip
  case int.int i j => exact h0 pins s σ H _ _ v u Q I rx ry ⟨i, j, rfl, rfl, k.at am (hg H M i j) h⟩
abbrev rSub : R3 := rII0 fun i j => .int (i - j)
theorem o_sub : OpR X (binaryOp .Sub) (upO X.K rSub) := o_II0 op_sub fun _ _ _ _ => .int _
abbrev rFdiv : R3 := rII CDivB fun i j => .int (i / j)
theorem o_fdiv : OpR X (binaryOp .FloorDiv) (upO X.K rFdiv) := o_II op_fdivB fun _ _ _ _ => .int _
abbrev rMod : R3 := rII (fun _ j => 0 < j) fun i j => .int (i % j)
theorem o_mod : OpR X (binaryOp .Mod) (upO X.K rMod) := o_II op_mod fun _ _ _ _ => .int _
abbrev rPow : R3 := rII CPow fun i j => .int (i ^ j.toNat)
theorem o_pow : OpR X (binaryOp .Pow) (upO X.K rPow) := o_II op_pow fun _ _ _ _ => .int _
abbrev rShr : R3 := rII (fun _ j => 0 ≤ j) fun i j => .int (i / 2 ^ j.toNat)
theorem o_shr : OpR X (binaryOp .RShift) (upO X.K rShr) := o_II op_shr fun _ _ _ _ => .int _
abbrev rBand : R3 := rII0 fun i j => .int (Builtin.bitAnd i j)
theorem o_band : OpR X (binaryOp .BitAnd) (upO X.K rBand) := o_II0 op_and fun _ _ _ _ => .int _
def rMul : R3
  | .int i, .int j, M, R => (CMul i j ∨ CBig i j) ∧ R (.int (i * j)) M
  | .str z, .int n, M, R => z.length ≤ 16 ∧ -(2 ^ 63) ≤ n ∧ n ≤ 1048576 ∧ R (.str (Txt.mul z n)) M
  | .ref a, .int n, M, R => ∃ xs, M a = some (.lst xs) ∧ -(2 ^ 63) ≤ n ∧ n < 2 ^ 63 ∧ xs.length * n.toNat ≤ sizeLine ∧ New (List.replicate n.toNat xs).flatten M R
  | .rl xs, .int n, M, R => -(2 ^ 63) ≤ n ∧ n < 2 ^ 63 ∧ xs.length * n.toNat ≤ sizeLine ∧ New (List.replicate n.toNat xs).flatten M R
  | _, _, _, _ => False
theorem o_mul : OpR X (binaryOp .Mult) (upO X.K rMul) := by
  rintro pins s σ H x y v u Q I rx ry ⟨wx, wy, M, R, am, ax, ay, h, k⟩
  cases ax <;> cases ay <;> first | exact (show False from h).elim | skip
  case int.int i j =>
    rcases h with ⟨h | h, r⟩
    · exact op_mul pins s σ H _ _ v u Q I rx ry ⟨i, j, rfl, rfl, h, k.at am (.int _) r⟩
    · exact op_mulB pins s σ H _ _ v u Q I rx ry ⟨i, j, rfl, rfl, h, k.at am (.int _) r⟩
  case str.int z n => exact op_mulS pins s σ H _ _ v u Q I rx ry ⟨z, n, rfl, rfl, h.1, h.2.1, h.2.2.1, k.at am (.str _) h.2.2.2⟩
  case ref.int a n =>
    obtain ⟨xs, e, h1, h2, h3, r⟩ := h
    obtain ⟨vs, f, q⟩ := am.lst e
    exact op_rep pins s σ H _ _ v u Q I rx ry ⟨a, n, vs, rfl, rfl, f, h1, h2, by rw [q.length]; exact h3, fun p hp => laidL am k hp (q.flatRep _) r⟩
  case rl.int a vs xs f _ q n =>
    obtain ⟨h1, h2, h3, r⟩ := h
    exact op_rep pins s σ H _ _ v u Q I rx ry ⟨a, n, vs, rfl, rfl, f, h1, h2, by rw [q.length]; exact h3, fun p hp => laidL am k hp (q.flatRep _) r⟩
def rNeg : W → Mm → K3 → Prop
  | .int i, M, R => R (.int (-i)) M
  | _, _, _ => False
def strLt (i j : Str) : Bool := decide (i.cps.toList < j.cps.toList)
def rLt : R3
  | .int i, .int j, M, R => R (.bl (decide (i < j))) M
  | .str i, .str j, M, R => R (.bl (strLt i j)) M
  | _, _, _, _ => False
theorem o_lt : OpR X (compareOp .Lt) (upO X.K rLt) := by
  rintro pins s σ H x y v u Q I rx ry ⟨wx, wy, M, R, am, ax, ay, h, k⟩
  cases ax <;> cases ay <;> first | exact (show False from h).elim | skip
  case int.int i j => exact op_lt pins s σ H _ _ v u Q I rx ry ⟨i, j, rfl, rfl, k.at am (.bl _) h⟩
  case str.str i j => exact op_lt_str pins s σ H _ _ v u Q I rx ry ⟨i, j, rfl, rfl, k.at am (.bl _) h⟩
abbrev rLe : R3 := rII0 fun i j => .bl (decide (i ≤ j))
theorem o_le : OpR X (compareOp .LtE) (upO X.K rLe) := o_II0 op_le fun _ _ _ _ => .bl _
abbrev rGe : R3 := rII0 fun i j => .bl (decide (j ≤ i))
theorem o_ge : OpR X (compareOp .GtE) (upO X.K rGe) := o_II0 op_ge fun _ _ _ _ => .bl _
def isNon : W → Bool
  | .non => true
  | _ => false
mutual
inductive Snap (M : Mm) : W → PyData → Prop
  | non : Snap M .non .none
  | bl (b : Bool) : Snap M (.bl b) (.bool b)
  | int (i : Int) : Snap M (.int i) (.int i)
  | str (x : Str) : Snap M (.str x) (.str x)
  | tup {ws : List W} {ds : List PyData} : Snaps M ws ds → Snap M (.tup ws) (.tuple ds)
  | rl {ws : List W} {ds : List PyData} : Snaps M ws ds → Snap M (.rl ws) (.list ds)
  | ref {a : Addr} {ws : List W} {ds : List PyData} : M a = some (.lst ws) → Snaps M ws ds → Snap M (.ref a) (.list ds)
inductive Snaps (M : Mm) : List W → List PyData → Prop
  | nil : Snaps M [] []
  | cons {w : W} {ws : List W} {d : PyData} {ds : List PyData} : Snap M w d → Snaps M ws ds → Snaps M (w :: ws) (d :: ds)
end
section
variable {pins : List (Addr × Obj)} {σ : SV} {H : Hp} {s : Shared} {M : Mm}
mutual
theorem Snap.reads (I : Inv X pins σ H s) (am : AM X.K H M) : ∀ {w : W} {d : PyData} {v : V} {u : Value}, Snap M w d → AV X.K H M v w → RelV v u → ∃ as, Reads s.heap u d as
  | _, _, _, _, .non, av, r => by cases av; cases r; exact ⟨_, .none⟩
  | _, _, _, _, .bl b, av, r => by cases av; cases r; exact ⟨_, .bool b⟩
  | _, _, _, _, .int i, av, r => by cases av; obtain ⟨t, rfl⟩ := r; exact ⟨_, .int i t⟩
  | _, _, _, _, .str x, av, r => by cases av; obtain ⟨t, rfl⟩ := r; exact ⟨_, .str x t⟩
  | _, _, _, _, .tup h, av, r => by
    cases av with
    | tup e q =>
      cases r
      obtain ⟨its, rv, ⟨o, e1, e2, n, e3⟩, _⟩ := I.tuple (SqT.of e)
      obtain ⟨as, z⟩ := Snaps.reads I am h q rv
      exact ⟨_, .tuple e1 e2 e3 (by simpa using z)⟩
  | _, _, _, _, .rl h, av, r => by
    cases av with
    | rl e _ q =>
      cases r
      obtain ⟨its, rv, pl, _⟩ := I.list (SqL.of e)
      obtain ⟨o, e1, e2, n, e3⟩ := pl.isList
      obtain ⟨as, z⟩ := Snaps.reads I am h q rv
      exact ⟨_, .list e1 e2 e3 (by simpa using z)⟩
  | _, _, _, _, .ref e h, av, r => by
    cases av with
    | ref a =>
      cases r
      obtain ⟨vs, e0, q⟩ := am.lst e
      obtain ⟨its, rv, pl, _⟩ := I.list (SqL.of e0)
      obtain ⟨o, e1, e2, n, e3⟩ := pl.isList
      obtain ⟨as, z⟩ := Snaps.reads I am h q rv
      exact ⟨_, .list e1 e2 e3 (by simpa using z)⟩
theorem Snaps.reads (I : Inv X pins σ H s) (am : AM X.K H M) : ∀ {ws : List W} {ds : List PyData} {vs : List V} {us : List Value}, Snaps M ws ds → AVs X.K H M vs ws → Vals vs us → ∃ as, ReadsAll s.heap us ds as
  | _, _, _, _, .nil, av, r => by cases av; cases r; exact ⟨_, .nil⟩
  | _, _, _, _, .cons h t, av, r => by
    cases av with
    | cons a b =>
      cases r with
      | cons r1 r2 =>
        obtain ⟨x, q1⟩ := Snap.reads I am h a r1
        obtain ⟨y, q2⟩ := Snaps.reads I am t b r2
        exact ⟨_, .cons q1 q2⟩
end
end
def rEqD (neg : Bool) : R3 := fun x y M R => ∃ da db, Snap M x da ∧ Snap M y db ∧ Flt da ∧ Flt db ∧ R (.bl (if neg then !PyData.eqv da db else PyData.eqv da db)) M
def rEq (neg : Bool) : R3
  | .int i, .int j, M, R => R (.bl (if neg then !decide (i = j) else decide (i = j))) M
  | .str i, .str j, M, R => R (.bl (if neg then !decide (i = j) else decide (i = j))) M
  | .bl i, .bl j, M, R => R (.bl (if neg then !decide (i = j) else decide (i = j))) M
  | x, y, M, R => rEqD neg x y M R
theorem dInt {i j : Int} : decide (V.int i = V.int j) = decide (i = j) := by rw [Bool.eq_iff_iff]; simp
theorem dStr {i j : Str} : decide (V.str i = V.str j) = decide (i = j) := by rw [Bool.eq_iff_iff]; simp
theorem dBl {i j : Bool} : decide (V.bl i = V.bl j) = decide (i = j) := by rw [Bool.eq_iff_iff]; simp
theorem o_eq (hu : X.A.units + 64 < cLine) : OpR X (compareOp .Eq) (upO X.K (rEq false)) := by
  rintro pins s σ H x y v u Q I rx ry ⟨wx, wy, M, R, am, ax, ay, h, k⟩
  have data : rEqD false wx wy M R → wpAny (model X.prog X.w) X.A (compareOp .Eq v u) (EP X pins σ Q) X.xe s := fun h => by
    obtain ⟨da, db, ha, hb, fa, fb, q⟩ := h
    obtain ⟨as, ra⟩ := ha.reads I am ax rx
    obtain ⟨bs, rb⟩ := hb.reads I am ay ry
    exact SeqAt.compareEq_reads ra rb fa.1 fb.1 (Nat.lt_of_le_of_lt (Nat.add_le_add_left (Nat.le_trans (Nat.min_le_left _ _) (Nat.le_trans fa.2 (by decide))) _) hu) ⟨.bl _, H, I, rfl, k.at am (.bl _) q⟩
  cases ax <;> cases ay <;> first | exact data h | skip
  case int.int i j => exact op_eq pins s σ H _ _ v u Q I rx ry ⟨rfl, by rw [dInt]; exact k.at am (.bl _) h⟩
  case str.str i j => exact op_eq pins s σ H _ _ v u Q I rx ry ⟨rfl, by rw [dStr]; exact k.at am (.bl _) h⟩
  case bl.bl i j => exact op_eq pins s σ H _ _ v u Q I rx ry ⟨rfl, by rw [dBl]; exact k.at am (.bl _) h⟩
theorem o_ne (hu : X.A.units + 64 < cLine) : OpR X (compareOp .NotEq) (upO X.K (rEq true)) := by
  rintro pins s σ H x y v u Q I rx ry ⟨wx, wy, M, R, am, ax, ay, h, k⟩
  have data : rEqD true wx wy M R → wpAny (model X.prog X.w) X.A (compareOp .NotEq v u) (EP X pins σ Q) X.xe s := fun h => by
    obtain ⟨da, db, ha, hb, fa, fb, q⟩ := h
    obtain ⟨as, ra⟩ := ha.reads I am ax rx
    obtain ⟨bs, rb⟩ := hb.reads I am ay ry
    exact SeqAt.compareNe_reads ra rb fa.1 fb.1 (Nat.lt_of_le_of_lt (Nat.add_le_add_left (Nat.le_trans (Nat.min_le_left _ _) (Nat.le_trans fa.2 (by decide))) _) hu) ⟨.bl _, H, I, rfl, k.at am (.bl _) q⟩
  cases ax <;> cases ay <;> first | exact data h | skip
  case int.int i j => exact op_ne pins s σ H _ _ v u Q I rx ry ⟨rfl, by rw [dInt]; exact k.at am (.bl _) h⟩
  case str.str i j => exact op_ne pins s σ H _ _ v u Q I rx ry ⟨rfl, by rw [dStr]; exact k.at am (.bl _) h⟩
  case bl.bl i j => exact op_ne pins s σ H _ _ v u Q I rx ry ⟨rfl, by rw [dBl]; exact k.at am (.bl _) h⟩
def wK : Key → W
  | .inl i => .int i
  | .inr x => .str x
def lookW {κ : Type} [DecidableEq κ] (kvs : List (κ × W)) (k : κ) : Option W := (kvs.find? fun kv => decide (kv.1 = k)).map (·.2)
def putW {κ : Type} [DecidableEq κ] (kvs : List (κ × W)) (k : κ) (v : W) : List (κ × W) :=
  if (kvs.any fun kv => decide (kv.1 = k)) = true then kvs.map (fun kv => if kv.1 = k then (kv.1, v) else kv) else kvs ++ [(k, v)]
theorem AV.key {K : PySem.W.Frag} {H : Hp} {M : Mm} {v : V} {k : Key} (h : AV K H M v (wK k)) : v = kV k := by
  cases k <;> (cases h; rfl)
theorem AVs.keys {K : PySem.W.Frag} {H : Hp} {M : Mm} : ∀ {vs : List V} {k : List Key}, AVs K H M vs (k.map wK) → vs = k.map kV
  | _, [], h => by cases h; rfl
  | _, a :: r, h => by
    cases h with
    | cons x y => rw [x.key, AVs.keys y]; rfl
section
variable {κ : Type} [DecidableEq κ] {K : PySem.W.Frag} {H : Hp} {M : Mm}
theorem pkv_look {ks : List (κ × V)} {kvs : List (κ × W)} (h : PKV K H M κ ks kvs) (k : κ) : (lookW kvs k = none ∧ valV ks k = none) ∨ ∃ v w, lookW kvs k = some w ∧ valV ks k = some v ∧ AV K H M v w := by
  induction h with
  | nil => exact .inl ⟨rfl, rfl⟩
  | @cons p q ps qs r t ih =>
    by_cases e : p.1 = k
    · refine .inr ⟨p.2, q.2, ?_, ?_, r.2⟩
      · unfold lookW; rw [List.find?_cons, decide_eq_true (by rw [← r.1]; exact e)]; rfl
      · exact valV_pos e
    · have e2 : ¬ q.1 = k := by rw [← r.1]; exact e
      have l : lookW (q :: qs) k = lookW qs k := by unfold lookW; rw [List.find?_cons, decide_eq_false e2]
      rw [l, valV_neg e]
      exact ih
theorem pkv_any {ks : List (κ × V)} {kvs : List (κ × W)} (h : PKV K H M κ ks kvs) (k : κ) : (ks.any fun kv => decide (kv.1 = k)) = (kvs.any fun kv => decide (kv.1 = k)) := by
  induction h with
  | nil => rfl
  | cons r t ih => rw [List.any_cons, List.any_cons, ih, r.1]
theorem pkv_map {ks : List (κ × V)} {kvs : List (κ × W)} {v : V} {w : W} {k : κ} (av : AV K H M v w) (h : PKV K H M κ ks kvs) : PKV K H M κ (ks.map (fun kv => if kv.1 = k then (kv.1, v) else kv)) (kvs.map (fun kv => if kv.1 = k then (kv.1, w) else kv)) := by
  induction h with
  | nil => exact .nil
  | @cons p q ps qs r t ih =>
    rw [List.map_cons, List.map_cons]
    refine .cons ?_ ih
    by_cases e : p.1 = k
    · rw [if_pos e, if_pos (by rw [← r.1]; exact e)]; exact ⟨r.1, av⟩
    · rw [if_neg e, if_neg (by rw [← r.1]; exact e)]; exact r
theorem pkv_snoc {ks : List (κ × V)} {kvs : List (κ × W)} {v : V} {w : W} {k : κ} (av : AV K H M v w) (h : PKV K H M κ ks kvs) : PKV K H M κ (ks ++ [(k, v)]) (kvs ++ [(k, w)]) := by
  induction h with
  | nil => exact .cons ⟨rfl, av⟩ .nil
  | cons r t ih => exact .cons r ih
theorem pkv_put {ks : List (κ × V)} {kvs : List (κ × W)} {v : V} {w : W} (h : PKV K H M κ ks kvs) (k : κ) (av : AV K H M v w) : PKV K H M κ (putK ks k v) (putW kvs k w) := by
  unfold putK putW
  rw [pkv_any h k]
  split
  · exact pkv_map av h
  · exact pkv_snoc av h
end
def dGet (M : Mm) : W → W → Option W → Prop
  | .ref a, y, o => (∃ kvs k, M a = some (.dK kvs) ∧ y = wK k ∧ o = lookW kvs k) ∨ ∃ kvs k, M a = some (.dT kvs) ∧ y = .tup (k.map wK) ∧ o = lookW kvs k
  | .dk kvs, y, o => ∃ k, y = wK k ∧ o = lookW kvs k
  | .dt kvs, y, o => ∃ k, y = .tup (k.map wK) ∧ o = lookW kvs k
  | _, _, _ => False
theorem dGet_k {K : PySem.W.Frag} {H : Hp} {M : Mm} {a : Addr} {y : V} {k : Key} {ks : List (Key × V)} {kvs : List (Key × W)} (e1 : H a = some (.dK ks)) (q : PKV K H M Key ks kvs) (ay : AV K H M y (wK k)) : (lookW kvs k = none ∧ DGet H a y none) ∨ ∃ v w, lookW kvs k = some w ∧ DGet H a y (some v) ∧ AV K H M v w := by
  rw [ay.key]
  rcases pkv_look q k with ⟨l1, l2⟩ | ⟨v, w, l1, l2, av⟩
  · exact .inl ⟨l1, by rw [← l2]; exact DGet.k e1⟩
  · exact .inr ⟨v, w, l1, by rw [← l2]; exact DGet.k e1, av⟩
theorem dGet_t {K : PySem.W.Frag} {H : Hp} {M : Mm} {a : Addr} {y : V} {k : List Key} {ks : List (List Key × V)} {kvs : List (List Key × W)} (e1 : H a = some (.dT ks)) (q : PKV K H M (List Key) ks kvs) (ay : AV K H M y (.tup (k.map wK))) : (lookW kvs k = none ∧ DGet H a y none) ∨ ∃ v w, lookW kvs k = some w ∧ DGet H a y (some v) ∧ AV K H M v w := by
  cases ay with
  | tup eb qb =>
    have eb' := eb
    rw [qb.keys] at eb'
    rcases pkv_look q k with ⟨l1, l2⟩ | ⟨v, w, l1, l2, av⟩
    · exact .inl ⟨l1, by rw [← l2]; exact DGet.t e1 eb'⟩
    · exact .inr ⟨v, w, l1, by rw [← l2]; exact DGet.t e1 eb', av⟩
theorem dGet_up {K : PySem.W.Frag} {H : Hp} {M : Mm} {x y : V} {wx wy : W} {o : Option W} (am : AM K H M) (ax : AV K H M x wx) (ay : AV K H M y wy) (h : dGet M wx wy o) : ∃ a, x = .ref a ∧ ((o = none ∧ DGet H a y none) ∨ ∃ v w, o = some w ∧ DGet H a y (some v) ∧ AV K H M v w) := by
  cases ax <;> first | exact (show False from h).elim | skip
  case ref a =>
    rcases h with ⟨kvs, k, e, rfl, rfl⟩ | ⟨kvs, k, e, rfl, rfl⟩
    · obtain ⟨ks, e1, q⟩ := am _ _ e
      exact ⟨a, rfl, dGet_k e1 q ay⟩
    · obtain ⟨ks, e1, q⟩ := am _ _ e
      exact ⟨a, rfl, dGet_t e1 q ay⟩
  case dk a ks kvs e _ ke q =>
    obtain ⟨k, rfl, rfl⟩ := h
    exact ⟨a, rfl, dGet_k e (pkv_of ke q) ay⟩
  case dt a ks kvs e _ ke q =>
    obtain ⟨k, rfl, rfl⟩ := h
    exact ⟨a, rfl, dGet_t e (pkv_of ke q) ay⟩
def rIx : R3
  | .tup ws, .int i, M, R => ∃ w, atI ws i = some w ∧ R w M
  | .rl ws, .int i, M, R => ∃ w, atI ws i = some w ∧ R w M
  | .sc ws, .int i, M, R => ∃ w, atI ws i = some w ∧ R w M
  | .dk kvs, y, M, R => ∃ w, dGet M (.dk kvs) y (some w) ∧ R w M
  | .dt kvs, y, M, R => ∃ w, dGet M (.dt kvs) y (some w) ∧ R w M
  | .str z, .int i, M, R => z.length ≤ sizeLine ∧ ∃ c, atI z.cps.toList i = some c ∧ R (.str ⟨#[c]⟩) M
  | .ref a, .int i, M, R => (∃ ws w, M a = some (.lst ws) ∧ atI ws i = some w ∧ R w M) ∨ ∃ w, dGet M (.ref a) (.int i) (some w) ∧ R w M
  | .ref a, y, M, R => ∃ w, dGet M (.ref a) y (some w) ∧ R w M
  | _, _, _, _ => False
theorem atI_up {K : PySem.W.Frag} {H : Hp} {M : Mm} {vs : List V} {ws : List W} {i : Int} {w : W} (q : AVs K H M vs ws) (h : atI ws i = some w) : ∃ v, atI vs i = some v ∧ AV K H M v w := by
  unfold atI at h ⊢
  rw [q.length]
  cases e : ixN ws.length i with
  | none => rw [e] at h; cases h
  | some j =>
    rw [e] at h
    exact q.getW (i := j) h
theorem ix_dict (hu : X.A.units + 1 < cLine) : IxR X (fun x y H Q => ∃ a v, x = .ref a ∧ DGet H a y (some v) ∧ Q v H) := by
  intro value slice pins s σ H x y v u Q I rx ry h hs
  obtain ⟨a, z, rfl, g, q⟩ := h
  cases rx
  exact tail_any (dict_typeIs I g) PySem.F.slot_dict_getitem.lookup (d_getItem hu I g ry fun w' s3 I3 rw' => ⟨z, H, I3, rw', q⟩) hs
theorem ix_up (hu : X.A.units + 1 < cLine) : IxR X (upO X.K rIx) := by
  rintro value slice pins s σ H x y v u Q I rx ry ⟨wx, wy, M, R, am, ax, ay, h, k⟩ hs
  have dict : (∃ w, dGet M wx wy (some w) ∧ R w M) → wpAny (model X.prog X.w) X.A (subscriptTail value slice v u) (EP X pins σ Q) X.xe s := fun ⟨w, g, r⟩ => by
    obtain ⟨a, e, g⟩ := dGet_up am ax ay g
    rcases g with ⟨z, _⟩ | ⟨z, w', e', g', av⟩
    · cases z
    · cases e'
      exact ix_dict hu value slice pins s σ H x y v u Q I rx ry ⟨a, z, e, g', k.at am av r⟩ hs
  cases ax <;> first | exact (show False from h).elim | skip
  case str z =>
    cases ay <;> first | exact (show False from h).elim | skip
    case int i =>
      obtain ⟨hz, c, e, r⟩ := h
      exact ix_str value slice pins s σ H _ _ v u Q I rx ry ⟨z, i, c, rfl, rfl, hz, e, k.at am (.str _) r⟩ hs
  case tup a xs ws e q =>
    cases ay <;> first | exact (show False from h).elim | skip
    case int i =>
      obtain ⟨w, e2, r⟩ := h
      obtain ⟨z, e3, av⟩ := atI_up q e2
      exact ix_tup value slice pins s σ H _ _ v u Q I rx ry ⟨a, xs, i, z, rfl, rfl, SqT.of e, e3, k.at am av r⟩ hs
  case dk a ks kvs e n ke q => exact dict (by cases ay <;> exact h)
  case dt a ks kvs e n ke q => exact dict (by cases ay <;> exact h)
  case rl a xs ws e _ q =>
    cases ay <;> first | exact (show False from h).elim | skip
    case int i =>
      obtain ⟨w, e2, r⟩ := h
      obtain ⟨z, e3, av⟩ := atI_up q e2
      exact ix_list value slice pins s σ H _ _ v u Q I rx ry ⟨a, xs, i, z, rfl, rfl, SqL.of e, e3, k.at am av r⟩ hs
  case sc a xs ws e q =>
    cases ay <;> first | exact (show False from h).elim | skip
    case int i =>
      obtain ⟨w, e2, r⟩ := h
      obtain ⟨z, e3, av⟩ := atI_up q e2
      exact ix_list value slice pins s σ H _ _ v u Q I rx ry ⟨a, xs, i, z, rfl, rfl, e.sq, e3, k.at am av r⟩ hs
  case ref a =>
    cases ay <;> first | exact dict h | skip
    case int i =>
      rcases h with ⟨ws, w, e, e2, r⟩ | h
      · obtain ⟨vs, f, q⟩ := am.lst e
        obtain ⟨z, e3, av⟩ := atI_up q e2
        exact ix_list value slice pins s σ H _ _ v u Q I rx ry ⟨a, vs, i, z, rfl, rfl, SqL.of f, e3, k.at am av r⟩ hs
      · exact dict h
variable {a b : Expr} {ta tb : TE3} {pos : Pos}
theorem v_ix (hu : X.A.units + 1 < cLine) (ha : E3 X a ta) (hb : E3 X b tb) (hs : PlainIx b := by exact fun _ _ => rfl) : E3 X (.Subscript a b pos) (vOp rIx ta tb) := (pe_ix (ix_up hu) ha hb hs).weak fun _ _ _ h => vOp_up h
def cutW (ws : List W) (lo hi : Option Int) : List W := (ws.drop (HT.sIx ws.length 0 lo)).take (HT.sIx ws.length ws.length hi - HT.sIx ws.length 0 lo)
def rSl : W → Option Int → Option Int → Mm → K3 → Prop
  | .rl ws, lo, hi, M, R => New (cutW ws lo hi) M R
  | .sc ws, lo, hi, M, R => New (cutW ws lo hi) M R
  | .ref a, lo, hi, M, R => ∃ ws, M a = some (.lst ws) ∧ New (cutW ws lo hi) M R
  | .tup ws, lo, hi, M, R => ¬ (HT.sIx ws.length 0 lo = 0 ∧ HT.sIx ws.length ws.length hi = ws.length) ∧ R (.tup (cutW ws lo hi)) M
  | _, _, _, _, _ => False
theorem cut_up {K : PySem.W.Frag} {H : Hp} {M : Mm} {vs : List V} {ws : List W} {lo hi : Option Int} (q : AVs K H M vs ws) : AVs K H M (cutV vs lo hi) (cutW ws lo hi) := by
  unfold cutV cutW
  rw [q.length]
  exact (q.drop _).take _
def upSl (K : PySem.W.Frag) (r : W → Option Int → Option Int → Mm → K3 → Prop) : V → Option Int → Option Int → Hp → VK → Prop := fun x lo hi H Q => ∃ wx M R, AM K H M ∧ AV K H M x wx ∧ r wx lo hi M R ∧ Up K H M R Q
theorem sl_up : SlR X (upSl X.K rSl) := by
  rintro pins s σ H x v vl vu lo hi sl Q I rx hs pl pu ⟨wx, M, R, am, ax, h, k⟩
  cases ax <;> first | exact (show False from h).elim | skip
  case tup a xs ws e q => exact sl_tup pins s σ H _ v vl vu lo hi sl Q I rx hs pl pu ⟨a, xs, rfl, SqT.of e, by rw [q.length]; exact h.1, fun p hp => laidT am k hp (cut_up q) h.2⟩
  case sc a xs ws e q => exact sl_list pins s σ H _ v vl vu lo hi sl Q I rx hs pl pu ⟨a, xs, rfl, e.sq, fun p hp => laidL am k hp (cut_up q) h⟩
  case rl a xs ws e _ q => exact sl_list pins s σ H _ v vl vu lo hi sl Q I rx hs pl pu ⟨a, xs, rfl, SqL.of e, fun p hp => laidL am k hp (cut_up q) h⟩
  case ref a =>
    obtain ⟨ws, e, r⟩ := h
    obtain ⟨vs, f, q⟩ := am.lst e
    exact sl_list pins s σ H _ v vl vu lo hi sl Q I rx hs pl pu ⟨a, vs, rfl, SqL.of f, fun p hp => laidL am k hp (cut_up q) r⟩
abbrev TO3 := S3 → Mm → (Option Int → Mm → Prop) → Prop
def upOp (K : PySem.W.Frag) (t : TO3) : TO := fun σ H Q => ∃ (τ : S3) (M : Mm) (R : Option Int → Mm → Prop), AS K H M σ τ ∧ AM K H M ∧ t τ M R ∧ ∀ o H' M', Kp H M H' M' → AM K H' M' → R o M' → Q o H'
def sNo : TO3 := fun _ M Q => Q none M
def sPt (t : TE3) : TO3 := fun τ M Q => t τ M fun x M1 => ∃ i, x = .int i ∧ Q (some i) M1
theorem s_none : PO X none (upOp X.K sNo) := po_none.weak fun σ H Q ⟨τ, M, R, as, am, h, k⟩ => k none H M (Kp.refl am) am h
theorem s_some (h : E3 X a ta) : PO X (some a) (upOp X.K (sPt ta)) := (po_some h).weak fun σ H Q ⟨τ, M, R, as, am, h, k⟩ => ⟨τ, M, _, as, am, h, fun x H1 wx M1 k1 am1 ax ⟨i, e, h1⟩ => by
  subst e; cases ax; exact ⟨i, rfl, k _ _ _ k1 am1 h1⟩⟩
def vSl (ta : TE3) (tl th : TO3) : TE3 := fun τ M R => ta τ M fun x M1 => tl τ M1 fun l M2 => th τ M2 fun u M3 => rSl x l u M3 R
def flatW : W → Bool
  | .non => true
  | .bl _ => true
  | .int _ => true
  | .str _ => true
  | _ => false
def eqW : W → W → Bool
  | .non, .non => true
  | .bl a, .bl b => a == b
  | .bl a, .int b => (if a then 1 else 0) == b
  | .int a, .bl b => a == (if b then 1 else 0)
  | .int a, .int b => a == b
  | .str a, .str b => a == b
  | _, _ => false
def inW (x : W) (ws : List W) : Bool := ws.any fun y => eqW y x
theorem AV.flat {K : PySem.W.Frag} {H : Hp} {M : Mm} {v : V} {w : W} (h : AV K H M v w) (f : flatW w = true) : flatV v = true := by cases h <;> first | rfl | exact f
theorem AV.eq {K : PySem.W.Frag} {H : Hp} {M : Mm} {v u : V} {w z : W} (h : AV K H M v w) (h2 : AV K H M u z) (f : flatW w = true) (f2 : flatW z = true) : eqV v u = eqW w z := by
  cases h <;> cases h2 <;> first | rfl | (exact absurd f Bool.false_ne_true) | (exact absurd f2 Bool.false_ne_true)
theorem AVs.inn {K : PySem.W.Frag} {H : Hp} {M : Mm} {u : V} {z : W} (hz : AV K H M u z) (fz : flatW z = true) : ∀ {vs : List V} {ws : List W}, AVs K H M vs ws → ws.all flatW = true → vs.all flatV = true ∧ inV u vs = inW z ws
  | _, _, .nil, _ => ⟨rfl, rfl⟩
  | _, _, .cons x r, f => by
    rw [List.all_cons, Bool.and_eq_true] at f
    obtain ⟨h1, h2⟩ := AVs.inn hz fz r f.2
    refine ⟨by rw [List.all_cons, x.flat f.1, h1]; rfl, ?_⟩
    unfold inV inW at h2 ⊢
    rw [List.any_cons, List.any_cons, h2, x.eq hz f.1 fz]
def occ (i j : Str) : Bool := !(Builtin.Str.occurrences j i 0 j.length 1).isEmpty
def rIn (neg : Bool) : R3
  | .str i, .str j, M, R => R (.bl (if neg then !occ i j else occ i j)) M
  | x, .tup ws, M, R => flatW x = true ∧ ws.all flatW = true ∧ R (.bl (if neg then !inW x ws else inW x ws)) M
  | x, .rl ws, M, R => flatW x = true ∧ ws.all flatW = true ∧ R (.bl (if neg then !inW x ws else inW x ws)) M
  | x, .ref a, M, R => (∃ ws, M a = some (.lst ws) ∧ flatW x = true ∧ ws.all flatW = true ∧ R (.bl (if neg then !inW x ws else inW x ws)) M) ∨ ∃ o, dGet M (.ref a) x o ∧ R (.bl (if neg then !o.isSome else o.isSome)) M
  | x, .dk kvs, M, R => ∃ o, dGet M (.dk kvs) x o ∧ R (.bl (if neg then !o.isSome else o.isSome)) M
  | x, .dt kvs, M, R => ∃ o, dGet M (.dt kvs) x o ∧ R (.bl (if neg then !o.isSome else o.isSome)) M
  | _, _, _, _ => False
theorem o_in (hu : X.A.units + 1 < cLine) : OpR X (compareOp .In) (upO X.K (rIn false)) := by
  rintro pins s σ H x y v u Q I rx ry ⟨wx, wy, M, R, am, ax, ay, h, k⟩
  have dict : ∀ {y : V} {u : Value} {wy : W}, RelV y u → AV X.K H M y wy → ∀ o, dGet M wy wx o → R (.bl (o.isSome)) M → wpAny (model X.prog X.w) X.A (compareOp .In v u) (EP X pins σ Q) X.xe s := fun {y u wy} ry ay o g r => by
    obtain ⟨a, rfl, g⟩ := dGet_up am ay ax g
    cases ry
    rcases g with ⟨rfl, g'⟩ | ⟨z, w, rfl, g', av⟩
    · exact d_in hu I g' rx fun s3 I3 => ⟨.bl false, H, I3, rfl, k.at am (.bl _) r⟩
    · exact d_in hu I g' rx fun s3 I3 => ⟨.bl true, H, I3, rfl, k.at am (.bl _) r⟩
  cases ay <;> first | (cases wx <;> exact (show False from h).elim) | skip
  case str j =>
    cases ax <;> first | exact (show False from h).elim | skip
    case str i => exact op_in_str pins s σ H _ _ v u Q I rx ry ⟨i, j, rfl, rfl, k.at am (.bl _) h⟩
  case tup a xs ws e q =>
    have h : flatW wx = true ∧ ws.all flatW = true ∧ R (.bl (inW wx ws)) M := by cases wx <;> exact h
    obtain ⟨h1, h2⟩ := AVs.inn ax h.1 q h.2.1
    exact op_in_seq pins s σ H _ _ v u Q I rx ry ⟨a, xs, rfl, .inr (SqT.of e), ax.flat h.1, h1, by rw [h2]; exact k.at am (.bl _) h.2.2⟩
  case rl a xs ws e _ q =>
    have h : flatW wx = true ∧ ws.all flatW = true ∧ R (.bl (inW wx ws)) M := by cases wx <;> exact h
    obtain ⟨h1, h2⟩ := AVs.inn ax h.1 q h.2.1
    exact op_in_seq pins s σ H _ _ v u Q I rx ry ⟨a, xs, rfl, .inl (SqL.of e), ax.flat h.1, h1, by rw [h2]; exact k.at am (.bl _) h.2.2⟩
  case dk a ks kvs e n ke q =>
    have h : ∃ o, dGet M (.dk kvs) wx o ∧ R (.bl (o.isSome)) M := by cases wx <;> exact h
    obtain ⟨o, g, r⟩ := h
    exact dict ry (.dk e n ke q) o g r
  case dt a ks kvs e n ke q =>
    have h : ∃ o, dGet M (.dt kvs) wx o ∧ R (.bl (o.isSome)) M := by cases wx <;> exact h
    obtain ⟨o, g, r⟩ := h
    exact dict ry (.dt e n ke q) o g r
  case ref a =>
    have h : (∃ ws, M a = some (.lst ws) ∧ flatW wx = true ∧ ws.all flatW = true ∧ R (.bl (inW wx ws)) M) ∨ ∃ o, dGet M (.ref a) wx o ∧ R (.bl o.isSome) M := by cases wx <;> exact h
    rcases h with ⟨ws, e, h⟩ | ⟨o, g, r⟩
    · obtain ⟨vs, f, q⟩ := am.lst e
      obtain ⟨h1, h2⟩ := AVs.inn ax h.1 q h.2.1
      exact op_in_seq pins s σ H _ _ v u Q I rx ry ⟨a, vs, rfl, .inl (SqL.of f), ax.flat h.1, h1, by rw [h2]; exact k.at am (.bl _) h.2.2⟩
    · exact dict ry (.ref a) o g r
theorem o_notin (hu : X.A.units + 1 < cLine) : OpR X (compareOp .NotIn) (upO X.K (rIn true)) := by
  rintro pins s σ H x y v u Q I rx ry ⟨wx, wy, M, R, am, ax, ay, h, k⟩
  have dict : ∀ {y : V} {u : Value} {wy : W}, RelV y u → AV X.K H M y wy → ∀ o, dGet M wy wx o → R (.bl (!o.isSome)) M → wpAny (model X.prog X.w) X.A (compareOp .NotIn v u) (EP X pins σ Q) X.xe s := fun {y u wy} ry ay o g r => by
    obtain ⟨a, rfl, g⟩ := dGet_up am ay ax g
    cases ry
    rcases g with ⟨rfl, g'⟩ | ⟨z, w, rfl, g', av⟩
    · exact d_notIn hu I g' rx fun s3 I3 => ⟨.bl true, H, I3, rfl, k.at am (.bl _) r⟩
    · exact d_notIn hu I g' rx fun s3 I3 => ⟨.bl false, H, I3, rfl, k.at am (.bl _) r⟩
  cases ay <;> first | (cases wx <;> exact (show False from h).elim) | skip
  case str j =>
    cases ax <;> first | exact (show False from h).elim | skip
    case str i => exact op_notin_str pins s σ H _ _ v u Q I rx ry ⟨i, j, rfl, rfl, k.at am (.bl _) h⟩
  case tup a xs ws e q =>
    have h : flatW wx = true ∧ ws.all flatW = true ∧ R (.bl (!inW wx ws)) M := by cases wx <;> exact h
    obtain ⟨h1, h2⟩ := AVs.inn ax h.1 q h.2.1
    exact op_notIn_seq pins s σ H _ _ v u Q I rx ry ⟨a, xs, rfl, .inr (SqT.of e), ax.flat h.1, h1, by rw [h2]; exact k.at am (.bl _) h.2.2⟩
  case rl a xs ws e _ q =>
    have h : flatW wx = true ∧ ws.all flatW = true ∧ R (.bl (!inW wx ws)) M := by cases wx <;> exact h
    obtain ⟨h1, h2⟩ := AVs.inn ax h.1 q h.2.1
    exact op_notIn_seq pins s σ H _ _ v u Q I rx ry ⟨a, xs, rfl, .inl (SqL.of e), ax.flat h.1, h1, by rw [h2]; exact k.at am (.bl _) h.2.2⟩
  case dk a ks kvs e n ke q =>
    have h : ∃ o, dGet M (.dk kvs) wx o ∧ R (.bl (!o.isSome)) M := by cases wx <;> exact h
    obtain ⟨o, g, r⟩ := h
    exact dict ry (.dk e n ke q) o g r
  case dt a ks kvs e n ke q =>
    have h : ∃ o, dGet M (.dt kvs) wx o ∧ R (.bl (!o.isSome)) M := by cases wx <;> exact h
    obtain ⟨o, g, r⟩ := h
    exact dict ry (.dt e n ke q) o g r
  case ref a =>
    have h : (∃ ws, M a = some (.lst ws) ∧ flatW wx = true ∧ ws.all flatW = true ∧ R (.bl (!inW wx ws)) M) ∨ ∃ o, dGet M (.ref a) wx o ∧ R (.bl (!o.isSome)) M := by cases wx <;> exact h
    rcases h with ⟨ws, e, h⟩ | ⟨o, g, r⟩
    · obtain ⟨vs, f, q⟩ := am.lst e
      obtain ⟨h1, h2⟩ := AVs.inn ax h.1 q h.2.1
      exact op_notIn_seq pins s σ H _ _ v u Q I rx ry ⟨a, vs, rfl, .inl (SqL.of f), ax.flat h.1, h1, by rw [h2]; exact k.at am (.bl _) h.2.2⟩
    · exact dict ry (.ref a) o g r
def rLen : List W → Mm → K3 → Prop
  | [.tup ws], M, R => R (.int ws.length) M
  | [.rl ws], M, R => R (.int ws.length) M
  | [.sc ws], M, R => R (.int ws.length) M
  | [.dk kvs], M, R => R (.int kvs.length) M
  | [.str z], M, R => z.length ≤ sizeLine ∧ R (.int z.length) M
  | [.ref a], M, R => (∃ ws, M a = some (.lst ws) ∧ R (.int ws.length) M) ∨ ∃ kvs, M a = some (.dK kvs) ∧ R (.int kvs.length) M
  | _, _, _ => False
theorem AVs.one {K : PySem.W.Frag} {H : Hp} {M : Mm} {vs : List V} {w : W} (h : AVs K H M vs [w]) : ∃ v, vs = [v] ∧ AV K H M v w := by
  cases h with
  | cons x r => cases r; exact ⟨_, rfl, x⟩
theorem AVs.two {K : PySem.W.Frag} {H : Hp} {M : Mm} {vs : List V} {w z : W} (h : AVs K H M vs [w, z]) : ∃ v u, vs = [v, u] ∧ AV K H M v w ∧ AV K H M u z := by
  cases h with
  | cons x r => obtain ⟨u, rfl, y⟩ := r.one; exact ⟨_, _, rfl, x, y⟩
theorem c_len : CallR X (.builtin "len") (upC X.K rLen) := by
  rintro pins s σ H xs us Q I rs ⟨ws, M, R, am, axs, h, k⟩
  match ws, h with
  | [.tup ws], h =>
    obtain ⟨v, rfl, av⟩ := axs.one
    cases av with
    | tup e q => exact call_len_seq pins s σ H _ us Q I rs ⟨_, _, rfl, .inr (SqT.of e), by rw [q.length]; exact k.at am (.int _) h⟩
  | [.rl ws], h =>
    obtain ⟨v, rfl, av⟩ := axs.one
    cases av with
    | rl e _ q => exact call_len_seq pins s σ H _ us Q I rs ⟨_, _, rfl, .inl (SqL.of e), by rw [q.length]; exact k.at am (.int _) h⟩
  | [.sc ws], h =>
    obtain ⟨v, rfl, av⟩ := axs.one
    cases av with
    | sc e q => exact call_len_seq pins s σ H _ us Q I rs ⟨_, _, rfl, .inl e.sq, by rw [q.length]; exact k.at am (.int _) h⟩
  | [.dk kvs], h =>
    obtain ⟨v, rfl, av⟩ := axs.one
    cases av with
    | dk e n ke q => exact call_lenD pins s σ H _ us Q I rs ⟨_, _, rfl, e, by rw [Paired.length (pkv_of ke q)]; exact k.at am (.int _) h⟩
  | [.str z], h =>
    obtain ⟨v, rfl, av⟩ := axs.one
    cases av
    exact call_len_str pins s σ H _ us Q I rs ⟨z, rfl, h.1, k.at am (.int _) h.2⟩
  | [.ref a], h =>
    obtain ⟨v, rfl, av⟩ := axs.one
    cases av
    rcases h with ⟨ws, e, r⟩ | ⟨kvs, e, r⟩
    · obtain ⟨vs, f, q⟩ := am.lst e
      exact call_len_seq pins s σ H _ us Q I rs ⟨_, _, rfl, .inl (SqL.of f), by rw [q.length]; exact k.at am (.int _) r⟩
    · obtain ⟨ks, f, q⟩ := am _ _ e
      exact call_lenD pins s σ H _ us Q I rs ⟨a, ks, rfl, f, by rw [Paired.length q]; exact k.at am (.int _) r⟩
def rList : List W → Mm → K3 → Prop
  | [.tup ws], M, R => New ws M R
  | [.rl ws], M, R => New ws M R
  | [.sc ws], M, R => New ws M R
  | [.dk kvs], M, R => New (kvs.map fun kv => wK kv.1) M R
  | [.ref a], M, R => (∃ ws, M a = some (.lst ws) ∧ New ws M R) ∨ ∃ kvs, M a = some (.dK kvs) ∧ New (kvs.map fun kv => wK kv.1) M R
  | _, _, _ => False
theorem pkv_keys {K : PySem.W.Frag} {H : Hp} {M : Mm} {ks : List (Key × V)} {kvs : List (Key × W)} (h : PKV K H M Key ks kvs) : AVs K H M (ks.map fun kv => kV kv.1) (kvs.map fun kv => wK kv.1) := by
  induction h with
  | nil => exact .nil
  | @cons p q ps qs r t ih =>
    refine .cons ?_ ih
    show AV K H M (kV p.1) (wK q.1)
    rw [r.1]
    cases q.1 with
    | inl i => exact .int i
    | inr x => exact .str x
theorem c_list (hc : X.calm = true) : CallR X (.type "list") (upC X.K rList) := by
  rintro pins s σ H xs us Q I rs ⟨ws, M, R, am, axs, h, k⟩
  match ws, h with
  | [.tup ws], h =>
    obtain ⟨v, rfl, av⟩ := axs.one
    cases av with
    | tup e q => exact call_list_of pins s σ H _ us Q I rs ⟨_, _, rfl, .inr (SqT.of e), fun p hp => laidL am k hp q h⟩
  | [.rl ws], h =>
    obtain ⟨v, rfl, av⟩ := axs.one
    cases av with
    | rl e _ q => exact call_list_of pins s σ H _ us Q I rs ⟨_, _, rfl, .inl (SqL.of e), fun p hp => laidL am k hp q h⟩
  | [.sc ws], h =>
    obtain ⟨v, rfl, av⟩ := axs.one
    cases av with
    | sc e q => exact call_list_of pins s σ H _ us Q I rs ⟨_, _, rfl, .inl e.sq, fun p hp => laidL am k hp q h⟩
  | [.dk kvs], h =>
    obtain ⟨v, rfl, av⟩ := axs.one
    cases av with
    | dk e n ke q => exact call_list_dict hc pins s σ H _ us Q I rs ⟨_, _, rfl, e, fun p hp => laidL am k hp (pkv_keys (pkv_of ke q)) h⟩
  | [.ref a], h =>
    obtain ⟨v, rfl, av⟩ := axs.one
    cases av
    rcases h with ⟨ws, e, r⟩ | ⟨kvs, e, r⟩
    · obtain ⟨vs, f, q⟩ := am.lst e
      exact call_list_of pins s σ H _ us Q I rs ⟨_, _, rfl, .inl (SqL.of f), fun p hp => laidL am k hp q r⟩
    · obtain ⟨ks, f, q⟩ := am _ _ e
      exact call_list_dict hc pins s σ H _ us Q I rs ⟨a, ks, rfl, f, fun p hp => laidL am k hp (pkv_keys q) r⟩
def rTuple : List W → Mm → K3 → Prop
  | [.tup ws], M, R => R (.tup ws) M
  | [.rl ws], M, R => R (.tup ws) M
  | [.ref a], M, R => ∃ ws, M a = some (.lst ws) ∧ R (.tup ws) M
  | _, _, _ => False
theorem c_tuple : CallR X (.type "tuple") (upC X.K rTuple) := by
  rintro pins s σ H xs us Q I rs ⟨ws, M, R, am, axs, h, k⟩
  match ws, h with
  | [.tup ws], h =>
    obtain ⟨v, rfl, av⟩ := axs.one
    cases av with
    | tup e q => exact call_tuple_of pins s σ H _ us Q I rs ⟨_, _, rfl, .inr ⟨SqT.of e, k.at am (.tup e q) h⟩⟩
  | [.rl ws], h =>
    obtain ⟨v, rfl, av⟩ := axs.one
    cases av with
    | rl e _ q => exact call_tuple_of pins s σ H _ us Q I rs ⟨_, _, rfl, .inl ⟨SqL.of e, fun p hp => laidT am k hp q h⟩⟩
  | [.ref a], h =>
    obtain ⟨v, rfl, av⟩ := axs.one
    cases av
    obtain ⟨ws, e, r⟩ := h
    obtain ⟨vs, f, q⟩ := am.lst e
    exact call_tuple_of pins s σ H _ us Q I rs ⟨_, _, rfl, .inl ⟨SqL.of f, fun p hp => laidT am k hp q r⟩⟩
def rStr : List W → Mm → K3 → Prop
  | [.int i], M, R => i.natAbs.log2 < 1920 ∧ R (.str (toString i)) M
  | _, _, _ => False
theorem c_str : CallR X (.type "str") (upC X.K rStr) := by
  rintro pins s σ H xs us Q I rs ⟨ws, M, R, am, axs, h, k⟩
  match ws, h with
  | [.int i], h =>
    obtain ⟨v, rfl, av⟩ := axs.one
    cases av
    exact call_str_int pins s σ H _ us Q I rs ⟨i, rfl, h.1, k.at am (.str _) h.2⟩
def bools (bs : List Bool) : List W := bs.map W.bl
theorem AVs.bools {K : PySem.W.Frag} {H : Hp} {M : Mm} : ∀ {bs : List Bool} {vs : List V}, AVs K H M vs (L3.bools bs) → vs = bs.map V.bl
  | [], _, h => by cases h; rfl
  | b :: r, _, h => by
    cases h with
    | cons x y => cases x; rw [AVs.bools y]; rfl
theorem AVs.ints {K : PySem.W.Frag} {H : Hp} {M : Mm} : ∀ {bs : List Int} {vs : List V}, AVs K H M vs (bs.map W.int) → vs = bs.map V.int
  | [], _, h => by cases h; rfl
  | b :: r, _, h => by
    cases h with
    | cons x y => cases x; rw [AVs.ints y]; rfl
def rAll : List W → Mm → K3 → Prop
  | [.ref a], M, R => ∃ bs, M a = some (.lst (bools bs)) ∧ R (.bl (bs.all id)) M
  | [.rl ws], M, R => ∃ bs, ws = bools bs ∧ R (.bl (bs.all id)) M
  | _, _, _ => False
theorem c_all (hc : X.calm = true) : CallR X (.builtin "all") (upC X.K rAll) := by
  rintro pins s σ H xs us Q I rs ⟨ws, M, R, am, axs, h, k⟩
  match ws, h with
  | [.ref a], h =>
    obtain ⟨v, rfl, av⟩ := axs.one
    cases av
    obtain ⟨bs, e, r⟩ := h
    obtain ⟨vs, f, q⟩ := am.lst e
    rw [q.bools] at f
    exact call_all hc pins s σ H _ us Q I rs ⟨a, bs, rfl, SqL.of f, k.at am (.bl _) r⟩
  | [.rl ws], h =>
    obtain ⟨v, rfl, av⟩ := axs.one
    obtain ⟨bs, rfl, r⟩ := h
    cases av with
    | rl f _ q =>
      rw [q.bools] at f
      exact call_all hc pins s σ H _ us Q I rs ⟨_, bs, rfl, SqL.of f, k.at am (.bl _) r⟩
def rApp : W → List W → Mm → K3 → Prop
  | .ref l, [y], M, R => ∃ ws, M l = some (.lst ws) ∧ ws.length < sizeLine ∧ R .non (put M l (.lst (ws ++ [y])))
  | _, _, _, _ => False
theorem m_append : MtR X "list.append" (upM X.K rApp) := by
  rintro pins s σ H x xs v us Q I rx rs ⟨wx, ws, M, R, am, ax, axs, h, k⟩
  match wx, ws, h with
  | .ref l, [y], h =>
    obtain ⟨z, rfl, az⟩ := axs.one
    cases ax
    obtain ⟨ws, e, hl, r⟩ := h
    obtain ⟨vs, f, q⟩ := am.lst e
    exact mt_append pins s σ H _ _ v us Q I rx rs ⟨l, vs, z, rfl, rfl, f, by rw [q.length]; exact hl, wroteL am k e (q.append (.cons az .nil)) .non r⟩
def rExt : W → List W → Mm → K3 → Prop
  | .ref l, [.ref b], M, R => ∃ ws zs, M l = some (.lst ws) ∧ M b = some (.lst zs) ∧ ws.length + zs.length ≤ sizeLine ∧ R .non (put M l (.lst (ws ++ zs)))
  | .ref l, [.rl zs], M, R => ∃ ws, M l = some (.lst ws) ∧ ws.length + zs.length ≤ sizeLine ∧ R .non (put M l (.lst (ws ++ zs)))
  | _, _, _, _ => False
theorem m_extend : MtR X "list.extend" (upM X.K rExt) := by
  rintro pins s σ H x xs v us Q I rx rs ⟨wx, ws, M, R, am, ax, axs, h, k⟩
  match wx, ws, h with
  | .ref l, [.ref b], h =>
    obtain ⟨z, rfl, az⟩ := axs.one
    cases ax
    cases az
    obtain ⟨ws, zs, e, e2, hl, r⟩ := h
    obtain ⟨vs, f, q⟩ := am.lst e
    obtain ⟨vz, f2, q2⟩ := am.lst e2
    exact mt_extend pins s σ H _ _ v us Q I rx rs ⟨l, b, vs, vz, rfl, rfl, f, f2, by rw [q.length, q2.length]; exact hl, wroteL am k e (q.append q2) .non r⟩
  | .ref l, [.rl zs], h =>
    obtain ⟨z, rfl, az⟩ := axs.one
    cases ax
    cases az with
    | rl f2 _ q2 =>
      obtain ⟨ws, e, hl, r⟩ := h
      obtain ⟨vs, f, q⟩ := am.lst e
      exact mt_extend pins s σ H _ _ v us Q I rx rs ⟨l, _, vs, _, rfl, rfl, f, f2, by rw [q.length, q2.length]; exact hl, wroteL am k e (q.append q2) .non r⟩
def rPop : W → List W → Mm → K3 → Prop
  | .ref l, [], M, R => ∃ ws w, M l = some (.lst (ws ++ [w])) ∧ R w (put M l (.lst ws))
  | _, _, _, _ => False
theorem m_pop : MtR X "list.pop" (upM X.K rPop) := by
  rintro pins s σ H x xs v us Q I rx rs ⟨wx, ws, M, R, am, ax, axs, h, k⟩
  match wx, ws, h with
  | .ref l, [], h =>
    cases axs
    cases ax
    obtain ⟨ws, w, e, r⟩ := h
    obtain ⟨vs, f, q⟩ := am.lst e
    have hl := q.length
    rw [List.length_append, List.length_singleton] at hl
    obtain ⟨z, hz, az⟩ := q.getW (i := ws.length) (w := w) (by simp)
    refine mt_pop pins s σ H _ _ v us Q I rx rs ⟨l, vs, z, rfl, rfl, f, by rw [hl]; exact hz, wroteL am k e ?_ az r⟩
    have := q.dropLast
    rw [List.dropLast_concat] at this
    exact this
def vNewK : TE3 := fun _ M R => NewK [] M R
def vNewT : TE3 := fun _ M R => NewT [] M R
theorem v_dnewK : E3 X (.Dict [] [] pos) vNewK := pe_dnewK.weak fun σ H Q ⟨τ, M, R, as, am, h, k⟩ p hp => by
  obtain ⟨am2, k2⟩ := am.laid (o := .dK []) (u := .dK []) hp ⟨[], upd_same, .nil⟩
  exact k _ _ _ _ k2 am2 (.ref p) (h p (am.nonM hp))
end
end L3
set_option Elab.async false
set_option linter.all false
set_option maxRecDepth 100000
set_option maxHeartbeats 4000000
namespace L3
open PySem PySem.Spec PyProof.Rows L2
abbrev P3 (X : Cx) (st : Stmt) (t : TS3) : Prop := PS X st (upS X.K t)
abbrev Ps3 (X : Cx) (st : List Stmt) (t : TS3) : Prop := PSs X st (upS X.K t)
abbrev TG3 := W → S3 → Mm → (S3 → Mm → Prop) → Prop
abbrev TGs3 := List W → S3 → Mm → (S3 → Mm → Prop) → Prop
def upG (K : PySem.W.Frag) (g : TG3) : TG := fun v σ H Q => ∃ w τ M R, AV K H M v w ∧ AS K H M σ τ ∧ AM K H M ∧ g w τ M R ∧ UpS K H M R Q
def upGs (K : PySem.W.Frag) (g : TGs3) : TGs := fun vs σ H Q => ∃ ws τ M R, AVs K H M vs ws ∧ AS K H M σ τ ∧ AM K H M ∧ g ws τ M R ∧ UpS K H M R Q
section
variable {X : Cx} {pos : Pos}
theorem _root_.L2.PG.weak {e : Expr} {t t' : TG} (h : PG X e t) (k : ∀ v σ H Q, t' v σ H Q → t v σ H Q) : PG X e t' := fun pins s σ H v u Q I r q => h pins s σ H v u Q I r (k v σ H Q q)
theorem _root_.L2.PGs.weak {e : List Expr} {t t' : TGs} (h : PGs X e t) (k : ∀ v σ H Q, t' v σ H Q → t v σ H Q) : PGs X e t' := fun pins s σ H v u Q I r q => h pins s σ H v u Q I r (k v σ H Q q)
theorem UpS.at {K : PySem.W.Frag} {H : Hp} {M : Mm} {R : S3 → Mm → Prop} {Q : SV → Hp → Prop} (h : UpS K H M R Q) (am : AM K H M) {σ : SV} {τ : S3} (as : AS K H M σ τ) (r : R τ M) : Q σ H := h σ H τ M (Kp.refl am) am as r
def wName (i : Nat) : TG3 := fun w τ M R => R (τ.set i (some w)) M
theorem w_name {i : Nat} {x : Str} (hN : X.N.Nodup) (hi : X.N[i]? = some x) (hx : Loc X.env.scope x) (hf : X.fn x = true ∨ X.env.scope.names.lookup x = some .local := by first | exact .inl rfl | exact .inr rfl | assumption) : PG X (.Name x pos) (upG X.K (wName i)) :=
  (pg_name hN hi hx hf).weak fun v σ H Q ⟨w, τ, M, R, av, as, am, h, k⟩ => k.at am (as.set av i) h
def wNil : TGs3 := fun ws τ M R => ws = [] ∧ R τ M
def wCons (t : TG3) (u : TGs3) : TGs3 := fun ws τ M R => match ws with
  | w :: r => t w τ M fun τ' M' => u r τ' M' R
  | [] => False
theorem w_nil : PGs X [] (upGs X.K wNil) := pgs_nil.weak fun vs σ H Q ⟨ws, τ, M, R, av, as, am, ⟨e, h⟩, k⟩ => by
  subst e; cases av; exact ⟨rfl, k.at am as h⟩
theorem w_cons {e : Expr} {es : List Expr} {t : TG3} {u : TGs3} (h1 : PG X e (upG X.K t)) (h2 : PGs X es (upGs X.K u))
    (hs : (assignEach (e :: es) X.env).map (·.2) = assign e X.env :: (assignEach es X.env).map (·.2) := by rfl) : PGs X (e :: es) (upGs X.K (wCons t u)) :=
  (pgs_cons h1 h2 hs).weak fun vs σ H Q ⟨ws, τ, M, R, av, as, am, h, k⟩ => by
    cases av with
    | nil => exact (show False from h).elim
    | cons x r => exact ⟨_, _, rfl, _, τ, M, _, x, as, am, h, fun σ' H' τ' M' k' am' as' h' => ⟨_, τ', M', R, r.kp am k', as', am', h', k.kp k'⟩⟩
def wTup (n : Nat) (g : TGs3) : TG3 := fun w τ M R => match w with
  | .tup ws => ws.length = n ∧ g ws τ M R
  | .rl ws => ws.length = n ∧ g ws τ M R
  | .ref a => ∃ ws, M a = some (.lst ws) ∧ ws.length = n ∧ g ws τ M R
  | _ => False
theorem w_tup {es : List Expr} {k : Nat} {t : TGs3} {n : Nat} (hc : X.calm = true) (h : PGs X es (upGs X.K t))
    (hn : (assignEach es X.env).length = n := by rfl) (hst : (assignEach es X.env).findIdx? (·.1) = none := by rfl) : PG X (.Tuple es k pos) (upG X.K (wTup n t)) := by
  rintro pins s σ H v u Q I r ⟨w, τ, M, R, av, as, am, hw, kk⟩
  cases av <;> first | exact (show False from hw).elim | skip
  case tup a xs ws e q =>
    exact pg_tup hc h hn hst pins s σ H _ u Q I r ⟨a, xs, rfl, SqT.of e, by rw [q.length]; exact hw.1, _, τ, M, R, q, as, am, hw.2, kk⟩
  case rl a vs ws f _ q =>
    exact pg_lst hc h hn hst pins s σ H _ u Q I r ⟨a, vs, rfl, SqL.of f, by rw [q.length]; exact hw.1, _, τ, M, R, q, as, am, hw.2, kk⟩
  case ref a =>
    obtain ⟨ws, e, hl, hw⟩ := hw
    obtain ⟨vs, f, q⟩ := am.lst e
    exact pg_lst hc h hn hst pins s σ H _ u Q I r ⟨a, vs, rfl, SqL.of f, by rw [q.length]; exact hl, _, τ, M, R, q, as, am, hw, kk⟩
def vAsg (te : TE3) (g : TG3) : TS3 := fun D τ M => te τ M fun x M1 => g x τ M1 D.nx
theorem vAsg_up {K : PySem.W.Frag} {te : TE3} {g : TG3} {D : Ends} {σ : SV} {H : Hp} (h : upS K (vAsg te g) D σ H) : tAsg (up K te) (upG K g) D σ H := by
  obtain ⟨τ, M, D', as, am, h, k⟩ := h
  exact ⟨τ, M, _, as, am, h, fun x H1 wx M1 k1 am1 ax h1 => ⟨wx, τ, M1, D'.nx, ax, as.kp am k1, am1, h1, k.nx.kp k1⟩⟩
theorem s_asg {tg e : Expr} {te : TE3} {g : TG3} (he : E3 X e te) (hg : PG X tg (upG X.K g)) (hs : swapsWithSole [tg] e pos.line X.env = pure false := by rfl) (hw : swappedStores [tg] e X.env = pure none := by rfl)
    (h1 : (assignEach [tg] X.env).map (·.2) = [assign tg X.env] := by rfl) : P3 X (.Assign [tg] e pos) (vAsg te g) := (ps_asg he hg hs hw h1).weak fun _ _ _ h => vAsg_up h
def vSet (i : Nat) (te : TE3) : TS3 := fun D τ M => te τ M fun x M1 => D.nx (τ.set i (some x)) M1
theorem s_set {i : Nat} {x : Str} {e : Expr} {te : TE3} {pos' : Pos} (hN : X.N.Nodup) (hi : X.N[i]? = some x) (hx : Loc X.env.scope x) (he : E3 X e te) (hs : swapsWith e (some (.Name x pos')) pos.line X.env = pure false := by rfl) (hf : X.fn x = true ∨ X.env.scope.names.lookup x = some .local := by first | exact .inl rfl | exact .inr rfl | assumption) :
    P3 X (.Assign [.Name x pos'] e pos) (vSet i te) := (ps_set hN hi hx he hs hf).weak fun D σ H ⟨τ, M, D', as, am, h, k⟩ => ⟨τ, M, _, as, am, h, fun y H1 wy M1 k1 am1 ay h1 => k.nx _ _ _ _ k1 am1 ((as.kp am k1).set ay i) h1⟩
def rSetI (o i v : W) (M : Mm) (Q : Mm → Prop) : Prop := match o with
  | .ref a => (∃ ws k j, i = .int k ∧ M a = some (.lst ws) ∧ ixN ws.length k = some j ∧ Q (put M a (.lst (ws.set j v)))) ∨
      (∃ kvs k, i = wK k ∧ M a = some (.dK kvs) ∧ kvs.length < sizeLine ∧ Q (put M a (.dK (putW kvs k v)))) ∨
      ∃ kvs k, i = .tup (k.map wK) ∧ M a = some (.dT kvs) ∧ kvs.length < sizeLine ∧ Q (put M a (.dT (putW kvs k v)))
  | _ => False
def upSet (K : PySem.W.Frag) : TSet := fun o i v H Q => ∃ wo wi wv M R, AV K H M o wo ∧ AV K H M i wi ∧ AV K H M v wv ∧ AM K H M ∧ rSetI wo wi wv M R ∧ ∀ H' M', Kp H M H' M' → AM K H' M' → R M' → Q H'
theorem set_dict (hu : X.A.units + 1 < cLine) : PSet X (fun o i v H Q => ∃ a H', o = .ref a ∧ DPut H a i v H' ∧ Q H') := by
  intro pins s σ H o i v ov iv u Q I ro ri rv h
  obtain ⟨a, H', rfl, d, q⟩ := h
  cases ro
  exact d_setItem hu I d ri rv fun s4 I4 => ⟨H', I4, q⟩
theorem set_up (hu : X.A.units + 1 < cLine) : PSet X (upSet X.K) := by
  rintro pins s σ H o i v ov iv u Q I ro ri rv ⟨wo, wi, wv, M, R, ao, ai, av, am, h, k⟩
  cases ao <;> first | exact (show False from h).elim | skip
  case ref a =>
    rcases h with ⟨ws, n, j, rfl, e, hj, r⟩ | ⟨kvs, n, rfl, e, hl, r⟩ | ⟨kvs, n, rfl, e, hl, r⟩
    · cases ai
      obtain ⟨vs, f, q⟩ := am.lst e
      obtain ⟨am2, k2⟩ := am.write (o := .lst (ws.set j wv)) (u := .lst (vs.set j v)) e ⟨_, upd_same, (AVs.set av j q).wr am e⟩
      exact set_list pins s σ H _ _ v ov iv u Q I ro ri rv ⟨a, vs, n, j, rfl, rfl, f, by rw [q.length]; exact hj, k _ _ k2 am2 r⟩
    · obtain ⟨ks, f, q⟩ := am _ _ e
      rw [ai.key] at ri
      have z : AO X.K (upd H a (.dK (putK ks n v))) (put M a (.dK (putW kvs n wv))) a (.dK (putW kvs n wv)) := ⟨_, upd_same, Paired.mapP (pkv_put q n av) fun p q z => ⟨z.1, z.2.wr am e⟩⟩
      obtain ⟨am2, k2⟩ := am.write e z
      exact set_dict hu pins s σ H _ _ v ov iv u Q I ro ri rv ⟨a, _, rfl, DPut.k f (by rw [Paired.length q]; exact hl), k _ _ k2 am2 r⟩
    · obtain ⟨ks, f, q⟩ := am _ _ e
      cases ai with
      | tup eb qb =>
        have eb' := eb
        rw [qb.keys] at eb'
        have z : AO X.K (upd H a (.dT (putK ks n v))) (put M a (.dT (putW kvs n wv))) a (.dT (putW kvs n wv)) := ⟨_, upd_same, Paired.mapP (pkv_put q n av) fun p q z => ⟨z.1, z.2.wr am e⟩⟩
        obtain ⟨am2, k2⟩ := am.write e z
        exact set_dict hu pins s σ H _ _ v ov iv u Q I ro ri rv ⟨a, _, rfl, DPut.t f eb' (by rw [Paired.length q]; exact hl), k _ _ k2 am2 r⟩
def wSub (to ti : TE3) : TG3 := fun w τ M R => to τ M fun o M1 => ti τ M1 fun i M2 => rSetI o i w M2 fun M3 => R τ M3
theorem w_sub {o i : Expr} {to ti : TE3} (hu : X.A.units + 1 < cLine) (ho : E3 X o to) (hi : E3 X i ti)
    (ha : ∀ v, assign (.Subscript o i pos) X.env v = (do
      let ov ← holding [v] (eval o X.env)
      let iv ← holding [v, ov] (eval i X.env)
      standAt pos
      holding [v, ov, iv] (setItem ov iv v)
      release [v, ov, iv] []) := by intro _; rfl) : PG X (.Subscript o i pos) (upG X.K (wSub to ti)) :=
  (pg_sub ho hi (set_up hu) ha).weak fun v σ H Q ⟨w, τ, M, R, av, as, am, h, k⟩ => ⟨τ, M, _, as, am, h, fun o H1 wo M1 k1 am1 ao h1 => ⟨τ, M1, _, as.kp am k1, am1, h1, fun i H2 wi M2 k2 am2 ai h2 =>
    ⟨wo, wi, w, M2, _, ao.kp am1 k2, ai, (av.kp am k1).kp am1 k2, am2, h2, fun H' M' k' am' r => k _ _ _ _ ((k1.trans k2).trans k') am' (((as.kp am k1).kp am1 k2).kp am2 k') r⟩⟩⟩
def vNext : TS3 := fun D τ M => D.nx τ M
def vSeq (t u : TS3) : TS3 := fun D τ M => t { D with nx := u D } τ M
variable {st : Stmt} {rest : List Stmt} {t u : TS3} {e : Expr} {te : TE3}
theorem ss_nil : Ps3 X [] vNext := pss_nil.weak fun D σ H ⟨τ, M, D', as, am, h, k⟩ => k.nx.at am as h
theorem ss_cons (h1 : P3 X st t) (h2 : Ps3 X rest u) : Ps3 X (st :: rest) (vSeq t u) := (pss_cons h1 h2).weak fun D σ H ⟨τ, M, D', as, am, h, k⟩ =>
  ⟨τ, M, _, as, am, h, ⟨fun σ' H' τ' M' k' am' as' h' => ⟨τ', M', D', as', am', h', k.kp k'⟩, k.rt, k.bk, k.ct⟩⟩
theorem ss_one (h1 : P3 X st t) : Ps3 X [st] t := pss_one h1
def vDrop (te : TE3) : TS3 := fun D τ M => te τ M fun _ M1 => D.nx τ M1
theorem s_expr (he : E3 X e te) (hs : swapsWith e none pos.line X.env = pure false := by rfl) : P3 X (.Expr e pos) (vDrop te) := (ps_expr he hs).weak fun D σ H ⟨τ, M, D', as, am, h, k⟩ =>
  ⟨τ, M, _, as, am, h, fun v H' w M' k' am' av r => k.nx _ _ _ _ k' am' (as.kp am k') r⟩
def vRet (te : TE3) : TS3 := fun D τ M => te τ M D.rt
theorem s_ret (he : E3 X e te) : P3 X (.Return (some e) pos) (vRet te) := (ps_ret he).weak fun D σ H ⟨τ, M, D', as, am, h, k⟩ => ⟨τ, M, _, as, am, h, k.rt⟩
def vIfS (c : TT3) (t u : TS3) : TS3 := fun D τ M => c τ M fun b M1 => if b = true then t D τ M1 else u D τ M1
theorem s_if {c : Expr} {a b : List Stmt} {tc : TT3} (hc : T3 X c tc) (ha : Ps3 X a t) (hb : Ps3 X b u) : P3 X (.If c a b pos) (vIfS tc t u) := (ps_if hc ha hb).weak fun D σ H ⟨τ, M, D', as, am, h, k⟩ =>
  ⟨τ, M, _, as, am, h, fun b H1 M1 k1 am1 h1 => by
    cases b with
    | true => exact ⟨τ, M1, D', as.kp am k1, am1, h1, k.kp k1⟩
    | false => exact ⟨τ, M1, D', as.kp am k1, am1, h1, k.kp k1⟩⟩
theorem s_never : P3 X st (fun _ _ _ => False) := ps_never.weak fun D σ H ⟨τ, M, D', as, am, h, k⟩ => h.elim
def vWhile (c : TT3) (tb : TS3) : TS3 := fun D τ M => ∃ Pv : Nat → S3 → Mm → Prop, (∃ m, Pv m τ M) ∧ ∀ m τ M, Pv m τ M →
  c τ M fun b M1 => if b = true then tb { D with nx := fun τ' M' => ∃ m' M'', m' < m ∧ Sub M'' M' ∧ Pv m' τ' M'', ct := fun τ' M' => ∃ m' M'', m' < m ∧ Sub M'' M' ∧ Pv m' τ' M'', bk := D.nx } τ M1 else D.nx τ M1
theorem s_while {c : Expr} {body : List Stmt} {tc : TT3} {tb : TS3} (hp : PassesOwn (model X.prog X.w) X.A X.env X.xe) (hc : T3 X c tc) (hb : Ps3 X body tb) : P3 X (.While c body [] pos) (vWhile tc tb) :=
  (ps_while hp hc hb).weak fun D σ H ⟨τ, M, D', as, am, ⟨Pv, ⟨m, h0⟩, h⟩, k⟩ => by
    refine ⟨fun m σ' H' => ∃ τ' M', Kp H M H' M' ∧ AM X.K H' M' ∧ AS X.K H' M' σ' τ' ∧ Pv m τ' M', ⟨m, τ, M, Kp.refl am, am, as, h0⟩, ?_⟩
    rintro m σ1 H1 ⟨τ1, M1, k1, am1, as1, p1⟩
    refine ⟨τ1, M1, _, as1, am1, h m τ1 M1 p1, fun b H2 M2 k2 am2 h2 => ?_⟩
    cases b with
    | false => exact k.nx _ _ _ _ (k1.trans k2) am2 (as1.kp am1 k2) h2
    | true =>
      have h2 : tb { D' with nx := fun τ' M' => ∃ m' M'', m' < m ∧ Sub M'' M' ∧ Pv m' τ' M'', ct := fun τ' M' => ∃ m' M'', m' < m ∧ Sub M'' M' ∧ Pv m' τ' M'', bk := D'.nx } τ1 M2 := h2
      refine ⟨fun σ' H' => ∃ m' τ' M', m' < m ∧ Kp H M H' M' ∧ AM X.K H' M' ∧ AS X.K H' M' σ' τ' ∧ Pv m' τ' M', fun σ' H' ⟨m', τ', M', q1, q2, q3, q4, q5⟩ => ⟨m', q1, τ', M', q2, q3, q4, q5⟩, τ1, M2, _, as1.kp am1 k2, am2, h2, ?_⟩
      have again : UpS X.K H2 M2 (fun τ' M' => ∃ m' M'', m' < m ∧ Sub M'' M' ∧ Pv m' τ' M'') (fun σ' H' => ∃ m' τ' M', m' < m ∧ Kp H M H' M' ∧ AM X.K H' M' ∧ AS X.K H' M' σ' τ' ∧ Pv m' τ' M') :=
        fun σ' H' τ' M' k' am' as' ⟨m', M'', q1, q2, q3⟩ => ⟨m', τ', M'', q1, ((k1.trans k2).trans k').sub q2, am'.sub q2, as'.sub q2, q3⟩
      exact ⟨again, (k.rt.kp k1).kp k2, (k.nx.kp k1).kp k2, again⟩
abbrev TI3 := S3 → Mm → (List W → (Mm → Prop) → Mm → Prop) → Prop
structure ItOk (K : PySem.W.Frag) (H0 : Hp) (M0 : Mm) (J : It) (ws : List W) (keep : Mm → Prop) : Prop where
  go : ∀ i H M, Kp H0 M0 H M → AM K H M → keep M → i < ws.length → J.go i H
  stop : ∀ H M, Kp H0 M0 H M → AM K H M → keep M → J.stop ws.length H
  yld : ∀ i H M x H', Kp H0 M0 H M → AM K H M → keep M → i < ws.length → J.yld i H x H' → ∃ w, ws[i]? = some w ∧ Kp H M H' M ∧ AM K H' M ∧ AV K H' M x w
def upI (K : PySem.W.Frag) (wi : TI3) : TI := fun σ H R' => ∃ (τ : S3) (M : Mm) (R : List W → (Mm → Prop) → Mm → Prop), AS K H M σ τ ∧ AM K H M ∧ wi τ M R ∧ ∀ J H' ws keep M', Kp H M H' M' → AM K H' M' → ItOk K H' M' J ws keep → R ws keep M' → R' J H'
theorem _root_.L2.PI.weak {tg iter : Expr} {t t' : TI} (h : PI X tg iter t) (k : ∀ σ H R, t' σ H R → t σ H R) : PI X tg iter t' := fun pins s σ H R I q => h pins s σ H R I (k σ H R q)
def vForW (ws : List W) (keep : Mm → Prop) (g : TG3) (tb : TS3) (D : D3) (τ : S3) (M : Mm) : Prop :=
  ∃ Pv : Nat → S3 → Mm → Prop, Pv 0 τ M ∧ (∀ i τ M, i ≤ ws.length → Pv i τ M → keep M) ∧
    (∀ i w τ M, ws[i]? = some w → Pv i τ M → g w τ M fun τ2 M2 => tb { D with nx := fun τ' M' => ∃ M'', Sub M'' M' ∧ Pv (i + 1) τ' M'', ct := fun τ' M' => ∃ M'', Sub M'' M' ∧ Pv (i + 1) τ' M'', bk := D.nx } τ2 M2) ∧
    ∀ τ M, Pv ws.length τ M → D.nx τ M
def vFor (wi : TI3) (g : TG3) (tb : TS3) : TS3 := fun D τ M => wi τ M fun ws keep M1 => vForW ws keep g tb D τ M1
theorem s_for {tg iter : Expr} {body : List Stmt} {wi : TI3} {g : TG3} {tb : TS3} {pos : Pos} (hp : PassesOwn (model X.prog X.w) X.A X.env X.xe) (hc : X.calm = true) (hi : PI X tg iter (upI X.K wi)) (hg : PG X tg (upG X.K g)) (hb : Ps3 X body tb)
    (hs : ∀ x, foldedSetIterable iter X.env x = pure x := by intro _; rfl) : P3 X (.For tg iter body [] pos) (vFor wi g tb) :=
  (ps_for hp hc hi hg hb hs).weak fun D σ H ⟨τ, M, D', as, am, h, k⟩ => by
    refine ⟨τ, M, _, as, am, h, fun J H1 ws keep M1 k1 am1 it ⟨Pv, h0, hk, hs, hd⟩ => ?_⟩
    refine ⟨fun i m σ' H' => m = ws.length - i ∧ i ≤ ws.length ∧ ∃ τ' M', Kp H1 M1 H' M' ∧ AM X.K H' M' ∧ AS X.K H' M' σ' τ' ∧ Pv i τ' M', ⟨_, rfl, Nat.zero_le _, τ, M1, Kp.refl am1, am1, as.kp am k1, h0⟩, ?_⟩
    rintro i m σ2 H2 ⟨rfl, hi, τ2, M2, k2, am2, as2, p2⟩
    by_cases hlt : i < ws.length
    · refine .inr ⟨it.go i H2 M2 k2 am2 (hk i τ2 M2 hi p2) hlt, fun σ' H' => ∃ τ' M', Kp H1 M1 H' M' ∧ AM X.K H' M' ∧ AS X.K H' M' σ' τ' ∧ Pv (i + 1) τ' M', fun σ' H' q => ⟨ws.length - (i + 1), by omega, rfl, hlt, q⟩, fun x H3 y => ?_⟩
      obtain ⟨w, hw, k3, am3, ax⟩ := it.yld i H2 M2 x H3 k2 am2 (hk i τ2 M2 hi p2) hlt y
      refine ⟨w, τ2, M2, _, ax, as2.kp am2 k3, am3, hs i w τ2 M2 hw p2, fun σ4 H4 τ4 M4 k4 am4 as4 h4 => ⟨τ4, M4, _, as4, am4, h4, ?_⟩⟩
      have kk := ((k2.trans k3).trans k4)
      have again : UpS X.K H4 M4 (fun τ' M' => ∃ M'', Sub M'' M' ∧ Pv (i + 1) τ' M'') (fun σ' H' => ∃ τ' M', Kp H1 M1 H' M' ∧ AM X.K H' M' ∧ AS X.K H' M' σ' τ' ∧ Pv (i + 1) τ' M') :=
        fun σ' H' τ' M' k' am' as' ⟨M'', q2, q3⟩ => ⟨τ', M'', (kk.trans k').sub q2, am'.sub q2, as'.sub q2, q3⟩
      exact ⟨again, k.rt.kp (k1.trans kk), k.nx.kp (k1.trans kk), again⟩
    · have e : i = ws.length := by omega
      subst e
      exact .inl ⟨it.stop H2 M2 k2 am2 (hk _ τ2 M2 hi p2), k.nx _ _ _ _ (k1.trans k2) am2 as2 (hd τ2 M2 p2)⟩
theorem for3 {ws : List W} {keep : Mm → Prop} {g : TG3} {tb : TS3} {D : D3} {τ : S3} {M : Mm} (Pv : Nat → S3 → Mm → Prop) (h0 : Pv 0 τ M) (hk : ∀ i τ M, i ≤ ws.length → Pv i τ M → keep M)
    (hs : ∀ i w τ M, ws[i]? = some w → Pv i τ M → g w τ M fun τ2 M2 => tb { D with nx := fun τ' M' => ∃ M'', Sub M'' M' ∧ Pv (i + 1) τ' M'', ct := fun τ' M' => ∃ M'', Sub M'' M' ∧ Pv (i + 1) τ' M'', bk := D.nx } τ2 M2)
    (hd : ∀ τ M, Pv ws.length τ M → D.nx τ M) : vForW ws keep g tb D τ M := ⟨Pv, h0, hk, hs, hd⟩
variable {tg l a b : Expr} {tl ta tb' : TE3}
theorem it_list {K : PySem.W.Frag} {H0 : Hp} {M0 : Mm} {p : Addr} {ws : List W} : ItOk K H0 M0 (Itl K p) ws fun M => M p = some (.lst ws) where
  go := fun i H M _ am e hi => by
    obtain ⟨vs, f, q⟩ := am.lst e
    exact ⟨vs, vs[i]'(by rw [q.length]; exact hi), SqL.of f, by simp⟩
  stop := fun H M _ am e => by
    obtain ⟨vs, f, q⟩ := am.lst e
    exact ⟨vs, SqL.of f, by rw [q.length]; exact Nat.le_refl _⟩
  yld := fun i H M x H' _ am e hi y => by
    obtain ⟨rfl, y⟩ := y
    obtain ⟨vs, f, q⟩ := am.lst e
    obtain ⟨w, hw, av⟩ := q.getV (y vs (SqL.of f))
    exact ⟨w, hw, Kp.refl am, am, av⟩
theorem it_st {K : PySem.W.Frag} {H0 : Hp} {M0 : Mm} {p : Addr} {vs : List V} {ws : List W} (am0 : AM K H0 M0) (st : ∀ H M, Kp H0 M0 H M → SqL K H p vs) (q0 : AVs K H0 M0 vs ws) : ItOk K H0 M0 (Itl K p) ws fun _ => True := by
  refine ⟨fun i H M k am _ hi => ⟨vs, vs[i]'(by rw [q0.length]; exact hi), st H M k, by simp⟩, fun H M k am _ => ⟨vs, st H M k, by rw [q0.length]; exact Nat.le_refl _⟩, fun i H M x H' k am _ hi y => ?_⟩
  obtain ⟨rfl, y⟩ := y
  obtain ⟨w, hw, av⟩ := (q0.kp am0 k).getV (y vs (st _ M k))
  exact ⟨w, hw, Kp.refl am, am, av⟩
theorem it_sc {K : PySem.W.Frag} {H0 : Hp} {M0 : Mm} {p : Addr} {vs : List V} {ws : List W} (am0 : AM K H0 M0) (e : SqR K H0 p vs) (q0 : AVs K H0 M0 vs ws) : ItOk K H0 M0 (Itl K p) ws fun _ => True :=
  it_st am0 (fun H M k => by
    refine SqR.sq ?_
    rcases e with ⟨o, e⟩ | e
    · exact .inl ⟨o, (k.fr _ _ (am0.noFrz e) e).1⟩
    · exact .inr e) q0
theorem it_rl {K : PySem.W.Frag} {H0 : Hp} {M0 : Mm} {p : Addr} {vs : List V} {ws : List W} (am0 : AM K H0 M0) (e : H0 p = some (.lst vs)) (n : M0 p = none) (q0 : AVs K H0 M0 vs ws) : ItOk K H0 M0 (Itl K p) ws fun _ => True :=
  it_st am0 (fun H M k => SqL.of (k.fr _ _ n e).1) q0
theorem it_tup {K : PySem.W.Frag} {H0 : Hp} {M0 : Mm} {p : Addr} {vs : List V} {ws : List W} (am0 : AM K H0 M0) (e : H0 p = some (.tup vs)) (q0 : AVs K H0 M0 vs ws) : ItOk K H0 M0 (Itt K p) ws fun _ => True := by
  have st : ∀ H M, Kp H0 M0 H M → SqT K H p vs := fun H M k => SqT.of (k.fr _ _ (am0.noTup e) e).1
  refine ⟨fun i H M k am _ hi => ⟨vs, vs[i]'(by rw [q0.length]; exact hi), st H M k, by simp⟩, fun H M k am _ => ⟨vs, st H M k, by rw [q0.length]; exact Nat.le_refl _⟩, fun i H M x H' k am _ hi y => ?_⟩
  obtain ⟨rfl, y⟩ := y
  obtain ⟨w, hw, av⟩ := (q0.kp am0 k).getV (y vs (st _ M k))
  exact ⟨w, hw, Kp.refl am, am, av⟩
theorem it_rng {K : PySem.W.Frag} {H0 : Hp} {M0 : Mm} {lo : Int} {n : Nat} : ItOk K H0 M0 (Itr lo n) ((List.range n).map fun i => W.int (lo + (i : Nat))) fun _ => True where
  go := fun i H M _ am _ hi => by show i < n; simpa using hi
  stop := fun H M _ am _ => by show n ≤ _; simp
  yld := fun i H M x H' _ am _ hi y => by
    obtain ⟨rfl, rfl⟩ := y
    have hi : i < n := by simpa using hi
    exact ⟨.int (lo + i), by simp [hi], Kp.refl am, am, .int _⟩
theorem it_str {K : PySem.W.Frag} {H0 : Hp} {M0 : Mm} {z : Str} : ItOk K H0 M0 (Its z) (z.cps.toList.map fun c => W.str ⟨#[c]⟩) fun _ => True where
  go := fun i H M _ am _ hi => by show i < z.cps.size; simpa using hi
  stop := fun H M _ am _ => by show z.cps.size ≤ _; simp
  yld := fun i H M x H' _ am _ hi y => by
    obtain ⟨rfl, c, hc, rfl⟩ := y
    exact ⟨.str ⟨#[c]⟩, by rw [List.getElem?_map, hc]; rfl, Kp.refl am, am, .str _⟩
def ItR (X : Cx) (tg : Expr) (r : V → Hp → (It → Hp → Prop) → Prop) : Prop :=
  ∀ (pins : List (Addr × Obj)) (s : Shared) (σ : SV) (H : Hp) (x : V) (u : Value) (R : It → Hp → Prop), Inv X pins σ H s → RelV x u → r x H R → wpAny (model X.prog X.w) X.A (pyIter u) (PIE X pins σ tg R) X.xe s
theorem ir_list : ItR X tg (fun x H R => ∃ a, x = .ref a ∧ (∃ xs, SqL X.K H a xs) ∧ R (Itl X.K a) H) := by
  rintro pins s1 σ H1 x u R I1 r1 ⟨a, rfl, ⟨xs, hq⟩, q⟩
  cases r1
  obtain ⟨its, rv, p, hz⟩ := I1.list hq
  refine wpAny_pyIter_list p.isList ?_
  refine ⟨s1.heap.objs.size, [s1.heap.objs.size], _, _, H1, rfl, I1.kept (t' := s1.toks) fun b o e => Heap.get?_push_of_some _ e, turn_list a _, ⟨_, Heap.get?_push_size _ rfl, rfl, rfl⟩, fun b hb => ?_, q⟩
  have e : b = s1.heap.objs.size := by simpa using hb
  subst e
  exact I1.fpOk (Nat.le_refl _) (I1.hok.fresh (Nat.le_refl _))
theorem ir_tup : ItR X tg (fun x H R => ∃ a, x = .ref a ∧ (∃ xs, SqT X.K H a xs) ∧ R (Itt X.K a) H) := by
  rintro pins s1 σ H1 x u R I1 r1 ⟨a, rfl, ⟨xs, hq⟩, q⟩
  cases r1
  obtain ⟨its, rv, p, hz⟩ := I1.tuple hq
  refine wpAny_pyIter_tuple (show s1.heap.IsTuple a its.toArray from p) ?_
  refine ⟨s1.heap.objs.size, [s1.heap.objs.size], _, _, H1, rfl, I1.kept (t' := s1.toks) fun b o e => Heap.get?_push_of_some _ e, turn_tuple a _, ⟨_, Heap.get?_push_size _ rfl, rfl, rfl⟩, fun b hb => ?_, q⟩
  have e : b = s1.heap.objs.size := by simpa using hb
  subst e
  exact I1.fpOk (Nat.le_refl _) (I1.hok.fresh (Nat.le_refl _))
theorem ir_str {x : Str} {px : Pos} : ItR X (.Name x px) (fun x H R => ∃ z, x = .str z ∧ R (Its z) H) := by
  rintro pins s1 σ H1 x u R I1 r1 ⟨z, rfl, q⟩
  obtain ⟨t, rfl⟩ := r1
  have fp : ∀ b ∈ [s1.heap.objs.size], FpOk X pins H1 b := fun b hb => by
    have e : b = s1.heap.objs.size := by simpa using hb
    subst e
    exact I1.fpOk (Nat.le_refl _) (I1.hok.fresh (Nat.le_refl _))
  cases ha : z.cps.all (· < 128)
  · refine wpAny_pyIter_wide ha ?_
    exact ⟨s1.heap.objs.size, [s1.heap.objs.size], _, _, H1, rfl, I1.kept (t' := s1.toks) fun b o e => Heap.get?_push_of_some _ e,
      turn_str z _ "str_iterator" t (fun A s i c Q E a b d => wpAny_pyNext_wide_item a b d) (fun A s i Q E a b c d => wpAny_pyNext_wide_end a b c d) (fun A i s Q E a b => wpAny_pyIter_striter_wide a b), ⟨_, Heap.get?_push_size _ rfl, rfl, rfl⟩, fp, q⟩
  · refine wpAny_pyIter_ascii ha ?_
    exact ⟨s1.heap.objs.size, [s1.heap.objs.size], _, _, H1, rfl, I1.kept (t' := s1.toks) fun b o e => Heap.get?_push_of_some _ e,
      turn_str z _ "str_ascii_iterator" t (fun A s i c Q E a b d => wpAny_pyNext_ascii_item a b d) (fun A s i Q E a b c d => wpAny_pyNext_ascii_end a b c d) (fun A i s Q E a b => wpAny_pyIter_striter_ascii a b), ⟨_, Heap.get?_push_size _ rfl, rfl, rfl⟩, fp, q⟩
theorem _root_.L2.PI.of {r : V → Hp → (It → Hp → Prop) → Prop} {tl : TE} (hl : PE X l tl) (hr : ItR X tg r) : PI X tg l (fun σ H R => tl σ H fun x H1 => r x H1 R) := fun pins s σ H R I h =>
  thn (hl pins s σ H _ I h) fun u s1 ⟨x, H1, I1, r1, q1⟩ => hr pins s1 σ H1 x u R I1 r1 q1
def upIr (K : PySem.W.Frag) (r : W → Mm → (List W → (Mm → Prop) → Mm → Prop) → Prop) : V → Hp → (It → Hp → Prop) → Prop := fun x H R' => ∃ (wx : W) (M : Mm) (R : List W → (Mm → Prop) → Mm → Prop), AV K H M x wx ∧ AM K H M ∧ r wx M R ∧
  ∀ J H' ws keep M', Kp H M H' M' → AM K H' M' → ItOk K H' M' J ws keep → R ws keep M' → R' J H'
def rIt : W → Mm → (List W → (Mm → Prop) → Mm → Prop) → Prop
  | .tup ws, M1, R => R ws (fun _ => True) M1
  | .rl ws, M1, R => R ws (fun _ => True) M1
  | .sc ws, M1, R => R ws (fun _ => True) M1
  | .ref a, M1, R => ∃ ws, M1 a = some (.lst ws) ∧ R ws (fun M => M a = some (.lst ws)) M1
  | _, _, _ => False
def rItN : W → Mm → (List W → (Mm → Prop) → Mm → Prop) → Prop
  | .tup ws, M1, R => R ws (fun _ => True) M1
  | .rl ws, M1, R => R ws (fun _ => True) M1
  | .sc ws, M1, R => R ws (fun _ => True) M1
  | .str z, M1, R => R (z.cps.toList.map fun c => W.str ⟨#[c]⟩) (fun _ => True) M1
  | .ref a, M1, R => ∃ ws, M1 a = some (.lst ws) ∧ R ws (fun M => M a = some (.lst ws)) M1
  | _, _, _ => False
theorem ir_seq : ItR X tg (upIr X.K rIt) := by
  rintro pins s σ H x u R' I r1 ⟨wx, M, R, ax, am, h, k⟩
  cases ax <;> first | exact (show False from h).elim | skip
  case tup a xs ws e q => exact ir_tup pins s σ H _ u R' I r1 ⟨a, rfl, ⟨xs, SqT.of e⟩, k _ _ _ _ _ (Kp.refl am) am (it_tup am e q) h⟩
  case rl a xs ws e n q => exact ir_list pins s σ H _ u R' I r1 ⟨a, rfl, ⟨xs, SqL.of e⟩, k _ _ _ _ _ (Kp.refl am) am (it_rl am e n q) h⟩
  case sc a xs ws e q => exact ir_list pins s σ H _ u R' I r1 ⟨a, rfl, ⟨xs, e.sq⟩, k _ _ _ _ _ (Kp.refl am) am (it_sc am e q) h⟩
  case ref a =>
    obtain ⟨ws, e, r⟩ := h
    obtain ⟨vs, f, q⟩ := am.lst e
    exact ir_list pins s σ H _ u R' I r1 ⟨a, rfl, ⟨vs, SqL.of f⟩, k _ _ _ _ _ (Kp.refl am) am it_list r⟩
theorem ir_seqN {y : Str} {py : Pos} : ItR X (.Name y py) (upIr X.K rItN) := by
  rintro pins s σ H x u R' I r1 ⟨wx, M, R, ax, am, h, k⟩
  cases ax <;> first | exact (show False from h).elim | skip
  case str z => exact ir_str pins s σ H _ u R' I r1 ⟨z, rfl, k _ _ _ _ _ (Kp.refl am) am it_str h⟩
  case tup a xs ws e q => exact ir_tup pins s σ H _ u R' I r1 ⟨a, rfl, ⟨xs, SqT.of e⟩, k _ _ _ _ _ (Kp.refl am) am (it_tup am e q) h⟩
  case rl a xs ws e n q => exact ir_list pins s σ H _ u R' I r1 ⟨a, rfl, ⟨xs, SqL.of e⟩, k _ _ _ _ _ (Kp.refl am) am (it_rl am e n q) h⟩
  case sc a xs ws e q => exact ir_list pins s σ H _ u R' I r1 ⟨a, rfl, ⟨xs, e.sq⟩, k _ _ _ _ _ (Kp.refl am) am (it_sc am e q) h⟩
  case ref a =>
    obtain ⟨ws, e, r⟩ := h
    obtain ⟨vs, f, q⟩ := am.lst e
    exact ir_list pins s σ H _ u R' I r1 ⟨a, rfl, ⟨vs, SqL.of f⟩, k _ _ _ _ _ (Kp.refl am) am it_list r⟩
def iIt (r : W → Mm → (List W → (Mm → Prop) → Mm → Prop) → Prop) (tl : TE3) : TI3 := fun τ M R => tl τ M fun w M1 => r w M1 R
theorem iIt_up {r : W → Mm → (List W → (Mm → Prop) → Mm → Prop) → Prop} (hl : E3 X l tl) (hr : ItR X tg (upIr X.K r)) : PI X tg l (upI X.K (iIt r tl)) := (PI.of hl hr).weak fun σ H R' ⟨τ, M, R, as, am, h, k⟩ =>
  ⟨τ, M, _, as, am, h, fun x H1 wx M1 k1 am1 ax h1 => ⟨wx, M1, R, ax, am1, h1, fun J H' ws keep M' k' am' it r => k J H' ws keep M' (k1.trans k') am' it r⟩⟩
theorem i_seq (hl : E3 X l tl) : PI X tg l (upI X.K (iIt rIt tl)) := iIt_up hl ir_seq
theorem i_seqN {y : Str} {py : Pos} (hl : E3 X l tl) : PI X (.Name y py) l (upI X.K (iIt rItN tl)) := iIt_up hl ir_seqN
def rangeW (lo : Int) (n : Nat) : List W := (List.range n).map fun i => W.int (lo + (i : Nat))
def iR1 (ta : TA3) : TI3 := fun τ M R => ta τ M fun ws M1 => ∃ j : Int, ws = [.int j] ∧ -(2 ^ 62) ≤ j ∧ j < 2 ^ 62 ∧ R (rangeW 0 j.toNat) (fun _ => True) M1
def iR2 (ta : TA3) : TI3 := fun τ M R => ta τ M fun ws M1 => ∃ i j : Int, ws = [.int i, .int j] ∧ (-(2 ^ 62) ≤ i ∧ i < 2 ^ 62 ∧ -(2 ^ 62) ≤ j ∧ j < 2 ^ 62) ∧ R (rangeW i (j - i).toNat) (fun _ => True) M1
theorem i_range1 {tA : TA3} {p pos : Pos} (hg : Gl X "range") (hm : X.mg "range" = none) (ha : A3 X [a] tA) (hs : starEach [a] X.env = [(false, eval a X.env)] := by rfl) : PI X tg (.Call (.Name "range" p) [a] [] pos) (upI X.K (iR1 tA)) :=
  (pi_range1 hg hm ha hs).weak fun σ H R' ⟨τ, M, R, as, am, h, k⟩ => ⟨τ, M, _, as, am, h, fun vs H1 ws M1 k1 am1 ax ⟨j, e, h1, h2, r⟩ => by
    subst e
    obtain ⟨v, rfl, av⟩ := ax.one
    cases av
    exact ⟨j, rfl, h1, h2, k _ _ _ _ _ k1 am1 it_rng r⟩⟩
def vCompW (ws : List W) (keep : Mm → Prop) (g : TG3) (tt : TT3) (te : TE3) (τ₀ : S3) (M1 : Mm) (R : K3) : Prop :=
  ∀ p, M1 p = none → ∃ Pv : Nat → S3 → List W → Mm → Prop, Pv 0 τ₀ [] M1 ∧ (∀ vs i τ acc M, i ≤ ws.length → M p = none → Pv i τ acc M → keep (put M p (.fix vs))) ∧
    (∀ vs i w τ acc M, ws[i]? = some w → M p = none → Pv i τ acc M → g w τ (put M p (.fix vs)) fun τ2 M2 => tt τ2 M2 fun b M3 =>
      if b = true then te τ2 M3 fun y M4 => M4 p = some (.fix vs) ∧ acc.length < sizeLine ∧ ∃ M5, Sub M5 (del M4 p) ∧ Pv (i + 1) τ2 (acc ++ [y]) M5
      else M3 p = some (.fix vs) ∧ ∃ M5, Sub M5 (del M3 p) ∧ Pv (i + 1) τ2 acc M5) ∧
    ∀ τ acc M, M p = none → Pv ws.length τ acc M → R (.ref p) (put M p (.lst acc))
def cmap3 (js : List (Option Nat)) (τ : S3) : S3 := js.map fun o => o.bind fun j => (τ[j]?).join
theorem AS.cmap {K : PySem.W.Frag} {H : Hp} {M : Mm} {σ : SV} {τ : S3} (h : AS K H M σ τ) : ∀ js : List (Option Nat), AS K H M (cmap js σ) (cmap3 js τ)
  | [] => .nil
  | none :: r => .cons (fun _ e => nomatch e) (AS.cmap h r)
  | some j :: r => .cons (fun w e => by
      have e : (τ[j]?).join = some w := e
      cases q : τ[j]? with
      | none => rw [q] at e; cases e
      | some z =>
        rw [q] at e
        have e : z = some w := e
        subst e
        obtain ⟨v, h1, h2⟩ := h.get q
        exact ⟨v, by show (σ[j]?).join = some v; rw [h1]; rfl, h2⟩) (AS.cmap h r)
def vComp (wi : TI3) (g : TG3) (tt : TT3) (te : TE3) (js : List (Option Nat)) : TE3 := fun τ M R => wi τ M fun ws keep M1 => vCompW ws keep g tt te (cmap3 js τ) M1 R
theorem vComp_up {wi : TI3} {g : TG3} {tt : TT3} {te : TE3} {js : List (Option Nat)} {σ : SV} {H : Hp} {Q : VK} (h : up X.K (vComp wi g tt te js) σ H Q) : tComp (upI X.K wi) (fun _ => upG X.K g) (fun _ => upT X.K tt) (fun _ => up X.K te) js σ H Q := by
  obtain ⟨τ, M, R, as, am, h, k⟩ := h
  refine ⟨τ, M, _, as, am, h, fun J H1 ws keep M1 k1 am1 it hall p hp B => ?_⟩
  obtain ⟨Pv, h0, hk, hs, hd⟩ := hall p (am1.nonM hp)
  obtain ⟨amp, kp⟩ := am1.laid (o := .fix []) (u := .lst []) hp upd_same
  have hMp := am1.nonM hp
  refine comp_by ws.length (fun i σ' acc' H' => ∃ τ' acc M', M' p = none ∧ Kp H1 M1 H' (put M' p (.fix acc')) ∧ AM X.K H' (put M' p (.fix acc')) ∧ AS X.K H' (put M' p (.fix acc')) σ' τ' ∧ AVs X.K H' (put M' p (.fix acc')) acc' acc ∧ Pv i τ' acc M') ?_ ?_ ?_
  · exact ⟨cmap3 js τ, [], M1, hMp, kp, amp, ((as.kp am k1).kp am1 kp).cmap js, .nil, h0⟩
  · rintro σ' acc' H' ⟨τ', acc, M', mp, k', am', as', av, pv⟩
    refine ⟨it.stop H' _ k' am' (hk _ _ _ _ _ (Nat.le_refl _) mp pv), ?_⟩
    have hp' : H' p = some (.lst acc') := am' p _ put_same
    refine k _ H' _ (put M' p (.lst acc)) (k1.trans ⟨fun a o n e => ?_, k'.dom⟩) (fun a o e => ?_) (.ref p) (hd τ' acc M' mp pv)
    · obtain ⟨x, y⟩ := k'.fr a o n e
      exact ⟨x, by rw [put_ne (ne_of_none e hp)] at y ⊢; exact y⟩
    · by_cases ha : a = p
      · subst ha; rw [put_same] at e; cases e; exact ⟨acc', hp', av.go go_re⟩
      · rw [put_ne ha] at e; exact (am' a o (by rw [put_ne ha]; exact e)).go go_re rfl
  · rintro i σ' acc' H' hi ⟨τ', acc, M', mp, k', am', as', av, pv⟩
    have hkp := hk acc' i τ' acc M' (Nat.le_of_lt hi) mp pv
    refine ⟨it.go i H' _ k' am' hkp hi, fun x H3 y => ?_⟩
    obtain ⟨w, hw, k3, am3, ax⟩ := it.yld i H' _ x H3 k' am' hkp hi y
    refine ⟨w, τ', _, _, ax, as'.kp am' k3, am3, hs acc' i w τ' acc M' hw mp pv, fun σ4 H4 τ4 M4 k4 am4 as4 h4 => ⟨τ4, M4, _, as4, am4, h4, fun b H5 M5 k5 am5 h5 => ?_⟩⟩
    have kk : Kp H' (put M' p (.fix acc')) H5 M5 := (k3.trans k4).trans k5
    cases b with
    | false =>
      obtain ⟨m5, M6, sb, pv6⟩ : M5 p = some (.fix acc') ∧ ∃ M6, Sub M6 (del M5 p) ∧ Pv (i + 1) τ4 acc M6 := h5
      have sb' : Sub (put M6 p (.fix acc')) M5 := by
        have := (sb.trans Sub.del).put (a := p) (o := .fix acc')
        rwa [put_self m5] at this
      exact iteF ⟨τ4, acc, M6, sb.non del_same, (k'.trans kk).sub sb', am5.sub sb', (as4.kp am4 k5).sub sb', (av.kp am' kk).sub sb', pv6⟩
    | true =>
      have h5 : te τ4 M5 fun y M4 => M4 p = some (.fix acc') ∧ acc.length < sizeLine ∧ ∃ M5, Sub M5 (del M4 p) ∧ Pv (i + 1) τ4 (acc ++ [y]) M5 := h5
      refine iteT ⟨τ4, M5, _, as4.kp am4 k5, am5, h5, fun y H6 wy M6 k6 am6 ay ⟨m6, hl, M7, sb, pv7⟩ => ?_⟩
      have kk6 := kk.trans k6
      have hp6 : H6 p = some (.lst acc') := am6 p _ m6
      obtain ⟨am8, k8⟩ := am6.write (o := .fix (acc' ++ [y])) (u := .lst (acc' ++ [y])) m6 upd_same
      have sb' : Sub (put M7 p (.fix (acc' ++ [y]))) (put M6 p (.fix (acc' ++ [y]))) := (sb.trans Sub.del).put
      refine ⟨hp6, by rw [av.length]; exact hl, τ4, acc ++ [wy], M7, sb.non del_same, ((k'.trans kk6).trans k8).sub sb', am8.sub sb', (((as4.kp am4 k5).kp am5 k6).kp am6 k8).sub sb', ?_, pv7⟩
      exact (((av.kp am' kk6).append (.cons ay .nil)).kp am6 k8).sub sb'
variable {sc : Scope} {N' : List Str} {js : List (Option Nat)} {iter elt : Expr} {ifs : List Expr} {wi : TI3} {g : TG3} {tt : TT3}
def vTrue : TT3 := fun _ M Q => Q true M
theorem if_nil : PIfs X [] (upT X.K vTrue) := pifs_nil.weak fun σ H Q ⟨τ, M, R, as, am, h, k⟩ => k true H M (Kp.refl am) am h
theorem if_one {c : Expr} {t : TT3} (h : T3 X c t) : PIfs X [c] (upT X.K t) := pifs_one h
theorem v_comp (N' : List Str) (js : List (Option Nat)) (hi : PI X tg iter (upI X.K wi))
    (hg : ∀ B, PG (cxB X sc N' B) tg (upG X.K g)) (ht : ∀ B, PIfs (cxB X sc N' B) ifs (upT X.K tt)) (he : ∀ B, PE (cxB X sc N' B) elt (up X.K te))
    (S0 : cscopeB N' sc X.env.scope = true := by kernel_rfl) (hj : jsOk N' X.N sc js N' = true := by kernel_rfl) (hc : X.calm = true := by rfl) (hs : ∀ x, foldedSetIterable iter X.env x = pure x := by intro _; rfl) :
    E3 X (.ListComp elt [⟨tg, iter, ifs, 0⟩] sc pos) (vComp wi g tt te js) := (pe_comp N' js hi hg ht he S0 hj hc hs).weak fun _ _ _ h => vComp_up h
theorem s_setcomp {i : Nat} {x : Str} {px spos : Pos} (hN : X.N.Nodup) (hi0 : X.N[i]? = some x) (hx : Loc X.env.scope x) (N' : List Str) (js : List (Option Nat)) (hi : PI X tg iter (upI X.K wi))
    (hg : ∀ B, PG (cxB X sc N' B) tg (upG X.K g)) (ht : ∀ B, PIfs (cxB X sc N' B) ifs (upT X.K tt)) (he : ∀ B, PE (cxB X sc N' B) elt (up X.K te))
    (S0 : cscopeB N' sc X.env.scope = true := by kernel_rfl) (hj : jsOk N' X.N sc js N' = true := by kernel_rfl) (hc : X.calm = true := by rfl) (hsw : swapsWith (.ListComp elt [⟨tg, iter, ifs, 0⟩] sc pos) (some (.Name x px)) spos.line X.env = pure true := by rfl)
    (hf : X.fn x = true ∨ X.env.scope.names.lookup x = some .local := by first | exact .inl rfl | exact .inr rfl | assumption)
    (hs : ∀ x, foldedSetIterable iter X.env x = pure x := by intro _; rfl) : P3 X (.Assign [.Name x px] (.ListComp elt [⟨tg, iter, ifs, 0⟩] sc pos) spos) (vSet i (vComp wi g tt te js)) :=
  (ps_setcomp hN hi0 hx N' js hi hg ht he S0 hj hc hsw hf hs).weak fun D σ H ⟨τ, M, D', as, am, h, k⟩ => vComp_up ⟨τ, M, _, as, am, h, fun y H1 wy M1 k1 am1 ay h1 => k.nx _ _ _ _ k1 am1 ((as.kp am k1).set ay i) h1⟩
end
def start3 (N : List Str) (ws : List W) : S3 := ws.map some ++ List.replicate (N.length - ws.length) none
def ends3 (R : K3) : D3 := { nx := fun _ M' => ∃ M'', Sub M'' M' ∧ R .non M'', rt := fun w M' => ∃ M'', Sub M'' M' ∧ R w M'' }
section
variable {P : Program} {w : World} {K : PySem.W.Frag} {mg : Str → Option Value} {base : Heap}
theorem ok3 {x qual : Str} {st : Stmt} {f : Addr} {fd : FuncData} {N ps : List Str} {k : Nat} {sp : Sp3} (F : Fun K x qual st f fd) (S : FnScope N ps (defScope st)) (len : ∀ ws M R, sp ws M R → ws.length = ps.length)
    (hbody : ∀ (cdv : Value) (A : Around) (outer : List Env) (s : Shared) (H : Hp) (E : XK) (ws : List W) (M : Mm) (R : K3), Room k (A.deeper (envOfC qual (defScope st) s.heap.objs.size f cdv)) → sp ws M R →
      ∃ t, Ps3 (cxOf CX0 P w K mg base N qual (defScope st) f cdv A outer s H E).nox (defBody st) t ∧ t (ends3 R) (start3 N ws) M) : FnOk P w K mg base CX0 (k + 1) f fd ps (upSp K sp) := by
  refine F.ok S (fun vs H Q E ⟨ws, M, R, am, av, h, _⟩ => by rw [av.length]; exact len ws M R h) fun cdv A outer s H vs Q E hr ⟨ws, M, R, am, av, h, kk⟩ => ?_
  obtain ⟨t, ht, h'⟩ := hbody cdv A outer s H E ws M R hr h
  refine ⟨_, ht, start3 N ws, M, ends3 R, ?_, am, h', ⟨fun σ' H' τ' M' k' am' as' ⟨M'', sb, r⟩ => kk _ H' _ M'' (k'.sub sb) (am'.sub sb) .non r, fun v H' w M' k' am' av' ⟨M'', sb, r⟩ => kk v H' w M'' (k'.sub sb) (am'.sub sb) (av'.sub sb) r, fun _ _ _ _ _ _ _ z => z.elim, fun _ _ _ _ _ _ _ z => z.elim⟩⟩
  unfold L2.start start3
  rw [av.length]
  exact AS.start av _
def spLaw3 : Sp3 := fun ws M R => ∃ ns : List Int, ws = [.sc (ns.map W.int)] ∧ ns.length ≤ 63 ∧ (M = fun _ => none) ∧ ∀ M', R (.bl true) M'
theorem law_sp {H : Hp} {a : Addr} {ns : List Int} (hl : ns.length ≤ 63) (ho : Only H) (hs : SqL K H a (ns.map V.int)) : upSp K spLaw3 [.ref a] H (fun v _ => v = .bl true) fun _ _ _ => False := by
  have hr : SqR K H a (ns.map V.int) := by
    rcases hs with (e | ⟨o, e⟩) | e
    · rcases ho a with z | ⟨o, xs, z⟩
      · rw [z] at e; cases e
      · rw [z] at e; cases e
    · exact .inl ⟨o, e⟩
    · exact .inr e
  exact ⟨[.sc (ns.map W.int)], fun _ => none, fun w _ => w = .bl true, fun a o e => (nomatch e), .cons (.sc hr (AVs.int ns)) .nil, ⟨ns, rfl, hl, rfl, fun _ => rfl⟩, fun v H' w M' _ _ av r => by subst r; exact av.bl_inv⟩
end
end L3
set_option Elab.async false
set_option linter.all false
set_option maxRecDepth 100000
set_option maxHeartbeats 4000000
namespace L3
open PySem PySem.Spec PyProof.Rows L2
section
variable {X : Cx} {a b c : Expr} {ta tb tc : TE3} {pos : Pos}
def vChain (r r' : R3) (ta tb tc : TE3) : TE3 := fun τ M R => ta τ M fun x M1 => tb τ M1 fun y M2 => r x y M2 fun z M3 => ∃ k, z = .bl k ∧ if k = true then tc τ M3 fun w M4 => r' y w M4 R else R (.bl false) M3
def vNever : TS3 := fun _ _ _ => False
def nameW (M : Mm) : W → String → Prop
  | .non, T => T = "NoneType"
  | .bl _, T => T = "bool"
  | .int _, T => T = "int"
  | .str _, T => T = "str"
  | .tup _, T => T = "tuple"
  | .rl _, T => T = "list"
  | .dk _, T => T = "dict"
  | .ref a, T => (T = "list" ∧ ∃ ws, M a = some (.lst ws)) ∨ (T = "dict" ∧ ((∃ kvs, M a = some (.dK kvs)) ∨ ∃ kvs, M a = some (.dT kvs)))
  | _, _ => False
def subL : List (String × String × Bool) := [("int", "int", true), ("int", "bool", false), ("int", "str", false), ("int", "tuple", false), ("int", "list", false), ("bool", "bool", true), ("bool", "int", true), ("bool", "str", false), ("bool", "list", false), ("bool", "tuple", false), ("str", "str", true), ("str", "int", false), ("str", "tuple", false), ("str", "list", false), ("str", "bool", false), ("tuple", "tuple", true), ("tuple", "list", false), ("tuple", "str", false), ("tuple", "int", false), ("tuple", "bool", false), ("list", "list", true), ("list", "tuple", false), ("list", "str", false), ("list", "int", false), ("list", "bool", false), ("NoneType", "list", false), ("NoneType", "tuple", false), ("NoneType", "int", false), ("NoneType", "str", false), ("NoneType", "bool", false), ("dict", "dict", true), ("dict", "list", false)]
def subT (n T : String) : Option Bool := (subL.find? fun p => p.1 == n && p.2.1 == T).map fun p => p.2.2
def AllSub (K : PySem.W.Frag) : List (String × String × Bool) → Prop
  | [] => True
  | p :: l => PySem.W.kitOne K (.type p.1) (.type p.2.1) = some p.2.2 ∧ AllSub K l
theorem all_sub {K : PySem.W.Frag} : ∀ {l : List (String × String × Bool)}, AllSub K l → ∀ p ∈ l, PySem.W.kitOne K (.type p.1) (.type p.2.1) = some p.2.2
  | _ :: _, h, _, m => by
    cases m with
    | head => exact h.1
    | tail _ m => exact all_sub h.2 _ m
theorem sub_all (K : PySem.W.Frag) : ∀ p ∈ subL, PySem.W.kitOne K (.type p.1) (.type p.2.1) = some p.2.2 := by
  refine all_sub ?_
  refine ⟨by kernel_rfl, by kernel_rfl, by kernel_rfl, by kernel_rfl, by kernel_rfl, by kernel_rfl, by kernel_rfl, by kernel_rfl, by kernel_rfl, by kernel_rfl, by kernel_rfl, by kernel_rfl, by kernel_rfl, by kernel_rfl, by kernel_rfl, by kernel_rfl, by kernel_rfl, by kernel_rfl, by kernel_rfl, by kernel_rfl, by kernel_rfl, by kernel_rfl, by kernel_rfl, by kernel_rfl, by kernel_rfl, by kernel_rfl, by kernel_rfl, by kernel_rfl, by kernel_rfl, by kernel_rfl, by kernel_rfl, by kernel_rfl, trivial⟩
theorem kit_sub (K : PySem.W.Frag) {n T : String} {b : Bool} (h : subT n T = some b) : PySem.W.kitOne K (.type n) (.type T) = some b := by
  obtain ⟨p, hp, e⟩ := Option.map_eq_some_iff.mp h
  have h1 := List.find?_some hp
  have h2 := sub_all K p (List.mem_of_find?_eq_some hp)
  rw [Bool.and_eq_true, beq_iff_eq, beq_iff_eq] at h1
  rw [← h1.1, ← h1.2, h2, e]
def rIsi : List W → Mm → K3 → Prop
  | [w, .ty T], M, R => ∃ n b, nameW M w n ∧ subT n T = some b ∧ R (.bl b) M
  | _, _, _ => False
theorem c_isi : CallR X (.builtin "isinstance") (upC X.K rIsi) := by
  rintro pins s σ H xs us Q I rs ⟨ws, M, R, am, axs, h, k⟩
  match ws, h with
  | [w, .ty T], h =>
    obtain ⟨v, u, rfl, av, au⟩ := axs.two
    cases au
    obtain ⟨n, b, hn, hs, r⟩ := h
    have ty : TyOf X.K H v (.type n) := by
      cases av <;> first | exact (show False from hn).elim | skip
      case non => cases (show n = _ from hn); exact .non
      case bl b => cases (show n = _ from hn); exact .bl b
      case int i => cases (show n = _ from hn); exact .int i
      case str x => cases (show n = _ from hn); exact .str x
      case tup e q => cases (show n = _ from hn); exact .tup e
      case rl e _ q => cases (show n = _ from hn); exact .lst e
      case dk e _ _ q => cases (show n = _ from hn); exact .dK e
      case ref a =>
        rcases hn with ⟨e, ws, h⟩ | ⟨e, h⟩
        · subst e
          obtain ⟨vs, f, _⟩ := am.lst h
          exact .lst f
        · subst e
          rcases h with ⟨kvs, h⟩ | ⟨kvs, h⟩
          · obtain ⟨ks, f, _⟩ := am _ _ h; exact .dK f
          · obtain ⟨ks, f, _⟩ := am _ _ h; exact .dT f
    exact call_isinst pins s σ H _ us Q I rs ⟨v, T, _, b, rfl, ty, kit_sub X.K hs, k.at am (.bl b) r⟩
def rUpper : W → List W → Mm → K3 → Prop
  | .str z, [], M, R => z.length ≤ 5592405 ∧ R (.str (Txt.upper z)) M
  | _, _, _, _ => False
theorem m_upper : MtR X "str.upper" (upM X.K rUpper) := by
  rintro pins s σ H x xs v us Q I rx rs ⟨wx, ws, M, R, am, ax, axs, h, k⟩
  match wx, ws, h with
  | .str z, [], h =>
    cases ax; cases axs
    exact mt_upper pins s σ H _ _ v us Q I rx rs ⟨z, rfl, rfl, h.1, k.at am (.str _) h.2⟩
def rPart : W → List W → Mm → K3 → Prop
  | .str z, [.str y], M, R => (y.length == 0) = false ∧ z.length ≤ sizeLine ∧ R (.tup [.str (Txt.partition z y).1, .str (Txt.partition z y).2.1, .str (Txt.partition z y).2.2]) M
  | _, _, _, _ => False
theorem m_partition : MtR X "str.partition" (upM X.K rPart) := by
  rintro pins s σ H x xs v us Q I rx rs ⟨wx, ws, M, R, am, ax, axs, h, k⟩
  match wx, ws, h with
  | .str z, [.str y], h =>
    obtain ⟨u, rfl, au⟩ := axs.one
    cases ax; cases au
    exact mt_partition pins s σ H _ _ v us Q I rx rs ⟨z, y, rfl, rfl, h.1, h.2.1, fun p hp => laidT am k hp (.cons (.str _) (.cons (.str _) (.cons (.str _) .nil))) h.2.2⟩
end
end L3
set_option Elab.async false
set_option linter.all false
set_option maxRecDepth 100000
set_option maxHeartbeats 4000000
namespace L3
open PySem PySem.Spec PyProof.Rows L2
section
variable {X : Cx} {a b : Expr} {ta tb : TE3} {pos : Pos} {es : List Expr} {t : TA3}
theorem laidF {K : PySem.W.Frag} {H : Hp} {M : Mm} {R : K3} {Q : VK} {p : Addr} {xs : List V} {ws : List W} (am : AM K H M) (k : Up K H M R Q) (hp : H p = none) (ax : AVs K H M xs ws) (r : R (.rl ws) M) : Q (.ref p) (upd H p (.lst xs)) := by
  obtain ⟨am2, k2⟩ := am.tup (u := .lst xs) hp
  exact k _ _ _ _ k2 am2 (.rl upd_same (am.nonM hp) (ax.newT hp)) r
def vLstF (t : TA3) : TE3 := fun τ M R => t τ M fun ws M1 => ws.length ≤ sizeLine ∧ R (.rl ws) M1
theorem v_lstF (h : A3 X es t) : E3 X (.List es pos) (vLstF t) :=
  (pe_lst h).weak fun σ H Q ⟨τ, M, R, as, am, h, k⟩ => ⟨τ, M, _, as, am, h, fun xs H1 ws M1 k1 am1 axs ⟨hl, r⟩ => ⟨by rw [axs.length]; exact hl, fun p hp => laidF am1 (k.kp k1) hp axs r⟩⟩
theorem opw {f : Value → Value → Sem Value} {r r' : R3} (h : OpR X f (upO X.K r)) (k : ∀ x y M R, r' x y M R → r x y M fun w M' => frz w M' R) : OpR X f (upO X.K r') := fun pins s σ H x y v u Q I rx ry ⟨wx, wy, M, R, am, ax, ay, h', kk⟩ =>
  h pins s σ H x y v u Q I rx ry ⟨wx, wy, M, _, am, ax, ay, k _ _ _ _ h', kk.frz⟩
theorem clw {f : Value} {r r' : List W → Mm → K3 → Prop} (h : CallR X f (upC X.K r)) (k : ∀ x M R, r' x M R → r x M fun w M' => frz w M' R) : CallR X f (upC X.K r') := fun pins s σ H xs us Q I rs ⟨ws, M, R, am, ax, h', kk⟩ =>
  h pins s σ H xs us Q I rs ⟨ws, M, _, am, ax, k _ _ _ h', kk.frz⟩
def rAddF : R3
  | .int i, .int j, M, R => R (.int (i + j)) M
  | .str i, .str j, M, R => i.length + j.length ≤ sizeLine ∧ R (.str (i ++ j)) M
  | .tup xs, .tup ys, M, R => xs ≠ [] ∧ xs.length + ys.length ≤ sizeLine ∧ R (.tup (xs ++ ys)) M
  | .ref a, .ref b, M, R => ∃ xs ys, M a = some (.lst xs) ∧ M b = some (.lst ys) ∧ xs.length + ys.length ≤ sizeLine ∧ R (.rl (xs ++ ys)) M
  | .rl xs, .ref b, M, R => ∃ ys, M b = some (.lst ys) ∧ xs.length + ys.length ≤ sizeLine ∧ R (.rl (xs ++ ys)) M
  | .ref a, .rl ys, M, R => ∃ xs, M a = some (.lst xs) ∧ xs.length + ys.length ≤ sizeLine ∧ R (.rl (xs ++ ys)) M
  | .rl xs, .rl ys, M, R => xs.length + ys.length ≤ sizeLine ∧ R (.rl (xs ++ ys)) M
  | _, _, _, _ => False
theorem o_addF : OpR X (binaryOp .Add) (upO X.K rAddF) := opw o_add fun x y M R h => by
  cases x <;> cases y <;> first | exact (show False from h).elim | skip
  case int.int i j => exact h
  case str.str i j => exact h
  case tup.tup i j => exact h
  case ref.ref i j => obtain ⟨xs, ys, h1, h2, h3, r⟩ := h; exact ⟨xs, ys, h1, h2, h3, New.frz r⟩
  case rl.ref i j => obtain ⟨ys, h2, h3, r⟩ := h; exact ⟨ys, h2, h3, New.frz r⟩
  case ref.rl i j => obtain ⟨ys, h2, h3, r⟩ := h; exact ⟨ys, h2, h3, New.frz r⟩
  case rl.rl i j => exact ⟨h.1, New.frz h.2⟩
def rMulF : R3
  | .int i, .int j, M, R => (CMul i j ∨ CBig i j) ∧ R (.int (i * j)) M
  | .str z, .int n, M, R => z.length ≤ 16 ∧ -(2 ^ 63) ≤ n ∧ n ≤ 1048576 ∧ R (.str (Txt.mul z n)) M
  | .ref a, .int n, M, R => ∃ xs, M a = some (.lst xs) ∧ -(2 ^ 63) ≤ n ∧ n < 2 ^ 63 ∧ xs.length * n.toNat ≤ sizeLine ∧ R (.rl (List.replicate n.toNat xs).flatten) M
  | .rl xs, .int n, M, R => -(2 ^ 63) ≤ n ∧ n < 2 ^ 63 ∧ xs.length * n.toNat ≤ sizeLine ∧ R (.rl (List.replicate n.toNat xs).flatten) M
  | _, _, _, _ => False
theorem o_mulF : OpR X (binaryOp .Mult) (upO X.K rMulF) := opw o_mul fun x y M R h => by
  cases x <;> cases y <;> first | exact (show False from h).elim | skip
  case int.int i j => exact h
  case str.int i j => exact h
  case ref.int i j => obtain ⟨xs, h1, h2, h3, h4, r⟩ := h; exact ⟨xs, h1, h2, h3, h4, New.frz r⟩
  case rl.int i j => obtain ⟨h2, h3, h4, r⟩ := h; exact ⟨h2, h3, h4, New.frz r⟩
def rListF : List W → Mm → K3 → Prop
  | [.tup ws], M, R => R (.rl ws) M
  | [.rl ws], M, R => R (.rl ws) M
  | [.sc ws], M, R => R (.rl ws) M
  | [.dk kvs], M, R => R (.rl (kvs.map fun kv => wK kv.1)) M
  | [.ref a], M, R => (∃ ws, M a = some (.lst ws) ∧ R (.rl ws) M) ∨ ∃ kvs, M a = some (.dK kvs) ∧ R (.rl (kvs.map fun kv => wK kv.1)) M
  | _, _, _ => False
theorem c_listF (hc : X.calm = true) : CallR X (.type "list") (upC X.K rListF) := clw (c_list hc) fun x M R h => by
  match x, h with
  | [.tup ws], h => exact New.frz h
  | [.rl ws], h => exact New.frz h
  | [.sc ws], h => exact New.frz h
  | [.dk kvs], h => exact New.frz h
  | [.ref a], h =>
    rcases h with ⟨ws, e, r⟩ | ⟨kvs, e, r⟩
    · exact .inl ⟨ws, e, New.frz r⟩
    · exact .inr ⟨kvs, e, New.frz r⟩
def rSlF : W → Option Int → Option Int → Mm → K3 → Prop
  | .rl ws, lo, hi, M, R => R (.rl (cutW ws lo hi)) M
  | .sc ws, lo, hi, M, R => R (.rl (cutW ws lo hi)) M
  | .ref a, lo, hi, M, R => ∃ ws, M a = some (.lst ws) ∧ R (.rl (cutW ws lo hi)) M
  | .tup ws, lo, hi, M, R => ¬ (HT.sIx ws.length 0 lo = 0 ∧ HT.sIx ws.length ws.length hi = ws.length) ∧ R (.tup (cutW ws lo hi)) M
  | _, _, _, _, _ => False
theorem rSlF_rSl {x : W} {l u : Option Int} {M : Mm} {R : K3} (h : rSlF x l u M R) : rSl x l u M fun w M' => frz w M' R := by
  cases x <;> first | exact (show False from h).elim | skip
  case tup ws => exact h
  case rl ws => exact New.frz h
  case sc ws => exact New.frz h
  case ref a => obtain ⟨ws, e, r⟩ := h; exact ⟨ws, e, New.frz r⟩
def vSlF (ta : TE3) (tl th : TO3) : TE3 := fun τ M R => ta τ M fun x M1 => tl τ M1 fun l M2 => th τ M2 fun u M3 => rSlF x l u M3 R
theorem v_sliceF {lo hi : Option Expr} {tl th : TO3} {p2 : Pos} (he : E3 X a ta) (hl : PO X lo (upOp X.K tl)) (hu : PO X hi (upOp X.K th)) : E3 X (.Subscript a (.Slice lo hi none p2) pos) (vSlF ta tl th) :=
  (pe_slice sl_up he hl hu).weak fun σ H Q ⟨τ, M, R, as, am, h, k⟩ => ⟨τ, M, _, as, am, h, fun x H1 wx M1 k1 am1 ax h1 => ⟨τ, M1, _, as.kp am k1, am1, h1, fun l H2 M2 k2 am2 h2 => ⟨τ, M2, _, (as.kp am k1).kp am1 k2, am2, h2, fun u H3 M3 k3 am3 h3 =>
    ⟨wx, M3, _, am3, (ax.kp am1 k2).kp am2 k3, rSlF_rSl h3, (((k.kp k1).kp k2).kp k3).frz⟩⟩⟩⟩
variable {sc : Scope} {N' : List Str} {js : List (Option Nat)} {tg iter elt : Expr} {ifs : List Expr} {wi : TI3} {g : TG3} {tt : TT3} {te : TE3}
end
def Pl : Nat → W → Prop
  | _, .non => True
  | _, .int _ => True
  | _, .str x => PyData.strOk x = true
  | n + 1, .tup ws => ∀ w ∈ ws, Pl n w
  | n + 1, .rl ws => ∀ w ∈ ws, Pl n w
  | _, _ => False
def der (M : Mm) : W → W
  | .ref a => match M a with
    | some (.lst ws) => .rl ws
    | _ => .ref a
  | w => w
section
variable {M : Mm}
theorem snaps_pl {n : Nat} (ih : ∀ {w : W}, Pl n w → ∃ d, Snap M w d ∧ d.canLay0 = true ∧ d.depth ≤ n) : ∀ {ws : List W}, (∀ w ∈ ws, Pl n w) → ∃ ds, Snaps M ws ds ∧ PyData.canLayAll0 ds = true ∧ PyData.depthAll ds ≤ n
  | [], _ => ⟨[], .nil, rfl, by simp [PyData.depthAll]⟩
  | w :: ws, h => by
    obtain ⟨d, s, c, e⟩ := ih (h w List.mem_cons_self)
    obtain ⟨ds, ss, cc, ee⟩ := snaps_pl ih fun z hz => h z (List.mem_cons_of_mem _ hz)
    exact ⟨d :: ds, .cons s ss, by simp [PyData.canLayAll0, c, cc], by simp only [PyData.depthAll]; omega⟩
theorem snap_pl : ∀ {n : Nat} {w : W}, Pl n w → ∃ d, Snap M w d ∧ d.canLay0 = true ∧ d.depth ≤ n := by
  intro n
  induction n with
  | zero =>
    intro w h
    cases w <;> first | exact (show False from h).elim | skip
    case non => exact ⟨_, .non, rfl, by simp [PyData.depth]⟩
    case int i => exact ⟨_, .int i, rfl, by simp [PyData.depth]⟩
    case str x => exact ⟨_, .str x, h, by simp [PyData.depth]⟩
  | succ n ih =>
    intro w h
    cases w <;> first | exact (show False from h).elim | skip
    case non => exact ⟨_, .non, rfl, by simp [PyData.depth]⟩
    case int i => exact ⟨_, .int i, rfl, by simp [PyData.depth]⟩
    case str x => exact ⟨_, .str x, h, by simp [PyData.depth]⟩
    case tup ws =>
      obtain ⟨ds, s, c, e⟩ := snaps_pl ih h
      exact ⟨_, .tup s, by simpa [PyData.canLay0] using c, by simp only [PyData.depth]; omega⟩
    case rl ws =>
      obtain ⟨ds, s, c, e⟩ := snaps_pl ih h
      exact ⟨_, .rl s, by simpa [PyData.canLay0] using c, by simp only [PyData.depth]; omega⟩
theorem snap_der {n : Nat} {w : W} (h : Pl n (der M w)) : ∃ d, Snap M w d ∧ Snap M (der M w) d ∧ d.canLay0 = true ∧ d.depth ≤ n := by
  obtain ⟨d, s, c, e⟩ := snap_pl (M := M) h
  refine ⟨d, ?_, s, c, e⟩
  cases w <;> first | exact s | skip
  case ref a =>
    cases q : M a with
    | none =>
      have e : der M (.ref a) = .ref a := by simp [der, q]
      rw [e] at s; exact s
    | some o =>
      cases o with
      | lst ws =>
        have e : der M (.ref a) = .rl ws := by simp [der, q]
        rw [e] at s
        cases s with
        | rl r => exact .ref q r
      | dK _ =>
        have e : der M (.ref a) = .ref a := by simp [der, q]
        rw [e] at s; exact s
      | dT _ =>
        have e : der M (.ref a) = .ref a := by simp [der, q]
        rw [e] at s; exact s
      | fix _ =>
        have e : der M (.ref a) = .ref a := by simp [der, q]
        rw [e] at s; exact s
theorem eqvs_pl {n : Nat} (ih : ∀ {x y : W} {dx dy : PyData}, Pl n x → Pl n y → Snap M x dx → Snap M y dy → (PyData.eqv dx dy = true ↔ x = y)) : ∀ {xs ys : List W} {dx dy : List PyData}, (∀ w ∈ xs, Pl n w) → (∀ w ∈ ys, Pl n w) → Snaps M xs dx → Snaps M ys dy → (PyData.eqvAll dx dy = true ↔ xs = ys)
  | [], [], _, _, _, _, .nil, .nil => by simp [PyData.eqvAll]
  | [], _ :: _, _, _, _, _, .nil, .cons _ _ => by simp [PyData.eqvAll]
  | _ :: _, [], _, _, _, _, .cons _ _, .nil => by simp [PyData.eqvAll]
  | x :: xs, y :: ys, _, _, hx, hy, .cons s1 r1, .cons s2 r2 => by
    rw [PyData.eqvAll, Bool.and_eq_true, ih (hx x List.mem_cons_self) (hy y List.mem_cons_self) s1 s2, eqvs_pl ih (fun z hz => hx z (List.mem_cons_of_mem _ hz)) (fun z hz => hy z (List.mem_cons_of_mem _ hz)) r1 r2]
    simp
theorem eqv_pl : ∀ {n : Nat} {x y : W} {dx dy : PyData}, Pl n x → Pl n y → Snap M x dx → Snap M y dy → (PyData.eqv dx dy = true ↔ x = y) := by
  intro n
  induction n with
  | zero =>
    intro x y dx dy hx hy sx sy
    cases sx <;> first | exact (show False from hx).elim | skip
    all_goals cases sy <;> first | exact (show False from hy).elim | simp [PyData.eqv]
  | succ n ih =>
    intro x y dx dy hx hy sx sy
    cases sx <;> first | exact (show False from hx).elim | skip
    all_goals cases sy <;> first | exact (show False from hy).elim | skip
    all_goals first | (simp [PyData.eqv]; done) | skip
    case tup.tup r1 _ _ r2 => rw [PyData.eqv, eqvs_pl ih hx hy r1 r2]; simp
    case rl.rl r1 _ _ r2 => rw [PyData.eqv, eqvs_pl ih hx hy r1 r2]; simp
theorem rEqD_pl {neg : Bool} {x y : W} {R : K3} (n : Nat) (hn : n ≤ 60) (hx : Pl n (der M x)) (hy : Pl n (der M y)) (h : ∀ b : Bool, (b = true ↔ der M x = der M y) → R (.bl (if neg then !b else b)) M) : rEqD neg x y M R := by
  obtain ⟨dx, s1, s1', c1, e1⟩ := snap_der hx
  obtain ⟨dy, s2, s2', c2, e2⟩ := snap_der hy
  exact ⟨dx, dy, s1, s2, ⟨c1, by omega⟩, ⟨c2, by omega⟩, h _ (eqv_pl hx hy s1' s2')⟩
theorem rEq_pl {neg : Bool} {x y : W} {R : K3} (n : Nat) (hn : n ≤ 60) (hx : Pl n (der M x)) (hy : Pl n (der M y)) (h : ∀ b : Bool, (b = true ↔ der M x = der M y) → R (.bl (if neg then !b else b)) M) : rEq neg x y M R := by
  have d := rEqD_pl n hn hx hy h
  cases x <;> first | exact d | skip
  case int i =>
    cases y <;> first | exact d | skip
    case int j => exact h (decide (i = j)) (by simp [der])
  case str i =>
    cases y <;> first | exact d | skip
    case str j => exact h (decide (i = j)) (by simp [der])
  case bl i =>
    cases y <;> first | exact d | skip
    case bl j => exact (show False by cases n <;> exact hx).elim
end
theorem rEq_same {M : Mm} {neg : Bool} {x y : W} {R : K3} (n : Nat) (hn : n ≤ 60) (hx : Pl n (der M x)) (e : der M y = der M x) (h : R (.bl (!neg)) M) : rEq neg x y M R := by
  refine rEq_pl n hn hx (by rw [e]; exact hx) fun b hb => ?_
  have : b = true := hb.mpr e.symm
  subst this
  cases neg <;> exact h
theorem Pl.up : ∀ {n : Nat} {w : W}, Pl n w → Pl (n + 1) w
  | 0, w, h => by cases w <;> first | exact h | exact (show False from h).elim
  | n + 1, w, h => by
    cases w <;> first | exact h | skip
    case tup ws => exact fun w hw => Pl.up (h w hw)
    case rl ws => exact fun w hw => Pl.up (h w hw)
theorem Pl.mono {w : W} {m : Nat} : ∀ {n : Nat}, Pl m w → m ≤ n → Pl n w
  | 0, h, e => by cases Nat.le_zero.mp e; exact h
  | n + 1, h, e => by
    rcases Nat.eq_or_lt_of_le e with rfl | e
    · exact h
    · exact (Pl.mono h (Nat.le_of_lt_succ e)).up
theorem compR {ws : List W} {keep : Mm → Prop} {g : TG3} {tt : TT3} {te : TE3} {τ₀ : S3} {M1 : Mm} {R : K3} (St : S3 → Prop) (tgt : W → S3) (Rel : W → Option W → Prop) (hl : ws.length ≤ sizeLine) (hk : ∀ M, Sub M1 M → keep M)
    (h0 : St τ₀) (ht : ∀ w ∈ ws, St (tgt w)) (hg : ∀ w ∈ ws, ∀ τ M (C : S3 → Mm → Prop), St τ → C (tgt w) M → g w τ M C)
    (hs : ∀ w ∈ ws, ∀ M (C : K3) (D : Mm → Prop), Sub M1 M → (∀ y, Rel w (some y) → C y M) → (Rel w none → D M) → tt (tgt w) M fun b M3 => if b = true then te (tgt w) M3 C else D M3)
    (r : ∀ os, Paired Rel ws os → New (os.filterMap id) M1 R) : vCompW ws keep g tt te τ₀ M1 R := by
  intro p hp
  refine ⟨fun i τ acc M => St τ ∧ (∃ os, Paired Rel (ws.take i) os ∧ acc = os.filterMap id) ∧ M = M1, ⟨h0, ⟨[], by simp; exact .nil, rfl⟩, rfl⟩, ?_, ?_, ?_⟩
  · rintro vs i τ acc M _ mp ⟨_, _, rfl⟩; exact hk _ (Sub.new hp)
  · rintro vs i w τ acc M hw mp ⟨st, ⟨os, po, rfl⟩, rfl⟩
    have hm : w ∈ ws := List.mem_of_getElem? hw
    have hi : i < ws.length := (List.getElem?_eq_some_iff.mp hw).1
    have htk : ws.take (i + 1) = ws.take i ++ [w] := by rw [List.take_add_one, hw]; rfl
    have snoc : ∀ o, Rel w o → Paired Rel (ws.take (i + 1)) (os ++ [o]) := fun o ro => by
      rw [htk]
      clear hw mp st htk
      revert os
      generalize ws.take i = l
      intro os po
      induction po with
      | nil => exact .cons ro .nil
      | cons a b ih => exact .cons a ih
    have hlen : (os.filterMap id).length < sizeLine := by
      have h1 := List.length_filterMap_le id os
      have h2 := Paired.length po
      rw [List.length_take] at h2
      omega
    refine hg w hm τ _ _ st (hs w hm _ _ _ (Sub.new hp) (fun y hy => ⟨put_same, hlen, M, ?_, ht w hm, ⟨_, snoc _ hy, ?_⟩, rfl⟩) fun hn => ⟨put_same, M, ?_, ht w hm, ⟨_, snoc _ hn, ?_⟩, rfl⟩)
    · rw [del_put hp]; exact Sub.refl _
    · simp
    · rw [del_put hp]; exact Sub.refl _
    · simp
  · rintro τ acc M mp ⟨_, ⟨os, po, rfl⟩, rfl⟩
    rw [List.take_length] at po
    exact r os po p hp
def hdSt (rest : S3) : S3 → Prop := fun τ => ∃ o, τ = o :: rest
theorem map1 {ws : List W} {keep : Mm → Prop} {te : TE3} {o : Option W} {rest : S3} {M1 : Mm} {R : K3} (f : W → W) (hl : ws.length ≤ sizeLine) (hk : ∀ M, Sub M1 M → keep M)
    (hs : ∀ w ∈ ws, ∀ M (C : K3), Sub M1 M → C (f w) M → te (some w :: rest) M C) (r : New (ws.map f) M1 R) : vCompW ws keep (wName 0) vTrue te (o :: rest) M1 R := by
  refine compR (hdSt rest) (fun w => some w :: rest) (fun w o => o = some (f w)) hl hk ⟨_, rfl⟩ (fun w _ => ⟨_, rfl⟩) ?_ ?_ ?_
  · rintro w _ τ M C ⟨o, rfl⟩ h; exact h
  · intro w hw M C D sb h1 _
    show (if true = true then te (some w :: rest) M C else D M)
    rw [if_pos rfl]
    exact hs w hw M C sb (h1 _ rfl)
  · intro os po
    have : os.filterMap id = ws.map f := by
      clear r hs hl hk
      induction po with
      | nil => rfl
      | cons a b ih => subst a; simp [ih]
    rw [this]; exact r
theorem filt1 {ws : List W} {keep : Mm → Prop} {tt : TT3} {te : TE3} {o : Option W} {rest : S3} {M1 : Mm} {R : K3} (f : W → Option W) (hl : ws.length ≤ sizeLine) (hk : ∀ M, Sub M1 M → keep M)
    (hs : ∀ w ∈ ws, ∀ M (C : K3) (D : Mm → Prop), Sub M1 M → (∀ y, f w = some y → C y M) → (f w = none → D M) → tt (some w :: rest) M fun b M3 => if b = true then te (some w :: rest) M3 C else D M3)
    (r : New (ws.filterMap f) M1 R) : vCompW ws keep (wName 0) tt te (o :: rest) M1 R := by
  refine compR (hdSt rest) (fun w => some w :: rest) (fun w o => o = f w) hl hk ⟨_, rfl⟩ (fun w _ => ⟨_, rfl⟩) ?_ ?_ ?_
  · rintro w _ τ M C ⟨o, rfl⟩ h; exact h
  · intro w hw M C D sb h1 h2
    exact hs w hw M C D sb (fun y e => h1 y e.symm) fun e => h2 e.symm
  · intro os po
    have : os.filterMap id = ws.filterMap f := by
      clear r hs hl hk
      induction po with
      | nil => rfl
      | @cons a b c d e _ ih =>
        subst e
        cases q : f a <;> simp [q, ih]
    rw [this]; exact r
theorem map1R {ws : List W} {keep : Mm → Prop} {te : TE3} {o : Option W} {rest : S3} {M1 : Mm} {R : K3} (P : W → W → Prop) (hl : ws.length ≤ sizeLine) (hk : ∀ M, Sub M1 M → keep M)
    (hs : ∀ w ∈ ws, ∀ M (C : K3), Sub M1 M → (∀ y, P w y → C y M) → te (some w :: rest) M C) (r : ∀ ys, Paired P ws ys → New ys M1 R) : vCompW ws keep (wName 0) vTrue te (o :: rest) M1 R := by
  refine compR (hdSt rest) (fun w => some w :: rest) (fun w o => ∃ y, o = some y ∧ P w y) hl hk ⟨_, rfl⟩ (fun w _ => ⟨_, rfl⟩) ?_ ?_ ?_
  · rintro w _ τ M C ⟨o, rfl⟩ h; exact h
  · intro w hw M C D sb h1 _
    show (if true = true then te (some w :: rest) M C else D M)
    rw [if_pos rfl]
    exact hs w hw M C sb fun y py => h1 y ⟨y, rfl, py⟩
  · intro os po
    have : ∃ ys, os = ys.map some ∧ Paired P ws ys := by
      clear r hs hl hk
      induction po with
      | nil => exact ⟨[], rfl, .nil⟩
      | cons a b ih =>
        obtain ⟨y, rfl, py⟩ := a
        obtain ⟨ys, rfl, h⟩ := ih
        exact ⟨y :: ys, rfl, .cons py h⟩
    obtain ⟨ys, rfl, py⟩ := this
    rw [List.filterMap_map]
    have : (ys.filterMap (id ∘ some)) = ys := by simp
    rw [this]
    exact r ys py
def hdSt2 (rest : S3) : S3 → Prop := fun τ => ∃ o1 o2, τ = o1 :: o2 :: rest
def tg2 (rest : S3) : W → S3
  | .tup [a, b] => some a :: some b :: rest
  | _ => none :: none :: rest
abbrev wPair : TG3 := wTup 2 (wCons (wName 0) (wCons (wName 1) wNil))
theorem filt2R {ws : List W} {keep : Mm → Prop} {tt : TT3} {te : TE3} {o1 o2 : Option W} {rest : S3} {M1 : Mm} {R : K3} (P : W → Option W → Prop) (hw : ∀ w ∈ ws, ∃ a b, w = .tup [a, b]) (hl : ws.length ≤ sizeLine) (hk : ∀ M, Sub M1 M → keep M)
    (hs : ∀ a b, .tup [a, b] ∈ ws → ∀ M (C : K3) (D : Mm → Prop), Sub M1 M → (∀ y, P (.tup [a, b]) (some y) → C y M) → (P (.tup [a, b]) none → D M) → tt (some a :: some b :: rest) M fun b' M3 => if b' = true then te (some a :: some b :: rest) M3 C else D M3)
    (r : ∀ os, Paired P ws os → New (os.filterMap id) M1 R) : vCompW ws keep wPair tt te (o1 :: o2 :: rest) M1 R := by
  refine compR (hdSt2 rest) (tg2 rest) P hl hk ⟨_, _, rfl⟩ (fun w hm => ?_) ?_ ?_ r
  · obtain ⟨a, b, rfl⟩ := hw w hm; exact ⟨_, _, rfl⟩
  · rintro w hm τ M C ⟨u1, u2, rfl⟩ h
    obtain ⟨a, b, rfl⟩ := hw w hm
    exact ⟨rfl, rfl, h⟩
  · intro w hm M C D sb h1 h2
    obtain ⟨a, b, rfl⟩ := hw w hm
    exact hs a b hm M C D sb h1 h2
theorem map2R {ws : List W} {keep : Mm → Prop} {te : TE3} {o1 o2 : Option W} {rest : S3} {M1 : Mm} {R : K3} (P : W → W → Prop) (hw : ∀ w ∈ ws, ∃ a b, w = .tup [a, b]) (hl : ws.length ≤ sizeLine) (hk : ∀ M, Sub M1 M → keep M)
    (hs : ∀ a b, .tup [a, b] ∈ ws → ∀ M (C : K3), Sub M1 M → (∀ y, P (.tup [a, b]) y → C y M) → te (some a :: some b :: rest) M C)
    (r : ∀ ys, Paired P ws ys → New ys M1 R) : vCompW ws keep wPair vTrue te (o1 :: o2 :: rest) M1 R := by
  refine filt2R (fun w o => ∃ y, o = some y ∧ P w y) hw hl hk (fun a b hm M C D sb h1 _ => ?_) fun os po => ?_
  · show (if true = true then te (some a :: some b :: rest) M C else D M)
    rw [if_pos rfl]
    exact hs a b hm M C sb fun y py => h1 y ⟨y, rfl, py⟩
  · have : ∃ ys, os = ys.map some ∧ Paired P ws ys := by
      clear r hs hl hk hw
      induction po with
      | nil => exact ⟨[], rfl, .nil⟩
      | cons a b ih =>
        obtain ⟨y, rfl, py⟩ := a
        obtain ⟨ys, rfl, h⟩ := ih
        exact ⟨y :: ys, rfl, .cons py h⟩
    obtain ⟨ys, rfl, py⟩ := this
    rw [List.filterMap_map]
    have : (ys.filterMap (id ∘ some)) = ys := by simp
    rw [this]
    exact r ys py
end L3
set_option Elab.async false
set_option linter.all false
set_option maxRecDepth 100000
set_option maxHeartbeats 4000000
namespace L3
open PySem PySem.Spec PyProof.Rows L2
structure Df (K : PySem.W.Frag) (mg : Str → Option Value) (x : Str) (st : Stmt) (ps : List Str) (f : Addr) (fd : FuncData) : Prop where
  fn : Fun K x x st f fd
  at_ : mg x = some (.ref f)
  bi : Binds K fd ps []
theorem binds_of {K : PySem.W.Frag} {x : Str} {st : Stmt} {f : Addr} {fd : FuncData} {ps : List Str} {mg : Str → Option Value} (F : Fun K x x st f fd) (hm : mg x = some (.ref f))
    (h : ∀ (kV doc pm : Value) (an : Option Addr) (cdv ct : Value) (us : List Value), us.length = ps.length → bindArgs (PySem.W.fnOf x x (defArgs st) (defBody st) (defScope st) .none kV doc pm an cdv ct) ⟨us, []⟩ = pure (ps.zip us)) : Df K mg x st ps f fd := ⟨F, hm, F.binds h⟩
theorem bt_len : bootBuiltins "len" = some (.builtin "len") := PySem.boot_len
theorem bt_list : bootBuiltins "list" = some (.type "list") := by decide +kernel
theorem bt_tuple : bootBuiltins "tuple" = some (.type "tuple") := by decide +kernel
theorem bt_str : bootBuiltins "str" = some (.type "str") := by decide +kernel
theorem bt_int : bootBuiltins "int" = some (.type "int") := by decide +kernel
theorem bt_isinstance : bootBuiltins "isinstance" = some (.builtin "isinstance") := by decide +kernel
theorem bt_all : bootBuiltins "all" = some (.builtin "all") := by decide +kernel
theorem bt_sum : bootBuiltins "sum" = some (.builtin "sum") := by decide +kernel
theorem bt_max : bootBuiltins "max" = some (.builtin "max") := by decide +kernel
theorem bt_sorted : bootBuiltins "sorted" = some (.builtin "sorted") := by decide +kernel
theorem atI0 {α : Type} (x : α) (xs : List α) : atI (x :: xs) 0 = some x := by simp [atI, ixN]
theorem atI1 {α : Type} (x y : α) (xs : List α) : atI (x :: y :: xs) 1 = some y := atI_nat (j := 1) rfl
theorem atI2 {α : Type} (x y z : α) (xs : List α) : atI (x :: y :: z :: xs) 2 = some z := atI_nat (j := 2) rfl
theorem atI_of {α : Type} {xs : List α} {i : Int} (h0 : 0 ≤ i) (h1 : i < xs.length) : ∃ x, atI xs i = some x ∧ xs[i.toNat]? = some x ∧ x ∈ xs := by
  have hlt : i.toNat < xs.length := by omega
  refine ⟨xs[i.toNat], ?_, List.getElem?_eq_getElem hlt, List.getElem_mem hlt⟩
  simp [atI, ixN, h0, h1, hlt]
theorem atI_sel {α : Type} {xs : List α} {i n : Int} (hn : n = xs.length) (hp : 0 < n) : ∃ x, atI xs (i % n) = some x ∧ x ∈ xs := by
  have h0 : 0 ≤ i % n := Int.emod_nonneg _ (by omega)
  have h1 : i % n < n := Int.emod_lt_of_pos _ hp
  obtain ⟨x, e, _, m⟩ := atI_of (xs := xs) h0 (by omega)
  exact ⟨x, e, m⟩
theorem cutW_mem {ws : List W} {lo hi : Option Int} {w : W} (h : w ∈ cutW ws lo hi) : w ∈ ws := List.mem_of_mem_drop (List.mem_of_mem_take h)
theorem cutW_len {ws : List W} {lo hi : Option Int} : (cutW ws lo hi).length ≤ ws.length := by
  unfold cutW; rw [List.length_take, List.length_drop]; omega
end L3
namespace L3
open PySem PySem.Spec PyProof.Rows L2
theorem cdiv {i j : Int} (h0 : 0 < j) (h1 : j ≤ 1000000000) : CDivB i j := ⟨h0, Int.lt_of_le_of_lt h1 (by decide +kernel)⟩
theorem cdivT {i j : Int} (h0 : 0 < j) (h1 : j ≤ 1000000000) : CDivB i j ↔ True := iff_true_intro (cdiv h0 h1)
def sOk (x : Str) : Prop := PyData.strOk x = true
def Ints (ws : List W) : Prop := ∀ w ∈ ws, ∃ i, w = W.int i
theorem ints_map (ns : List Int) : Ints (ns.map W.int) := fun w h => by
  obtain ⟨i, _, e⟩ := List.mem_map.mp h
  exact ⟨i, e.symm⟩
theorem Ints.cut {ws : List W} (h : Ints ws) (lo hi : Option Int) : Ints (cutW ws lo hi) := fun w m => h w (cutW_mem m)
theorem small {n : Nat} (h : n ≤ 10000000) : n ≤ sizeLine := Nat.le_trans h (by decide)
theorem smallT {n : Nat} (h : n < 10000000) : n < sizeLine := Nat.lt_of_lt_of_le h (by decide)
theorem cut_pre {S : List W} {i : Int} (h0 : 0 ≤ i) (h1 : i ≤ S.length) : cutW S none (some i) = S.take i.toNat := by
  unfold cutW HT.sIx
  simp only [List.drop_zero, Nat.sub_zero]
  rw [if_neg (by omega), Nat.min_eq_left (by omega)]
theorem cut_suf {S : List W} {i : Int} (h0 : 0 ≤ i) : cutW S (some i) none = S.drop i.toNat := by
  unfold cutW HT.sIx
  simp only []
  rw [if_neg (by omega)]
  by_cases h : i.toNat ≤ S.length
  · rw [Nat.min_eq_left h, List.take_of_length_le (by rw [List.length_drop]; exact Nat.le_refl _)]
  · rw [Nat.min_eq_right (by omega)]
    rw [List.drop_of_length_le (Nat.le_refl _), List.drop_of_length_le (by omega)]; simp
theorem cut_mid {S : List W} {i j : Int} (h0 : 0 ≤ i) (h1 : 0 ≤ j) : (cutW S (some i) (some j)).length ≤ (j - i).toNat := by
  unfold cutW HT.sIx
  simp only []
  rw [if_neg (by omega), if_neg (by omega), List.length_take, List.length_drop]
  omega
theorem put_swap {M : Mm} {p q : Addr} {a b c : MO} (h : p ≠ q) : put (put (put M p a) q b) p c = put (put M p c) q b := by
  rw [put_comm (M := put M p a) (Ne.symm h), put_put]
end L3
namespace L3
open PySem PySem.Spec PyProof.Rows L2
theorem isi_of {w : W} {T n : String} {b : Bool} {M : Mm} {R : K3} (hn : ∀ m, nameW M w m ↔ m = n) (hs : subT n T = some b) : rIsi [w, .ty T] M R ↔ R (.bl b) M :=
  ⟨fun ⟨_, _, h1, h2, h3⟩ => by cases (hn _).mp h1; cases hs.symm.trans h2; exact h3, fun h => ⟨n, b, (hn n).mpr rfl, hs, h⟩⟩
theorem isi_non_list {M : Mm} {R : K3} : rIsi [W.non, .ty "list"] M R ↔ R (.bl false) M := isi_of (fun _ => Iff.rfl) (by decide)
theorem isi_non_tuple {M : Mm} {R : K3} : rIsi [W.non, .ty "tuple"] M R ↔ R (.bl false) M := isi_of (fun _ => Iff.rfl) (by decide)
theorem isi_non_int {M : Mm} {R : K3} : rIsi [W.non, .ty "int"] M R ↔ R (.bl false) M := isi_of (fun _ => Iff.rfl) (by decide)
theorem isi_non_str {M : Mm} {R : K3} : rIsi [W.non, .ty "str"] M R ↔ R (.bl false) M := isi_of (fun _ => Iff.rfl) (by decide)
theorem isi_non_bool {M : Mm} {R : K3} : rIsi [W.non, .ty "bool"] M R ↔ R (.bl false) M := isi_of (fun _ => Iff.rfl) (by decide)
theorem isi_bl_bool {b : Bool} {M : Mm} {R : K3} : rIsi [W.bl b, .ty "bool"] M R ↔ R (.bl true) M := isi_of (fun _ => Iff.rfl) (by decide)
theorem isi_bl_int {b : Bool} {M : Mm} {R : K3} : rIsi [W.bl b, .ty "int"] M R ↔ R (.bl true) M := isi_of (fun _ => Iff.rfl) (by decide)
theorem isi_bl_str {b : Bool} {M : Mm} {R : K3} : rIsi [W.bl b, .ty "str"] M R ↔ R (.bl false) M := isi_of (fun _ => Iff.rfl) (by decide)
theorem isi_bl_list {b : Bool} {M : Mm} {R : K3} : rIsi [W.bl b, .ty "list"] M R ↔ R (.bl false) M := isi_of (fun _ => Iff.rfl) (by decide)
theorem isi_bl_tuple {b : Bool} {M : Mm} {R : K3} : rIsi [W.bl b, .ty "tuple"] M R ↔ R (.bl false) M := isi_of (fun _ => Iff.rfl) (by decide)
theorem isi_int_int {i : Int} {M : Mm} {R : K3} : rIsi [W.int i, .ty "int"] M R ↔ R (.bl true) M := isi_of (fun _ => Iff.rfl) (by decide)
theorem isi_int_bool {i : Int} {M : Mm} {R : K3} : rIsi [W.int i, .ty "bool"] M R ↔ R (.bl false) M := isi_of (fun _ => Iff.rfl) (by decide)
theorem isi_int_str {i : Int} {M : Mm} {R : K3} : rIsi [W.int i, .ty "str"] M R ↔ R (.bl false) M := isi_of (fun _ => Iff.rfl) (by decide)
theorem isi_int_tuple {i : Int} {M : Mm} {R : K3} : rIsi [W.int i, .ty "tuple"] M R ↔ R (.bl false) M := isi_of (fun _ => Iff.rfl) (by decide)
theorem isi_int_list {i : Int} {M : Mm} {R : K3} : rIsi [W.int i, .ty "list"] M R ↔ R (.bl false) M := isi_of (fun _ => Iff.rfl) (by decide)
theorem isi_str_str {x : Str} {M : Mm} {R : K3} : rIsi [W.str x, .ty "str"] M R ↔ R (.bl true) M := isi_of (fun _ => Iff.rfl) (by decide)
theorem isi_str_int {x : Str} {M : Mm} {R : K3} : rIsi [W.str x, .ty "int"] M R ↔ R (.bl false) M := isi_of (fun _ => Iff.rfl) (by decide)
theorem isi_str_tuple {x : Str} {M : Mm} {R : K3} : rIsi [W.str x, .ty "tuple"] M R ↔ R (.bl false) M := isi_of (fun _ => Iff.rfl) (by decide)
theorem isi_str_list {x : Str} {M : Mm} {R : K3} : rIsi [W.str x, .ty "list"] M R ↔ R (.bl false) M := isi_of (fun _ => Iff.rfl) (by decide)
theorem isi_str_bool {x : Str} {M : Mm} {R : K3} : rIsi [W.str x, .ty "bool"] M R ↔ R (.bl false) M := isi_of (fun _ => Iff.rfl) (by decide)
theorem isi_tup_tuple {ws : List W} {M : Mm} {R : K3} : rIsi [W.tup ws, .ty "tuple"] M R ↔ R (.bl true) M := isi_of (fun _ => Iff.rfl) (by decide)
theorem isi_tup_list {ws : List W} {M : Mm} {R : K3} : rIsi [W.tup ws, .ty "list"] M R ↔ R (.bl false) M := isi_of (fun _ => Iff.rfl) (by decide)
theorem isi_tup_str {ws : List W} {M : Mm} {R : K3} : rIsi [W.tup ws, .ty "str"] M R ↔ R (.bl false) M := isi_of (fun _ => Iff.rfl) (by decide)
theorem isi_tup_int {ws : List W} {M : Mm} {R : K3} : rIsi [W.tup ws, .ty "int"] M R ↔ R (.bl false) M := isi_of (fun _ => Iff.rfl) (by decide)
theorem isi_tup_bool {ws : List W} {M : Mm} {R : K3} : rIsi [W.tup ws, .ty "bool"] M R ↔ R (.bl false) M := isi_of (fun _ => Iff.rfl) (by decide)
theorem isi_rl_list {ws : List W} {M : Mm} {R : K3} : rIsi [W.rl ws, .ty "list"] M R ↔ R (.bl true) M := isi_of (fun _ => Iff.rfl) (by decide)
theorem isi_rl_tuple {ws : List W} {M : Mm} {R : K3} : rIsi [W.rl ws, .ty "tuple"] M R ↔ R (.bl false) M := isi_of (fun _ => Iff.rfl) (by decide)
theorem isi_rl_str {ws : List W} {M : Mm} {R : K3} : rIsi [W.rl ws, .ty "str"] M R ↔ R (.bl false) M := isi_of (fun _ => Iff.rfl) (by decide)
theorem isi_rl_int {ws : List W} {M : Mm} {R : K3} : rIsi [W.rl ws, .ty "int"] M R ↔ R (.bl false) M := isi_of (fun _ => Iff.rfl) (by decide)
theorem isi_rl_bool {ws : List W} {M : Mm} {R : K3} : rIsi [W.rl ws, .ty "bool"] M R ↔ R (.bl false) M := isi_of (fun _ => Iff.rfl) (by decide)
theorem isi_put {p : Addr} {ws : List W} {M : Mm} {R : K3} : rIsi [.ref p, .ty "list"] (put M p (.lst ws)) R ↔ R (.bl true) (put M p (.lst ws)) :=
  isi_of (n := "list") (fun m => Iff.intro (fun h => h.elim And.left (fun h => h.2.elim (fun ⟨_, e⟩ => nomatch put_same.symm.trans e) (fun ⟨_, e⟩ => nomatch put_same.symm.trans e))) (fun e => Or.inl ⟨e, ws, put_same⟩)) (by decide)
theorem rEq_ii {neg : Bool} {i j : Int} {M : Mm} {R : K3} : L3.rEq neg (.int i) (.int j) M R = R (.bl (if neg then !decide (i = j) else decide (i = j))) M := rfl
theorem rEq_ss {neg : Bool} {i j : Str} {M : Mm} {R : K3} : L3.rEq neg (.str i) (.str j) M R = R (.bl (if neg then !decide (i = j) else decide (i = j))) M := rfl
theorem rEq_bb {neg : Bool} {i j : Bool} {M : Mm} {R : K3} : L3.rEq neg (.bl i) (.bl j) M R = R (.bl (if neg then !decide (i = j) else decide (i = j))) M := rfl
theorem setK_str {M : Mm} {a : Addr} {k : Str} {v : W} {kvs : List (Key × W)} {Q : Mm → Prop} (h : M a = some (.dK kvs)) (hl : kvs.length < sizeLine) (q : Q (put M a (.dK (putW kvs (Sum.inr k) v)))) : rSetI (.ref a) (.str k) v M Q := .inr (.inl ⟨kvs, .inr k, rfl, h, hl, q⟩)
theorem setL {M : Mm} {a : Addr} {k : Int} {v : W} {ws : List W} {Q : Mm → Prop} (h : M a = some (.lst ws)) (h0 : 0 ≤ k) (h1 : k < ws.length) (q : Q (put M a (.lst (ws.set k.toNat v)))) : rSetI (.ref a) (.int k) v M Q :=
  .inl ⟨ws, k, k.toNat, rfl, h, by unfold ixN; rw [if_pos h0, if_pos h1], q⟩
end L3
set_option Elab.async false
set_option linter.all false
set_option maxRecDepth 100000
set_option maxHeartbeats 4000000
namespace L3
open PySem PySem.Spec PyProof.Rows L2
section
variable {X : Cx} {a b c : Expr} {ta tb tc : TE3} {pos : Pos}
theorem vChain_up {K : PySem.W.Frag} {r r' : R3} {σ : SV} {H : Hp} {Q : VK} (h : up K (vChain r r' ta tb tc) σ H Q) : tChain (upO K r) (upO K r') (up K ta) (up K tb) (up K tc) σ H Q := by
  obtain ⟨τ, M, R, as, am, h, k⟩ := h
  refine ⟨τ, M, _, as, am, h, fun x H1 wx M1 k1 am1 ax h1 => ⟨τ, M1, _, as.kp am k1, am1, h1, fun y H2 wy M2 k2 am2 ay h2 => ⟨wx, wy, M2, _, am2, ax.kp am1 k2, ay, h2, fun z H3 wz M3 k3 am3 az ⟨c, e, h3⟩ => ?_⟩⟩⟩
  subst e
  refine ⟨c, az.bl_inv, ?_⟩
  cases c with
  | false => exact ((k.kp k1).kp k2).kp k3 |>.at am3 (.bl false) h3
  | true => exact ⟨τ, M3, _, ((as.kp am k1).kp am1 k2).kp am2 k3, am3, h3, fun w H4 ww M4 k4 am4 aw h4 => ⟨wy, ww, M4, R, am4, (ay.kp am2 k3).kp am3 k4, aw, h4, (((k.kp k1).kp k2).kp k3).kp k4⟩⟩
theorem t_chain {op op' : CmpOp} {r r' : R3} (ho : OpR X (compareOp op) (upO X.K r)) (ho' : OpR X (compareOp op') (upO X.K r')) (ha : E3 X a ta) (hb : E3 X b tb) (hc : E3 X c tc)
    (hm : lastMarks [op, op'] [b, c] = false := by with_unfolding_all rfl) : T3 X (.Compare a [op, op'] [b, c] pos) (vTest (vChain r r' ta tb tc)) :=
  (pt_chain ho ho' ha hb hc hm).weak fun σ H Q ⟨τ, M, R, as, am, h, k⟩ => vChain_up ⟨τ, M, _, as, am, h, fun v H' w M' k' am' av ⟨c, e, r⟩ => by
    subst e
    exact ⟨c, av.bl_inv, k c H' M' k' am' r⟩⟩
def rAbs : List W → Mm → K3 → Prop
  | [.int i], M, R => R (.int (if i < 0 then -i else i)) M
  | _, _, _ => False
end
end L3
namespace L3
open PySem PySem.Spec PyProof.Rows L2
section
variable {X : Cx} {a b c : Expr} {ta tb tc : TE3} {pos : Pos}
def zipW : List W → List W → List W
  | x :: xs, y :: ys => .tup [x, y] :: zipW xs ys
  | _, _ => []
theorem zipW_len : ∀ {xs ys : List W}, (zipW xs ys).length = min xs.length ys.length
  | [], _ => by simp [zipW]
  | _ :: _, [] => by simp [zipW]
  | _ :: xs, _ :: ys => by simp [zipW, zipW_len (xs := xs)]
theorem zipW_get : ∀ {xs ys : List W} {i : Nat} {x y : W}, xs[i]? = some x → ys[i]? = some y → (zipW xs ys)[i]? = some (.tup [x, y])
  | [], _, _, _, _, h, _ => by simp at h
  | _ :: _, [], _, _, _, _, h => by simp at h
  | _ :: xs, _ :: ys, 0, _, _, h, h' => by simp at h h'; simp [zipW, h, h']
  | _ :: xs, _ :: ys, i + 1, _, _, h, h' => by simpa [zipW] using zipW_get (xs := xs) (ys := ys) (i := i) (by simpa using h) (by simpa using h')
end
end L3
set_option Elab.async false
set_option linter.all false
set_option maxRecDepth 100000
set_option maxHeartbeats 4000000
namespace L3
open PySem PySem.Spec PyProof.Rows L2
theorem vTru_q1 : ∀ (z0 : Mm) (z1 : Bool → Mm → Prop), vTru W.non z0 z1 = z1 Bool.false z0 := by intros; rfl
theorem vTru_q2 : ∀ (z0 : Mm) (z1 : Bool → Mm → Prop) (b : Bool), vTru (W.bl b) z0 z1 = z1 b z0 := by intros; rfl
theorem vTru_q3 : ∀ (z0 : Mm) (z1 : Bool → Mm → Prop) (i : Int), vTru (W.int i) z0 z1 = z1 (i != 0) z0 := by intros; rfl
theorem vTru_q4 : ∀ (z0 : Mm) (z1 : Bool → Mm → Prop) (y : PySem.Str), vTru (W.str y) z0 z1 = (Str.length y ≤ PySem.sizeLine ∧ z1 ((↑(Str.length y) : Int) != 0) z0) := by intros; rfl
theorem vTru_q5 : ∀ (z0 : Mm) (z1 : Bool → Mm → Prop) (ws : List W), vTru (W.tup ws) z0 z1 = z1 (!List.isEmpty ws) z0 := by intros; rfl
theorem vTru_q6 : ∀ (z0 : Mm) (z1 : Bool → Mm → Prop) (ws : List W), vTru (W.rl ws) z0 z1 = z1 (!List.isEmpty ws) z0 := by intros; rfl
theorem vTru_q7 : ∀ (z0 : Mm) (z1 : Bool → Mm → Prop) (ws : List W), vTru (W.sc ws) z0 z1 = z1 (!List.isEmpty ws) z0 := by intros; rfl
theorem vTru_q8 : ∀ (z0 : Mm) (z1 : Bool → Mm → Prop) (kvs : List (L2.Key × W)), vTru (W.dk kvs) z0 z1 = z1 (!List.isEmpty kvs) z0 := by intros; rfl
theorem vTru_q9 : ∀ (z0 : Mm) (z1 : Bool → Mm → Prop) (p : PySem.Addr), vTru (W.ref p) z0 z1 = ((∃ (ws : List W), z0 p = Option.some (MO.lst ws) ∧ z1 (!List.isEmpty ws) z0) ∨ ∃ (kvs : List (L2.Key × W)), z0 p = Option.some (MO.dK kvs) ∧ z1 (!List.isEmpty kvs) z0) := by intros; rfl
theorem rItN_q1 : ∀ (z0 : Mm) (z1 : List W → (Mm → Prop) → Mm → Prop) (ws : List W), rItN (W.tup ws) z0 z1 = z1 ws (fun (x : Mm) => True) z0 := by intros; rfl
theorem rItN_q2 : ∀ (z0 : Mm) (z1 : List W → (Mm → Prop) → Mm → Prop) (ws : List W), rItN (W.rl ws) z0 z1 = z1 ws (fun (x : Mm) => True) z0 := by intros; rfl
theorem rItN_q3 : ∀ (z0 : Mm) (z1 : List W → (Mm → Prop) → Mm → Prop) (ws : List W), rItN (W.sc ws) z0 z1 = z1 ws (fun (x : Mm) => True) z0 := by intros; rfl
theorem rItN_q4 : ∀ (z0 : Mm) (z1 : List W → (Mm → Prop) → Mm → Prop) (z : PySem.Str), rItN (W.str z) z0 z1 = z1 (List.map (fun (c : Nat) => W.str { cps := #[c] }) (Array.toList (PySem.Str.cps z))) (fun (x : Mm) => True) z0 := by intros; rfl
theorem rItN_q5 : ∀ (z0 : Mm) (z1 : List W → (Mm → Prop) → Mm → Prop) (a : PySem.Addr), rItN (W.ref a) z0 z1 = ∃ (ws : List W), z0 a = Option.some (MO.lst ws) ∧ z1 ws (fun (M : Mm) => M a = Option.some (MO.lst ws)) z0 := by intros; rfl
theorem rIt_q1 : ∀ (z0 : Mm) (z1 : List W → (Mm → Prop) → Mm → Prop) (ws : List W), rIt (W.tup ws) z0 z1 = z1 ws (fun (x : Mm) => True) z0 := by intros; rfl
theorem rIt_q2 : ∀ (z0 : Mm) (z1 : List W → (Mm → Prop) → Mm → Prop) (ws : List W), rIt (W.rl ws) z0 z1 = z1 ws (fun (x : Mm) => True) z0 := by intros; rfl
theorem rIt_q3 : ∀ (z0 : Mm) (z1 : List W → (Mm → Prop) → Mm → Prop) (ws : List W), rIt (W.sc ws) z0 z1 = z1 ws (fun (x : Mm) => True) z0 := by intros; rfl
theorem rIt_q4 : ∀ (z0 : Mm) (z1 : List W → (Mm → Prop) → Mm → Prop) (a : PySem.Addr), rIt (W.ref a) z0 z1 = ∃ (ws : List W), z0 a = Option.some (MO.lst ws) ∧ z1 ws (fun (M : Mm) => M a = Option.some (MO.lst ws)) z0 := by intros; rfl
theorem rAdd_q1 : ∀ (z0 : Mm) (z1 : K3) (i j : Int), rAdd (W.int i) (W.int j) z0 z1 = z1 (W.int (i + j)) z0 := by intros; rfl
theorem rAdd_q2 : ∀ (z0 : Mm) (z1 : K3) (i j : PySem.Str), rAdd (W.str i) (W.str j) z0 z1 = (Str.length i + Str.length j ≤ PySem.sizeLine ∧ z1 (W.str (i ++ j)) z0) := by intros; rfl
theorem rAdd_q3 : ∀ (z0 : Mm) (z1 : K3) (xs ys : List W), rAdd (W.tup xs) (W.tup ys) z0 z1 = (xs ≠ [] ∧ List.length xs + List.length ys ≤ PySem.sizeLine ∧ z1 (W.tup (xs ++ ys)) z0) := by intros; rfl
theorem rAdd_q4 : ∀ (z0 : Mm) (z1 : K3) (a b : PySem.Addr), rAdd (W.ref a) (W.ref b) z0 z1 = ∃ (xs : List W), ∃ (ys : List W), z0 a = Option.some (MO.lst xs) ∧ z0 b = Option.some (MO.lst ys) ∧ List.length xs + List.length ys ≤ PySem.sizeLine ∧ New (xs ++ ys) z0 z1 := by intros; rfl
theorem rAdd_q5 : ∀ (z0 : Mm) (z1 : K3) (xs : List W) (b : PySem.Addr), rAdd (W.rl xs) (W.ref b) z0 z1 = ∃ (ys : List W), z0 b = Option.some (MO.lst ys) ∧ List.length xs + List.length ys ≤ PySem.sizeLine ∧ New (xs ++ ys) z0 z1 := by intros; rfl
theorem rAdd_q6 : ∀ (z0 : Mm) (z1 : K3) (a : PySem.Addr) (ys : List W), rAdd (W.ref a) (W.rl ys) z0 z1 = ∃ (xs : List W), z0 a = Option.some (MO.lst xs) ∧ List.length xs + List.length ys ≤ PySem.sizeLine ∧ New (xs ++ ys) z0 z1 := by intros; rfl
theorem rAdd_q7 : ∀ (z0 : Mm) (z1 : K3) (xs ys : List W), rAdd (W.rl xs) (W.rl ys) z0 z1 = (List.length xs + List.length ys ≤ PySem.sizeLine ∧ New (xs ++ ys) z0 z1) := by intros; rfl
theorem rAddF_q1 : ∀ (z0 : Mm) (z1 : K3) (i j : Int), rAddF (W.int i) (W.int j) z0 z1 = z1 (W.int (i + j)) z0 := by intros; rfl
theorem rAddF_q2 : ∀ (z0 : Mm) (z1 : K3) (i j : PySem.Str), rAddF (W.str i) (W.str j) z0 z1 = (Str.length i + Str.length j ≤ PySem.sizeLine ∧ z1 (W.str (i ++ j)) z0) := by intros; rfl
theorem rAddF_q3 : ∀ (z0 : Mm) (z1 : K3) (xs ys : List W), rAddF (W.tup xs) (W.tup ys) z0 z1 = (xs ≠ [] ∧ List.length xs + List.length ys ≤ PySem.sizeLine ∧ z1 (W.tup (xs ++ ys)) z0) := by intros; rfl
theorem rAddF_q4 : ∀ (z0 : Mm) (z1 : K3) (a b : PySem.Addr), rAddF (W.ref a) (W.ref b) z0 z1 = ∃ (xs : List W), ∃ (ys : List W), z0 a = Option.some (MO.lst xs) ∧ z0 b = Option.some (MO.lst ys) ∧ List.length xs + List.length ys ≤ PySem.sizeLine ∧ z1 (W.rl (xs ++ ys)) z0 := by intros; rfl
theorem rAddF_q5 : ∀ (z0 : Mm) (z1 : K3) (xs : List W) (b : PySem.Addr), rAddF (W.rl xs) (W.ref b) z0 z1 = ∃ (ys : List W), z0 b = Option.some (MO.lst ys) ∧ List.length xs + List.length ys ≤ PySem.sizeLine ∧ z1 (W.rl (xs ++ ys)) z0 := by intros; rfl
theorem rAddF_q6 : ∀ (z0 : Mm) (z1 : K3) (a : PySem.Addr) (ys : List W), rAddF (W.ref a) (W.rl ys) z0 z1 = ∃ (xs : List W), z0 a = Option.some (MO.lst xs) ∧ List.length xs + List.length ys ≤ PySem.sizeLine ∧ z1 (W.rl (xs ++ ys)) z0 := by intros; rfl
theorem rAddF_q7 : ∀ (z0 : Mm) (z1 : K3) (xs ys : List W), rAddF (W.rl xs) (W.rl ys) z0 z1 = (List.length xs + List.length ys ≤ PySem.sizeLine ∧ z1 (W.rl (xs ++ ys)) z0) := by intros; rfl
theorem rII0_q1 : ∀ (g : Int → Int → W) (z1 : Mm) (z2 : K3) (i j : Int), rII0 g (W.int i) (W.int j) z1 z2 = z2 (g i j) z1 := by intros; rfl
theorem rII_q1 : ∀ (C : Int → Int → Prop) (g : Int → Int → W) (z2 : Mm) (z3 : K3) (i j : Int), rII C g (W.int i) (W.int j) z2 z3 = (C i j ∧ z3 (g i j) z2) := by intros; rfl
theorem rLt_q1 : ∀ (z0 : Mm) (z1 : K3) (i j : Int), rLt (W.int i) (W.int j) z0 z1 = z1 (W.bl (Decidable.decide (i < j))) z0 := by intros; rfl
theorem rLt_q2 : ∀ (z0 : Mm) (z1 : K3) (i j : PySem.Str), rLt (W.str i) (W.str j) z0 z1 = z1 (W.bl (strLt i j)) z0 := by intros; rfl
theorem rNeg_q1 : ∀ (z0 : Mm) (z1 : K3) (i : Int), rNeg (W.int i) z0 z1 = z1 (W.int (-i)) z0 := by intros; rfl
theorem rIx_q1 : ∀ (z0 : Mm) (z1 : K3) (ws : List W) (i : Int), rIx (W.tup ws) (W.int i) z0 z1 = ∃ (w : W), L2.atI ws i = Option.some w ∧ z1 w z0 := by intros; rfl
theorem rIx_q2 : ∀ (z0 : Mm) (z1 : K3) (ws : List W) (i : Int), rIx (W.rl ws) (W.int i) z0 z1 = ∃ (w : W), L2.atI ws i = Option.some w ∧ z1 w z0 := by intros; rfl
theorem rIx_q3 : ∀ (z0 : Mm) (z1 : K3) (ws : List W) (i : Int), rIx (W.sc ws) (W.int i) z0 z1 = ∃ (w : W), L2.atI ws i = Option.some w ∧ z1 w z0 := by intros; rfl
theorem rIx_q4 : ∀ (z0 : W) (z1 : Mm) (z2 : K3) (kvs : List (L2.Key × W)), rIx (W.dk kvs) z0 z1 z2 = ∃ (w : W), dGet z1 (W.dk kvs) z0 (Option.some w) ∧ z2 w z1 := by intros; rfl
theorem rIx_q5 : ∀ (z0 : W) (z1 : Mm) (z2 : K3) (kvs : List (List L2.Key × W)), rIx (W.dt kvs) z0 z1 z2 = ∃ (w : W), dGet z1 (W.dt kvs) z0 (Option.some w) ∧ z2 w z1 := by intros; rfl
theorem rIx_q6 : ∀ (z0 : Mm) (z1 : K3) (z : PySem.Str) (i : Int), rIx (W.str z) (W.int i) z0 z1 = (Str.length z ≤ PySem.sizeLine ∧ ∃ (c : Nat), L2.atI (Array.toList (PySem.Str.cps z)) i = Option.some c ∧ z1 (W.str { cps := #[c] }) z0) := by intros; rfl
theorem rIx_q7 : ∀ (z0 : Mm) (z1 : K3) (a : PySem.Addr) (i : Int), rIx (W.ref a) (W.int i) z0 z1 = ((∃ (ws : List W), ∃ (w : W), z0 a = Option.some (MO.lst ws) ∧ L2.atI ws i = Option.some w ∧ z1 w z0) ∨ ∃ (w : W), dGet z0 (W.ref a) (W.int i) (Option.some w) ∧ z1 w z0) := by intros; rfl
theorem rIx_q8 : ∀ (z0 : W) (z1 : Mm) (z2 : K3) (a : PySem.Addr), (∀ (i : Int), z0 = W.int i → False) → rIx (W.ref a) z0 z1 z2 = ∃ (w : W), dGet z1 (W.ref a) z0 (Option.some w) ∧ z2 w z1 := by
  intro x M R a h; cases x <;> first | rfl | exact (h _ rfl).elim
theorem rLen_q1 : ∀ (z0 : Mm) (z1 : K3) (ws : List W), rLen [W.tup ws] z0 z1 = z1 (W.int (↑(List.length ws) : Int)) z0 := by intros; rfl
theorem rLen_q2 : ∀ (z0 : Mm) (z1 : K3) (ws : List W), rLen [W.rl ws] z0 z1 = z1 (W.int (↑(List.length ws) : Int)) z0 := by intros; rfl
theorem rLen_q3 : ∀ (z0 : Mm) (z1 : K3) (ws : List W), rLen [W.sc ws] z0 z1 = z1 (W.int (↑(List.length ws) : Int)) z0 := by intros; rfl
theorem rLen_q4 : ∀ (z0 : Mm) (z1 : K3) (kvs : List (L2.Key × W)), rLen [W.dk kvs] z0 z1 = z1 (W.int (↑(List.length kvs) : Int)) z0 := by intros; rfl
theorem rLen_q5 : ∀ (z0 : Mm) (z1 : K3) (z : PySem.Str), rLen [W.str z] z0 z1 = (Str.length z ≤ PySem.sizeLine ∧ z1 (W.int (↑(Str.length z) : Int)) z0) := by intros; rfl
theorem rLen_q6 : ∀ (z0 : Mm) (z1 : K3) (a : PySem.Addr), rLen [W.ref a] z0 z1 = ((∃ (ws : List W), z0 a = Option.some (MO.lst ws) ∧ z1 (W.int (↑(List.length ws) : Int)) z0) ∨ ∃ (kvs : List (L2.Key × W)), z0 a = Option.some (MO.dK kvs) ∧ z1 (W.int (↑(List.length kvs) : Int)) z0) := by intros; rfl
theorem rList_q1 : ∀ (z0 : Mm) (z1 : K3) (ws : List W), rList [W.tup ws] z0 z1 = New ws z0 z1 := by intros; rfl
theorem rList_q2 : ∀ (z0 : Mm) (z1 : K3) (ws : List W), rList [W.rl ws] z0 z1 = New ws z0 z1 := by intros; rfl
theorem rList_q3 : ∀ (z0 : Mm) (z1 : K3) (ws : List W), rList [W.sc ws] z0 z1 = New ws z0 z1 := by intros; rfl
theorem rList_q4 : ∀ (z0 : Mm) (z1 : K3) (kvs : List (L2.Key × W)), rList [W.dk kvs] z0 z1 = New (List.map (fun (kv : L2.Key × W) => wK (Prod.fst kv)) kvs) z0 z1 := by intros; rfl
theorem rList_q5 : ∀ (z0 : Mm) (z1 : K3) (a : PySem.Addr), rList [W.ref a] z0 z1 = ((∃ (ws : List W), z0 a = Option.some (MO.lst ws) ∧ New ws z0 z1) ∨ ∃ (kvs : List (L2.Key × W)), z0 a = Option.some (MO.dK kvs) ∧ New (List.map (fun (kv : L2.Key × W) => wK (Prod.fst kv)) kvs) z0 z1) := by intros; rfl
theorem rListF_q1 : ∀ (z0 : Mm) (z1 : K3) (ws : List W), rListF [W.tup ws] z0 z1 = z1 (W.rl ws) z0 := by intros; rfl
theorem rListF_q2 : ∀ (z0 : Mm) (z1 : K3) (ws : List W), rListF [W.rl ws] z0 z1 = z1 (W.rl ws) z0 := by intros; rfl
theorem rListF_q3 : ∀ (z0 : Mm) (z1 : K3) (ws : List W), rListF [W.sc ws] z0 z1 = z1 (W.rl ws) z0 := by intros; rfl
theorem rListF_q4 : ∀ (z0 : Mm) (z1 : K3) (kvs : List (L2.Key × W)), rListF [W.dk kvs] z0 z1 = z1 (W.rl (List.map (fun (kv : L2.Key × W) => wK (Prod.fst kv)) kvs)) z0 := by intros; rfl
theorem rListF_q5 : ∀ (z0 : Mm) (z1 : K3) (a : PySem.Addr), rListF [W.ref a] z0 z1 = ((∃ (ws : List W), z0 a = Option.some (MO.lst ws) ∧ z1 (W.rl ws) z0) ∨ ∃ (kvs : List (L2.Key × W)), z0 a = Option.some (MO.dK kvs) ∧ z1 (W.rl (List.map (fun (kv : L2.Key × W) => wK (Prod.fst kv)) kvs)) z0) := by intros; rfl
theorem rTuple_q1 : ∀ (z0 : Mm) (z1 : K3) (ws : List W), rTuple [W.tup ws] z0 z1 = z1 (W.tup ws) z0 := by intros; rfl
theorem rTuple_q2 : ∀ (z0 : Mm) (z1 : K3) (ws : List W), rTuple [W.rl ws] z0 z1 = z1 (W.tup ws) z0 := by intros; rfl
theorem rTuple_q3 : ∀ (z0 : Mm) (z1 : K3) (a : PySem.Addr), rTuple [W.ref a] z0 z1 = ∃ (ws : List W), z0 a = Option.some (MO.lst ws) ∧ z1 (W.tup ws) z0 := by intros; rfl
theorem rStr_q1 : ∀ (z0 : Mm) (z1 : K3) (i : Int), rStr [W.int i] z0 z1 = (Nat.log2 (Int.natAbs i) < 1920 ∧ z1 (W.str (PySem.Str.ofString (ToString.toString i))) z0) := by intros; rfl
theorem rSlF_q1 : ∀ (z0 z1 : Option Int) (z2 : Mm) (z3 : K3) (ws : List W), rSlF (W.rl ws) z0 z1 z2 z3 = z3 (W.rl (cutW ws z0 z1)) z2 := by intros; rfl
theorem rSlF_q2 : ∀ (z0 z1 : Option Int) (z2 : Mm) (z3 : K3) (ws : List W), rSlF (W.sc ws) z0 z1 z2 z3 = z3 (W.rl (cutW ws z0 z1)) z2 := by intros; rfl
theorem rSlF_q3 : ∀ (z0 z1 : Option Int) (z2 : Mm) (z3 : K3) (a : PySem.Addr), rSlF (W.ref a) z0 z1 z2 z3 = ∃ (ws : List W), z2 a = Option.some (MO.lst ws) ∧ z3 (W.rl (cutW ws z0 z1)) z2 := by intros; rfl
theorem rSlF_q4 : ∀ (z0 z1 : Option Int) (z2 : Mm) (z3 : K3) (ws : List W), rSlF (W.tup ws) z0 z1 z2 z3 = (¬(HT.sIx (List.length ws) 0 z0 = 0 ∧ HT.sIx (List.length ws) (List.length ws) z1 = List.length ws) ∧ z3 (W.tup (cutW ws z0 z1)) z2) := by intros; rfl
theorem rSl_q1 : ∀ (z0 z1 : Option Int) (z2 : Mm) (z3 : K3) (ws : List W), rSl (W.rl ws) z0 z1 z2 z3 = New (cutW ws z0 z1) z2 z3 := by intros; rfl
theorem rSl_q2 : ∀ (z0 z1 : Option Int) (z2 : Mm) (z3 : K3) (ws : List W), rSl (W.sc ws) z0 z1 z2 z3 = New (cutW ws z0 z1) z2 z3 := by intros; rfl
theorem rSl_q3 : ∀ (z0 z1 : Option Int) (z2 : Mm) (z3 : K3) (a : PySem.Addr), rSl (W.ref a) z0 z1 z2 z3 = ∃ (ws : List W), z2 a = Option.some (MO.lst ws) ∧ New (cutW ws z0 z1) z2 z3 := by intros; rfl
theorem rSl_q4 : ∀ (z0 z1 : Option Int) (z2 : Mm) (z3 : K3) (ws : List W), rSl (W.tup ws) z0 z1 z2 z3 = (¬(HT.sIx (List.length ws) 0 z0 = 0 ∧ HT.sIx (List.length ws) (List.length ws) z1 = List.length ws) ∧ z3 (W.tup (cutW ws z0 z1)) z2) := by intros; rfl
theorem rApp_q1 : ∀ (z0 : Mm) (z1 : K3) (l : PySem.Addr) (y : W), rApp (W.ref l) [y] z0 z1 = ∃ (ws : List W), z0 l = Option.some (MO.lst ws) ∧ List.length ws < PySem.sizeLine ∧ z1 W.non (put z0 l (MO.lst (ws ++ [y]))) := by intros; rfl
theorem rExt_q1 : ∀ (z0 : Mm) (z1 : K3) (l b : PySem.Addr), rExt (W.ref l) [W.ref b] z0 z1 = ∃ (ws : List W), ∃ (zs : List W), z0 l = Option.some (MO.lst ws) ∧ z0 b = Option.some (MO.lst zs) ∧ List.length ws + List.length zs ≤ PySem.sizeLine ∧ z1 W.non (put z0 l (MO.lst (ws ++ zs))) := by intros; rfl
theorem rExt_q2 : ∀ (z0 : Mm) (z1 : K3) (l : PySem.Addr) (zs : List W), rExt (W.ref l) [W.rl zs] z0 z1 = ∃ (ws : List W), z0 l = Option.some (MO.lst ws) ∧ List.length ws + List.length zs ≤ PySem.sizeLine ∧ z1 W.non (put z0 l (MO.lst (ws ++ zs))) := by intros; rfl
theorem rPop_q1 : ∀ (z0 : Mm) (z1 : K3) (l : PySem.Addr), rPop (W.ref l) [] z0 z1 = ∃ (ws : List W), ∃ (w : W), z0 l = Option.some (MO.lst (ws ++ [w])) ∧ z1 w (put z0 l (MO.lst ws)) := by intros; rfl
theorem tyW_q1 : ∀ (T : String) (z1 : Mm) (x_2 : PySem.Str), tyW T (W.str x_2) z1 = (T = "str") := by intros; rfl
theorem tyW_q2 : ∀ (T : String) (z1 : Mm) (i : Int), tyW T (W.int i) z1 = (T = "int") := by intros; rfl
theorem tyW_q3 : ∀ (T : String) (z1 : Mm) (ws : List W), tyW T (W.rl ws) z1 = (T = "list") := by intros; rfl
theorem tyW_q4 : ∀ (T : String) (z1 : Mm) (ws : List W), tyW T (W.sc ws) z1 = (T = "list") := by intros; rfl
theorem tyW_q5 : ∀ (T : String) (z1 : Mm) (kvs : List (L2.Key × W)), tyW T (W.dk kvs) z1 = (T = "dict") := by intros; rfl
theorem tyW_q6 : ∀ (T : String) (z1 : Mm) (kvs : List (List L2.Key × W)), tyW T (W.dt kvs) z1 = (T = "dict") := by intros; rfl
theorem tyW_q7 : ∀ (T : String) (z1 : Mm) (p : PySem.Addr), tyW T (W.ref p) z1 = ((T = "list" ∧ ∃ (ws : List W), z1 p = Option.some (MO.lst ws)) ∨ T = "dict" ∧ ((∃ (kvs : List (L2.Key × W)), z1 p = Option.some (MO.dK kvs)) ∨ ∃ (kvs : List (List L2.Key × W)), z1 p = Option.some (MO.dT kvs))) := by intros; rfl
theorem rMul_q1 : ∀ (z0 : Mm) (z1 : K3) (i j : Int), rMul (W.int i) (W.int j) z0 z1 = ((L2.CMul i j ∨ L2.CBig i j) ∧ z1 (W.int (i * j)) z0) := by intros; rfl
theorem rMul_q2 : ∀ (z0 : Mm) (z1 : K3) (z : PySem.Str) (n : Int), rMul (W.str z) (W.int n) z0 z1 = (Str.length z ≤ 16 ∧ -2 ^ 63 ≤ n ∧ n ≤ 1048576 ∧ z1 (W.str (PySem.Txt.mul z n)) z0) := by intros; rfl
theorem rMul_q3 : ∀ (z0 : Mm) (z1 : K3) (a : PySem.Addr) (n : Int), rMul (W.ref a) (W.int n) z0 z1 = ∃ (xs : List W), z0 a = Option.some (MO.lst xs) ∧ -2 ^ 63 ≤ n ∧ n < 2 ^ 63 ∧ List.length xs * Int.toNat n ≤ PySem.sizeLine ∧ New (List.flatten (List.replicate (Int.toNat n) xs)) z0 z1 := by intros; rfl
theorem rMul_q4 : ∀ (z0 : Mm) (z1 : K3) (xs : List W) (n : Int), rMul (W.rl xs) (W.int n) z0 z1 = (-2 ^ 63 ≤ n ∧ n < 2 ^ 63 ∧ List.length xs * Int.toNat n ≤ PySem.sizeLine ∧ New (List.flatten (List.replicate (Int.toNat n) xs)) z0 z1) := by intros; rfl
theorem rMulF_q1 : ∀ (z0 : Mm) (z1 : K3) (i j : Int), rMulF (W.int i) (W.int j) z0 z1 = ((L2.CMul i j ∨ L2.CBig i j) ∧ z1 (W.int (i * j)) z0) := by intros; rfl
theorem rMulF_q2 : ∀ (z0 : Mm) (z1 : K3) (z : PySem.Str) (n : Int), rMulF (W.str z) (W.int n) z0 z1 = (Str.length z ≤ 16 ∧ -2 ^ 63 ≤ n ∧ n ≤ 1048576 ∧ z1 (W.str (PySem.Txt.mul z n)) z0) := by intros; rfl
theorem rMulF_q3 : ∀ (z0 : Mm) (z1 : K3) (a : PySem.Addr) (n : Int), rMulF (W.ref a) (W.int n) z0 z1 = ∃ (xs : List W), z0 a = Option.some (MO.lst xs) ∧ -2 ^ 63 ≤ n ∧ n < 2 ^ 63 ∧ List.length xs * Int.toNat n ≤ PySem.sizeLine ∧ z1 (W.rl (List.flatten (List.replicate (Int.toNat n) xs))) z0 := by intros; rfl
theorem rMulF_q4 : ∀ (z0 : Mm) (z1 : K3) (xs : List W) (n : Int), rMulF (W.rl xs) (W.int n) z0 z1 = (-2 ^ 63 ≤ n ∧ n < 2 ^ 63 ∧ List.length xs * Int.toNat n ≤ PySem.sizeLine ∧ z1 (W.rl (List.flatten (List.replicate (Int.toNat n) xs))) z0) := by intros; rfl
end L3
set_option Elab.async false
set_option linter.all false
set_option maxRecDepth 100000
set_option maxHeartbeats 4000000
namespace L3
open PySem PySem.Spec PyProof.Rows L2
section
variable {X : Cx} {a b c : Expr} {ta tb tc : TE3} {pos : Pos}
theorem it_zipT {K : PySem.W.Frag} {H0 : Hp} {M0 : Mm} {p q : Addr} {vs us : List V} {ws zs : List W} (am0 : AM K H0 M0) (e1 : H0 p = some (.tup vs)) (e2 : H0 q = some (.tup us)) (r1 : AVs K H0 M0 vs ws) (r2 : AVs K H0 M0 us zs) : ItOk K H0 M0 (Itzt K p q vs us) (zipW ws zs) fun _ => True := by
  have s1 : ∀ H M, Kp H0 M0 H M → SqT K H p vs := fun H M k => SqT.of (k.fr _ _ (am0.noTup e1) e1).1
  have s2 : ∀ H M, Kp H0 M0 H M → SqT K H q us := fun H M k => SqT.of (k.fr _ _ (am0.noTup e2) e2).1
  refine ⟨fun i H M k am _ hi => ⟨s1 H M k, s2 H M k, ?_, ?_⟩, fun H M k am _ => ⟨s1 H M k, s2 H M k, ?_⟩, fun i H M x H' k am _ hi y => ?_⟩
  · rw [zipW_len] at hi; rw [r1.length]; omega
  · rw [zipW_len] at hi; rw [r2.length]; omega
  · rw [zipW_len, r1.length, r2.length]; omega
  · obtain ⟨pp, u, v, hu, hv, hn, rfl, rfl⟩ := y
    obtain ⟨w, hw, av⟩ := (r1.kp am0 k).getV hu
    obtain ⟨z, hz, az⟩ := (r2.kp am0 k).getV hv
    obtain ⟨am2, k2⟩ := am.tup (u := .tup [u, v]) hn
    exact ⟨.tup [w, z], zipW_get hw hz, k2, am2, .tup upd_same (.cons (av.go (go_same hn)) (.cons (az.go (go_same hn)) .nil))⟩
theorem it_zip {K : PySem.W.Frag} {H0 : Hp} {M0 : Mm} {p q : Addr} {vs us : List V} {ws zs : List W} (am0 : AM K H0 M0) (e1 : H0 p = some (.lst vs)) (n1 : M0 p = none) (e2 : H0 q = some (.lst us)) (n2 : M0 q = none) (r1 : AVs K H0 M0 vs ws) (r2 : AVs K H0 M0 us zs) : ItOk K H0 M0 (Itz K p q vs us) (zipW ws zs) fun _ => True := by
  have s1 : ∀ H M, Kp H0 M0 H M → SqL K H p vs := fun H M k => SqL.of (k.fr _ _ n1 e1).1
  have s2 : ∀ H M, Kp H0 M0 H M → SqL K H q us := fun H M k => SqL.of (k.fr _ _ n2 e2).1
  refine ⟨fun i H M k am _ hi => ⟨s1 H M k, s2 H M k, ?_, ?_⟩, fun H M k am _ => ⟨s1 H M k, s2 H M k, ?_⟩, fun i H M x H' k am _ hi y => ?_⟩
  · rw [zipW_len] at hi; rw [r1.length]; omega
  · rw [zipW_len] at hi; rw [r2.length]; omega
  · rw [zipW_len, r1.length, r2.length]; omega
  · obtain ⟨pp, u, v, hu, hv, hn, rfl, rfl⟩ := y
    obtain ⟨w, hw, av⟩ := (r1.kp am0 k).getV hu
    obtain ⟨z, hz, az⟩ := (r2.kp am0 k).getV hv
    obtain ⟨am2, k2⟩ := am.tup (u := .tup [u, v]) hn
    exact ⟨.tup [w, z], zipW_get hw hz, k2, am2, .tup upd_same (.cons (av.go (go_same hn)) (.cons (az.go (go_same hn)) .nil))⟩
def rZip : List W → Mm → (List W → (Mm → Prop) → Mm → Prop) → Prop
  | [.tup xs, .tup ys], M, R => R (zipW xs ys) (fun _ => True) M
  | [.rl xs, .rl ys], M, R => R (zipW xs ys) (fun _ => True) M
  | _, _, _ => False
def iZip (ta : TA3) : TI3 := fun τ M R => ta τ M fun ws M1 => rZip ws M1 R
theorem i_zip {tA : TA3} {p pos : Pos} {es : List Expr} {kx : Nat} {px : Pos} (hg : Gl X "zip") (hm : X.mg "zip" = none) (ha : A3 X [a, b] tA) (hs : starEach [a, b] X.env = [(false, eval a X.env), (false, eval b X.env)] := by rfl) (hs2 : starEach [b] X.env = [(false, eval b X.env)] := by rfl) :
    PI X (.Tuple es kx px) (.Call (.Name "zip" p) [a, b] [] pos) (upI X.K (iZip tA)) :=
  (pi_zipU hg hm ha hs hs2).weak fun σ H R' ⟨τ, M, R, as, am, h, k⟩ => ⟨τ, M, _, as, am, h, fun vs H1 ws M1 k1 am1 ax r => by
    match ws, r with
    | [.tup xs, .tup ys], r =>
      obtain ⟨v, u, rfl, av, au⟩ := ax.two
      cases av with
      | tup e1 q1 => cases au with
        | tup e2 q2 => exact ⟨_, _, _, _, rfl, .inl ⟨SqT.of e1, SqT.of e2, k _ _ _ _ _ k1 am1 (it_zipT am1 e1 e2 q1 q2) r⟩⟩
    | [.rl xs, .rl ys], r =>
      obtain ⟨v, u, rfl, av, au⟩ := ax.two
      cases av with
      | rl e1 n1 q1 => cases au with
        | rl e2 n2 q2 => exact ⟨_, _, _, _, rfl, .inr ⟨SqL.of e1, SqL.of e2, k _ _ _ _ _ k1 am1 (it_zip am1 e1 n1 e2 n2 q1 q2) r⟩⟩⟩
def rListRev : W → Mm → K3 → Prop
  | .tup ws, M, R => New ws.reverse M R
  | _, _, _ => False
def rListRevF : W → Mm → K3 → Prop
  | .tup ws, M, R => R (.rl ws.reverse) M
  | _, _, _ => False
def vListRev (ta : TE3) : TE3 := fun τ M R => ta τ M fun w M1 => rListRev w M1 R
def vListRevF (ta : TE3) : TE3 := fun τ M R => ta τ M fun w M1 => rListRevF w M1 R
theorem v_listrev {p p2 pos pos2 : Pos} (hg : Gl X "list") (hm : X.mg "list" = none) (hg2 : Gl X "reversed") (hm2 : X.mg "reversed" = none) (ha : E3 X a ta) (hc : X.calm = true := by rfl)
    (hs1 : starEach [.Call (.Name "reversed" p2) [a] [] pos2] X.env = [(false, eval (.Call (.Name "reversed" p2) [a] [] pos2) X.env)] := by rfl) (hs2 : starEach [a] X.env = [(false, eval a X.env)] := by rfl) :
    E3 X (.Call (.Name "list" p) [.Call (.Name "reversed" p2) [a] [] pos2] [] pos) (vListRev ta) :=
  (pe_listrev hc hg hm hg2 hm2 (a_cons ha a_nil (by rw [hs2]; rfl)) hs1 hs2).weak fun σ H Q ⟨τ, M, R, as, am, h, k⟩ => ⟨τ, M, fun ws M1 => match ws with | [w] => rListRev w M1 R | _ => False, as, am, h, fun vs H1 ws M1 k1 am1 ax r => by
    match ws, r with
    | [w], r =>
      obtain ⟨v, rfl, av⟩ := ax.one
      cases av <;> first | exact (show False from r).elim | skip
      case tup a xs ws e q => exact ⟨a, xs, rfl, SqT.of e, fun p hp => laidL am1 (k.kp k1) hp q.reverse r⟩⟩
theorem v_listrevF {p p2 pos pos2 : Pos} (hg : Gl X "list") (hm : X.mg "list" = none) (hg2 : Gl X "reversed") (hm2 : X.mg "reversed" = none) (ha : E3 X a ta) (hc : X.calm = true := by rfl)
    (hs1 : starEach [.Call (.Name "reversed" p2) [a] [] pos2] X.env = [(false, eval (.Call (.Name "reversed" p2) [a] [] pos2) X.env)] := by rfl) (hs2 : starEach [a] X.env = [(false, eval a X.env)] := by rfl) :
    E3 X (.Call (.Name "list" p) [.Call (.Name "reversed" p2) [a] [] pos2] [] pos) (vListRevF ta) :=
  (pe_listrev hc hg hm hg2 hm2 (a_cons ha a_nil (by rw [hs2]; rfl)) hs1 hs2).weak fun σ H Q ⟨τ, M, R, as, am, h, k⟩ => ⟨τ, M, fun ws M1 => match ws with | [w] => rListRevF w M1 R | _ => False, as, am, h, fun vs H1 ws M1 k1 am1 ax r => by
    match ws, r with
    | [w], r =>
      obtain ⟨v, rfl, av⟩ := ax.one
      cases av <;> first | exact (show False from r).elim | skip
      case tup a xs ws e q => exact ⟨a, xs, rfl, SqT.of e, fun p hp => laidF am1 (k.kp k1) hp q.reverse r⟩⟩
end
end L3
namespace L3
open PySem PySem.Spec PyProof.Rows L2
section
variable {X : Cx}
theorem AVs.intsL {K : PySem.W.Frag} {H : Hp} {M : Mm} {ns : List Int} {vs : List V} (h : AVs K H M vs (ns.map W.int)) : vs = ns.map V.int := h.ints
def rSum : List W → Mm → K3 → Prop
  | [.rl ws], M, R => ∃ ns : List Int, ws = ns.map W.int ∧ R (.int ns.sum) M
  | _, _, _ => False
theorem c_sum (hc : X.calm = true) : CallR X (.builtin "sum") (upC X.K rSum) := by
  rintro pins s σ H xs us Q I rs ⟨ws, M, R, am, axs, h, k⟩
  match ws, h with
  | [.rl ws], h =>
    obtain ⟨v, rfl, av⟩ := axs.one
    obtain ⟨ns, rfl, r⟩ := h
    cases av with
    | rl f _ q =>
      rw [q.intsL] at f
      exact call_sumB hc pins s σ H _ us Q I rs ⟨_, ns, rfl, SqL.of f, k.at am (.int _) r⟩
def rMax1 : List W → Mm → K3 → Prop
  | [.rl ws], M, R => ∃ ns : List Int, ws = ns.map W.int ∧ 0 < ns.length ∧ ∀ m, m ∈ ns → (∀ a ∈ ns, a ≤ m) → R (.int m) M
  | _, _, _ => False
theorem c_max1 (hc : X.calm = true) : CallR X (.builtin "max") (upC X.K rMax1) := by
  rintro pins s σ H xs us Q I rs ⟨ws, M, R, am, axs, h, k⟩
  match ws, h with
  | [.rl ws], h =>
    obtain ⟨v, rfl, av⟩ := axs.one
    obtain ⟨ns, rfl, hn, r⟩ := h
    cases av with
    | rl f _ q =>
      rw [q.intsL] at f
      exact call_maxB hc pins s σ H _ us Q I rs ⟨_, ns, rfl, SqL.of f, hn, fun m hm ha => k.at am (.int _) (r m hm ha)⟩
def rSortD : List W → Mm → K3 → Prop
  | [.dk kvs], M, R => ∃ ks : List Str, kvs.map Prod.fst = ks.map Sum.inr ∧ ks.length < 64 ∧ ∀ ss : List Str, ss.Perm ks → New (ss.map W.str) M R
  | _, _, _ => False
def rSortDF : List W → Mm → K3 → Prop
  | [.dk kvs], M, R => ∃ ks : List Str, kvs.map Prod.fst = ks.map Sum.inr ∧ ks.length < 64 ∧ ∀ ss : List Str, ss.Perm ks → R (.rl (ss.map W.str)) M
  | _, _, _ => False
theorem avs_strs {K : PySem.W.Frag} {H : Hp} {M : Mm} (ss : List Str) : AVs K H M (ss.map V.str) (ss.map W.str) := by
  induction ss with
  | nil => exact .nil
  | cons s r ih => exact .cons (.str s) ih
theorem c_sortD (hc : X.calm = true) : CallR X (.builtin "sorted") (upC X.K rSortD) := by
  rintro pins s σ H xs us Q I rs ⟨ws, M, R, am, axs, h, k⟩
  match ws, h with
  | [.dk kvs], h =>
    obtain ⟨v, rfl, av⟩ := axs.one
    obtain ⟨ks, hk, h64, r⟩ := h
    cases av with
    | dk e n ke q => exact call_sorted_dict hc pins s σ H _ us Q I rs ⟨_, _, ks, rfl, e, ke.trans hk, h64, fun ss hp p hp' => laidL am k hp' (avs_strs ss) (r ss hp)⟩
theorem c_sortDF (hc : X.calm = true) : CallR X (.builtin "sorted") (upC X.K rSortDF) := clw (c_sortD hc) fun x M R h => by
  match x, h with
  | [.dk kvs], ⟨ks, h1, h2, r⟩ => exact ⟨ks, h1, h2, fun ss hp => New.frz (r ss hp)⟩
def rNeE : R3
  | .dk kvs, .dk [], M, R => R (.bl (!kvs.isEmpty)) M
  | .ref a, .dk [], M, R => ∃ kvs, M a = some (.dK kvs) ∧ R (.bl (!kvs.isEmpty)) M
  | _, _, _, _ => False
theorem o_neE (hu : X.A.units + 1 < cLine) : OpR X (compareOp .NotEq) (upO X.K rNeE) := by
  rintro pins s σ H x y v u Q I rx ry ⟨wx, wy, M, R, am, ax, ay, h, k⟩
  match wx, wy, h with
  | .dk kvs, .dk [], h =>
    cases ax with
    | dk e n ke q => cases ay with
      | dk e2 n2 ke2 q2 =>
        rename_i a ks b ks2
        have z : ks2 = [] := by cases ks2; rfl; simp at ke2
        subst z
        have hl : ks.isEmpty = kvs.isEmpty := by cases ks <;> cases kvs <;> first | rfl | simp at ke
        exact op_neE hu pins s σ H _ _ v u Q I rx ry ⟨a, b, ks, rfl, rfl, e, e2, by rw [hl]; exact k.at am (.bl _) h⟩
  | .ref a, .dk [], h =>
    cases ax
    cases ay with
    | dk e2 n2 ke2 q2 =>
      rename_i b ks2
      obtain ⟨kvs, e, r⟩ := h
      obtain ⟨ks, f, q⟩ := am _ _ e
      have z : ks2 = [] := by cases ks2; rfl; simp at ke2
      subst z
      have hl : ks.isEmpty = kvs.isEmpty := by cases q <;> rfl
      exact op_neE hu pins s σ H _ _ v u Q I rx ry ⟨a, b, ks, rfl, rfl, f, e2, by rw [hl]; exact k.at am (.bl _) r⟩
end
end L3
set_option Elab.async false
set_option linter.all false
set_option maxRecDepth 100000
set_option maxHeartbeats 4000000
namespace L2
open PySem PySem.Spec PyProof.Rows
def Itr2 (lo : Int) (n : Nat) : It := ⟨fun i _ => i < n, fun i H x H' => H' = H ∧ x = .int (lo + i * 2), fun i _ => n ≤ i⟩
theorem turn_two {P : Program} {w : World} {K : PySem.W.Frag} {tg : Expr} (it : Addr) (lo : Int) (n : Nat) : Turn P w K tg (Itr2 lo n) [it] it (fun i h => IsRangeIter h it (lo + (i : Nat) * 2) ((n : Int) - (i : Nat)) 2) where
  mem := by simp
  obj := fun i h st b hb => by
    cases List.mem_singleton.mp hb
    exact ⟨_, st, fun v z => nomatch (show Data.fields _ = Data.cell v from z)⟩
  keep := fun i h h' st k => k it (by simp) _ st
  item := by
    intro X hP hw hK hc i pins s σ H E I hf st hg
    subst hP hw hK
    have ⟨f0, f1, _, f3, f4, f5⟩ := hf it (by simp)
    refine (Walks.range (prog := X.prog) (w := X.w) (I.ok.hd hc) it lo 2 n).item i s _ _ hg st fun v h' tk hv st' kk => ?_
    obtain ⟨t, rfl⟩ := hv
    exact ⟨_, rfl, go_of (s := { s with heap := h', toks := tk }) (n := "range_iterator") st' rfl rfl (by decide) ⟨.int (lo + i * 2), H, I.turned (fun b o hb e => kk b o (by simpa using hb) e) f0 f1 f3 f4 f5, ⟨t, rfl⟩, ⟨rfl, rfl⟩, st', fun b hb => (hf b hb).1⟩⟩
  done := by
    intro X hP hw hK hc i pins s σ H E I hf st hg
    subst hP hw hK
    have ⟨f0, f1, _, f3, f4, f5⟩ := hf it (by simp)
    exact wpAny_pyNext_range_end (I.ok.hd hc) st (by have : n ≤ i := hg; omega) fun h' eb => ⟨rfl, I.turned (t' := s.toks) (fun b o hb e => eb b o hb e) f0 f1 f3 f4 f5⟩
  self := fun _ _ _ _ _ st h => wpAny_pyIter_rangeiter st h
def many2 (lo hi : Int) : Nat := ((hi - lo + 1) / 2).toNat
theorem size_two {lo hi : Int} : Builtin.Range.rangeSize lo hi 2 = (many2 lo hi : Nat) := by
  unfold Builtin.Range.rangeSize many2
  rw [if_pos (by decide)]
  split <;> omega
theorem small_two {a b : Int} (ha : -(2 ^ 61) ≤ a) (ha' : a < 2 ^ 61) (hb : -(2 ^ 61) ≤ b) (hb' : b < 2 ^ 61) : Builtin.Range.small a b 2 = true := by
  unfold Builtin.Range.small
  rw [size_two]
  unfold many2
  simp only [Builtin.Range.rangeFitsLong, Bool.and_eq_true, Bool.or_eq_true, decide_eq_true_eq, beq_iff_eq, show (2 : Int) > 0 by decide, if_true]
  omega
section
variable {X : Cx} {tg : Expr}
theorem two_it {pins : List (Addr × Obj)} {σ : St} {H : Hp} {s : Shared} {R : It → Hp → Prop} {E : Value → Shared → Prop} {lo hi : Int} {t u v : Tok} {tk : Nat} (I : Inv X pins σ H s) (hs : Builtin.Range.small lo hi 2 = true)
    (q : R (Itr2 lo (many2 lo hi)) H) : wpAny (model X.prog X.w) X.A (pyIter (.ref s.heap.objs.size)) (PIE X pins σ tg R) E { s with heap := s.heap.push { cls := .type "range", data := .fields #[.int lo t, .int hi u, .int 2 v] }, toks := tk } := by
  obtain ⟨h1, e1⟩ : ∃ h1, h1 = s.heap.push { cls := .type "range", data := .fields #[.int lo t, .int hi u, .int 2 v] } := ⟨_, rfl⟩
  refine wpAny_pyIter_range (IsRange.new ..) hs ?_
  rw [← e1]
  have I1 : Inv X pins σ H { s with heap := h1, toks := tk } := I.kept fun b o e => by rw [e1]; exact Heap.get?_push_of_some _ e
  refine ⟨h1.objs.size, [h1.objs.size], _, _, H, rfl, I1.kept (t' := tk) fun b o e => Heap.get?_push_of_some _ e, turn_two _ lo (many2 lo hi), ?_, fun b hb => ?_, q⟩
  · show IsRangeIter _ _ (lo + ((0 : Nat) : Int) * 2) (((many2 lo hi : Nat) : Int) - ((0 : Nat) : Int)) 2
    rw [← size_two, Int.natCast_zero, Int.zero_mul, Int.add_zero, Int.sub_zero]
    exact Heap.get?_push_size _ rfl
  · cases List.mem_singleton.mp hb
    exact I1.fpOk (Nat.le_refl _) (I1.hok.fresh (Nat.le_refl _))
def iRng3 (ta : TA) : TI := fun σ H R => ta σ H fun vs H1 => ∃ i j : Int, vs = [.int i, .int j, .int 2] ∧ (-(2 ^ 61) ≤ i ∧ i < 2 ^ 61 ∧ -(2 ^ 61) ≤ j ∧ j < 2 ^ 61) ∧ R (Itr2 i (many2 i j)) H1
theorem pi_range3 {a b c : Expr} {ta : TA} {p pos : Pos} (hg : Gl X "range") (hm : X.mg "range" = none) (ha : PA X [a, b, c] ta) (hs : starEach [a, b, c] X.env = (false, eval a X.env) :: starEach [b, c] X.env := by rfl) (hs2 : starEach [b, c] X.env = [(false, eval b X.env), (false, eval c X.env)] := by rfl) :
    PI X tg (.Call (.Name "range" p) [a, b, c] [] pos) (iRng3 ta) := by
  intro pins s σ H R I h
  refine Call_ (ld_blt I hg hm boot_range (PyProof.Rows.callWith_type1 (thn (ha pos pins s σ H _ I h) fun us s1 ⟨vs, H1, I1, r1, q1⟩ => ?_) (by rw [hs]) (by rw [hs2]; rfl)))
  obtain ⟨i, j, e, ⟨q1, q2, q3, q4⟩, q⟩ := q1
  subst e
  cases r1 with
  | cons r rr =>
    cases rr with
    | cons r' rr =>
      cases rr with
      | cons r'' rr =>
        cases rr
        obtain ⟨t, rfl⟩ := r
        obtain ⟨t', rfl⟩ := r'
        obtain ⟨t'', rfl⟩ := r''
        exact call_range_3 (by decide) (two_it I1 (small_two q1 q2 q3 q4) q) (.inl (PyProof.noPylong_small (by decide)))
end
end L2
namespace L3
open PySem PySem.Spec PyProof.Rows L2
section
variable {X : Cx} {tg a b c : Expr}
def twoW (lo : Int) (n : Nat) : List W := (List.range n).map fun i => W.int (lo + (i : Nat) * 2)
theorem it_two {K : PySem.W.Frag} {H0 : Hp} {M0 : Mm} {lo : Int} {n : Nat} : ItOk K H0 M0 (Itr2 lo n) (twoW lo n) fun _ => True where
  go := fun i H M _ am _ hi => by show i < n; simpa [twoW] using hi
  stop := fun H M _ am _ => by show n ≤ _; simp [twoW]
  yld := fun i H M x H' _ am _ hi y => by
    obtain ⟨rfl, rfl⟩ := y
    have hi : i < n := by simpa [twoW] using hi
    exact ⟨.int (lo + i * 2), by simp [twoW, hi], Kp.refl am, am, .int _⟩
def iR3 (ta : TA3) : TI3 := fun τ M R => ta τ M fun ws M1 => ∃ i j : Int, ws = [.int i, .int j, .int 2] ∧ (-(2 ^ 61) ≤ i ∧ i < 2 ^ 61 ∧ -(2 ^ 61) ≤ j ∧ j < 2 ^ 61) ∧ R (twoW i (many2 i j)) (fun _ => True) M1
theorem i_range3 {tA : TA3} {p pos : Pos} (hg : Gl X "range") (hm : X.mg "range" = none) (ha : A3 X [a, b, c] tA) (hs : starEach [a, b, c] X.env = (false, eval a X.env) :: starEach [b, c] X.env := by rfl) (hs2 : starEach [b, c] X.env = [(false, eval b X.env), (false, eval c X.env)] := by rfl) :
    PI X tg (.Call (.Name "range" p) [a, b, c] [] pos) (upI X.K (iR3 tA)) :=
  (pi_range3 hg hm ha hs hs2).weak fun σ H R' ⟨τ, M, R, as, am, h, k⟩ => ⟨τ, M, _, as, am, h, fun vs H1 ws M1 k1 am1 ax ⟨i, j, e, h1, r⟩ => by
    subst e
    cases ax with
    | cons av ax =>
      obtain ⟨u, w, rfl, au, aw⟩ := ax.two
      cases av; cases au; cases aw
      exact ⟨i, j, rfl, h1, k _ _ _ _ _ k1 am1 it_two r⟩⟩
def rInt : List W → Mm → K3 → Prop
  | [.bl b], M, R => R (.int (if b then 1 else 0)) M
  | _, _, _ => False
theorem c_int : CallR X (.type "int") (upC X.K rInt) := by
  rintro pins s σ H xs us Q I rs ⟨ws, M, R, am, axs, h, k⟩
  match ws, h with
  | [.bl b], h =>
    obtain ⟨v, rfl, av⟩ := axs.one
    cases av
    cases rs with
    | cons r rr =>
      cases rr
      cases r
      exact call_int_bool ⟨.int _, H, I.kept fun _ _ e => e, ⟨_, rfl⟩, k.at am (.int _) h⟩
end
end L3
set_option Elab.async false
set_option linter.all false
set_option maxRecDepth 100000
set_option maxHeartbeats 4000000
namespace Rg
open PySem PySem.Spec PyProof.Rows L2 L3
structure Rule where
  name : Str
  parts : List Str
  cost : Int
def Asc (t : Str) : Prop := ∀ c ∈ cs t, c < 128
structure HeadT (t : Str) : Prop where
  len : t.length ≤ 20
  nm : isNameB t = true
  hd : ∃ c r, cs t = c :: r ∧ c ∈ cs GREAT
  asc : Asc t
structure WordT (t : Str) : Prop where
  len : t.length ≤ 20
  ne : cs t ≠ []
  sm : ∀ c ∈ cs t, c ∈ cs SMALL
theorem small_asc : ∀ c ∈ cs SMALL, c < 128 := by decide +kernel
theorem great_asc : ∀ c ∈ cs GREAT, c < 128 := by decide +kernel
theorem figs_asc : ∀ c ∈ cs FIGS, c < 128 := by decide +kernel
theorem WordT.asc {t : Str} (h : WordT t) : Asc t := fun c hc => small_asc c (h.sm c hc)
theorem WordT.nm {t : Str} (h : WordT t) : isNameB t = false := name_not h.ne h.sm
structure RuleOf (hs ws : List Str) (r : Rule) : Prop where
  name : r.name ∈ hs
  parts : ∀ t ∈ r.parts, t ∈ ws ∨ t ∈ hs
  few : r.parts.length ≤ 4
  lo : 0 ≤ r.cost
  hi : r.cost < 10 ^ 59
structure GoodRules (rs : List Rule) : Prop where
  ne : rs ≠ []
  few : rs.length ≤ 60
  ex : ∃ hs ws : List Str, hs.length ≤ 12 ∧ (∀ t ∈ hs, HeadT t) ∧ (∀ t ∈ ws, WordT t) ∧ (∀ r ∈ rs, RuleOf hs ws r) ∧ ∀ t ∈ hs, ∃ r ∈ rs, r.name = t
theorem reps_mem (c : Array Nat) : ∀ (k : Nat) (acc : Array Nat) (d : Nat), d ∈ ((List.replicate k c).foldl (· ++ ·) acc).toList → d ∈ acc.toList ∨ d ∈ c.toList
  | 0, acc, d, h => .inl h
  | k + 1, acc, d, h => by
    rw [List.replicate_succ, List.foldl_cons] at h
    rcases reps_mem c k _ d h with q | q
    · rw [Array.toList_append] at q
      exact List.mem_append.mp q
    · exact .inr q
theorem mul_mem {x : Str} {n : Int} {d : Nat} (h : d ∈ cs (Txt.mul x n)) : d ∈ cs x := by
  unfold Txt.mul at h
  split at h
  · exact absurd h (by rw [show cs Str.empty = [] from rfl]; simp)
  · split at h
    · exact h
    · rcases reps_mem x.cps _ #[] d h with q | q
      · simp at q
      · exact q
theorem mul_len {x : Str} {n : Int} (hx : x.length = 1) (h0 : 0 ≤ n) : ((Txt.mul x n).length : Int) = n := by
  rw [len_mul, hx]
  have : ¬ n < 0 := by omega
  simp [this]
def addN (acc : List Str) (t : Str) : List Str := if t ∈ acc then acc else acc ++ [t]
def namesFrom (acc : List Str) (rs : List Rule) : List Str := (rs.map Rule.name).foldl addN acc
def namesOf (rs : List Rule) : List Str := namesFrom [] rs
theorem addN_mem {acc : List Str} {t u : Str} : u ∈ addN acc t ↔ u ∈ acc ∨ u = t := by
  unfold addN
  split
  · rename_i h
    constructor
    · exact .inl
    · rintro (q | q)
      · exact q
      · rw [q]; exact h
  · rw [List.mem_append, List.mem_singleton]
theorem addN_len {acc : List Str} {t : Str} : (addN acc t).length ≤ acc.length + 1 := by
  unfold addN
  split
  · omega
  · rw [List.length_append]; exact Nat.le_refl _
theorem names_mem : ∀ {ts acc : List Str} {u : Str}, u ∈ ts.foldl addN acc ↔ u ∈ acc ∨ u ∈ ts
  | [], acc, u => by simp
  | t :: r, acc, u => by
    rw [List.foldl_cons, names_mem, addN_mem, List.mem_cons]
    constructor
    · rintro ((h | h) | h)
      · exact .inl h
      · exact .inr (.inl h)
      · exact .inr (.inr h)
    · rintro (h | h | h)
      · exact .inl (.inl h)
      · exact .inl (.inr h)
      · exact .inr h
theorem namesOf_mem {rs : List Rule} {u : Str} : u ∈ namesOf rs ↔ ∃ r ∈ rs, r.name = u := by
  unfold namesOf namesFrom
  rw [names_mem]
  simp
theorem strOk_asc {t : Str} (h : Asc t) : PyData.strOk t = true := by
  unfold PyData.strOk
  rw [Array.all_eq_true']
  intro c hc
  have := h c (by unfold cs; exact Array.mem_toList_iff.mpr hc)
  exact decide_eq_true (by omega)
theorem GoodRules.asc {rs : List Rule} (g : GoodRules rs) {r : Rule} (hr : r ∈ rs) : Asc r.name ∧ ∀ t ∈ r.parts, Asc t := by
  obtain ⟨hs, ws, _, hh, hw, hr', _⟩ := g.ex
  refine ⟨(hh _ (hr' r hr).name).asc, fun t ht => ?_⟩
  rcases (hr' r hr).parts t ht with q | q
  · exact (hw t q).asc
  · exact (hh t q).asc
def UnT (g : Bool) (t : Str) : Prop := if g then HeadT t else WordT t
def lettersOf : Bool → Str
  | true => Txt.upper SMALL
  | false => SMALL
theorem letters_len (g : Bool) : (cs (lettersOf g)).length = 26 := by cases g <;> decide +kernel
theorem at26' {g : Str} (hg : (cs g).length = 26) (n : Int) : ∃ c, atI g.cps.toList (n % 26) = some c ∧ c ∈ cs g := by
  have h0 : 0 ≤ n % 26 := Int.emod_nonneg _ (by decide)
  have h1 : n % 26 < 26 := Int.emod_lt_of_pos _ (by decide)
  obtain ⟨j, hj⟩ := Int.eq_ofNat_of_zero_le h0
  have hlt : j < (cs g).length := by omega
  refine ⟨(cs g)[j], ?_, List.getElem_mem hlt⟩
  rw [hj]
  exact atI_nat (List.getElem?_eq_getElem hlt)
theorem cs_one' (c : Nat) : cs (⟨#[c]⟩ : Str) = [c] := rfl
theorem un_plain {g : Bool} {t : Str} (hl : t.length ≤ 8) (hne : cs t ≠ []) (h : ∀ c ∈ cs t, c ∈ cs (lettersOf g)) : UnT g t := by
  cases g with
  | false => exact ⟨by omega, hne, h⟩
  | true =>
    have eu : lettersOf true = GREAT := by show Txt.upper SMALL = GREAT; decide +kernel
    rw [eu] at h
    refine ⟨by omega, name_letters hne h, ?_, fun c hc => great_asc c (h c hc)⟩
    cases e : cs t with
    | nil => exact absurd e hne
    | cons c r => exact ⟨c, r, rfl, h c (by rw [e]; simp)⟩
theorem un_figs {t : Str} (n : Int) (h0 : 0 ≤ n) (h1 : n < 10000) (hl : t.length ≤ 8) (hne : cs t ≠ []) (h : ∀ c ∈ cs t, c ∈ cs (lettersOf true)) : UnT true (t ++ "_" ++ Str.ofString (toString n)) := by
  have eu : lettersOf true = GREAT := by show Txt.upper SMALL = GREAT; decide +kernel
  rw [eu] at h
  have hfl : (Str.ofString (toString n)).length ≤ 10 := PySem.W.KT.len_num h0 (by omega)
  have hul : ("_" : Str).length = 1 := by decide +kernel
  obtain ⟨m, rfl⟩ := Int.eq_ofNat_of_zero_le h0
  have fg := figs_of (m := m)
  have ec : cs (t ++ "_" ++ Str.ofString (toString ((m : Nat) : Int))) = cs t ++ 95 :: cs (Str.ofString (toString ((m : Nat) : Int))) := by rw [cs_app, cs_app, cs_under]; simp
  refine ⟨by rw [strLen_append, strLen_append, hul]; omega, name_figures ec hne h fg.2 fg.1, ?_, fun c hc => ?_⟩
  · cases e : cs t with
    | nil => exact absurd e hne
    | cons c r => exact ⟨c, _, by rw [ec, e]; rfl, h c (by rw [e]; simp)⟩
  · rw [ec] at hc
    rcases List.mem_append.mp hc with q | q
    · exact great_asc c (h c q)
    · rcases List.mem_cons.mp q with q | q
      · omega
      · exact figs_asc c (fg.1 c q)
theorem log_small {n : Int} (h0 : 0 ≤ n) (h1 : n < 10000) : n.natAbs.log2 < 1920 := by
  rcases Nat.eq_zero_or_pos n.natAbs with h | hp
  · rw [h]; decide
  · have : n.natAbs < 2 ^ 14 := by
      have : (2 : Nat) ^ 14 = 16384 := by decide
      omega
    have := (Nat.log2_lt (Nat.ne_of_gt hp)).mpr this
    omega
theorem drawn_app {ds a b : List Int} (h : Drawn ds (a ++ b)) : ∃ d1 d2, ds = d1 ++ d2 ∧ Drawn d1 a ∧ Drawn d2 b := by
  induction a generalizing ds with
  | nil => exact ⟨[], ds, rfl, .nil, h⟩
  | cons x r ih =>
    cases h with
    | cons h1 h2 =>
      obtain ⟨d1, d2, rfl, e1, e2⟩ := ih h2
      exact ⟨_ :: d1, d2, rfl, .cons h1 e1, e2⟩
theorem drawn4 {ds : List Int} {a b c d : Int} (h : Drawn ds [a, b, c, d]) : ∃ x1 x2 x3 x4, ds = [x1, x2, x3, x4] ∧ Below x1 a ∧ Below x2 b ∧ Below x3 c ∧ Below x4 d := by
  cases h with | cons h1 h => cases h with | cons h2 h => cases h with | cons h3 h => cases h with | cons h4 h => cases h; exact ⟨_, _, _, _, rfl, h1, h2, h3, h4⟩
theorem drawn_mem {ds ss : List Int} {s : Int} (h : Drawn ds ss) (hs : ∀ z ∈ ss, z = s) : ∀ d ∈ ds, Below d s := by
  induction h with
  | nil => intro d hd; cases hd
  | cons r t ih =>
    intro d hd
    rcases List.mem_cons.mp hd with e | hd
    · subst e
      have := hs _ List.mem_cons_self
      rw [← this]; exact r
    · exact ih (fun z hz => hs z (List.mem_cons_of_mem _ hz)) d hd
theorem drawn2 {ds : List Int} {a b : Int} (h : Drawn ds [a, b]) : ∃ x1 x2, ds = [x1, x2] ∧ Below x1 a ∧ Below x2 b := by
  cases h with | cons h1 h => cases h with | cons h2 h => cases h; exact ⟨_, _, rfl, h1, h2⟩
theorem namesFrom_len : ∀ (ts acc : List Str), (ts.foldl addN acc).length ≤ acc.length + ts.length
  | [], acc => by simp
  | t :: r, acc => by
    rw [List.foldl_cons, List.length_cons]
    have := namesFrom_len r (addN acc t)
    have := addN_len (acc := acc) (t := t)
    omega
theorem good_parts {rs : List Rule} (g : GoodRules rs) {r : Rule} (hr : r ∈ rs) : 0 ≤ r.cost ∧ ∀ t ∈ r.parts, t.length ≤ 1000 ∧ (isNameB t = true → t ∈ namesOf rs) := by
  obtain ⟨hs, ws, _, hh, hw, hrs, hall⟩ := g.ex
  refine ⟨(hrs r hr).lo, fun t ht => ?_⟩
  rcases (hrs r hr).parts t ht with q | q
  · have := hw t q
    exact ⟨by have := this.len; omega, fun n => by rw [this.nm] at n; cases n⟩
  · have := hh t q
    exact ⟨by have := this.len; omega, fun _ => namesOf_mem.mpr (hall t q)⟩
def ruleW (r : Rule) : W := .tup [.str r.name, .tup (r.parts.map W.str), .int r.cost]
end Rg
set_option Elab.async false
set_option linter.all false
set_option maxRecDepth 100000
set_option maxHeartbeats 4000000
namespace Rg
open PySem PySem.Spec PyProof.Rows L2 L3
def sp_made_of : Sp3 := fun ws M R => ∃ z g : Str, ws = [.str z, .str g] ∧ z.length ≤ 1000 ∧ R (.bl (madeB z g)) M
def sp_is_name : Sp3 := fun ws M R => ∃ z : Str, ws = [.str z] ∧ z.length ≤ 1000 ∧ R (.bl (isNameB z)) M
def sp_names : Sp3 := fun ws M R => ∃ rs : List Rule, ws = [.rl (rs.map ruleW)] ∧ rs.length ≤ 100 ∧ New ((namesOf rs).map W.str) M R
def sp_check_rule : Sp3 := fun ws M R => ∃ (r : Rule) (ns : List Str), ws = [ruleW r, .rl (ns.map W.str)] ∧ 0 ≤ r.cost ∧ (∀ t ∈ r.parts, t.length ≤ 1000 ∧ (isNameB t = true → t ∈ ns)) ∧ R .non M
def sp_grammar_of : Sp3 := fun ws M R => ∃ rs : List Rule, ws = [.rl (rs.map ruleW)] ∧ GoodRules rs ∧ New (rs.map ruleW) M R
def sp_l_cell_at : Sp3 := fun ws M R => ∃ (zs : List W) (k : Int), (ws = [.sc zs, .int k] ∨ ws = [.rl zs, .int k]) ∧ Ints zs ∧ 0 ≤ k ∧ ∀ i, R (.int i) M
def sp_l_stir : Sp3 := fun ws M R => ∃ c k : Int, ws = [.int c, .int k] ∧ 0 ≤ k ∧ k ≤ 1000 ∧ ∀ z : Int, 0 ≤ z → z < 10 ^ 61 → R (.int z) M
def sp_l_drawn : Sp3 := fun ws M R => ∃ (c : Int) (ss : List Int), ws = [.int c, .rl (ss.map W.int)] ∧ ss.length ≤ 100 ∧ (∀ s ∈ ss, 0 < s ∧ s ≤ 10 ^ 59) ∧ ∀ ds, Drawn ds ss → New (ds.map W.int) M R
def sp_l_unlike : Sp3 := fun ws M R => ∃ (n m : Int) (g : Bool), ws = [.int n, .int m, .bl g] ∧ 0 ≤ m ∧ m ≤ 12 ∧ ∀ ts : List Str, ts.length = m.toNat → (∀ t ∈ ts, UnT g t) → New (ts.map W.str) M R
def sp_l_rule : Sp3 := fun ws M R => ∃ (c : Int) (hs wds : List Str) (most : Int), ws = [.int c, .rl (hs.map W.str), .rl (wds.map W.str), .int most] ∧ 0 < hs.length ∧ hs.length ≤ 12 ∧ wds.length = 3 ∧ 0 ≤ most ∧ most ≤ 4 ∧ ∀ r : Rule, RuleOf hs wds r → (r.parts.length : Int) ≤ most → R (ruleW r) M
def sp_l_rules : Sp3 := fun ws M R => ∃ (zs : List W) (many most : Int), ws = [.rl zs, .int many, .int most] ∧ Ints zs ∧ zs.length ≤ 40 ∧ 1 ≤ many ∧ many ≤ 12 ∧ 1 ≤ most ∧ most ≤ 4 ∧ ∀ rs : List Rule, GoodRules rs → (∀ r ∈ rs, (r.parts.length : Int) ≤ most) → (∃ hs : List Str, (hs.length : Int) ≤ many ∧ ∀ r ∈ rs, r.name ∈ hs) → New (rs.map ruleW) M R
abbrev N_made_of : List Str := ["text", "signs"]
def rd_made_of : TS3 :=
      (vRet (vAndV (vOp (rEq true) (vVar 0) (vC (.str ""))) (vCB rAll (aCons (vFrz (vComp (iIt rItN (vVar 0)) (wName 0) vTrue (vOp (rIn false) (vVar 0) (vVar 1)) [none, some 1])) aNil))))
abbrev N_is_name : List Str := ["part", "pieces", "right_end"]
def rd_is_name_0 : TS3 :=
      (vSet 1 (vBM "str" rPart (vVar 0) (aCons (vC (.str "_")) aNil)))
def rd_is_name_1 : TS3 :=
      (vSet 2 (vOrV (vOp (rEq false) (vOp rIx (vVar 1) (vC (.int 1))) (vC (.str ""))) (vCall sp_made_of (aCons (vOp rIx (vVar 1) (vC (.int 2))) (aCons (vC (.str "0123456789")) aNil)))))
def rd_is_name_2 : TS3 :=
      (vRet (vAndV (vVar 2) (vCall sp_made_of (aCons (vOp rIx (vVar 1) (vC (.int 0))) (aCons (vC (.str "ABCDEFGHIJKLMNOPQRSTUVWXYZ")) aNil)))))
def rd_is_name : TS3 := (vSeq rd_is_name_0 (vSeq rd_is_name_1 rd_is_name_2))
abbrev N_names : List Str := ["grammar", "found", "rule"]
def rd_names_0 : TS3 :=
      (vSet 1 vNewK)
def rd_names_b1 : TS3 :=
      (vAsg (vC (.bl true)) (wSub (vVar 1) (vOp rIx (vVar 2) (vC (.int 0)))))
def rd_names_1 : TS3 :=
      (vFor (iIt rItN (vVar 0)) (wName 2) rd_names_b1)
def rd_names_2 : TS3 :=
      (vRet (vCB rList (aCons (vVar 1) aNil)))
def rd_names : TS3 := (vSeq rd_names_0 (vSeq rd_names_1 rd_names_2))
abbrev N_check_rule : List Str := ["rule", "known", "part"]
def rd_check_rule : TS3 :=
      (vSeq (vIfS (vTest (vOp rLt (vOp rIx (vVar 0) (vC (.int 2))) (vC (.int 0))))
        vNever
        vNext)
      (vFor (iIt rItN (vOp rIx (vVar 0) (vC (.int 1)))) (wName 2)
        (vIfS (vAnd (vTruth (vCall sp_is_name (aCons (vVar 2) aNil))) (vTest (vOp (rIn true) (vVar 2) (vVar 1))))
        vNever
        vNext)))
abbrev N_grammar_of : List Str := ["rules", "known", "rule"]
def rd_grammar_of_0 : TS3 :=
      (vIfS (vTest (vOp (rEq false) (vCB rLen (aCons (vVar 0) aNil)) (vC (.int 0))))
        vNever
        vNext)
def rd_grammar_of_1 : TS3 :=
      (vSet 1 (vFrz (vCall sp_names (aCons (vVar 0) aNil))))
def rd_grammar_of_b2 : TS3 :=
      (vDrop (vCall sp_check_rule (aCons (vVar 2) (aCons (vVar 1) aNil))))
def rd_grammar_of_2 : TS3 :=
      (vFor (iIt rItN (vVar 0)) (wName 2) rd_grammar_of_b2)
def rd_grammar_of_3 : TS3 :=
      (vRet (vCB rList (aCons (vVar 0) aNil)))
def rd_grammar_of : TS3 := (vSeq rd_grammar_of_0 (vSeq rd_grammar_of_1 (vSeq rd_grammar_of_2 rd_grammar_of_3)))
abbrev N_l_cell_at : List Str := ["script", "k"]
def rd_l_cell_at : TS3 :=
      (vSeq (vIfS (vTest (vOp rLt (vVar 1) (vCB rLen (aCons (vVar 0) aNil))))
        (vRet (vOp rIx (vVar 0) (vVar 1)))
        vNext)
      (vRet (vC (.int 0))))
abbrev N_l_stir : List Str := ["cell", "k", "number"]
def rd_l_stir_0 : TS3 :=
      (vSet 2 (vOp rAddF (vOp rAddF (vOp rMulF (vOp rMod (vVar 0) (vOp rPow (vC (.int 10)) (vC (.int 40)))) (vC (.int 48271))) (vOp rMulF (vOp rMulF (vOp rPow (vC (.int 3)) (vC (.int 60))) (vOp rAddF (vVar 1) (vC (.int 1)))) (vOp rAddF (vVar 1) (vC (.int 1))))) (vVar 1)))
def rd_l_stir_1 : TS3 :=
      (vSet 2 (vOp rAddF (vOp rMulF (vVar 2) (vVar 2)) (vOp rMulF (vC (.int 69621)) (vVar 2))))
def rd_l_stir_2 : TS3 :=
      (vRet (vOp rFdiv (vOp rMod (vOp rMulF (vVar 2) (vVar 2)) (vOp rAddF (vOp rPow (vC (.int 10)) (vC (.int 61))) (vC (.int 7)))) (vC (.int 8))))
def rd_l_stir : TS3 := (vSeq rd_l_stir_0 (vSeq rd_l_stir_1 rd_l_stir_2))
abbrev N_l_drawn : List Str := ["cell", "sizes", "found", "rest", "k"]
def rd_l_drawn_0 : TS3 :=
      (vSet 2 (vLst aNil))
def rd_l_drawn_1 : TS3 :=
      (vSet 3 (vOp rSub (vVar 0) (vOp rPow (vC (.int 10)) (vC (.int 18)))))
def rd_l_drawn_b2 : TS3 :=
      (vIfS (vTest (vOp rGe (vVar 0) (vOp rPow (vC (.int 10)) (vC (.int 18)))))
        (vSeq (vDrop (vBM "list" rApp (vVar 2) (aCons (vOp rMod (vVar 3) (vOp rIx (vVar 1) (vVar 4))) aNil)))
      (vSet 3 (vOp rFdiv (vVar 3) (vOp rIx (vVar 1) (vVar 4)))))
        (vDrop (vBM "list" rApp (vVar 2) (aCons (vOp rMod (vCall sp_l_stir (aCons (vVar 0) (aCons (vVar 4) aNil))) (vOp rIx (vVar 1) (vVar 4))) aNil))))
def rd_l_drawn_2 : TS3 :=
      (vFor (iR1 (aCons (vCB rLen (aCons (vVar 1) aNil)) aNil)) (wName 4) rd_l_drawn_b2)
def rd_l_drawn_3 : TS3 :=
      (vRet (vVar 2))
def rd_l_drawn : TS3 := (vSeq rd_l_drawn_0 (vSeq rd_l_drawn_1 (vSeq rd_l_drawn_2 rd_l_drawn_3)))
abbrev N_l_unlike : List Str := ["number", "many", "great", "letters", "pad", "size", "at", "first", "found", "k", "sign"]
def rd_l_unlike_0 : TS3 :=
      (vSet 3 (vC (.str "abcdefghijklmnopqrstuvwxyz")))
def rd_l_unlike_1 : TS3 :=
      (vIfS (vTruth (vVar 2))
        (vSet 3 (vBM0 "str" rUpper (vVar 3)))
        vNext)
def rd_l_unlike_2 : TS3 :=
      (vSet 4 (vOp rIx (vVar 3) (vOp rMod (vVar 0) (vC (.int 26)))))
def rd_l_unlike_3 : TS3 :=
      (vSet 5 (vOp rAddF (vC (.int 1)) (vOp rMod (vOp rFdiv (vVar 0) (vC (.int 26))) (vC (.int 8)))))
def rd_l_unlike_4 : TS3 :=
      (vSet 6 (vOp rMod (vOp rFdiv (vVar 0) (vC (.int 208))) (vVar 5)))
def rd_l_unlike_5 : TS3 :=
      (vSet 7 (vOp rMod (vOp rFdiv (vVar 0) (vC (.int 1664))) (vC (.int 26))))
def rd_l_unlike_6 : TS3 :=
      (vSet 8 (vLst aNil))
def rd_l_unlike_b7 : TS3 :=
      (vSeq (vSet 10 (vOp rIx (vVar 3) (vOp rMod (vOp rAddF (vVar 7) (vOp rMulF (vC (.int 3)) (vVar 9))) (vC (.int 26)))))
      (vSeq (vDrop (vBM "list" rApp (vVar 8) (aCons (vOp rAddF (vOp rAddF (vOp rMulF (vVar 4) (vVar 6)) (vVar 10)) (vOp rMulF (vVar 4) (vOp rSub (vOp rSub (vVar 5) (vVar 6)) (vC (.int 1))))) aNil)))
      (vIfS (vAnd (vTruth (vVar 2)) (vAnd (vTest (vOp (rEq false) (vOp rMod (vOp rFdiv (vVar 0) (vC (.int 43264))) (vC (.int 3))) (vC (.int 1)))) (vTest (vOp (rEq false) (vOp rBand (vOp rShr (vOp rFdiv (vVar 0) (vC (.int 129792))) (vVar 9)) (vC (.int 1))) (vC (.int 1))))))
        (vAsg (vOp rAddF (vOp rAddF (vOp rIx (vVar 8) (vVar 9)) (vC (.str "_"))) (vCB rStr (aCons (vOp rMod (vOp rFdiv (vVar 0) (vC (.int 129792))) (vC (.int 10000))) aNil))) (wSub (vVar 8) (vVar 9)))
        vNext)))
def rd_l_unlike_7 : TS3 :=
      (vFor (iR1 (aCons (vVar 1) aNil)) (wName 9) rd_l_unlike_b7)
def rd_l_unlike_8 : TS3 :=
      (vRet (vVar 8))
def rd_l_unlike : TS3 := (vSeq rd_l_unlike_0 (vSeq rd_l_unlike_1 (vSeq rd_l_unlike_2 (vSeq rd_l_unlike_3 (vSeq rd_l_unlike_4 (vSeq rd_l_unlike_5 (vSeq rd_l_unlike_6 (vSeq rd_l_unlike_7 rd_l_unlike_8))))))))
abbrev N_l_rule : List Str := ["cell", "heads", "words", "most", "drawn", "parts", "place"]
def rd_l_rule_0 : TS3 :=
      (vSet 4 (vFrz (vCall sp_l_drawn (aCons (vVar 0) (aCons (vOp rAddF (vLstF (aCons (vCB rLen (aCons (vVar 1) aNil)) (aCons (vOp rAddF (vVar 3) (vC (.int 1))) (aCons (vC (.int 3)) (aCons (vOp rPow (vC (.int 10)) (vC (.int 59))) aNil))))) (vOp rMulF (vLstF (aCons (vC (.int 6)) aNil)) (vVar 3))) aNil)))))
def rd_l_rule_1 : TS3 :=
      (vSet 5 (vLst aNil))
def rd_l_rule_b2 : TS3 :=
      (vIfS (vTest (vOp rLt (vVar 6) (vC (.int 3))))
        (vDrop (vBM "list" rApp (vVar 5) (aCons (vOp rIx (vVar 2) (vVar 6)) aNil)))
        (vDrop (vBM "list" rApp (vVar 5) (aCons (vOp rIx (vVar 1) (vOp rMod (vOp rAddF (vOp rSub (vVar 6) (vC (.int 3))) (vOp rIx (vVar 4) (vC (.int 0)))) (vCB rLen (aCons (vVar 1) aNil)))) aNil))))
def rd_l_rule_2 : TS3 :=
      (vFor (iIt rItN (vSlF (vVar 4) (sPt (vC (.int 4))) (sPt (vOp rAddF (vC (.int 4)) (vOp rIx (vVar 4) (vC (.int 1))))))) (wName 6) rd_l_rule_b2)
def rd_l_rule_3 : TS3 :=
      (vRet (vTup (aCons (vOp rIx (vVar 1) (vOp rIx (vVar 4) (vC (.int 0)))) (aCons (vCB rTuple (aCons (vVar 5) aNil)) (aCons (vOp rMod (vOp rIx (vVar 4) (vC (.int 3))) (vOp rIx (vLstF (aCons (vC (.int 1)) (aCons (vC (.int 10)) (aCons (vOp rPow (vC (.int 10)) (vC (.int 59))) aNil)))) (vOp rIx (vVar 4) (vC (.int 2))))) aNil)))))
def rd_l_rule : TS3 := (vSeq rd_l_rule_0 (vSeq rd_l_rule_1 (vSeq rd_l_rule_2 rd_l_rule_3)))
abbrev N_l_rules : List Str := ["cells", "many", "most", "one", "other", "heads", "words", "rules", "name"]
def rd_l_rules_0 : TS3 :=
      (vAsg (vFrz (vCall sp_l_drawn (aCons (vCall sp_l_cell_at (aCons (vVar 0) (aCons (vC (.int 0)) aNil))) (aCons (vLstF (aCons (vOp rPow (vC (.int 10)) (vC (.int 9))) (aCons (vOp rPow (vC (.int 10)) (vC (.int 9))) aNil))) aNil)))) (wTup 2 (wCons (wName 3) (wCons (wName 4) wNil))))
def rd_l_rules_1 : TS3 :=
      (vSet 5 (vFrz (vCall sp_l_unlike (aCons (vVar 3) (aCons (vVar 1) (aCons (vC (.bl true)) aNil))))))
def rd_l_rules_2 : TS3 :=
      (vSet 6 (vFrz (vCall sp_l_unlike (aCons (vVar 4) (aCons (vC (.int 3)) (aCons (vC (.bl false)) aNil))))))
def rd_l_rules_3 : TS3 :=
      (vSet 7 (vComp (iIt rItN (vSlF (vVar 0) (sPt (vC (.int 1))) sNo)) (wName 0) vTrue (vCall sp_l_rule (aCons (vVar 0) (aCons (vVar 1) (aCons (vVar 2) (aCons (vVar 3) aNil))))) [none, some 5, some 6, some 2]))
def rd_l_rules_b4 : TS3 :=
      (vIfS (vTest (vOp (rIn true) (vVar 8) (vFrz (vComp (iIt rItN (vVar 7)) (wName 0) vTrue (vOp rIx (vVar 0) (vC (.int 0))) [none]))))
        (vDrop (vBM "list" rApp (vVar 7) (aCons (vTup (aCons (vVar 8) (aCons (vTup (aCons (vOp rIx (vVar 6) (vC (.int 0))) aNil)) (aCons (vC (.int 0)) aNil)))) aNil)))
        vNext)
def rd_l_rules_4 : TS3 :=
      (vFor (iIt rItN (vVar 5)) (wName 8) rd_l_rules_b4)
def rd_l_rules_5 : TS3 :=
      (vRet (vVar 7))
def rd_l_rules : TS3 := (vSeq rd_l_rules_0 (vSeq rd_l_rules_1 (vSeq rd_l_rules_2 (vSeq rd_l_rules_3 (vSeq rd_l_rules_4 rd_l_rules_5)))))
end Rg
set_option hygiene false in
local macro_rules | `(tactic| simp? only [$xs,*] $[$l:location]?) => `(tactic| simp only [L3.vAsg, L3.wSub, L3.wTup, L3.wCons, L3.wNil, L3.vNewK, L3.vNewT, L3.vNever, L3.vSeq, L3.vSet, L3.vVar, L3.vC, L3.vOp, L3.vTest, L3.vUn, L3.vCB, L3.vCall, L3.aNil, L3.aCons, L3.vTup, L3.vLst, L3.vLstF, L3.vIf, L3.vIfS, L3.vAnd, L3.vOr, L3.vNot, L3.vAndV, L3.vOrV, L3.vNotV, L3.vTruth, L3.vTru_q1, L3.vTru_q2, L3.vTru_q3, L3.vTru_q4, L3.vTru_q5, L3.vTru_q6, L3.vTru_q7, L3.vTru_q8, L3.vTru_q9, L3.vRet, L3.vDrop, L3.vNext, L3.vBM, L3.vBM0, L3.vSl, L3.vSlF, L3.sNo, L3.sPt, L3.vFor, L3.iIt, L3.iR1, L3.iR2, L3.wName, L3.vComp, L3.vFrz, L3.vTrue, L3.rItN_q1, L3.rItN_q2, L3.rItN_q3, L3.rItN_q4, L3.rItN_q5, L3.rIt_q1, L3.rIt_q2, L3.rIt_q3, L3.rIt_q4, L3.rAdd_q1, L3.rAdd_q2, L3.rAdd_q3, L3.rAdd_q4, L3.rAdd_q5, L3.rAdd_q6, L3.rAdd_q7, L3.rAddF_q1, L3.rAddF_q2, L3.rAddF_q3, L3.rAddF_q4, L3.rAddF_q5, L3.rAddF_q6, L3.rAddF_q7, L3.rII0_q1, L3.rII_q1, L3.rEq_ii, L3.rEq_ss, L3.rEq_bb, isi_non_list, isi_non_tuple, isi_non_int, isi_non_str, isi_non_bool, isi_bl_bool, isi_bl_int, isi_bl_str, isi_bl_list, isi_bl_tuple, isi_int_int, isi_int_bool, isi_int_str, isi_int_tuple, isi_int_list, isi_str_str, isi_str_int, isi_str_tuple, isi_str_list, isi_str_bool, isi_tup_tuple, isi_tup_list, isi_tup_str, isi_tup_int, isi_tup_bool, isi_rl_list, isi_rl_tuple, isi_rl_str, isi_rl_int, isi_rl_bool, isi_put, L3.rLt_q1, L3.rLt_q2, L3.rNeg_q1, L3.rIx_q1, L3.rIx_q2, L3.rIx_q3, L3.rIx_q4, L3.rIx_q5, L3.rIx_q6, L3.rIx_q7, L3.rIx_q8, L3.rLen_q1, L3.rLen_q2, L3.rLen_q3, L3.rLen_q4, L3.rLen_q5, L3.rLen_q6, L3.rList_q1, L3.rList_q2, L3.rList_q3, L3.rList_q4, L3.rList_q5, L3.rListF_q1, L3.rListF_q2, L3.rListF_q3, L3.rListF_q4, L3.rListF_q5, L3.rTuple_q1, L3.rTuple_q2, L3.rTuple_q3, L3.rStr_q1, L3.rSlF_q1, L3.rSlF_q2, L3.rSlF_q3, L3.rSlF_q4, L3.rSl_q1, L3.rSl_q2, L3.rSl_q3, L3.rSl_q4, L3.rApp_q1, L3.rExt_q1, L3.rExt_q2, L3.rPop_q1, L3.tyW_q1, L3.tyW_q2, L3.tyW_q3, L3.tyW_q4, L3.tyW_q5, L3.tyW_q6, L3.tyW_q7, L3.rMul_q1, L3.rMul_q2, L3.rMul_q3, L3.rMul_q4, L3.rMulF_q1, L3.rMulF_q2, L3.rMulF_q3, L3.rMulF_q4, L3.ends3, L3.cmap3, atI0, atI1, atI2, List.map_cons, List.map_nil, Option.bind_some, Option.bind_none, Option.join_some, List.getElem?_cons_zero, List.getElem?_cons_succ, List.set_cons_zero, List.set_cons_succ, Option.some.injEq, exists_eq_left', exists_eq_left, W.bl.injEq, W.int.injEq, W.str.injEq, Bool.false_eq_true, if_true, if_false, ↓reduceIte, true_and, and_true, sizeLine, put_same, put_put, MO.lst.injEq, MO.dK.injEq, MO.dT.injEq, exists_eq', exists_eq, true_or, or_true, false_and, and_false, or_false, false_or, reduceCtorEq, String.reduceEq, exists_false, cdivT, decide_eq_true_eq, Bool.not_eq_true', Bool.not_true, Bool.not_false, Classical.not_not, decide_eq_false_iff_not, Int.reduceLT, Int.reduceLE, Nat.reduceLT, Nat.reduceLeDiff, Nat.reducePow, List.length_cons, List.length_nil, Nat.reduceAdd, Nat.zero_add, Nat.zero_le, $xs,*] $[$l:location]?)
set_option Elab.async false
set_option linter.all false
set_option maxRecDepth 100000
set_option maxHeartbeats 4000000
namespace Rg
open PySem PySem.Spec PyProof.Rows L2 L3
theorem len_made_of : ∀ ws M R, sp_made_of ws M R → ws.length = 2 := by rintro ws M R ⟨_, _, rfl, _⟩; rfl
theorem len_is_name : ∀ ws M R, sp_is_name ws M R → ws.length = 1 := by rintro ws M R ⟨_, rfl, _⟩; rfl
theorem len_names : ∀ ws M R, sp_names ws M R → ws.length = 1 := by rintro ws M R ⟨_, rfl, _⟩; rfl
theorem len_check_rule : ∀ ws M R, sp_check_rule ws M R → ws.length = 2 := by rintro ws M R ⟨_, _, rfl, _⟩; rfl
theorem len_grammar_of : ∀ ws M R, sp_grammar_of ws M R → ws.length = 1 := by rintro ws M R ⟨_, rfl, _⟩; rfl
theorem len_l_cell_at : ∀ ws M R, sp_l_cell_at ws M R → ws.length = 2 := by rintro ws M R ⟨_, _, rfl | rfl, _⟩ <;> rfl
theorem len_l_stir : ∀ ws M R, sp_l_stir ws M R → ws.length = 2 := by rintro ws M R ⟨_, _, rfl, _⟩; rfl
theorem len_l_drawn : ∀ ws M R, sp_l_drawn ws M R → ws.length = 2 := by rintro ws M R ⟨_, _, rfl, _⟩; rfl
theorem len_l_unlike : ∀ ws M R, sp_l_unlike ws M R → ws.length = 3 := by rintro ws M R ⟨_, _, _, rfl, _⟩; rfl
theorem len_l_rule : ∀ ws M R, sp_l_rule ws M R → ws.length = 4 := by rintro ws M R ⟨_, _, _, _, rfl, _⟩; rfl
theorem len_l_rules : ∀ ws M R, sp_l_rules ws M R → ws.length = 3 := by rintro ws M R ⟨_, _, _, rfl, _⟩; rfl
theorem occ_one (c : Nat) (g : Str) : occ ⟨#[c]⟩ g = decide (c ∈ cs g) := StrLaws.found_one g c
theorem good_made_of {ws : List W} {M : Mm} {R : K3} (h : sp_made_of ws M R) : rd_made_of (ends3 R) (start3 N_made_of ws) M := by
  obtain ⟨z, g, rfl, hz, r⟩ := h
  show rd_made_of (ends3 R) [some (.str z), some (.str g)] M
  have em : madeB z g = (!decide (V.str z = V.str "") && (cs z).all fun c => decide (c ∈ cs g)) := rfl
  rw [dStr] at em
  simp? only [rd_made_of]
  by_cases hc : z = ""
  · rw [decide_eq_true hc] at em
    simp? only [hc]
    rw [if_neg (by simp)]
    simp at em; rw [em] at r
    exact ⟨_, Sub.refl _, r⟩
  · rw [decide_eq_false hc] at em
    rw [if_pos hc]
    refine map1 (rest := [some (.str g)]) (fun w => match w with | .str x => .bl (occ x g) | _ => .non) (small (by simp; have := cs_len z; unfold cs at this; simp at this; omega)) (fun _ _ => trivial) (fun w hw M' C sb h1 => ?_) (New.frz ?_)
    · obtain ⟨c, _, rfl⟩ := List.mem_map.mp hw
      simp? only [L3.rIn]
      exact h1
    · simp? only [L3.rAll]
      refine ⟨(cs z).map fun c => decide (c ∈ cs g), ?_, _, Sub.refl _, ?_⟩
      · unfold bools
        rw [List.map_map, List.map_map]
        refine List.map_congr_left fun c _ => ?_
        show W.bl (occ ⟨#[c]⟩ g) = _
        rw [occ_one]; rfl
      · rw [List.all_map]
        simp at em
        have e2 : (cs z).all (id ∘ fun c => decide (c ∈ cs g)) = madeB z g := by rw [Bool.eq_iff_iff]; simp [em]
        rw [e2]; exact r
theorem part_len (z : Str) : (Txt.partition z "_").1.length ≤ z.length ∧ (Txt.partition z "_").2.2.length ≤ z.length := by
  have := fact_partition z "_"
  exact ⟨this.1, this.2.2⟩
theorem isName_eq (z : Str) : isNameB z = ((decide ((Txt.partition z "_").2.1 = "") || madeB (Txt.partition z "_").2.2 FIGS) && madeB (Txt.partition z "_").1 GREAT) := by
  unfold isNameB; rw [dStr]
theorem good_is_name {ws : List W} {M : Mm} {R : K3} (h : sp_is_name ws M R) : rd_is_name (ends3 R) (start3 N_is_name ws) M := by
  obtain ⟨z, rfl, hz, r⟩ := h
  show rd_is_name (ends3 R) [some (.str z), none, none] M
  obtain ⟨h1, h3⟩ := part_len z
  have e := isName_eq z
  simp? only [rd_is_name, rd_is_name_0, rd_is_name_1, rd_is_name_2, L3.rPart]
  refine ⟨by decide +kernel, by omega, ?_⟩
  by_cases hc : (Txt.partition z "_").2.1 = ""
  · rw [if_pos hc]
    refine ⟨_, _, rfl, by omega, _, Sub.refl _, ?_⟩
    rw [decide_eq_true hc, Bool.true_or, Bool.true_and] at e
    rw [← e]; exact r
  · rw [if_neg hc]
    rw [decide_eq_false hc, Bool.false_or] at e
    refine ⟨_, _, rfl, by omega, _, rfl, ?_⟩
    split
    · rename_i hb
      rw [show madeB (Txt.partition z "_").2.2 FIGS = true from hb, Bool.true_and] at e
      refine ⟨_, _, rfl, by omega, _, Sub.refl _, ?_⟩
      rw [← e]; exact r
    · rename_i hb
      rw [show madeB (Txt.partition z "_").2.2 FIGS = false by simpa using hb, Bool.false_and] at e
      rw [← e]; exact ⟨_, Sub.refl _, r⟩
def nkw (t : Str) : Key × W := (Sum.inr t, .bl true)
theorem putW_names (acc : List Str) (t : Str) : putW (acc.map nkw) (Sum.inr t : Key) (.bl true) = (addN acc t).map nkw := by
  unfold putW addN
  have e : ((acc.map nkw).any fun kv => decide (kv.1 = Sum.inr t)) = decide (t ∈ acc) := by
    rw [List.any_map, Bool.eq_iff_iff]
    simp [nkw, Function.comp]
  rw [e]
  by_cases h : t ∈ acc
  · rw [if_pos (decide_eq_true h), if_pos h, List.map_map]
    refine List.map_congr_left fun u hu => ?_
    simp [nkw, Function.comp]
  · rw [if_neg (by simpa using h), if_neg h, List.map_append]; rfl
theorem good_names {ws : List W} {M : Mm} {R : K3} (h : sp_names ws M R) : rd_names (ends3 R) (start3 N_names ws) M := by
  obtain ⟨rs, rfl, hl, r⟩ := h
  show rd_names (ends3 R) [some (.rl (rs.map ruleW)), none, none] M
  simp? only [rd_names, rd_names_0, rd_names_1]
  intro p hp
  refine for3 (fun i τ M' => ∃ o, τ = [some (.rl (rs.map ruleW)), some (.ref p), o] ∧ M' = put M p (.dK ((namesOf (rs.take i)).map nkw))) ⟨_, rfl, rfl⟩ (fun _ _ _ _ _ => trivial) ?_ ?_
  · rintro i w τ M' hw ⟨o, rfl, rfl⟩
    rw [List.getElem?_map] at hw
    obtain ⟨q, hq, rfl⟩ := Option.map_eq_some_iff.mp hw
    have hi : i < rs.length := (List.getElem?_eq_some_iff.mp hq).1
    simp? only [rd_names_b1, ruleW]
    have e : namesOf (rs.take (i + 1)) = addN (namesOf (rs.take i)) q.name := by
      rw [List.take_add_one, hq]
      unfold namesOf namesFrom
      simp
    have hlen : (namesOf (rs.take i)).length ≤ i := by
      have := namesFrom_len ((rs.take i).map Rule.name) []
      unfold namesOf namesFrom
      simp at this
      simp; omega
    refine setK_str put_same (by rw [List.length_map]; exact smallT (by omega)) ⟨_, Sub.refl _, _, rfl, ?_⟩
    rw [put_put, putW_names, e]
  · rintro τ M' ⟨o, rfl, rfl⟩
    rw [List.length_map, List.take_length]
    simp? only [rd_names_2]
    intro q hq
    have hpq : q ≠ p := fun e => by subst e; rw [put_same] at hq; cases hq
    rw [put_ne hpq] at hq
    refine ⟨_, ?_, r q hq⟩
    rw [List.map_map]
    exact Sub.put (Sub.new hp)
theorem inW_strs {t : Str} {ts : List Str} : inW (.str t) (ts.map W.str) = decide (t ∈ ts) := by
  unfold inW
  rw [List.any_map, Bool.eq_iff_iff]
  simp [Function.comp, eqW]
theorem flat_strsW (ts : List Str) : (ts.map W.str).all flatW = true := by
  rw [List.all_map, List.all_eq_true]; intro t _; rfl
theorem good_check_rule {ws : List W} {M : Mm} {R : K3} (h : sp_check_rule ws M R) : rd_check_rule (ends3 R) (start3 N_check_rule ws) M := by
  obtain ⟨q, ns, rfl, hc, hp, r⟩ := h
  show rd_check_rule (ends3 R) [some (ruleW q), some (.rl (ns.map W.str)), none] M
  simp? only [rd_check_rule, ruleW]
  rw [if_neg (by omega)]
  refine for3 (fun i τ M' => ∃ o, τ = [some (ruleW q), some (.rl (ns.map W.str)), o] ∧ M' = M) ⟨_, rfl, rfl⟩ (fun _ _ _ _ _ => trivial) ?_ ?_
  · rintro i w τ M' hw ⟨o, rfl, rfl⟩
    obtain ⟨t, ht, rfl⟩ := List.mem_map.mp (List.mem_of_getElem? hw)
    obtain ⟨h1, h2⟩ := hp t ht
    simp? only [L3.rIn, inW_strs, flat_strsW, flatW]
    refine ⟨t, rfl, h1, ?_⟩
    simp? only []
    split
    · rename_i hb
      rw [if_neg (by simpa using h2 hb)]
      exact ⟨_, Sub.refl _, _, rfl, rfl⟩
    · exact ⟨_, Sub.refl _, _, rfl, rfl⟩
  · rintro τ M' ⟨o, rfl, rfl⟩
    exact ⟨_, Sub.refl _, r⟩
theorem good_grammar_of {ws : List W} {M : Mm} {R : K3} (h : sp_grammar_of ws M R) : rd_grammar_of (ends3 R) (start3 N_grammar_of ws) M := by
  obtain ⟨rs, rfl, g, r⟩ := h
  show rd_grammar_of (ends3 R) [some (.rl (rs.map ruleW)), none, none] M
  simp? only [rd_grammar_of, rd_grammar_of_0, rd_grammar_of_1]
  rw [if_neg (by rw [List.length_map]; have := g.ne; cases rs; exact absurd rfl this; simp; omega)]
  refine ⟨rs, rfl, by have := g.few; omega, New.frz ?_⟩
  simp? only [rd_grammar_of_2]
  refine for3 (fun i τ M' => ∃ o, τ = [some (.rl (rs.map ruleW)), some (.rl ((namesOf rs).map W.str)), o] ∧ M' = M) ⟨_, rfl, rfl⟩ (fun _ _ _ _ _ => trivial) ?_ ?_
  · rintro i w τ M' hw ⟨o, rfl, rfl⟩
    obtain ⟨t, ht, rfl⟩ := List.mem_map.mp (List.mem_of_getElem? hw)
    obtain ⟨h1, h2⟩ := good_parts g ht
    simp? only [rd_grammar_of_b2]
    exact ⟨t, _, rfl, h1, h2, _, Sub.refl _, _, rfl, rfl⟩
  · rintro τ M' ⟨o, rfl, rfl⟩
    simp? only [rd_grammar_of_3]
    exact fun q hq => ⟨_, Sub.refl _, r q hq⟩
theorem good_l_cell_at {ws : List W} {M : Mm} {R : K3} (h : sp_l_cell_at ws M R) : rd_l_cell_at (ends3 R) (start3 N_l_cell_at ws) M := by
  obtain ⟨zs, k, e, hi, hk, r⟩ := h
  rcases e with rfl | rfl
  · show rd_l_cell_at (ends3 R) [some (.sc zs), some (.int k)] M
    simp? only [rd_l_cell_at]
    by_cases hd : k < zs.length
    · obtain ⟨x, e, _, m⟩ := atI_of hk hd
      obtain ⟨i, rfl⟩ := hi x m
      rw [if_pos hd]
      exact ⟨_, e, _, Sub.refl _, r i⟩
    · rw [if_neg hd]
      exact ⟨_, Sub.refl _, r 0⟩
  · show rd_l_cell_at (ends3 R) [some (.rl zs), some (.int k)] M
    simp? only [rd_l_cell_at]
    by_cases hd : k < zs.length
    · obtain ⟨x, e, _, m⟩ := atI_of hk hd
      obtain ⟨i, rfl⟩ := hi x m
      rw [if_pos hd]
      exact ⟨_, e, _, Sub.refl _, r i⟩
    · rw [if_neg hd]
      exact ⟨_, Sub.refl _, r 0⟩
abbrev stirE (c k : Int) : Int := c % 10 ^ 40 * 48271 + 3 ^ 60 * (k + 1) * (k + 1) + k
theorem good_l_stir {ws : List W} {M : Mm} {R : K3} (h : sp_l_stir ws M R) : rd_l_stir (ends3 R) (start3 N_l_stir ws) M := by
  obtain ⟨c, k, rfl, h0, h1, r⟩ := h
  show rd_l_stir (ends3 R) [some (.int c), some (.int k), none] M
  simp? only [rd_l_stir, rd_l_stir_0, rd_l_stir_1, rd_l_stir_2]
  have b1 : (stirE c k).natAbs < 2 ^ 200 := stir1 (a := c % 10 ^ 40) (k := k) (Int.emod_nonneg _ (by decide)) (Int.emod_lt_of_pos _ (by decide)) h0 h1
  have b2 : (stirE c k * stirE c k).natAbs < 2 ^ 400 := natAbs_mul_lt b1 b1
  have b3 : (69621 * stirE c k : Int).natAbs < 2 ^ 400 := lt_pow (natAbs_mul_lt (m := 17) (i := 69621) (by decide) b1) (by decide)
  have b4 : (stirE c k * stirE c k + 69621 * stirE c k).natAbs < 2 ^ 401 := natAbs_add_lt b2 b3
  have b1' : (stirE c k).natAbs < 2 ^ 4096 := lt_pow b1 (by decide)
  have b4' : (stirE c k * stirE c k + 69621 * stirE c k).natAbs < 2 ^ 4096 := lt_pow b4 (by decide)
  have p61 : (0 : Int) < 10 ^ (61 : Int).toNat + 7 := by decide
  refine ⟨⟨by decide, by decide, by decide⟩, by decide, .inl (.inr ⟨by decide, by decide⟩), ⟨by decide, by decide, by decide⟩, .inl (.inr ⟨by omega, by omega⟩), .inl (.inr ⟨by omega, by omega⟩), .inr ⟨b1', b1'⟩, .inl (.inl ⟨by decide, by decide⟩), .inr ⟨b4', b4'⟩, ⟨by decide, by decide, by decide⟩, p61, _, Sub.refl _, r _ ?_ ?_⟩
  · exact Int.ediv_nonneg (Int.emod_nonneg _ (Int.ne_of_gt p61)) (by decide)
  · have h2 := Int.emod_lt_of_pos ((stirE c k * stirE c k + 69621 * stirE c k) * (stirE c k * stirE c k + 69621 * stirE c k)) p61
    have h3 : (10 : Int) ^ (61 : Int).toNat + 7 = 10 ^ 61 + 7 := rfl
    rw [h3] at h2
    refine Int.ediv_lt_of_lt_mul (by decide) ?_
    refine Int.lt_trans h2 (by decide)
end Rg
set_option Elab.async false
set_option linter.all false
set_option maxRecDepth 100000
set_option maxHeartbeats 4000000
namespace Rg
open PySem PySem.Spec PyProof.Rows L2 L3
theorem drawn_snoc {ds ss : List Int} {i : Nat} {s d : Int} (h : Drawn ds (ss.take i)) (hs : ss[i]? = some s) (hd : Below d s) : Drawn (ds ++ [d]) (ss.take (i + 1)) := by
  rw [List.take_add_one, hs]
  exact Paired.snoc h hd
theorem atI_map {f : Int → W} {ss : List Int} {i : Nat} {s : Int} (h : ss[i]? = some s) : atI (ss.map f) (i : Int) = some (f s) := atI_nat (by rw [List.getElem?_map, h]; rfl)
theorem rangeW_get {lo : Int} {n i : Nat} {w : W} (h : (rangeW lo n)[i]? = some w) : i < n ∧ w = .int (lo + i) := by
  unfold rangeW at h
  rw [List.getElem?_map] at h
  obtain ⟨j, hj, rfl⟩ := Option.map_eq_some_iff.mp h
  obtain ⟨h1, h2⟩ := List.getElem?_eq_some_iff.mp hj
  simp at h1 h2
  subst h2
  exact ⟨h1, rfl⟩
theorem rangeW_len {lo : Int} {n : Nat} : (rangeW lo n).length = n := by unfold rangeW; simp
theorem good_l_drawn {ws : List W} {M : Mm} {R : K3} (h : sp_l_drawn ws M R) : rd_l_drawn (ends3 R) (start3 N_l_drawn ws) M := by
  obtain ⟨c, ss, rfl, hl, hs, r⟩ := h
  show rd_l_drawn (ends3 R) [some (.int c), some (.rl (ss.map W.int)), none, none, none] M
  simp? only [rd_l_drawn, rd_l_drawn_0, rd_l_drawn_1, rd_l_drawn_2]
  intro p hp
  refine ⟨⟨by decide, by decide, by decide⟩, _, rfl, by rw [List.length_map]; omega, by rw [List.length_map]; omega, ?_⟩
  rw [List.length_map, Int.toNat_natCast]
  refine for3 (fun i τ M' => ∃ ds rest o, τ = [some (.int c), some (.rl (ss.map W.int)), some (.ref p), some (.int rest), o] ∧ M' = put M p (.lst (ds.map W.int)) ∧ Drawn ds (ss.take i)) ⟨[], _, _, rfl, rfl, by simp; exact .nil⟩ (fun _ _ _ _ _ => trivial) ?_ ?_
  · rintro i w τ M' hw ⟨ds, rest, o, rfl, rfl, hd⟩
    obtain ⟨hi, rfl⟩ := rangeW_get hw
    rw [Int.zero_add]
    obtain ⟨s, hs'⟩ : ∃ s, ss[i]? = some s := ⟨_, List.getElem?_eq_getElem hi⟩
    obtain ⟨s0, s1⟩ := hs s (List.mem_of_getElem? hs')
    have ea : atI (ss.map W.int) (i : Int) = some (.int s) := atI_map hs'
    have hdl := Paired.length hd
    rw [List.length_take] at hdl
    have hcd : CDivB rest s := ⟨s0, Int.lt_of_le_of_lt s1 (by decide)⟩
    simp? only [rd_l_drawn_b2, ea]
    refine ⟨⟨by decide, by decide, by decide⟩, ?_⟩
    split
    · refine ⟨s0, by rw [List.length_map]; omega, hcd, _, Sub.refl _, ds ++ [rest % s], _, _, rfl, by rw [List.map_append]; rfl, drawn_snoc hd hs' ⟨Int.emod_nonneg _ (by omega), Int.emod_lt_of_pos _ s0⟩⟩
    · refine ⟨c, _, rfl, by omega, by omega, fun z h0 h1 => ?_⟩
      simp? only [ea]
      refine ⟨s0, by rw [List.length_map]; omega, _, Sub.refl _, ds ++ [z % s], _, _, rfl, by rw [List.map_append]; rfl, drawn_snoc hd hs' ⟨Int.emod_nonneg _ (by omega), Int.emod_lt_of_pos _ s0⟩⟩
  · rintro τ M' ⟨ds, rest, o, rfl, rfl, hd⟩
    rw [rangeW_len, List.take_length] at hd
    simp? only [rd_l_drawn_3]
    exact ⟨_, Sub.refl _, r ds hd p hp⟩
theorem good_l_unlike {ws : List W} {M : Mm} {R : K3} (h : sp_l_unlike ws M R) : rd_l_unlike (ends3 R) (start3 N_l_unlike ws) M := by
  obtain ⟨n, m, g, rfl, h0, h1, r⟩ := h
  show rd_l_unlike (ends3 R) [some (.int n), some (.int m), some (.bl g), none, none, none, none, none, none, none, none] M
  have key : ∀ L, L = lettersOf g → (vSeq rd_l_unlike_2 (vSeq rd_l_unlike_3 (vSeq rd_l_unlike_4 (vSeq rd_l_unlike_5 (vSeq rd_l_unlike_6 (vSeq rd_l_unlike_7 rd_l_unlike_8)))))) (ends3 R) [some (.int n), some (.int m), some (.bl g), some (.str L), none, none, none, none, none, none, none] M := by
    rintro L rfl
    obtain ⟨cp, ecp, mcp⟩ := at26' (letters_len g) n
    have hL : (lettersOf g).length ≤ 16777216 := by rw [← cs_len, letters_len]; decide
    simp? only [rd_l_unlike_2, rd_l_unlike_3, rd_l_unlike_4, rd_l_unlike_5, rd_l_unlike_6, rd_l_unlike_7]
    have hsz0 : 0 ≤ n / 26 % 8 := Int.emod_nonneg _ (by decide)
    have hsz1 : n / 26 % 8 < 8 := Int.emod_lt_of_pos _ (by decide)
    have hat0 : 0 ≤ n / 208 % (1 + n / 26 % 8) := Int.emod_nonneg _ (by omega)
    have hat1 : n / 208 % (1 + n / 26 % 8) < 1 + n / 26 % 8 := Int.emod_lt_of_pos _ (by omega)
    refine ⟨hL, cp, ecp, by omega, fun p hp => ⟨m, rfl, by omega, by omega, ?_⟩⟩
    have hpl : (⟨#[cp]⟩ : Str).length = 1 := rfl
    generalize hfi : n / 1664 % 26 = fi
    generalize hsv : n / 26 % 8 = sv at *
    generalize hav : n / 208 % (1 + sv) = av at *
    refine for3 (fun i τ M' => ∃ (ts : List Str) (o9 o10 : Option W), τ = [some (.int n), some (.int m), some (.bl g), some (.str (lettersOf g)), some (.str ⟨#[cp]⟩), some (.int (1 + sv)), some (.int av), some (.int fi), some (.ref p), o9, o10] ∧
      M' = put M p (.lst (ts.map W.str)) ∧ ts.length = i ∧ ∀ t ∈ ts, UnT g t) ⟨[], none, none, rfl, rfl, rfl, fun t ht => nomatch ht⟩ (fun _ _ _ _ _ => trivial) ?_ ?_
    · rintro i w τ M' hw ⟨ts, o9, o10, rfl, rfl, htl, ht⟩
      obtain ⟨hi, rfl⟩ := rangeW_get hw
      rw [Int.zero_add]
      obtain ⟨d, hd, hdm⟩ := at26' (letters_len g) (fi + 3 * (i : Int))
      have hm1 : ((Txt.mul (⟨#[cp]⟩ : Str) av).length : Int) = av := mul_len hpl hat0
      have hm2 : ((Txt.mul (⟨#[cp]⟩ : Str) (1 + sv - av - 1)).length : Int) = 1 + sv - av - 1 := mul_len hpl (by omega)
      have hdl : (⟨#[d]⟩ : Str).length = 1 := rfl
      have l12 : (Txt.mul (⟨#[cp]⟩ : Str) av ++ (⟨#[d]⟩ : Str)).length = (Txt.mul (⟨#[cp]⟩ : Str) av).length + 1 := by rw [strLen_append, hdl]
      have l123 : (Txt.mul (⟨#[cp]⟩ : Str) av ++ (⟨#[d]⟩ : Str) ++ Txt.mul (⟨#[cp]⟩ : Str) (1 + sv - av - 1)).length = (Txt.mul (⟨#[cp]⟩ : Str) av).length + 1 + (Txt.mul (⟨#[cp]⟩ : Str) (1 + sv - av - 1)).length := by rw [strLen_append, l12]
      simp? only [rd_l_unlike_b7]
      refine ⟨.inl (.inl ⟨by decide, by decide⟩), hL, d, hd, by rw [hpl]; decide, by omega, by omega, by omega, by rw [hpl]; decide, by omega, by omega, by omega, by rw [List.length_map]; omega, ?_⟩
      generalize hx : Txt.mul (⟨#[cp]⟩ : Str) av ++ (⟨#[d]⟩ : Str) ++ Txt.mul (⟨#[cp]⟩ : Str) (1 + sv - av - 1) = x at l123 ⊢
      have hxl : x.length ≤ 8 := by omega
      have hxm : ∀ z ∈ cs x, z ∈ cs (lettersOf g) := fun z hz => by
        rw [← hx, cs_app, cs_app] at hz
        rcases List.mem_append.mp hz with q | q
        · rcases List.mem_append.mp q with q | q
          · have := mul_mem q
            rw [cs_one', List.mem_singleton] at this
            rw [this]; exact mcp
          · rw [cs_one', List.mem_singleton] at q
            rw [q]; exact hdm
        · have := mul_mem q
          rw [cs_one', List.mem_singleton] at this
          rw [this]; exact mcp
      have hxn : cs x ≠ [] := fun z => by
        have : x.length = 0 := by rw [← cs_len, z]; rfl
        omega
      have e1 : ts.map W.str ++ [W.str x] = (ts ++ [x]).map W.str := by rw [List.map_append]; rfl
      rw [e1]
      have plain : ∀ o9' o10', ∃ M'', L3.Sub M'' (put M p (.lst ((ts ++ [x]).map W.str))) ∧ ∃ (ts' : List Str) (o9 o10 : Option W), [some (.int n), some (.int m), some (.bl g), some (.str (lettersOf g)), some (.str ⟨#[cp]⟩), some (.int (1 + sv)), some (.int av), some (.int fi), some (.ref p), o9', o10'] = [some (.int n), some (.int m), some (.bl g), some (.str (lettersOf g)), some (.str ⟨#[cp]⟩), some (.int (1 + sv)), some (.int av), some (.int fi), some (.ref p), o9, o10] ∧
          M'' = put M p (.lst (ts'.map W.str)) ∧ ts'.length = i + 1 ∧ ∀ t ∈ ts', UnT g t := fun o9' o10' => by
        refine ⟨_, Sub.refl _, ts ++ [x], _, _, rfl, rfl, by rw [List.length_append, htl]; rfl, fun t h => ?_⟩
        rcases List.mem_append.mp h with q | q
        · exact ht t q
        · rw [List.mem_singleton.mp q]; exact un_plain hxl hxn hxm
      split
      · rename_i hg
        split
        · refine ⟨by omega, ?_⟩
          split
          · have hk : atI ((ts ++ [x]).map W.str) (i : Int) = some (.str x) := by
              refine atI_nat ?_
              rw [List.getElem?_map, List.getElem?_append_right (by omega), htl]
              simp
            have hul : ("_" : Str).length = 1 := by decide +kernel
            have hf0 : 0 ≤ n / 129792 % 10000 := Int.emod_nonneg _ (by decide)
            have hf1 : n / 129792 % 10000 < 10000 := Int.emod_lt_of_pos _ (by decide)
            have hfl : (Str.ofString (toString (n / 129792 % 10000))).length ≤ 10 := PySem.W.KT.len_num hf0 (by omega)
            have hxu : (x ++ ("_" : Str)).length = x.length + 1 := by rw [strLen_append, hul]
            subst hg
            refine .inl ⟨_, _, rfl, hk, ?_⟩
            simp? only []
            refine ⟨by omega, log_small hf0 hf1, by omega, setL put_same (by omega) (by simp; omega) ⟨_, Sub.refl _, ts ++ [x ++ ("_" : Str) ++ Str.ofString (toString (n / 129792 % 10000))], _, _, rfl, ?_, by rw [List.length_append, htl]; rfl, fun t h => ?_⟩⟩
            · rw [put_put, List.map_append, List.map_append]
              congr 2
              rw [List.set_append_right _ _ (by rw [List.length_map, htl]; omega), List.length_map, htl, Int.toNat_natCast, Nat.sub_self]
              rfl
            · rcases List.mem_append.mp h with q | q
              · exact ht t q
              · rw [List.mem_singleton.mp q]; exact un_figs _ hf0 hf1 hxl hxn hxm
          · exact plain _ _
        · exact plain _ _
      · exact plain _ _
    · rintro τ M' ⟨ts, o9, o10, rfl, rfl, htl, ht⟩
      rw [rangeW_len] at htl
      simp? only [rd_l_unlike_8]
      exact ⟨_, Sub.refl _, r ts htl ht p hp⟩
  simp? only [rd_l_unlike, rd_l_unlike_0, rd_l_unlike_1, L3.rUpper]
  cases g with
  | true => exact ⟨by decide +kernel, key _ rfl⟩
  | false => exact key _ rfl
theorem atI_strs {ts : List Str} {k : Int} (h0 : 0 ≤ k) (h1 : k < ts.length) : ∃ t, atI (ts.map W.str) k = some (.str t) ∧ t ∈ ts := by
  obtain ⟨x, e, e2, _⟩ := atI_of (xs := ts.map W.str) h0 (by rw [List.length_map]; exact h1)
  rw [List.getElem?_map] at e2
  obtain ⟨t, ht, rfl⟩ := Option.map_eq_some_iff.mp e2
  exact ⟨t, e, List.mem_of_getElem? ht⟩
theorem flat_six (m : Nat) : (List.replicate m [W.int 6]).flatten = (List.replicate m (6 : Int)).map W.int := by
  induction m with
  | zero => rfl
  | succ m ih => rw [List.replicate_succ, List.flatten_cons, ih, List.replicate_succ]; rfl
theorem cut4 {x1 x2 x3 x4 : Int} {d2 : List Int} {hi : Option Int} {w : W} (h : w ∈ cutW (([x1, x2, x3, x4] ++ d2).map W.int) (some 4) hi) : ∃ d ∈ d2, w = .int d := by
  unfold cutW at h
  have e : HT.sIx (([x1, x2, x3, x4] ++ d2).map W.int).length 0 (some 4) = 4 := by
    have := HT.sIx_nat (([x1, x2, x3, x4] ++ d2).map W.int).length 0 4
    simp at this ⊢
    omega
  rw [e] at h
  have h := List.mem_of_mem_take h
  obtain ⟨d, hd, rfl⟩ := List.mem_map.mp (show w ∈ d2.map W.int from h)
  exact ⟨d, hd, rfl⟩
theorem good_l_rule {ws : List W} {M : Mm} {R : K3} (h : sp_l_rule ws M R) : rd_l_rule (ends3 R) (start3 N_l_rule ws) M := by
  obtain ⟨c, hs, wds, most, rfl, hh0, hh1, hw, hm0, hm1, r⟩ := h
  show rd_l_rule (ends3 R) [some (.int c), some (.rl (hs.map W.str)), some (.rl (wds.map W.str)), some (.int most), none, none, none] M
  simp? only [rd_l_rule, rd_l_rule_0]
  refine ⟨⟨by decide, by decide, by decide⟩, by omega, by omega, by omega, ?_⟩
  rw [flat_six]
  refine ⟨by simp; omega, c, [(hs.length : Int), most + 1, 3, 10 ^ 59] ++ List.replicate most.toNat 6, by simp, by simp; omega, fun s hs' => ?_, fun ds hd => New.frz ?_⟩
  · rcases List.mem_append.mp hs' with q | q
    · simp at q
      rcases q with rfl | rfl | rfl | rfl
      · exact ⟨by omega, Int.le_trans (show (hs.length : Int) ≤ 12 by omega) (by decide)⟩
      · exact ⟨by omega, Int.le_trans (show most + 1 ≤ 5 by omega) (by decide)⟩
      · exact ⟨by decide, by decide⟩
      · exact ⟨by decide, by decide⟩
    · rw [(List.mem_replicate.mp q).2]; exact ⟨by decide, by decide⟩
  · obtain ⟨d1, d2, rfl, e1, e2⟩ := drawn_app hd
    obtain ⟨x1, x2, x3, x4, rfl, b1, b2, b3, b4⟩ := drawn4 e1
    have b6 := drawn_mem e2 (s := 6) fun z hz => (List.mem_replicate.mp hz).2
    have a0 : atI (([x1, x2, x3, x4] ++ d2).map W.int) 0 = some (.int x1) := atI0 _ _
    have a1 : atI (([x1, x2, x3, x4] ++ d2).map W.int) 1 = some (.int x2) := atI_nat (j := 1) rfl
    have a2 : atI (([x1, x2, x3, x4] ++ d2).map W.int) 2 = some (.int x3) := atI_nat (j := 2) rfl
    have a3 : atI (([x1, x2, x3, x4] ++ d2).map W.int) 3 = some (.int x4) := atI_nat (j := 3) rfl
    simp? only [rd_l_rule_1, rd_l_rule_2, a0, a1, a2, a3]
    intro p hp
    have hcl := cut_mid (S := ([x1, x2, x3, x4] ++ d2).map W.int) (i := 4) (j := 4 + x2) (by decide) (by have := b2.1; omega)
    have hcm : ∀ w ∈ cutW (([x1, x2, x3, x4] ++ d2).map W.int) (some 4) (some (4 + x2)), ∃ d, Below d 6 ∧ w = .int d := fun w hw' => by
      obtain ⟨d, hd, e⟩ := cut4 hw'
      exact ⟨d, b6 d hd, e⟩
    generalize cutW (([x1, x2, x3, x4] ++ d2).map W.int) (some 4) (some (4 + x2)) = cw at *
    obtain ⟨b10, b11⟩ := b1
    obtain ⟨b20, b21⟩ := b2
    obtain ⟨b30, b31⟩ := b3
    obtain ⟨b40, b41⟩ := b4
    refine for3 (fun i τ M' => ∃ (ts : List Str) (o6 : Option W), τ = [some (.int c), some (.rl (hs.map W.str)), some (.rl (wds.map W.str)), some (.int most), some (.rl (([x1, x2, x3, x4] ++ d2).map W.int)), some (.ref p), o6] ∧
      M' = put M p (.lst (ts.map W.str)) ∧ ts.length = i ∧ ∀ t ∈ ts, t ∈ wds ∨ t ∈ hs) ⟨[], none, rfl, rfl, rfl, fun t ht => nomatch ht⟩ (fun _ _ _ _ _ => trivial) ?_ ?_
    · rintro i w τ M' hw' ⟨ts, o6, rfl, rfl, htl, ht⟩
      have hi := (List.getElem?_eq_some_iff.mp hw').1
      obtain ⟨d, ⟨hd0, hd1⟩, rfl⟩ := hcm w (List.mem_of_getElem? hw')
      have fin : ∀ t, (t ∈ wds ∨ t ∈ hs) → ∃ (ts' : List Str) (o6 : Option W), [some (.int c), some (.rl (hs.map W.str)), some (.rl (wds.map W.str)), some (.int most), some (.rl (([x1, x2, x3, x4] ++ d2).map W.int)), some (.ref p), some (.int d)] = [some (.int c), some (.rl (hs.map W.str)), some (.rl (wds.map W.str)), some (.int most), some (.rl (([x1, x2, x3, x4] ++ d2).map W.int)), some (.ref p), o6] ∧
          put M p (.lst (ts.map W.str ++ [.str t])) = put M p (.lst (ts'.map W.str)) ∧ ts'.length = i + 1 ∧ ∀ t ∈ ts', t ∈ wds ∨ t ∈ hs := fun t ht' =>
        ⟨ts ++ [t], _, rfl, by rw [List.map_append]; rfl, by rw [List.length_append, htl]; rfl, fun u hu => (List.mem_append.mp hu).elim (ht u) fun q => by rw [List.mem_singleton.mp q]; exact ht'⟩
      simp? only [rd_l_rule_b2, a0]
      split
      · obtain ⟨t, e, m⟩ := atI_strs (ts := wds) (k := d) hd0 (by omega)
        exact ⟨_, e, by rw [List.length_map]; omega, _, Sub.refl _, fin t (.inl m)⟩
      · have hpos : (0 : Int) < ((hs.map W.str).length : Int) := by rw [List.length_map]; omega
        obtain ⟨t, e, m⟩ := atI_strs (ts := hs) (k := (d - 3 + x1) % ((hs.map W.str).length : Int)) (Int.emod_nonneg _ (by omega)) (by have := Int.emod_lt_of_pos (d - 3 + x1) hpos; rw [List.length_map] at this ⊢; exact this)
        exact ⟨hpos, _, e, by rw [List.length_map]; omega, _, Sub.refl _, fin t (.inr m)⟩
    · rintro τ M' ⟨ts, o6, rfl, rfl, htl, ht⟩
      obtain ⟨nm, en, mn⟩ := atI_strs (ts := hs) (k := x1) b10 b11
      simp? only [rd_l_rule_3, a0, a1, a2, a3, en]
      refine ⟨⟨by decide, by decide, by decide⟩, ?_⟩
      obtain ⟨cb, ecb, _, mcb⟩ := atI_of (xs := [W.int 1, W.int 10, W.int (10 ^ (59 : Int).toNat)]) (i := x3) b30 (by simp; omega)
      refine ⟨cb, ecb, ?_⟩
      have hcb : ∃ q : Int, cb = .int q ∧ 0 < q ∧ q ≤ 10 ^ 59 := by
        simp at mcb
        rcases mcb with rfl | rfl | rfl
        · exact ⟨_, rfl, by decide, by decide⟩
        · exact ⟨_, rfl, by decide, by decide⟩
        · exact ⟨_, rfl, by decide, by decide⟩
      obtain ⟨q, rfl, q0, q1⟩ := hcb
      simp? only []
      have hlt := Int.emod_lt_of_pos x4 q0
      refine ⟨q0, _, Sub.new hp, r ⟨nm, ts, x4 % q⟩ ⟨mn, ht, by show ts.length ≤ 4; omega, Int.emod_nonneg _ (by omega), Int.lt_of_lt_of_le hlt q1⟩ (by show (ts.length : Int) ≤ most; omega)⟩
end Rg
set_option Elab.async false
set_option linter.all false
set_option maxRecDepth 100000
set_option maxHeartbeats 4000000
namespace Rg
open PySem PySem.Spec PyProof.Rows L2 L3
theorem Paired.rules {hs wds : List Str} {most : Int} {xs ys : List W} (h : Paired (fun _ y => ∃ r, y = ruleW r ∧ RuleOf hs wds r ∧ (r.parts.length : Int) ≤ most) xs ys) : ∃ rs : List Rule, ys = rs.map ruleW ∧ rs.length = xs.length ∧ ∀ r ∈ rs, RuleOf hs wds r ∧ (r.parts.length : Int) ≤ most := by
  induction h with
  | nil => exact ⟨[], rfl, rfl, fun r hr => nomatch hr⟩
  | cons a b ih =>
    obtain ⟨r, rfl, h1⟩ := a
    obtain ⟨rs, rfl, hl, h2⟩ := ih
    refine ⟨r :: rs, rfl, by simp [hl], fun q hq => ?_⟩
    rcases List.mem_cons.mp hq with rfl | hq
    · exact h1
    · exact h2 q hq
theorem good_l_rules {ws : List W} {M : Mm} {R : K3} (h : sp_l_rules ws M R) : rd_l_rules (ends3 R) (start3 N_l_rules ws) M := by
  obtain ⟨zs, many, most, rfl, hi, hl, hm0, hm1, ho0, ho1, r⟩ := h
  show rd_l_rules (ends3 R) [some (.rl zs), some (.int many), some (.int most), none, none, none, none, none, none] M
  simp? only [rd_l_rules, rd_l_rules_0]
  refine ⟨zs, 0, .inr rfl, hi, by decide, fun c => ⟨⟨by decide, by decide, by decide⟩, ⟨by decide, by decide, by decide⟩, c, [10 ^ 9, 10 ^ 9], rfl, by decide, fun s hs => ?_, fun ds hd => New.frz ?_⟩⟩
  · simp at hs; subst hs; exact ⟨by decide, by decide⟩
  obtain ⟨x1, x2, rfl, b1, b2⟩ := drawn2 hd
  simp? only [rd_l_rules_1, rd_l_rules_2]
  refine ⟨x1, many, true, rfl, by omega, by omega, fun hs hsl hhs => New.frz ⟨x2, 3, false, rfl, by decide, by decide, fun wds hwl hws => New.frz ?_⟩⟩
  simp? only [rd_l_rules_3]
  have hwl : wds.length = 3 := hwl
  refine map1R (rest := [some (.rl (hs.map W.str)), some (.rl (wds.map W.str)), some (.int most)]) (fun _ y => ∃ r, y = ruleW r ∧ RuleOf hs wds r ∧ (r.parts.length : Int) ≤ most) (small (by have := cutW_len (ws := zs) (lo := some 1) (hi := none); omega)) (fun _ _ => trivial) (fun w hw M' C sb h1 => ?_) fun ys hys p hp => ?_
  · obtain ⟨i, rfl⟩ := hi w (cutW_mem hw)
    simp? only []
    exact ⟨i, hs, wds, most, rfl, by omega, by omega, hwl, by omega, by omega, fun r h2 h3 => h1 _ ⟨r, rfl, h2, h3⟩⟩
  obtain ⟨rs, rfl, hrl, hrs⟩ := Paired.rules hys
  have hcl := cutW_len (ws := zs) (lo := some 1) (hi := none)
  obtain ⟨w0, ew, mw⟩ := atI_strs (ts := wds) (k := 0) (by decide) (by omega)
  simp? only [rd_l_rules_4]
  refine for3 (fun i τ M' => ∃ (qs : List Rule) (o8 : Option W), τ = [some (.rl zs), some (.int many), some (.int most), some (.int x1), some (.int x2), some (.rl (hs.map W.str)), some (.rl (wds.map W.str)), some (.ref p), o8] ∧
      M' = put M p (.lst (qs.map ruleW)) ∧ qs.length ≤ rs.length + i ∧ (∀ r ∈ qs, RuleOf hs wds r ∧ (r.parts.length : Int) ≤ most) ∧ (∀ t ∈ hs.take i, ∃ r ∈ qs, r.name = t)) ⟨rs, _, rfl, rfl, by omega, hrs, by simp⟩ (fun _ _ _ _ _ => trivial) ?_ ?_
  · rintro i w τ M' hw ⟨qs, o8, rfl, rfl, hql, hq, hcov⟩
    rw [List.getElem?_map] at hw
    obtain ⟨t, ht, rfl⟩ := Option.map_eq_some_iff.mp hw
    have hilt := (List.getElem?_eq_some_iff.mp ht).1
    have htm : t ∈ hs := List.mem_of_getElem? ht
    simp? only [rd_l_rules_b4]
    refine map1 (rest := []) (fun w => match w with | .tup (n :: _) => n | _ => .non) (small (by rw [List.length_map]; omega)) (fun M' sb => sb _ _ put_same) (fun w hw M' C sb h1 => ?_) (New.frz ?_)
    · obtain ⟨q, _, rfl⟩ := List.mem_map.mp hw
      simp? only [ruleW]
      exact h1
    have em : (qs.map ruleW).map (fun w => match w with | .tup (n :: _) => n | _ => W.non) = (qs.map Rule.name).map W.str := by
      rw [List.map_map, List.map_map]; rfl
    rw [em]
    simp? only [L3.rIn, inW_strs, flat_strsW, flatW]
    have cov : ∀ qs' : List Rule, (∀ r ∈ qs, r ∈ qs') → (∃ r ∈ qs', r.name = t) → ∀ u ∈ hs.take (i + 1), ∃ r ∈ qs', r.name = u := fun qs' hsub hex u hu => by
      rw [List.take_add_one, ht] at hu
      rcases List.mem_append.mp hu with q | q
      · obtain ⟨r, hr, e⟩ := hcov u q; exact ⟨r, hsub r hr, e⟩
      · simp at q; subst q; exact hex
    split
    · simp? only [ew]
      refine ⟨by rw [List.length_map]; omega, _, Sub.refl _, qs ++ [⟨t, [w0], 0⟩], _, rfl, by rw [List.map_append]; rfl, by simp; omega, fun r hr => ?_, cov _ (fun r hr => List.mem_append_left _ hr) ⟨⟨t, [w0], 0⟩, by simp, rfl⟩⟩
      rcases List.mem_append.mp hr with hr | hr
      · exact hq r hr
      · rw [List.mem_singleton.mp hr]
        exact ⟨⟨htm, fun u hu => .inl (by rw [List.mem_singleton.mp hu]; exact mw), by show 1 ≤ 4; decide, by show (0 : Int) ≤ 0; decide, by show (0 : Int) < 10 ^ 59; decide⟩, by show (1 : Int) ≤ most; omega⟩
    · rename_i hin
      have hin' : t ∈ qs.map Rule.name := Classical.not_not.mp hin
      obtain ⟨r0, hr0, e0⟩ := List.mem_map.mp hin'
      exact ⟨_, Sub.refl _, qs, _, rfl, rfl, by omega, hq, cov _ (fun r hr => hr) ⟨r0, hr0, e0⟩⟩
  · rintro τ M' ⟨qs, o8, rfl, rfl, hql, hq, hcov⟩
    rw [List.length_map] at hql
    rw [List.length_map, List.take_length] at hcov
    simp? only [rd_l_rules_5]
    have hsn : hs.length = many.toNat := hsl
    refine ⟨_, Sub.refl _, r qs ⟨fun e => ?_, by omega, hs, wds, by omega, fun t ht => hhs t ht, fun t ht => hws t ht, fun r hr => (hq r hr).1, hcov⟩ (fun r hr => (hq r hr).2) ⟨hs, by omega, fun r hr => (hq r hr).1.name⟩ p hp⟩
    subst e
    cases hs with
    | nil => simp at hsn; omega
    | cons a b => obtain ⟨r, hr, _⟩ := hcov a List.mem_cons_self; cases hr
end Rg
set_option Elab.async false
set_option linter.all false
set_option maxRecDepth 100000
set_option maxHeartbeats 4000000
namespace Rg
open PySem PySem.Spec PyProof.Rows L2 L3
inductive Tr where
  | wd (t : Str)
  | nd (n : Int) (cs : List Tr)
mutual
def Tr.w : Tr → W
  | .wd t => .str t
  | .nd n cs => .tup [.int n, .tup (Tr.ws cs)]
def Tr.ws : List Tr → List W
  | [] => []
  | c :: cs => c.w :: Tr.ws cs
end
mutual
def Tr.row : Tr → List Str
  | .wd t => [t]
  | .nd _ cs => Tr.rows cs
def Tr.rows : List Tr → List Str
  | [] => []
  | c :: cs => c.row ++ Tr.rows cs
end
mutual
def Tr.size : Tr → Nat
  | .wd _ => 1
  | .nd _ cs => 1 + Tr.sizes cs
def Tr.sizes : List Tr → Nat
  | [] => 0
  | c :: cs => c.size + Tr.sizes cs
end
mutual
def Tr.knots : Tr → Nat
  | .wd _ => 0
  | .nd _ cs => 1 + Tr.knotss cs
def Tr.knotss : List Tr → Nat
  | [] => 0
  | c :: cs => c.knots + Tr.knotss cs
end
mutual
def Tr.depth : Tr → Nat
  | .wd _ => 0
  | .nd _ cs => 1 + Tr.depths cs
def Tr.depths : List Tr → Nat
  | [] => 0
  | c :: cs => max c.depth (Tr.depths cs)
end
theorem ws_map : ∀ cs : List Tr, Tr.ws cs = cs.map Tr.w
  | [] => by simp [Tr.ws]
  | c :: cs => by simp [Tr.ws, ws_map cs]
theorem rows_append : ∀ a b : List Tr, Tr.rows (a ++ b) = Tr.rows a ++ Tr.rows b
  | [], b => by simp [Tr.rows]
  | c :: a, b => by simp [Tr.rows, rows_append a b]
theorem sizes_append : ∀ a b : List Tr, Tr.sizes (a ++ b) = Tr.sizes a + Tr.sizes b
  | [], b => by simp [Tr.sizes]
  | c :: a, b => by simp [Tr.sizes, sizes_append a b]; omega
theorem knotss_append : ∀ a b : List Tr, Tr.knotss (a ++ b) = Tr.knotss a + Tr.knotss b
  | [], b => by simp [Tr.knotss]
  | c :: a, b => by simp [Tr.knotss, knotss_append a b]; omega
theorem size_pos : ∀ t : Tr, 0 < t.size
  | .wd _ => by simp [Tr.size]
  | .nd _ _ => by simp [Tr.size]; omega
mutual
inductive Rt (rs : List Rule) : Str → Tr → Prop
  | mk {n : Int} {r : Rule} {cs : List Tr} : 0 ≤ n → rs[n.toNat]? = some r → Rts rs r.parts cs → Rt rs r.name (.nd n cs)
inductive Rts (rs : List Rule) : List Str → List Tr → Prop
  | nil : Rts rs [] []
  | word {p : Str} {ps : List Str} {cs : List Tr} : isNameB p = false → Rts rs ps cs → Rts rs (p :: ps) (.wd p :: cs)
  | name {p : Str} {c : Tr} {ps : List Str} {cs : List Tr} : isNameB p = true → Rt rs p c → Rts rs ps cs → Rts rs (p :: ps) (c :: cs)
end
def Kn (rs : List Rule) (nm : Str) : Tr → Prop
  | .wd _ => False
  | .nd n cs => 0 ≤ n ∧ ∃ r, rs[n.toNat]? = some r ∧ r.name = nm ∧ Paired (fun p c => isNameB p = true ∨ c = Tr.wd p) r.parts cs
mutual
def Tr.ok : Tr → Prop
  | .wd t => sOk t ∧ t.length ≤ 1000
  | .nd _ cs => Tr.oks cs
def Tr.oks : List Tr → Prop
  | [] => True
  | c :: cs => c.ok ∧ Tr.oks cs
end
theorem oks_mem : ∀ {cs : List Tr}, Tr.oks cs → ∀ c ∈ cs, c.ok
  | [], _, c, h => nomatch h
  | d :: cs, h, c, hc => by
    rw [Tr.oks] at h
    rcases List.mem_cons.mp hc with rfl | hc
    · exact h.1
    · exact oks_mem h.2 c hc
mutual
theorem w_pl : ∀ t : Tr, t.ok → Pl (2 * t.depth) t.w
  | .wd t, h => by rw [Tr.w, Tr.depth]; rw [Tr.ok] at h; exact h.1
  | .nd n cs, h => by
    rw [Tr.w, Tr.depth]
    rw [Tr.ok] at h
    show Pl (2 * (1 + Tr.depths cs)) _
    rw [show 2 * (1 + Tr.depths cs) = (2 * Tr.depths cs + 1) + 1 by omega]
    intro x hx
    simp at hx
    rcases hx with rfl | rfl
    · trivial
    · exact ws_pl cs h
theorem ws_pl : ∀ cs : List Tr, Tr.oks cs → ∀ w ∈ Tr.ws cs, Pl (2 * Tr.depths cs) w
  | [], _, w, hw => by rw [Tr.ws] at hw; cases hw
  | c :: cs, h, w, hw => by
    rw [Tr.oks] at h
    rw [Tr.ws] at hw
    rw [Tr.depths]
    rcases List.mem_cons.mp hw with rfl | hw
    · exact Pl.mono (w_pl c h.1) (by omega)
    · exact Pl.mono (ws_pl cs h.2 w hw) (by omega)
end
end Rg
namespace Rg
open PySem PySem.Spec PyProof.Rows L2 L3
def Tr.isNd : Tr → Bool
  | .wd _ => false
  | .nd _ _ => true
mutual
def Tr.subs : Tr → List Tr
  | .wd _ => []
  | .nd n cs => .nd n cs :: Tr.subss cs
def Tr.subss : List Tr → List Tr
  | [] => []
  | c :: cs => c.subs ++ Tr.subss cs
end
def chW (ch : List (Str × Nat)) : List (Key × W) := ch.map fun e => (Sum.inr e.1, .int e.2)
structure Chosen (rs : List Rule) (ch : List (Str × Nat)) : Prop where
  nd : (ch.map Prod.fst).Nodup
  at_ : ∀ (i : Nat) (nm : Str) (k : Nat), ch[i]? = some (nm, k) → ∃ r, rs[k]? = some r ∧ r.name = nm ∧ ∀ p ∈ r.parts, isNameB p = true → p ∈ (ch.take i).map Prod.fst
structure PartsOk (rs : List Rule) : Prop where
  few : rs.length ≤ 100
  nm : ∀ r ∈ rs, HeadT r.name
  pt : ∀ r ∈ rs, ∀ p ∈ r.parts, HeadT p ∨ WordT p
theorem GoodRules.pok {rs : List Rule} (g : GoodRules rs) : PartsOk rs := by
  obtain ⟨hs, ws, _, hh, hw, hr, _⟩ := g.ex
  refine ⟨Nat.le_trans g.few (by decide), fun r h => hh _ (hr r h).name, fun r h p hp => ?_⟩
  rcases (hr r h).parts p hp with q | q
  · exact .inr (hw p q)
  · exact .inl (hh p q)
theorem tok {p : Str} (h : HeadT p ∨ WordT p) : sOk p ∧ p.length ≤ 1000 := by
  rcases h with h | h
  · exact ⟨strOk_asc h.asc, Nat.le_trans h.len (by decide)⟩
  · exact ⟨strOk_asc h.asc, Nat.le_trans h.len (by decide)⟩
def km (A : Bool) : Nat → Int
  | 0 => 1
  | r + 1 => if A then 1 + 3 * km A r else 1 + km A r
def lim (A : Bool) (b : Int) (rank : Nat) : Int := if b < 12 then 25 + 26 * (12 - b) else b + km A rank
def lev (b : Int) (rank : Nat) : Nat := if b < 12 then (12 - b).toNat + 13 else rank + 1
def Small (A : Bool) (rs : List Rule) (ch : List (Str × Nat)) : Prop := if A then ch.length ≤ 3 ∧ ∀ r ∈ rs, r.parts.length ≤ 3 else ch.length ≤ 12 ∧ ∀ r ∈ rs, r.parts.length ≤ 1
theorem km_pos (A : Bool) : ∀ r, 1 ≤ km A r
  | 0 => by simp [km]
  | r + 1 => by have := km_pos A r; rw [km]; split <;> omega
theorem km_mono (A : Bool) : ∀ {r s : Nat}, r ≤ s → km A r ≤ km A s
  | r, 0, h => by rw [Nat.le_zero.mp h]; exact Int.le_refl _
  | r, s + 1, h => by
    rcases Nat.eq_or_lt_of_le h with rfl | h
    · exact Int.le_refl _
    · have := km_mono A (Nat.le_of_lt_succ h)
      have := km_pos A s
      rw [km]; split <;> omega
theorem km_max {A : Bool} {rs : List Rule} {ch : List (Str × Nat)} (h : Small A rs ch) {r : Nat} (hr : r < ch.length) : km A r ≤ 13 := by
  unfold Small at h
  cases A with
  | true =>
    simp only [if_true] at h
    have : r ≤ 2 := by omega
    exact Int.le_trans (km_mono true this) (by decide)
  | false =>
    simp only [Bool.false_eq_true, if_false] at h
    have : r ≤ 11 := by omega
    exact Int.le_trans (km_mono false this) (by decide)
end Rg
set_option Elab.async false
set_option linter.all false
set_option maxRecDepth 100000
set_option maxHeartbeats 4000000
namespace Rg
open PySem PySem.Spec PyProof.Rows L2 L3
def sp_is_tree : Sp3 := fun ws M R => ∃ t : Tr, ws = [t.w] ∧ R (.bl t.isNd) M
def sp_row_of : Sp3 := fun ws M R => ∃ t : Tr, ws = [t.w] ∧ t.size ≤ 100000 ∧ New (t.row.map W.str) M R
def sp_right_knot : Sp3 := fun ws M R => ∃ (rs : List Rule) (nm : Str) (t : Tr), ws = [.rl (rs.map ruleW), .str nm, t.w] ∧ PartsOk rs ∧ t.ok ∧ (t.depth ≤ 29 ∨ Kn rs nm t) ∧ t.size ≤ 100000 ∧ ∀ b : Bool, (b = true ↔ Kn rs nm t) → R (.bl b) M
def sp_right_tree : Sp3 := fun ws M R => ∃ (rs : List Rule) (nm : Str) (t : Tr), ws = [.rl (rs.map ruleW), .str nm, t.w] ∧ PartsOk rs ∧ t.ok ∧ (t.depth ≤ 29 ∨ Rt rs nm t) ∧ t.size ≤ 100000 ∧ ∀ b : Bool, (b = true ↔ Rt rs nm t) → R (.bl b) M
def sp_l_sizes : Sp3 := fun ws M R => ∃ c : Int, ws = [.int c] ∧ ∀ many most : Int, ((1 ≤ many ∧ many ≤ 3 ∧ most = 3) ∨ (1 ≤ many ∧ many ≤ 12 ∧ most = 1)) → R (.rl [.int many, .int most]) M
def sp_l_is_name : Sp3 := fun ws M R => ∃ p : Str, ws = [.str p] ∧ (HeadT p ∨ WordT p) ∧ R (.bl (isNameB p)) M
def sp_l_all_in : Sp3 := fun ws M R => ∃ (ps : List Str) (ch : List (Str × Nat)), (ws = [.tup (ps.map W.str), .dk (chW ch)] ∨ ∃ a, ws = [.tup (ps.map W.str), .ref a] ∧ M a = some (.dK (chW ch))) ∧ (∀ p ∈ ps, HeadT p ∨ WordT p) ∧ ps.length ≤ 100 ∧
  ∀ b : Bool, (b = true ↔ ∀ p ∈ ps, isNameB p = true → p ∈ ch.map Prod.fst) → R (.bl b) M
def sp_l_chosen : Sp3 := fun ws M R => ∃ rs : List Rule, ws = [.rl (rs.map ruleW)] ∧ PartsOk rs ∧ (∀ r ∈ rs, r.parts.length ≤ 100) ∧ ∀ ch, Chosen rs ch → NewK (chW ch) M R
def spr_l_grow : Nat → Sp3
  | 0 => fun _ _ _ => False
  | n + 1 => fun ws M R => ∃ (rs : List Rule) (ch : List (Str × Nat)) (nm : Str) (q : Addr) (a b : Int) (rank : Nat) (k : Nat) (A : Bool), ws = [.rl (rs.map ruleW), .dk (chW ch), .str nm, .ref q] ∧ M q = some (.lst [.int a, .int b]) ∧ PartsOk rs ∧ Chosen rs ch ∧ Small A rs ch ∧ ch[rank]? = some (nm, k) ∧
    0 ≤ b ∧ lev b rank ≤ n + 1 ∧ ∀ (t : Tr) (a' b' : Int), Rt rs nm t → b' = b + t.knots → b' ≤ lim A b rank → t.depth ≤ lev b rank → t.ok → (∀ u ∈ t.subs, ∃ x ∈ ch.map Prod.fst, Rt rs x u) → R t.w (put M q (.lst [.int a', .int b']))
abbrev sp_l_grow : Sp3 := spr_l_grow 30
def sp_l_number : Sp3 := fun ws M R => ∃ c : Int, ws = [.int c] ∧ ∀ z : Int, R (.int z) M
abbrev N_is_tree : List Str := ["child"]
def rd_is_tree : TS3 :=
      (vRet (vCB rIsi (aCons (vVar 0) (aCons (vC (.ty "tuple")) aNil))))
abbrev N_row_of : List Str := ["tree", "row", "waiting", "child"]
def rd_row_of_0 : TS3 :=
      (vSet 1 (vLst aNil))
def rd_row_of_1 : TS3 :=
      (vSet 2 (vLst (aCons (vVar 0) aNil)))
def rd_row_of_b2 : TS3 :=
      (vSeq (vSet 3 (vBM0 "list" rPop (vVar 2)))
      (vIfS (vTruth (vCall sp_is_tree (aCons (vVar 3) aNil)))
        (vDrop (vBM "list" rExt (vVar 2) (aCons (vListRevF (vOp rIx (vVar 3) (vC (.int 1)))) aNil)))
        (vDrop (vBM "list" rApp (vVar 1) (aCons (vVar 3) aNil)))))
def rd_row_of_2 : TS3 :=
      (vWhile (vTruth (vVar 2)) rd_row_of_b2)
def rd_row_of_3 : TS3 :=
      (vRet (vVar 1))
def rd_row_of : TS3 := (vSeq rd_row_of_0 (vSeq rd_row_of_1 (vSeq rd_row_of_2 rd_row_of_3)))
abbrev N_right_knot : List Str := ["grammar", "name", "tree", "rule"]
def rd_right_knot_0 : TS3 :=
      (vIfS (vOr (vNot (vTruth (vCall sp_is_tree (aCons (vVar 2) aNil)))) (vNot (vTest (vChain rLe rLt (vC (.int 0)) (vOp rIx (vVar 2) (vC (.int 0))) (vCB rLen (aCons (vVar 0) aNil))))))
        (vRet (vC (.bl false)))
        vNext)
def rd_right_knot_1 : TS3 :=
      (vSet 3 (vOp rIx (vVar 0) (vOp rIx (vVar 2) (vC (.int 0)))))
def rd_right_knot_2 : TS3 :=
      (vIfS (vOr (vTest (vOp (rEq true) (vOp rIx (vVar 3) (vC (.int 0))) (vVar 1))) (vTest (vOp (rEq true) (vCB rLen (aCons (vOp rIx (vVar 3) (vC (.int 1))) aNil)) (vCB rLen (aCons (vOp rIx (vVar 2) (vC (.int 1))) aNil)))))
        (vRet (vC (.bl false)))
        vNext)
def rd_right_knot_3 : TS3 :=
      (vRet (vCB rAll (aCons (vFrz (vComp (iZip (aCons (vOp rIx (vVar 3) (vC (.int 1))) (aCons (vOp rIx (vVar 2) (vC (.int 1))) aNil))) (wTup 2 (wCons (wName 0) (wCons (wName 1) wNil))) vTrue (vOrV (vCall sp_is_name (aCons (vVar 0) aNil)) (vOp (rEq false) (vVar 1) (vVar 0))) [none, none])) aNil)))
def rd_right_knot : TS3 := (vSeq rd_right_knot_0 (vSeq rd_right_knot_1 (vSeq rd_right_knot_2 rd_right_knot_3)))
abbrev N_right_tree : List Str := ["grammar", "name", "tree", "waiting", "pair", "knot", "parts"]
def rd_right_tree_0 : TS3 :=
      (vSet 3 (vLst (aCons (vTup (aCons (vVar 1) (aCons (vVar 2) aNil))) aNil)))
def rd_right_tree_b1 : TS3 :=
      (vSeq (vSet 4 (vBM0 "list" rPop (vVar 3)))
      (vSeq (vIfS (vNot (vTruth (vCall sp_right_knot (aCons (vVar 0) (aCons (vOp rIx (vVar 4) (vC (.int 0))) (aCons (vOp rIx (vVar 4) (vC (.int 1))) aNil))))))
        (vRet (vC (.bl false)))
        vNext)
      (vSeq (vSet 5 (vOp rIx (vVar 4) (vC (.int 1))))
      (vSeq (vSet 6 (vOp rIx (vOp rIx (vVar 0) (vOp rIx (vVar 5) (vC (.int 0)))) (vC (.int 1))))
      (vDrop (vBM "list" rExt (vVar 3) (aCons (vFrz (vComp (iZip (aCons (vVar 6) (aCons (vOp rIx (vVar 5) (vC (.int 1))) aNil))) (wTup 2 (wCons (wName 0) (wCons (wName 1) wNil))) (vTruth (vCall sp_is_name (aCons (vVar 0) aNil))) (vTup (aCons (vVar 0) (aCons (vVar 1) aNil))) [none, none])) aNil)))))))
def rd_right_tree_1 : TS3 :=
      (vWhile (vTruth (vVar 3)) rd_right_tree_b1)
def rd_right_tree_2 : TS3 :=
      (vRet (vC (.bl true)))
def rd_right_tree : TS3 := (vSeq rd_right_tree_0 (vSeq rd_right_tree_1 rd_right_tree_2))
abbrev N_l_sizes : List Str := ["cell", "way", "few", "more"]
def rd_l_sizes_0 : TS3 :=
      (vAsg (vFrz (vCall sp_l_drawn (aCons (vVar 0) (aCons (vLstF (aCons (vC (.int 4)) (aCons (vC (.int 3)) (aCons (vC (.int 12)) aNil)))) aNil)))) (wTup 3 (wCons (wName 1) (wCons (wName 2) (wCons (wName 3) wNil)))))
def rd_l_sizes_1 : TS3 :=
      (vIfS (vTest (vOp (rEq false) (vVar 1) (vC (.int 3))))
        (vRet (vLstF (aCons (vOp rAddF (vC (.int 1)) (vVar 3)) (aCons (vC (.int 1)) aNil))))
        vNext)
def rd_l_sizes_2 : TS3 :=
      (vRet (vLstF (aCons (vOp rAddF (vC (.int 1)) (vVar 2)) (aCons (vC (.int 3)) aNil))))
def rd_l_sizes : TS3 := (vSeq rd_l_sizes_0 (vSeq rd_l_sizes_1 rd_l_sizes_2))
abbrev N_l_is_name : List Str := ["part"]
def rd_l_is_name : TS3 :=
      (vRet (vOp (rIn false) (vOp rIx (vVar 0) (vC (.int 0))) (vC (.str "ABCDEFGHIJKLMNOPQRSTUVWXYZ"))))
abbrev N_l_all_in : List Str := ["parts", "chosen"]
def rd_l_all_in : TS3 :=
      (vRet (vOp (rEq false) (vFrz (vComp (iIt rItN (vVar 0)) (wName 0) (vAnd (vTest (vOp (rIn true) (vVar 0) (vVar 1))) (vTruth (vCall sp_l_is_name (aCons (vVar 0) aNil)))) (vVar 0) [none, some 1])) (vLstF aNil)))
abbrev N_l_chosen : List Str := ["rules", "chosen", "k", "number", "name", "parts", "cost"]
def rd_l_chosen_0 : TS3 :=
      (vSet 1 vNewK)
def rd_l_chosen_b1 : TS3 :=
      (vFor (iR1 (aCons (vCB rLen (aCons (vVar 0) aNil)) aNil)) (wName 3)
        (vSeq (vAsg (vOp rIx (vVar 0) (vVar 3)) (wTup 3 (wCons (wName 4) (wCons (wName 5) (wCons (wName 6) wNil)))))
      (vIfS (vAnd (vTest (vOp (rIn true) (vVar 4) (vVar 1))) (vTruth (vCall sp_l_all_in (aCons (vVar 5) (aCons (vVar 1) aNil)))))
        (vAsg (vVar 3) (wSub (vVar 1) (vVar 4)))
        vNext)))
def rd_l_chosen_1 : TS3 :=
      (vFor (iR1 (aCons (vCB rLen (aCons (vVar 0) aNil)) aNil)) (wName 2) rd_l_chosen_b1)
def rd_l_chosen_2 : TS3 :=
      (vRet (vVar 1))
def rd_l_chosen : TS3 := (vSeq rd_l_chosen_0 (vSeq rd_l_chosen_1 rd_l_chosen_2))
abbrev N_l_grow : List Str := ["rules", "chosen", "name", "state", "number", "some", "k", "children", "part"]
def rd_l_grow_0 (sp_l_grow : Sp3) : TS3 :=
      (vSet 4 (vOp rIx (vVar 1) (vVar 2)))
def rd_l_grow_1 (sp_l_grow : Sp3) : TS3 :=
      (vIfS (vTest (vOp rLt (vOp rIx (vVar 3) (vC (.int 1))) (vC (.int 12))))
        (vSeq (vSet 5 (vLst aNil))
      (vSeq (vFor (iR1 (aCons (vCB rLen (aCons (vVar 0) aNil)) aNil)) (wName 6)
        (vIfS (vAnd (vTest (vOp (rEq false) (vOp rIx (vOp rIx (vVar 0) (vVar 6)) (vC (.int 0))) (vVar 2))) (vTruth (vCall sp_l_all_in (aCons (vOp rIx (vOp rIx (vVar 0) (vVar 6)) (vC (.int 1))) (aCons (vVar 1) aNil)))))
        (vDrop (vBM "list" rApp (vVar 5) (aCons (vVar 6) aNil)))
        vNext))
      (vSeq (vSet 4 (vOp rIx (vVar 5) (vOp rMod (vOp rIx (vVar 3) (vC (.int 0))) (vCB rLen (aCons (vVar 5) aNil)))))
      (vAsg (vOp rFdiv (vOp rIx (vVar 3) (vC (.int 0))) (vCB rLen (aCons (vVar 5) aNil))) (wSub (vVar 3) (vC (.int 0)))))))
        vNext)
def rd_l_grow_2 (sp_l_grow : Sp3) : TS3 :=
      (vAsg (vOp rAddF (vOp rIx (vVar 3) (vC (.int 1))) (vC (.int 1))) (wSub (vVar 3) (vC (.int 1))))
def rd_l_grow_3 (sp_l_grow : Sp3) : TS3 :=
      (vSet 7 (vLst aNil))
def rd_l_grow_b4 (sp_l_grow : Sp3) : TS3 :=
      (vIfS (vTruth (vCall sp_l_is_name (aCons (vVar 8) aNil)))
        (vDrop (vBM "list" rApp (vVar 7) (aCons (vCall sp_l_grow (aCons (vVar 0) (aCons (vVar 1) (aCons (vVar 8) (aCons (vVar 3) aNil))))) aNil)))
        (vDrop (vBM "list" rApp (vVar 7) (aCons (vVar 8) aNil))))
def rd_l_grow_4 (sp_l_grow : Sp3) : TS3 :=
      (vFor (iIt rItN (vOp rIx (vOp rIx (vVar 0) (vVar 4)) (vC (.int 1)))) (wName 8) (rd_l_grow_b4 sp_l_grow))
def rd_l_grow_5 (sp_l_grow : Sp3) : TS3 :=
      (vRet (vTup (aCons (vVar 4) (aCons (vCB rTuple (aCons (vVar 7) aNil)) aNil))))
def rd_l_grow (sp_l_grow : Sp3) : TS3 := (vSeq (rd_l_grow_0 sp_l_grow) (vSeq (rd_l_grow_1 sp_l_grow) (vSeq (rd_l_grow_2 sp_l_grow) (vSeq (rd_l_grow_3 sp_l_grow) (vSeq (rd_l_grow_4 sp_l_grow) (rd_l_grow_5 sp_l_grow))))))
abbrev N_l_number : List Str := ["cell"]
def rd_l_number : TS3 :=
      (vSeq (vIfS (vTest (vOp rGe (vVar 0) (vOp rPow (vC (.int 10)) (vC (.int 18)))))
        (vRet (vOp rSub (vVar 0) (vOp rPow (vC (.int 10)) (vC (.int 18)))))
        vNext)
      (vRet (vOp rAdd (vOp rMulF (vCall sp_l_stir (aCons (vVar 0) (aCons (vC (.int 1)) aNil))) (vOp rPow (vC (.int 10)) (vC (.int 60)))) (vCall sp_l_stir (aCons (vVar 0) (aCons (vC (.int 2)) aNil))))))
end Rg
set_option Elab.async false
set_option linter.all false
set_option maxRecDepth 100000
set_option maxHeartbeats 4000000
namespace Rg
open PySem PySem.Spec PyProof.Rows L2 L3
theorem len_is_tree : ∀ ws M R, sp_is_tree ws M R → ws.length = 1 := by rintro ws M R ⟨_, rfl, _⟩; rfl
theorem len_row_of : ∀ ws M R, sp_row_of ws M R → ws.length = 1 := by rintro ws M R ⟨_, rfl, _⟩; rfl
theorem len_right_knot : ∀ ws M R, sp_right_knot ws M R → ws.length = 3 := by rintro ws M R ⟨_, _, _, rfl, _⟩; rfl
theorem len_right_tree : ∀ ws M R, sp_right_tree ws M R → ws.length = 3 := by rintro ws M R ⟨_, _, _, rfl, _⟩; rfl
theorem len_l_sizes : ∀ ws M R, sp_l_sizes ws M R → ws.length = 1 := by rintro ws M R ⟨_, rfl, _⟩; rfl
theorem len_l_is_name : ∀ ws M R, sp_l_is_name ws M R → ws.length = 1 := by rintro ws M R ⟨_, rfl, _⟩; rfl
theorem len_l_all_in : ∀ ws M R, sp_l_all_in ws M R → ws.length = 2 := by rintro ws M R ⟨_, _, rfl | ⟨_, rfl, _⟩, _⟩ <;> rfl
theorem len_l_chosen : ∀ ws M R, sp_l_chosen ws M R → ws.length = 1 := by rintro ws M R ⟨_, rfl, _⟩; rfl
theorem len_l_grow : ∀ n ws M R, spr_l_grow n ws M R → ws.length = 4
  | 0, _, _, _, h => h.elim
  | n + 1, ws, M, R, h => by obtain ⟨_, _, _, _, _, _, _, _, _, rfl, _⟩ := h; rfl
theorem len_l_number : ∀ ws M R, sp_l_number ws M R → ws.length = 1 := by rintro ws M R ⟨_, rfl, _⟩; rfl
theorem good_is_tree {ws : List W} {M : Mm} {R : K3} (h : sp_is_tree ws M R) : rd_is_tree (ends3 R) (start3 N_is_tree ws) M := by
  obtain ⟨t, rfl, r⟩ := h
  show rd_is_tree (ends3 R) [some t.w] M
  cases t with
  | wd t => simp? only [rd_is_tree, Tr.w]; exact ⟨_, Sub.refl _, r⟩
  | nd n cs => simp? only [rd_is_tree, Tr.w]; exact ⟨_, Sub.refl _, r⟩
mutual
theorem row_len : ∀ t : Tr, t.row.length ≤ t.size
  | .wd _ => by simp [Tr.row, Tr.size]
  | .nd _ cs => by have := rows_len cs; simp only [Tr.row, Tr.size]; omega
theorem rows_len : ∀ cs : List Tr, (Tr.rows cs).length ≤ Tr.sizes cs
  | [] => by simp [Tr.rows, Tr.sizes]
  | c :: cs => by have := row_len c; have := rows_len cs; simp only [Tr.rows, Tr.sizes, List.length_append]; omega
end
theorem len_sizes : ∀ cs : List Tr, cs.length ≤ Tr.sizes cs
  | [] => by simp [Tr.sizes]
  | c :: cs => by have := len_sizes cs; have := size_pos c; simp [Tr.sizes]; omega
theorem good_row_of {ws : List W} {M : Mm} {R : K3} (h : sp_row_of ws M R) : rd_row_of (ends3 R) (start3 N_row_of ws) M := by
  obtain ⟨t, rfl, hz, r⟩ := h
  show rd_row_of (ends3 R) [some t.w, none, none, none] M
  simp? only [rd_row_of, rd_row_of_0, rd_row_of_1]
  intro p hp q hq
  have hpq : p ≠ q := fun e => by subst e; rw [put_same] at hq; cases hq
  have hqM : M q = none := by rw [put_ne (Ne.symm hpq)] at hq; exact hq
  -- waiting: the trees still to come, the next one last
  refine ⟨fun m τ M' => ∃ (done : List Str) (wait : List Tr) (o : Option W), τ = [some t.w, some (.ref p), some (.ref q), o] ∧ M' = put (put M p (.lst (done.map W.str))) q (.lst (wait.reverse.map Tr.w)) ∧ done ++ Tr.rows wait = t.row ∧ Tr.sizes wait = m ∧ done.length + Tr.sizes wait ≤ 100000,
    ⟨_, [], [t], none, rfl, by simp, by simp [Tr.rows], rfl, by simp [Tr.sizes]; exact hz⟩, ?_⟩
  rintro m τ M' ⟨done, wait, o, rfl, rfl, h1, h2, h3⟩
  simp? only [rd_row_of_2]
  cases wait with
  | nil =>
    simp? only [List.reverse_nil, List.isEmpty_nil]
    simp? only [rd_row_of_3]
    rw [Tr.rows, List.append_nil] at h1
    rw [h1]
    exact ⟨_, Sub.new (by rw [put_ne (Ne.symm hpq)]; exact hqM), r p hp⟩
  | cons c wait =>
    have e0 : (c :: wait).reverse.map Tr.w = wait.reverse.map Tr.w ++ [c.w] := by rw [List.reverse_cons, List.map_append]; rfl
    rw [e0, if_pos (by cases wait.reverse.map Tr.w <;> rfl)]
    rw [Tr.rows] at h1
    rw [Tr.sizes] at h2 h3
    have hs := size_pos c
    simp? only [rd_row_of_b2]
    refine ⟨_, _, rfl, c, rfl, ?_⟩
    cases c with
    | wd x =>
      rw [Tr.row] at h1
      rw [Tr.size] at h2 h3
      simp? only [Tr.isNd, Tr.w, put_ne hpq, put_swap hpq]
      refine ⟨by rw [List.length_map]; omega, _, _, ?_, Sub.refl _, done ++ [x], wait, _, rfl, by rw [List.map_append]; rfl, by rw [List.append_assoc]; exact h1, rfl, by rw [List.length_append]; simp; omega⟩
      omega
    | nd n cs =>
      rw [Tr.row] at h1
      rw [Tr.size] at h2 h3
      have hl := len_sizes cs
      have hl2 := len_sizes wait
      have e1 : wait.reverse.map Tr.w ++ (Tr.ws cs).reverse = (cs ++ wait).reverse.map Tr.w := by rw [ws_map, List.reverse_append, List.map_append, List.map_reverse (l := cs)]
      simp? only [Tr.isNd, Tr.w, L3.rListRevF.eq_1, L3.vListRevF]
      rw [e1]
      refine ⟨by rw [List.length_map, List.length_reverse, List.length_reverse, ws_map, List.length_map]; omega, _, _, ?_, Sub.refl _, done, cs ++ wait, _, rfl, rfl, by rw [rows_append]; exact h1, rfl, by rw [sizes_append]; omega⟩
      rw [sizes_append]; omega
theorem w_str {c : Tr} {p : Str} : c.w = .str p ↔ c = .wd p := by
  cases c with
  | wd x => simp [Tr.w]
  | nd n cs => simp [Tr.w]
def KnP : W → W → Prop := fun w y => ∃ (p : Str) (c : Tr) (v : Bool), w = .tup [.str p, c.w] ∧ y = .bl v ∧ (v = true ↔ (isNameB p = true ∨ c = .wd p))
mutual
theorem w_inj : ∀ {c d : Tr}, c.w = d.w → c = d
  | .wd t, .wd u, h => by simp [Tr.w] at h; rw [h]
  | .wd t, .nd n ds, h => by simp [Tr.w] at h
  | .nd n cs, .wd u, h => by simp [Tr.w] at h
  | .nd n cs, .nd m ds, h => by simp [Tr.w] at h; rw [h.1, ws_inj h.2]
theorem ws_inj : ∀ {cs ds : List Tr}, Tr.ws cs = Tr.ws ds → cs = ds
  | [], [], _ => rfl
  | [], d :: ds, h => by simp [Tr.ws] at h
  | c :: cs, [], h => by simp [Tr.ws] at h
  | c :: cs, d :: ds, h => by simp [Tr.ws] at h; rw [w_inj h.1, ws_inj h.2]
end
theorem kn_bools : ∀ {ps : List Str} {cs : List Tr} {ys : List W}, ps.length = cs.length → Paired KnP (zipW (ps.map W.str) (Tr.ws cs)) ys → ∃ bs, ys = bools bs ∧ (bs.all id = true ↔ Paired (fun p c => isNameB p = true ∨ c = Tr.wd p) ps cs)
  | [], [], ys, _, h => by
    simp [zipW, Tr.ws] at h
    cases h
    exact ⟨[], rfl, by simp; exact .nil⟩
  | [], _ :: _, _, e, _ => by simp at e
  | _ :: _, [], _, e, _ => by simp at e
  | p :: ps, c :: cs, ys, e, h => by
    rw [List.map_cons, Tr.ws, zipW] at h
    cases h with
    | cons a b =>
      obtain ⟨bs, rfl, hb⟩ := kn_bools (by simpa using e) b
      obtain ⟨p', c', v, e1, rfl, hv⟩ := a
      simp at e1
      obtain ⟨rfl, e1⟩ := e1
      cases w_inj e1
      refine ⟨v :: bs, rfl, ?_⟩
      rw [List.all_cons, Bool.and_eq_true, hb]
      constructor
      · rintro ⟨h1, h2⟩; exact .cons (hv.mp h1) h2
      · intro h; cases h with
        | cons h1 h2 => exact ⟨hv.mpr h1, h2⟩
theorem paired_len {α β : Type} {P : α → β → Prop} {xs : List α} {ys : List β} (h : Paired P xs ys) : xs.length = ys.length := Paired.length h
theorem zip_mem : ∀ {ps : List Str} {cs : List Tr} {w : W}, w ∈ zipW (ps.map W.str) (Tr.ws cs) → ∃ p ∈ ps, ∃ c ∈ cs, w = .tup [.str p, c.w]
  | [], cs, w, h => by simp [zipW] at h
  | p :: ps, [], w, h => by simp [zipW, Tr.ws] at h
  | p :: ps, c :: cs, w, h => by
    rw [List.map_cons, Tr.ws, zipW] at h
    rcases List.mem_cons.mp h with rfl | h
    · exact ⟨p, List.mem_cons_self, c, List.mem_cons_self, rfl⟩
    · obtain ⟨q, hq, d, hd, e⟩ := zip_mem h
      exact ⟨q, List.mem_cons_of_mem _ hq, d, List.mem_cons_of_mem _ hd, e⟩
theorem depth_mem : ∀ {cs : List Tr} {c : Tr}, c ∈ cs → c.depth ≤ Tr.depths cs
  | d :: cs, c, h => by
    rw [Tr.depths]
    rcases List.mem_cons.mp h with rfl | h
    · omega
    · have := depth_mem h; omega
theorem size_mem : ∀ {cs : List Tr} {c : Tr}, c ∈ cs → c.size ≤ Tr.sizes cs
  | d :: cs, c, h => by
    rw [Tr.sizes]
    rcases List.mem_cons.mp h with rfl | h
    · omega
    · have := size_mem h; omega
theorem zip_pair {P : Str → Tr → Prop} : ∀ {ps : List Str} {cs : List Tr} {p : Str} {c : Tr}, Paired P ps cs → W.tup [.str p, c.w] ∈ zipW (ps.map W.str) (Tr.ws cs) → P p c
  | _, _, _, _, .nil, h => by cases h
  | _, _, p, c, .cons a b, h => by
    rw [Tr.ws, List.map_cons] at h
    rcases List.mem_cons.mp h with e | h
    · simp only [W.tup.injEq, List.cons.injEq, W.str.injEq, and_true] at e
      rw [e.1, w_inj e.2]; exact a
    · exact zip_pair b h
theorem good_right_knot {ws : List W} {M : Mm} {R : K3} (h : sp_right_knot ws M R) : rd_right_knot (ends3 R) (start3 N_right_knot ws) M := by
  obtain ⟨rs, nm, t, rfl, hp, ho, hd, hz, r⟩ := h
  show rd_right_knot (ends3 R) [some (.rl (rs.map ruleW)), some (.str nm), some t.w, none] M
  have no : ¬ Kn rs nm t → ∃ M'', L3.Sub M'' M ∧ R (.bl false) M'' := fun hn => ⟨_, Sub.refl _, r false ⟨fun z => (nomatch z), fun z => absurd z hn⟩⟩
  simp? only [rd_right_knot, rd_right_knot_0]
  refine ⟨t, rfl, ?_⟩
  cases t with
  | wd x =>
    simp? only [Tr.isNd]
    exact no fun z => z
  | nd n cs =>
    simp? only [Tr.isNd, Tr.w, L3.vChain]
    by_cases h0 : 0 ≤ n
    · by_cases h1 : n < (rs.map ruleW).length
      · rw [List.length_map] at h1
        obtain ⟨x, ex, ex2, mx⟩ := atI_of (xs := rs.map ruleW) h0 (by rw [List.length_map]; exact h1)
        rw [List.getElem?_map] at ex2
        obtain ⟨q, hq, rfl⟩ := Option.map_eq_some_iff.mp ex2
        have hqm : q ∈ rs := List.mem_of_getElem? hq
        simp? only [h0, h1, List.length_map, not_true_eq_false]
        simp? only [rd_right_knot_1, rd_right_knot_2, ex, ruleW, Tr.w]
        have kn : ∀ (X : Prop), (Paired (fun p c => isNameB p = true ∨ c = Tr.wd p) q.parts cs ∧ q.name = nm ↔ X) → (Kn rs nm (.nd n cs) ↔ X) := fun X hX => by
          rw [← hX]
          constructor
          · rintro ⟨_, q', hq', e, pp⟩; rw [hq] at hq'; cases hq'; exact ⟨pp, e⟩
          · rintro ⟨pp, e⟩; exact ⟨h0, q, hq, e, pp⟩
        split
        · rename_i hne
          exact no fun z => hne ((kn _ Iff.rfl).mp z).2
        · rename_i hnm
          have hnm := Classical.not_not.mp hnm
          split
          · rename_i hlen
            refine no fun z => hlen ?_
            have := paired_len ((kn _ Iff.rfl).mp z).1
            rw [List.length_map, ws_map, List.length_map]; omega
          · rename_i hlen
            have hlen := Classical.not_not.mp hlen
            rw [List.length_map, ws_map, List.length_map] at hlen
            have hlen : q.parts.length = cs.length := by omega
            have hl2 := len_sizes cs
            rw [Tr.size] at hz
            rw [Tr.ok] at ho
            simp? only [rd_right_knot_3, L3.iZip, L3.rZip.eq_1]
            refine map2R (rest := []) KnP (fun w hw => ?_) (small (by rw [zipW_len, List.length_map, ws_map, List.length_map]; omega)) (fun _ _ => trivial) (fun a b hm M' C sb h1 => ?_) fun ys hys => New.frz ?_
            · obtain ⟨p, _, c, _, e⟩ := zip_mem hw; exact ⟨_, _, e⟩
            · obtain ⟨p, hpm, c, hcm, e⟩ := zip_mem hm
              simp at e
              obtain ⟨rfl, rfl⟩ := e
              have tk := tok (hp.pt q hqm p hpm)
              simp? only []
              refine ⟨p, rfl, tk.2, ?_⟩
              simp? only []
              split
              · rename_i hb; exact h1 _ ⟨p, c, true, rfl, rfl, by simp [hb]⟩
              · rename_i hb
                have hdc := depth_mem hcm
                have e1 : der M' c.w = c.w := by cases c <;> rfl
                have hpl : Pl 58 c.w := by
                  rcases hd with hd | hd
                  · rw [Tr.depth] at hd
                    exact Pl.mono (w_pl c (oks_mem ho c hcm)) (by omega)
                  · have ec : c = .wd p := ((zip_pair ((kn _ Iff.rfl).mp hd).1 hm).resolve_left hb)
                    exact Pl.mono (w_pl c (oks_mem ho c hcm)) (by rw [ec, Tr.depth]; omega)
                refine rEq_pl 58 (by decide) (by rw [e1]; exact hpl) tk.1 fun v hv => ?_
                refine h1 _ ⟨p, c, v, rfl, rfl, ?_⟩
                rw [hv, e1]
                show c.w = W.str p ↔ _
                rw [w_str]; simp [hb]
            · simp? only [L3.rAll.eq_2]
              obtain ⟨bs, e, hb⟩ := kn_bools hlen hys
              refine ⟨bs, e, _, Sub.refl _, r _ ?_⟩
              rw [hb, kn _ Iff.rfl]
              exact ⟨fun z => ⟨z, hnm⟩, fun z => z.1⟩
      · simp? only [h0, h1, not_false_eq_true]
        refine no fun z => ?_
        obtain ⟨_, q', hq', _⟩ := z
        have := (List.getElem?_eq_some_iff.mp hq').1
        rw [List.length_map] at h1
        omega
    · simp? only [h0, not_false_eq_true]
      exact no fun z => h0 z.1
theorem rts_names {rs : List Rule} : ∀ {ps : List Str} {cs : List Tr}, Paired (fun p c => isNameB p = true ∨ c = Tr.wd p) ps cs → (Rts rs ps cs ↔ ∀ x ∈ (ps.zip cs).filter (fun x => isNameB x.1), Rt rs x.1 x.2)
  | [], [], _ => by simp; exact .nil
  | p :: ps, c :: cs, .cons a b => by
    have ih := rts_names (rs := rs) b
    by_cases hp : isNameB p = true
    · rw [List.zip_cons_cons, List.filter_cons, if_pos hp]
      constructor
      · intro h
        cases h with
        | word h1 _ => rw [hp] at h1; cases h1
        | name _ h2 h3 =>
          intro x hx
          rcases List.mem_cons.mp hx with rfl | hx
          · exact h2
          · exact ih.mp h3 x hx
      · intro h
        exact .name hp (h (p, c) List.mem_cons_self) (ih.mpr fun x hx => h x (List.mem_cons_of_mem _ hx))
    · have hp : isNameB p = false := by simpa using hp
      rw [List.zip_cons_cons, List.filter_cons, if_neg (by simp [hp])]
      rcases a with a | rfl
      · rw [hp] at a; cases a
      · constructor
        · intro h
          cases h with
          | word _ h2 => exact ih.mp h2
          | name h1 _ _ => rw [hp] at h1; cases h1
        · intro h; exact .word hp (ih.mpr h)
theorem rts_paired {rs : List Rule} : ∀ {ps : List Str} {cs : List Tr}, Rts rs ps cs → Paired (fun p c => isNameB p = true ∨ c = Tr.wd p) ps cs
  | _, _, .nil => .nil
  | _, _, .word _ h => .cons (.inr rfl) (rts_paired h)
  | _, _, .name hp _ h => .cons (.inl hp) (rts_paired h)
theorem rt_inv {rs : List Rule} {nm : Str} {t : Tr} (h : Rt rs nm t) : ∃ n cs r, t = .nd n cs ∧ 0 ≤ n ∧ rs[n.toNat]? = some r ∧ r.name = nm ∧ Rts rs r.parts cs := by
  cases h with
  | mk h0 hq hr => exact ⟨_, _, _, rfl, h0, hq, rfl, hr⟩
theorem rt_kn {rs : List Rule} {nm : Str} {t : Tr} (h : Rt rs nm t) : Kn rs nm t := by
  cases h with
  | mk h0 hq hr => exact ⟨h0, _, hq, rfl, rts_paired hr⟩
def prW (x : Str × Tr) : W := .tup [.str x.1, x.2.w]
def prSize (l : List (Str × Tr)) : Nat := (l.map fun x => x.2.size).sum
theorem prSize_app (a b : List (Str × Tr)) : prSize (a ++ b) = prSize a + prSize b := by unfold prSize; simp
theorem prSize_zip : ∀ (ps : List Str) (cs : List Tr), prSize ((ps.zip cs).filter fun x => isNameB x.1) ≤ Tr.sizes cs
  | [], cs => by simp [prSize]
  | _ :: _, [] => by simp [prSize]
  | p :: ps, c :: cs => by
    have ih := prSize_zip ps cs
    rw [List.zip_cons_cons, List.filter_cons, Tr.sizes]
    split
    · have : prSize ((p, c) :: (ps.zip cs).filter fun x => isNameB x.1) = c.size + prSize ((ps.zip cs).filter fun x => isNameB x.1) := by simp [prSize]
      omega
    · omega
theorem prSize_len : ∀ l : List (Str × Tr), l.length ≤ prSize l
  | [] => by simp [prSize]
  | x :: l => by
    have := prSize_len l
    have := size_pos x.2
    have e : prSize (x :: l) = x.2.size + prSize l := by simp [prSize]
    rw [List.length_cons]; omega
def TrP : W → Option W → Prop := fun w o => ∃ (p : Str) (c : Tr), w = .tup [.str p, c.w] ∧ o = if isNameB p = true then some (prW (p, c)) else none
theorem trp_list : ∀ {ps : List Str} {cs : List Tr} {os : List (Option W)}, Paired TrP (zipW (ps.map W.str) (Tr.ws cs)) os → os.filterMap id = ((ps.zip cs).filter fun x => isNameB x.1).map prW
  | [], cs, os, h => by simp [zipW] at h; cases h; rfl
  | _ :: _, [], os, h => by simp [zipW, Tr.ws] at h; cases h; rfl
  | p :: ps, c :: cs, os, h => by
    rw [List.map_cons, Tr.ws, zipW] at h
    cases h with
    | cons a b =>
      obtain ⟨p', c', e1, rfl⟩ := a
      simp at e1
      obtain ⟨rfl, e1⟩ := e1
      cases w_inj e1
      rw [List.zip_cons_cons, List.filter_cons]
      by_cases hp : isNameB p = true
      · rw [if_pos hp, if_pos hp, List.map_cons, ← trp_list b]; rfl
      · rw [if_neg hp, if_neg hp, ← trp_list b]; rfl
theorem good_right_tree {ws : List W} {M : Mm} {R : K3} (h : sp_right_tree ws M R) : rd_right_tree (ends3 R) (start3 N_right_tree ws) M := by
  obtain ⟨rs, nm, t, rfl, hp, ho, hd, hz, r⟩ := h
  show rd_right_tree (ends3 R) [some (.rl (rs.map ruleW)), some (.str nm), some t.w, none, none, none, none] M
  simp? only [rd_right_tree, rd_right_tree_0]
  intro q hq
  refine ⟨fun m τ M' => ∃ (l : List (Str × Tr)) (o4 o5 o6 : Option W), τ = [some (.rl (rs.map ruleW)), some (.str nm), some t.w, some (.ref q), o4, o5, o6] ∧ M' = put M q (.lst (l.map prW)) ∧ prSize l = m ∧ m ≤ 100000 ∧ (∀ x ∈ l, x.2.ok ∧ (x.2.depth ≤ 29 ∨ Rt rs nm t)) ∧ ((∀ x ∈ l, Rt rs x.1 x.2) ↔ Rt rs nm t),
    ⟨_, [(nm, t)], none, none, none, rfl, rfl, rfl, by simp [prSize]; exact hz, by simp; exact ⟨ho, hd⟩, by simp⟩, ?_⟩
  rintro m τ M' ⟨l, o4, o5, o6, rfl, rfl, h1, h2, h3, h4⟩
  simp? only [rd_right_tree_1]
  rcases List.eq_nil_or_concat l with rfl | ⟨l, x, rfl⟩
  · simp? only [List.map_nil, List.isEmpty_nil]
    simp? only [rd_right_tree_2]
    exact ⟨_, Sub.new hq, r true (by simp at h4; simp [h4])⟩
  · obtain ⟨pn, c⟩ := x
    simp only [List.concat_eq_append] at h1 h3 h4 ⊢
    rw [List.map_append, if_pos (by cases l.map prW <;> rfl)]
    rw [prSize_app] at h1
    have ec : prSize [(pn, c)] = c.size := by simp [prSize]
    rw [ec] at h1
    have hc := h3 (pn, c) (by simp)
    have hcs := size_pos c
    have hll := prSize_len l
    have hfalse : ∀ M', ¬ Rt rs nm t → L3.Sub M M' → ∃ M'', L3.Sub M'' M' ∧ R (.bl false) M'' := fun M' hn sb => ⟨_, sb, r false ⟨fun z => (nomatch z), fun z => absurd z hn⟩⟩
    simp? only [rd_right_tree_b1, List.map_cons, List.map_nil, prW]
    refine ⟨_, _, rfl, ?_⟩
    simp? only []
    refine ⟨rs, pn, c, rfl, hp, hc.1, hc.2.imp id (fun z => rt_kn (h4.mpr z (pn, c) (by simp))), by omega, fun b hb => ?_⟩
    simp? only []
    cases b with
    | false =>
      rw [if_pos rfl]
      refine hfalse _ (fun z => ?_) (Sub.new hq)
      have := rt_kn (h4.mpr z (pn, c) (by simp))
      exact absurd (hb.mpr this) (by simp)
    | true =>
      rw [if_neg (by simp)]
      have kn := hb.mp rfl
      cases c with
      | wd x => exact kn.elim
      | nd n cs =>
        obtain ⟨h0, r1, hr1, hnm, pp⟩ := kn
        have hlt := (List.getElem?_eq_some_iff.mp hr1).1
        have ea : atI (rs.map ruleW) n = some (ruleW r1) := by
          obtain ⟨x, ex, ex2, _⟩ := atI_of (xs := rs.map ruleW) h0 (by rw [List.length_map]; omega)
          rw [List.getElem?_map, hr1] at ex2
          cases ex2; exact ex
        have hrm : r1 ∈ rs := List.mem_of_getElem? hr1
        rw [Tr.size] at h1
        have hdd := hc.2
        have hoo := hc.1
        rw [Tr.ok] at hoo
        have hl2 := len_sizes cs
        have hsz := prSize_zip r1.parts cs
        simp? only [Tr.w, ea, ruleW, L3.iZip, L3.rZip.eq_1]
        refine filt2R (rest := []) TrP (fun w hw => ?_) (small (by rw [zipW_len, List.length_map, ws_map, List.length_map]; omega)) (fun _ _ => trivial) (fun a b hm M' C D sb h1 h2 => ?_) fun os hos => New.frz ?_
        · obtain ⟨p, _, c, _, e⟩ := zip_mem hw; exact ⟨_, _, e⟩
        · obtain ⟨p, hpm, c, hcm, e⟩ := zip_mem hm
          simp at e
          obtain ⟨rfl, rfl⟩ := e
          have tk := tok (hp.pt r1 hrm p hpm)
          simp? only []
          refine ⟨p, rfl, tk.2, ?_⟩
          simp? only []
          split
          · rename_i hbn; exact h1 _ ⟨p, c, rfl, by rw [if_pos hbn]; rfl⟩
          · rename_i hbn; exact h2 ⟨p, c, rfl, by rw [if_neg hbn]⟩
        · rw [trp_list hos]
          simp? only []
          have hzl := prSize_len ((r1.parts.zip cs).filter fun x => isNameB x.1)
          refine ⟨by rw [List.length_map, List.length_map]; omega, _, _, ?_, Sub.refl _, l ++ (r1.parts.zip cs).filter (fun x => isNameB x.1), _, _, _, rfl, by rw [List.map_append], rfl, by rw [prSize_app]; omega, fun x hx => ?_, ?_⟩
          · rw [prSize_app]; omega
          · rcases List.mem_append.mp hx with hx | hx
            · exact h3 x (List.mem_append_left _ hx)
            · have hm := (List.mem_filter.mp hx).1
              have hm2 : x.2 ∈ cs := (List.of_mem_zip hm).2
              have := depth_mem hm2
              exact ⟨oks_mem hoo _ hm2, hdd.imp (fun hdd => by rw [Tr.depth] at hdd; omega) id⟩
          · rw [← h4]
            have := rts_names (rs := rs) pp
            constructor
            · intro h x hx
              rcases List.mem_append.mp hx with hx | hx
              · exact h x (List.mem_append_left _ hx)
              · rw [List.mem_singleton.mp hx, ← hnm]
                exact .mk h0 hr1 (this.mpr fun y hy => h y (List.mem_append_right _ hy))
            · intro h x hx
              rcases List.mem_append.mp hx with hx | hx
              · exact h x (List.mem_append_left _ hx)
              · have hk := h (pn, .nd n cs) (by simp)
                obtain ⟨n', cs', r2, e, _, g, _, hrts⟩ := rt_inv hk
                cases e
                rw [hr1] at g; cases g
                exact this.mp hrts x hx
mutual
theorem row_ok : ∀ t : Tr, t.ok → ∀ x ∈ t.row, sOk x
  | .wd t, h, x, hx => by
    rw [Tr.row] at hx
    rw [Tr.ok] at h
    rw [List.mem_singleton.mp hx]; exact h.1
  | .nd n cs, h, x, hx => by
    rw [Tr.row] at hx
    rw [Tr.ok] at h
    exact rows_ok cs h x hx
theorem rows_ok : ∀ cs : List Tr, Tr.oks cs → ∀ x ∈ Tr.rows cs, sOk x
  | [], _, x, hx => by rw [Tr.rows] at hx; cases hx
  | c :: cs, h, x, hx => by
    rw [Tr.rows] at hx
    rw [Tr.oks] at h
    rcases List.mem_append.mp hx with hx | hx
    · exact row_ok c h.1 x hx
    · exact rows_ok cs h.2 x hx
end
theorem good_l_sizes {ws : List W} {M : Mm} {R : K3} (h : sp_l_sizes ws M R) : rd_l_sizes (ends3 R) (start3 N_l_sizes ws) M := by
  obtain ⟨c, rfl, r⟩ := h
  show rd_l_sizes (ends3 R) [some (.int c), none, none, none] M
  simp? only [rd_l_sizes, rd_l_sizes_0]
  refine ⟨c, [4, 3, 12], rfl, by decide, fun s hs => ?_, fun ds hd => New.frz ?_⟩
  · simp at hs; rcases hs with rfl | rfl | rfl <;> exact ⟨by decide, by decide⟩
  · obtain ⟨x1, x2, x3, rfl, b1, b2, b3⟩ : ∃ x1 x2 x3, ds = [x1, x2, x3] ∧ Below x1 4 ∧ Below x2 3 ∧ Below x3 12 := by
      cases hd with
      | cons a r => cases r with
        | cons b r => cases r with
          | cons c r => cases r; exact ⟨_, _, _, rfl, a, b, c⟩
    obtain ⟨b20, b21⟩ := b2
    obtain ⟨b30, b31⟩ := b3
    simp? only [rd_l_sizes_1, rd_l_sizes_2]
    split
    · exact ⟨_, Sub.refl _, r _ _ (.inr ⟨by omega, by omega, rfl⟩)⟩
    · exact ⟨_, Sub.refl _, r _ _ (.inl ⟨by omega, by omega, rfl⟩)⟩
theorem great_name {p : Str} (h : HeadT p ∨ WordT p) : ∃ c rest, cs p = c :: rest ∧ decide (c ∈ cs GREAT) = isNameB p := by
  rcases h with h | h
  · obtain ⟨c, r, e, m⟩ := h.hd
    exact ⟨c, r, e, by rw [h.nm]; exact decide_eq_true m⟩
  · cases e : cs p with
    | nil => exact absurd e h.ne
    | cons c r =>
      refine ⟨c, r, rfl, ?_⟩
      rw [h.nm]
      have : c ∈ cs SMALL := h.sm c (by rw [e]; exact List.mem_cons_self)
      have key : ∀ c ∈ cs SMALL, c ∉ cs GREAT := by decide +kernel
      exact decide_eq_false (key c this)
theorem good_l_is_name {ws : List W} {M : Mm} {R : K3} (h : sp_l_is_name ws M R) : rd_l_is_name (ends3 R) (start3 N_l_is_name ws) M := by
  obtain ⟨p, rfl, hp, r⟩ := h
  show rd_l_is_name (ends3 R) [some (.str p)] M
  obtain ⟨c, rest, e, hc⟩ := great_name hp
  simp? only [rd_l_is_name]
  refine ⟨Nat.le_trans (tok hp).2 (by decide), c, ?_, ?_⟩
  · have : p.cps.toList = c :: rest := e
    rw [this]; exact atI0 _ _
  · simp? only [L3.rIn]
    rw [occ_one, hc]
    exact ⟨_, Sub.refl _, r⟩
end Rg
set_option Elab.async false
set_option linter.all false
set_option maxRecDepth 100000
set_option maxHeartbeats 4000000
namespace Rg
open PySem PySem.Spec PyProof.Rows L2 L3
theorem look_ch : ∀ {ch : List (Str × Nat)} {p : Str}, lookW (chW ch) (Sum.inr p : Key) = ((ch.find? fun e => decide (e.1 = p)).map fun e => W.int (e.2 : Nat))
  | [], _ => rfl
  | e :: ch, p => by
    unfold lookW chW
    rw [List.map_cons, List.find?_cons, List.find?_cons]
    by_cases h : e.1 = p
    · simp [h]
    · have h2 : ¬ (Sum.inr e.1 : Key) = Sum.inr p := fun z => h (by cases z; rfl)
      rw [decide_eq_false h2, decide_eq_false h]
      exact look_ch (ch := ch)
theorem look_some {ch : List (Str × Nat)} {p : Str} : (lookW (chW ch) (Sum.inr p : Key)).isSome = decide (p ∈ ch.map Prod.fst) := by
  rw [look_ch, Bool.eq_iff_iff]
  simp [List.find?_isSome]
theorem good_l_all_in {ws : List W} {M : Mm} {R : K3} (h : sp_l_all_in ws M R) : rd_l_all_in (ends3 R) (start3 N_l_all_in ws) M := by
  obtain ⟨ps, ch, e, hp, hl, r⟩ := h
  have key : ∀ (dw : W), (∀ (M' : Mm) (x : Str) (R' : K3), Sub M M' → R' (.bl (!(lookW (chW ch) (Sum.inr x : Key)).isSome)) M' → rIn true (.str x) dw M' R') →
      rd_l_all_in (ends3 R) [some (.tup (ps.map W.str)), some dw] M := by
    intro dw hin
    simp? only [rd_l_all_in]
    refine filt1 (rest := [some dw]) (fun w => match w with | .str p => if isNameB p = true ∧ p ∉ ch.map Prod.fst then some (.str p) else none | _ => none) (small (by rw [List.length_map]; omega)) (fun _ _ => trivial) (fun w hw M' C D sb h1 h2 => ?_) (New.frz ?_)
    · obtain ⟨p, hpm, rfl⟩ := List.mem_map.mp hw
      have hpp := hp p hpm
      simp? only [] at h1 h2 ⊢
      refine hin M' p _ sb ⟨_, rfl, ?_⟩
      rw [look_some]
      by_cases hm : p ∈ ch.map Prod.fst
      · rw [if_neg (by simp [hm])]
        exact h2 (by rw [if_neg (fun z => z.2 hm)])
      · rw [if_pos (by simp [hm])]
        refine ⟨p, rfl, hpp, ?_⟩
        simp? only []
        by_cases hn : isNameB p = true
        · rw [if_pos hn]; exact h1 _ (by rw [if_pos ⟨hn, hm⟩])
        · rw [if_neg hn]; exact h2 (by rw [if_neg (fun z => hn z.1)])
    · refine rEq_pl 2 (by decide) (fun w hw => ?_) (fun w hw => ?_) fun b hb => ⟨_, Sub.refl _, r b ?_⟩
      · obtain ⟨z, hz, e⟩ := List.mem_filterMap.mp hw
        obtain ⟨p, hpm, rfl⟩ := List.mem_map.mp hz
        simp only at e
        split at e
        · cases e; exact (tok (hp p hpm)).1
        · cases e
      · simp at hw
      · rw [hb]
        show W.rl _ = W.rl [] ↔ _
        simp only [W.rl.injEq, List.filterMap_eq_nil_iff]
        constructor
        · intro h p hpm hn
          have := h (.str p) (List.mem_map_of_mem hpm)
          simp only at this
          exact Classical.byContradiction fun hm => by rw [if_pos ⟨hn, hm⟩] at this; cases this
        · intro h w hw
          obtain ⟨p, hpm, rfl⟩ := List.mem_map.mp hw
          simp only
          rw [if_neg fun z => z.2 (h p hpm z.1)]
  rcases e with rfl | ⟨a, rfl, ha⟩
  · exact key _ fun M' x R' _ h => ⟨_, ⟨.inr x, rfl, rfl⟩, h⟩
  · exact key _ fun M' x R' sb h => .inr ⟨_, .inl ⟨_, .inr x, sb _ _ ha, rfl, rfl⟩, h⟩
theorem good_l_number {ws : List W} {M : Mm} {R : K3} (h : sp_l_number ws M R) : rd_l_number (ends3 R) (start3 N_l_number ws) M := by
  obtain ⟨c, rfl, r⟩ := h
  show rd_l_number (ends3 R) [some (.int c)] M
  simp? only [rd_l_number]
  refine ⟨⟨by decide, by decide, by decide⟩, ?_⟩
  split
  · exact ⟨⟨by decide, by decide, by decide⟩, _, Sub.refl _, r _⟩
  · refine ⟨c, 1, rfl, by decide, by decide, fun z h0 h1 => ⟨⟨by decide, by decide, by decide⟩, ?_⟩⟩
    simp? only []
    refine ⟨.inr ⟨?_, by decide⟩, c, 2, rfl, by decide, by decide, fun z2 _ _ => ?_⟩
    · have : z.natAbs < 2 ^ 250 := by
        have h2 : z < 2 ^ 250 := Int.lt_trans h1 (by decide)
        omega
      exact lt_pow this (by decide)
    · simp? only []
      exact ⟨_, Sub.refl _, r _⟩
theorem putW_new {ch : List (Str × Nat)} {nm : Str} {k : Nat} (h : nm ∉ ch.map Prod.fst) : putW (chW ch) (Sum.inr nm : Key) (.int (k : Nat)) = chW (ch ++ [(nm, k)]) := by
  unfold putW
  have : ((chW ch).any fun kv => decide (kv.1 = (Sum.inr nm : Key))) = false := by
    rw [List.any_eq_false]
    intro x hx
    obtain ⟨e, he, rfl⟩ := List.mem_map.mp hx
    simp
    intro z
    exact h (List.mem_map.mpr ⟨e, he, by cases z; rfl⟩)
  rw [if_neg (by rw [this]; simp)]
  unfold chW
  rw [List.map_append]; rfl
theorem Chosen.add {rs : List Rule} {ch : List (Str × Nat)} {k : Nat} {r : Rule} (h : Chosen rs ch) (hr : rs[k]? = some r) (hn : r.name ∉ ch.map Prod.fst) (ha : ∀ p ∈ r.parts, isNameB p = true → p ∈ ch.map Prod.fst) : Chosen rs (ch ++ [(r.name, k)]) where
  nd := by
    rw [List.map_append, List.nodup_append]
    refine ⟨h.nd, by simp, fun a ha b hb => ?_⟩
    simp at hb
    intro e
    subst e
    subst hb
    exact hn ha
  at_ := fun i nm k' hi => by
    rcases Nat.lt_trichotomy i ch.length with hlt | heq | hgt
    · rw [List.getElem?_append_left hlt] at hi
      obtain ⟨q, h1, h2, h3⟩ := h.at_ i nm k' hi
      refine ⟨q, h1, h2, fun p hp hpn => ?_⟩
      rw [List.take_append_of_le_length (Nat.le_of_lt hlt)]
      exact h3 p hp hpn
    · subst heq
      rw [List.getElem?_append_right (Nat.le_refl _)] at hi
      simp at hi
      obtain ⟨rfl, rfl⟩ := hi
      refine ⟨r, hr, rfl, fun p hp hpn => ?_⟩
      rw [List.take_left']
      · exact ha p hp hpn
      · rfl
    · rw [List.getElem?_append_right (by omega)] at hi
      have : (ch ++ [(r.name, k)])[i]? = none := by rw [List.getElem?_eq_none]; simp; omega
      rw [List.getElem?_append_right (by omega), hi] at this
      cases this
theorem nodup_len {α : Type} [DecidableEq α] : ∀ {l m : List α}, l.Nodup → (∀ x ∈ l, x ∈ m) → l.length ≤ m.length
  | [], _, _, _ => Nat.zero_le _
  | x :: l, m, hn, hs => by
    rw [List.nodup_cons] at hn
    have hx := hs x List.mem_cons_self
    have ih := nodup_len (l := l) (m := m.erase x) hn.2 fun y hy => (List.mem_erase_of_ne (fun e => hn.1 (by rw [← e]; exact hy))).mpr (hs y (List.mem_cons_of_mem _ hy))
    rw [List.length_erase_of_mem hx] at ih
    have := List.length_pos_of_mem hx
    rw [List.length_cons]; omega
theorem Chosen.name {rs : List Rule} {ch : List (Str × Nat)} (h : Chosen rs ch) {nm : Str} (hm : nm ∈ ch.map Prod.fst) : ∃ r ∈ rs, r.name = nm := by
  obtain ⟨e, he, rfl⟩ := List.mem_map.mp hm
  obtain ⟨i, hi, rfl⟩ := List.mem_iff_getElem.mp he
  obtain ⟨r, h1, h2, _⟩ := h.at_ i _ _ (List.getElem?_eq_getElem hi)
  exact ⟨r, List.mem_of_getElem? h1, h2⟩
theorem Chosen.len {rs : List Rule} {ch : List (Str × Nat)} (h : Chosen rs ch) : ch.length ≤ rs.length := by
  have := nodup_len (m := rs.map Rule.name) h.nd fun x hx => by obtain ⟨r, hr, e⟩ := h.name hx; exact List.mem_map.mpr ⟨r, hr, e⟩
  rw [List.length_map, List.length_map] at this
  exact this
theorem good_l_chosen {ws : List W} {M : Mm} {R : K3} (h : sp_l_chosen ws M R) : rd_l_chosen (ends3 R) (start3 N_l_chosen ws) M := by
  obtain ⟨rs, rfl, hp, hpl, r⟩ := h
  show rd_l_chosen (ends3 R) [some (.rl (rs.map ruleW)), none, none, none, none, none, none] M
  have hf := hp.few
  simp? only [rd_l_chosen, rd_l_chosen_0, rd_l_chosen_1]
  intro q hq
  refine ⟨_, rfl, by rw [List.length_map]; omega, by rw [List.length_map]; omega, ?_⟩
  refine for3 (fun i τ M' => ∃ (ch : List (Str × Nat)) (o2 o3 o4 o5 o6 : Option W), τ = [some (.rl (rs.map ruleW)), some (.ref q), o2, o3, o4, o5, o6] ∧ M' = put M q (.dK (chW ch)) ∧ Chosen rs ch) ⟨[], _, _, _, _, _, rfl, rfl, ⟨by simp, by simp⟩⟩ (fun _ _ _ _ _ => trivial) ?_ ?_
  · rintro i w τ M' _ ⟨ch, o2, o3, o4, o5, o6, rfl, rfl, hch⟩
    simp? only [rd_l_chosen_b1]
    refine ⟨_, rfl, by rw [List.length_map]; omega, by rw [List.length_map]; omega, ?_⟩
    refine for3 (fun j τ M' => ∃ (ch : List (Str × Nat)) (o3 o4 o5 o6 : Option W), τ = [some (.rl (rs.map ruleW)), some (.ref q), some w, o3, o4, o5, o6] ∧ M' = put M q (.dK (chW ch)) ∧ Chosen rs ch) ⟨ch, _, _, _, _, rfl, rfl, hch⟩ (fun _ _ _ _ _ => trivial) ?_ ?_
    · rintro j w2 τ M' hw2 ⟨ch, o3, o4, o5, o6, rfl, rfl, hch⟩
      obtain ⟨hj, rfl⟩ := rangeW_get hw2
      rw [List.length_map, Int.toNat_natCast] at hj
      rw [Int.zero_add]
      obtain ⟨q1, hq1⟩ : ∃ q1, rs[j]? = some q1 := ⟨_, List.getElem?_eq_getElem hj⟩
      have hqm : q1 ∈ rs := List.mem_of_getElem? hq1
      have ea : atI (rs.map ruleW) (j : Int) = some (ruleW q1) := atI_nat (by rw [List.getElem?_map, hq1]; rfl)
      have hcl := hch.len
      simp? only [ea, ruleW, L3.rIn.eq_4]
      have stay : ∀ M', M' = put M q (.dK (chW ch)) → ∃ M'', L3.Sub M'' M' ∧ ∃ (ch : List (Str × Nat)) (o3 o4 o5 o6 : Option W), [some (W.rl (rs.map ruleW)), some (.ref q), some w, some (.int (j : Int)), some (.str q1.name), some (.tup (q1.parts.map W.str)), some (.int q1.cost)] = [some (.rl (rs.map ruleW)), some (.ref q), some w, o3, o4, o5, o6] ∧ M'' = put M q (.dK (chW ch)) ∧ Chosen rs ch := by
        rintro M' rfl
        exact ⟨_, Sub.refl _, ch, _, _, _, _, rfl, rfl, hch⟩
      refine ⟨_, .inl ⟨_, .inr q1.name, put_same, rfl, rfl⟩, ?_⟩
      rw [look_some]
      by_cases hm : q1.name ∈ ch.map Prod.fst
      · rw [if_neg (by simp [hm])]
        exact stay _ rfl
      · rw [if_pos (by simp [hm])]
        refine ⟨q1.parts, ch, .inr ⟨q, rfl, put_same⟩, hp.pt q1 hqm, hpl q1 hqm, fun b hb => ?_⟩
        simp? only []
        cases b with
        | false => rw [if_neg (by simp)]; exact stay _ rfl
        | true =>
          rw [if_pos rfl]
          refine setK_str put_same (by unfold chW; rw [List.length_map]; exact smallT (by omega)) ⟨_, Sub.refl _, ch ++ [(q1.name, j)], _, _, _, _, rfl, ?_, hch.add hq1 hm (hb.mp rfl)⟩
          rw [put_put, putW_new hm]
    · rintro τ M' ⟨ch, o3, o4, o5, o6, rfl, rfl, hch⟩
      exact ⟨_, Sub.refl _, ch, _, _, _, _, _, rfl, rfl, hch⟩
  · rintro τ M' ⟨ch, o2, o3, o4, o5, o6, rfl, rfl, hch⟩
    simp? only [rd_l_chosen_2]
    exact ⟨_, Sub.refl _, r ch hch q hq⟩
end Rg
set_option Elab.async false
set_option linter.all false
set_option maxRecDepth 100000
set_option maxHeartbeats 4000000
namespace Rg
open PySem PySem.Spec PyProof.Rows L2 L3
theorem find_at : ∀ {ch : List (Str × Nat)} {i : Nat} {nm : Str} {k : Nat}, (ch.map Prod.fst).Nodup → ch[i]? = some (nm, k) → ch.find? (fun e => decide (e.1 = nm)) = some (nm, k)
  | [], _, _, _, _, h => by simp at h
  | e :: ch, 0, nm, k, _, h => by simp at h; subst h; simp
  | e :: ch, i + 1, nm, k, hn, h => by
    rw [List.map_cons, List.nodup_cons] at hn
    have h' : ch[i]? = some (nm, k) := by simpa using h
    have hm : nm ∈ ch.map Prod.fst := List.mem_map.mpr ⟨_, List.mem_of_getElem? h', rfl⟩
    rw [List.find?_cons, decide_eq_false (fun z => hn.1 (by rw [z]; exact hm))]
    exact find_at hn.2 h'
theorem look_at {rs : List Rule} {ch : List (Str × Nat)} {i : Nat} {nm : Str} {k : Nat} (h : Chosen rs ch) (hi : ch[i]? = some (nm, k)) : lookW (chW ch) (Sum.inr nm : Key) = some (.int (k : Nat)) := by
  rw [look_ch, find_at h.nd hi]; rfl
theorem rank_of {ch : List (Str × Nat)} {p : Str} {m : Nat} (h : p ∈ (ch.take m).map Prod.fst) : ∃ i k, ch[i]? = some (p, k) ∧ i < m := by
  obtain ⟨e, he, rfl⟩ := List.mem_map.mp h
  obtain ⟨i, hi, hh⟩ := List.mem_iff_getElem.mp he
  have h2 : (ch.take m)[i]? = some e := by rw [List.getElem?_eq_getElem hi, hh]
  rw [List.length_take] at hi
  rw [List.getElem?_take_of_lt (by omega)] at h2
  exact ⟨i, e.2, h2, by omega⟩
theorem rts_snoc_word {rs : List Rule} {p : Str} (hp : isNameB p = false) : ∀ {ps : List Str} {cs : List Tr}, Rts rs ps cs → Rts rs (ps ++ [p]) (cs ++ [.wd p])
  | _, _, .nil => .word hp .nil
  | _, _, .word h t => .word h (rts_snoc_word hp t)
  | _, _, .name h c t => .name h c (rts_snoc_word hp t)
theorem rts_snoc_name {rs : List Rule} {p : Str} {c : Tr} (hp : isNameB p = true) (hc : Rt rs p c) : ∀ {ps : List Str} {cs : List Tr}, Rts rs ps cs → Rts rs (ps ++ [p]) (cs ++ [c])
  | _, _, .nil => .name hp hc .nil
  | _, _, .word h t => .word h (rts_snoc_name hp hc t)
  | _, _, .name h d t => .name h d (rts_snoc_name hp hc t)
theorem depths_snoc : ∀ (cs : List Tr) (c : Tr), Tr.depths (cs ++ [c]) = max (Tr.depths cs) c.depth
  | [], c => by simp [Tr.depths]
  | d :: cs, c => by rw [List.cons_append, Tr.depths, Tr.depths, depths_snoc cs c]; omega
theorem oks_snoc : ∀ {cs : List Tr} {c : Tr}, Tr.oks cs → c.ok → Tr.oks (cs ++ [c])
  | [], c, _, h => by rw [List.nil_append, Tr.oks, Tr.oks]; exact ⟨h, trivial⟩
  | d :: cs, c, h, hc => by rw [Tr.oks] at h; rw [List.cons_append, Tr.oks]; exact ⟨h.1, oks_snoc h.2 hc⟩
theorem knotss_snoc (cs : List Tr) (c : Tr) : Tr.knotss (cs ++ [c]) = Tr.knotss cs + c.knots := by rw [knotss_append]; simp [Tr.knotss]
theorem len_knots_le {cs : List Tr} {ps : List Str} {rs : List Rule} (h : Rts rs ps cs) : cs.length = ps.length := (paired_len (rts_paired h)).symm
theorem subss_snoc : ∀ (cs : List Tr) (c : Tr), Tr.subss (cs ++ [c]) = Tr.subss cs ++ c.subs
  | [], c => by simp [Tr.subss]
  | d :: cs, c => by rw [List.cons_append, Tr.subss, Tr.subss, subss_snoc cs c, List.append_assoc]
def capOf (A : Bool) : Nat → Int
  | 0 => 0
  | r + 1 => km A r
theorem cap_pos (A : Bool) : ∀ r, 0 ≤ capOf A r
  | 0 => Int.le_refl _
  | r + 1 => by have := km_pos A r; rw [capOf]; omega
theorem grow_rest {n : Nat} {rs : List Rule} {ch : List (Str × Nat)} {nm : Str} {q : Addr} {a b : Int} {rank : Nat} {A : Bool} {M0 N : Mm} {R : K3} {num : Nat} {r : Rule} {o5 o6 : Option W} (hM0 : M0 q = none) (hN : N q = none) (sN : Sub M0 N)
    (hp : PartsOk rs) (hch : Chosen rs ch) (hsm : Small A rs ch) (hrank : rank < ch.length) (hb0 : 0 ≤ b) (hlev : lev b rank ≤ n + 1)
    (hr : rs[num]? = some r) (hnm : r.name = nm) (hnc : nm ∈ ch.map Prod.fst) (hpt : ∀ p ∈ r.parts, isNameB p = true → ∃ i k, ch[i]? = some (p, k) ∧ (12 ≤ b → i < rank))
    (hR : ∀ (t : Tr) (a' b' : Int), Rt rs nm t → b' = b + t.knots → b' ≤ lim A b rank → t.depth ≤ lev b rank → t.ok → (∀ u ∈ t.subs, ∃ x ∈ ch.map Prod.fst, Rt rs x u) → R t.w (put M0 q (.lst [.int a', .int b']))) :
    (vSeq (rd_l_grow_2 (spr_l_grow n)) (vSeq (rd_l_grow_3 (spr_l_grow n)) (vSeq (rd_l_grow_4 (spr_l_grow n)) (rd_l_grow_5 (spr_l_grow n))))) (ends3 R) [some (.rl (rs.map ruleW)), some (.dk (chW ch)), some (.str nm), some (.ref q), some (.int (num : Int)), o5, o6, none, none] (put N q (.lst [.int a, .int b])) := by
  have hrm : r ∈ rs := List.mem_of_getElem? hr
  have ea : atI (rs.map ruleW) (num : Int) = some (ruleW r) := atI_nat (by rw [List.getElem?_map, hr]; rfl)
  have hmost : (r.parts.length : Int) ≤ 3 ∧ (A = false → r.parts.length ≤ 1) := by
    unfold Small at hsm
    cases A with
    | true => simp only [if_true] at hsm; exact ⟨by have := hsm.2 r hrm; omega, fun z => nomatch z⟩
    | false => simp only [Bool.false_eq_true, if_false] at hsm; exact ⟨by have := hsm.2 r hrm; omega, fun _ => hsm.2 r hrm⟩
  have hlen12 : ch.length ≤ 12 := by
    unfold Small at hsm
    cases A with
    | true => simp only [if_true] at hsm; omega
    | false => simp only [Bool.false_eq_true, if_false] at hsm; exact hsm.1
  simp? only [rd_l_grow_2, rd_l_grow_3]
  refine .inl ⟨_, _, rfl, atI1 _ _ _, ?_⟩
  simp? only []
  refine setL put_same (by decide) (by simp) ?_
  simp? only []
  intro c hc
  have hcq : c ≠ q := fun e => by subst e; rw [put_same] at hc; cases hc
  have hcN : N c = none := by rw [put_ne hcq] at hc; exact hc
  simp? only [rd_l_grow_4, ea, ruleW]
  have hset : ([W.int a, W.int b].set (Int.toNat 1) (W.int (b + 1))) = [W.int a, W.int (b + 1)] := rfl
  rw [hset] at hc ⊢
  clear hset
  have hlv : 1 ≤ lev b rank := by unfold lev; split <;> omega
  obtain ⟨cap, hcap⟩ : ∃ c, c = capOf A rank := ⟨_, rfl⟩
  have hcap0 : 0 ≤ cap := by rw [hcap]; exact cap_pos A rank
  refine for3 (fun i τ M' => ∃ (ts : List Tr) (a'' b'' : Int) (o8 : Option W), τ = [some (W.rl (rs.map ruleW)), some (.dk (chW ch)), some (.str nm), some (.ref q), some (.int (num : Int)), o5, o6, some (.ref c), o8] ∧ M' = put (put N q (.lst [.int a'', .int b''])) c (.lst (ts.map Tr.w)) ∧
    Rts rs (r.parts.take i) ts ∧ b'' = b + 1 + Tr.knotss ts ∧ (b < 12 → b'' ≤ 25 + 26 * (11 - b) + 13 * i - 13) ∧ (12 ≤ b → b'' ≤ b + 1 + i * cap) ∧ Tr.depths ts + 1 ≤ lev b rank ∧ Tr.oks ts ∧ ∀ u ∈ Tr.subss ts, ∃ x ∈ ch.map Prod.fst, Rt rs x u) ⟨[], a, b + 1, none, rfl, rfl, .nil, by simp [Tr.knotss], by omega, by omega, by rw [Tr.depths]; omega, by rw [Tr.oks]; trivial, by rw [Tr.subss]; simp⟩ (fun _ _ _ _ _ => trivial) ?_ ?_
  · rintro i w τ M' hw ⟨ts, a'', b'', o8, rfl, rfl, h1, h2, h3, h4, h5, h6, h7⟩
    rw [List.getElem?_map] at hw
    obtain ⟨p, hpi, rfl⟩ := Option.map_eq_some_iff.mp hw
    have hpm : p ∈ r.parts := List.mem_of_getElem? hpi
    have hpok := hp.pt r hrm p hpm
    have hil : i < r.parts.length := (List.getElem?_eq_some_iff.mp hpi).1
    have htk : r.parts.take (i + 1) = r.parts.take i ++ [p] := by rw [List.take_add_one, hpi]; rfl
    have htl := len_knots_le h1
    rw [List.length_take, Nat.min_eq_left (by omega)] at htl
    have hmul : ((i + 1 : Nat) : Int) * cap = i * cap + cap := by rw [Int.natCast_add, Int.add_mul]; simp
    simp? only [rd_l_grow_b4]
    refine ⟨p, rfl, hpok, ?_⟩
    simp? only []
    by_cases hn : isNameB p = true
    · rw [if_pos hn]
      obtain ⟨i2, k2, hi2, hi3⟩ := hpt p hpm hn
      have hi4 : i2 < ch.length := (List.getElem?_eq_some_iff.mp hi2).1
      have hlv2 : lev b'' i2 + 1 ≤ lev b rank := by
        unfold lev
        split <;> split <;> omega
      cases n with
      | zero => unfold lev at hlv2 hlev; split at hlv2 <;> omega
      | succ m =>
        have hkm := km_max hsm hi4
        have hcp : 12 ≤ b → km A i2 ≤ cap := by
          intro hb12
          have := hi3 hb12
          cases rank with
          | zero => omega
          | succ k => rw [hcap, capOf]; exact km_mono A (by omega)
        refine ⟨rs, ch, p, q, a'', b'', i2, k2, A, rfl, by rw [put_ne (Ne.symm hcq)]; exact put_same, hp, hch, hsm, hi2, by omega, by omega, fun t a' b' ht hb' hl' hd' ho' hsb => ?_⟩
        rw [put_swap (Ne.symm hcq)]
        simp? only []
        refine ⟨by rw [List.length_map]; omega, _, Sub.refl _, ts ++ [t], a', b', _, rfl, by rw [List.map_append]; rfl, by rw [htk]; exact rts_snoc_name hn ht h1, by rw [knotss_snoc]; omega, fun hb => ?_, fun hb => ?_, by rw [depths_snoc]; omega, oks_snoc h6 ho', fun u hu => by
          rw [subss_snoc] at hu
          exact (List.mem_append.mp hu).elim (h7 u) (hsb u)⟩
        · have := h3 hb
          unfold lim at hl'
          split at hl' <;> omega
        · have := h4 hb
          have := hcp hb
          unfold lim at hl'
          rw [hmul]
          split at hl' <;> omega
    · rw [if_neg hn]
      have hn' : isNameB p = false := by cases h : isNameB p; rfl; exact absurd h hn
      refine ⟨by rw [List.length_map]; omega, _, Sub.refl _, ts ++ [.wd p], a'', b'', _, rfl, by rw [List.map_append]; rfl, by rw [htk]; exact rts_snoc_word hn' h1, by rw [knotss_snoc, Tr.knots]; omega, fun hb => ?_, fun hb => ?_, by rw [depths_snoc, Tr.depth]; omega, oks_snoc h6 (by rw [Tr.ok]; exact tok hpok), fun u hu => by
        rw [subss_snoc, Tr.subs, List.append_nil] at hu
        exact h7 u hu⟩
      · have := h3 hb; omega
      · have := h4 hb; rw [hmul]; omega
  · rintro τ M' ⟨ts, a'', b'', o8, rfl, rfl, h1, h2, h3, h4, h5, h6, h7⟩
    rw [List.length_map, List.take_length] at h1
    rw [List.length_map] at h3 h4
    simp? only [rd_l_grow_5]
    have ht : Rt rs nm (.nd (num : Int) ts) := by rw [← hnm]; exact .mk (by omega) (by rw [Int.toNat_natCast]; exact hr) h1
    have hw : (Tr.nd (num : Int) ts).w = .tup [.int (num : Int), .tup (ts.map Tr.w)] := by rw [Tr.w, ws_map]
    rw [← hw]
    refine ⟨_, (sN.put).trans (Sub.new ?_), hR _ a'' b'' ht (by rw [Tr.knots]; omega) ?_ (by rw [Tr.depth]; omega) (by rw [Tr.ok]; exact h6) (fun u hu => by
      rw [Tr.subs] at hu
      rcases List.mem_cons.mp hu with rfl | hu
      · exact ⟨nm, hnc, ht⟩
      · exact h7 u hu)⟩
    · rw [put_ne hcq]; exact hcN
    · unfold lim
      split
      · rename_i hb; have := h3 hb; omega
      · rename_i hb
        have h8 := h4 (by omega)
        have hcap2 : (r.parts.length : Int) * cap + 1 ≤ km A rank := by
          rw [hcap]
          cases rank with
          | zero => rw [capOf, km]; omega
          | succ k =>
            rw [capOf]
            have hk := km_pos A k
            rw [km]
            cases A with
            | true =>
              rw [if_pos rfl]
              have := Int.mul_le_mul_of_nonneg_right hmost.1 (by omega : (0 : Int) ≤ km true k)
              omega
            | false =>
              rw [if_neg (by simp)]
              have := Int.mul_le_mul_of_nonneg_right (by have := hmost.2 rfl; omega : (r.parts.length : Int) ≤ 1) (by omega : (0 : Int) ≤ km false k)
              omega
        omega
end Rg
set_option Elab.async false
set_option linter.all false
set_option maxRecDepth 100000
set_option maxHeartbeats 4000000
namespace Rg
open PySem PySem.Spec PyProof.Rows L2 L3
theorem put_del {M : Mm} {a : Addr} {o : MO} (h : M a = some o) : put (del M a) a o = M := by
  funext b
  by_cases e : b = a
  · subst e; rw [put_same, h]
  · rw [put_ne e, del_ne e]
theorem put_comm {M : Mm} {p q : Addr} {a b : MO} (h : p ≠ q) : put (put M p a) q b = put (put M q b) p a := by
  funext c
  by_cases e : c = q
  · subst e; rw [put_same, put_ne (Ne.symm h), put_same]
  · rw [put_ne e]
    by_cases f : c = p
    · subst f; rw [put_same, put_same]
    · rw [put_ne f, put_ne f, put_ne e]
theorem Small.parts {A : Bool} {rs : List Rule} {ch : List (Str × Nat)} (h : Small A rs ch) : ∀ r ∈ rs, r.parts.length ≤ 100 := by
  intro r hr
  unfold Small at h
  cases A with
  | true => simp only [if_true] at h; have := h.2 r hr; omega
  | false => simp only [Bool.false_eq_true, if_false] at h; have := h.2 r hr; omega
theorem good_l_grow {n : Nat} {ws : List W} {M : Mm} {R : K3} (h : spr_l_grow (n + 1) ws M R) : rd_l_grow (spr_l_grow n) (ends3 R) (start3 N_l_grow ws) M := by
  obtain ⟨rs, ch, nm, q, a, b, rank, k, A, rfl, hq, hp, hch, hsm, hrk, hb0, hlev, r⟩ := h
  have hrank : rank < ch.length := (List.getElem?_eq_some_iff.mp hrk).1
  obtain ⟨M0, rfl, hM0⟩ : ∃ M0, M = put M0 q (.lst [.int a, .int b]) ∧ M0 q = none := ⟨del M q, (put_del hq).symm, del_same⟩
  simp only [put_put] at r
  show rd_l_grow (spr_l_grow n) (ends3 R) [some (.rl (rs.map ruleW)), some (.dk (chW ch)), some (.str nm), some (.ref q), none, none, none, none, none] (put M0 q (.lst [.int a, .int b]))
  obtain ⟨r0, hr0, hr1, hr2⟩ := hch.at_ rank nm k hrk
  have hf := hp.few
  obtain ⟨rest, hrest⟩ : ∃ x, x = (vSeq (rd_l_grow_2 (spr_l_grow n)) (vSeq (rd_l_grow_3 (spr_l_grow n)) (vSeq (rd_l_grow_4 (spr_l_grow n)) (rd_l_grow_5 (spr_l_grow n))))) := ⟨_, rfl⟩
  simp only [rd_l_grow]
  rw [← hrest]
  simp? only [rd_l_grow_0]
  refine ⟨_, ⟨.inr nm, rfl, (look_at hch hrk).symm⟩, ?_⟩
  simp? only [rd_l_grow_1]
  refine .inl ⟨_, _, rfl, atI1 _ _ _, ?_⟩
  simp? only []
  by_cases hb : b < 12
  · rw [if_pos (by simpa using hb)]
    intro s hs
    have hsq : s ≠ q := fun e => by subst e; rw [put_same] at hs; cases hs
    have hsM : M0 s = none := by rw [put_ne hsq] at hs; exact hs
    refine ⟨_, rfl, by rw [List.length_map]; omega, by rw [List.length_map]; omega, ?_⟩
    let P : Nat → Prop := fun j => ∃ r1, rs[j]? = some r1 ∧ r1.name = nm ∧ ∀ p ∈ r1.parts, isNameB p = true → p ∈ ch.map Prod.fst
    refine for3 (fun i τ M' => ∃ (js : List Nat) (o6 : Option W), τ = [some (W.rl (rs.map ruleW)), some (.dk (chW ch)), some (.str nm), some (.ref q), some (.int (k : Int)), some (.ref s), o6, none, none] ∧ M' = put (put M0 q (.lst [.int a, .int b])) s (.lst (js.map fun j : Nat => W.int (j : Int))) ∧
      js.length ≤ i ∧ (∀ j ∈ js, P j) ∧ ∀ j, j < i → P j → j ∈ js) ⟨[], none, rfl, rfl, Nat.le_refl _, by simp, by omega⟩ (fun _ _ _ _ _ => trivial) ?_ ?_
    · rintro i w τ M' hw ⟨js, o6, rfl, rfl, h1, h2, h3⟩
      obtain ⟨hj, rfl⟩ := rangeW_get hw
      rw [List.length_map, Int.toNat_natCast] at hj
      rw [Int.zero_add]
      obtain ⟨q1, hq1⟩ : ∃ q1, rs[i]? = some q1 := ⟨_, List.getElem?_eq_getElem hj⟩
      have hqm : q1 ∈ rs := List.mem_of_getElem? hq1
      have ea : atI (rs.map ruleW) (i : Int) = some (ruleW q1) := atI_nat (by rw [List.getElem?_map, hq1]; rfl)
      simp? only [ea, ruleW]
      have stay : ¬ P i → ∃ M'', L3.Sub M'' (put (put M0 q (.lst [.int a, .int b])) s (.lst (js.map fun j : Nat => W.int (j : Int)))) ∧ ∃ (js : List Nat) (o6 : Option W), [some (W.rl (rs.map ruleW)), some (.dk (chW ch)), some (.str nm), some (.ref q), some (.int (k : Int)), some (.ref s), some (.int (i : Int)), none, none] = [some (W.rl (rs.map ruleW)), some (.dk (chW ch)), some (.str nm), some (.ref q), some (.int (k : Int)), some (.ref s), o6, none, none] ∧ M'' = put (put M0 q (.lst [.int a, .int b])) s (.lst (js.map fun j : Nat => W.int (j : Int))) ∧
          js.length ≤ i + 1 ∧ (∀ j ∈ js, P j) ∧ ∀ j, j < i + 1 → P j → j ∈ js := fun hn =>
        ⟨_, Sub.refl _, js, _, rfl, rfl, by omega, h2, fun j hj hP => by
          rcases Nat.eq_or_lt_of_le (Nat.le_of_lt_succ hj) with rfl | hj
          · exact absurd hP hn
          · exact h3 j hj hP⟩
      by_cases hnm : q1.name = nm
      · rw [if_pos hnm]
        refine ⟨q1.parts, ch, .inl rfl, hp.pt q1 hqm, hsm.parts q1 hqm, fun v hv => ?_⟩
        simp? only []
        cases v with
        | false =>
          rw [if_neg (by simp)]
          refine stay fun ⟨r1, e1, _, e2⟩ => ?_
          rw [hq1] at e1; cases e1
          exact Bool.noConfusion (hv.mpr e2)
        | true =>
          rw [if_pos rfl]
          refine ⟨by rw [List.length_map]; omega, _, Sub.refl _, js ++ [i], _, rfl, by rw [List.map_append]; rfl, by rw [List.length_append]; simp; omega, fun j hj => ?_, fun j hj hP => ?_⟩
          · rcases List.mem_append.mp hj with hj | hj
            · exact h2 j hj
            · simp at hj; subst hj; exact ⟨q1, hq1, hnm, hv.mp rfl⟩
          · rcases Nat.eq_or_lt_of_le (Nat.le_of_lt_succ hj) with rfl | hj
            · simp
            · exact List.mem_append_left _ (h3 j hj hP)
      · rw [if_neg hnm]
        refine stay fun ⟨r1, e1, e2, _⟩ => ?_
        rw [hq1] at e1; cases e1
        exact hnm e2
    · rintro τ M' ⟨js, o6, rfl, rfl, h1, h2, h3⟩
      have hlen : (rangeW 0 (((rs.map ruleW).length : Int).toNat)).length = rs.length := by rw [rangeW_len, List.length_map, Int.toNat_natCast]
      rw [hlen] at h1 h3
      have hkr : k < rs.length := (List.getElem?_eq_some_iff.mp hr0).1
      have hkj : k ∈ js := h3 k hkr ⟨r0, hr0, hr1, fun p hpm hpn => by
        obtain ⟨e, he, rfl⟩ := List.mem_map.mp (hr2 p hpm hpn)
        exact List.mem_map_of_mem (List.mem_of_mem_take he)⟩
      have hjl : 0 < js.length := List.length_pos_of_mem hkj
      have hXq : put (put M0 q (.lst [.int a, .int b])) s (.lst (js.map fun j : Nat => W.int (j : Int))) q = some (.lst [.int a, .int b]) := by rw [put_ne (Ne.symm hsq)]; exact put_same
      have hXs : put (put M0 q (.lst [.int a, .int b])) s (.lst (js.map fun j : Nat => W.int (j : Int))) s = some (.lst (js.map fun j : Nat => W.int (j : Int))) := put_same
      generalize hX : put (put M0 q (.lst [.int a, .int b])) s (.lst (js.map fun j : Nat => W.int (j : Int))) = X at hXq hXs ⊢
      simp? only [hXq, hXs]
      refine .inl ⟨_, _, rfl, atI0 _ _, ?_⟩
      simp? only [hXq, hXs]
      obtain ⟨w, hw, hwm⟩ := atI_sel (xs := js.map fun j : Nat => W.int (j : Int)) (i := a) (n := ((js.map fun j : Nat => W.int (j : Int)).length : Int)) rfl (by rw [List.length_map]; omega)
      obtain ⟨num, hnum, rfl⟩ := List.mem_map.mp hwm
      obtain ⟨r1, e1, e2, e3⟩ := h2 num hnum
      refine ⟨by rw [List.length_map]; omega, .inl ⟨_, _, rfl, hw, .inl ⟨_, _, rfl, atI0 _ _, ?_⟩⟩⟩
      simp? only []
      refine ⟨cdiv (by rw [List.length_map]; omega) (by rw [List.length_map]; omega), setL hXq (by decide) (by simp) ?_⟩
      rw [← hX, put_swap (Ne.symm hsq), put_comm (Ne.symm hsq), hrest]
      exact grow_rest hM0 (by rw [put_ne (Ne.symm hsq)]; exact hM0) (Sub.new hsM) hp hch hsm hrank hb0 hlev e1 e2 (List.mem_map.mpr ⟨_, List.mem_of_getElem? hrk, rfl⟩) (fun p hpm hpn => by obtain ⟨i, k, h1, h2⟩ := rank_of (m := ch.length) (by rw [List.take_length]; exact e3 p hpm hpn); exact ⟨i, k, h1, fun z => by omega⟩) r
  · rw [if_neg (by simpa using hb), hrest]
    exact grow_rest hM0 hM0 (Sub.refl _) hp hch hsm hrank hb0 hlev hr0 hr1 (List.mem_map.mpr ⟨_, List.mem_of_getElem? hrk, rfl⟩) (fun p hpm hpn => by obtain ⟨i, k, h1, h2⟩ := rank_of (hr2 p hpm hpn); exact ⟨i, k, h1, fun _ => h2⟩) r
end Rg
set_option Elab.async false
set_option linter.all false
set_option maxRecDepth 100000
set_option maxHeartbeats 4000000
namespace Rg
open PySem PySem.Spec PyProof.Rows L2 L3
mutual
theorem rt_size {rs : List Rule} (h3 : ∀ r ∈ rs, r.parts.length ≤ 3) : ∀ (t : Tr) {nm : Str}, Rt rs nm t → t.size ≤ 4 * t.knots
  | .wd _, _, h => nomatch h
  | .nd n cs, _, .mk h0 hr h => by
    have := rts_size h3 cs h
    have := h3 _ (List.mem_of_getElem? hr)
    rw [Tr.size, Tr.knots]; omega
theorem rts_size {rs : List Rule} (h3 : ∀ r ∈ rs, r.parts.length ≤ 3) : ∀ (cs : List Tr) {ps : List Str}, Rts rs ps cs → Tr.sizes cs ≤ ps.length + 4 * Tr.knotss cs
  | [], _, h => by rw [Tr.sizes]; omega
  | c :: cs, ps, h => by
    cases h with
    | word hw t =>
      have := rts_size h3 cs t
      rw [Tr.sizes, Tr.knotss, Tr.size, Tr.knots, List.length_cons]; omega
    | name hn hc t =>
      have := rts_size h3 cs t
      have := rt_size h3 c hc
      rw [Tr.sizes, Tr.knotss, List.length_cons]; omega
end
theorem rt_one {rs : List Rule} {t : Tr} {x y : Str} (h : Rt rs x t) (g : Rt rs y t) : x = y := by
  cases h with
  | mk h0 hr _ => cases g with
    | mk g0 gr _ => rw [hr] at gr; cases gr; rfl
mutual
theorem sub_rt {rs : List Rule} : ∀ (t : Tr) {nm : Str}, Rt rs nm t → ∀ u ∈ t.subs, ∃ x, Rt rs x u
  | .wd _, _, h => nomatch h
  | .nd n cs, _, .mk h0 hr h => fun u hu => by
    rw [Tr.subs] at hu
    rcases List.mem_cons.mp hu with rfl | hu
    · exact ⟨_, .mk h0 hr h⟩
    · exact subs_rt cs h u hu
theorem subs_rt {rs : List Rule} : ∀ (cs : List Tr) {ps : List Str}, Rts rs ps cs → ∀ u ∈ Tr.subss cs, ∃ x, Rt rs x u
  | [], _, _, u, hu => by rw [Tr.subss] at hu; cases hu
  | c :: cs, ps, h, u, hu => by
    rw [Tr.subss] at hu
    cases h with
    | word hw t =>
      rcases List.mem_append.mp hu with hu | hu
      · rw [Tr.subs] at hu; cases hu
      · exact subs_rt cs t u hu
    | name hn hc t =>
      rcases List.mem_append.mp hu with hu | hu
      · exact sub_rt c hc u hu
      · exact subs_rt cs t u hu
end
mutual
theorem sub_le : ∀ (t : Tr), ∀ u ∈ t.subs, u.depth ≤ t.depth ∧ u.size ≤ t.size ∧ u.knots ≤ t.knots ∧ (t.ok → u.ok)
  | .wd _, u, hu => by rw [Tr.subs] at hu; cases hu
  | .nd n cs, u, hu => by
    rw [Tr.subs] at hu
    rcases List.mem_cons.mp hu with rfl | hu
    · exact ⟨Nat.le_refl _, Nat.le_refl _, Nat.le_refl _, id⟩
    · obtain ⟨h1, h2, h3, h4⟩ := subs_le cs u hu
      exact ⟨by rw [Tr.depth]; omega, by rw [Tr.size]; omega, by rw [Tr.knots]; omega, fun h => by rw [Tr.ok] at h; exact h4 h⟩
theorem subs_le : ∀ (cs : List Tr), ∀ u ∈ Tr.subss cs, u.depth ≤ Tr.depths cs ∧ u.size ≤ Tr.sizes cs ∧ u.knots ≤ Tr.knotss cs ∧ (Tr.oks cs → u.ok)
  | [], u, hu => by rw [Tr.subss] at hu; cases hu
  | c :: cs, u, hu => by
    rw [Tr.subss] at hu
    rw [Tr.depths, Tr.sizes, Tr.knotss, Tr.oks]
    rcases List.mem_append.mp hu with hu | hu
    · obtain ⟨h1, h2, h3, h4⟩ := sub_le c u hu
      exact ⟨by omega, by omega, by omega, fun h => h4 h.1⟩
    · obtain ⟨h1, h2, h3, h4⟩ := subs_le cs u hu
      exact ⟨by omega, by omega, by omega, fun h => h4 h.2⟩
end
mutual
theorem subs_len : ∀ t : Tr, t.subs.length = t.knots
  | .wd _ => by rw [Tr.subs, Tr.knots]; rfl
  | .nd n cs => by rw [Tr.subs, Tr.knots, List.length_cons, subss_len cs]; omega
theorem subss_len : ∀ cs : List Tr, (Tr.subss cs).length = Tr.knotss cs
  | [] => by rw [Tr.subss, Tr.knotss]; rfl
  | c :: cs => by rw [Tr.subss, Tr.knotss, List.length_append, subs_len c, subss_len cs]
end
mutual
theorem knots_size : ∀ t : Tr, t.knots ≤ t.size
  | .wd _ => by rw [Tr.knots]; omega
  | .nd n cs => by have := knotss_sizes cs; rw [Tr.knots, Tr.size]; omega
theorem knotss_sizes : ∀ cs : List Tr, Tr.knotss cs ≤ Tr.sizes cs
  | [] => by rw [Tr.knotss]; omega
  | c :: cs => by have := knots_size c; have := knotss_sizes cs; rw [Tr.knotss, Tr.sizes]; omega
end
structure Grown (rs : List Rule) (nm : Str) (t : Tr) : Prop where
  rt : Rt rs nm t
  ok : t.ok
  deep : t.depth ≤ 25
  many : t.knots ≤ 337
  size : t.size ≤ 1348
structure Bed (rs : List Rule) (ch : List (Str × Nat)) : Prop where
  gr : GoodRules rs
  cho : Chosen rs ch
  p3 : ∀ r ∈ rs, r.parts.length ≤ 3
  sm : ∃ A, Small A rs ch
theorem Bed.of {rs : List Rule} {ch : List (Str × Nat)} {many most : Int} {hs : List Str} (g : GoodRules rs) (hm : (1 ≤ many ∧ many ≤ 3 ∧ most = 3) ∨ (1 ≤ many ∧ many ≤ 12 ∧ most = 1)) (hp : ∀ r ∈ rs, (r.parts.length : Int) ≤ most) (hl : (hs.length : Int) ≤ many) (hh : ∀ r ∈ rs, r.name ∈ hs) (hc : Chosen rs ch) : Bed rs ch where
  gr := g
  cho := hc
  p3 := fun r hr => by have := hp r hr; omega
  sm := by
    have hlen : ch.length ≤ hs.length := by
      have := nodup_len (m := hs) hc.nd fun x hx => by obtain ⟨r, hr, e⟩ := hc.name hx; rw [← e]; exact hh r hr
      rwa [List.length_map] at this
    rcases hm with ⟨h1, h2, h3⟩ | ⟨h1, h2, h3⟩
    · exact ⟨true, by unfold Small; rw [if_pos rfl]; exact ⟨by omega, fun r hr => by have := hp r hr; omega⟩⟩
    · exact ⟨false, by unfold Small; rw [if_neg (by simp)]; exact ⟨by omega, fun r hr => by have := hp r hr; omega⟩⟩
theorem Bed.p4 {rs : List Rule} {ch : List (Str × Nat)} (b : Bed rs ch) : PartsOk rs := b.gr.pok
theorem Bed.len {rs : List Rule} {ch : List (Str × Nat)} (b : Bed rs ch) : ch.length ≤ 12 := by
  obtain ⟨A, h⟩ := b.sm
  unfold Small at h
  cases A with
  | true => simp only [if_true] at h; omega
  | false => simp only [Bool.false_eq_true, if_false] at h; exact h.1
theorem grow_new2 {rs : List Rule} {ch : List (Str × Nat)} {nm : Str} {a : Int} {M : Mm} {q : Addr} {R : K3} (b : Bed rs ch) (hn : nm ∈ ch.map Prod.fst) (r : ∀ t, Grown rs nm t → (∀ u ∈ t.subs, ∃ x ∈ ch.map Prod.fst, Rt rs x u) → ∀ o, R t.w (put M q o)) : sp_l_grow [.rl (rs.map ruleW), .dk (chW ch), .str nm, .ref q] (put M q (.lst [.int a, .int 0])) R := by
  obtain ⟨e, he, rfl⟩ := List.mem_map.mp hn
  obtain ⟨i, hi, he2⟩ := List.mem_iff_getElem.mp he
  obtain ⟨A, hA⟩ := b.sm
  refine ⟨rs, ch, e.1, q, a, 0, i, e.2, A, rfl, put_same, b.p4, b.cho, hA, by rw [List.getElem?_eq_getElem hi, he2], Int.le_refl _, by unfold lev; rw [if_pos (by decide)]; decide, fun t a' b' h1 h2 h3 h4 h5 h8 => ?_⟩
  rw [put_put]
  unfold lim at h3
  unfold lev at h4
  rw [if_pos (by decide)] at h3 h4
  have h6 := rt_size b.p3 t h1
  have h7 : t.knots ≤ 337 := by omega
  exact r t ⟨h1, h5, Nat.le_trans h4 (by decide), h7, by omega⟩ h8 _
theorem chW_keys (ch : List (Str × Nat)) : (chW ch).map Prod.fst = (ch.map Prod.fst).map Sum.inr := by unfold chW; rw [List.map_map, List.map_map]; rfl
theorem Grown.nd {rs : List Rule} {nm : Str} {t : Tr} (g : Grown rs nm t) : ∃ (n : Nat) (r : Rule) (cs : List Tr), t = .nd (n : Int) cs ∧ rs[n]? = some r ∧ r.name = nm ∧ Rts rs r.parts cs := by
  cases g.rt with
  | @mk n r cs h0 hr h => exact ⟨n.toNat, r, cs, by rw [Int.toNat_of_nonneg h0], hr, rfl, h⟩
end Rg
set_option Elab.async false
set_option linter.all false
set_option maxRecDepth 100000
set_option maxHeartbeats 4000000
namespace Rg
open PySem PySem.Spec PyProof.Rows L2 L3
mutual
def Tr.pre : Int → Tr → List (Tr × Int)
  | _, .wd _ => []
  | l, .nd n cs => (.nd n cs, l) :: Tr.pres (l + 1) cs
def Tr.pres : Int → List Tr → List (Tr × Int)
  | _, [] => []
  | l, c :: cs => Tr.pres l cs ++ Tr.pre l c
end
mutual
def Tr.costBy (f : Int → Int) : Tr → Int
  | .wd _ => 0
  | .nd n cs => f n + Tr.costsBy f cs
def Tr.costsBy (f : Int → Int) : List Tr → Int
  | [] => 0
  | c :: cs => c.costBy f + Tr.costsBy f cs
end
def Tr.num : Tr → Int
  | .wd _ => 0
  | .nd n _ => n
def costOf (rs : List Rule) (n : Int) : Int := match rs[n.toNat]? with | some r => r.cost | none => 0
def pairW (e : Tr × Int) : W := .tup [e.1.w, .int e.2]
def sp_trees_within : Sp3 := fun ws M R => ∃ t : Tr, ws = [t.w] ∧ t.isNd = true ∧ t.size ≤ 100000 ∧ New ((t.pre 1).map pairW) M R
def sp_tree_cost : Sp3 := fun ws M R => ∃ (rs : List Rule) (nm : Str) (t : Tr), ws = [.rl (rs.map ruleW), t.w] ∧ Rt rs nm t ∧ t.size ≤ 100000 ∧ R (.int (t.costBy (costOf rs))) M
def sp_knots : Sp3 := fun ws M R => ∃ t : Tr, ws = [t.w] ∧ t.isNd = true ∧ t.size ≤ 100000 ∧ R (.int (t.knots : Nat)) M
def sp_depth : Sp3 := fun ws M R => ∃ t : Tr, ws = [t.w] ∧ t.isNd = true ∧ t.size ≤ 100000 ∧ R (.int (t.depth : Nat)) M
abbrev N_trees_within : List Str := ["tree", "found", "waiting", "pair"]
def rd_trees_within_0 : TS3 :=
      (vSet 1 (vLst aNil))
def rd_trees_within_1 : TS3 :=
      (vSet 2 (vLst (aCons (vTup (aCons (vVar 0) (aCons (vC (.int 1)) aNil))) aNil)))
def rd_trees_within_b2 : TS3 :=
      (vSeq (vSet 3 (vBM0 "list" rPop (vVar 2)))
      (vSeq (vDrop (vBM "list" rApp (vVar 1) (aCons (vVar 3) aNil)))
      (vDrop (vBM "list" rExt (vVar 2) (aCons (vFrz (vComp (iIt rItN (vOp rIx (vOp rIx (vVar 3) (vC (.int 0))) (vC (.int 1)))) (wName 0) (vTruth (vCall sp_is_tree (aCons (vVar 0) aNil))) (vTup (aCons (vVar 0) (aCons (vOp rAddF (vOp rIx (vVar 1) (vC (.int 1))) (vC (.int 1))) aNil))) [none, some 3])) aNil)))))
def rd_trees_within_2 : TS3 :=
      (vWhile (vTruth (vVar 2)) rd_trees_within_b2)
def rd_trees_within_3 : TS3 :=
      (vRet (vVar 1))
def rd_trees_within : TS3 := (vSeq rd_trees_within_0 (vSeq rd_trees_within_1 (vSeq rd_trees_within_2 rd_trees_within_3)))
abbrev N_tree_cost : List Str := ["grammar", "tree"]
def rd_tree_cost : TS3 :=
      (vRet (vCB rSum (aCons (vFrz (vComp (iIt rIt (vFrz (vCall sp_trees_within (aCons (vVar 1) aNil)))) (wTup 2 (wCons (wName 0) (wCons (wName 1) wNil))) vTrue (vOp rIx (vOp rIx (vVar 2) (vOp rIx (vVar 0) (vC (.int 0)))) (vC (.int 2))) [none, none, some 0])) aNil)))
abbrev N_knots : List Str := ["tree"]
def rd_knots : TS3 :=
      (vRet (vCB rLen (aCons (vFrz (vCall sp_trees_within (aCons (vVar 0) aNil))) aNil)))
abbrev N_depth : List Str := ["tree"]
def rd_depth : TS3 :=
      (vRet (vCB rMax1 (aCons (vFrz (vComp (iIt rIt (vFrz (vCall sp_trees_within (aCons (vVar 0) aNil)))) (wTup 2 (wCons (wName 0) (wCons (wName 1) wNil))) vTrue (vVar 1) [none, none])) aNil)))
theorem len_trees_within : ∀ ws M R, sp_trees_within ws M R → ws.length = 1 := by rintro ws M R ⟨_, rfl, _⟩; rfl
theorem len_tree_cost : ∀ ws M R, sp_tree_cost ws M R → ws.length = 2 := by rintro ws M R ⟨_, _, _, rfl, _⟩; rfl
theorem len_knots : ∀ ws M R, sp_knots ws M R → ws.length = 1 := by rintro ws M R ⟨_, rfl, _⟩; rfl
theorem len_depth : ∀ ws M R, sp_depth ws M R → ws.length = 1 := by rintro ws M R ⟨_, rfl, _⟩; rfl
mutual
theorem pre_len : ∀ (t : Tr) (l : Int), (t.pre l).length = t.knots
  | .wd _, l => by rw [Tr.pre, Tr.knots]; rfl
  | .nd n cs, l => by rw [Tr.pre, Tr.knots, List.length_cons, pres_len cs]; omega
theorem pres_len : ∀ (cs : List Tr) (l : Int), (Tr.pres l cs).length = Tr.knotss cs
  | [], l => by rw [Tr.pres, Tr.knotss]; rfl
  | c :: cs, l => by rw [Tr.pres, Tr.knotss, List.length_append, pre_len c, pres_len cs]; omega
end
mutual
theorem pre_cost (f : Int → Int) : ∀ (t : Tr) (l : Int), ((t.pre l).map fun e => f e.1.num).sum = t.costBy f
  | .wd _, l => by rw [Tr.pre, Tr.costBy]; rfl
  | .nd n cs, l => by rw [Tr.pre, Tr.costBy, List.map_cons, List.sum_cons, pres_cost f cs]; rfl
theorem pres_cost (f : Int → Int) : ∀ (cs : List Tr) (l : Int), ((Tr.pres l cs).map fun e => f e.1.num).sum = Tr.costsBy f cs
  | [], l => by rw [Tr.pres, Tr.costsBy]; rfl
  | c :: cs, l => by rw [Tr.pres, Tr.costsBy, List.map_append, List.sum_append, pre_cost f c, pres_cost f cs, Int.add_comm]
end
mutual
theorem pre_sub : ∀ (t : Tr) (l : Int), ∀ e ∈ t.pre l, e.1 ∈ t.subs
  | .wd _, l, e, h => by rw [Tr.pre] at h; cases h
  | .nd n cs, l, e, h => by
    rw [Tr.pre] at h
    rw [Tr.subs]
    rcases List.mem_cons.mp h with rfl | h
    · exact List.mem_cons_self
    · exact List.mem_cons_of_mem _ (pres_sub cs _ e h)
theorem pres_sub : ∀ (cs : List Tr) (l : Int), ∀ e ∈ Tr.pres l cs, e.1 ∈ Tr.subss cs
  | [], l, e, h => by rw [Tr.pres] at h; cases h
  | c :: cs, l, e, h => by
    rw [Tr.pres] at h
    rw [Tr.subss]
    rcases List.mem_append.mp h with h | h
    · exact List.mem_append_right _ (pres_sub cs l e h)
    · exact List.mem_append_left _ (pre_sub c l e h)
end
mutual
theorem pre_le : ∀ (t : Tr) (l : Int), ∀ e ∈ t.pre l, e.2 + 1 ≤ l + t.depth
  | .wd _, l, e, h => by rw [Tr.pre] at h; cases h
  | .nd n cs, l, e, h => by
    rw [Tr.pre] at h
    rw [Tr.depth]
    rcases List.mem_cons.mp h with rfl | h
    · show l + 1 ≤ _; omega
    · have := pres_le cs _ e h; omega
theorem pres_le : ∀ (cs : List Tr) (l : Int), ∀ e ∈ Tr.pres l cs, e.2 + 1 ≤ l + Tr.depths cs
  | [], l, e, h => by rw [Tr.pres] at h; cases h
  | c :: cs, l, e, h => by
    rw [Tr.pres] at h
    rw [Tr.depths]
    rcases List.mem_append.mp h with h | h
    · have := pres_le cs l e h; omega
    · have := pre_le c l e h; omega
end
mutual
theorem pre_at : ∀ (t : Tr) (l : Int), 0 < t.depth → ∃ e ∈ t.pre l, e.2 + 1 = l + t.depth
  | .wd _, l, h => by rw [Tr.depth] at h; omega
  | .nd n cs, l, _ => by
    rw [Tr.pre, Tr.depth]
    by_cases hd : 0 < Tr.depths cs
    · obtain ⟨e, he, h⟩ := pres_at cs (l + 1) hd
      exact ⟨e, List.mem_cons_of_mem _ he, by omega⟩
    · exact ⟨_, List.mem_cons_self, by show l + 1 = _; omega⟩
theorem pres_at : ∀ (cs : List Tr) (l : Int), 0 < Tr.depths cs → ∃ e ∈ Tr.pres l cs, e.2 + 1 = l + Tr.depths cs
  | [], l, h => by rw [Tr.depths] at h; omega
  | c :: cs, l, h => by
    rw [Tr.depths] at h ⊢
    rw [Tr.pres]
    by_cases hc : Tr.depths cs ≤ c.depth
    · obtain ⟨e, he, h⟩ := pre_at c l (by omega)
      exact ⟨e, List.mem_append_right _ he, by omega⟩
    · obtain ⟨e, he, h⟩ := pres_at cs l (by omega)
      exact ⟨e, List.mem_append_left _ he, by omega⟩
end
theorem pres_flat (l : Int) : ∀ cs : List Tr, Tr.pres l cs = ((cs.filter Tr.isNd).map fun c => (c, l)).reverse.flatMap fun e => e.1.pre e.2
  | [] => by rw [Tr.pres]; rfl
  | .wd x :: cs => by rw [Tr.pres, pres_flat l cs, Tr.pre, List.append_nil]; rfl
  | .nd n ds :: cs => by
    rw [Tr.pres, pres_flat l cs, List.filter_cons_of_pos (by rfl), List.map_cons, List.reverse_cons, List.flatMap_append]
    simp
def kidW (l : Int) : W → Option W
  | .tup ws => some (.tup [.tup ws, .int l])
  | _ => none
theorem kids_eq (l : Int) : ∀ cs : List Tr, (cs.map Tr.w).filterMap (kidW l) = ((cs.filter Tr.isNd).map fun c => (c, l)).map pairW
  | [] => rfl
  | .wd x :: cs => by rw [List.map_cons, Tr.w]; exact kids_eq l cs
  | .nd n ds :: cs => by
    rw [List.map_cons, List.filterMap_cons_some (b := pairW (.nd n ds, l)) (by rw [pairW, Tr.w, kidW]), kids_eq l cs, List.filter_cons_of_pos (by rfl)]; rfl
theorem wait_len : ∀ S : List (Tr × Int), (∀ e ∈ S, e.1.isNd = true) → S.length ≤ (S.flatMap fun e => e.1.pre e.2).length
  | [], _ => Nat.zero_le _
  | (.wd x, l) :: S, h => Bool.noConfusion (h _ List.mem_cons_self)
  | (.nd n cs, l) :: S, h => by
    have := wait_len S fun e he => h e (List.mem_cons_of_mem _ he)
    rw [List.flatMap_cons, List.length_append, Tr.pre, List.length_cons, List.length_cons]; omega
theorem pairW_inj {e e' : Tr × Int} (h : pairW e = pairW e') : e = e' := by
  simp only [pairW, W.tup.injEq, List.cons.injEq, and_true, W.int.injEq] at h
  exact Prod.ext (w_inj h.1) h.2
theorem pair_levels : ∀ {S : List (Tr × Int)} {ys : List W}, Paired (fun w y => ∃ e, w = pairW e ∧ y = W.int e.2) (S.map pairW) ys → ys = (S.map Prod.snd).map W.int
  | [], ys, h => by cases h; rfl
  | e :: S, ys, h => by
    cases h with
    | cons a b =>
      obtain ⟨e', h1, rfl⟩ := a
      cases pairW_inj h1
      rw [pair_levels b]; rfl
theorem pair_costs {P : Tr × Int → Prop} {f : Int → Int} : ∀ {S : List (Tr × Int)} {ys : List W}, Paired (fun w y => ∃ e, P e ∧ w = pairW e ∧ y = W.int (f e.1.num)) (S.map pairW) ys → ys = (S.map fun e => f e.1.num).map W.int
  | [], ys, h => by cases h; rfl
  | e :: S, ys, h => by
    cases h with
    | cons a b =>
      obtain ⟨e', _, h1, rfl⟩ := a
      cases pairW_inj h1
      rw [pair_costs b]; rfl
theorem hpos (t : Tr) (h : t.isNd = true) : 0 < t.knots := by
  cases t with
  | wd x => cases h
  | nd n cs => rw [Tr.knots]; omega
theorem good_trees_within {ws : List W} {M : Mm} {R : K3} (h : sp_trees_within ws M R) : rd_trees_within (ends3 R) (start3 N_trees_within ws) M := by
  obtain ⟨t, rfl, hnd, hz, r⟩ := h
  show rd_trees_within (ends3 R) [some t.w, none, none, none] M
  have hkz := knots_size t
  have hpl := pre_len t 1
  simp? only [rd_trees_within, rd_trees_within_0, rd_trees_within_1]
  intro p hp q hq
  have hpq : p ≠ q := fun e => by subst e; rw [put_same] at hq; cases hq
  have hqM : M q = none := by rw [put_ne (Ne.symm hpq)] at hq; exact hq
  refine ⟨fun m τ M' => ∃ (done wait : List (Tr × Int)) (o : Option W), τ = [some t.w, some (.ref p), some (.ref q), o] ∧ M' = put (put M p (.lst (done.map pairW))) q (.lst (wait.reverse.map pairW)) ∧ done ++ wait.flatMap (fun e => e.1.pre e.2) = t.pre 1 ∧ (wait.flatMap fun e => e.1.pre e.2).length = m ∧ ∀ e ∈ wait, e.1.isNd = true,
    ⟨_, [], [(t, 1)], none, rfl, rfl, by simp, rfl, by simp; exact hnd⟩, ?_⟩
  rintro m τ M' ⟨done, wait, o, rfl, rfl, h1, h2, h3⟩
  have hwl := wait_len wait h3
  have h4 : done.length + m = t.knots := by rw [← hpl, ← h1, List.length_append, h2]
  simp? only [rd_trees_within_2]
  cases wait with
  | nil =>
    simp? only [List.reverse_nil, List.isEmpty_nil]
    simp? only [rd_trees_within_3]
    rw [List.flatMap_nil, List.append_nil] at h1
    rw [h1]
    exact ⟨_, Sub.new (by rw [put_ne (Ne.symm hpq)]; exact hqM), r p hp⟩
  | cons e wait =>
    obtain ⟨u, l⟩ := e
    cases u with
    | wd x => exact Bool.noConfusion (h3 _ List.mem_cons_self)
    | nd n cs =>
      have e0 : ((Tr.nd n cs, l) :: wait).reverse.map pairW = wait.reverse.map pairW ++ [pairW (.nd n cs, l)] := by rw [List.reverse_cons, List.map_append]; rfl
      rw [e0, if_pos (by cases wait.reverse.map pairW <;> rfl)]
      rw [List.flatMap_cons, Tr.pre] at h1 h2
      rw [List.cons_append, List.length_cons, List.length_append, pres_len] at h2
      have hwl2 := wait_len wait fun e he => h3 e (List.mem_cons_of_mem _ he)
      simp? only [rd_trees_within_b2, pairW, Tr.w, ws_map, put_ne hpq, put_swap hpq]
      refine ⟨_, _, rfl, by rw [List.length_map]; omega, ?_⟩
      have hcz := wait_len (((cs.filter Tr.isNd).map fun c => (c, l + 1)).reverse) (fun e he => by
        obtain ⟨c, hc, rfl⟩ := List.mem_map.mp (List.mem_reverse.mp he)
        exact (List.mem_filter.mp hc).2)
      rw [← pres_flat, pres_len, List.length_reverse, List.length_map] at hcz
      have hcs : cs.length ≤ 100000 := by
        have hsub : Tr.nd n cs ∈ t.subs := pre_sub t 1 (.nd n cs, l) (by rw [← h1]; simp)
        have h5 : (Tr.nd n cs).size ≤ t.size := (sub_le t _ hsub).2.1
        have h6 := len_sizes cs
        rw [Tr.size] at h5
        omega
      simp? only []
      refine filt1 (rest := [some (.tup [.tup [.int n, .tup (cs.map Tr.w)], .int l])]) (kidW (l + 1)) (small (by rw [List.length_map]; omega)) (fun _ _ => trivial) (fun w hw M' C D sb g1 g2 => ?_) (New.frz ?_)
      · obtain ⟨c, hc, rfl⟩ := List.mem_map.mp hw
        simp? only []
        refine ⟨c, rfl, ?_⟩
        cases c with
        | wd x => simp? only [Tr.isNd, Tr.w]; exact g2 (by rw [Tr.w, kidW]; intro _ z; cases z)
        | nd k ds => simp? only [Tr.isNd, Tr.w]; exact g1 _ (by rw [Tr.w, kidW])
      · rw [kids_eq]
        simp? only []
        rw [← List.map_append, show wait.reverse ++ (cs.filter Tr.isNd).map (fun c => (c, l + 1)) = (((cs.filter Tr.isNd).map fun c => (c, l + 1)).reverse ++ wait).reverse by rw [List.reverse_append, List.reverse_reverse]]
        refine ⟨?_, _, _, ?_, Sub.refl _, done ++ [(.nd n cs, l)], ((cs.filter Tr.isNd).map fun c => (c, l + 1)).reverse ++ wait, _, rfl, by rw [List.map_append, List.map_cons, List.map_nil, pairW, Tr.w, ws_map], ?_, rfl, ?_⟩
        · rw [List.length_map, List.length_reverse, List.length_map, List.length_map]; omega
        · rw [List.flatMap_append, ← pres_flat, List.length_append, pres_len]; omega
        · rw [List.flatMap_append, ← pres_flat, ← h1]; simp
        · intro e he
          rcases List.mem_append.mp he with he | he
          · obtain ⟨c, hc, rfl⟩ := List.mem_map.mp (List.mem_reverse.mp he)
            exact (List.mem_filter.mp hc).2
          · exact h3 e (List.mem_cons_of_mem _ he)
theorem good_knots {ws : List W} {M : Mm} {R : K3} (h : sp_knots ws M R) : rd_knots (ends3 R) (start3 N_knots ws) M := by
  obtain ⟨t, rfl, hnd, hz, r⟩ := h
  show rd_knots (ends3 R) [some t.w] M
  simp? only [rd_knots]
  refine ⟨t, rfl, hnd, hz, New.frz ?_⟩
  simp? only []
  rw [List.length_map, pre_len]
  exact ⟨_, Sub.refl _, r⟩
theorem good_depth {ws : List W} {M : Mm} {R : K3} (h : sp_depth ws M R) : rd_depth (ends3 R) (start3 N_depth ws) M := by
  obtain ⟨t, rfl, hnd, hz, r⟩ := h
  show rd_depth (ends3 R) [some t.w] M
  have hd : 0 < t.depth := by
    cases t with
    | wd x => cases hnd
    | nd n cs => rw [Tr.depth]; omega
  have hkz := knots_size t
  simp? only [rd_depth]
  refine ⟨t, rfl, hnd, hz, New.frz ?_⟩
  simp? only []
  refine map2R (rest := []) (fun w y => ∃ e, w = pairW e ∧ y = .int e.2) (fun w hw => ?_) (small (by rw [List.length_map, pre_len]; omega)) (fun _ _ => trivial) (fun a b hab M' C sb g => ?_) fun ys hys => New.frz ?_
  · obtain ⟨e, _, rfl⟩ := List.mem_map.mp hw; exact ⟨_, _, rfl⟩
  · obtain ⟨e, _, he⟩ := List.mem_map.mp hab
    simp only [pairW, W.tup.injEq, List.cons.injEq, and_true] at he
    obtain ⟨rfl, rfl⟩ := he
    simp? only []
    exact g _ ⟨e, rfl, rfl⟩
  · have hys2 := pair_levels hys
    subst hys2
    refine ⟨(t.pre 1).map Prod.snd, rfl, by rw [List.length_map, pre_len]; have := hpos t hnd; omega, fun m hm hle => ⟨_, Sub.refl _, ?_⟩⟩
    have : m = (t.depth : Int) := by
      obtain ⟨e, he, he2⟩ := pre_at t 1 hd
      have h1 := hle e.2 (List.mem_map_of_mem he)
      obtain ⟨e', he', rfl⟩ := List.mem_map.mp hm
      have h2 := pre_le t 1 e' he'
      omega
    rw [this]; exact r
theorem good_tree_cost {ws : List W} {M : Mm} {R : K3} (h : sp_tree_cost ws M R) : rd_tree_cost (ends3 R) (start3 N_tree_cost ws) M := by
  obtain ⟨rs, nm, t, rfl, hrt, hz, r⟩ := h
  show rd_tree_cost (ends3 R) [some (.rl (rs.map ruleW)), some t.w] M
  have hnd : t.isNd = true := by cases hrt; rfl
  have hkz := knots_size t
  simp? only [rd_tree_cost]
  refine ⟨t, rfl, hnd, hz, New.frz ?_⟩
  simp? only []
  refine map2R (rest := [some (.rl (rs.map ruleW))]) (fun w y => ∃ e ∈ t.pre 1, w = pairW e ∧ y = .int (costOf rs e.1.num)) (fun w hw => ?_) (small (by rw [List.length_map, pre_len]; omega)) (fun _ _ => trivial) (fun a b hab M' C sb g => ?_) fun ys hys => New.frz ?_
  · obtain ⟨e, _, rfl⟩ := List.mem_map.mp hw; exact ⟨_, _, rfl⟩
  · obtain ⟨e, hm, he⟩ := List.mem_map.mp hab
    simp only [pairW, W.tup.injEq, List.cons.injEq, and_true] at he
    obtain ⟨rfl, rfl⟩ := he
    obtain ⟨x, hx⟩ := sub_rt t hrt e.1 (pre_sub t 1 e hm)
    have g' := g (.int (costOf rs e.1.num)) ⟨e, hm, rfl, rfl⟩
    generalize e.1 = u at hx g'
    cases hx with
    | @mk n r0 cs h0 hr hh =>
      have ea : atI (rs.map ruleW) n = some (ruleW r0) := by
        rw [← Int.toNat_of_nonneg h0]; exact atI_nat (by rw [List.getElem?_map, hr]; rfl)
      simp? only [Tr.w, ea, ruleW]
      rw [Tr.num, costOf, hr] at g'
      exact g'
  · have hys2 := pair_costs hys
    subst hys2
    refine ⟨(t.pre 1).map fun e => costOf rs e.1.num, rfl, _, Sub.refl _, ?_⟩
    rw [pre_cost]; exact r
end Rg
set_option Elab.async false
set_option linter.all false
set_option maxRecDepth 100000
set_option maxHeartbeats 4000000
namespace Rg
open PySem PySem.Spec PyProof.Rows L2 L3
def Tr.at : Tr → List Nat → Option Tr
  | t, [] => some t
  | .wd _, _ :: _ => none
  | .nd _ cs, k :: p => (cs[k]?).bind fun c => c.at p
def Tr.put : Tr → List Nat → Tr → Tr
  | _, [], o => o
  | .wd x, _ :: _, _ => .wd x
  | .nd n cs, k :: p, o => match cs[k]? with | some c => .nd n (cs.set k (c.put p o)) | none => .nd n cs
def pathW (p : List Nat) : W := .rl (p.map fun k : Nat => W.int (k : Int))
def spr_l_paths : Nat → Sp3
  | 0 => fun _ _ _ => False
  | n + 1 => fun ws M R => ∃ (t : Tr) (base : List Nat), ws = [t.w, pathW base] ∧ t.isNd = true ∧ t.depth ≤ n + 1 ∧ t.size ≤ 100000 ∧ base.length + t.depth ≤ 1000 ∧
    ∀ ps : List (List Nat), 0 < ps.length → ps.length ≤ t.knots → (∀ p ∈ ps, ∃ p' u, p = base ++ p' ∧ t.at p' = some u ∧ u.isNd = true ∧ p'.length + 1 ≤ t.depth) → R (.rl (ps.map pathW)) M
abbrev sp_l_paths : Sp3 := spr_l_paths 30
def sp_l_at : Sp3 := fun ws M R => ∃ (t u : Tr) (p : List Nat), ws = [t.w, pathW p] ∧ t.at p = some u ∧ R u.w M
def spr_l_put : Nat → Sp3
  | 0 => fun _ _ _ => False
  | n + 1 => fun ws M R => ∃ (t u o : Tr) (p : List Nat), ws = [t.w, pathW p, o.w] ∧ t.at p = some u ∧ p.length ≤ n ∧ t.size ≤ 100000 ∧ R (t.put p o).w M
abbrev sp_l_put : Sp3 := spr_l_put 30
abbrev N_l_paths : List Str := ["tree", "path", "found", "k"]
def rd_l_paths_0 (sp_l_paths : Sp3) : TS3 :=
      (vSet 2 (vLstF (aCons (vVar 1) aNil)))
def rd_l_paths_b1 (sp_l_paths : Sp3) : TS3 :=
      (vIfS (vNot (vTruth (vCB rIsi (aCons (vOp rIx (vOp rIx (vVar 0) (vC (.int 1))) (vVar 3)) (aCons (vC (.ty "str")) aNil)))))
        (vSet 2 (vOp rAddF (vVar 2) (vCall sp_l_paths (aCons (vOp rIx (vOp rIx (vVar 0) (vC (.int 1))) (vVar 3)) (aCons (vOp rAddF (vVar 1) (vLstF (aCons (vVar 3) aNil))) aNil)))))
        vNext)
def rd_l_paths_1 (sp_l_paths : Sp3) : TS3 :=
      (vFor (iR1 (aCons (vCB rLen (aCons (vOp rIx (vVar 0) (vC (.int 1))) aNil)) aNil)) (wName 3) (rd_l_paths_b1 sp_l_paths))
def rd_l_paths_2 (sp_l_paths : Sp3) : TS3 :=
      (vRet (vVar 2))
def rd_l_paths (sp_l_paths : Sp3) : TS3 := (vSeq (rd_l_paths_0 sp_l_paths) (vSeq (rd_l_paths_1 sp_l_paths) (rd_l_paths_2 sp_l_paths)))
abbrev N_l_at : List Str := ["tree", "path", "k"]
def rd_l_at : TS3 :=
      (vSeq (vFor (iIt rItN (vVar 1)) (wName 2)
        (vSet 0 (vOp rIx (vOp rIx (vVar 0) (vC (.int 1))) (vVar 2))))
      (vRet (vVar 0)))
abbrev N_l_put : List Str := ["tree", "path", "other", "children"]
def rd_l_put_0 (sp_l_put : Sp3) : TS3 :=
      (vIfS (vTest (vOp (rEq false) (vVar 1) (vLstF aNil)))
        (vRet (vVar 2))
        vNext)
def rd_l_put_1 (sp_l_put : Sp3) : TS3 :=
      (vSet 3 (vCB rList (aCons (vOp rIx (vVar 0) (vC (.int 1))) aNil)))
def rd_l_put_2 (sp_l_put : Sp3) : TS3 :=
      (vAsg (vCall sp_l_put (aCons (vOp rIx (vVar 3) (vOp rIx (vVar 1) (vC (.int 0)))) (aCons (vSlF (vVar 1) (sPt (vC (.int 1))) sNo) (aCons (vVar 2) aNil)))) (wSub (vVar 3) (vOp rIx (vVar 1) (vC (.int 0)))))
def rd_l_put_3 (sp_l_put : Sp3) : TS3 :=
      (vRet (vTup (aCons (vOp rIx (vVar 0) (vC (.int 0))) (aCons (vCB rTuple (aCons (vVar 3) aNil)) aNil))))
def rd_l_put (sp_l_put : Sp3) : TS3 := (vSeq (rd_l_put_0 sp_l_put) (vSeq (rd_l_put_1 sp_l_put) (vSeq (rd_l_put_2 sp_l_put) (rd_l_put_3 sp_l_put))))
theorem len_l_paths : ∀ n ws M R, spr_l_paths n ws M R → ws.length = 2
  | 0, _, _, _, h => h.elim
  | n + 1, ws, M, R, h => by obtain ⟨_, _, rfl, _⟩ := h; rfl
theorem len_l_at : ∀ ws M R, sp_l_at ws M R → ws.length = 2 := by rintro ws M R ⟨_, _, _, rfl, _⟩; rfl
theorem len_l_put : ∀ n ws M R, spr_l_put n ws M R → ws.length = 3
  | 0, _, _, _, h => h.elim
  | n + 1, ws, M, R, h => by obtain ⟨_, _, _, _, rfl, _⟩ := h; rfl
theorem at_take : ∀ {p : List Nat} {t u : Tr} {i : Nat}, t.at p = some u → i ≤ p.length → ∃ v, t.at (p.take i) = some v ∧ v.at (p.drop i) = some u
  | p, t, u, 0, h, _ => ⟨t, by rw [List.take_zero, Tr.at], by rw [List.drop_zero]; exact h⟩
  | [], t, u, i + 1, h, hi => by simp at hi
  | k :: p, .wd x, u, i + 1, h, hi => by rw [Tr.at] at h; cases h
  | k :: p, .nd n cs, u, i + 1, h, hi => by
    rw [Tr.at] at h
    obtain ⟨c, hc, h⟩ := Option.bind_eq_some_iff.mp h
    obtain ⟨v, h1, h2⟩ := at_take (i := i) h (by simpa using hi)
    exact ⟨v, by rw [List.take_succ_cons, Tr.at, hc]; exact h1, by rw [List.drop_succ_cons]; exact h2⟩
theorem at_step {p : List Nat} {t u : Tr} {i k : Nat} (h : t.at p = some u) (hk : p[i]? = some k) : ∃ n cs c, t.at (p.take i) = some (.nd n cs) ∧ cs[k]? = some c ∧ t.at (p.take (i + 1)) = some c := by
  have hi := (List.getElem?_eq_some_iff.mp hk).1
  obtain ⟨v, h1, h2⟩ := at_take h (Nat.le_of_lt hi)
  have hd : p.drop i = k :: p.drop (i + 1) := by
    rw [List.drop_eq_getElem_cons hi]; congr 1; exact (List.getElem?_eq_some_iff.mp hk).2
  obtain ⟨c', h3, _⟩ := at_take h (i := i + 1) hi
  rw [hd] at h2
  cases v with
  | wd x => rw [Tr.at] at h2; cases h2
  | nd n cs =>
    rw [Tr.at] at h2
    obtain ⟨c, hc, h2⟩ := Option.bind_eq_some_iff.mp h2
    refine ⟨n, cs, c, h1, hc, ?_⟩
    have ht : p.take (i + 1) = p.take i ++ [k] := by rw [List.take_add_one, hk]; rfl
    rw [ht]
    exact at_app h1 (by rw [Tr.at, hc]; rfl)
where
  at_app : ∀ {p q : List Nat} {t v u : Tr}, t.at p = some v → v.at q = some u → t.at (p ++ q) = some u := @at_app'
  at_app' : ∀ {p q : List Nat} {t v u : Tr}, t.at p = some v → v.at q = some u → t.at (p ++ q) = some u := by
    intro p
    induction p with
    | nil => intro q t v u h g; cases t <;> (rw [Tr.at] at h; cases h; exact g)
    | cons k p ih =>
      intro q t v u h g
      cases t with
      | wd x => rw [Tr.at] at h; cases h
      | nd n cs =>
        rw [Tr.at] at h
        obtain ⟨c, hc, h⟩ := Option.bind_eq_some_iff.mp h
        rw [List.cons_append, Tr.at, hc]
        exact ih h g
theorem good_l_at {ws : List W} {M : Mm} {R : K3} (h : sp_l_at ws M R) : rd_l_at (ends3 R) (start3 N_l_at ws) M := by
  obtain ⟨t, u, p, rfl, ha, r⟩ := h
  show rd_l_at (ends3 R) [some t.w, some (pathW p), none] M
  simp? only [rd_l_at, pathW]
  refine for3 (fun i τ M' => ∃ (v : Tr) (o : Option W), τ = [some v.w, some (.rl (p.map fun k : Nat => W.int (k : Int))), o] ∧ M' = M ∧ t.at (p.take i) = some v) ⟨t, _, rfl, rfl, by rw [List.take_zero]; cases t <;> rw [Tr.at]⟩ (fun _ _ _ _ _ => trivial) ?_ ?_
  · rintro i w τ M' hw ⟨v, o, rfl, rfl, hv⟩
    rw [List.getElem?_map] at hw
    obtain ⟨k, hki, rfl⟩ := Option.map_eq_some_iff.mp hw
    obtain ⟨n, cs, c, h1, h2, h3⟩ := at_step ha hki
    rw [hv] at h1; cases h1
    have ea : atI (cs.map Tr.w) (k : Int) = some c.w := atI_nat (by rw [List.getElem?_map, h2]; rfl)
    simp? only [Tr.w, ws_map, ea]
    exact ⟨_, Sub.refl _, c, _, rfl, rfl, h3⟩
  · rintro τ M' ⟨v, o, rfl, rfl, hv⟩
    rw [List.length_map, List.take_length, ha] at hv
    cases hv
    simp? only []
    exact ⟨_, Sub.refl _, r⟩
theorem path_pl {p : List Nat} {M : Mm} : Pl 2 (der M (pathW p)) := fun w hw => by
  obtain ⟨k, _, rfl⟩ := List.mem_map.mp hw; trivial
theorem map_set {cs : List Tr} {k : Nat} {c : Tr} : (cs.map Tr.w).set k c.w = (cs.set k c).map Tr.w := by rw [List.map_set]
theorem good_l_put {n : Nat} {ws : List W} {M : Mm} {R : K3} (h : spr_l_put (n + 1) ws M R) : rd_l_put (spr_l_put n) (ends3 R) (start3 N_l_put ws) M := by
  obtain ⟨t, u, o, p, rfl, ha, hp, hz, r⟩ := h
  show rd_l_put (spr_l_put n) (ends3 R) [some t.w, some (pathW p), some o.w, none] M
  simp? only [rd_l_put, rd_l_put_0]
  refine rEq_pl 2 (by decide) path_pl (by intro w hw; simp at hw) fun b hb => ⟨_, rfl, ?_⟩
  cases p with
  | nil =>
    have : b = true := hb.mpr rfl
    subst this
    have e : t.put [] o = o := by cases t <;> rw [Tr.put]
    rw [e] at r
    exact ⟨_, Sub.refl _, r⟩
  | cons k p =>
    have : b = false := by cases b; rfl; exact absurd (hb.mp rfl) (by simp [der, pathW])
    subst this
    cases t with
    | wd x => rw [Tr.at] at ha; cases ha
    | nd num cs =>
      rw [Tr.at] at ha
      obtain ⟨c, hc, ha⟩ := Option.bind_eq_some_iff.mp ha
      have hkl := (List.getElem?_eq_some_iff.mp hc).1
      have hcm : c ∈ cs := List.mem_of_getElem? hc
      rw [Tr.put, hc] at r
      rw [Tr.size] at hz
      have h2 := size_mem hcm
      have ea : atI (cs.map Tr.w) (k : Int) = some c.w := atI_nat (by rw [List.getElem?_map, hc]; rfl)
      rw [if_neg (by simp)]
      simp? only [rd_l_put_1, rd_l_put_2, Tr.w, ws_map]
      intro q hq
      simp? only [pathW, List.map_cons]
      refine .inl ⟨_, _, rfl, ea, ?_⟩
      cases n with
      | zero => simp at hp
      | succ m =>
        refine ⟨c, u, o, p, ?_, ha, by simpa using hp, by omega, ?_⟩
        · rw [cut_suf (by decide)]; rfl
        · simp? only []
          refine setL put_same (by omega) (by rw [List.length_map]; omega) ?_
          simp? only [rd_l_put_3, Int.toNat_natCast, map_set]
          rw [Tr.w, ws_map] at r
          exact ⟨_, Sub.new hq, r⟩
theorem good_l_paths {n : Nat} {ws : List W} {M : Mm} {R : K3} (h : spr_l_paths (n + 1) ws M R) : rd_l_paths (spr_l_paths n) (ends3 R) (start3 N_l_paths ws) M := by
  obtain ⟨t, base, rfl, hnd, hd, hz, hb, r⟩ := h
  cases t with
  | wd x => cases hnd
  | nd num cs =>
    show rd_l_paths (spr_l_paths n) (ends3 R) [some (Tr.nd num cs).w, some (pathW base), none, none] M
    rw [Tr.depth] at hd hb
    rw [Tr.size] at hz
    rw [Tr.knots] at r
    have hkz := knotss_sizes cs
    have hlz := len_sizes cs
    simp? only [rd_l_paths, rd_l_paths_0, rd_l_paths_1, Tr.w, ws_map]
    refine ⟨_, rfl, by rw [List.length_map]; omega, by rw [List.length_map]; omega, ?_⟩
    refine for3 (fun i τ M' => ∃ (ps : List (List Nat)) (o : Option W), τ = [some (.tup [.int num, .tup (cs.map Tr.w)]), some (pathW base), some (.rl (ps.map pathW)), o] ∧ M' = M ∧ 0 < ps.length ∧ ps.length ≤ 1 + Tr.knotss (cs.take i) ∧ (∀ p ∈ ps, ∃ p' u, p = base ++ p' ∧ (Tr.nd num cs).at p' = some u ∧ u.isNd = true ∧ p'.length + 1 ≤ 1 + Tr.depths cs)) ⟨[base], none, rfl, rfl, by simp, by simp, fun p hp => ?_⟩ (fun _ _ _ _ _ => trivial) ?_ ?_
    · rw [List.mem_singleton.mp hp]
      exact ⟨[], .nd num cs, by simp, by rw [Tr.at], rfl, by simp⟩
    · rintro i w τ M' hw ⟨ps, o, rfl, rfl, h1, h2, h3⟩
      obtain ⟨hj, rfl⟩ := rangeW_get hw
      rw [List.length_map, Int.toNat_natCast] at hj
      rw [Int.zero_add]
      obtain ⟨c, hci⟩ : ∃ c, cs[i]? = some c := ⟨_, List.getElem?_eq_getElem hj⟩
      have hcm : c ∈ cs := List.mem_of_getElem? hci
      have htk : cs.take (i + 1) = cs.take i ++ [c] := by rw [List.take_add_one, hci]; rfl
      have e1 := depth_mem hcm
      have e2 := size_mem hcm
      have ea : atI (cs.map Tr.w) (i : Int) = some c.w := atI_nat (by rw [List.getElem?_map, hci]; rfl)
      rw [htk, knotss_snoc]
      simp? only [rd_l_paths_b1, ea]
      cases c with
      | wd x =>
        simp? only [Tr.w]
        exact ⟨_, Sub.refl _, ps, _, rfl, rfl, h1, by omega, h3⟩
      | nd m ds =>
        have ew : (Tr.nd m ds).w = .tup [.int m, .tup (Tr.ws ds)] := by rw [Tr.w]
        rw [ew]
        simp? only [pathW]
        refine ⟨by rw [List.length_map]; omega, ?_⟩
        cases n with
        | zero => rw [Tr.depth] at e1; omega
        | succ k =>
          refine ⟨.nd m ds, base ++ [i], ?_, rfl, by omega, by omega, by rw [List.length_append]; simp; omega, fun qs g1 g2 g3 => ?_⟩
          · rw [ew, pathW, List.map_append]; rfl
          simp? only []
          have h4 := knotss_append (cs.take i) (cs.drop i)
          rw [List.take_append_drop] at h4
          have h5 := knots_size (.nd m ds)
          refine ⟨by rw [List.length_map, List.length_map]; omega, _, Sub.refl _, ps ++ qs, _, by rw [List.map_append], rfl, by rw [List.length_append]; omega, by rw [List.length_append]; omega, fun p hp => ?_⟩
          rcases List.mem_append.mp hp with hp | hp
          · exact h3 p hp
          · obtain ⟨p', u, rfl, hu, hun, hl⟩ := g3 p hp
            exact ⟨i :: p', u, by simp, by rw [Tr.at, hci]; exact hu, hun, by rw [List.length_cons]; omega⟩
    · rintro τ M' ⟨ps, o, rfl, rfl, h1, h2, h3⟩
      rw [rangeW_len, List.length_map, Int.toNat_natCast, List.take_length] at h2
      simp? only [rd_l_paths_2]
      exact ⟨_, Sub.refl _, r ps h1 h2 h3⟩
theorem oks_set : ∀ {cs : List Tr} {k : Nat} {c : Tr}, Tr.oks cs → c.ok → Tr.oks (cs.set k c)
  | [], _, _, h, _ => h
  | d :: cs, 0, c, h, g => by rw [Tr.oks] at h; rw [List.set_cons_zero, Tr.oks]; exact ⟨g, h.2⟩
  | d :: cs, k + 1, c, h, g => by rw [Tr.oks] at h; rw [List.set_cons_succ, Tr.oks]; exact ⟨h.1, oks_set h.2 g⟩
theorem depths_set : ∀ {cs : List Tr} {k : Nat} {c : Tr}, Tr.depths (cs.set k c) ≤ max (Tr.depths cs) c.depth
  | [], _, _ => by rw [List.set_nil]; omega
  | d :: cs, 0, c => by rw [List.set_cons_zero, Tr.depths, Tr.depths]; omega
  | d :: cs, k + 1, c => by have := @depths_set cs k c; rw [List.set_cons_succ, Tr.depths, Tr.depths]; omega
theorem at_le : ∀ {p : List Nat} {t u : Tr}, t.at p = some u → u.depth + p.length ≤ t.depth ∧ u.size ≤ t.size ∧ (t.ok → u.ok)
  | [], t, u, h => by cases t <;> (rw [Tr.at] at h; cases h; exact ⟨Nat.le_refl _, Nat.le_refl _, id⟩)
  | k :: p, .wd x, u, h => by rw [Tr.at] at h; cases h
  | k :: p, .nd n cs, u, h => by
    rw [Tr.at] at h
    obtain ⟨c, hc, h⟩ := Option.bind_eq_some_iff.mp h
    have hcm : c ∈ cs := List.mem_of_getElem? hc
    obtain ⟨h1, h2, h3⟩ := at_le h
    have := depth_mem hcm
    have := size_mem hcm
    exact ⟨by rw [Tr.depth, List.length_cons]; omega, by rw [Tr.size]; omega, fun ho => by rw [Tr.ok] at ho; exact h3 (oks_mem ho c hcm)⟩
theorem put_le : ∀ {p : List Nat} {t u o : Tr}, t.at p = some u → (t.put p o).depth ≤ max t.depth (p.length + o.depth) ∧ (t.put p o).size ≤ t.size + o.size ∧ (t.ok → o.ok → (t.put p o).ok)
  | [], t, u, o, h => by
    have e : t.put [] o = o := by cases t <;> rw [Tr.put]
    rw [e]; exact ⟨by simp; omega, by omega, fun _ h => h⟩
  | k :: p, .wd x, u, o, h => by rw [Tr.at] at h; cases h
  | k :: p, .nd n cs, u, o, h => by
    rw [Tr.at] at h
    obtain ⟨c, hc, h⟩ := Option.bind_eq_some_iff.mp h
    have hcm : c ∈ cs := List.mem_of_getElem? hc
    obtain ⟨h1, h2, h3⟩ := put_le (o := o) h
    have e : (Tr.nd n cs).put (k :: p) o = .nd n (cs.set k (c.put p o)) := by rw [Tr.put, hc]
    rw [e]
    have h4 := depth_mem hcm
    have h5 := @depths_set cs k (c.put p o)
    have h6 := sizes_set2 (c := c) (d := c.put p o) hc
    refine ⟨by rw [Tr.depth, Tr.depth, List.length_cons]; omega, by rw [Tr.size, Tr.size]; omega, fun ho hoo => ?_⟩
    rw [Tr.ok] at ho ⊢
    exact oks_set ho (h3 (oks_mem ho c hcm) hoo)
where
  sizes_set2 : ∀ {cs : List Tr} {k : Nat} {c d : Tr}, cs[k]? = some c → Tr.sizes (cs.set k d) + c.size = Tr.sizes cs + d.size
    | [], k, c, d, h => by simp at h
    | e :: cs, 0, c, d, h => by simp at h; subst h; rw [List.set_cons_zero, Tr.sizes, Tr.sizes]; omega
    | e :: cs, k + 1, c, d, h => by have := @sizes_set2 cs k c d (by simpa using h); rw [List.set_cons_succ, Tr.sizes, Tr.sizes]; omega
end Rg
set_option Elab.async false
set_option linter.all false
set_option maxRecDepth 100000
set_option maxHeartbeats 4000000
namespace Rg
open PySem PySem.Spec PyProof.Rows L2 L3
def Tr.ahead : Tr → List Nat → Nat
  | _, [] => 0
  | .wd _, _ :: _ => 0
  | .nd _ cs, k :: p => (Tr.rows (cs.take k)).length + match cs[k]? with | some c => c.ahead p | none => 0
def sp_l_ahead : Sp3 := fun ws M R => ∃ (t u : Tr) (p : List Nat), ws = [t.w, pathW p] ∧ t.at p = some u ∧ t.size ≤ 100000 ∧ R (.int (t.ahead p : Nat)) M
def sp_l_right : Sp3 := fun ws M R => ∃ (rs : List Rule) (nm x : Str) (t u o : Tr) (p : List Nat), ws = [.rl (rs.map ruleW), t.w, pathW p, o.w] ∧ PartsOk rs ∧ Grown rs nm t ∧ t.at p = some u ∧ Rt rs x u ∧ Grown rs x o ∧ R (.bl true) M
abbrev sp_law : Sp3 := spLaw3
abbrev N_l_ahead : List Str := ["tree", "path", "many", "k", "child"]
def rd_l_ahead_0 : TS3 :=
      (vSet 2 (vC (.int 0)))
def rd_l_ahead_b1 : TS3 :=
      (vSeq (vFor (iIt rItN (vSlF (vOp rIx (vVar 0) (vC (.int 1))) sNo (sPt (vVar 3)))) (wName 4)
        (vSeq (vSet 2 (vOp rAddF (vVar 2) (vOp rIx (vLstF (aCons (vC (.int 1)) (aCons (vC (.int 0)) aNil))) (vCB rInt (aCons (vNotV (vCB rIsi (aCons (vVar 4) (aCons (vC (.ty "str")) aNil)))) aNil)))))
      (vIfS (vNot (vTruth (vCB rIsi (aCons (vVar 4) (aCons (vC (.ty "str")) aNil)))))
        (vSet 2 (vOp rAddF (vVar 2) (vCB rLen (aCons (vFrz (vCall sp_row_of (aCons (vVar 4) aNil))) aNil))))
        vNext)))
      (vSet 0 (vOp rIx (vOp rIx (vVar 0) (vC (.int 1))) (vVar 3))))
def rd_l_ahead_1 : TS3 :=
      (vFor (iIt rItN (vVar 1)) (wName 3) rd_l_ahead_b1)
def rd_l_ahead_2 : TS3 :=
      (vRet (vVar 2))
def rd_l_ahead : TS3 := (vSeq rd_l_ahead_0 (vSeq rd_l_ahead_1 rd_l_ahead_2))
abbrev N_l_right : List Str := ["grammar", "tree", "path", "other", "old", "new", "row", "at", "later", "less"]
def rd_l_right_0 : TS3 :=
      (vSet 4 (vCall sp_l_at (aCons (vVar 1) (aCons (vVar 2) aNil))))
def rd_l_right_1 : TS3 :=
      (vSet 5 (vCall sp_l_put (aCons (vVar 1) (aCons (vVar 2) (aCons (vVar 3) aNil)))))
def rd_l_right_2 : TS3 :=
      (vIfS (vNot (vTruth (vCall sp_right_tree (aCons (vVar 0) (aCons (vOp rIx (vOp rIx (vVar 0) (vOp rIx (vVar 1) (vC (.int 0)))) (vC (.int 0))) (aCons (vVar 5) aNil))))))
        (vRet (vC (.bl false)))
        vNext)
def rd_l_right_3 : TS3 :=
      (vSet 6 (vFrz (vCall sp_row_of (aCons (vVar 1) aNil))))
def rd_l_right_4 : TS3 :=
      (vSet 7 (vCall sp_l_ahead (aCons (vVar 1) (aCons (vVar 2) aNil))))
def rd_l_right_5 : TS3 :=
      (vSet 8 (vSlF (vVar 6) (sPt (vOp rAddF (vVar 7) (vCB rLen (aCons (vFrz (vCall sp_row_of (aCons (vVar 4) aNil))) aNil)))) sNo))
def rd_l_right_6 : TS3 :=
      (vIfS (vTest (vOp (rEq true) (vFrz (vCall sp_row_of (aCons (vVar 5) aNil))) (vOp rAddF (vOp rAddF (vSlF (vVar 6) sNo (sPt (vVar 7))) (vFrz (vCall sp_row_of (aCons (vVar 3) aNil)))) (vVar 8))))
        (vRet (vC (.bl false)))
        vNext)
def rd_l_right_7 : TS3 :=
      (vSet 9 (vOp rSub (vCall sp_tree_cost (aCons (vVar 0) (aCons (vVar 1) aNil))) (vCall sp_tree_cost (aCons (vVar 0) (aCons (vVar 4) aNil)))))
def rd_l_right_8 : TS3 :=
      (vIfS (vTest (vOp (rEq true) (vCall sp_tree_cost (aCons (vVar 0) (aCons (vVar 5) aNil))) (vOp rAddF (vVar 9) (vCall sp_tree_cost (aCons (vVar 0) (aCons (vVar 3) aNil))))))
        (vRet (vC (.bl false)))
        vNext)
def rd_l_right_9 : TS3 :=
      (vIfS (vOr (vTest (vOp (rEq true) (vCall sp_knots (aCons (vVar 5) aNil)) (vOp rAddF (vOp rSub (vCall sp_knots (aCons (vVar 1) aNil)) (vCall sp_knots (aCons (vVar 4) aNil))) (vCall sp_knots (aCons (vVar 3) aNil))))) (vTest (vOp rLt (vCall sp_depth (aCons (vVar 5) aNil)) (vOp rAddF (vCall sp_depth (aCons (vVar 3) aNil)) (vCB rLen (aCons (vVar 2) aNil))))))
        (vRet (vC (.bl false)))
        vNext)
def rd_l_right_10 : TS3 :=
      (vRet (vAndV (vOp (rEq false) (vFrz (vCall sp_row_of (aCons (vVar 1) aNil))) (vVar 6)) (vOp (rEq false) (vCall sp_l_put (aCons (vVar 5) (aCons (vVar 2) (aCons (vVar 4) aNil)))) (vVar 1))))
def rd_l_right : TS3 := (vSeq rd_l_right_0 (vSeq rd_l_right_1 (vSeq rd_l_right_2 (vSeq rd_l_right_3 (vSeq rd_l_right_4 (vSeq rd_l_right_5 (vSeq rd_l_right_6 (vSeq rd_l_right_7 (vSeq rd_l_right_8 (vSeq rd_l_right_9 rd_l_right_10))))))))))
abbrev N_law : List Str := ["script", "many", "most", "rules", "grammar", "chosen", "cells", "k", "number", "name", "tree", "paths", "path", "other"]
def rd_law_0 : TS3 :=
      (vAsg (vCall sp_l_sizes (aCons (vCall sp_l_cell_at (aCons (vVar 0) (aCons (vC (.int 0)) aNil))) aNil)) (wTup 2 (wCons (wName 1) (wCons (wName 2) wNil))))
def rd_law_1 : TS3 :=
      (vSet 3 (vFrz (vCall sp_l_rules (aCons (vSlF (vVar 0) (sPt (vC (.int 1))) (sPt (vC (.int 12)))) (aCons (vVar 1) (aCons (vVar 2) aNil))))))
def rd_law_2 : TS3 :=
      (vSet 4 (vFrz (vCall sp_grammar_of (aCons (vCB rListF (aCons (vVar 3) aNil)) aNil))))
def rd_law_3 : TS3 :=
      (vSet 5 (vFrz (vCall sp_l_chosen (aCons (vVar 3) aNil))))
def rd_law_4 : TS3 :=
      (vSet 6 (vOp rAddF (vLstF (aCons (vC (.int 0)) (aCons (vC (.int 0)) aNil))) (vSlF (vVar 0) (sPt (vC (.int 12))) (sPt (vC (.int 28))))))
def rd_law_b5 : TS3 :=
      (vSeq (vSet 8 (vCall sp_l_number (aCons (vOp rIx (vVar 6) (vVar 7)) aNil)))
      (vIfS (vTest (vOp rNeE (vVar 5) (vFrz vNewK)))
        (vSeq (vSet 9 (vOp rIx (vCB rSortDF (aCons (vVar 5) aNil)) (vOp rMod (vVar 8) (vCB rLen (aCons (vVar 5) aNil)))))
      (vSeq (vSet 10 (vCall sp_l_grow (aCons (vVar 3) (aCons (vVar 5) (aCons (vVar 9) (aCons (vLst (aCons (vOp rFdiv (vVar 8) (vC (.int 3))) (aCons (vC (.int 0)) aNil))) aNil))))))
      (vSeq (vSet 11 (vCall sp_l_paths (aCons (vVar 10) (aCons (vLstF aNil) aNil))))
      (vSeq (vSet 12 (vOp rIx (vVar 11) (vOp rMod (vOp rFdiv (vVar 8) (vC (.int 13))) (vCB rLen (aCons (vVar 11) aNil)))))
      (vSeq (vSet 9 (vOp rIx (vOp rIx (vVar 3) (vOp rIx (vCall sp_l_at (aCons (vVar 10) (aCons (vVar 12) aNil))) (vC (.int 0)))) (vC (.int 0))))
      (vSeq (vSet 8 (vCall sp_l_number (aCons (vCall sp_l_cell_at (aCons (vVar 6) (aCons (vOp rAddF (vVar 7) (vC (.int 1))) aNil))) aNil)))
      (vSeq (vSet 13 (vCall sp_l_grow (aCons (vVar 3) (aCons (vVar 5) (aCons (vVar 9) (aCons (vLst (aCons (vVar 8) (aCons (vC (.int 0)) aNil))) aNil))))))
      (vIfS (vNot (vTruth (vCall sp_l_right (aCons (vVar 4) (aCons (vVar 10) (aCons (vVar 12) (aCons (vVar 13) aNil)))))))
        (vRet (vC (.bl false)))
        vNext))))))))
        vNext))
def rd_law_5 : TS3 :=
      (vFor (iR3 (aCons (vC (.int 0)) (aCons (vCB rLen (aCons (vVar 6) aNil)) (aCons (vC (.int 2)) aNil)))) (wName 7) rd_law_b5)
def rd_law_6 : TS3 :=
      (vRet (vOp (rEq false) (vVar 4) (vVar 3)))
def rd_law : TS3 := (vSeq rd_law_0 (vSeq rd_law_1 (vSeq rd_law_2 (vSeq rd_law_3 (vSeq rd_law_4 (vSeq rd_law_5 rd_law_6))))))
theorem len_l_ahead : ∀ ws M R, sp_l_ahead ws M R → ws.length = 2 := by rintro ws M R ⟨_, _, _, rfl, _⟩; rfl
theorem len_l_right : ∀ ws M R, sp_l_right ws M R → ws.length = 4 := by rintro ws M R ⟨_, _, _, _, _, _, _, rfl, _⟩; rfl
theorem len_law : ∀ ws M R, sp_law ws M R → ws.length = 1 := by rintro ws M R ⟨_, rfl, _⟩; rfl
theorem at_nil {t u : Tr} (h : t.at [] = some u) : t = u := by cases t <;> (rw [Tr.at] at h; cases h; rfl)
theorem put_nil {t o : Tr} : t.put [] o = o := by cases t <;> rw [Tr.put]
theorem at_cons {t u : Tr} {k : Nat} {p : List Nat} (h : t.at (k :: p) = some u) : ∃ n cs c, t = .nd n cs ∧ cs[k]? = some c ∧ c.at p = some u := by
  cases t with
  | wd x => rw [Tr.at] at h; cases h
  | nd n cs =>
    rw [Tr.at] at h
    obtain ⟨c, hc, h⟩ := Option.bind_eq_some_iff.mp h
    exact ⟨n, cs, c, rfl, hc, h⟩
theorem put_cons {n : Int} {cs : List Tr} {c o : Tr} {k : Nat} {p : List Nat} (h : cs[k]? = some c) : (Tr.nd n cs).put (k :: p) o = .nd n (cs.set k (c.put p o)) := by rw [Tr.put, h]
theorem split_at {cs : List Tr} {c : Tr} {k : Nat} (h : cs[k]? = some c) : ∃ a b, cs = a ++ c :: b ∧ a.length = k ∧ a = cs.take k ∧ ∀ d, cs.set k d = a ++ d :: b := by
  have hk := (List.getElem?_eq_some_iff.mp h).1
  have e : cs = cs.take k ++ c :: cs.drop (k + 1) := by
    rw [← (List.getElem?_eq_some_iff.mp h).2, ← List.drop_eq_getElem_cons hk, List.take_append_drop]
  have hl : (cs.take k).length = k := by rw [List.length_take]; omega
  refine ⟨cs.take k, cs.drop (k + 1), e, hl, rfl, fun d => ?_⟩
  conv => lhs; rw [e]
  rw [List.set_append_right _ _ (by omega), hl, Nat.sub_self, List.set_cons_zero]
theorem costs_append (f : Int → Int) : ∀ a b : List Tr, Tr.costsBy f (a ++ b) = Tr.costsBy f a + Tr.costsBy f b
  | [], b => by simp [Tr.costsBy]
  | c :: a, b => by simp [Tr.costsBy, costs_append f a b]; omega
theorem row_split : ∀ {p : List Nat} {t u : Tr}, t.at p = some u → ∃ pre post, t.row = pre ++ u.row ++ post ∧ pre.length = t.ahead p ∧ ∀ o, (t.put p o).row = pre ++ o.row ++ post
  | [], t, u, h => by
    cases at_nil h
    exact ⟨[], [], by simp, by cases t <;> rw [Tr.ahead] <;> rfl, fun o => by rw [put_nil]; simp⟩
  | k :: p, t, u, h => by
    obtain ⟨n, cs, c, rfl, hc, h⟩ := at_cons h
    obtain ⟨pre, post, e1, e2, e3⟩ := row_split h
    obtain ⟨a, b, f1, f2, f3, f4⟩ := split_at hc
    refine ⟨Tr.rows a ++ pre, post ++ Tr.rows b, ?_, ?_, fun o => ?_⟩
    · rw [Tr.row, f1, rows_append, Tr.rows, e1]; simp
    · rw [List.length_append, e2, Tr.ahead, ← f3, hc]
    · rw [put_cons hc, Tr.row, f4, rows_append, Tr.rows, e3]; simp
theorem put_sums (f : Int → Int) : ∀ {p : List Nat} {t u : Tr} (o : Tr), t.at p = some u → (t.put p o).costBy f + u.costBy f = t.costBy f + o.costBy f ∧ (t.put p o).knots + u.knots = t.knots + o.knots ∧ o.depth + p.length ≤ (t.put p o).depth ∧ (t.put p o).at p = some o ∧ (t.put p o).put p u = t
  | [], t, u, o, h => by
    cases at_nil h
    rw [put_nil, put_nil]
    exact ⟨by omega, by omega, by simp, by cases o <;> rw [Tr.at], rfl⟩
  | k :: p, t, u, o, h => by
    obtain ⟨n, cs, c, rfl, hc, h⟩ := at_cons h
    obtain ⟨g1, g2, g3, g4, g5⟩ := put_sums f o h
    obtain ⟨a, b, f1, f2, f3, f4⟩ := split_at hc
    have hk : (cs.set k (c.put p o))[k]? = some (c.put p o) := by rw [f4, List.getElem?_append_right (by omega), f2, Nat.sub_self]; rfl
    have hm : c.put p o ∈ cs.set k (c.put p o) := List.mem_of_getElem? hk
    have hd := depth_mem hm
    rw [put_cons hc]
    refine ⟨?_, ?_, ?_, ?_, ?_⟩
    · rw [Tr.costBy, Tr.costBy, f4]
      conv => rhs; rw [f1]
      rw [costs_append, costs_append, Tr.costsBy, Tr.costsBy]; omega
    · rw [Tr.knots, Tr.knots, f4]
      conv => rhs; rw [f1]
      rw [knotss_append, knotss_append, Tr.knotss, Tr.knotss]; omega
    · rw [Tr.depth, List.length_cons]; omega
    · rw [Tr.at, hk]; exact g4
    · rw [put_cons hk, g5, f4, List.set_append_right _ _ (by omega), f2, Nat.sub_self, List.set_cons_zero, ← f1]
theorem rts_set {rs : List Rule} {d : Tr} : ∀ {ps : List Str} {cs : List Tr} {k : Nat} {c : Tr}, Rts rs ps cs → cs[k]? = some c → c.isNd = true → (∀ y, Rt rs y c → Rt rs y d) → Rts rs ps (cs.set k d)
  | _, _, _, _, .nil, h, _, _ => by simp at h
  | _, _, 0, _, .word hp t, h, hn, _ => by simp at h; subst h; cases hn
  | _, _, 0, _, .name hp hc t, h, _, hd => by simp at h; subst h; rw [List.set_cons_zero]; exact .name hp (hd _ hc) t
  | _, _, k + 1, _, .word hp t, h, hn, hd => by rw [List.set_cons_succ]; exact .word hp (rts_set t (by simpa using h) hn hd)
  | _, _, k + 1, _, .name hp hc t, h, hn, hd => by rw [List.set_cons_succ]; exact .name hp hc (rts_set t (by simpa using h) hn hd)
theorem nd_at {t u : Tr} : ∀ {p : List Nat}, t.at p = some u → u.isNd = true → t.isNd = true
  | [], h, hn => by cases at_nil h; exact hn
  | k :: p, h, _ => by obtain ⟨n, cs, c, rfl, _⟩ := at_cons h; rfl
theorem rt_nd {rs : List Rule} {x : Str} {u : Tr} (h : Rt rs x u) : u.isNd = true := by cases h; rfl
theorem rt_put {rs : List Rule} {x : Str} {u o : Tr} (hu : Rt rs x u) (ho : Rt rs x o) : ∀ {p : List Nat} {t : Tr} {nm : Str}, t.at p = some u → Rt rs nm t → Rt rs nm (t.put p o)
  | [], t, nm, h, g => by cases at_nil h; rw [put_nil, rt_one g hu]; exact ho
  | k :: p, t, nm, h, g => by
    obtain ⟨n, cs, c, rfl, hc, h⟩ := at_cons h
    rw [put_cons hc]
    cases g with
    | mk h0 hr hs => exact .mk h0 hr (rts_set hs hc (nd_at h (rt_nd hu)) fun y hy => rt_put hu ho h hy)
theorem at_subs : ∀ {p : List Nat} {t u : Tr}, t.at p = some u → u.isNd = true → u ∈ t.subs
  | [], t, u, h, hn => by
    cases at_nil h
    cases t with
    | wd x => cases hn
    | nd n cs => rw [Tr.subs]; exact List.mem_cons_self
  | k :: p, t, u, h, hn => by
    obtain ⟨n, cs, c, rfl, hc, h⟩ := at_cons h
    rw [Tr.subs]
    exact List.mem_cons_of_mem _ (mem_subss (List.mem_of_getElem? hc) (at_subs h hn))
where
  mem_subss : ∀ {cs : List Tr} {c u : Tr}, c ∈ cs → u ∈ c.subs → u ∈ Tr.subss cs
    | d :: cs, c, u, hc, hu => by
      rw [Tr.subss]
      rcases List.mem_cons.mp hc with rfl | hc
      · exact List.mem_append_left _ hu
      · exact List.mem_append_right _ (mem_subss hc hu)
theorem slice_pre {S : List W} {k : Nat} (h : k < S.length) : ¬ (HT.sIx S.length 0 none = 0 ∧ HT.sIx S.length S.length (some (k : Int)) = S.length) := by
  intro ⟨_, e⟩
  simp only [HT.sIx] at e
  split at e <;> omega
theorem good_l_ahead {ws : List W} {M : Mm} {R : K3} (h : sp_l_ahead ws M R) : rd_l_ahead (ends3 R) (start3 N_l_ahead ws) M := by
  obtain ⟨t, u, p, rfl, ha, hz, r⟩ := h
  show rd_l_ahead (ends3 R) [some t.w, some (pathW p), none, none, none] M
  simp? only [rd_l_ahead, rd_l_ahead_0, rd_l_ahead_1, pathW]
  refine for3 (fun i τ M' => ∃ (v : Tr) (m : Nat) (o3 o4 : Option W), τ = [some v.w, some (.rl (p.map fun k : Nat => W.int (k : Int))), some (.int (m : Int)), o3, o4] ∧ M' = M ∧ v.at (p.drop i) = some u ∧ m + v.ahead (p.drop i) = t.ahead p ∧ v.size ≤ 100000) ⟨t, 0, _, _, rfl, rfl, ha, by simp, hz⟩ (fun _ _ _ _ _ => trivial) ?_ ?_
  · rintro i w τ M' hw ⟨v, m, o3, o4, rfl, rfl, hv, hm, hvz⟩
    rw [List.getElem?_map] at hw
    obtain ⟨k, hki, rfl⟩ := Option.map_eq_some_iff.mp hw
    have hi := (List.getElem?_eq_some_iff.mp hki).1
    have hd : p.drop i = k :: p.drop (i + 1) := by
      rw [List.drop_eq_getElem_cons hi]; congr 1; exact (List.getElem?_eq_some_iff.mp hki).2
    rw [hd] at hv hm
    obtain ⟨n, cs, c, rfl, hc, hv⟩ := at_cons hv
    have hkl := (List.getElem?_eq_some_iff.mp hc).1
    have ea : atI (cs.map Tr.w) (k : Int) = some c.w := atI_nat (by rw [List.getElem?_map, hc]; rfl)
    have hcz := size_mem (List.mem_of_getElem? hc)
    rw [Tr.size] at hvz
    rw [Tr.ahead, hc] at hm
    have hm : m + ((Tr.rows (cs.take k)).length + c.ahead (p.drop (i + 1))) = t.ahead p := hm
    simp? only [rd_l_ahead_b1, Tr.w, ws_map]
    refine ⟨slice_pre (by rw [List.length_map]; exact hkl), ?_⟩
    rw [cut_pre (by omega) (by rw [List.length_map]; omega), Int.toNat_natCast, ← List.map_take]
    refine for3 (fun j τ M2 => ∃ (o4 : Option W), τ = [some (.tup [.int n, .tup (cs.map Tr.w)]), some (.rl (p.map fun k : Nat => W.int (k : Int))), some (.int ((m + (Tr.rows (cs.take j)).length : Nat) : Int)), some (.int (k : Int)), o4] ∧ M2 = M') ⟨o4, by simp [Tr.rows], rfl⟩ (fun _ _ _ _ _ => trivial) ?_ ?_
    · rintro j w τ M2 hw ⟨o4, rfl, rfl⟩
      rw [List.getElem?_map] at hw
      obtain ⟨d, hdj, rfl⟩ := Option.map_eq_some_iff.mp hw
      have hjk : j < k := by have := (List.getElem?_eq_some_iff.mp hdj).1; rw [List.length_take] at this; omega
      have hdc : cs[j]? = some d := by rw [List.getElem?_take_of_lt hjk] at hdj; exact hdj
      have htk : cs.take (j + 1) = cs.take j ++ [d] := by rw [List.take_add_one, hdc]; rfl
      have hdz := size_mem (List.mem_of_getElem? hdc)
      have e1 : (Tr.rows (cs.take (j + 1))).length = (Tr.rows (cs.take j)).length + d.row.length := by rw [htk, rows_append, List.length_append, Tr.rows, Tr.rows, List.append_nil]
      rw [e1]
      cases d with
      | wd x =>
        simp? only [Tr.w, rInt.eq_1]
        exact ⟨_, Sub.refl _, some (.str x), by simp [Tr.row]; omega, rfl⟩
      | nd b ds =>
        have ew : (Tr.nd b ds).w = .tup [.int b, .tup (Tr.ws ds)] := by rw [Tr.w]
        rw [ew]
        simp? only [rInt.eq_1]
        refine ⟨.nd b ds, by rw [ew], by omega, New.frz ?_⟩
        simp? only []
        exact ⟨_, Sub.refl _, some (.tup [.int b, .tup (Tr.ws ds)]), by simp; omega, rfl⟩
    · rintro τ M2 ⟨o4, rfl, rfl⟩
      rw [List.length_map, List.length_take, Nat.min_eq_left (by omega)]
      simp? only [ea]
      exact ⟨_, Sub.refl _, c, _, _, _, rfl, rfl, hv, by omega, by omega⟩
  · rintro τ M' ⟨v, m, o3, o4, rfl, rfl, hv, hm, _⟩
    rw [List.length_map, List.drop_length] at hv hm
    have e0 : v.ahead [] = 0 := by cases v <;> rw [Tr.ahead]
    rw [e0] at hm
    simp? only [rd_l_ahead_2]
    rw [show m = t.ahead p by omega]
    exact ⟨_, Sub.refl _, r⟩
end Rg
set_option Elab.async false
set_option linter.all false
set_option maxRecDepth 100000
set_option maxHeartbeats 4000000
namespace Rg
open PySem PySem.Spec PyProof.Rows L2 L3
theorem rules_pl {rs : List Rule} (g : GoodRules rs) : ∀ {M : Mm}, Pl 3 (der M (.rl (rs.map ruleW))) := fun {M} w hw => by
  obtain ⟨r, hr, rfl⟩ := List.mem_map.mp hw
  have h := g.asc hr
  intro x hx
  simp at hx
  rcases hx with rfl | rfl | rfl
  · exact strOk_asc h.1
  · intro y hy
    obtain ⟨t, ht, rfl⟩ := List.mem_map.mp hy
    exact strOk_asc (h.2 t ht)
  · trivial
theorem words_pl {xs : List Str} (h : ∀ x ∈ xs, sOk x) {M : Mm} : Pl 2 (der M (.rl (xs.map W.str))) := fun w hw => by
  obtain ⟨x, hx, rfl⟩ := List.mem_map.mp hw; exact h x hx
theorem good_l_right {ws : List W} {M : Mm} {R : K3} (h : sp_l_right ws M R) : rd_l_right (ends3 R) (start3 N_l_right ws) M := by
  obtain ⟨rs, nm, x, t, u, o, p, rfl, hp, gt, hu, hx, go, r⟩ := h
  show rd_l_right (ends3 R) [some (.rl (rs.map ruleW)), some t.w, some (pathW p), some o.w, none, none, none, none, none, none] M
  obtain ⟨l1, l2, l3⟩ := at_le hu
  obtain ⟨k1, k2, k3⟩ := put_le (o := o) hu
  obtain ⟨s1, s2, s3, s4, s5⟩ := put_sums (costOf rs) o hu
  obtain ⟨pre, post, e1, e2, e3⟩ := row_split hu
  have e4 := e3 o
  clear e3
  have hr := rt_put hx go.rt hu gt.rt
  have hnn := rt_nd hr
  have hut := rt_nd hx
  have htn := rt_nd gt.rt
  have hon := rt_nd go.rt
  have hd := gt.deep
  have hz := gt.size
  have hz2 := go.size
  have k3 := k3 gt.ok go.ok
  obtain ⟨n0, r0, cs, et, hr0, hnm0, _⟩ := gt.nd
  have ea : atI (rs.map ruleW) (n0 : Int) = some (ruleW r0) := atI_nat (by rw [List.getElem?_map, hr0]; rfl)
  have htw : t.w = .tup [.int (n0 : Int), .tup (Tr.ws cs)] := by rw [et, Tr.w]
  have hpl : p.length ≤ 29 := by omega
  have hrl := row_len t
  have hrn := row_len (t.put p o)
  simp? only [rd_l_right, rd_l_right_0]
  refine ⟨t, u, p, rfl, hu, ?_⟩
  simp? only [rd_l_right_1]
  refine ⟨t, u, o, p, rfl, hu, hpl, by omega, ?_⟩
  generalize hN : t.put p o = N at *
  simp? only [rd_l_right_2]
  rw [htw]
  simp? only [ea, ruleW]
  rw [hnm0, ← htw]
  refine ⟨rs, nm, N, rfl, hp, k3, .inr hr, by omega, fun b hb => ?_⟩
  have hb : b = true := hb.mpr hr
  subst hb
  simp? only [rd_l_right_3]
  refine ⟨t, rfl, by omega, New.frz ?_⟩
  simp? only [rd_l_right_4]
  refine ⟨t, u, p, rfl, hu, by omega, ?_⟩
  simp? only [rd_l_right_5]
  refine ⟨u, rfl, by omega, New.frz ?_⟩
  have c1 : cutW (t.row.map W.str) (some ((t.ahead p : Nat) + ((u.row.map W.str).length : Nat) : Int)) none = post.map W.str := by
    rw [cut_suf (by omega), ← e2, List.length_map, ← Int.natCast_add, Int.toNat_natCast, ← List.map_drop, e1, List.append_assoc, ← List.length_append, ← List.append_assoc, List.drop_left]
  have c2 : cutW (t.row.map W.str) none (some (t.ahead p : Nat)) = pre.map W.str := by
    rw [cut_pre (by omega) (by rw [List.length_map, e1, ← e2]; simp; omega), ← e2, Int.toNat_natCast, ← List.map_take, e1, List.append_assoc, List.take_left]
  simp? only [c1]
  simp? only [rd_l_right_6]
  refine ⟨N, rfl, by omega, New.frz ?_⟩
  simp? only [c2]
  refine ⟨o, rfl, by omega, New.frz ?_⟩
  have q1 := congrArg List.length e1
  have q2 := congrArg List.length e4
  rw [List.length_append, List.length_append] at q1 q2
  simp? only []
  refine ⟨by rw [List.length_map, List.length_map]; exact small (by omega), by rw [List.length_append, List.length_map, List.length_map, List.length_map]; exact small (by omega), ?_⟩
  rw [← List.map_append, ← List.map_append, ← e4]
  refine rEq_same 2 (by decide) (words_pl (row_ok N k3)) rfl ⟨_, rfl, ?_⟩
  simp? only [rd_l_right_7]
  refine ⟨rs, nm, t, rfl, gt.rt, by omega, rs, x, u, rfl, hx, by omega, ?_⟩
  simp? only [rd_l_right_8]
  refine ⟨rs, nm, N, rfl, hr, by omega, rs, x, o, rfl, go.rt, by omega, ?_⟩
  simp? only []
  rw [if_neg (by omega)]
  simp? only [rd_l_right_9]
  refine ⟨N, rfl, hnn, by omega, t, rfl, htn, by omega, u, rfl, hut, by omega, o, rfl, hon, by omega, ?_⟩
  simp? only []
  rw [if_neg (by omega)]
  refine ⟨N, rfl, hnn, by omega, o, rfl, hon, by omega, ?_⟩
  simp? only [pathW]
  rw [if_neg (by rw [List.length_map]; omega)]
  simp? only [rd_l_right_10]
  refine ⟨t, rfl, by omega, New.frz ?_⟩
  refine rEq_same 2 (by decide) (words_pl (row_ok t gt.ok)) rfl ⟨_, rfl, ?_⟩
  simp? only []
  refine ⟨N, o, u, p, rfl, s4, hpl, by omega, ?_⟩
  rw [s5]
  refine rEq_same 50 (by decide) ?_ rfl ⟨_, Sub.refl _, r⟩
  have e : der M t.w = t.w := by rw [htw]; rfl
  rw [e]
  exact Pl.mono (w_pl t gt.ok) (by omega)
end Rg
set_option Elab.async false
set_option linter.all false
set_option maxRecDepth 100000
set_option maxHeartbeats 4000000
namespace Rg
open PySem PySem.Spec PyProof.Rows L2 L3
theorem twoW_get {lo : Int} {n i : Nat} {w : W} (h : (twoW lo n)[i]? = some w) : i < n ∧ w = .int (lo + (i : Nat) * 2) := by
  unfold twoW at h
  rw [List.getElem?_map] at h
  obtain ⟨j, hj, rfl⟩ := Option.map_eq_some_iff.mp h
  obtain ⟨h1, h2⟩ := List.getElem?_eq_some_iff.mp hj
  rw [List.length_range] at h1
  rw [List.getElem_range] at h2
  exact ⟨h1, by rw [h2]⟩
theorem good_law {ws : List W} {M : Mm} {R : K3} (h : sp_law ws M R) : rd_law (ends3 R) (start3 N_law ws) M := by
  obtain ⟨ns, rfl, hl, hM, r⟩ := h
  have hi := L3.ints_map ns
  show rd_law (ends3 R) [some (.sc (ns.map W.int)), none, none, none, none, none, none, none, none, none, none, none, none, none] M
  simp? only [rd_law, rd_law_0]
  refine ⟨_, 0, .inl rfl, hi, by decide, fun c0 => ⟨c0, rfl, fun many most hmm => ?_⟩⟩
  simp? only [rd_law_1]
  refine ⟨_, many, most, rfl, hi.cut _ _, ?_, by omega, by omega, by omega, by omega, fun rs gr hpm ⟨hs, hsl, hhs⟩ => New.frz ?_⟩
  · have := cut_mid (S := ns.map W.int) (i := 1) (j := 12) (by decide) (by decide); omega
  have hpok := gr.pok
  simp? only [rd_law_2]
  refine ⟨rs, rfl, gr, New.frz ?_⟩
  simp? only [rd_law_3]
  refine ⟨rs, rfl, hpok, fun q hq => by have := hpm q hq; omega, fun ch hch => NewK.frz ?_⟩
  have bed : Bed rs ch := .of gr hmm hpm hsl hhs hch
  have hcl := bed.len
  have hcm := cut_mid (S := ns.map W.int) (i := 12) (j := 28) (by decide) (by decide)
  simp? only [rd_law_4]
  refine ⟨small (by omega), ?_⟩
  have hcells : Ints ([W.int 0, W.int 0] ++ cutW (ns.map W.int) (some 12) (some 28)) := fun w hw => by
    rcases List.mem_append.mp hw with hm | hm
    · simp at hm; exact ⟨0, hm⟩
    · exact hi w (cutW_mem hm)
  have hcl2 : ([W.int 0, W.int 0] ++ cutW (ns.map W.int) (some 12) (some 28)).length ≤ 20 := by rw [List.length_append]; simp; omega
  generalize [W.int 0, W.int 0] ++ cutW (ns.map W.int) (some 12) (some 28) = cells at hcells hcl2
  simp? only [rd_law_5, L3.iR3]
  refine ⟨_, _, rfl, by omega, ?_⟩
  refine for3 (fun i τ M' => ∃ o7 o8 o9 o10 o11 o12 o13 : Option W, τ = [some (.sc (ns.map W.int)), some (.int many), some (.int most), some (.rl (rs.map ruleW)), some (.rl (rs.map ruleW)), some (.dk (chW ch)), some (.rl cells), o7, o8, o9, o10, o11, o12, o13] ∧ M' = M) ⟨_, _, _, _, _, _, _, rfl, rfl⟩ (fun _ _ _ _ _ => trivial) ?_ ?_
  · rintro i w τ M' hw ⟨o7, o8, o9, o10, o11, o12, o13, rfl, rfl⟩
    obtain ⟨hin, rfl⟩ := twoW_get hw
    have hk0 : (0 : Int) ≤ 0 + (i : Nat) * 2 := by omega
    have hk1 : (0 : Int) + (i : Nat) * 2 < cells.length := by unfold many2 at hin; omega
    generalize (0 : Int) + (i : Nat) * 2 = kk at hk0 hk1
    obtain ⟨w, ew, ew2, mw⟩ := atI_of (xs := cells) hk0 hk1
    obtain ⟨c, rfl⟩ := hcells w mw
    simp? only [rd_law_b5, ew]
    refine ⟨c, rfl, fun z => ?_⟩
    simp? only []
    have hchl : (chW ch).length = ch.length := by unfold chW; rw [List.length_map]
    refine NewK.frz ?_
    show ∃ k, W.bl (!(chW ch).isEmpty) = W.bl k ∧ _
    refine ⟨_, rfl, ?_⟩
    cases hc0 : (chW ch).isEmpty with
    | true => exact ⟨_, Sub.refl _, _, _, _, _, _, _, _, rfl, rfl⟩
    | false =>
      have hpos : 0 < ch.length := by
        cases ch with
        | nil => cases hc0
        | cons a b => simp
      rw [if_pos (by rfl)]
      refine ⟨ch.map Prod.fst, chW_keys ch, by rw [List.length_map]; omega, fun ss hss => ?_⟩
      have hsl2 : ss.length = ch.length := by rw [hss.length_eq, List.length_map]
      obtain ⟨w, ew, mw⟩ := atI_sel (xs := ss.map W.str) (i := z) (n := ((chW ch).length : Int)) (by rw [hchl, List.length_map, hsl2]) (by omega)
      obtain ⟨nm, hnm, rfl⟩ := List.mem_map.mp mw
      have hnc : nm ∈ ch.map Prod.fst := hss.mem_iff.mp hnm
      refine ⟨by omega, _, ew, ?_⟩
      intro q hq
      refine grow_new2 bed hnc fun t g hsb o => ?_
      generalize hN : put M' q o = N
      have sN : L3.Sub M' N := by rw [← hN]; exact Sub.new hq
      have hnd := rt_nd g.rt
      have hd := g.deep
      have hz := g.size
      refine ⟨t, [], rfl, hnd, Nat.le_trans g.deep (by decide), by omega, by simp; omega, fun ps hps1 hps2 hps3 => ?_⟩
      obtain ⟨w, epw, mpw⟩ := atI_sel (xs := ps.map pathW) (i := z / 13) (n := ((ps.map pathW).length : Int)) rfl (by rw [List.length_map]; omega)
      obtain ⟨p, hpm2, rfl⟩ := List.mem_map.mp mpw
      obtain ⟨p', u, epp, hu, hun, hpl⟩ := hps3 p hpm2
      rw [List.nil_append] at epp
      subst epp
      simp? only [epw]
      refine ⟨by rw [List.length_map]; omega, t, u, p, rfl, hu, ?_⟩
      obtain ⟨x, hxc, hxu⟩ := hsb u (at_subs hu hun)
      obtain ⟨n1, cs1, r1, eu, h01, hr1, hnm1, _⟩ := rt_inv hxu
      have ea : atI (rs.map ruleW) n1 = some (ruleW r1) := by
        obtain ⟨m, rfl⟩ := Int.eq_ofNat_of_zero_le h01
        exact atI_nat (by rw [List.getElem?_map, show rs[m]? = some r1 from hr1]; rfl)
      have huw : u.w = .tup [.int n1, .tup (Tr.ws cs1)] := by rw [eu, Tr.w]
      rw [huw]
      simp? only [ea, ruleW]
      rw [hnm1]
      refine ⟨cells, kk + 1, .inr rfl, hcells, by omega, fun c2 => ⟨c2, rfl, fun z2 => ?_⟩⟩
      simp? only []
      intro q2 hq2
      refine grow_new2 bed hxc fun o2 g2 _ o3 => ?_
      refine ⟨rs, nm, x, t, u, o2, p, rfl, hpok, g, hu, hxu, g2, ?_⟩
      simp? only []
      exact ⟨_, sN.trans (Sub.new hq2), _, _, _, _, _, _, _, rfl, rfl⟩
  · rintro τ M' ⟨o7, o8, o9, o10, o11, o12, o13, rfl, rfl⟩
    simp? only [rd_law_6]
    exact rEq_same 3 (by decide) (rules_pl gr) rfl ⟨_, Sub.refl _, r _⟩
end Rg
set_option Elab.async false
set_option linter.all false
set_option maxRecDepth 100000
set_option maxHeartbeats 4000000
namespace Rg
open PySem PySem.Spec PyProof.Rows L2 L3
noncomputable def top (i : Nat) : Stmt := PySem.Challenge.pw_readgrove_k09_whole_put_in.main.body.getD i (.Pass ⟨0, 0, 0, 0⟩)
noncomputable abbrev s_made_of : Stmt := top 6
noncomputable abbrev s_is_name : Stmt := top 7
noncomputable abbrev s_names : Stmt := top 8
noncomputable abbrev s_check_rule : Stmt := top 9
noncomputable abbrev s_grammar_of : Stmt := top 10
noncomputable abbrev s_is_tree : Stmt := top 12
noncomputable abbrev s_row_of : Stmt := top 13
noncomputable abbrev s_trees_within : Stmt := top 14
noncomputable abbrev s_tree_cost : Stmt := top 15
noncomputable abbrev s_knots : Stmt := top 16
noncomputable abbrev s_depth : Stmt := top 17
noncomputable abbrev s_right_knot : Stmt := top 18
noncomputable abbrev s_right_tree : Stmt := top 19
noncomputable abbrev s_l_cell_at : Stmt := top 21
noncomputable abbrev s_l_stir : Stmt := top 22
noncomputable abbrev s_l_drawn : Stmt := top 23
noncomputable abbrev s_l_unlike : Stmt := top 24
noncomputable abbrev s_l_rule : Stmt := top 25
noncomputable abbrev s_l_rules : Stmt := top 26
noncomputable abbrev s_l_sizes : Stmt := top 27
noncomputable abbrev s_l_is_name : Stmt := top 28
noncomputable abbrev s_l_all_in : Stmt := top 29
noncomputable abbrev s_l_chosen : Stmt := top 30
noncomputable abbrev s_l_grow : Stmt := top 31
noncomputable abbrev s_l_number : Stmt := top 32
noncomputable abbrev s_l_paths : Stmt := top 33
noncomputable abbrev s_l_at : Stmt := top 34
noncomputable abbrev s_l_put : Stmt := top 35
noncomputable abbrev s_l_ahead : Stmt := top 36
noncomputable abbrev s_l_right : Stmt := top 37
noncomputable abbrev s_law : Stmt := top 38
structure Tx (mg : Str → Option Value) : Prop where
  c_FIGURES : ∃ t, mg "FIGURES" = some (.str "0123456789" t)
  c_GREAT_LETTERS : ∃ t, mg "GREAT_LETTERS" = some (.str "ABCDEFGHIJKLMNOPQRSTUVWXYZ" t)
  all_ : mg "all" = none
  int_ : mg "int" = none
  isinstance_ : mg "isinstance" = none
  len_ : mg "len" = none
  list_ : mg "list" = none
  max_ : mg "max" = none
  range_ : mg "range" = none
  reversed_ : mg "reversed" = none
  sorted_ : mg "sorted" = none
  str_ : mg "str" = none
  sum_ : mg "sum" = none
  tuple_ : mg "tuple" = none
  zip_ : mg "zip" = none
section
variable {P : Program} {w : World} {K : PySem.W.Frag} {mg : Str → Option Value} {base : Heap}
theorem sc_made_of : FnScope N_made_of ["text", "signs"] (defScope s_made_of) := ⟨rfl, rfl, rfl, by decide +kernel, rfl, by decide +kernel, by decide +kernel⟩
theorem tm_made_of {f : Addr} {cdv : Value} {A : Around} {outer : List Env} {s : Shared} {H : Hp} {E : XK} (T : Tx mg) (hr : Room 0 (A.deeper (envOfC "made_of" (defScope s_made_of) s.heap.objs.size f cdv))) :
    Ps3 (cxOf CX0 P w K mg base N_made_of "made_of" (defScope s_made_of) f cdv A outer s H E).nox (defBody s_made_of) rd_made_of := by
  have nd := sc_made_of.nd
  have hu := hu_of hr
  exact (ss_one (s_ret (v_and (v_cmp (o_ne hr.units) (v 0) v_str (by first | exact nomark _ | with_unfolding_all rfl)) (v_one (v_callB (c_all rfl) (by rfl) T.all_ bt_all (a_cons (v_frz (v_comp ["sign", "signs"] [none, some 1] (i_seqN (v 0)) (fun B => (w_name (i := 0) (show (["sign", "signs"] : List Str).Nodup by decide +kernel) rfl (by first | exact Or.inl rfl | exact Or.inr rfl))) (fun B => if_nil) (fun B => (v_cmp (o_in hu) (v 0) (v 1) (by first | exact nomark _ | with_unfolding_all rfl))))) a_nil))))))
theorem ok_made_of (T : Tx mg) {f_made_of : Addr} {fd_made_of : FuncData} (F_made_of : Df K mg "made_of" s_made_of ["text", "signs"] f_made_of fd_made_of) : FnOk P w K mg base CX0 1 f_made_of fd_made_of ["text", "signs"] (upSp K sp_made_of) :=
  ok3 F_made_of.fn sc_made_of len_made_of fun cdv A outer s H E ws M R hr h => ⟨rd_made_of, tm_made_of T hr, good_made_of h⟩
theorem sc_is_name : FnScope N_is_name ["part"] (defScope s_is_name) := ⟨rfl, rfl, rfl, by decide +kernel, rfl, by decide +kernel, by decide +kernel⟩
theorem tm_is_name {f : Addr} {cdv : Value} {A : Around} {outer : List Env} {s : Shared} {H : Hp} {E : XK} (T : Tx mg) {f_made_of : Addr} {fd_made_of : FuncData} (F_made_of : Df K mg "made_of" s_made_of ["text", "signs"] f_made_of fd_made_of) (G_made_of : FnOk P w K mg base CX0 1 f_made_of fd_made_of ["text", "signs"] (upSp K sp_made_of)) (hr : Room 1 (A.deeper (envOfC "is_name" (defScope s_is_name) s.heap.objs.size f cdv))) :
    Ps3 (cxOf CX0 P w K mg base N_is_name "is_name" (defScope s_is_name) f cdv A outer s H E).nox (defBody s_is_name) rd_is_name := by
  obtain ⟨t_GREAT_LETTERS, h_GREAT_LETTERS⟩ := T.c_GREAT_LETTERS
  obtain ⟨t_FIGURES, h_FIGURES⟩ := T.c_FIGURES
  have nd := sc_is_name.nd
  have hu := hu_of hr
  exact (ss_cons (s_set (i := 1) nd rfl (by first | exact Or.inl rfl | exact Or.inr rfl) (v_bm PySem.F.plainAttrs_str PySem.F.slot_str_partition PySem.F.type_str_partition m_partition (v 0) (a_cons v_str a_nil)))
      (ss_cons (s_set (i := 2) nd rfl (by first | exact Or.inl rfl | exact Or.inr rfl) (v_or (v_cmp (o_eq hr.units) (v_ix hu (v 1) v_int) v_str (by first | exact nomark _ | with_unfolding_all rfl)) (v_one (v_call G_made_of (hr.mono (by decide)) (by rfl) F_made_of.at_ F_made_of.fn.kp F_made_of.bi (a_cons (v_ix hu (v 1) v_int) (a_cons (v_glob (y := V.str "0123456789") (by rfl) h_FIGURES ⟨_, rfl⟩ (fun _ _ => .str _)) a_nil))))))
      (ss_one (s_ret (v_and (v 2) (v_one (v_call G_made_of (hr.mono (by decide)) (by rfl) F_made_of.at_ F_made_of.fn.kp F_made_of.bi (a_cons (v_ix hu (v 1) v_int) (a_cons (v_glob (y := V.str "ABCDEFGHIJKLMNOPQRSTUVWXYZ") (by rfl) h_GREAT_LETTERS ⟨_, rfl⟩ (fun _ _ => .str _)) a_nil)))))))))
theorem ok_is_name (T : Tx mg) {f_is_name : Addr} {fd_is_name : FuncData} (F_is_name : Df K mg "is_name" s_is_name ["part"] f_is_name fd_is_name) {f_made_of : Addr} {fd_made_of : FuncData} (F_made_of : Df K mg "made_of" s_made_of ["text", "signs"] f_made_of fd_made_of) : FnOk P w K mg base CX0 2 f_is_name fd_is_name ["part"] (upSp K sp_is_name) :=
  ok3 F_is_name.fn sc_is_name len_is_name fun cdv A outer s H E ws M R hr h => ⟨rd_is_name, tm_is_name T F_made_of (ok_made_of T F_made_of) hr, good_is_name h⟩
theorem sc_names : FnScope N_names ["grammar"] (defScope s_names) := ⟨rfl, rfl, rfl, by decide +kernel, rfl, by decide +kernel, by decide +kernel⟩
theorem tm_names {f : Addr} {cdv : Value} {A : Around} {outer : List Env} {s : Shared} {H : Hp} {E : XK} (T : Tx mg) (hr : Room 0 (A.deeper (envOfC "names" (defScope s_names) s.heap.objs.size f cdv))) :
    Ps3 (cxOf CX0 P w K mg base N_names "names" (defScope s_names) f cdv A outer s H E).nox (defBody s_names) rd_names := by
  have nd := sc_names.nd
  have hu := hu_of hr
  exact (ss_cons (s_set (i := 1) nd rfl (by first | exact Or.inl rfl | exact Or.inr rfl) v_dnewK)
      (ss_cons (s_for PassesOwn.never rfl (i_seqN (v 0)) (w_name (i := 2) nd rfl (by first | exact Or.inl rfl | exact Or.inr rfl))
        (ss_one (s_asg v_bl (w_sub hu (v 1) (v_ix hu (v 2) v_int)))))
      (ss_one (s_ret (v_callTy (c_list rfl) (by rfl) T.list_ bt_list (a_cons (v 1) a_nil))))))
theorem ok_names (T : Tx mg) {f_names : Addr} {fd_names : FuncData} (F_names : Df K mg "names" s_names ["grammar"] f_names fd_names) : FnOk P w K mg base CX0 1 f_names fd_names ["grammar"] (upSp K sp_names) :=
  ok3 F_names.fn sc_names len_names fun cdv A outer s H E ws M R hr h => ⟨rd_names, tm_names T hr, good_names h⟩
theorem sc_check_rule : FnScope N_check_rule ["rule", "known"] (defScope s_check_rule) := ⟨rfl, rfl, rfl, by decide +kernel, rfl, by decide +kernel, by decide +kernel⟩
theorem tm_check_rule {f : Addr} {cdv : Value} {A : Around} {outer : List Env} {s : Shared} {H : Hp} {E : XK} (T : Tx mg) {f_is_name : Addr} {fd_is_name : FuncData} (F_is_name : Df K mg "is_name" s_is_name ["part"] f_is_name fd_is_name) (G_is_name : FnOk P w K mg base CX0 2 f_is_name fd_is_name ["part"] (upSp K sp_is_name)) (hr : Room 2 (A.deeper (envOfC "check_rule" (defScope s_check_rule) s.heap.objs.size f cdv))) :
    Ps3 (cxOf CX0 P w K mg base N_check_rule "check_rule" (defScope s_check_rule) f cdv A outer s H E).nox (defBody s_check_rule) rd_check_rule := by
  have nd := sc_check_rule.nd
  have hu := hu_of hr
  exact (ss_cons (s_if (t_cmp o_lt (v_ix hu (v 0) v_int) v_int (by first | exact nomark _ | with_unfolding_all rfl))
        (ss_one s_never)
        ss_nil)
      (ss_one (s_for PassesOwn.never rfl (i_seqN (v_ix hu (v 0) v_int)) (w_name (i := 2) nd rfl (by first | exact Or.inl rfl | exact Or.inr rfl))
        (ss_one (s_if (PW.pt (t_and (t_val (v_call G_is_name (hr.mono (by decide)) (by rfl) F_is_name.at_ F_is_name.fn.kp F_is_name.bi (a_cons (v 2) a_nil))) (t_and1 (t_cmp (o_notin hu) (v 2) (v 1) (by first | exact nomark _ | with_unfolding_all rfl)))))
        (ss_one s_never)
        ss_nil)))))
theorem ok_check_rule (T : Tx mg) {f_check_rule : Addr} {fd_check_rule : FuncData} (F_check_rule : Df K mg "check_rule" s_check_rule ["rule", "known"] f_check_rule fd_check_rule) {f_made_of : Addr} {fd_made_of : FuncData} (F_made_of : Df K mg "made_of" s_made_of ["text", "signs"] f_made_of fd_made_of) {f_is_name : Addr} {fd_is_name : FuncData} (F_is_name : Df K mg "is_name" s_is_name ["part"] f_is_name fd_is_name) : FnOk P w K mg base CX0 3 f_check_rule fd_check_rule ["rule", "known"] (upSp K sp_check_rule) :=
  ok3 F_check_rule.fn sc_check_rule len_check_rule fun cdv A outer s H E ws M R hr h => ⟨rd_check_rule, tm_check_rule T F_is_name (ok_is_name T F_is_name F_made_of) hr, good_check_rule h⟩
theorem sc_grammar_of : FnScope N_grammar_of ["rules"] (defScope s_grammar_of) := ⟨rfl, rfl, rfl, by decide +kernel, rfl, by decide +kernel, by decide +kernel⟩
theorem tm_grammar_of {f : Addr} {cdv : Value} {A : Around} {outer : List Env} {s : Shared} {H : Hp} {E : XK} (T : Tx mg) {f_names : Addr} {fd_names : FuncData} (F_names : Df K mg "names" s_names ["grammar"] f_names fd_names) (G_names : FnOk P w K mg base CX0 1 f_names fd_names ["grammar"] (upSp K sp_names)) {f_check_rule : Addr} {fd_check_rule : FuncData} (F_check_rule : Df K mg "check_rule" s_check_rule ["rule", "known"] f_check_rule fd_check_rule) (G_check_rule : FnOk P w K mg base CX0 3 f_check_rule fd_check_rule ["rule", "known"] (upSp K sp_check_rule)) (hr : Room 3 (A.deeper (envOfC "grammar_of" (defScope s_grammar_of) s.heap.objs.size f cdv))) :
    Ps3 (cxOf CX0 P w K mg base N_grammar_of "grammar_of" (defScope s_grammar_of) f cdv A outer s H E).nox (defBody s_grammar_of) rd_grammar_of := by
  have nd := sc_grammar_of.nd
  have hu := hu_of hr
  exact (ss_cons (s_if (t_cmp (o_eq hr.units) (v_callB c_len (by rfl) T.len_ bt_len (a_cons (v 0) a_nil)) v_int (by first | exact nomark _ | with_unfolding_all rfl))
        (ss_one s_never)
        ss_nil)
      (ss_cons (s_set (i := 1) nd rfl (by first | exact Or.inl rfl | exact Or.inr rfl) (v_frz (v_call G_names (hr.mono (by decide)) (by rfl) F_names.at_ F_names.fn.kp F_names.bi (a_cons (v 0) a_nil))))
      (ss_cons (s_for PassesOwn.never rfl (i_seqN (v 0)) (w_name (i := 2) nd rfl (by first | exact Or.inl rfl | exact Or.inr rfl))
        (ss_one (s_expr (v_call G_check_rule (hr.mono (by decide)) (by rfl) F_check_rule.at_ F_check_rule.fn.kp F_check_rule.bi (a_cons (v 2) (a_cons (v 1) a_nil))))))
      (ss_one (s_ret (v_callTy (c_list rfl) (by rfl) T.list_ bt_list (a_cons (v 0) a_nil)))))))
theorem ok_grammar_of (T : Tx mg) {f_grammar_of : Addr} {fd_grammar_of : FuncData} (F_grammar_of : Df K mg "grammar_of" s_grammar_of ["rules"] f_grammar_of fd_grammar_of) {f_made_of : Addr} {fd_made_of : FuncData} (F_made_of : Df K mg "made_of" s_made_of ["text", "signs"] f_made_of fd_made_of) {f_is_name : Addr} {fd_is_name : FuncData} (F_is_name : Df K mg "is_name" s_is_name ["part"] f_is_name fd_is_name) {f_names : Addr} {fd_names : FuncData} (F_names : Df K mg "names" s_names ["grammar"] f_names fd_names) {f_check_rule : Addr} {fd_check_rule : FuncData} (F_check_rule : Df K mg "check_rule" s_check_rule ["rule", "known"] f_check_rule fd_check_rule) : FnOk P w K mg base CX0 4 f_grammar_of fd_grammar_of ["rules"] (upSp K sp_grammar_of) :=
  ok3 F_grammar_of.fn sc_grammar_of len_grammar_of fun cdv A outer s H E ws M R hr h => ⟨rd_grammar_of, tm_grammar_of T F_names (ok_names T F_names) F_check_rule (ok_check_rule T F_check_rule F_made_of F_is_name) hr, good_grammar_of h⟩
theorem sc_is_tree : FnScope N_is_tree ["child"] (defScope s_is_tree) := ⟨rfl, rfl, rfl, by decide +kernel, rfl, by decide +kernel, by decide +kernel⟩
theorem tm_is_tree {f : Addr} {cdv : Value} {A : Around} {outer : List Env} {s : Shared} {H : Hp} {E : XK} (T : Tx mg) (hr : Room 0 (A.deeper (envOfC "is_tree" (defScope s_is_tree) s.heap.objs.size f cdv))) :
    Ps3 (cxOf CX0 P w K mg base N_is_tree "is_tree" (defScope s_is_tree) f cdv A outer s H E).nox (defBody s_is_tree) rd_is_tree := by
  have nd := sc_is_tree.nd
  have hu := hu_of hr
  exact (ss_one (s_ret (v_callB c_isi (by rfl) T.isinstance_ bt_isinstance (a_cons (v 0) (a_cons (v_bltn (by rfl) T.tuple_ bt_tuple (y := .ty "tuple") rfl (fun _ _ => .ty _)) a_nil)))))
theorem ok_is_tree (T : Tx mg) {f_is_tree : Addr} {fd_is_tree : FuncData} (F_is_tree : Df K mg "is_tree" s_is_tree ["child"] f_is_tree fd_is_tree) : FnOk P w K mg base CX0 1 f_is_tree fd_is_tree ["child"] (upSp K sp_is_tree) :=
  ok3 F_is_tree.fn sc_is_tree len_is_tree fun cdv A outer s H E ws M R hr h => ⟨rd_is_tree, tm_is_tree T hr, good_is_tree h⟩
theorem sc_row_of : FnScope N_row_of ["tree"] (defScope s_row_of) := ⟨rfl, rfl, rfl, by decide +kernel, rfl, by decide +kernel, by decide +kernel⟩
theorem tm_row_of {f : Addr} {cdv : Value} {A : Around} {outer : List Env} {s : Shared} {H : Hp} {E : XK} (T : Tx mg) {f_is_tree : Addr} {fd_is_tree : FuncData} (F_is_tree : Df K mg "is_tree" s_is_tree ["child"] f_is_tree fd_is_tree) (G_is_tree : FnOk P w K mg base CX0 1 f_is_tree fd_is_tree ["child"] (upSp K sp_is_tree)) (hr : Room 1 (A.deeper (envOfC "row_of" (defScope s_row_of) s.heap.objs.size f cdv))) :
    Ps3 (cxOf CX0 P w K mg base N_row_of "row_of" (defScope s_row_of) f cdv A outer s H E).nox (defBody s_row_of) rd_row_of := by
  have nd := sc_row_of.nd
  have hu := hu_of hr
  exact (ss_cons (s_set (i := 1) nd rfl (by first | exact Or.inl rfl | exact Or.inr rfl) (v_lst a_nil))
      (ss_cons (s_set (i := 2) nd rfl (by first | exact Or.inl rfl | exact Or.inr rfl) (v_lst (a_cons (v 0) a_nil)))
      (ss_cons (s_while PassesOwn.never (t_val (v 2))
        (ss_cons (s_set (i := 3) nd rfl (by first | exact Or.inl rfl | exact Or.inr rfl) (v_bm0 PySem.F.plainAttrs_list PySem.F.slot_list_pop PySem.F.type_list_pop m_pop (v 2)))
      (ss_one (s_if (t_val (v_call G_is_tree (hr.mono (by decide)) (by rfl) F_is_tree.at_ F_is_tree.fn.kp F_is_tree.bi (a_cons (v 3) a_nil)))
        (ss_one (s_expr (v_bm PySem.F.plainAttrs_list PySem.F.slot_list_extend PySem.F.type_list_extend m_extend (v 2) (a_cons (v_listrevF (by rfl) T.list_ (by rfl) T.reversed_ (v_ix hu (v 3) v_int)) a_nil))))
        (ss_one (s_expr (v_bm PySem.F.plainAttrs_list PySem.F.slot_list_append PySem.F.type_list_append m_append (v 1) (a_cons (v 3) a_nil))))))))
      (ss_one (s_ret (v 1))))))
theorem ok_row_of (T : Tx mg) {f_row_of : Addr} {fd_row_of : FuncData} (F_row_of : Df K mg "row_of" s_row_of ["tree"] f_row_of fd_row_of) {f_is_tree : Addr} {fd_is_tree : FuncData} (F_is_tree : Df K mg "is_tree" s_is_tree ["child"] f_is_tree fd_is_tree) : FnOk P w K mg base CX0 2 f_row_of fd_row_of ["tree"] (upSp K sp_row_of) :=
  ok3 F_row_of.fn sc_row_of len_row_of fun cdv A outer s H E ws M R hr h => ⟨rd_row_of, tm_row_of T F_is_tree (ok_is_tree T F_is_tree) hr, good_row_of h⟩
theorem sc_trees_within : FnScope N_trees_within ["tree"] (defScope s_trees_within) := ⟨rfl, rfl, rfl, by decide +kernel, rfl, by decide +kernel, by decide +kernel⟩
theorem tm_trees_within {f : Addr} {cdv : Value} {A : Around} {outer : List Env} {s : Shared} {H : Hp} {E : XK} (T : Tx mg) {f_is_tree : Addr} {fd_is_tree : FuncData} (F_is_tree : Df K mg "is_tree" s_is_tree ["child"] f_is_tree fd_is_tree) (G_is_tree : FnOk P w K mg base CX0 1 f_is_tree fd_is_tree ["child"] (upSp K sp_is_tree)) (hr : Room 1 (A.deeper (envOfC "trees_within" (defScope s_trees_within) s.heap.objs.size f cdv))) :
    Ps3 (cxOf CX0 P w K mg base N_trees_within "trees_within" (defScope s_trees_within) f cdv A outer s H E).nox (defBody s_trees_within) rd_trees_within := by
  have nd := sc_trees_within.nd
  have hu := hu_of hr
  exact (ss_cons (s_set (i := 1) nd rfl (by first | exact Or.inl rfl | exact Or.inr rfl) (v_lst a_nil))
      (ss_cons (s_set (i := 2) nd rfl (by first | exact Or.inl rfl | exact Or.inr rfl) (v_lst (a_cons (v_tup (a_cons (v 0) (a_cons v_int a_nil))) a_nil)))
      (ss_cons (s_while PassesOwn.never (t_val (v 2))
        (ss_cons (s_set (i := 3) nd rfl (by first | exact Or.inl rfl | exact Or.inr rfl) (v_bm0 PySem.F.plainAttrs_list PySem.F.slot_list_pop PySem.F.type_list_pop m_pop (v 2)))
      (ss_cons (s_expr (v_bm PySem.F.plainAttrs_list PySem.F.slot_list_append PySem.F.type_list_append m_append (v 1) (a_cons (v 3) a_nil)))
      (ss_one (s_expr (v_bm PySem.F.plainAttrs_list PySem.F.slot_list_extend PySem.F.type_list_extend m_extend (v 2) (a_cons (v_frz (v_comp ["child", "pair"] [none, some 3] (i_seqN (v_ix hu (v_ix hu (v 3) v_int) v_int)) (fun B => (w_name (i := 0) (show (["child", "pair"] : List Str).Nodup by decide +kernel) rfl (by first | exact Or.inl rfl | exact Or.inr rfl))) (fun B => (if_one (t_val (v_call G_is_tree (hr.mono (by decide)) (by rfl) F_is_tree.at_ F_is_tree.fn.kp F_is_tree.bi (a_cons (v 0) a_nil))))) (fun B => (v_tup (a_cons (v 0) (a_cons (v_op o_addF (v_ix hu (v 1) v_int) v_int) a_nil)))))) a_nil)))))))
      (ss_one (s_ret (v 1))))))
theorem ok_trees_within (T : Tx mg) {f_trees_within : Addr} {fd_trees_within : FuncData} (F_trees_within : Df K mg "trees_within" s_trees_within ["tree"] f_trees_within fd_trees_within) {f_is_tree : Addr} {fd_is_tree : FuncData} (F_is_tree : Df K mg "is_tree" s_is_tree ["child"] f_is_tree fd_is_tree) : FnOk P w K mg base CX0 2 f_trees_within fd_trees_within ["tree"] (upSp K sp_trees_within) :=
  ok3 F_trees_within.fn sc_trees_within len_trees_within fun cdv A outer s H E ws M R hr h => ⟨rd_trees_within, tm_trees_within T F_is_tree (ok_is_tree T F_is_tree) hr, good_trees_within h⟩
theorem sc_tree_cost : FnScope N_tree_cost ["grammar", "tree"] (defScope s_tree_cost) := ⟨rfl, rfl, rfl, by decide +kernel, rfl, by decide +kernel, by decide +kernel⟩
theorem tm_tree_cost {f : Addr} {cdv : Value} {A : Around} {outer : List Env} {s : Shared} {H : Hp} {E : XK} (T : Tx mg) {f_trees_within : Addr} {fd_trees_within : FuncData} (F_trees_within : Df K mg "trees_within" s_trees_within ["tree"] f_trees_within fd_trees_within) (G_trees_within : FnOk P w K mg base CX0 2 f_trees_within fd_trees_within ["tree"] (upSp K sp_trees_within)) (hr : Room 2 (A.deeper (envOfC "tree_cost" (defScope s_tree_cost) s.heap.objs.size f cdv))) :
    Ps3 (cxOf CX0 P w K mg base N_tree_cost "tree_cost" (defScope s_tree_cost) f cdv A outer s H E).nox (defBody s_tree_cost) rd_tree_cost := by
  have nd := sc_tree_cost.nd
  have hu := hu_of hr
  exact (ss_one (s_ret (v_callB (c_sum rfl) (by rfl) T.sum_ bt_sum (a_cons (v_frz (v_comp ["knot", "level", "grammar"] [none, none, some 0] (i_seq (v_frz (v_call G_trees_within (hr.mono (by decide)) (by rfl) F_trees_within.at_ F_trees_within.fn.kp F_trees_within.bi (a_cons (v 1) a_nil)))) (fun B => (w_tup rfl (w_cons (w_name (i := 0) (show (["knot", "level", "grammar"] : List Str).Nodup by decide +kernel) rfl (by first | exact Or.inl rfl | exact Or.inr rfl)) (w_cons (w_name (i := 1) (show (["knot", "level", "grammar"] : List Str).Nodup by decide +kernel) rfl (by first | exact Or.inl rfl | exact Or.inr rfl)) w_nil)))) (fun B => if_nil) (fun B => (v_ix hu (v_ix hu (v 2) (v_ix hu (v 0) v_int)) v_int)))) a_nil))))
theorem ok_tree_cost (T : Tx mg) {f_tree_cost : Addr} {fd_tree_cost : FuncData} (F_tree_cost : Df K mg "tree_cost" s_tree_cost ["grammar", "tree"] f_tree_cost fd_tree_cost) {f_is_tree : Addr} {fd_is_tree : FuncData} (F_is_tree : Df K mg "is_tree" s_is_tree ["child"] f_is_tree fd_is_tree) {f_trees_within : Addr} {fd_trees_within : FuncData} (F_trees_within : Df K mg "trees_within" s_trees_within ["tree"] f_trees_within fd_trees_within) : FnOk P w K mg base CX0 3 f_tree_cost fd_tree_cost ["grammar", "tree"] (upSp K sp_tree_cost) :=
  ok3 F_tree_cost.fn sc_tree_cost len_tree_cost fun cdv A outer s H E ws M R hr h => ⟨rd_tree_cost, tm_tree_cost T F_trees_within (ok_trees_within T F_trees_within F_is_tree) hr, good_tree_cost h⟩
theorem sc_knots : FnScope N_knots ["tree"] (defScope s_knots) := ⟨rfl, rfl, rfl, by decide +kernel, rfl, by decide +kernel, by decide +kernel⟩
theorem tm_knots {f : Addr} {cdv : Value} {A : Around} {outer : List Env} {s : Shared} {H : Hp} {E : XK} (T : Tx mg) {f_trees_within : Addr} {fd_trees_within : FuncData} (F_trees_within : Df K mg "trees_within" s_trees_within ["tree"] f_trees_within fd_trees_within) (G_trees_within : FnOk P w K mg base CX0 2 f_trees_within fd_trees_within ["tree"] (upSp K sp_trees_within)) (hr : Room 2 (A.deeper (envOfC "knots" (defScope s_knots) s.heap.objs.size f cdv))) :
    Ps3 (cxOf CX0 P w K mg base N_knots "knots" (defScope s_knots) f cdv A outer s H E).nox (defBody s_knots) rd_knots := by
  have nd := sc_knots.nd
  have hu := hu_of hr
  exact (ss_one (s_ret (v_callB c_len (by rfl) T.len_ bt_len (a_cons (v_frz (v_call G_trees_within (hr.mono (by decide)) (by rfl) F_trees_within.at_ F_trees_within.fn.kp F_trees_within.bi (a_cons (v 0) a_nil))) a_nil))))
theorem ok_knots (T : Tx mg) {f_knots : Addr} {fd_knots : FuncData} (F_knots : Df K mg "knots" s_knots ["tree"] f_knots fd_knots) {f_is_tree : Addr} {fd_is_tree : FuncData} (F_is_tree : Df K mg "is_tree" s_is_tree ["child"] f_is_tree fd_is_tree) {f_trees_within : Addr} {fd_trees_within : FuncData} (F_trees_within : Df K mg "trees_within" s_trees_within ["tree"] f_trees_within fd_trees_within) : FnOk P w K mg base CX0 3 f_knots fd_knots ["tree"] (upSp K sp_knots) :=
  ok3 F_knots.fn sc_knots len_knots fun cdv A outer s H E ws M R hr h => ⟨rd_knots, tm_knots T F_trees_within (ok_trees_within T F_trees_within F_is_tree) hr, good_knots h⟩
theorem sc_depth : FnScope N_depth ["tree"] (defScope s_depth) := ⟨rfl, rfl, rfl, by decide +kernel, rfl, by decide +kernel, by decide +kernel⟩
theorem tm_depth {f : Addr} {cdv : Value} {A : Around} {outer : List Env} {s : Shared} {H : Hp} {E : XK} (T : Tx mg) {f_trees_within : Addr} {fd_trees_within : FuncData} (F_trees_within : Df K mg "trees_within" s_trees_within ["tree"] f_trees_within fd_trees_within) (G_trees_within : FnOk P w K mg base CX0 2 f_trees_within fd_trees_within ["tree"] (upSp K sp_trees_within)) (hr : Room 2 (A.deeper (envOfC "depth" (defScope s_depth) s.heap.objs.size f cdv))) :
    Ps3 (cxOf CX0 P w K mg base N_depth "depth" (defScope s_depth) f cdv A outer s H E).nox (defBody s_depth) rd_depth := by
  have nd := sc_depth.nd
  have hu := hu_of hr
  exact (ss_one (s_ret (v_callB (c_max1 rfl) (by rfl) T.max_ bt_max (a_cons (v_frz (v_comp ["knot", "level"] [none, none] (i_seq (v_frz (v_call G_trees_within (hr.mono (by decide)) (by rfl) F_trees_within.at_ F_trees_within.fn.kp F_trees_within.bi (a_cons (v 0) a_nil)))) (fun B => (w_tup rfl (w_cons (w_name (i := 0) (show (["knot", "level"] : List Str).Nodup by decide +kernel) rfl (by first | exact Or.inl rfl | exact Or.inr rfl)) (w_cons (w_name (i := 1) (show (["knot", "level"] : List Str).Nodup by decide +kernel) rfl (by first | exact Or.inl rfl | exact Or.inr rfl)) w_nil)))) (fun B => if_nil) (fun B => (v 1)))) a_nil))))
theorem ok_depth (T : Tx mg) {f_depth : Addr} {fd_depth : FuncData} (F_depth : Df K mg "depth" s_depth ["tree"] f_depth fd_depth) {f_is_tree : Addr} {fd_is_tree : FuncData} (F_is_tree : Df K mg "is_tree" s_is_tree ["child"] f_is_tree fd_is_tree) {f_trees_within : Addr} {fd_trees_within : FuncData} (F_trees_within : Df K mg "trees_within" s_trees_within ["tree"] f_trees_within fd_trees_within) : FnOk P w K mg base CX0 3 f_depth fd_depth ["tree"] (upSp K sp_depth) :=
  ok3 F_depth.fn sc_depth len_depth fun cdv A outer s H E ws M R hr h => ⟨rd_depth, tm_depth T F_trees_within (ok_trees_within T F_trees_within F_is_tree) hr, good_depth h⟩
theorem sc_right_knot : FnScope N_right_knot ["grammar", "name", "tree"] (defScope s_right_knot) := ⟨rfl, rfl, rfl, by decide +kernel, rfl, by decide +kernel, by decide +kernel⟩
theorem tm_right_knot {f : Addr} {cdv : Value} {A : Around} {outer : List Env} {s : Shared} {H : Hp} {E : XK} (T : Tx mg) {f_is_tree : Addr} {fd_is_tree : FuncData} (F_is_tree : Df K mg "is_tree" s_is_tree ["child"] f_is_tree fd_is_tree) (G_is_tree : FnOk P w K mg base CX0 1 f_is_tree fd_is_tree ["child"] (upSp K sp_is_tree)) {f_is_name : Addr} {fd_is_name : FuncData} (F_is_name : Df K mg "is_name" s_is_name ["part"] f_is_name fd_is_name) (G_is_name : FnOk P w K mg base CX0 2 f_is_name fd_is_name ["part"] (upSp K sp_is_name)) (hr : Room 2 (A.deeper (envOfC "right_knot" (defScope s_right_knot) s.heap.objs.size f cdv))) :
    Ps3 (cxOf CX0 P w K mg base N_right_knot "right_knot" (defScope s_right_knot) f cdv A outer s H E).nox (defBody s_right_knot) rd_right_knot := by
  have nd := sc_right_knot.nd
  have hu := hu_of hr
  exact (ss_cons (s_if (PW.pt (t_or (t_not (t_val (v_call G_is_tree (hr.mono (by decide)) (by rfl) F_is_tree.at_ F_is_tree.fn.kp F_is_tree.bi (a_cons (v 2) a_nil)))) (t_or1 (t_not (t_chain o_le o_lt v_int (v_ix hu (v 2) v_int) (v_callB c_len (by rfl) T.len_ bt_len (a_cons (v 0) a_nil)))))))
        (ss_one (s_ret v_bl))
        ss_nil)
      (ss_cons (s_set (i := 3) nd rfl (by first | exact Or.inl rfl | exact Or.inr rfl) (v_ix hu (v 0) (v_ix hu (v 2) v_int)))
      (ss_cons (s_if (PW.pt (t_or (t_cmp (o_ne hr.units) (v_ix hu (v 3) v_int) (v 1) (by first | exact nomark _ | with_unfolding_all rfl)) (t_or1 (t_cmp (o_ne hr.units) (v_callB c_len (by rfl) T.len_ bt_len (a_cons (v_ix hu (v 3) v_int) a_nil)) (v_callB c_len (by rfl) T.len_ bt_len (a_cons (v_ix hu (v 2) v_int) a_nil)) (by first | exact nomark _ | with_unfolding_all rfl)))))
        (ss_one (s_ret v_bl))
        ss_nil)
      (ss_one (s_ret (v_callB (c_all rfl) (by rfl) T.all_ bt_all (a_cons (v_frz (v_comp ["part", "child"] [none, none] (i_zip (by rfl) T.zip_ (a_cons (v_ix hu (v 3) v_int) (a_cons (v_ix hu (v 2) v_int) a_nil))) (fun B => (w_tup rfl (w_cons (w_name (i := 0) (show (["part", "child"] : List Str).Nodup by decide +kernel) rfl (by first | exact Or.inl rfl | exact Or.inr rfl)) (w_cons (w_name (i := 1) (show (["part", "child"] : List Str).Nodup by decide +kernel) rfl (by first | exact Or.inl rfl | exact Or.inr rfl)) w_nil)))) (fun B => if_nil) (fun B => (v_or (v_call G_is_name (hr.mono (by decide)) (by rfl) F_is_name.at_ F_is_name.fn.kp F_is_name.bi (a_cons (v 0) a_nil)) (v_one (v_cmp (o_eq hr.units) (v 1) (v 0) (by first | exact nomark _ | with_unfolding_all rfl))))))) a_nil)))))))
theorem ok_right_knot (T : Tx mg) {f_right_knot : Addr} {fd_right_knot : FuncData} (F_right_knot : Df K mg "right_knot" s_right_knot ["grammar", "name", "tree"] f_right_knot fd_right_knot) {f_made_of : Addr} {fd_made_of : FuncData} (F_made_of : Df K mg "made_of" s_made_of ["text", "signs"] f_made_of fd_made_of) {f_is_name : Addr} {fd_is_name : FuncData} (F_is_name : Df K mg "is_name" s_is_name ["part"] f_is_name fd_is_name) {f_is_tree : Addr} {fd_is_tree : FuncData} (F_is_tree : Df K mg "is_tree" s_is_tree ["child"] f_is_tree fd_is_tree) : FnOk P w K mg base CX0 3 f_right_knot fd_right_knot ["grammar", "name", "tree"] (upSp K sp_right_knot) :=
  ok3 F_right_knot.fn sc_right_knot len_right_knot fun cdv A outer s H E ws M R hr h => ⟨rd_right_knot, tm_right_knot T F_is_tree (ok_is_tree T F_is_tree) F_is_name (ok_is_name T F_is_name F_made_of) hr, good_right_knot h⟩
theorem sc_right_tree : FnScope N_right_tree ["grammar", "name", "tree"] (defScope s_right_tree) := ⟨rfl, rfl, rfl, by decide +kernel, rfl, by decide +kernel, by decide +kernel⟩
theorem tm_right_tree {f : Addr} {cdv : Value} {A : Around} {outer : List Env} {s : Shared} {H : Hp} {E : XK} (T : Tx mg) {f_right_knot : Addr} {fd_right_knot : FuncData} (F_right_knot : Df K mg "right_knot" s_right_knot ["grammar", "name", "tree"] f_right_knot fd_right_knot) (G_right_knot : FnOk P w K mg base CX0 3 f_right_knot fd_right_knot ["grammar", "name", "tree"] (upSp K sp_right_knot)) {f_is_name : Addr} {fd_is_name : FuncData} (F_is_name : Df K mg "is_name" s_is_name ["part"] f_is_name fd_is_name) (G_is_name : FnOk P w K mg base CX0 2 f_is_name fd_is_name ["part"] (upSp K sp_is_name)) (hr : Room 3 (A.deeper (envOfC "right_tree" (defScope s_right_tree) s.heap.objs.size f cdv))) :
    Ps3 (cxOf CX0 P w K mg base N_right_tree "right_tree" (defScope s_right_tree) f cdv A outer s H E).nox (defBody s_right_tree) rd_right_tree := by
  have nd := sc_right_tree.nd
  have hu := hu_of hr
  exact (ss_cons (s_set (i := 3) nd rfl (by first | exact Or.inl rfl | exact Or.inr rfl) (v_lst (a_cons (v_tup (a_cons (v 1) (a_cons (v 2) a_nil))) a_nil)))
      (ss_cons (s_while PassesOwn.never (t_val (v 3))
        (ss_cons (s_set (i := 4) nd rfl (by first | exact Or.inl rfl | exact Or.inr rfl) (v_bm0 PySem.F.plainAttrs_list PySem.F.slot_list_pop PySem.F.type_list_pop m_pop (v 3)))
      (ss_cons (s_if (t_not (t_val (v_call G_right_knot (hr.mono (by decide)) (by rfl) F_right_knot.at_ F_right_knot.fn.kp F_right_knot.bi (a_cons (v 0) (a_cons (v_ix hu (v 4) v_int) (a_cons (v_ix hu (v 4) v_int) a_nil))))))
        (ss_one (s_ret v_bl))
        ss_nil)
      (ss_cons (s_set (i := 5) nd rfl (by first | exact Or.inl rfl | exact Or.inr rfl) (v_ix hu (v 4) v_int))
      (ss_cons (s_set (i := 6) nd rfl (by first | exact Or.inl rfl | exact Or.inr rfl) (v_ix hu (v_ix hu (v 0) (v_ix hu (v 5) v_int)) v_int))
      (ss_one (s_expr (v_bm PySem.F.plainAttrs_list PySem.F.slot_list_extend PySem.F.type_list_extend m_extend (v 3) (a_cons (v_frz (v_comp ["part", "child"] [none, none] (i_zip (by rfl) T.zip_ (a_cons (v 6) (a_cons (v_ix hu (v 5) v_int) a_nil))) (fun B => (w_tup rfl (w_cons (w_name (i := 0) (show (["part", "child"] : List Str).Nodup by decide +kernel) rfl (by first | exact Or.inl rfl | exact Or.inr rfl)) (w_cons (w_name (i := 1) (show (["part", "child"] : List Str).Nodup by decide +kernel) rfl (by first | exact Or.inl rfl | exact Or.inr rfl)) w_nil)))) (fun B => (if_one (t_val (v_call G_is_name (hr.mono (by decide)) (by rfl) F_is_name.at_ F_is_name.fn.kp F_is_name.bi (a_cons (v 0) a_nil))))) (fun B => (v_tup (a_cons (v 0) (a_cons (v 1) a_nil)))))) a_nil)))))))))
      (ss_one (s_ret v_bl))))
theorem ok_right_tree (T : Tx mg) {f_right_tree : Addr} {fd_right_tree : FuncData} (F_right_tree : Df K mg "right_tree" s_right_tree ["grammar", "name", "tree"] f_right_tree fd_right_tree) {f_made_of : Addr} {fd_made_of : FuncData} (F_made_of : Df K mg "made_of" s_made_of ["text", "signs"] f_made_of fd_made_of) {f_is_name : Addr} {fd_is_name : FuncData} (F_is_name : Df K mg "is_name" s_is_name ["part"] f_is_name fd_is_name) {f_is_tree : Addr} {fd_is_tree : FuncData} (F_is_tree : Df K mg "is_tree" s_is_tree ["child"] f_is_tree fd_is_tree) {f_right_knot : Addr} {fd_right_knot : FuncData} (F_right_knot : Df K mg "right_knot" s_right_knot ["grammar", "name", "tree"] f_right_knot fd_right_knot) : FnOk P w K mg base CX0 4 f_right_tree fd_right_tree ["grammar", "name", "tree"] (upSp K sp_right_tree) :=
  ok3 F_right_tree.fn sc_right_tree len_right_tree fun cdv A outer s H E ws M R hr h => ⟨rd_right_tree, tm_right_tree T F_right_knot (ok_right_knot T F_right_knot F_made_of F_is_name F_is_tree) F_is_name (ok_is_name T F_is_name F_made_of) hr, good_right_tree h⟩
theorem sc_l_cell_at : FnScope N_l_cell_at ["script", "k"] (defScope s_l_cell_at) := ⟨rfl, rfl, rfl, by decide +kernel, rfl, by decide +kernel, by decide +kernel⟩
theorem tm_l_cell_at {f : Addr} {cdv : Value} {A : Around} {outer : List Env} {s : Shared} {H : Hp} {E : XK} (T : Tx mg) (hr : Room 0 (A.deeper (envOfC "_law_cell_at" (defScope s_l_cell_at) s.heap.objs.size f cdv))) :
    Ps3 (cxOf CX0 P w K mg base N_l_cell_at "_law_cell_at" (defScope s_l_cell_at) f cdv A outer s H E).nox (defBody s_l_cell_at) rd_l_cell_at := by
  have nd := sc_l_cell_at.nd
  have hu := hu_of hr
  exact (ss_cons (s_if (t_cmp o_lt (v 1) (v_callB c_len (by rfl) T.len_ bt_len (a_cons (v 0) a_nil)) (by first | exact nomark _ | with_unfolding_all rfl))
        (ss_one (s_ret (v_ix hu (v 0) (v 1))))
        ss_nil)
      (ss_one (s_ret v_int)))
theorem ok_l_cell_at (T : Tx mg) {f_l_cell_at : Addr} {fd_l_cell_at : FuncData} (F_l_cell_at : Df K mg "_law_cell_at" s_l_cell_at ["script", "k"] f_l_cell_at fd_l_cell_at) : FnOk P w K mg base CX0 1 f_l_cell_at fd_l_cell_at ["script", "k"] (upSp K sp_l_cell_at) :=
  ok3 F_l_cell_at.fn sc_l_cell_at len_l_cell_at fun cdv A outer s H E ws M R hr h => ⟨rd_l_cell_at, tm_l_cell_at T hr, good_l_cell_at h⟩
theorem sc_l_stir : FnScope N_l_stir ["cell", "k"] (defScope s_l_stir) := ⟨rfl, rfl, rfl, by decide +kernel, rfl, by decide +kernel, by decide +kernel⟩
theorem tm_l_stir {f : Addr} {cdv : Value} {A : Around} {outer : List Env} {s : Shared} {H : Hp} {E : XK} (T : Tx mg) (hr : Room 0 (A.deeper (envOfC "_law_stir" (defScope s_l_stir) s.heap.objs.size f cdv))) :
    Ps3 (cxOf CX0 P w K mg base N_l_stir "_law_stir" (defScope s_l_stir) f cdv A outer s H E).nox (defBody s_l_stir) rd_l_stir := by
  have nd := sc_l_stir.nd
  have hu := hu_of hr
  exact (ss_cons (s_set (i := 2) nd rfl (by first | exact Or.inl rfl | exact Or.inr rfl) (v_op o_addF (v_op o_addF (v_op o_mulF (v_op o_mod (v 0) (v_op o_pow v_int v_int)) v_int) (v_op o_mulF (v_op o_mulF (v_op o_pow v_int v_int) (v_op o_addF (v 1) v_int)) (v_op o_addF (v 1) v_int))) (v 1)))
      (ss_cons (s_set (i := 2) nd rfl (by first | exact Or.inl rfl | exact Or.inr rfl) (v_op o_addF (v_op o_mulF (v 2) (v 2)) (v_op o_mulF v_int (v 2))))
      (ss_one (s_ret (v_op o_fdiv (v_op o_mod (v_op o_mulF (v 2) (v 2)) (v_op o_addF (v_op o_pow v_int v_int) v_int)) v_int)))))
theorem ok_l_stir (T : Tx mg) {f_l_stir : Addr} {fd_l_stir : FuncData} (F_l_stir : Df K mg "_law_stir" s_l_stir ["cell", "k"] f_l_stir fd_l_stir) : FnOk P w K mg base CX0 1 f_l_stir fd_l_stir ["cell", "k"] (upSp K sp_l_stir) :=
  ok3 F_l_stir.fn sc_l_stir len_l_stir fun cdv A outer s H E ws M R hr h => ⟨rd_l_stir, tm_l_stir T hr, good_l_stir h⟩
theorem sc_l_drawn : FnScope N_l_drawn ["cell", "sizes"] (defScope s_l_drawn) := ⟨rfl, rfl, rfl, by decide +kernel, rfl, by decide +kernel, by decide +kernel⟩
theorem tm_l_drawn {f : Addr} {cdv : Value} {A : Around} {outer : List Env} {s : Shared} {H : Hp} {E : XK} (T : Tx mg) {f_l_stir : Addr} {fd_l_stir : FuncData} (F_l_stir : Df K mg "_law_stir" s_l_stir ["cell", "k"] f_l_stir fd_l_stir) (G_l_stir : FnOk P w K mg base CX0 1 f_l_stir fd_l_stir ["cell", "k"] (upSp K sp_l_stir)) (hr : Room 1 (A.deeper (envOfC "_law_drawn" (defScope s_l_drawn) s.heap.objs.size f cdv))) :
    Ps3 (cxOf CX0 P w K mg base N_l_drawn "_law_drawn" (defScope s_l_drawn) f cdv A outer s H E).nox (defBody s_l_drawn) rd_l_drawn := by
  have nd := sc_l_drawn.nd
  have hu := hu_of hr
  exact (ss_cons (s_set (i := 2) nd rfl (by first | exact Or.inl rfl | exact Or.inr rfl) (v_lst a_nil))
      (ss_cons (s_set (i := 3) nd rfl (by first | exact Or.inl rfl | exact Or.inr rfl) (v_op o_sub (v 0) (v_op o_pow v_int v_int)))
      (ss_cons (s_for PassesOwn.never rfl (i_range1 (by rfl) T.range_ (a_cons (v_callB c_len (by rfl) T.len_ bt_len (a_cons (v 1) a_nil)) a_nil)) (w_name (i := 4) nd rfl (by first | exact Or.inl rfl | exact Or.inr rfl))
        (ss_one (s_if (t_cmp o_ge (v 0) (v_op o_pow v_int v_int) (by first | exact nomark _ | with_unfolding_all rfl))
        (ss_cons (s_expr (v_bm PySem.F.plainAttrs_list PySem.F.slot_list_append PySem.F.type_list_append m_append (v 2) (a_cons (v_op o_mod (v 3) (v_ix hu (v 1) (v 4))) a_nil)))
      (ss_one (s_set (i := 3) nd rfl (by first | exact Or.inl rfl | exact Or.inr rfl) (v_op o_fdiv (v 3) (v_ix hu (v 1) (v 4))))))
        (ss_one (s_expr (v_bm PySem.F.plainAttrs_list PySem.F.slot_list_append PySem.F.type_list_append m_append (v 2) (a_cons (v_op o_mod (v_call G_l_stir (hr.mono (by decide)) (by rfl) F_l_stir.at_ F_l_stir.fn.kp F_l_stir.bi (a_cons (v 0) (a_cons (v 4) a_nil))) (v_ix hu (v 1) (v 4))) a_nil)))))))
      (ss_one (s_ret (v 2))))))
theorem ok_l_drawn (T : Tx mg) {f_l_drawn : Addr} {fd_l_drawn : FuncData} (F_l_drawn : Df K mg "_law_drawn" s_l_drawn ["cell", "sizes"] f_l_drawn fd_l_drawn) {f_l_stir : Addr} {fd_l_stir : FuncData} (F_l_stir : Df K mg "_law_stir" s_l_stir ["cell", "k"] f_l_stir fd_l_stir) : FnOk P w K mg base CX0 2 f_l_drawn fd_l_drawn ["cell", "sizes"] (upSp K sp_l_drawn) :=
  ok3 F_l_drawn.fn sc_l_drawn len_l_drawn fun cdv A outer s H E ws M R hr h => ⟨rd_l_drawn, tm_l_drawn T F_l_stir (ok_l_stir T F_l_stir) hr, good_l_drawn h⟩
theorem sc_l_unlike : FnScope N_l_unlike ["number", "many", "great"] (defScope s_l_unlike) := ⟨rfl, rfl, rfl, by decide +kernel, rfl, by decide +kernel, by decide +kernel⟩
theorem tm_l_unlike {f : Addr} {cdv : Value} {A : Around} {outer : List Env} {s : Shared} {H : Hp} {E : XK} (T : Tx mg) (hr : Room 0 (A.deeper (envOfC "_law_unlike" (defScope s_l_unlike) s.heap.objs.size f cdv))) :
    Ps3 (cxOf CX0 P w K mg base N_l_unlike "_law_unlike" (defScope s_l_unlike) f cdv A outer s H E).nox (defBody s_l_unlike) rd_l_unlike := by
  have nd := sc_l_unlike.nd
  have hu := hu_of hr
  exact (ss_cons (s_set (i := 3) nd rfl (by first | exact Or.inl rfl | exact Or.inr rfl) v_str)
      (ss_cons (s_if (t_val (v 2))
        (ss_one (s_set (i := 3) nd rfl (by first | exact Or.inl rfl | exact Or.inr rfl) (v_bm0 PySem.F.plainAttrs_str PySem.F.slot_str_upper PySem.F.type_str_upper m_upper (v 3))))
        ss_nil)
      (ss_cons (s_set (i := 4) nd rfl (by first | exact Or.inl rfl | exact Or.inr rfl) (v_ix hu (v 3) (v_op o_mod (v 0) v_int)))
      (ss_cons (s_set (i := 5) nd rfl (by first | exact Or.inl rfl | exact Or.inr rfl) (v_op o_addF v_int (v_op o_mod (v_op o_fdiv (v 0) v_int) v_int)))
      (ss_cons (s_set (i := 6) nd rfl (by first | exact Or.inl rfl | exact Or.inr rfl) (v_op o_mod (v_op o_fdiv (v 0) v_int) (v 5)))
      (ss_cons (s_set (i := 7) nd rfl (by first | exact Or.inl rfl | exact Or.inr rfl) (v_op o_mod (v_op o_fdiv (v 0) v_int) v_int))
      (ss_cons (s_set (i := 8) nd rfl (by first | exact Or.inl rfl | exact Or.inr rfl) (v_lst a_nil))
      (ss_cons (s_for PassesOwn.never rfl (i_range1 (by rfl) T.range_ (a_cons (v 1) a_nil)) (w_name (i := 9) nd rfl (by first | exact Or.inl rfl | exact Or.inr rfl))
        (ss_cons (s_set (i := 10) nd rfl (by first | exact Or.inl rfl | exact Or.inr rfl) (v_ix hu (v 3) (v_op o_mod (v_op o_addF (v 7) (v_op o_mulF v_int (v 9))) v_int)))
      (ss_cons (s_expr (v_bm PySem.F.plainAttrs_list PySem.F.slot_list_append PySem.F.type_list_append m_append (v 8) (a_cons (v_op o_addF (v_op o_addF (v_op o_mulF (v 4) (v 6)) (v 10)) (v_op o_mulF (v 4) (v_op o_sub (v_op o_sub (v 5) (v 6)) v_int))) a_nil)))
      (ss_one (s_if (PW.pt (t_and (t_val (v 2)) (t_and (t_cmp (o_eq hr.units) (v_op o_mod (v_op o_fdiv (v 0) v_int) v_int) v_int (by first | exact nomark _ | with_unfolding_all rfl)) (t_and1 (t_cmp (o_eq hr.units) (v_op o_band (v_op o_shr (v_op o_fdiv (v 0) v_int) (v 9)) v_int) v_int (by first | exact nomark _ | with_unfolding_all rfl))))))
        (ss_one (s_asg (v_op o_addF (v_op o_addF (v_ix hu (v 8) (v 9)) v_str) (v_callTy c_str (by rfl) T.str_ bt_str (a_cons (v_op o_mod (v_op o_fdiv (v 0) v_int) v_int) a_nil))) (w_sub hu (v 8) (v 9))))
        ss_nil)))))
      (ss_one (s_ret (v 8)))))))))))
theorem ok_l_unlike (T : Tx mg) {f_l_unlike : Addr} {fd_l_unlike : FuncData} (F_l_unlike : Df K mg "_law_unlike" s_l_unlike ["number", "many", "great"] f_l_unlike fd_l_unlike) : FnOk P w K mg base CX0 1 f_l_unlike fd_l_unlike ["number", "many", "great"] (upSp K sp_l_unlike) :=
  ok3 F_l_unlike.fn sc_l_unlike len_l_unlike fun cdv A outer s H E ws M R hr h => ⟨rd_l_unlike, tm_l_unlike T hr, good_l_unlike h⟩
theorem sc_l_rule : FnScope N_l_rule ["cell", "heads", "words", "most"] (defScope s_l_rule) := ⟨rfl, rfl, rfl, by decide +kernel, rfl, by decide +kernel, by decide +kernel⟩
theorem tm_l_rule {f : Addr} {cdv : Value} {A : Around} {outer : List Env} {s : Shared} {H : Hp} {E : XK} (T : Tx mg) {f_l_drawn : Addr} {fd_l_drawn : FuncData} (F_l_drawn : Df K mg "_law_drawn" s_l_drawn ["cell", "sizes"] f_l_drawn fd_l_drawn) (G_l_drawn : FnOk P w K mg base CX0 2 f_l_drawn fd_l_drawn ["cell", "sizes"] (upSp K sp_l_drawn)) (hr : Room 2 (A.deeper (envOfC "_law_rule" (defScope s_l_rule) s.heap.objs.size f cdv))) :
    Ps3 (cxOf CX0 P w K mg base N_l_rule "_law_rule" (defScope s_l_rule) f cdv A outer s H E).nox (defBody s_l_rule) rd_l_rule := by
  have nd := sc_l_rule.nd
  have hu := hu_of hr
  exact (ss_cons (s_set (i := 4) nd rfl (by first | exact Or.inl rfl | exact Or.inr rfl) (v_frz (v_call G_l_drawn (hr.mono (by decide)) (by rfl) F_l_drawn.at_ F_l_drawn.fn.kp F_l_drawn.bi (a_cons (v 0) (a_cons (v_op o_addF (v_lstF (a_cons (v_callB c_len (by rfl) T.len_ bt_len (a_cons (v 1) a_nil)) (a_cons (v_op o_addF (v 3) v_int) (a_cons v_int (a_cons (v_op o_pow v_int v_int) a_nil))))) (v_op o_mulF (v_lstF (a_cons v_int a_nil)) (v 3))) a_nil)))))
      (ss_cons (s_set (i := 5) nd rfl (by first | exact Or.inl rfl | exact Or.inr rfl) (v_lst a_nil))
      (ss_cons (s_for PassesOwn.never rfl (i_seqN (v_sliceF (v 4) (s_some v_int) (s_some (v_op o_addF v_int (v_ix hu (v 4) v_int))))) (w_name (i := 6) nd rfl (by first | exact Or.inl rfl | exact Or.inr rfl))
        (ss_one (s_if (t_cmp o_lt (v 6) v_int (by first | exact nomark _ | with_unfolding_all rfl))
        (ss_one (s_expr (v_bm PySem.F.plainAttrs_list PySem.F.slot_list_append PySem.F.type_list_append m_append (v 5) (a_cons (v_ix hu (v 2) (v 6)) a_nil))))
        (ss_one (s_expr (v_bm PySem.F.plainAttrs_list PySem.F.slot_list_append PySem.F.type_list_append m_append (v 5) (a_cons (v_ix hu (v 1) (v_op o_mod (v_op o_addF (v_op o_sub (v 6) v_int) (v_ix hu (v 4) v_int)) (v_callB c_len (by rfl) T.len_ bt_len (a_cons (v 1) a_nil)))) a_nil)))))))
      (ss_one (s_ret (v_tup (a_cons (v_ix hu (v 1) (v_ix hu (v 4) v_int)) (a_cons (v_callTy c_tuple (by rfl) T.tuple_ bt_tuple (a_cons (v 5) a_nil)) (a_cons (v_op o_mod (v_ix hu (v 4) v_int) (v_ix hu (v_lstF (a_cons v_int (a_cons v_int (a_cons (v_op o_pow v_int v_int) a_nil)))) (v_ix hu (v 4) v_int))) a_nil)))))))))
theorem ok_l_rule (T : Tx mg) {f_l_rule : Addr} {fd_l_rule : FuncData} (F_l_rule : Df K mg "_law_rule" s_l_rule ["cell", "heads", "words", "most"] f_l_rule fd_l_rule) {f_l_stir : Addr} {fd_l_stir : FuncData} (F_l_stir : Df K mg "_law_stir" s_l_stir ["cell", "k"] f_l_stir fd_l_stir) {f_l_drawn : Addr} {fd_l_drawn : FuncData} (F_l_drawn : Df K mg "_law_drawn" s_l_drawn ["cell", "sizes"] f_l_drawn fd_l_drawn) : FnOk P w K mg base CX0 3 f_l_rule fd_l_rule ["cell", "heads", "words", "most"] (upSp K sp_l_rule) :=
  ok3 F_l_rule.fn sc_l_rule len_l_rule fun cdv A outer s H E ws M R hr h => ⟨rd_l_rule, tm_l_rule T F_l_drawn (ok_l_drawn T F_l_drawn F_l_stir) hr, good_l_rule h⟩
theorem sc_l_rules : FnScope N_l_rules ["cells", "many", "most"] (defScope s_l_rules) := ⟨rfl, rfl, rfl, by decide +kernel, rfl, by decide +kernel, by decide +kernel⟩
theorem tm_l_rules {f : Addr} {cdv : Value} {A : Around} {outer : List Env} {s : Shared} {H : Hp} {E : XK} (T : Tx mg) {f_l_drawn : Addr} {fd_l_drawn : FuncData} (F_l_drawn : Df K mg "_law_drawn" s_l_drawn ["cell", "sizes"] f_l_drawn fd_l_drawn) (G_l_drawn : FnOk P w K mg base CX0 2 f_l_drawn fd_l_drawn ["cell", "sizes"] (upSp K sp_l_drawn)) {f_l_unlike : Addr} {fd_l_unlike : FuncData} (F_l_unlike : Df K mg "_law_unlike" s_l_unlike ["number", "many", "great"] f_l_unlike fd_l_unlike) (G_l_unlike : FnOk P w K mg base CX0 1 f_l_unlike fd_l_unlike ["number", "many", "great"] (upSp K sp_l_unlike)) {f_l_cell_at : Addr} {fd_l_cell_at : FuncData} (F_l_cell_at : Df K mg "_law_cell_at" s_l_cell_at ["script", "k"] f_l_cell_at fd_l_cell_at) (G_l_cell_at : FnOk P w K mg base CX0 1 f_l_cell_at fd_l_cell_at ["script", "k"] (upSp K sp_l_cell_at)) {f_l_rule : Addr} {fd_l_rule : FuncData} (F_l_rule : Df K mg "_law_rule" s_l_rule ["cell", "heads", "words", "most"] f_l_rule fd_l_rule) (G_l_rule : FnOk P w K mg base CX0 3 f_l_rule fd_l_rule ["cell", "heads", "words", "most"] (upSp K sp_l_rule)) (hr : Room 3 (A.deeper (envOfC "_law_rules" (defScope s_l_rules) s.heap.objs.size f cdv))) :
    Ps3 (cxOf CX0 P w K mg base N_l_rules "_law_rules" (defScope s_l_rules) f cdv A outer s H E).nox (defBody s_l_rules) rd_l_rules := by
  have nd := sc_l_rules.nd
  have hu := hu_of hr
  exact (ss_cons (s_asg (v_frz (v_call G_l_drawn (hr.mono (by decide)) (by rfl) F_l_drawn.at_ F_l_drawn.fn.kp F_l_drawn.bi (a_cons (v_call G_l_cell_at (hr.mono (by decide)) (by rfl) F_l_cell_at.at_ F_l_cell_at.fn.kp F_l_cell_at.bi (a_cons (v 0) (a_cons v_int a_nil))) (a_cons (v_lstF (a_cons (v_op o_pow v_int v_int) (a_cons (v_op o_pow v_int v_int) a_nil))) a_nil)))) (w_tup rfl (w_cons (w_name (i := 3) nd rfl (by first | exact Or.inl rfl | exact Or.inr rfl)) (w_cons (w_name (i := 4) nd rfl (by first | exact Or.inl rfl | exact Or.inr rfl)) w_nil))))
      (ss_cons (s_set (i := 5) nd rfl (by first | exact Or.inl rfl | exact Or.inr rfl) (v_frz (v_call G_l_unlike (hr.mono (by decide)) (by rfl) F_l_unlike.at_ F_l_unlike.fn.kp F_l_unlike.bi (a_cons (v 3) (a_cons (v 1) (a_cons v_bl a_nil))))))
      (ss_cons (s_set (i := 6) nd rfl (by first | exact Or.inl rfl | exact Or.inr rfl) (v_frz (v_call G_l_unlike (hr.mono (by decide)) (by rfl) F_l_unlike.at_ F_l_unlike.fn.kp F_l_unlike.bi (a_cons (v 4) (a_cons v_int (a_cons v_bl a_nil))))))
      (ss_cons (s_setcomp (i := 7) nd rfl (by first | exact Or.inl rfl | exact Or.inr rfl) ["cell", "heads", "words", "most"] [none, some 5, some 6, some 2] (i_seqN (v_sliceF (v 0) (s_some v_int) s_none)) (fun B => (w_name (i := 0) (show (["cell", "heads", "words", "most"] : List Str).Nodup by decide +kernel) rfl (by first | exact Or.inl rfl | exact Or.inr rfl))) (fun B => if_nil) (fun B => (v_call G_l_rule (hr.mono (by decide)) (by rfl) F_l_rule.at_ F_l_rule.fn.kp F_l_rule.bi (a_cons (v 0) (a_cons (v 1) (a_cons (v 2) (a_cons (v 3) a_nil)))))))
      (ss_cons (s_for PassesOwn.never rfl (i_seqN (v 5)) (w_name (i := 8) nd rfl (by first | exact Or.inl rfl | exact Or.inr rfl))
        (ss_one (s_if (t_cmp (o_notin hu) (v 8) (v_frz (v_comp ["rule"] [none] (i_seqN (v 7)) (fun B => (w_name (i := 0) (show (["rule"] : List Str).Nodup by decide +kernel) rfl (by first | exact Or.inl rfl | exact Or.inr rfl))) (fun B => if_nil) (fun B => (v_ix hu (v 0) v_int)))) (by first | exact nomark _ | with_unfolding_all rfl))
        (ss_one (s_expr (v_bm PySem.F.plainAttrs_list PySem.F.slot_list_append PySem.F.type_list_append m_append (v 7) (a_cons (v_tup (a_cons (v 8) (a_cons (v_tup (a_cons (v_ix hu (v 6) v_int) a_nil)) (a_cons v_int a_nil)))) a_nil))))
        ss_nil)))
      (ss_one (s_ret (v 7))))))))
theorem ok_l_rules (T : Tx mg) {f_l_rules : Addr} {fd_l_rules : FuncData} (F_l_rules : Df K mg "_law_rules" s_l_rules ["cells", "many", "most"] f_l_rules fd_l_rules) {f_l_cell_at : Addr} {fd_l_cell_at : FuncData} (F_l_cell_at : Df K mg "_law_cell_at" s_l_cell_at ["script", "k"] f_l_cell_at fd_l_cell_at) {f_l_stir : Addr} {fd_l_stir : FuncData} (F_l_stir : Df K mg "_law_stir" s_l_stir ["cell", "k"] f_l_stir fd_l_stir) {f_l_drawn : Addr} {fd_l_drawn : FuncData} (F_l_drawn : Df K mg "_law_drawn" s_l_drawn ["cell", "sizes"] f_l_drawn fd_l_drawn) {f_l_unlike : Addr} {fd_l_unlike : FuncData} (F_l_unlike : Df K mg "_law_unlike" s_l_unlike ["number", "many", "great"] f_l_unlike fd_l_unlike) {f_l_rule : Addr} {fd_l_rule : FuncData} (F_l_rule : Df K mg "_law_rule" s_l_rule ["cell", "heads", "words", "most"] f_l_rule fd_l_rule) : FnOk P w K mg base CX0 4 f_l_rules fd_l_rules ["cells", "many", "most"] (upSp K sp_l_rules) :=
  ok3 F_l_rules.fn sc_l_rules len_l_rules fun cdv A outer s H E ws M R hr h => ⟨rd_l_rules, tm_l_rules T F_l_drawn (ok_l_drawn T F_l_drawn F_l_stir) F_l_unlike (ok_l_unlike T F_l_unlike) F_l_cell_at (ok_l_cell_at T F_l_cell_at) F_l_rule (ok_l_rule T F_l_rule F_l_stir F_l_drawn) hr, good_l_rules h⟩
theorem sc_l_sizes : FnScope N_l_sizes ["cell"] (defScope s_l_sizes) := ⟨rfl, rfl, rfl, by decide +kernel, rfl, by decide +kernel, by decide +kernel⟩
theorem tm_l_sizes {f : Addr} {cdv : Value} {A : Around} {outer : List Env} {s : Shared} {H : Hp} {E : XK} (T : Tx mg) {f_l_drawn : Addr} {fd_l_drawn : FuncData} (F_l_drawn : Df K mg "_law_drawn" s_l_drawn ["cell", "sizes"] f_l_drawn fd_l_drawn) (G_l_drawn : FnOk P w K mg base CX0 2 f_l_drawn fd_l_drawn ["cell", "sizes"] (upSp K sp_l_drawn)) (hr : Room 2 (A.deeper (envOfC "_law_sizes" (defScope s_l_sizes) s.heap.objs.size f cdv))) :
    Ps3 (cxOf CX0 P w K mg base N_l_sizes "_law_sizes" (defScope s_l_sizes) f cdv A outer s H E).nox (defBody s_l_sizes) rd_l_sizes := by
  have nd := sc_l_sizes.nd
  have hu := hu_of hr
  exact (ss_cons (s_asg (v_frz (v_call G_l_drawn (hr.mono (by decide)) (by rfl) F_l_drawn.at_ F_l_drawn.fn.kp F_l_drawn.bi (a_cons (v 0) (a_cons (v_lstF (a_cons v_int (a_cons v_int (a_cons v_int a_nil)))) a_nil)))) (w_tup rfl (w_cons (w_name (i := 1) nd rfl (by first | exact Or.inl rfl | exact Or.inr rfl)) (w_cons (w_name (i := 2) nd rfl (by first | exact Or.inl rfl | exact Or.inr rfl)) (w_cons (w_name (i := 3) nd rfl (by first | exact Or.inl rfl | exact Or.inr rfl)) w_nil)))))
      (ss_cons (s_if (t_cmp (o_eq hr.units) (v 1) v_int (by first | exact nomark _ | with_unfolding_all rfl))
        (ss_one (s_ret (v_lstF (a_cons (v_op o_addF v_int (v 3)) (a_cons v_int a_nil)))))
        ss_nil)
      (ss_one (s_ret (v_lstF (a_cons (v_op o_addF v_int (v 2)) (a_cons v_int a_nil)))))))
theorem ok_l_sizes (T : Tx mg) {f_l_sizes : Addr} {fd_l_sizes : FuncData} (F_l_sizes : Df K mg "_law_sizes" s_l_sizes ["cell"] f_l_sizes fd_l_sizes) {f_l_stir : Addr} {fd_l_stir : FuncData} (F_l_stir : Df K mg "_law_stir" s_l_stir ["cell", "k"] f_l_stir fd_l_stir) {f_l_drawn : Addr} {fd_l_drawn : FuncData} (F_l_drawn : Df K mg "_law_drawn" s_l_drawn ["cell", "sizes"] f_l_drawn fd_l_drawn) : FnOk P w K mg base CX0 3 f_l_sizes fd_l_sizes ["cell"] (upSp K sp_l_sizes) :=
  ok3 F_l_sizes.fn sc_l_sizes len_l_sizes fun cdv A outer s H E ws M R hr h => ⟨rd_l_sizes, tm_l_sizes T F_l_drawn (ok_l_drawn T F_l_drawn F_l_stir) hr, good_l_sizes h⟩
theorem sc_l_is_name : FnScope N_l_is_name ["part"] (defScope s_l_is_name) := ⟨rfl, rfl, rfl, by decide +kernel, rfl, by decide +kernel, by decide +kernel⟩
theorem tm_l_is_name {f : Addr} {cdv : Value} {A : Around} {outer : List Env} {s : Shared} {H : Hp} {E : XK} (T : Tx mg) (hr : Room 0 (A.deeper (envOfC "_law_is_name" (defScope s_l_is_name) s.heap.objs.size f cdv))) :
    Ps3 (cxOf CX0 P w K mg base N_l_is_name "_law_is_name" (defScope s_l_is_name) f cdv A outer s H E).nox (defBody s_l_is_name) rd_l_is_name := by
  have nd := sc_l_is_name.nd
  have hu := hu_of hr
  exact (ss_one (s_ret (v_cmp (o_in hu) (v_ix hu (v 0) v_int) v_str (by first | exact nomark _ | with_unfolding_all rfl))))
theorem ok_l_is_name (T : Tx mg) {f_l_is_name : Addr} {fd_l_is_name : FuncData} (F_l_is_name : Df K mg "_law_is_name" s_l_is_name ["part"] f_l_is_name fd_l_is_name) : FnOk P w K mg base CX0 1 f_l_is_name fd_l_is_name ["part"] (upSp K sp_l_is_name) :=
  ok3 F_l_is_name.fn sc_l_is_name len_l_is_name fun cdv A outer s H E ws M R hr h => ⟨rd_l_is_name, tm_l_is_name T hr, good_l_is_name h⟩
theorem sc_l_all_in : FnScope N_l_all_in ["parts", "chosen"] (defScope s_l_all_in) := ⟨rfl, rfl, rfl, by decide +kernel, rfl, by decide +kernel, by decide +kernel⟩
theorem tm_l_all_in {f : Addr} {cdv : Value} {A : Around} {outer : List Env} {s : Shared} {H : Hp} {E : XK} (T : Tx mg) {f_l_is_name : Addr} {fd_l_is_name : FuncData} (F_l_is_name : Df K mg "_law_is_name" s_l_is_name ["part"] f_l_is_name fd_l_is_name) (G_l_is_name : FnOk P w K mg base CX0 1 f_l_is_name fd_l_is_name ["part"] (upSp K sp_l_is_name)) (hr : Room 1 (A.deeper (envOfC "_law_all_in" (defScope s_l_all_in) s.heap.objs.size f cdv))) :
    Ps3 (cxOf CX0 P w K mg base N_l_all_in "_law_all_in" (defScope s_l_all_in) f cdv A outer s H E).nox (defBody s_l_all_in) rd_l_all_in := by
  have nd := sc_l_all_in.nd
  have hu := hu_of hr
  exact (ss_one (s_ret (v_cmp (o_eq hr.units) (v_frz (v_comp ["part", "chosen"] [none, some 1] (i_seqN (v 0)) (fun B => (w_name (i := 0) (show (["part", "chosen"] : List Str).Nodup by decide +kernel) rfl (by first | exact Or.inl rfl | exact Or.inr rfl))) (fun B => (if_one (PW.pt (t_and (t_cmp (o_notin hu) (v 0) (v 1) (by first | exact nomark _ | with_unfolding_all rfl)) (t_and1 (t_val (v_call G_l_is_name (hr.mono (by decide)) (by rfl) F_l_is_name.at_ F_l_is_name.fn.kp F_l_is_name.bi (a_cons (v 0) a_nil)))))))) (fun B => (v 0)))) (v_lstF a_nil) (by first | exact nomark _ | with_unfolding_all rfl))))
theorem ok_l_all_in (T : Tx mg) {f_l_all_in : Addr} {fd_l_all_in : FuncData} (F_l_all_in : Df K mg "_law_all_in" s_l_all_in ["parts", "chosen"] f_l_all_in fd_l_all_in) {f_l_is_name : Addr} {fd_l_is_name : FuncData} (F_l_is_name : Df K mg "_law_is_name" s_l_is_name ["part"] f_l_is_name fd_l_is_name) : FnOk P w K mg base CX0 2 f_l_all_in fd_l_all_in ["parts", "chosen"] (upSp K sp_l_all_in) :=
  ok3 F_l_all_in.fn sc_l_all_in len_l_all_in fun cdv A outer s H E ws M R hr h => ⟨rd_l_all_in, tm_l_all_in T F_l_is_name (ok_l_is_name T F_l_is_name) hr, good_l_all_in h⟩
theorem sc_l_chosen : FnScope N_l_chosen ["rules"] (defScope s_l_chosen) := ⟨rfl, rfl, rfl, by decide +kernel, rfl, by decide +kernel, by decide +kernel⟩
theorem tm_l_chosen {f : Addr} {cdv : Value} {A : Around} {outer : List Env} {s : Shared} {H : Hp} {E : XK} (T : Tx mg) {f_l_all_in : Addr} {fd_l_all_in : FuncData} (F_l_all_in : Df K mg "_law_all_in" s_l_all_in ["parts", "chosen"] f_l_all_in fd_l_all_in) (G_l_all_in : FnOk P w K mg base CX0 2 f_l_all_in fd_l_all_in ["parts", "chosen"] (upSp K sp_l_all_in)) (hr : Room 2 (A.deeper (envOfC "_law_chosen" (defScope s_l_chosen) s.heap.objs.size f cdv))) :
    Ps3 (cxOf CX0 P w K mg base N_l_chosen "_law_chosen" (defScope s_l_chosen) f cdv A outer s H E).nox (defBody s_l_chosen) rd_l_chosen := by
  have nd := sc_l_chosen.nd
  have hu := hu_of hr
  exact (ss_cons (s_set (i := 1) nd rfl (by first | exact Or.inl rfl | exact Or.inr rfl) v_dnewK)
      (ss_cons (s_for PassesOwn.never rfl (i_range1 (by rfl) T.range_ (a_cons (v_callB c_len (by rfl) T.len_ bt_len (a_cons (v 0) a_nil)) a_nil)) (w_name (i := 2) nd rfl (by first | exact Or.inl rfl | exact Or.inr rfl))
        (ss_one (s_for PassesOwn.never rfl (i_range1 (by rfl) T.range_ (a_cons (v_callB c_len (by rfl) T.len_ bt_len (a_cons (v 0) a_nil)) a_nil)) (w_name (i := 3) nd rfl (by first | exact Or.inl rfl | exact Or.inr rfl))
        (ss_cons (s_asg (v_ix hu (v 0) (v 3)) (w_tup rfl (w_cons (w_name (i := 4) nd rfl (by first | exact Or.inl rfl | exact Or.inr rfl)) (w_cons (w_name (i := 5) nd rfl (by first | exact Or.inl rfl | exact Or.inr rfl)) (w_cons (w_name (i := 6) nd rfl (by first | exact Or.inl rfl | exact Or.inr rfl)) w_nil)))))
      (ss_one (s_if (PW.pt (t_and (t_cmp (o_notin hu) (v 4) (v 1) (by first | exact nomark _ | with_unfolding_all rfl)) (t_and1 (t_val (v_call G_l_all_in (hr.mono (by decide)) (by rfl) F_l_all_in.at_ F_l_all_in.fn.kp F_l_all_in.bi (a_cons (v 5) (a_cons (v 1) a_nil)))))))
        (ss_one (s_asg (v 3) (w_sub hu (v 1) (v 4))))
        ss_nil))))))
      (ss_one (s_ret (v 1)))))
theorem ok_l_chosen (T : Tx mg) {f_l_chosen : Addr} {fd_l_chosen : FuncData} (F_l_chosen : Df K mg "_law_chosen" s_l_chosen ["rules"] f_l_chosen fd_l_chosen) {f_l_is_name : Addr} {fd_l_is_name : FuncData} (F_l_is_name : Df K mg "_law_is_name" s_l_is_name ["part"] f_l_is_name fd_l_is_name) {f_l_all_in : Addr} {fd_l_all_in : FuncData} (F_l_all_in : Df K mg "_law_all_in" s_l_all_in ["parts", "chosen"] f_l_all_in fd_l_all_in) : FnOk P w K mg base CX0 3 f_l_chosen fd_l_chosen ["rules"] (upSp K sp_l_chosen) :=
  ok3 F_l_chosen.fn sc_l_chosen len_l_chosen fun cdv A outer s H E ws M R hr h => ⟨rd_l_chosen, tm_l_chosen T F_l_all_in (ok_l_all_in T F_l_all_in F_l_is_name) hr, good_l_chosen h⟩
theorem sc_l_grow : FnScope N_l_grow ["rules", "chosen", "name", "state"] (defScope s_l_grow) := ⟨rfl, rfl, rfl, by decide +kernel, rfl, by decide +kernel, by decide +kernel⟩
theorem tm_l_grow {f : Addr} {cdv : Value} {A : Around} {outer : List Env} {s : Shared} {H : Hp} {E : XK} (T : Tx mg) {n : Nat} {sp_l_grow : Sp3} {f_l_is_name : Addr} {fd_l_is_name : FuncData} (F_l_is_name : Df K mg "_law_is_name" s_l_is_name ["part"] f_l_is_name fd_l_is_name) (G_l_is_name : FnOk P w K mg base CX0 1 f_l_is_name fd_l_is_name ["part"] (upSp K sp_l_is_name)) {f_l_all_in : Addr} {fd_l_all_in : FuncData} (F_l_all_in : Df K mg "_law_all_in" s_l_all_in ["parts", "chosen"] f_l_all_in fd_l_all_in) (G_l_all_in : FnOk P w K mg base CX0 2 f_l_all_in fd_l_all_in ["parts", "chosen"] (upSp K sp_l_all_in)) {f_l_grow : Addr} {fd_l_grow : FuncData} (F_l_grow : Df K mg "_law_grow" s_l_grow ["rules", "chosen", "name", "state"] f_l_grow fd_l_grow) (G_l_grow : FnOk P w K mg base CX0 (3 + n) f_l_grow fd_l_grow ["rules", "chosen", "name", "state"] (upSp K sp_l_grow)) (hr : Room (3 + n) (A.deeper (envOfC "_law_grow" (defScope s_l_grow) s.heap.objs.size f cdv))) :
    Ps3 (cxOf CX0 P w K mg base N_l_grow "_law_grow" (defScope s_l_grow) f cdv A outer s H E).nox (defBody s_l_grow) (rd_l_grow sp_l_grow) := by
  have nd := sc_l_grow.nd
  have hu := hu_of hr
  exact (ss_cons (s_set (i := 4) nd rfl (by first | exact Or.inl rfl | exact Or.inr rfl) (v_ix hu (v 1) (v 2)))
      (ss_cons (s_if (t_cmp o_lt (v_ix hu (v 3) v_int) v_int (by first | exact nomark _ | with_unfolding_all rfl))
        (ss_cons (s_set (i := 5) nd rfl (by first | exact Or.inl rfl | exact Or.inr rfl) (v_lst a_nil))
      (ss_cons (s_for PassesOwn.never rfl (i_range1 (by rfl) T.range_ (a_cons (v_callB c_len (by rfl) T.len_ bt_len (a_cons (v 0) a_nil)) a_nil)) (w_name (i := 6) nd rfl (by first | exact Or.inl rfl | exact Or.inr rfl))
        (ss_one (s_if (PW.pt (t_and (t_cmp (o_eq hr.units) (v_ix hu (v_ix hu (v 0) (v 6)) v_int) (v 2) (by first | exact nomark _ | with_unfolding_all rfl)) (t_and1 (t_val (v_call G_l_all_in (hr.mono (by omega)) (by rfl) F_l_all_in.at_ F_l_all_in.fn.kp F_l_all_in.bi (a_cons (v_ix hu (v_ix hu (v 0) (v 6)) v_int) (a_cons (v 1) a_nil)))))))
        (ss_one (s_expr (v_bm PySem.F.plainAttrs_list PySem.F.slot_list_append PySem.F.type_list_append m_append (v 5) (a_cons (v 6) a_nil))))
        ss_nil)))
      (ss_cons (s_set (i := 4) nd rfl (by first | exact Or.inl rfl | exact Or.inr rfl) (v_ix hu (v 5) (v_op o_mod (v_ix hu (v 3) v_int) (v_callB c_len (by rfl) T.len_ bt_len (a_cons (v 5) a_nil)))))
      (ss_one (s_asg (v_op o_fdiv (v_ix hu (v 3) v_int) (v_callB c_len (by rfl) T.len_ bt_len (a_cons (v 5) a_nil))) (w_sub hu (v 3) v_int))))))
        ss_nil)
      (ss_cons (s_asg (v_op o_addF (v_ix hu (v 3) v_int) v_int) (w_sub hu (v 3) v_int))
      (ss_cons (s_set (i := 7) nd rfl (by first | exact Or.inl rfl | exact Or.inr rfl) (v_lst a_nil))
      (ss_cons (s_for PassesOwn.never rfl (i_seqN (v_ix hu (v_ix hu (v 0) (v 4)) v_int)) (w_name (i := 8) nd rfl (by first | exact Or.inl rfl | exact Or.inr rfl))
        (ss_one (s_if (t_val (v_call G_l_is_name (hr.mono (by omega)) (by rfl) F_l_is_name.at_ F_l_is_name.fn.kp F_l_is_name.bi (a_cons (v 8) a_nil)))
        (ss_one (s_expr (v_bm PySem.F.plainAttrs_list PySem.F.slot_list_append PySem.F.type_list_append m_append (v 7) (a_cons (v_call G_l_grow (hr.mono (by omega)) (by rfl) F_l_grow.at_ F_l_grow.fn.kp F_l_grow.bi (a_cons (v 0) (a_cons (v 1) (a_cons (v 8) (a_cons (v 3) a_nil))))) a_nil))))
        (ss_one (s_expr (v_bm PySem.F.plainAttrs_list PySem.F.slot_list_append PySem.F.type_list_append m_append (v 7) (a_cons (v 8) a_nil)))))))
      (ss_one (s_ret (v_tup (a_cons (v 4) (a_cons (v_callTy c_tuple (by rfl) T.tuple_ bt_tuple (a_cons (v 7) a_nil)) a_nil))))))))))
theorem okr_l_grow (T : Tx mg) {f_l_grow : Addr} {fd_l_grow : FuncData} (F_l_grow : Df K mg "_law_grow" s_l_grow ["rules", "chosen", "name", "state"] f_l_grow fd_l_grow) {f_l_is_name : Addr} {fd_l_is_name : FuncData} (F_l_is_name : Df K mg "_law_is_name" s_l_is_name ["part"] f_l_is_name fd_l_is_name) {f_l_all_in : Addr} {fd_l_all_in : FuncData} (F_l_all_in : Df K mg "_law_all_in" s_l_all_in ["parts", "chosen"] f_l_all_in fd_l_all_in) : ∀ n, FnOk P w K mg base CX0 (3 + n) f_l_grow fd_l_grow ["rules", "chosen", "name", "state"] (upSp K (spr_l_grow n))
  | 0 => ok3 (k := 2) F_l_grow.fn sc_l_grow (fun _ _ _ h => h.elim) fun cdv A outer s H E ws M R hr h => h.elim
  | n + 1 => ok3 (k := 3 + n) F_l_grow.fn sc_l_grow (len_l_grow (n + 1)) fun cdv A outer s H E ws M R hr h => ⟨rd_l_grow (spr_l_grow n), tm_l_grow T F_l_is_name (ok_l_is_name T F_l_is_name) F_l_all_in (ok_l_all_in T F_l_all_in F_l_is_name) F_l_grow (okr_l_grow T F_l_grow F_l_is_name F_l_all_in n) hr, good_l_grow h⟩
theorem ok_l_grow (T : Tx mg) {f_l_grow : Addr} {fd_l_grow : FuncData} (F_l_grow : Df K mg "_law_grow" s_l_grow ["rules", "chosen", "name", "state"] f_l_grow fd_l_grow) {f_l_is_name : Addr} {fd_l_is_name : FuncData} (F_l_is_name : Df K mg "_law_is_name" s_l_is_name ["part"] f_l_is_name fd_l_is_name) {f_l_all_in : Addr} {fd_l_all_in : FuncData} (F_l_all_in : Df K mg "_law_all_in" s_l_all_in ["parts", "chosen"] f_l_all_in fd_l_all_in) : FnOk P w K mg base CX0 33 f_l_grow fd_l_grow ["rules", "chosen", "name", "state"] (upSp K sp_l_grow) := okr_l_grow T F_l_grow F_l_is_name F_l_all_in 30
theorem sc_l_number : FnScope N_l_number ["cell"] (defScope s_l_number) := ⟨rfl, rfl, rfl, by decide +kernel, rfl, by decide +kernel, by decide +kernel⟩
theorem tm_l_number {f : Addr} {cdv : Value} {A : Around} {outer : List Env} {s : Shared} {H : Hp} {E : XK} (T : Tx mg) {f_l_stir : Addr} {fd_l_stir : FuncData} (F_l_stir : Df K mg "_law_stir" s_l_stir ["cell", "k"] f_l_stir fd_l_stir) (G_l_stir : FnOk P w K mg base CX0 1 f_l_stir fd_l_stir ["cell", "k"] (upSp K sp_l_stir)) (hr : Room 1 (A.deeper (envOfC "_law_number" (defScope s_l_number) s.heap.objs.size f cdv))) :
    Ps3 (cxOf CX0 P w K mg base N_l_number "_law_number" (defScope s_l_number) f cdv A outer s H E).nox (defBody s_l_number) rd_l_number := by
  have nd := sc_l_number.nd
  have hu := hu_of hr
  exact (ss_cons (s_if (t_cmp o_ge (v 0) (v_op o_pow v_int v_int) (by first | exact nomark _ | with_unfolding_all rfl))
        (ss_one (s_ret (v_op o_sub (v 0) (v_op o_pow v_int v_int))))
        ss_nil)
      (ss_one (s_ret (v_op o_add (v_op o_mulF (v_call G_l_stir (hr.mono (by decide)) (by rfl) F_l_stir.at_ F_l_stir.fn.kp F_l_stir.bi (a_cons (v 0) (a_cons v_int a_nil))) (v_op o_pow v_int v_int)) (v_call G_l_stir (hr.mono (by decide)) (by rfl) F_l_stir.at_ F_l_stir.fn.kp F_l_stir.bi (a_cons (v 0) (a_cons v_int a_nil)))))))
theorem ok_l_number (T : Tx mg) {f_l_number : Addr} {fd_l_number : FuncData} (F_l_number : Df K mg "_law_number" s_l_number ["cell"] f_l_number fd_l_number) {f_l_stir : Addr} {fd_l_stir : FuncData} (F_l_stir : Df K mg "_law_stir" s_l_stir ["cell", "k"] f_l_stir fd_l_stir) : FnOk P w K mg base CX0 2 f_l_number fd_l_number ["cell"] (upSp K sp_l_number) :=
  ok3 F_l_number.fn sc_l_number len_l_number fun cdv A outer s H E ws M R hr h => ⟨rd_l_number, tm_l_number T F_l_stir (ok_l_stir T F_l_stir) hr, good_l_number h⟩
theorem sc_l_paths : FnScope N_l_paths ["tree", "path"] (defScope s_l_paths) := ⟨rfl, rfl, rfl, by decide +kernel, rfl, by decide +kernel, by decide +kernel⟩
theorem tm_l_paths {f : Addr} {cdv : Value} {A : Around} {outer : List Env} {s : Shared} {H : Hp} {E : XK} (T : Tx mg) {n : Nat} {sp_l_paths : Sp3} {f_l_paths : Addr} {fd_l_paths : FuncData} (F_l_paths : Df K mg "_law_paths" s_l_paths ["tree", "path"] f_l_paths fd_l_paths) (G_l_paths : FnOk P w K mg base CX0 (1 + n) f_l_paths fd_l_paths ["tree", "path"] (upSp K sp_l_paths)) (hr : Room (1 + n) (A.deeper (envOfC "_law_paths" (defScope s_l_paths) s.heap.objs.size f cdv))) :
    Ps3 (cxOf CX0 P w K mg base N_l_paths "_law_paths" (defScope s_l_paths) f cdv A outer s H E).nox (defBody s_l_paths) (rd_l_paths sp_l_paths) := by
  have nd := sc_l_paths.nd
  have hu := hu_of hr
  exact (ss_cons (s_set (i := 2) nd rfl (by first | exact Or.inl rfl | exact Or.inr rfl) (v_lstF (a_cons (v 1) a_nil)))
      (ss_cons (s_for PassesOwn.never rfl (i_range1 (by rfl) T.range_ (a_cons (v_callB c_len (by rfl) T.len_ bt_len (a_cons (v_ix hu (v 0) v_int) a_nil)) a_nil)) (w_name (i := 3) nd rfl (by first | exact Or.inl rfl | exact Or.inr rfl))
        (ss_one (s_if (t_not (t_val (v_callB c_isi (by rfl) T.isinstance_ bt_isinstance (a_cons (v_ix hu (v_ix hu (v 0) v_int) (v 3)) (a_cons (v_bltn (by rfl) T.str_ bt_str (y := .ty "str") rfl (fun _ _ => .ty _)) a_nil)))))
        (ss_one (s_set (i := 2) nd rfl (by first | exact Or.inl rfl | exact Or.inr rfl) (v_op o_addF (v 2) (v_call G_l_paths (hr.mono (by omega)) (by rfl) F_l_paths.at_ F_l_paths.fn.kp F_l_paths.bi (a_cons (v_ix hu (v_ix hu (v 0) v_int) (v 3)) (a_cons (v_op o_addF (v 1) (v_lstF (a_cons (v 3) a_nil))) a_nil))))))
        ss_nil)))
      (ss_one (s_ret (v 2)))))
theorem okr_l_paths (T : Tx mg) {f_l_paths : Addr} {fd_l_paths : FuncData} (F_l_paths : Df K mg "_law_paths" s_l_paths ["tree", "path"] f_l_paths fd_l_paths) : ∀ n, FnOk P w K mg base CX0 (1 + n) f_l_paths fd_l_paths ["tree", "path"] (upSp K (spr_l_paths n))
  | 0 => ok3 (k := 0) F_l_paths.fn sc_l_paths (fun _ _ _ h => h.elim) fun cdv A outer s H E ws M R hr h => h.elim
  | n + 1 => ok3 (k := 1 + n) F_l_paths.fn sc_l_paths (len_l_paths (n + 1)) fun cdv A outer s H E ws M R hr h => ⟨rd_l_paths (spr_l_paths n), tm_l_paths T F_l_paths (okr_l_paths T F_l_paths n) hr, good_l_paths h⟩
theorem ok_l_paths (T : Tx mg) {f_l_paths : Addr} {fd_l_paths : FuncData} (F_l_paths : Df K mg "_law_paths" s_l_paths ["tree", "path"] f_l_paths fd_l_paths) : FnOk P w K mg base CX0 31 f_l_paths fd_l_paths ["tree", "path"] (upSp K sp_l_paths) := okr_l_paths T F_l_paths 30
theorem sc_l_at : FnScope N_l_at ["tree", "path"] (defScope s_l_at) := ⟨rfl, rfl, rfl, by decide +kernel, rfl, by decide +kernel, by decide +kernel⟩
theorem tm_l_at {f : Addr} {cdv : Value} {A : Around} {outer : List Env} {s : Shared} {H : Hp} {E : XK} (T : Tx mg) (hr : Room 0 (A.deeper (envOfC "_law_at" (defScope s_l_at) s.heap.objs.size f cdv))) :
    Ps3 (cxOf CX0 P w K mg base N_l_at "_law_at" (defScope s_l_at) f cdv A outer s H E).nox (defBody s_l_at) rd_l_at := by
  have nd := sc_l_at.nd
  have hu := hu_of hr
  exact (ss_cons (s_for PassesOwn.never rfl (i_seqN (v 1)) (w_name (i := 2) nd rfl (by first | exact Or.inl rfl | exact Or.inr rfl))
        (ss_one (s_set (i := 0) nd rfl (by first | exact Or.inl rfl | exact Or.inr rfl) (v_ix hu (v_ix hu (v 0) v_int) (v 2)))))
      (ss_one (s_ret (v 0))))
theorem ok_l_at (T : Tx mg) {f_l_at : Addr} {fd_l_at : FuncData} (F_l_at : Df K mg "_law_at" s_l_at ["tree", "path"] f_l_at fd_l_at) : FnOk P w K mg base CX0 1 f_l_at fd_l_at ["tree", "path"] (upSp K sp_l_at) :=
  ok3 F_l_at.fn sc_l_at len_l_at fun cdv A outer s H E ws M R hr h => ⟨rd_l_at, tm_l_at T hr, good_l_at h⟩
theorem sc_l_put : FnScope N_l_put ["tree", "path", "other"] (defScope s_l_put) := ⟨rfl, rfl, rfl, by decide +kernel, rfl, by decide +kernel, by decide +kernel⟩
theorem tm_l_put {f : Addr} {cdv : Value} {A : Around} {outer : List Env} {s : Shared} {H : Hp} {E : XK} (T : Tx mg) {n : Nat} {sp_l_put : Sp3} {f_l_put : Addr} {fd_l_put : FuncData} (F_l_put : Df K mg "_law_put" s_l_put ["tree", "path", "other"] f_l_put fd_l_put) (G_l_put : FnOk P w K mg base CX0 (1 + n) f_l_put fd_l_put ["tree", "path", "other"] (upSp K sp_l_put)) (hr : Room (1 + n) (A.deeper (envOfC "_law_put" (defScope s_l_put) s.heap.objs.size f cdv))) :
    Ps3 (cxOf CX0 P w K mg base N_l_put "_law_put" (defScope s_l_put) f cdv A outer s H E).nox (defBody s_l_put) (rd_l_put sp_l_put) := by
  have nd := sc_l_put.nd
  have hu := hu_of hr
  exact (ss_cons (s_if (t_cmp (o_eq hr.units) (v 1) (v_lstF a_nil) (by first | exact nomark _ | with_unfolding_all rfl))
        (ss_one (s_ret (v 2)))
        ss_nil)
      (ss_cons (s_set (i := 3) nd rfl (by first | exact Or.inl rfl | exact Or.inr rfl) (v_callTy (c_list rfl) (by rfl) T.list_ bt_list (a_cons (v_ix hu (v 0) v_int) a_nil)))
      (ss_cons (s_asg (v_call G_l_put (hr.mono (by omega)) (by rfl) F_l_put.at_ F_l_put.fn.kp F_l_put.bi (a_cons (v_ix hu (v 3) (v_ix hu (v 1) v_int)) (a_cons (v_sliceF (v 1) (s_some v_int) s_none) (a_cons (v 2) a_nil)))) (w_sub hu (v 3) (v_ix hu (v 1) v_int)))
      (ss_one (s_ret (v_tup (a_cons (v_ix hu (v 0) v_int) (a_cons (v_callTy c_tuple (by rfl) T.tuple_ bt_tuple (a_cons (v 3) a_nil)) a_nil))))))))
theorem okr_l_put (T : Tx mg) {f_l_put : Addr} {fd_l_put : FuncData} (F_l_put : Df K mg "_law_put" s_l_put ["tree", "path", "other"] f_l_put fd_l_put) : ∀ n, FnOk P w K mg base CX0 (1 + n) f_l_put fd_l_put ["tree", "path", "other"] (upSp K (spr_l_put n))
  | 0 => ok3 (k := 0) F_l_put.fn sc_l_put (fun _ _ _ h => h.elim) fun cdv A outer s H E ws M R hr h => h.elim
  | n + 1 => ok3 (k := 1 + n) F_l_put.fn sc_l_put (len_l_put (n + 1)) fun cdv A outer s H E ws M R hr h => ⟨rd_l_put (spr_l_put n), tm_l_put T F_l_put (okr_l_put T F_l_put n) hr, good_l_put h⟩
theorem ok_l_put (T : Tx mg) {f_l_put : Addr} {fd_l_put : FuncData} (F_l_put : Df K mg "_law_put" s_l_put ["tree", "path", "other"] f_l_put fd_l_put) : FnOk P w K mg base CX0 31 f_l_put fd_l_put ["tree", "path", "other"] (upSp K sp_l_put) := okr_l_put T F_l_put 30
theorem sc_l_ahead : FnScope N_l_ahead ["tree", "path"] (defScope s_l_ahead) := ⟨rfl, rfl, rfl, by decide +kernel, rfl, by decide +kernel, by decide +kernel⟩
theorem tm_l_ahead {f : Addr} {cdv : Value} {A : Around} {outer : List Env} {s : Shared} {H : Hp} {E : XK} (T : Tx mg) {f_row_of : Addr} {fd_row_of : FuncData} (F_row_of : Df K mg "row_of" s_row_of ["tree"] f_row_of fd_row_of) (G_row_of : FnOk P w K mg base CX0 2 f_row_of fd_row_of ["tree"] (upSp K sp_row_of)) (hr : Room 2 (A.deeper (envOfC "_law_ahead" (defScope s_l_ahead) s.heap.objs.size f cdv))) :
    Ps3 (cxOf CX0 P w K mg base N_l_ahead "_law_ahead" (defScope s_l_ahead) f cdv A outer s H E).nox (defBody s_l_ahead) rd_l_ahead := by
  have nd := sc_l_ahead.nd
  have hu := hu_of hr
  exact (ss_cons (s_set (i := 2) nd rfl (by first | exact Or.inl rfl | exact Or.inr rfl) v_int)
      (ss_cons (s_for PassesOwn.never rfl (i_seqN (v 1)) (w_name (i := 3) nd rfl (by first | exact Or.inl rfl | exact Or.inr rfl))
        (ss_cons (s_for PassesOwn.never rfl (i_seqN (v_sliceF (v_ix hu (v 0) v_int) s_none (s_some (v 3)))) (w_name (i := 4) nd rfl (by first | exact Or.inl rfl | exact Or.inr rfl))
        (ss_cons (s_set (i := 2) nd rfl (by first | exact Or.inl rfl | exact Or.inr rfl) (v_op o_addF (v 2) (v_ix hu (v_lstF (a_cons v_int (a_cons v_int a_nil))) (v_callTy c_int (by rfl) T.int_ bt_int (a_cons (v_not (v_callB c_isi (by rfl) T.isinstance_ bt_isinstance (a_cons (v 4) (a_cons (v_bltn (by rfl) T.str_ bt_str (y := .ty "str") rfl (fun _ _ => .ty _)) a_nil)))) a_nil)))))
      (ss_one (s_if (t_not (t_val (v_callB c_isi (by rfl) T.isinstance_ bt_isinstance (a_cons (v 4) (a_cons (v_bltn (by rfl) T.str_ bt_str (y := .ty "str") rfl (fun _ _ => .ty _)) a_nil)))))
        (ss_one (s_set (i := 2) nd rfl (by first | exact Or.inl rfl | exact Or.inr rfl) (v_op o_addF (v 2) (v_callB c_len (by rfl) T.len_ bt_len (a_cons (v_frz (v_call G_row_of (hr.mono (by decide)) (by rfl) F_row_of.at_ F_row_of.fn.kp F_row_of.bi (a_cons (v 4) a_nil))) a_nil)))))
        ss_nil))))
      (ss_one (s_set (i := 0) nd rfl (by first | exact Or.inl rfl | exact Or.inr rfl) (v_ix hu (v_ix hu (v 0) v_int) (v 3))))))
      (ss_one (s_ret (v 2)))))
theorem ok_l_ahead (T : Tx mg) {f_l_ahead : Addr} {fd_l_ahead : FuncData} (F_l_ahead : Df K mg "_law_ahead" s_l_ahead ["tree", "path"] f_l_ahead fd_l_ahead) {f_is_tree : Addr} {fd_is_tree : FuncData} (F_is_tree : Df K mg "is_tree" s_is_tree ["child"] f_is_tree fd_is_tree) {f_row_of : Addr} {fd_row_of : FuncData} (F_row_of : Df K mg "row_of" s_row_of ["tree"] f_row_of fd_row_of) : FnOk P w K mg base CX0 3 f_l_ahead fd_l_ahead ["tree", "path"] (upSp K sp_l_ahead) :=
  ok3 F_l_ahead.fn sc_l_ahead len_l_ahead fun cdv A outer s H E ws M R hr h => ⟨rd_l_ahead, tm_l_ahead T F_row_of (ok_row_of T F_row_of F_is_tree) hr, good_l_ahead h⟩
theorem sc_l_right : FnScope N_l_right ["grammar", "tree", "path", "other"] (defScope s_l_right) := ⟨rfl, rfl, rfl, by decide +kernel, rfl, by decide +kernel, by decide +kernel⟩
theorem tm_l_right {f : Addr} {cdv : Value} {A : Around} {outer : List Env} {s : Shared} {H : Hp} {E : XK} (T : Tx mg) {f_l_at : Addr} {fd_l_at : FuncData} (F_l_at : Df K mg "_law_at" s_l_at ["tree", "path"] f_l_at fd_l_at) (G_l_at : FnOk P w K mg base CX0 1 f_l_at fd_l_at ["tree", "path"] (upSp K sp_l_at)) {f_l_put : Addr} {fd_l_put : FuncData} (F_l_put : Df K mg "_law_put" s_l_put ["tree", "path", "other"] f_l_put fd_l_put) (G_l_put : FnOk P w K mg base CX0 31 f_l_put fd_l_put ["tree", "path", "other"] (upSp K sp_l_put)) {f_row_of : Addr} {fd_row_of : FuncData} (F_row_of : Df K mg "row_of" s_row_of ["tree"] f_row_of fd_row_of) (G_row_of : FnOk P w K mg base CX0 2 f_row_of fd_row_of ["tree"] (upSp K sp_row_of)) {f_l_ahead : Addr} {fd_l_ahead : FuncData} (F_l_ahead : Df K mg "_law_ahead" s_l_ahead ["tree", "path"] f_l_ahead fd_l_ahead) (G_l_ahead : FnOk P w K mg base CX0 3 f_l_ahead fd_l_ahead ["tree", "path"] (upSp K sp_l_ahead)) {f_right_tree : Addr} {fd_right_tree : FuncData} (F_right_tree : Df K mg "right_tree" s_right_tree ["grammar", "name", "tree"] f_right_tree fd_right_tree) (G_right_tree : FnOk P w K mg base CX0 4 f_right_tree fd_right_tree ["grammar", "name", "tree"] (upSp K sp_right_tree)) {f_tree_cost : Addr} {fd_tree_cost : FuncData} (F_tree_cost : Df K mg "tree_cost" s_tree_cost ["grammar", "tree"] f_tree_cost fd_tree_cost) (G_tree_cost : FnOk P w K mg base CX0 3 f_tree_cost fd_tree_cost ["grammar", "tree"] (upSp K sp_tree_cost)) {f_knots : Addr} {fd_knots : FuncData} (F_knots : Df K mg "knots" s_knots ["tree"] f_knots fd_knots) (G_knots : FnOk P w K mg base CX0 3 f_knots fd_knots ["tree"] (upSp K sp_knots)) {f_depth : Addr} {fd_depth : FuncData} (F_depth : Df K mg "depth" s_depth ["tree"] f_depth fd_depth) (G_depth : FnOk P w K mg base CX0 3 f_depth fd_depth ["tree"] (upSp K sp_depth)) (hr : Room 31 (A.deeper (envOfC "_law_right" (defScope s_l_right) s.heap.objs.size f cdv))) :
    Ps3 (cxOf CX0 P w K mg base N_l_right "_law_right" (defScope s_l_right) f cdv A outer s H E).nox (defBody s_l_right) rd_l_right := by
  have nd := sc_l_right.nd
  have hu := hu_of hr
  exact (ss_cons (s_set (i := 4) nd rfl (by first | exact Or.inl rfl | exact Or.inr rfl) (v_call G_l_at (hr.mono (by decide)) (by rfl) F_l_at.at_ F_l_at.fn.kp F_l_at.bi (a_cons (v 1) (a_cons (v 2) a_nil))))
      (ss_cons (s_set (i := 5) nd rfl (by first | exact Or.inl rfl | exact Or.inr rfl) (v_call G_l_put (hr.mono (by decide)) (by rfl) F_l_put.at_ F_l_put.fn.kp F_l_put.bi (a_cons (v 1) (a_cons (v 2) (a_cons (v 3) a_nil)))))
      (ss_cons (s_if (t_not (t_val (v_call G_right_tree (hr.mono (by decide)) (by rfl) F_right_tree.at_ F_right_tree.fn.kp F_right_tree.bi (a_cons (v 0) (a_cons (v_ix hu (v_ix hu (v 0) (v_ix hu (v 1) v_int)) v_int) (a_cons (v 5) a_nil))))))
        (ss_one (s_ret v_bl))
        ss_nil)
      (ss_cons (s_set (i := 6) nd rfl (by first | exact Or.inl rfl | exact Or.inr rfl) (v_frz (v_call G_row_of (hr.mono (by decide)) (by rfl) F_row_of.at_ F_row_of.fn.kp F_row_of.bi (a_cons (v 1) a_nil))))
      (ss_cons (s_set (i := 7) nd rfl (by first | exact Or.inl rfl | exact Or.inr rfl) (v_call G_l_ahead (hr.mono (by decide)) (by rfl) F_l_ahead.at_ F_l_ahead.fn.kp F_l_ahead.bi (a_cons (v 1) (a_cons (v 2) a_nil))))
      (ss_cons (s_set (i := 8) nd rfl (by first | exact Or.inl rfl | exact Or.inr rfl) (v_sliceF (v 6) (s_some (v_op o_addF (v 7) (v_callB c_len (by rfl) T.len_ bt_len (a_cons (v_frz (v_call G_row_of (hr.mono (by decide)) (by rfl) F_row_of.at_ F_row_of.fn.kp F_row_of.bi (a_cons (v 4) a_nil))) a_nil)))) s_none))
      (ss_cons (s_if (t_cmp (o_ne hr.units) (v_frz (v_call G_row_of (hr.mono (by decide)) (by rfl) F_row_of.at_ F_row_of.fn.kp F_row_of.bi (a_cons (v 5) a_nil))) (v_op o_addF (v_op o_addF (v_sliceF (v 6) s_none (s_some (v 7))) (v_frz (v_call G_row_of (hr.mono (by decide)) (by rfl) F_row_of.at_ F_row_of.fn.kp F_row_of.bi (a_cons (v 3) a_nil)))) (v 8)) (by first | exact nomark _ | with_unfolding_all rfl))
        (ss_one (s_ret v_bl))
        ss_nil)
      (ss_cons (s_set (i := 9) nd rfl (by first | exact Or.inl rfl | exact Or.inr rfl) (v_op o_sub (v_call G_tree_cost (hr.mono (by decide)) (by rfl) F_tree_cost.at_ F_tree_cost.fn.kp F_tree_cost.bi (a_cons (v 0) (a_cons (v 1) a_nil))) (v_call G_tree_cost (hr.mono (by decide)) (by rfl) F_tree_cost.at_ F_tree_cost.fn.kp F_tree_cost.bi (a_cons (v 0) (a_cons (v 4) a_nil)))))
      (ss_cons (s_if (t_cmp (o_ne hr.units) (v_call G_tree_cost (hr.mono (by decide)) (by rfl) F_tree_cost.at_ F_tree_cost.fn.kp F_tree_cost.bi (a_cons (v 0) (a_cons (v 5) a_nil))) (v_op o_addF (v 9) (v_call G_tree_cost (hr.mono (by decide)) (by rfl) F_tree_cost.at_ F_tree_cost.fn.kp F_tree_cost.bi (a_cons (v 0) (a_cons (v 3) a_nil)))) (by first | exact nomark _ | with_unfolding_all rfl))
        (ss_one (s_ret v_bl))
        ss_nil)
      (ss_cons (s_if (PW.pt (t_or (t_cmp (o_ne hr.units) (v_call G_knots (hr.mono (by decide)) (by rfl) F_knots.at_ F_knots.fn.kp F_knots.bi (a_cons (v 5) a_nil)) (v_op o_addF (v_op o_sub (v_call G_knots (hr.mono (by decide)) (by rfl) F_knots.at_ F_knots.fn.kp F_knots.bi (a_cons (v 1) a_nil)) (v_call G_knots (hr.mono (by decide)) (by rfl) F_knots.at_ F_knots.fn.kp F_knots.bi (a_cons (v 4) a_nil))) (v_call G_knots (hr.mono (by decide)) (by rfl) F_knots.at_ F_knots.fn.kp F_knots.bi (a_cons (v 3) a_nil))) (by first | exact nomark _ | with_unfolding_all rfl)) (t_or1 (t_cmp o_lt (v_call G_depth (hr.mono (by decide)) (by rfl) F_depth.at_ F_depth.fn.kp F_depth.bi (a_cons (v 5) a_nil)) (v_op o_addF (v_call G_depth (hr.mono (by decide)) (by rfl) F_depth.at_ F_depth.fn.kp F_depth.bi (a_cons (v 3) a_nil)) (v_callB c_len (by rfl) T.len_ bt_len (a_cons (v 2) a_nil))) (by first | exact nomark _ | with_unfolding_all rfl)))))
        (ss_one (s_ret v_bl))
        ss_nil)
      (ss_one (s_ret (v_and (v_cmp (o_eq hr.units) (v_frz (v_call G_row_of (hr.mono (by decide)) (by rfl) F_row_of.at_ F_row_of.fn.kp F_row_of.bi (a_cons (v 1) a_nil))) (v 6) (by first | exact nomark _ | with_unfolding_all rfl)) (v_one (v_cmp (o_eq hr.units) (v_call G_l_put (hr.mono (by decide)) (by rfl) F_l_put.at_ F_l_put.fn.kp F_l_put.bi (a_cons (v 5) (a_cons (v 2) (a_cons (v 4) a_nil)))) (v 1) (by first | exact nomark _ | with_unfolding_all rfl))))))))))))))))
theorem ok_l_right (T : Tx mg) {f_l_right : Addr} {fd_l_right : FuncData} (F_l_right : Df K mg "_law_right" s_l_right ["grammar", "tree", "path", "other"] f_l_right fd_l_right) {f_made_of : Addr} {fd_made_of : FuncData} (F_made_of : Df K mg "made_of" s_made_of ["text", "signs"] f_made_of fd_made_of) {f_is_name : Addr} {fd_is_name : FuncData} (F_is_name : Df K mg "is_name" s_is_name ["part"] f_is_name fd_is_name) {f_is_tree : Addr} {fd_is_tree : FuncData} (F_is_tree : Df K mg "is_tree" s_is_tree ["child"] f_is_tree fd_is_tree) {f_row_of : Addr} {fd_row_of : FuncData} (F_row_of : Df K mg "row_of" s_row_of ["tree"] f_row_of fd_row_of) {f_trees_within : Addr} {fd_trees_within : FuncData} (F_trees_within : Df K mg "trees_within" s_trees_within ["tree"] f_trees_within fd_trees_within) {f_tree_cost : Addr} {fd_tree_cost : FuncData} (F_tree_cost : Df K mg "tree_cost" s_tree_cost ["grammar", "tree"] f_tree_cost fd_tree_cost) {f_knots : Addr} {fd_knots : FuncData} (F_knots : Df K mg "knots" s_knots ["tree"] f_knots fd_knots) {f_depth : Addr} {fd_depth : FuncData} (F_depth : Df K mg "depth" s_depth ["tree"] f_depth fd_depth) {f_right_knot : Addr} {fd_right_knot : FuncData} (F_right_knot : Df K mg "right_knot" s_right_knot ["grammar", "name", "tree"] f_right_knot fd_right_knot) {f_right_tree : Addr} {fd_right_tree : FuncData} (F_right_tree : Df K mg "right_tree" s_right_tree ["grammar", "name", "tree"] f_right_tree fd_right_tree) {f_l_at : Addr} {fd_l_at : FuncData} (F_l_at : Df K mg "_law_at" s_l_at ["tree", "path"] f_l_at fd_l_at) {f_l_put : Addr} {fd_l_put : FuncData} (F_l_put : Df K mg "_law_put" s_l_put ["tree", "path", "other"] f_l_put fd_l_put) {f_l_ahead : Addr} {fd_l_ahead : FuncData} (F_l_ahead : Df K mg "_law_ahead" s_l_ahead ["tree", "path"] f_l_ahead fd_l_ahead) : FnOk P w K mg base CX0 32 f_l_right fd_l_right ["grammar", "tree", "path", "other"] (upSp K sp_l_right) :=
  ok3 F_l_right.fn sc_l_right len_l_right fun cdv A outer s H E ws M R hr h => ⟨rd_l_right, tm_l_right T F_l_at (ok_l_at T F_l_at) F_l_put (ok_l_put T F_l_put) F_row_of (ok_row_of T F_row_of F_is_tree) F_l_ahead (ok_l_ahead T F_l_ahead F_is_tree F_row_of) F_right_tree (ok_right_tree T F_right_tree F_made_of F_is_name F_is_tree F_right_knot) F_tree_cost (ok_tree_cost T F_tree_cost F_is_tree F_trees_within) F_knots (ok_knots T F_knots F_is_tree F_trees_within) F_depth (ok_depth T F_depth F_is_tree F_trees_within) hr, good_l_right h⟩
theorem sc_law : FnScope N_law ["script"] (defScope s_law) := ⟨rfl, rfl, rfl, by decide +kernel, rfl, by decide +kernel, by decide +kernel⟩
theorem tm_law {f : Addr} {cdv : Value} {A : Around} {outer : List Env} {s : Shared} {H : Hp} {E : XK} (T : Tx mg) {f_l_sizes : Addr} {fd_l_sizes : FuncData} (F_l_sizes : Df K mg "_law_sizes" s_l_sizes ["cell"] f_l_sizes fd_l_sizes) (G_l_sizes : FnOk P w K mg base CX0 3 f_l_sizes fd_l_sizes ["cell"] (upSp K sp_l_sizes)) {f_l_rules : Addr} {fd_l_rules : FuncData} (F_l_rules : Df K mg "_law_rules" s_l_rules ["cells", "many", "most"] f_l_rules fd_l_rules) (G_l_rules : FnOk P w K mg base CX0 4 f_l_rules fd_l_rules ["cells", "many", "most"] (upSp K sp_l_rules)) {f_grammar_of : Addr} {fd_grammar_of : FuncData} (F_grammar_of : Df K mg "grammar_of" s_grammar_of ["rules"] f_grammar_of fd_grammar_of) (G_grammar_of : FnOk P w K mg base CX0 4 f_grammar_of fd_grammar_of ["rules"] (upSp K sp_grammar_of)) {f_l_chosen : Addr} {fd_l_chosen : FuncData} (F_l_chosen : Df K mg "_law_chosen" s_l_chosen ["rules"] f_l_chosen fd_l_chosen) (G_l_chosen : FnOk P w K mg base CX0 3 f_l_chosen fd_l_chosen ["rules"] (upSp K sp_l_chosen)) {f_l_cell_at : Addr} {fd_l_cell_at : FuncData} (F_l_cell_at : Df K mg "_law_cell_at" s_l_cell_at ["script", "k"] f_l_cell_at fd_l_cell_at) (G_l_cell_at : FnOk P w K mg base CX0 1 f_l_cell_at fd_l_cell_at ["script", "k"] (upSp K sp_l_cell_at)) {f_l_number : Addr} {fd_l_number : FuncData} (F_l_number : Df K mg "_law_number" s_l_number ["cell"] f_l_number fd_l_number) (G_l_number : FnOk P w K mg base CX0 2 f_l_number fd_l_number ["cell"] (upSp K sp_l_number)) {f_l_grow : Addr} {fd_l_grow : FuncData} (F_l_grow : Df K mg "_law_grow" s_l_grow ["rules", "chosen", "name", "state"] f_l_grow fd_l_grow) (G_l_grow : FnOk P w K mg base CX0 33 f_l_grow fd_l_grow ["rules", "chosen", "name", "state"] (upSp K sp_l_grow)) {f_l_paths : Addr} {fd_l_paths : FuncData} (F_l_paths : Df K mg "_law_paths" s_l_paths ["tree", "path"] f_l_paths fd_l_paths) (G_l_paths : FnOk P w K mg base CX0 31 f_l_paths fd_l_paths ["tree", "path"] (upSp K sp_l_paths)) {f_l_right : Addr} {fd_l_right : FuncData} (F_l_right : Df K mg "_law_right" s_l_right ["grammar", "tree", "path", "other"] f_l_right fd_l_right) (G_l_right : FnOk P w K mg base CX0 32 f_l_right fd_l_right ["grammar", "tree", "path", "other"] (upSp K sp_l_right)) {f_l_at : Addr} {fd_l_at : FuncData} (F_l_at : Df K mg "_law_at" s_l_at ["tree", "path"] f_l_at fd_l_at) (G_l_at : FnOk P w K mg base CX0 1 f_l_at fd_l_at ["tree", "path"] (upSp K sp_l_at)) (hr : Room 33 (A.deeper (envOfC "law" (defScope s_law) s.heap.objs.size f cdv))) :
    Ps3 (cxOf CX0 P w K mg base N_law "law" (defScope s_law) f cdv A outer s H E).nox (defBody s_law) rd_law := by
  have nd := sc_law.nd
  have hu := hu_of hr
  exact (ss_cons (s_asg (v_call G_l_sizes (hr.mono (by decide)) (by rfl) F_l_sizes.at_ F_l_sizes.fn.kp F_l_sizes.bi (a_cons (v_call G_l_cell_at (hr.mono (by decide)) (by rfl) F_l_cell_at.at_ F_l_cell_at.fn.kp F_l_cell_at.bi (a_cons (v 0) (a_cons v_int a_nil))) a_nil)) (w_tup rfl (w_cons (w_name (i := 1) nd rfl (by first | exact Or.inl rfl | exact Or.inr rfl)) (w_cons (w_name (i := 2) nd rfl (by first | exact Or.inl rfl | exact Or.inr rfl)) w_nil))))
      (ss_cons (s_set (i := 3) nd rfl (by first | exact Or.inl rfl | exact Or.inr rfl) (v_frz (v_call G_l_rules (hr.mono (by decide)) (by rfl) F_l_rules.at_ F_l_rules.fn.kp F_l_rules.bi (a_cons (v_sliceF (v 0) (s_some v_int) (s_some v_int)) (a_cons (v 1) (a_cons (v 2) a_nil))))))
      (ss_cons (s_set (i := 4) nd rfl (by first | exact Or.inl rfl | exact Or.inr rfl) (v_frz (v_call G_grammar_of (hr.mono (by decide)) (by rfl) F_grammar_of.at_ F_grammar_of.fn.kp F_grammar_of.bi (a_cons (v_callTy (c_listF rfl) (by rfl) T.list_ bt_list (a_cons (v 3) a_nil)) a_nil))))
      (ss_cons (s_set (i := 5) nd rfl (by first | exact Or.inl rfl | exact Or.inr rfl) (v_frz (v_call G_l_chosen (hr.mono (by decide)) (by rfl) F_l_chosen.at_ F_l_chosen.fn.kp F_l_chosen.bi (a_cons (v 3) a_nil))))
      (ss_cons (s_set (i := 6) nd rfl (by first | exact Or.inl rfl | exact Or.inr rfl) (v_op o_addF (v_lstF (a_cons v_int (a_cons v_int a_nil))) (v_sliceF (v 0) (s_some v_int) (s_some v_int))))
      (ss_cons (s_for PassesOwn.never rfl (i_range3 (by rfl) T.range_ (a_cons v_int (a_cons (v_callB c_len (by rfl) T.len_ bt_len (a_cons (v 6) a_nil)) (a_cons v_int a_nil)))) (w_name (i := 7) nd rfl (by first | exact Or.inl rfl | exact Or.inr rfl))
        (ss_cons (s_set (i := 8) nd rfl (by first | exact Or.inl rfl | exact Or.inr rfl) (v_call G_l_number (hr.mono (by decide)) (by rfl) F_l_number.at_ F_l_number.fn.kp F_l_number.bi (a_cons (v_ix hu (v 6) (v 7)) a_nil)))
      (ss_one (s_if (t_cmp (o_neE hu) (v 5) (v_frz v_dnewK) (by first | exact nomark _ | with_unfolding_all rfl))
        (ss_cons (s_set (i := 9) nd rfl (by first | exact Or.inl rfl | exact Or.inr rfl) (v_ix hu (v_callB (c_sortDF rfl) (by rfl) T.sorted_ bt_sorted (a_cons (v 5) a_nil)) (v_op o_mod (v 8) (v_callB c_len (by rfl) T.len_ bt_len (a_cons (v 5) a_nil)))))
      (ss_cons (s_set (i := 10) nd rfl (by first | exact Or.inl rfl | exact Or.inr rfl) (v_call G_l_grow (hr.mono (by decide)) (by rfl) F_l_grow.at_ F_l_grow.fn.kp F_l_grow.bi (a_cons (v 3) (a_cons (v 5) (a_cons (v 9) (a_cons (v_lst (a_cons (v_op o_fdiv (v 8) v_int) (a_cons v_int a_nil))) a_nil))))))
      (ss_cons (s_set (i := 11) nd rfl (by first | exact Or.inl rfl | exact Or.inr rfl) (v_call G_l_paths (hr.mono (by decide)) (by rfl) F_l_paths.at_ F_l_paths.fn.kp F_l_paths.bi (a_cons (v 10) (a_cons (v_lstF a_nil) a_nil))))
      (ss_cons (s_set (i := 12) nd rfl (by first | exact Or.inl rfl | exact Or.inr rfl) (v_ix hu (v 11) (v_op o_mod (v_op o_fdiv (v 8) v_int) (v_callB c_len (by rfl) T.len_ bt_len (a_cons (v 11) a_nil)))))
      (ss_cons (s_set (i := 9) nd rfl (by first | exact Or.inl rfl | exact Or.inr rfl) (v_ix hu (v_ix hu (v 3) (v_ix hu (v_call G_l_at (hr.mono (by decide)) (by rfl) F_l_at.at_ F_l_at.fn.kp F_l_at.bi (a_cons (v 10) (a_cons (v 12) a_nil))) v_int)) v_int))
      (ss_cons (s_set (i := 8) nd rfl (by first | exact Or.inl rfl | exact Or.inr rfl) (v_call G_l_number (hr.mono (by decide)) (by rfl) F_l_number.at_ F_l_number.fn.kp F_l_number.bi (a_cons (v_call G_l_cell_at (hr.mono (by decide)) (by rfl) F_l_cell_at.at_ F_l_cell_at.fn.kp F_l_cell_at.bi (a_cons (v 6) (a_cons (v_op o_addF (v 7) v_int) a_nil))) a_nil)))
      (ss_cons (s_set (i := 13) nd rfl (by first | exact Or.inl rfl | exact Or.inr rfl) (v_call G_l_grow (hr.mono (by decide)) (by rfl) F_l_grow.at_ F_l_grow.fn.kp F_l_grow.bi (a_cons (v 3) (a_cons (v 5) (a_cons (v 9) (a_cons (v_lst (a_cons (v 8) (a_cons v_int a_nil))) a_nil))))))
      (ss_one (s_if (t_not (t_val (v_call G_l_right (hr.mono (by decide)) (by rfl) F_l_right.at_ F_l_right.fn.kp F_l_right.bi (a_cons (v 4) (a_cons (v 10) (a_cons (v 12) (a_cons (v 13) a_nil)))))))
        (ss_one (s_ret v_bl))
        ss_nil)))))))))
        ss_nil))))
      (ss_one (s_ret (v_cmp (o_eq hr.units) (v 4) (v 3) (by first | exact nomark _ | with_unfolding_all rfl))))))))))
theorem ok_law (T : Tx mg) {f_law : Addr} {fd_law : FuncData} (F_law : Df K mg "law" s_law ["script"] f_law fd_law) {f_made_of : Addr} {fd_made_of : FuncData} (F_made_of : Df K mg "made_of" s_made_of ["text", "signs"] f_made_of fd_made_of) {f_is_name : Addr} {fd_is_name : FuncData} (F_is_name : Df K mg "is_name" s_is_name ["part"] f_is_name fd_is_name) {f_names : Addr} {fd_names : FuncData} (F_names : Df K mg "names" s_names ["grammar"] f_names fd_names) {f_check_rule : Addr} {fd_check_rule : FuncData} (F_check_rule : Df K mg "check_rule" s_check_rule ["rule", "known"] f_check_rule fd_check_rule) {f_grammar_of : Addr} {fd_grammar_of : FuncData} (F_grammar_of : Df K mg "grammar_of" s_grammar_of ["rules"] f_grammar_of fd_grammar_of) {f_is_tree : Addr} {fd_is_tree : FuncData} (F_is_tree : Df K mg "is_tree" s_is_tree ["child"] f_is_tree fd_is_tree) {f_row_of : Addr} {fd_row_of : FuncData} (F_row_of : Df K mg "row_of" s_row_of ["tree"] f_row_of fd_row_of) {f_trees_within : Addr} {fd_trees_within : FuncData} (F_trees_within : Df K mg "trees_within" s_trees_within ["tree"] f_trees_within fd_trees_within) {f_tree_cost : Addr} {fd_tree_cost : FuncData} (F_tree_cost : Df K mg "tree_cost" s_tree_cost ["grammar", "tree"] f_tree_cost fd_tree_cost) {f_knots : Addr} {fd_knots : FuncData} (F_knots : Df K mg "knots" s_knots ["tree"] f_knots fd_knots) {f_depth : Addr} {fd_depth : FuncData} (F_depth : Df K mg "depth" s_depth ["tree"] f_depth fd_depth) {f_right_knot : Addr} {fd_right_knot : FuncData} (F_right_knot : Df K mg "right_knot" s_right_knot ["grammar", "name", "tree"] f_right_knot fd_right_knot) {f_right_tree : Addr} {fd_right_tree : FuncData} (F_right_tree : Df K mg "right_tree" s_right_tree ["grammar", "name", "tree"] f_right_tree fd_right_tree) {f_l_cell_at : Addr} {fd_l_cell_at : FuncData} (F_l_cell_at : Df K mg "_law_cell_at" s_l_cell_at ["script", "k"] f_l_cell_at fd_l_cell_at) {f_l_stir : Addr} {fd_l_stir : FuncData} (F_l_stir : Df K mg "_law_stir" s_l_stir ["cell", "k"] f_l_stir fd_l_stir) {f_l_drawn : Addr} {fd_l_drawn : FuncData} (F_l_drawn : Df K mg "_law_drawn" s_l_drawn ["cell", "sizes"] f_l_drawn fd_l_drawn) {f_l_unlike : Addr} {fd_l_unlike : FuncData} (F_l_unlike : Df K mg "_law_unlike" s_l_unlike ["number", "many", "great"] f_l_unlike fd_l_unlike) {f_l_rule : Addr} {fd_l_rule : FuncData} (F_l_rule : Df K mg "_law_rule" s_l_rule ["cell", "heads", "words", "most"] f_l_rule fd_l_rule) {f_l_rules : Addr} {fd_l_rules : FuncData} (F_l_rules : Df K mg "_law_rules" s_l_rules ["cells", "many", "most"] f_l_rules fd_l_rules) {f_l_sizes : Addr} {fd_l_sizes : FuncData} (F_l_sizes : Df K mg "_law_sizes" s_l_sizes ["cell"] f_l_sizes fd_l_sizes) {f_l_is_name : Addr} {fd_l_is_name : FuncData} (F_l_is_name : Df K mg "_law_is_name" s_l_is_name ["part"] f_l_is_name fd_l_is_name) {f_l_all_in : Addr} {fd_l_all_in : FuncData} (F_l_all_in : Df K mg "_law_all_in" s_l_all_in ["parts", "chosen"] f_l_all_in fd_l_all_in) {f_l_chosen : Addr} {fd_l_chosen : FuncData} (F_l_chosen : Df K mg "_law_chosen" s_l_chosen ["rules"] f_l_chosen fd_l_chosen) {f_l_grow : Addr} {fd_l_grow : FuncData} (F_l_grow : Df K mg "_law_grow" s_l_grow ["rules", "chosen", "name", "state"] f_l_grow fd_l_grow) {f_l_number : Addr} {fd_l_number : FuncData} (F_l_number : Df K mg "_law_number" s_l_number ["cell"] f_l_number fd_l_number) {f_l_paths : Addr} {fd_l_paths : FuncData} (F_l_paths : Df K mg "_law_paths" s_l_paths ["tree", "path"] f_l_paths fd_l_paths) {f_l_at : Addr} {fd_l_at : FuncData} (F_l_at : Df K mg "_law_at" s_l_at ["tree", "path"] f_l_at fd_l_at) {f_l_put : Addr} {fd_l_put : FuncData} (F_l_put : Df K mg "_law_put" s_l_put ["tree", "path", "other"] f_l_put fd_l_put) {f_l_ahead : Addr} {fd_l_ahead : FuncData} (F_l_ahead : Df K mg "_law_ahead" s_l_ahead ["tree", "path"] f_l_ahead fd_l_ahead) {f_l_right : Addr} {fd_l_right : FuncData} (F_l_right : Df K mg "_law_right" s_l_right ["grammar", "tree", "path", "other"] f_l_right fd_l_right) : FnOk P w K mg base CX0 34 f_law fd_law ["script"] (upSp K sp_law) :=
  ok3 F_law.fn sc_law len_law fun cdv A outer s H E ws M R hr h => ⟨rd_law, tm_law T F_l_sizes (ok_l_sizes T F_l_sizes F_l_stir F_l_drawn) F_l_rules (ok_l_rules T F_l_rules F_l_cell_at F_l_stir F_l_drawn F_l_unlike F_l_rule) F_grammar_of (ok_grammar_of T F_grammar_of F_made_of F_is_name F_names F_check_rule) F_l_chosen (ok_l_chosen T F_l_chosen F_l_is_name F_l_all_in) F_l_cell_at (ok_l_cell_at T F_l_cell_at) F_l_number (ok_l_number T F_l_number F_l_stir) F_l_grow (ok_l_grow T F_l_grow F_l_is_name F_l_all_in) F_l_paths (ok_l_paths T F_l_paths) F_l_right (ok_l_right T F_l_right F_made_of F_is_name F_is_tree F_row_of F_trees_within F_tree_cost F_knots F_depth F_right_knot F_right_tree F_l_at F_l_put F_l_ahead) F_l_at (ok_l_at T F_l_at) hr, good_law h⟩
end
end Rg
set_option Elab.async false
set_option linter.all false
set_option maxRecDepth 100000
set_option maxHeartbeats 4000000
namespace Rg
open PySem PySem.Spec PyProof.Rows L2 L3
noncomputable def en (P : Params) (x : String) (t : Tok) (v : Value) : DictEntry := ⟨PyData.keyHash P (Str.ofString x), .str (Str.ofString x) t, v⟩
noncomputable def hpK : Params → PySem.W.Frag := fun P => [(nat_lit 3, ⟨(.type "dict"), none, .dict [en P "__name__" 165 (.str (Str.ofString "law_readgrove_k09_whole_put_in") 327), en P "__doc__" 166 .none, en P "__package__" 167 .none, en P "__loader__" 168 (.builtin "__main__.__loader__#opaque"), en P "__spec__" 169 .none, en P "__annotations__" 170 (.ref 6), en P "__builtins__" 171 (.ref 4), en P "__file__" 173 (.str (Str.ofString "/claim/cut.py") 172), en P "__cached__" 174 .none, en P "GroveError" 206 (.ref 24), en P "NoGrammar" 222 (.ref 37), en P "GREAT_LETTERS" 226 (.str (Str.ofString "ABCDEFGHIJKLMNOPQRSTUVWXYZ") 225), en P "FIGURES" 228 (.str (Str.ofString "0123456789") 227), en P "made_of" 234 (.ref 44), en P "is_name" 243 (.ref 51), en P "names" 252 (.ref 58), en P "check_rule" 261 (.ref 65), en P "grammar_of" 270 (.ref 72), en P "is_tree" 279 (.ref 79), en P "row_of" 289 (.ref 86), en P "trees_within" 295 (.ref 91), en P "tree_cost" 301 (.ref 96), en P "knots" 308 (.ref 103), en P "depth" 314 (.ref 108), en P "right_knot" 320 (.ref 113), en P "right_tree" 326 (.ref 118), en P "_law_cell_at" 336 (.ref 125), en P "_law_stir" 345 (.ref 132), en P "_law_drawn" 356 (.ref 139), en P "_law_unlike" 373 (.ref 146), en P "_law_rule" 386 (.ref 153), en P "_law_rules" 392 (.ref 158), en P "_law_sizes" 402 (.ref 165), en P "_law_is_name" 409 (.ref 172), en P "_law_all_in" 415 (.ref 177), en P "_law_chosen" 428 (.ref 184), en P "_law_grow" 443 (.ref 191), en P "_law_number" 450 (.ref 198), en P "_law_paths" 460 (.ref 205), en P "_law_at" 469 (.ref 212), en P "_law_put" 479 (.ref 219), en P "_law_ahead" 490 (.ref 226), en P "_law_right" 506 (.ref 233), en P "law" 526 (.ref 240)].toArray 44, #[]⟩),
  (nat_lit 43, ⟨(.type "code"), none, .fields #[(.str (Str.ofString "made_of") 229), (.str (Str.ofString "made_of") 230), (.str (Str.ofString "/claim/cut.py") 231), (.int 9 0), (.int 2 0), (.int 0 0), (.int 0 0), (.int 3 0), (.ref 40), (.bool true), (.int 181 0), (.ref 41), .none, .none, .none, (.ref 42), (.int 232 0), (.int 9 0), (.str (Str.ofString "/claim/cut.py") 233)], #[]⟩),
  (nat_lit 44, ⟨(.type "function"), none, .func (PySem.W.fnOf "made_of" "made_of" (defArgs s_made_of) (defBody s_made_of) (defScope s_made_of) .none .none .none (.str (Str.ofString "readgrove.grammars") 223) none (.ref 43) .none), #[]⟩),
  (nat_lit 50, ⟨(.type "code"), none, .fields #[(.str (Str.ofString "is_name") 235), (.str (Str.ofString "is_name") 236), (.str (Str.ofString "/claim/cut.py") 237), (.int 11 0), (.int 1 0), (.int 0 0), (.int 0 0), (.int 3 0), (.ref 45), (.bool true), (.int 181 0), (.ref 46), .none, (.ref 47), (.ref 48), (.ref 49), (.int 241 0), (.int 11 0), (.str (Str.ofString "/claim/cut.py") 242)], #[]⟩),
  (nat_lit 51, ⟨(.type "function"), none, .func (PySem.W.fnOf "is_name" "is_name" (defArgs s_is_name) (defBody s_is_name) (defScope s_is_name) .none .none .none (.str (Str.ofString "readgrove.grammars") 223) none (.ref 50) .none), #[]⟩),
  (nat_lit 57, ⟨(.type "code"), none, .fields #[(.str (Str.ofString "names") 244), (.str (Str.ofString "names") 245), (.str (Str.ofString "/claim/cut.py") 246), (.int 15 0), (.int 1 0), (.int 0 0), (.int 0 0), (.int 3 0), (.ref 52), (.bool true), (.int 181 0), (.ref 53), .none, (.ref 54), (.ref 55), (.ref 56), (.int 250 0), (.int 15 0), (.str (Str.ofString "/claim/cut.py") 251)], #[]⟩),
  (nat_lit 58, ⟨(.type "function"), none, .func (PySem.W.fnOf "names" "names" (defArgs s_names) (defBody s_names) (defScope s_names) .none .none .none (.str (Str.ofString "readgrove.grammars") 223) none (.ref 57) .none), #[]⟩),
  (nat_lit 64, ⟨(.type "code"), none, .fields #[(.str (Str.ofString "check_rule") 253), (.str (Str.ofString "check_rule") 254), (.str (Str.ofString "/claim/cut.py") 255), (.int 20 0), (.int 2 0), (.int 0 0), (.int 0 0), (.int 3 0), (.ref 59), (.bool true), (.int 181 0), (.ref 60), .none, (.ref 61), (.ref 62), (.ref 63), (.int 259 0), (.int 20 0), (.str (Str.ofString "/claim/cut.py") 260)], #[]⟩),
  (nat_lit 65, ⟨(.type "function"), none, .func (PySem.W.fnOf "check_rule" "check_rule" (defArgs s_check_rule) (defBody s_check_rule) (defScope s_check_rule) .none .none .none (.str (Str.ofString "readgrove.grammars") 223) none (.ref 64) .none), #[]⟩),
  (nat_lit 71, ⟨(.type "code"), none, .fields #[(.str (Str.ofString "grammar_of") 262), (.str (Str.ofString "grammar_of") 263), (.str (Str.ofString "/claim/cut.py") 264), (.int 26 0), (.int 1 0), (.int 0 0), (.int 0 0), (.int 3 0), (.ref 66), (.bool true), (.int 181 0), (.ref 67), .none, (.ref 68), (.ref 69), (.ref 70), (.int 268 0), (.int 26 0), (.str (Str.ofString "/claim/cut.py") 269)], #[]⟩),
  (nat_lit 72, ⟨(.type "function"), none, .func (PySem.W.fnOf "grammar_of" "grammar_of" (defArgs s_grammar_of) (defBody s_grammar_of) (defScope s_grammar_of) .none .none .none (.str (Str.ofString "readgrove.grammars") 223) none (.ref 71) .none), #[]⟩),
  (nat_lit 78, ⟨(.type "code"), none, .fields #[(.str (Str.ofString "is_tree") 273), (.str (Str.ofString "is_tree") 274), (.str (Str.ofString "/claim/cut.py") 275), (.int 34 0), (.int 1 0), (.int 0 0), (.int 0 0), (.int 3 0), (.ref 73), (.bool true), (.int 181 0), (.ref 74), .none, (.ref 75), (.ref 76), (.ref 77), (.int 277 0), (.int 34 0), (.str (Str.ofString "/claim/cut.py") 278)], #[]⟩),
  (nat_lit 79, ⟨(.type "function"), none, .func (PySem.W.fnOf "is_tree" "is_tree" (defArgs s_is_tree) (defBody s_is_tree) (defScope s_is_tree) .none .none .none (.str (Str.ofString "readgrove.trees") 271) none (.ref 78) .none), #[]⟩),
  (nat_lit 85, ⟨(.type "code"), none, .fields #[(.str (Str.ofString "row_of") 280), (.str (Str.ofString "row_of") 281), (.str (Str.ofString "/claim/cut.py") 282), (.int 36 0), (.int 1 0), (.int 0 0), (.int 0 0), (.int 3 0), (.ref 80), (.bool true), (.int 181 0), (.ref 81), .none, (.ref 82), (.ref 83), (.ref 84), (.int 287 0), (.int 36 0), (.str (Str.ofString "/claim/cut.py") 288)], #[]⟩),
  (nat_lit 86, ⟨(.type "function"), none, .func (PySem.W.fnOf "row_of" "row_of" (defArgs s_row_of) (defBody s_row_of) (defScope s_row_of) .none .none .none (.str (Str.ofString "readgrove.trees") 271) none (.ref 85) .none), #[]⟩),
  (nat_lit 90, ⟨(.type "code"), none, .fields #[(.str (Str.ofString "trees_within") 290), (.str (Str.ofString "trees_within") 291), (.str (Str.ofString "/claim/cut.py") 292), (.int 46 0), (.int 1 0), (.int 0 0), (.int 0 0), (.int 3 0), (.ref 87), (.bool true), (.int 181 0), (.ref 88), .none, .none, .none, (.ref 89), (.int 293 0), (.int 46 0), (.str (Str.ofString "/claim/cut.py") 294)], #[]⟩),
  (nat_lit 91, ⟨(.type "function"), none, .func (PySem.W.fnOf "trees_within" "trees_within" (defArgs s_trees_within) (defBody s_trees_within) (defScope s_trees_within) .none .none .none (.str (Str.ofString "readgrove.trees") 271) none (.ref 90) .none), #[]⟩),
  (nat_lit 95, ⟨(.type "code"), none, .fields #[(.str (Str.ofString "tree_cost") 296), (.str (Str.ofString "tree_cost") 297), (.str (Str.ofString "/claim/cut.py") 298), (.int 54 0), (.int 2 0), (.int 0 0), (.int 0 0), (.int 3 0), (.ref 92), (.bool true), (.int 181 0), (.ref 93), .none, .none, .none, (.ref 94), (.int 299 0), (.int 54 0), (.str (Str.ofString "/claim/cut.py") 300)], #[]⟩),
  (nat_lit 96, ⟨(.type "function"), none, .func (PySem.W.fnOf "tree_cost" "tree_cost" (defArgs s_tree_cost) (defBody s_tree_cost) (defScope s_tree_cost) .none .none .none (.str (Str.ofString "readgrove.trees") 271) none (.ref 95) .none), #[]⟩),
  (nat_lit 102, ⟨(.type "code"), none, .fields #[(.str (Str.ofString "knots") 302), (.str (Str.ofString "knots") 303), (.str (Str.ofString "/claim/cut.py") 304), (.int 56 0), (.int 1 0), (.int 0 0), (.int 0 0), (.int 3 0), (.ref 97), (.bool true), (.int 181 0), (.ref 98), .none, (.ref 99), (.ref 100), (.ref 101), (.int 306 0), (.int 56 0), (.str (Str.ofString "/claim/cut.py") 307)], #[]⟩),
  (nat_lit 103, ⟨(.type "function"), none, .func (PySem.W.fnOf "knots" "knots" (defArgs s_knots) (defBody s_knots) (defScope s_knots) .none .none .none (.str (Str.ofString "readgrove.trees") 271) none (.ref 102) .none), #[]⟩),
  (nat_lit 107, ⟨(.type "code"), none, .fields #[(.str (Str.ofString "depth") 309), (.str (Str.ofString "depth") 310), (.str (Str.ofString "/claim/cut.py") 311), (.int 58 0), (.int 1 0), (.int 0 0), (.int 0 0), (.int 3 0), (.ref 104), (.bool true), (.int 181 0), (.ref 105), .none, .none, .none, (.ref 106), (.int 312 0), (.int 58 0), (.str (Str.ofString "/claim/cut.py") 313)], #[]⟩),
  (nat_lit 108, ⟨(.type "function"), none, .func (PySem.W.fnOf "depth" "depth" (defArgs s_depth) (defBody s_depth) (defScope s_depth) .none .none .none (.str (Str.ofString "readgrove.trees") 271) none (.ref 107) .none), #[]⟩),
  (nat_lit 112, ⟨(.type "code"), none, .fields #[(.str (Str.ofString "right_knot") 315), (.str (Str.ofString "right_knot") 316), (.str (Str.ofString "/claim/cut.py") 317), (.int 60 0), (.int 3 0), (.int 0 0), (.int 0 0), (.int 3 0), (.ref 109), (.bool true), (.int 181 0), (.ref 110), .none, .none, .none, (.ref 111), (.int 318 0), (.int 60 0), (.str (Str.ofString "/claim/cut.py") 319)], #[]⟩),
  (nat_lit 113, ⟨(.type "function"), none, .func (PySem.W.fnOf "right_knot" "right_knot" (defArgs s_right_knot) (defBody s_right_knot) (defScope s_right_knot) .none .none .none (.str (Str.ofString "readgrove.trees") 271) none (.ref 112) .none), #[]⟩),
  (nat_lit 117, ⟨(.type "code"), none, .fields #[(.str (Str.ofString "right_tree") 321), (.str (Str.ofString "right_tree") 322), (.str (Str.ofString "/claim/cut.py") 323), (.int 67 0), (.int 3 0), (.int 0 0), (.int 0 0), (.int 3 0), (.ref 114), (.bool true), (.int 181 0), (.ref 115), .none, .none, .none, (.ref 116), (.int 324 0), (.int 67 0), (.str (Str.ofString "/claim/cut.py") 325)], #[]⟩),
  (nat_lit 118, ⟨(.type "function"), none, .func (PySem.W.fnOf "right_tree" "right_tree" (defArgs s_right_tree) (defBody s_right_tree) (defScope s_right_tree) .none .none .none (.str (Str.ofString "readgrove.trees") 271) none (.ref 117) .none), #[]⟩),
  (nat_lit 124, ⟨(.type "code"), none, .fields #[(.str (Str.ofString "_law_cell_at") 329), (.str (Str.ofString "_law_cell_at") 330), (.str (Str.ofString "/claim/cut.py") 331), (.int 78 0), (.int 2 0), (.int 0 0), (.int 0 0), (.int 3 0), (.ref 119), (.bool true), (.int 181 0), (.ref 120), .none, (.ref 121), (.ref 122), (.ref 123), (.int 334 0), (.int 78 0), (.str (Str.ofString "/claim/cut.py") 335)], #[]⟩),
  (nat_lit 125, ⟨(.type "function"), none, .func (PySem.W.fnOf "_law_cell_at" "_law_cell_at" (defArgs s_l_cell_at) (defBody s_l_cell_at) (defScope s_l_cell_at) .none .none .none (.str (Str.ofString "law_readgrove_k09_whole_put_in") 327) none (.ref 124) .none), #[]⟩),
  (nat_lit 131, ⟨(.type "code"), none, .fields #[(.str (Str.ofString "_law_stir") 337), (.str (Str.ofString "_law_stir") 338), (.str (Str.ofString "/claim/cut.py") 339), (.int 82 0), (.int 2 0), (.int 0 0), (.int 0 0), (.int 3 0), (.ref 126), (.bool true), (.int 181 0), (.ref 127), .none, (.ref 128), (.ref 129), (.ref 130), (.int 343 0), (.int 82 0), (.str (Str.ofString "/claim/cut.py") 344)], #[]⟩),
  (nat_lit 132, ⟨(.type "function"), none, .func (PySem.W.fnOf "_law_stir" "_law_stir" (defArgs s_l_stir) (defBody s_l_stir) (defScope s_l_stir) .none .none .none (.str (Str.ofString "law_readgrove_k09_whole_put_in") 327) none (.ref 131) .none), #[]⟩),
  (nat_lit 138, ⟨(.type "code"), none, .fields #[(.str (Str.ofString "_law_drawn") 346), (.str (Str.ofString "_law_drawn") 347), (.str (Str.ofString "/claim/cut.py") 348), (.int 86 0), (.int 2 0), (.int 0 0), (.int 0 0), (.int 3 0), (.ref 133), (.bool true), (.int 181 0), (.ref 134), .none, (.ref 135), (.ref 136), (.ref 137), (.int 354 0), (.int 86 0), (.str (Str.ofString "/claim/cut.py") 355)], #[]⟩),
  (nat_lit 139, ⟨(.type "function"), none, .func (PySem.W.fnOf "_law_drawn" "_law_drawn" (defArgs s_l_drawn) (defBody s_l_drawn) (defScope s_l_drawn) .none .none .none (.str (Str.ofString "law_readgrove_k09_whole_put_in") 327) none (.ref 138) .none), #[]⟩),
  (nat_lit 145, ⟨(.type "code"), none, .fields #[(.str (Str.ofString "_law_unlike") 357), (.str (Str.ofString "_law_unlike") 358), (.str (Str.ofString "/claim/cut.py") 359), (.int 96 0), (.int 3 0), (.int 0 0), (.int 0 0), (.int 3 0), (.ref 140), (.bool true), (.int 181 0), (.ref 141), .none, (.ref 142), (.ref 143), (.ref 144), (.int 371 0), (.int 96 0), (.str (Str.ofString "/claim/cut.py") 372)], #[]⟩),
  (nat_lit 146, ⟨(.type "function"), none, .func (PySem.W.fnOf "_law_unlike" "_law_unlike" (defArgs s_l_unlike) (defBody s_l_unlike) (defScope s_l_unlike) .none .none .none (.str (Str.ofString "law_readgrove_k09_whole_put_in") 327) none (.ref 145) .none), #[]⟩),
  (nat_lit 152, ⟨(.type "code"), none, .fields #[(.str (Str.ofString "_law_rule") 374), (.str (Str.ofString "_law_rule") 375), (.str (Str.ofString "/claim/cut.py") 376), (.int 111 0), (.int 4 0), (.int 0 0), (.int 0 0), (.int 3 0), (.ref 147), (.bool true), (.int 181 0), (.ref 148), .none, (.ref 149), (.ref 150), (.ref 151), (.int 384 0), (.int 111 0), (.str (Str.ofString "/claim/cut.py") 385)], #[]⟩),
  (nat_lit 153, ⟨(.type "function"), none, .func (PySem.W.fnOf "_law_rule" "_law_rule" (defArgs s_l_rule) (defBody s_l_rule) (defScope s_l_rule) .none .none .none (.str (Str.ofString "law_readgrove_k09_whole_put_in") 327) none (.ref 152) .none), #[]⟩),
  (nat_lit 157, ⟨(.type "code"), none, .fields #[(.str (Str.ofString "_law_rules") 387), (.str (Str.ofString "_law_rules") 388), (.str (Str.ofString "/claim/cut.py") 389), (.int 120 0), (.int 3 0), (.int 0 0), (.int 0 0), (.int 3 0), (.ref 154), (.bool true), (.int 181 0), (.ref 155), .none, .none, .none, (.ref 156), (.int 390 0), (.int 120 0), (.str (Str.ofString "/claim/cut.py") 391)], #[]⟩),
  (nat_lit 158, ⟨(.type "function"), none, .func (PySem.W.fnOf "_law_rules" "_law_rules" (defArgs s_l_rules) (defBody s_l_rules) (defScope s_l_rules) .none .none .none (.str (Str.ofString "law_readgrove_k09_whole_put_in") 327) none (.ref 157) .none), #[]⟩),
  (nat_lit 164, ⟨(.type "code"), none, .fields #[(.str (Str.ofString "_law_sizes") 393), (.str (Str.ofString "_law_sizes") 394), (.str (Str.ofString "/claim/cut.py") 395), (.int 129 0), (.int 1 0), (.int 0 0), (.int 0 0), (.int 3 0), (.ref 159), (.bool true), (.int 181 0), (.ref 160), .none, (.ref 161), (.ref 162), (.ref 163), (.int 400 0), (.int 129 0), (.str (Str.ofString "/claim/cut.py") 401)], #[]⟩),
  (nat_lit 165, ⟨(.type "function"), none, .func (PySem.W.fnOf "_law_sizes" "_law_sizes" (defArgs s_l_sizes) (defBody s_l_sizes) (defScope s_l_sizes) .none .none .none (.str (Str.ofString "law_readgrove_k09_whole_put_in") 327) none (.ref 164) .none), #[]⟩),
  (nat_lit 171, ⟨(.type "code"), none, .fields #[(.str (Str.ofString "_law_is_name") 403), (.str (Str.ofString "_law_is_name") 404), (.str (Str.ofString "/claim/cut.py") 405), (.int 134 0), (.int 1 0), (.int 0 0), (.int 0 0), (.int 3 0), (.ref 166), (.bool true), (.int 181 0), (.ref 167), .none, (.ref 168), (.ref 169), (.ref 170), (.int 407 0), (.int 134 0), (.str (Str.ofString "/claim/cut.py") 408)], #[]⟩),
  (nat_lit 172, ⟨(.type "function"), none, .func (PySem.W.fnOf "_law_is_name" "_law_is_name" (defArgs s_l_is_name) (defBody s_l_is_name) (defScope s_l_is_name) .none .none .none (.str (Str.ofString "law_readgrove_k09_whole_put_in") 327) none (.ref 171) .none), #[]⟩),
  (nat_lit 176, ⟨(.type "code"), none, .fields #[(.str (Str.ofString "_law_all_in") 410), (.str (Str.ofString "_law_all_in") 411), (.str (Str.ofString "/claim/cut.py") 412), (.int 136 0), (.int 2 0), (.int 0 0), (.int 0 0), (.int 3 0), (.ref 173), (.bool true), (.int 181 0), (.ref 174), .none, .none, .none, (.ref 175), (.int 413 0), (.int 136 0), (.str (Str.ofString "/claim/cut.py") 414)], #[]⟩),
  (nat_lit 177, ⟨(.type "function"), none, .func (PySem.W.fnOf "_law_all_in" "_law_all_in" (defArgs s_l_all_in) (defBody s_l_all_in) (defScope s_l_all_in) .none .none .none (.str (Str.ofString "law_readgrove_k09_whole_put_in") 327) none (.ref 176) .none), #[]⟩),
  (nat_lit 183, ⟨(.type "code"), none, .fields #[(.str (Str.ofString "_law_chosen") 416), (.str (Str.ofString "_law_chosen") 417), (.str (Str.ofString "/claim/cut.py") 418), (.int 138 0), (.int 1 0), (.int 0 0), (.int 0 0), (.int 3 0), (.ref 178), (.bool true), (.int 181 0), (.ref 179), .none, (.ref 180), (.ref 181), (.ref 182), (.int 426 0), (.int 138 0), (.str (Str.ofString "/claim/cut.py") 427)], #[]⟩),
  (nat_lit 184, ⟨(.type "function"), none, .func (PySem.W.fnOf "_law_chosen" "_law_chosen" (defArgs s_l_chosen) (defBody s_l_chosen) (defScope s_l_chosen) .none .none .none (.str (Str.ofString "law_readgrove_k09_whole_put_in") 327) none (.ref 183) .none), #[]⟩),
  (nat_lit 190, ⟨(.type "code"), none, .fields #[(.str (Str.ofString "_law_grow") 429), (.str (Str.ofString "_law_grow") 430), (.str (Str.ofString "/claim/cut.py") 431), (.int 146 0), (.int 4 0), (.int 0 0), (.int 0 0), (.int 3 0), (.ref 185), (.bool true), (.int 181 0), (.ref 186), .none, (.ref 187), (.ref 188), (.ref 189), (.int 441 0), (.int 146 0), (.str (Str.ofString "/claim/cut.py") 442)], #[]⟩),
  (nat_lit 191, ⟨(.type "function"), none, .func (PySem.W.fnOf "_law_grow" "_law_grow" (defArgs s_l_grow) (defBody s_l_grow) (defScope s_l_grow) .none .none .none (.str (Str.ofString "law_readgrove_k09_whole_put_in") 327) none (.ref 190) .none), #[]⟩),
  (nat_lit 197, ⟨(.type "code"), none, .fields #[(.str (Str.ofString "_law_number") 444), (.str (Str.ofString "_law_number") 445), (.str (Str.ofString "/claim/cut.py") 446), (.int 163 0), (.int 1 0), (.int 0 0), (.int 0 0), (.int 3 0), (.ref 192), (.bool true), (.int 181 0), (.ref 193), .none, (.ref 194), (.ref 195), (.ref 196), (.int 448 0), (.int 163 0), (.str (Str.ofString "/claim/cut.py") 449)], #[]⟩),
  (nat_lit 198, ⟨(.type "function"), none, .func (PySem.W.fnOf "_law_number" "_law_number" (defArgs s_l_number) (defBody s_l_number) (defScope s_l_number) .none .none .none (.str (Str.ofString "law_readgrove_k09_whole_put_in") 327) none (.ref 197) .none), #[]⟩),
  (nat_lit 204, ⟨(.type "code"), none, .fields #[(.str (Str.ofString "_law_paths") 451), (.str (Str.ofString "_law_paths") 452), (.str (Str.ofString "/claim/cut.py") 453), (.int 167 0), (.int 2 0), (.int 0 0), (.int 0 0), (.int 3 0), (.ref 199), (.bool true), (.int 181 0), (.ref 200), .none, (.ref 201), (.ref 202), (.ref 203), (.int 458 0), (.int 167 0), (.str (Str.ofString "/claim/cut.py") 459)], #[]⟩),
  (nat_lit 205, ⟨(.type "function"), none, .func (PySem.W.fnOf "_law_paths" "_law_paths" (defArgs s_l_paths) (defBody s_l_paths) (defScope s_l_paths) .none .none .none (.str (Str.ofString "law_readgrove_k09_whole_put_in") 327) none (.ref 204) .none), #[]⟩),
  (nat_lit 211, ⟨(.type "code"), none, .fields #[(.str (Str.ofString "_law_at") 461), (.str (Str.ofString "_law_at") 462), (.str (Str.ofString "/claim/cut.py") 463), (.int 173 0), (.int 2 0), (.int 0 0), (.int 0 0), (.int 3 0), (.ref 206), (.bool true), (.int 181 0), (.ref 207), .none, (.ref 208), (.ref 209), (.ref 210), (.int 467 0), (.int 173 0), (.str (Str.ofString "/claim/cut.py") 468)], #[]⟩),
  (nat_lit 212, ⟨(.type "function"), none, .func (PySem.W.fnOf "_law_at" "_law_at" (defArgs s_l_at) (defBody s_l_at) (defScope s_l_at) .none .none .none (.str (Str.ofString "law_readgrove_k09_whole_put_in") 327) none (.ref 211) .none), #[]⟩),
  (nat_lit 218, ⟨(.type "code"), none, .fields #[(.str (Str.ofString "_law_put") 470), (.str (Str.ofString "_law_put") 471), (.str (Str.ofString "/claim/cut.py") 472), (.int 177 0), (.int 3 0), (.int 0 0), (.int 0 0), (.int 3 0), (.ref 213), (.bool true), (.int 181 0), (.ref 214), .none, (.ref 215), (.ref 216), (.ref 217), (.int 477 0), (.int 177 0), (.str (Str.ofString "/claim/cut.py") 478)], #[]⟩),
  (nat_lit 219, ⟨(.type "function"), none, .func (PySem.W.fnOf "_law_put" "_law_put" (defArgs s_l_put) (defBody s_l_put) (defScope s_l_put) .none .none .none (.str (Str.ofString "law_readgrove_k09_whole_put_in") 327) none (.ref 218) .none), #[]⟩),
  (nat_lit 225, ⟨(.type "code"), none, .fields #[(.str (Str.ofString "_law_ahead") 480), (.str (Str.ofString "_law_ahead") 481), (.str (Str.ofString "/claim/cut.py") 482), (.int 183 0), (.int 2 0), (.int 0 0), (.int 0 0), (.int 3 0), (.ref 220), (.bool true), (.int 181 0), (.ref 221), .none, (.ref 222), (.ref 223), (.ref 224), (.int 488 0), (.int 183 0), (.str (Str.ofString "/claim/cut.py") 489)], #[]⟩),
  (nat_lit 226, ⟨(.type "function"), none, .func (PySem.W.fnOf "_law_ahead" "_law_ahead" (defArgs s_l_ahead) (defBody s_l_ahead) (defScope s_l_ahead) .none .none .none (.str (Str.ofString "law_readgrove_k09_whole_put_in") 327) none (.ref 225) .none), #[]⟩),
  (nat_lit 232, ⟨(.type "code"), none, .fields #[(.str (Str.ofString "_law_right") 491), (.str (Str.ofString "_law_right") 492), (.str (Str.ofString "/claim/cut.py") 493), (.int 192 0), (.int 4 0), (.int 0 0), (.int 0 0), (.int 3 0), (.ref 227), (.bool true), (.int 181 0), (.ref 228), .none, (.ref 229), (.ref 230), (.ref 231), (.int 504 0), (.int 192 0), (.str (Str.ofString "/claim/cut.py") 505)], #[]⟩),
  (nat_lit 233, ⟨(.type "function"), none, .func (PySem.W.fnOf "_law_right" "_law_right" (defArgs s_l_right) (defBody s_l_right) (defScope s_l_right) .none .none .none (.str (Str.ofString "law_readgrove_k09_whole_put_in") 327) none (.ref 232) .none), #[]⟩),
  (nat_lit 239, ⟨(.type "code"), none, .fields #[(.str (Str.ofString "law") 507), (.str (Str.ofString "law") 508), (.str (Str.ofString "/claim/cut.py") 509), (.int 208 0), (.int 1 0), (.int 0 0), (.int 0 0), (.int 3 0), (.ref 234), (.bool true), (.int 181 0), (.ref 235), .none, (.ref 236), (.ref 237), (.ref 238), (.int 524 0), (.int 208 0), (.str (Str.ofString "/claim/cut.py") 525)], #[]⟩),
  (nat_lit 240, ⟨(.type "function"), none, .func (PySem.W.fnOf "law" "law" (defArgs s_law) (defBody s_law) (defScope s_law) .none .none .none (.str (Str.ofString "law_readgrove_k09_whole_put_in") 327) none (.ref 239) .none), #[]⟩)]
noncomputable def hpA : List Addr := [nat_lit 3, nat_lit 43, nat_lit 44, nat_lit 50, nat_lit 51, nat_lit 57, nat_lit 58, nat_lit 64, nat_lit 65, nat_lit 71, nat_lit 72, nat_lit 78, nat_lit 79, nat_lit 85, nat_lit 86, nat_lit 90, nat_lit 91, nat_lit 95, nat_lit 96, nat_lit 102, nat_lit 103, nat_lit 107, nat_lit 108, nat_lit 112, nat_lit 113, nat_lit 117, nat_lit 118, nat_lit 124, nat_lit 125, nat_lit 131, nat_lit 132, nat_lit 138, nat_lit 139, nat_lit 145, nat_lit 146, nat_lit 152, nat_lit 153, nat_lit 157, nat_lit 158, nat_lit 164, nat_lit 165, nat_lit 171, nat_lit 172, nat_lit 176, nat_lit 177, nat_lit 183, nat_lit 184, nat_lit 190, nat_lit 191, nat_lit 197, nat_lit 198, nat_lit 204, nat_lit 205, nat_lit 211, nat_lit 212, nat_lit 218, nat_lit 219, nat_lit 225, nat_lit 226, nat_lit 232, nat_lit 233, nat_lit 239, nat_lit 240]
noncomputable def qv : Program := { PySem.Challenge.pw_readgrove_k09_whole_put_in with main := { PySem.Challenge.pw_readgrove_k09_whole_put_in.main with body := [top 1, top 2, top 4, top 5, top 6, top 7, top 8, top 9, top 10, top 12, top 13, top 14, top 15, top 16, top 17, top 18, top 19, top 21, top 22, top 23, top 24, top 25, top 26, top 27, top 28, top 29, top 30, top 31, top 32, top 33, top 34, top 35, top 36, top 37, top 38] } }
noncomputable def hk : PySem.W.Hook := PySem.W.kHook hpK hpA (fun _ => by kernel_rfl)
theorem ar0 {C : List Value → Prop} (h : C []) : ∀ us : List Value, us.length = 0 → C us := fun us e => by cases us with | nil => exact h | cons a l => exact nomatch e
theorem ar1 {C : List Value → Prop} (h : ∀ a0, C [a0]) : ∀ us : List Value, us.length = 1 → C us := fun us e => by cases us with | nil => exact nomatch e | cons a l => exact ar0 (C := fun l => C (a :: l)) (h a) l (Nat.succ.inj e)
theorem ar2 {C : List Value → Prop} (h : ∀ a0 a1, C [a0, a1]) : ∀ us : List Value, us.length = 2 → C us := fun us e => by cases us with | nil => exact nomatch e | cons a l => exact ar1 (C := fun l => C (a :: l)) (h a) l (Nat.succ.inj e)
theorem ar3 {C : List Value → Prop} (h : ∀ a0 a1 a2, C [a0, a1, a2]) : ∀ us : List Value, us.length = 3 → C us := fun us e => by cases us with | nil => exact nomatch e | cons a l => exact ar2 (C := fun l => C (a :: l)) (h a) l (Nat.succ.inj e)
theorem ar4 {C : List Value → Prop} (h : ∀ a0 a1 a2 a3, C [a0, a1, a2, a3]) : ∀ us : List Value, us.length = 4 → C us := fun us e => by cases us with | nil => exact nomatch e | cons a l => exact ar3 (C := fun l => C (a :: l)) (h a) l (Nat.succ.inj e)
def mg_is (K : Params → PySem.W.Frag) (a : Addr) (x : Str) : Prop := ∀ P, PySem.W.nsIn (K P) mainGlobals x = some (some (.ref a))
section
variable {w : World} {h : Heap} {mg : Str → Option Value}
theorem ns_made_of : mg_is hpK 44 "made_of" := fun _ => by kernel_rfl
noncomputable abbrev fd_made_of : FuncData := (PySem.W.fnOf "made_of" "made_of" (defArgs s_made_of) (defBody s_made_of) (defScope s_made_of) .none .none .none (.str (Str.ofString "readgrove.grammars") 223) none (.ref 43) .none)
theorem df_made_of (X : (hpK w.params).In h) (G : h.Ns mainGlobals mg) : Df (hpK w.params) mg "made_of" s_made_of ["text", "signs"] 44 fd_made_of := binds_of (ps := ["text", "signs"]) (fun_mk (st := s_made_of) (oc := .type "function") (od := none) (osl := #[]) (by kernel_rfl) (by kernel_rfl) (by kernel_rfl)) (PySem.W.mg_of X G (ns_made_of _)) fun _ _ _ _ _ _ => ar2 fun _ _ => rfl
theorem ns_is_name : mg_is hpK 51 "is_name" := fun _ => by kernel_rfl
noncomputable abbrev fd_is_name : FuncData := (PySem.W.fnOf "is_name" "is_name" (defArgs s_is_name) (defBody s_is_name) (defScope s_is_name) .none .none .none (.str (Str.ofString "readgrove.grammars") 223) none (.ref 50) .none)
theorem df_is_name (X : (hpK w.params).In h) (G : h.Ns mainGlobals mg) : Df (hpK w.params) mg "is_name" s_is_name ["part"] 51 fd_is_name := binds_of (ps := ["part"]) (fun_mk (st := s_is_name) (oc := .type "function") (od := none) (osl := #[]) (by kernel_rfl) (by kernel_rfl) (by kernel_rfl)) (PySem.W.mg_of X G (ns_is_name _)) fun _ _ _ _ _ _ => ar1 fun _ => rfl
theorem ns_names : mg_is hpK 58 "names" := fun _ => by kernel_rfl
noncomputable abbrev fd_names : FuncData := (PySem.W.fnOf "names" "names" (defArgs s_names) (defBody s_names) (defScope s_names) .none .none .none (.str (Str.ofString "readgrove.grammars") 223) none (.ref 57) .none)
theorem df_names (X : (hpK w.params).In h) (G : h.Ns mainGlobals mg) : Df (hpK w.params) mg "names" s_names ["grammar"] 58 fd_names := binds_of (ps := ["grammar"]) (fun_mk (st := s_names) (oc := .type "function") (od := none) (osl := #[]) (by kernel_rfl) (by kernel_rfl) (by kernel_rfl)) (PySem.W.mg_of X G (ns_names _)) fun _ _ _ _ _ _ => ar1 fun _ => rfl
theorem ns_check_rule : mg_is hpK 65 "check_rule" := fun _ => by kernel_rfl
noncomputable abbrev fd_check_rule : FuncData := (PySem.W.fnOf "check_rule" "check_rule" (defArgs s_check_rule) (defBody s_check_rule) (defScope s_check_rule) .none .none .none (.str (Str.ofString "readgrove.grammars") 223) none (.ref 64) .none)
theorem df_check_rule (X : (hpK w.params).In h) (G : h.Ns mainGlobals mg) : Df (hpK w.params) mg "check_rule" s_check_rule ["rule", "known"] 65 fd_check_rule := binds_of (ps := ["rule", "known"]) (fun_mk (st := s_check_rule) (oc := .type "function") (od := none) (osl := #[]) (by kernel_rfl) (by kernel_rfl) (by kernel_rfl)) (PySem.W.mg_of X G (ns_check_rule _)) fun _ _ _ _ _ _ => ar2 fun _ _ => rfl
theorem ns_grammar_of : mg_is hpK 72 "grammar_of" := fun _ => by kernel_rfl
noncomputable abbrev fd_grammar_of : FuncData := (PySem.W.fnOf "grammar_of" "grammar_of" (defArgs s_grammar_of) (defBody s_grammar_of) (defScope s_grammar_of) .none .none .none (.str (Str.ofString "readgrove.grammars") 223) none (.ref 71) .none)
theorem df_grammar_of (X : (hpK w.params).In h) (G : h.Ns mainGlobals mg) : Df (hpK w.params) mg "grammar_of" s_grammar_of ["rules"] 72 fd_grammar_of := binds_of (ps := ["rules"]) (fun_mk (st := s_grammar_of) (oc := .type "function") (od := none) (osl := #[]) (by kernel_rfl) (by kernel_rfl) (by kernel_rfl)) (PySem.W.mg_of X G (ns_grammar_of _)) fun _ _ _ _ _ _ => ar1 fun _ => rfl
theorem ns_is_tree : mg_is hpK 79 "is_tree" := fun _ => by kernel_rfl
noncomputable abbrev fd_is_tree : FuncData := (PySem.W.fnOf "is_tree" "is_tree" (defArgs s_is_tree) (defBody s_is_tree) (defScope s_is_tree) .none .none .none (.str (Str.ofString "readgrove.trees") 271) none (.ref 78) .none)
theorem df_is_tree (X : (hpK w.params).In h) (G : h.Ns mainGlobals mg) : Df (hpK w.params) mg "is_tree" s_is_tree ["child"] 79 fd_is_tree := binds_of (ps := ["child"]) (fun_mk (st := s_is_tree) (oc := .type "function") (od := none) (osl := #[]) (by kernel_rfl) (by kernel_rfl) (by kernel_rfl)) (PySem.W.mg_of X G (ns_is_tree _)) fun _ _ _ _ _ _ => ar1 fun _ => rfl
theorem ns_row_of : mg_is hpK 86 "row_of" := fun _ => by kernel_rfl
noncomputable abbrev fd_row_of : FuncData := (PySem.W.fnOf "row_of" "row_of" (defArgs s_row_of) (defBody s_row_of) (defScope s_row_of) .none .none .none (.str (Str.ofString "readgrove.trees") 271) none (.ref 85) .none)
theorem df_row_of (X : (hpK w.params).In h) (G : h.Ns mainGlobals mg) : Df (hpK w.params) mg "row_of" s_row_of ["tree"] 86 fd_row_of := binds_of (ps := ["tree"]) (fun_mk (st := s_row_of) (oc := .type "function") (od := none) (osl := #[]) (by kernel_rfl) (by kernel_rfl) (by kernel_rfl)) (PySem.W.mg_of X G (ns_row_of _)) fun _ _ _ _ _ _ => ar1 fun _ => rfl
theorem ns_trees_within : mg_is hpK 91 "trees_within" := fun _ => by kernel_rfl
noncomputable abbrev fd_trees_within : FuncData := (PySem.W.fnOf "trees_within" "trees_within" (defArgs s_trees_within) (defBody s_trees_within) (defScope s_trees_within) .none .none .none (.str (Str.ofString "readgrove.trees") 271) none (.ref 90) .none)
theorem df_trees_within (X : (hpK w.params).In h) (G : h.Ns mainGlobals mg) : Df (hpK w.params) mg "trees_within" s_trees_within ["tree"] 91 fd_trees_within := binds_of (ps := ["tree"]) (fun_mk (st := s_trees_within) (oc := .type "function") (od := none) (osl := #[]) (by kernel_rfl) (by kernel_rfl) (by kernel_rfl)) (PySem.W.mg_of X G (ns_trees_within _)) fun _ _ _ _ _ _ => ar1 fun _ => rfl
theorem ns_tree_cost : mg_is hpK 96 "tree_cost" := fun _ => by kernel_rfl
noncomputable abbrev fd_tree_cost : FuncData := (PySem.W.fnOf "tree_cost" "tree_cost" (defArgs s_tree_cost) (defBody s_tree_cost) (defScope s_tree_cost) .none .none .none (.str (Str.ofString "readgrove.trees") 271) none (.ref 95) .none)
theorem df_tree_cost (X : (hpK w.params).In h) (G : h.Ns mainGlobals mg) : Df (hpK w.params) mg "tree_cost" s_tree_cost ["grammar", "tree"] 96 fd_tree_cost := binds_of (ps := ["grammar", "tree"]) (fun_mk (st := s_tree_cost) (oc := .type "function") (od := none) (osl := #[]) (by kernel_rfl) (by kernel_rfl) (by kernel_rfl)) (PySem.W.mg_of X G (ns_tree_cost _)) fun _ _ _ _ _ _ => ar2 fun _ _ => rfl
theorem ns_knots : mg_is hpK 103 "knots" := fun _ => by kernel_rfl
noncomputable abbrev fd_knots : FuncData := (PySem.W.fnOf "knots" "knots" (defArgs s_knots) (defBody s_knots) (defScope s_knots) .none .none .none (.str (Str.ofString "readgrove.trees") 271) none (.ref 102) .none)
theorem df_knots (X : (hpK w.params).In h) (G : h.Ns mainGlobals mg) : Df (hpK w.params) mg "knots" s_knots ["tree"] 103 fd_knots := binds_of (ps := ["tree"]) (fun_mk (st := s_knots) (oc := .type "function") (od := none) (osl := #[]) (by kernel_rfl) (by kernel_rfl) (by kernel_rfl)) (PySem.W.mg_of X G (ns_knots _)) fun _ _ _ _ _ _ => ar1 fun _ => rfl
theorem ns_depth : mg_is hpK 108 "depth" := fun _ => by kernel_rfl
noncomputable abbrev fd_depth : FuncData := (PySem.W.fnOf "depth" "depth" (defArgs s_depth) (defBody s_depth) (defScope s_depth) .none .none .none (.str (Str.ofString "readgrove.trees") 271) none (.ref 107) .none)
theorem df_depth (X : (hpK w.params).In h) (G : h.Ns mainGlobals mg) : Df (hpK w.params) mg "depth" s_depth ["tree"] 108 fd_depth := binds_of (ps := ["tree"]) (fun_mk (st := s_depth) (oc := .type "function") (od := none) (osl := #[]) (by kernel_rfl) (by kernel_rfl) (by kernel_rfl)) (PySem.W.mg_of X G (ns_depth _)) fun _ _ _ _ _ _ => ar1 fun _ => rfl
theorem ns_right_knot : mg_is hpK 113 "right_knot" := fun _ => by kernel_rfl
noncomputable abbrev fd_right_knot : FuncData := (PySem.W.fnOf "right_knot" "right_knot" (defArgs s_right_knot) (defBody s_right_knot) (defScope s_right_knot) .none .none .none (.str (Str.ofString "readgrove.trees") 271) none (.ref 112) .none)
theorem df_right_knot (X : (hpK w.params).In h) (G : h.Ns mainGlobals mg) : Df (hpK w.params) mg "right_knot" s_right_knot ["grammar", "name", "tree"] 113 fd_right_knot := binds_of (ps := ["grammar", "name", "tree"]) (fun_mk (st := s_right_knot) (oc := .type "function") (od := none) (osl := #[]) (by kernel_rfl) (by kernel_rfl) (by kernel_rfl)) (PySem.W.mg_of X G (ns_right_knot _)) fun _ _ _ _ _ _ => ar3 fun _ _ _ => rfl
theorem ns_right_tree : mg_is hpK 118 "right_tree" := fun _ => by kernel_rfl
noncomputable abbrev fd_right_tree : FuncData := (PySem.W.fnOf "right_tree" "right_tree" (defArgs s_right_tree) (defBody s_right_tree) (defScope s_right_tree) .none .none .none (.str (Str.ofString "readgrove.trees") 271) none (.ref 117) .none)
theorem df_right_tree (X : (hpK w.params).In h) (G : h.Ns mainGlobals mg) : Df (hpK w.params) mg "right_tree" s_right_tree ["grammar", "name", "tree"] 118 fd_right_tree := binds_of (ps := ["grammar", "name", "tree"]) (fun_mk (st := s_right_tree) (oc := .type "function") (od := none) (osl := #[]) (by kernel_rfl) (by kernel_rfl) (by kernel_rfl)) (PySem.W.mg_of X G (ns_right_tree _)) fun _ _ _ _ _ _ => ar3 fun _ _ _ => rfl
theorem ns_l_cell_at : mg_is hpK 125 "_law_cell_at" := fun _ => by kernel_rfl
noncomputable abbrev fd_l_cell_at : FuncData := (PySem.W.fnOf "_law_cell_at" "_law_cell_at" (defArgs s_l_cell_at) (defBody s_l_cell_at) (defScope s_l_cell_at) .none .none .none (.str (Str.ofString "law_readgrove_k09_whole_put_in") 327) none (.ref 124) .none)
theorem df_l_cell_at (X : (hpK w.params).In h) (G : h.Ns mainGlobals mg) : Df (hpK w.params) mg "_law_cell_at" s_l_cell_at ["script", "k"] 125 fd_l_cell_at := binds_of (ps := ["script", "k"]) (fun_mk (st := s_l_cell_at) (oc := .type "function") (od := none) (osl := #[]) (by kernel_rfl) (by kernel_rfl) (by kernel_rfl)) (PySem.W.mg_of X G (ns_l_cell_at _)) fun _ _ _ _ _ _ => ar2 fun _ _ => rfl
theorem ns_l_stir : mg_is hpK 132 "_law_stir" := fun _ => by kernel_rfl
noncomputable abbrev fd_l_stir : FuncData := (PySem.W.fnOf "_law_stir" "_law_stir" (defArgs s_l_stir) (defBody s_l_stir) (defScope s_l_stir) .none .none .none (.str (Str.ofString "law_readgrove_k09_whole_put_in") 327) none (.ref 131) .none)
theorem df_l_stir (X : (hpK w.params).In h) (G : h.Ns mainGlobals mg) : Df (hpK w.params) mg "_law_stir" s_l_stir ["cell", "k"] 132 fd_l_stir := binds_of (ps := ["cell", "k"]) (fun_mk (st := s_l_stir) (oc := .type "function") (od := none) (osl := #[]) (by kernel_rfl) (by kernel_rfl) (by kernel_rfl)) (PySem.W.mg_of X G (ns_l_stir _)) fun _ _ _ _ _ _ => ar2 fun _ _ => rfl
theorem ns_l_drawn : mg_is hpK 139 "_law_drawn" := fun _ => by kernel_rfl
noncomputable abbrev fd_l_drawn : FuncData := (PySem.W.fnOf "_law_drawn" "_law_drawn" (defArgs s_l_drawn) (defBody s_l_drawn) (defScope s_l_drawn) .none .none .none (.str (Str.ofString "law_readgrove_k09_whole_put_in") 327) none (.ref 138) .none)
theorem df_l_drawn (X : (hpK w.params).In h) (G : h.Ns mainGlobals mg) : Df (hpK w.params) mg "_law_drawn" s_l_drawn ["cell", "sizes"] 139 fd_l_drawn := binds_of (ps := ["cell", "sizes"]) (fun_mk (st := s_l_drawn) (oc := .type "function") (od := none) (osl := #[]) (by kernel_rfl) (by kernel_rfl) (by kernel_rfl)) (PySem.W.mg_of X G (ns_l_drawn _)) fun _ _ _ _ _ _ => ar2 fun _ _ => rfl
theorem ns_l_unlike : mg_is hpK 146 "_law_unlike" := fun _ => by kernel_rfl
noncomputable abbrev fd_l_unlike : FuncData := (PySem.W.fnOf "_law_unlike" "_law_unlike" (defArgs s_l_unlike) (defBody s_l_unlike) (defScope s_l_unlike) .none .none .none (.str (Str.ofString "law_readgrove_k09_whole_put_in") 327) none (.ref 145) .none)
theorem df_l_unlike (X : (hpK w.params).In h) (G : h.Ns mainGlobals mg) : Df (hpK w.params) mg "_law_unlike" s_l_unlike ["number", "many", "great"] 146 fd_l_unlike := binds_of (ps := ["number", "many", "great"]) (fun_mk (st := s_l_unlike) (oc := .type "function") (od := none) (osl := #[]) (by kernel_rfl) (by kernel_rfl) (by kernel_rfl)) (PySem.W.mg_of X G (ns_l_unlike _)) fun _ _ _ _ _ _ => ar3 fun _ _ _ => rfl
theorem ns_l_rule : mg_is hpK 153 "_law_rule" := fun _ => by kernel_rfl
noncomputable abbrev fd_l_rule : FuncData := (PySem.W.fnOf "_law_rule" "_law_rule" (defArgs s_l_rule) (defBody s_l_rule) (defScope s_l_rule) .none .none .none (.str (Str.ofString "law_readgrove_k09_whole_put_in") 327) none (.ref 152) .none)
theorem df_l_rule (X : (hpK w.params).In h) (G : h.Ns mainGlobals mg) : Df (hpK w.params) mg "_law_rule" s_l_rule ["cell", "heads", "words", "most"] 153 fd_l_rule := binds_of (ps := ["cell", "heads", "words", "most"]) (fun_mk (st := s_l_rule) (oc := .type "function") (od := none) (osl := #[]) (by kernel_rfl) (by kernel_rfl) (by kernel_rfl)) (PySem.W.mg_of X G (ns_l_rule _)) fun _ _ _ _ _ _ => ar4 fun _ _ _ _ => rfl
theorem ns_l_rules : mg_is hpK 158 "_law_rules" := fun _ => by kernel_rfl
noncomputable abbrev fd_l_rules : FuncData := (PySem.W.fnOf "_law_rules" "_law_rules" (defArgs s_l_rules) (defBody s_l_rules) (defScope s_l_rules) .none .none .none (.str (Str.ofString "law_readgrove_k09_whole_put_in") 327) none (.ref 157) .none)
theorem df_l_rules (X : (hpK w.params).In h) (G : h.Ns mainGlobals mg) : Df (hpK w.params) mg "_law_rules" s_l_rules ["cells", "many", "most"] 158 fd_l_rules := binds_of (ps := ["cells", "many", "most"]) (fun_mk (st := s_l_rules) (oc := .type "function") (od := none) (osl := #[]) (by kernel_rfl) (by kernel_rfl) (by kernel_rfl)) (PySem.W.mg_of X G (ns_l_rules _)) fun _ _ _ _ _ _ => ar3 fun _ _ _ => rfl
theorem ns_l_sizes : mg_is hpK 165 "_law_sizes" := fun _ => by kernel_rfl
noncomputable abbrev fd_l_sizes : FuncData := (PySem.W.fnOf "_law_sizes" "_law_sizes" (defArgs s_l_sizes) (defBody s_l_sizes) (defScope s_l_sizes) .none .none .none (.str (Str.ofString "law_readgrove_k09_whole_put_in") 327) none (.ref 164) .none)
theorem df_l_sizes (X : (hpK w.params).In h) (G : h.Ns mainGlobals mg) : Df (hpK w.params) mg "_law_sizes" s_l_sizes ["cell"] 165 fd_l_sizes := binds_of (ps := ["cell"]) (fun_mk (st := s_l_sizes) (oc := .type "function") (od := none) (osl := #[]) (by kernel_rfl) (by kernel_rfl) (by kernel_rfl)) (PySem.W.mg_of X G (ns_l_sizes _)) fun _ _ _ _ _ _ => ar1 fun _ => rfl
theorem ns_l_is_name : mg_is hpK 172 "_law_is_name" := fun _ => by kernel_rfl
noncomputable abbrev fd_l_is_name : FuncData := (PySem.W.fnOf "_law_is_name" "_law_is_name" (defArgs s_l_is_name) (defBody s_l_is_name) (defScope s_l_is_name) .none .none .none (.str (Str.ofString "law_readgrove_k09_whole_put_in") 327) none (.ref 171) .none)
theorem df_l_is_name (X : (hpK w.params).In h) (G : h.Ns mainGlobals mg) : Df (hpK w.params) mg "_law_is_name" s_l_is_name ["part"] 172 fd_l_is_name := binds_of (ps := ["part"]) (fun_mk (st := s_l_is_name) (oc := .type "function") (od := none) (osl := #[]) (by kernel_rfl) (by kernel_rfl) (by kernel_rfl)) (PySem.W.mg_of X G (ns_l_is_name _)) fun _ _ _ _ _ _ => ar1 fun _ => rfl
theorem ns_l_all_in : mg_is hpK 177 "_law_all_in" := fun _ => by kernel_rfl
noncomputable abbrev fd_l_all_in : FuncData := (PySem.W.fnOf "_law_all_in" "_law_all_in" (defArgs s_l_all_in) (defBody s_l_all_in) (defScope s_l_all_in) .none .none .none (.str (Str.ofString "law_readgrove_k09_whole_put_in") 327) none (.ref 176) .none)
theorem df_l_all_in (X : (hpK w.params).In h) (G : h.Ns mainGlobals mg) : Df (hpK w.params) mg "_law_all_in" s_l_all_in ["parts", "chosen"] 177 fd_l_all_in := binds_of (ps := ["parts", "chosen"]) (fun_mk (st := s_l_all_in) (oc := .type "function") (od := none) (osl := #[]) (by kernel_rfl) (by kernel_rfl) (by kernel_rfl)) (PySem.W.mg_of X G (ns_l_all_in _)) fun _ _ _ _ _ _ => ar2 fun _ _ => rfl
theorem ns_l_chosen : mg_is hpK 184 "_law_chosen" := fun _ => by kernel_rfl
noncomputable abbrev fd_l_chosen : FuncData := (PySem.W.fnOf "_law_chosen" "_law_chosen" (defArgs s_l_chosen) (defBody s_l_chosen) (defScope s_l_chosen) .none .none .none (.str (Str.ofString "law_readgrove_k09_whole_put_in") 327) none (.ref 183) .none)
theorem df_l_chosen (X : (hpK w.params).In h) (G : h.Ns mainGlobals mg) : Df (hpK w.params) mg "_law_chosen" s_l_chosen ["rules"] 184 fd_l_chosen := binds_of (ps := ["rules"]) (fun_mk (st := s_l_chosen) (oc := .type "function") (od := none) (osl := #[]) (by kernel_rfl) (by kernel_rfl) (by kernel_rfl)) (PySem.W.mg_of X G (ns_l_chosen _)) fun _ _ _ _ _ _ => ar1 fun _ => rfl
theorem ns_l_grow : mg_is hpK 191 "_law_grow" := fun _ => by kernel_rfl
noncomputable abbrev fd_l_grow : FuncData := (PySem.W.fnOf "_law_grow" "_law_grow" (defArgs s_l_grow) (defBody s_l_grow) (defScope s_l_grow) .none .none .none (.str (Str.ofString "law_readgrove_k09_whole_put_in") 327) none (.ref 190) .none)
theorem df_l_grow (X : (hpK w.params).In h) (G : h.Ns mainGlobals mg) : Df (hpK w.params) mg "_law_grow" s_l_grow ["rules", "chosen", "name", "state"] 191 fd_l_grow := binds_of (ps := ["rules", "chosen", "name", "state"]) (fun_mk (st := s_l_grow) (oc := .type "function") (od := none) (osl := #[]) (by kernel_rfl) (by kernel_rfl) (by kernel_rfl)) (PySem.W.mg_of X G (ns_l_grow _)) fun _ _ _ _ _ _ => ar4 fun _ _ _ _ => rfl
theorem ns_l_number : mg_is hpK 198 "_law_number" := fun _ => by kernel_rfl
noncomputable abbrev fd_l_number : FuncData := (PySem.W.fnOf "_law_number" "_law_number" (defArgs s_l_number) (defBody s_l_number) (defScope s_l_number) .none .none .none (.str (Str.ofString "law_readgrove_k09_whole_put_in") 327) none (.ref 197) .none)
theorem df_l_number (X : (hpK w.params).In h) (G : h.Ns mainGlobals mg) : Df (hpK w.params) mg "_law_number" s_l_number ["cell"] 198 fd_l_number := binds_of (ps := ["cell"]) (fun_mk (st := s_l_number) (oc := .type "function") (od := none) (osl := #[]) (by kernel_rfl) (by kernel_rfl) (by kernel_rfl)) (PySem.W.mg_of X G (ns_l_number _)) fun _ _ _ _ _ _ => ar1 fun _ => rfl
theorem ns_l_paths : mg_is hpK 205 "_law_paths" := fun _ => by kernel_rfl
noncomputable abbrev fd_l_paths : FuncData := (PySem.W.fnOf "_law_paths" "_law_paths" (defArgs s_l_paths) (defBody s_l_paths) (defScope s_l_paths) .none .none .none (.str (Str.ofString "law_readgrove_k09_whole_put_in") 327) none (.ref 204) .none)
theorem df_l_paths (X : (hpK w.params).In h) (G : h.Ns mainGlobals mg) : Df (hpK w.params) mg "_law_paths" s_l_paths ["tree", "path"] 205 fd_l_paths := binds_of (ps := ["tree", "path"]) (fun_mk (st := s_l_paths) (oc := .type "function") (od := none) (osl := #[]) (by kernel_rfl) (by kernel_rfl) (by kernel_rfl)) (PySem.W.mg_of X G (ns_l_paths _)) fun _ _ _ _ _ _ => ar2 fun _ _ => rfl
theorem ns_l_at : mg_is hpK 212 "_law_at" := fun _ => by kernel_rfl
noncomputable abbrev fd_l_at : FuncData := (PySem.W.fnOf "_law_at" "_law_at" (defArgs s_l_at) (defBody s_l_at) (defScope s_l_at) .none .none .none (.str (Str.ofString "law_readgrove_k09_whole_put_in") 327) none (.ref 211) .none)
theorem df_l_at (X : (hpK w.params).In h) (G : h.Ns mainGlobals mg) : Df (hpK w.params) mg "_law_at" s_l_at ["tree", "path"] 212 fd_l_at := binds_of (ps := ["tree", "path"]) (fun_mk (st := s_l_at) (oc := .type "function") (od := none) (osl := #[]) (by kernel_rfl) (by kernel_rfl) (by kernel_rfl)) (PySem.W.mg_of X G (ns_l_at _)) fun _ _ _ _ _ _ => ar2 fun _ _ => rfl
theorem ns_l_put : mg_is hpK 219 "_law_put" := fun _ => by kernel_rfl
noncomputable abbrev fd_l_put : FuncData := (PySem.W.fnOf "_law_put" "_law_put" (defArgs s_l_put) (defBody s_l_put) (defScope s_l_put) .none .none .none (.str (Str.ofString "law_readgrove_k09_whole_put_in") 327) none (.ref 218) .none)
theorem df_l_put (X : (hpK w.params).In h) (G : h.Ns mainGlobals mg) : Df (hpK w.params) mg "_law_put" s_l_put ["tree", "path", "other"] 219 fd_l_put := binds_of (ps := ["tree", "path", "other"]) (fun_mk (st := s_l_put) (oc := .type "function") (od := none) (osl := #[]) (by kernel_rfl) (by kernel_rfl) (by kernel_rfl)) (PySem.W.mg_of X G (ns_l_put _)) fun _ _ _ _ _ _ => ar3 fun _ _ _ => rfl
theorem ns_l_ahead : mg_is hpK 226 "_law_ahead" := fun _ => by kernel_rfl
noncomputable abbrev fd_l_ahead : FuncData := (PySem.W.fnOf "_law_ahead" "_law_ahead" (defArgs s_l_ahead) (defBody s_l_ahead) (defScope s_l_ahead) .none .none .none (.str (Str.ofString "law_readgrove_k09_whole_put_in") 327) none (.ref 225) .none)
theorem df_l_ahead (X : (hpK w.params).In h) (G : h.Ns mainGlobals mg) : Df (hpK w.params) mg "_law_ahead" s_l_ahead ["tree", "path"] 226 fd_l_ahead := binds_of (ps := ["tree", "path"]) (fun_mk (st := s_l_ahead) (oc := .type "function") (od := none) (osl := #[]) (by kernel_rfl) (by kernel_rfl) (by kernel_rfl)) (PySem.W.mg_of X G (ns_l_ahead _)) fun _ _ _ _ _ _ => ar2 fun _ _ => rfl
theorem ns_l_right : mg_is hpK 233 "_law_right" := fun _ => by kernel_rfl
noncomputable abbrev fd_l_right : FuncData := (PySem.W.fnOf "_law_right" "_law_right" (defArgs s_l_right) (defBody s_l_right) (defScope s_l_right) .none .none .none (.str (Str.ofString "law_readgrove_k09_whole_put_in") 327) none (.ref 232) .none)
theorem df_l_right (X : (hpK w.params).In h) (G : h.Ns mainGlobals mg) : Df (hpK w.params) mg "_law_right" s_l_right ["grammar", "tree", "path", "other"] 233 fd_l_right := binds_of (ps := ["grammar", "tree", "path", "other"]) (fun_mk (st := s_l_right) (oc := .type "function") (od := none) (osl := #[]) (by kernel_rfl) (by kernel_rfl) (by kernel_rfl)) (PySem.W.mg_of X G (ns_l_right _)) fun _ _ _ _ _ _ => ar4 fun _ _ _ _ => rfl
theorem ns_law : mg_is hpK 240 "law" := fun _ => by kernel_rfl
noncomputable abbrev fd_law : FuncData := (PySem.W.fnOf "law" "law" (defArgs s_law) (defBody s_law) (defScope s_law) .none .none .none (.str (Str.ofString "law_readgrove_k09_whole_put_in") 327) none (.ref 239) .none)
theorem df_law (X : (hpK w.params).In h) (G : h.Ns mainGlobals mg) : Df (hpK w.params) mg "law" s_law ["script"] 240 fd_law := binds_of (ps := ["script"]) (fun_mk (st := s_law) (oc := .type "function") (od := none) (osl := #[]) (by kernel_rfl) (by kernel_rfl) (by kernel_rfl)) (PySem.W.mg_of X G (ns_law _)) fun _ _ _ _ _ _ => ar1 fun _ => rfl
theorem tx_mk (X : (hpK w.params).In h) (G : h.Ns mainGlobals mg) : Tx mg := ⟨⟨227, PySem.W.mg_of (v := .str "0123456789" 227) X G (by kernel_rfl)⟩, ⟨225, PySem.W.mg_of (v := .str "ABCDEFGHIJKLMNOPQRSTUVWXYZ" 225) X G (by kernel_rfl)⟩, PySem.W.mg_none_of X G (by kernel_rfl), PySem.W.mg_none_of X G (by kernel_rfl), PySem.W.mg_none_of X G (by kernel_rfl), PySem.W.mg_none_of X G (by kernel_rfl), PySem.W.mg_none_of X G (by kernel_rfl), PySem.W.mg_none_of X G (by kernel_rfl), PySem.W.mg_none_of X G (by kernel_rfl), PySem.W.mg_none_of X G (by kernel_rfl), PySem.W.mg_none_of X G (by kernel_rfl), PySem.W.mg_none_of X G (by kernel_rfl), PySem.W.mg_none_of X G (by kernel_rfl), PySem.W.mg_none_of X G (by kernel_rfl), PySem.W.mg_none_of X G (by kernel_rfl)⟩
end
theorem all_mk {l : PySem.W.OpenLaw} {w : World} {h : Heap} {mg : Str → Option Value} {fa : Addr} (X : (hpK w.params).In h) (G : h.Ns mainGlobals mg) (hfa : mg "law" = some (.ref fa)) :
    ∃ fd : FuncData, (∀ (s : Shared) (v : Value), BindsTo s fd ⟨[v], []⟩ [("script", v)]) ∧ ∀ base : Heap, (hpK w.params).In base → base.Ns mainGlobals mg → FnOk l.prog w (hpK w.params) mg base CX0 34 fa fd ["script"] (upSp (hpK w.params) spLaw3) := by
  have e := hfa.symm.trans (PySem.W.mg_of X G (ns_law _))
  cases e
  exact ⟨fd_law, fun s v => .of_eq rfl, fun base _ _ => ok_law (tx_mk X G) (df_law X G) (df_made_of X G) (df_is_name X G) (df_names X G) (df_check_rule X G) (df_grammar_of X G) (df_is_tree X G) (df_row_of X G) (df_trees_within X G) (df_tree_cost X G) (df_knots X G) (df_depth X G) (df_right_knot X G) (df_right_tree X G) (df_l_cell_at X G) (df_l_stir X G) (df_l_drawn X G) (df_l_unlike X G) (df_l_rule X G) (df_l_rules X G) (df_l_sizes X G) (df_l_is_name X G) (df_l_all_in X G) (df_l_chosen X G) (df_l_grow X G) (df_l_number X G) (df_l_paths X G) (df_l_at X G) (df_l_put X G) (df_l_ahead X G) (df_l_right X G)⟩
theorem walk {l : PySem.W.OpenLaw} {q : Program} {loose : List Str} {XP : (Str → Option Value) → Heap → Prop} {YP : World → Heap → Prop} {d : DefRec} {K : Params → PySem.W.Frag} (hn : l.most = some 63) (hdf : d.params.defaults = [])
    (hY : ∀ (w : World) (h : Heap), YP w h → (K w.params).In h)
    (F : ∀ (w : World) (mg : Str → Option Value) (fa : Addr) (h : Heap), (K w.params).In h → h.Ns mainGlobals mg → mg d.name = some (.ref fa) →
      ∃ fd : FuncData, (∀ (s : Shared) (u : Value), BindsTo s fd ⟨[u], []⟩ [("script", u)]) ∧ ∀ base : Heap, (K w.params).In base → base.Ns mainGlobals mg → FnOk l.prog w (K w.params) mg base CX0 34 fa fd ["script"] (upSp (K w.params) spLaw3)) :
    PySem.W.WalkO q loose XP YP l.row.toRowW d [] (fun f vs => PySem.call f vs) :=
  L2.walk_of (n := 63) (k := 34) (x := "script") (CX := fun _ => CX0) (sp := fun w => upSp (K w.params) spLaw3) hn (by decide) hdf ⟨rfl, by decide, by decide⟩ hY F (fun _ _ a ns hl ho hS => law_sp hl ho hS) fun _ _ _ _ _ z => z
end Rg
open PySem PySem.W PyProof.Rows
set_option maxRecDepth 100000 in
set_option maxHeartbeats 0 in
theorem PySem.Challenge.cw_readgrove_k09_whole_put_in_holds : PySem.Challenge.rw_readgrove_k09_whole_put_in.Holds := by
  w_on; o_law
  refine PySem.W.holds_open (r := PySem.Challenge.rw_readgrove_k09_whole_put_in.row) (q := Rg.qv) (loose := []) (N := 2952)
    (Xt := fun s => xlAt Rg.qv [] s && recOk (RowW.records (OpenRow.toRowW PySem.Challenge.rw_readgrove_k09_whole_put_in.row)) s)
    (XP := XL Rg.qv []) (Yf := Rg.hk.obs) (Ya := Rg.hk.val) (YP := Rg.hk.says) ?hl Rg.hk.of Rg.hk.keeps
    (fun s e => xl_of s (Bool.and_eq_true_iff.mp e).1) XL.keeps (by rfl) (by rfl) (by rfl) (fun s e => recFacts_of (Bool.and_eq_true_iff.mp e).2)
    (by rfl) (by assumption) (by decide +kernel) ⟨rfl, rfl, rfl, rfl, rfl, by decide +kernel⟩ ?hw ?hc
  case hw => w_witness2
  case hc => exact Rg.walk (l := PySem.Challenge.rw_readgrove_k09_whole_put_in) rfl rfl (fun w h Y => PySem.W.kIn_of Y) (fun w mg fa h KX G hmg => Rg.all_mk KX G hmg)
  case hl => intro w; kernel_rfl
