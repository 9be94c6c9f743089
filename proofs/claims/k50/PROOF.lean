import PyProof.Rows.All
import Wide.All
import OpenK.AllK
import Wide.FinOn
import PyProof.EqAt
import PyProof.EqKinds
import PyProof.TupleCall
import KE.BitLaws
import PySem.Challenge.RW_bentstretch_k50_words_compared
set_option Elab.async false
set_option linter.all false
set_option maxRecDepth 100000
/-! THE HAND LAYER, for ints, bools, texts, own classes, lists, tuples, dicts, comprehensions, walks over dicts, enumerate, zip, reversed, texts, calls, loops. Paste it whole ahead of your own text; what your proof does not reach may be deleted. -/
namespace L2
open PySem PySem.Spec PyProof.Rows

/-- a key: an int or a str -/
abbrev Key := Sum Int Str
def keyIs : Key → Value → Bool
  | .inl k, v => Value.isInt k v
  | .inr x, v => Value.isStrOf x v
def keyH (w : World) : Key → Int
  | .inl k => hashInt k
  | .inr x => hashStr w x
theorem keyIs_shape : ∀ {k : Key} {v : Value}, keyIs k v = true → (∃ i t, k = Sum.inl i ∧ v = Value.int i t) ∨ (∃ x t, k = Sum.inr x ∧ v = Value.str x t)
  | .inl i, v, h => by
    obtain ⟨t, e⟩ := Value.isInt_shape (k := i) (v := v) h
    exact .inl ⟨i, t, rfl, e⟩
  | .inr x, v, h => by
    obtain ⟨t, e⟩ := Value.isStrOf_shape (x := x) (v := v) h
    exact .inr ⟨x, t, rfl, e⟩
theorem key_ll (a b : Int) : decide ((Sum.inl a : Key) = Sum.inl b) = (a == b) := by
  by_cases e : a = b
  · subst e; simp
  · have h : ¬ (Sum.inl a : Key) = Sum.inl b := fun q => e (Sum.inl.inj q)
    rw [decide_eq_false h]
    exact (beq_eq_false_iff_ne.mpr e).symm
theorem key_rr (a b : Str) : decide ((Sum.inr a : Key) = Sum.inr b) = decide (a = b) := by
  by_cases e : a = b
  · subst e; simp
  · have h : ¬ (Sum.inr a : Key) = Sum.inr b := fun q => e (Sum.inr.inj q)
    rw [decide_eq_false h, decide_eq_false e]
theorem key_lr (a : Int) (b : Str) : decide ((Sum.inl a : Key) = Sum.inr b) = false := decide_eq_false (fun q => nomatch q)
theorem key_rl (a : Str) (b : Int) : decide ((Sum.inr a : Key) = Sum.inl b) = false := decide_eq_false (fun q => nomatch q)

def mixKind (prog : Program) (w : World) : PySem.KeyKind prog w Key where
  is := keyIs
  hash := keyH w
  inj := fun v a b ha hb => by
    rcases keyIs_shape ha with ⟨i, t, rfl, rfl⟩ | ⟨x, t, rfl, rfl⟩
    · rcases keyIs_shape hb with ⟨j, u, rfl, e⟩ | ⟨y, u, rfl, e⟩
      · injection e with e1 _; rw [e1]
      · exact nomatch e
    · rcases keyIs_shape hb with ⟨j, u, rfl, e⟩ | ⟨y, u, rfl, e⟩
      · exact nomatch e
      · injection e with e1 _; rw [e1]
  byValue := fun k v h => by
    rcases keyIs_shape h with ⟨i, t, rfl, rfl⟩ | ⟨x, t, rfl, rfl⟩ <;> rfl
  pyHash := fun hv h => by
    rcases keyIs_shape hv with ⟨i, t, rfl, rfl⟩ | ⟨x, t, rfl, rfl⟩
    · exact wpAny_pyHash_int h
    · exact wpAny_pyHash_str h
  eqBool := fun hu hv h => by
    rcases keyIs_shape hu with ⟨i, t, rfl, rfl⟩ | ⟨x, t, rfl, rfl⟩
    · rcases keyIs_shape hv with ⟨j, u, rfl, rfl⟩ | ⟨y, u, rfl, rfl⟩
      · rw [key_ll] at h; exact wpAny_eqBool_int h
      · rw [key_lr] at h; exact SeqAt.EqAt.int_str i t y u _ _ _ _ h
    · rcases keyIs_shape hv with ⟨j, u, rfl, rfl⟩ | ⟨y, u, rfl, rfl⟩
      · rw [key_rl] at h; exact SeqAt.EqAt.str_int x t j u _ _ _ _ h
      · rw [key_rr] at h; exact wpAny_eqBool_str h
  «strs» := fun k x t v h => by
    rcases keyIs_shape h with ⟨i, u, rfl, e⟩ | ⟨y, u, rfl, e⟩
    · exact nomatch e
    · injection e with e1 _
      subst e1
      cases v <;> rfl

end L2

namespace L2
open PySem PySem.Spec PyProof.Rows

/-- a value, without the heap -/
inductive V where
  | non | bl (b : Bool) | int (i : Int) | str (x : Str) | byt (b : Array UInt8) | flt (b : UInt64) | ref (a : Addr) | ty (n : String)
  deriving DecidableEq

def RelV : V → Value → Prop
  | .non, u => u = Value.none
  | .bl b, u => u = Value.bool b
  | .int i, u => ∃ t, u = Value.int i t
  | .str x, u => ∃ t, u = Value.str x t
  | .byt b, u => ∃ t, u = Value.bytes b t
  | .flt b, u => ∃ t, u = Value.float b t
  | .ref a, u => u = Value.ref a
  | .ty n, u => u = Value.type n

abbrev Vals : List V → List Value → Prop := Paired RelV
theorem Vals.length {xs : List V} {us : List Value} (r : Vals xs us) : xs.length = us.length := Paired.length r
theorem Vals.get : ∀ {xs : List V} {us : List Value} {i : Nat} {x : V}, Vals xs us → xs[i]? = some x → ∃ u, us[i]? = some u ∧ RelV x u
  | _, _, _, _, .nil, e => by simp at e
  | _, _, 0, _, .cons r _, e => by simp at e; subst e; exact ⟨_, rfl, r⟩
  | _, _, i + 1, x, .cons _ t, e => by
    obtain ⟨u, h1, h2⟩ := Vals.get (i := i) (x := x) t (by simpa using e)
    exact ⟨u, by simpa using h1, h2⟩
theorem Vals.set {x : V} {u : Value} (r : RelV x u) : ∀ {xs : List V} {us : List Value} (i : Nat), Vals xs us → Vals (xs.set i x) (us.set i u)
  | _, _, _, .nil => .nil
  | _, _, 0, .cons _ t => .cons r t
  | _, _, i + 1, .cons q t => .cons q (Vals.set r i t)
theorem Vals.append : ∀ {xs ys : List V} {us ws : List Value}, Vals xs us → Vals ys ws → Vals (xs ++ ys) (us ++ ws)
  | _, _, _, _, .nil, s => s
  | _, _, _, _, .cons r t, s => .cons r (Vals.append t s)
theorem Vals.take : ∀ {xs : List V} {us : List Value} (n : Nat), Vals xs us → Vals (xs.take n) (us.take n)
  | _, _, 0, _ => .nil
  | _, _, _ + 1, .nil => .nil
  | _, _, n + 1, .cons r t => .cons r (Vals.take n t)
theorem Vals.drop : ∀ {xs : List V} {us : List Value} (n : Nat), Vals xs us → Vals (xs.drop n) (us.drop n)
  | _, _, 0, r => r
  | _, _, _ + 1, .nil => .nil
  | _, _, n + 1, .cons _ t => Vals.drop n t
theorem Vals.none_of : ∀ {xs : List V} {us : List Value} {i : Nat}, Vals xs us → xs[i]? = none → us[i]? = none := fun {xs us i} r e => by
  have h1 := r.length
  have h2 : xs.length ≤ i := List.getElem?_eq_none_iff.mp e
  exact List.getElem?_eq_none_iff.mpr (by omega)

def RelO : Option V → Option Value → Prop
  | some v, some u => RelV v u
  | none, none => True
  | _, _ => False
def KV {κ : Type} : List (κ × V) → List (κ × Value) → Prop := Paired fun (p : κ × V) (q : κ × Value) => p.1 = q.1 ∧ RelV p.2 q.2

/-- a key of a dict (00_mix): an int or a text -/
def kV : Key → V
  | .inl i => .int i
  | .inr x => .str x

/-- what stands at a tracked address -/
inductive HO where
  /-- a list -/
  | lst (xs : List V)
  /-- a tuple (never changes) -/
  | tup (xs : List V)
  /-- a dict whose keys are ints and texts; one whose keys are tuples of ints and texts (the empty one is both) -/
  | dK (kvs : List (Key × V)) | dT (kvs : List (List Key × V))
  /-- a set of ints: its members, its size -/
  | set (S : Int → Bool) (n : Nat)
  /-- an instance of the class at C, its dict at dx, its attributes -/
  | ins (C dx : Addr) (fs : List (Str × V))
  /-- the dict of the instance at x -/
  | own (x : Addr)
  /-- the dict of an exception -/
  | xd (fs : List (Str × V))
  /-- a bound method, f of x -/
  | met (f x : Addr)
  /-- a range object lo, lo + 1, .. below hi -/
  | rng (lo hi : Int)
  /-- a thing that is known to the object (the script; a dict while a loop walks it): read, never written while it is so -/
  | frz (o : Obj) (u : HO)
  /-- a code object's table -/
  | tbl (ps : Array Value)
  /-- any other thing, by what is true of its one object (a def of one's own: SetO a S n := HO.ext fun h => ..) -/
  | ext (φ : Heap → Prop)

abbrev Hp := Addr → Option HO
def upd (H : Hp) (a : Addr) (o : HO) : Hp := fun b => if b = a then some o else H b
theorem upd_same {H : Hp} {a : Addr} {o : HO} : upd H a o a = some o := by unfold upd; rw [if_pos rfl]
theorem upd_ne {H : Hp} {a b : Addr} {o : HO} (h : b ≠ a) : upd H a o b = H b := by unfold upd; rw [if_neg h]
theorem ne_of_none {H : Hp} {a b : Addr} {o : HO} (h : H a = some o) (h' : H b = none) : a ≠ b := by
  intro e; subst e; rw [h] at h'; cases h'

section
variable (P : Program) (w : World)
def ObjOk (H : Hp) (h : Heap) (a : Addr) : HO → Prop
  | .lst xs => xs.length ≤ sizeLine ∧ ∃ (its : List Value) (n : Nat), Vals xs its ∧ h.get? a = some { cls := .type "list", data := .seq its.toArray n }
  | .tup xs => (xs.length ≤ sizeLine ∧ ∃ o : Obj, h.get? a = some o ∧ o.dict = none) ∧ ∃ its : List Value, Vals xs its ∧ IsTup h a its.toArray
  | .dK kvs => kvs.length ≤ sizeLine ∧ (a == sysModules) = false ∧ ∃ vs, KV kvs vs ∧ h.DictOf (mixKind P w) a vs
  | .dT kvs => kvs.length ≤ sizeLine ∧ (a == sysModules) = false ∧ ∃ xs : List (List Key × Addr × Value),
      Paired (fun (p : List Key × V) (q : List Key × Addr × Value) => p.1 = q.1 ∧ H q.2.1 = some (.tup (p.1.map kV)) ∧ RelV p.2 q.2.2) kvs xs ∧
      ∃ o es ep, h.get? a = some o ∧ o.ExactDict ∧ o.data = .dict es ep ∧ es.toList = xs.map (entryOfKey (tupleKind (mixKind P w))) ∧ (xs.map (·.1)).Nodup
  | .set S n => h.SetOf (intKind P w) a S n
  | .ins C dx fs => H dx = some (.own a) ∧ fs.length ≤ 1000 ∧ dx ≠ a ∧ h.get? a = some (PySem.W.instObj C dx) ∧
      ∃ mA, h.Ns1 dx mA ∧ (∀ f, RelO (fs.lookup f) (mA f)) ∧ PySem.Within mA (fs.map (·.1))
  | .own _ => ∃ o, h.get? a = some o
  | .xd fs => ∃ mA, h.Ns1 a mA ∧ ∀ f, RelO (fs.lookup f) (mA f)
  | .rng lo hi => ∃ t u v, h.get? a = some { cls := .type "range", data := .fields #[.int lo t, .int hi u, .int 1 v] }
  | .frz o u => h.get? a = some o ∧ ObjOk H h a u
  | .tbl ps => ∃ more : Array Value, h.get? a = some { cls := .none, data := .fields (ps ++ more) } ∧ TriplesOk (ps ++ more).toList
  | .met f x => h.get? a = some (PySem.W.methodObj (.ref f) (.ref x))
  | .ext φ => φ h ∧ (∃ o, h.get? a = some o) ∧ ∀ h1 h2 : Heap, φ h1 → (∀ o, h1.get? a = some o → h2.get? a = some o) → φ h2
/-- the abstract heap is held -/
def HOk (H : Hp) (h : Heap) : Prop := ∀ a o, H a = some o → ObjOk P w H h a o
end

section
variable {P : Program} {w : World} {H H' : Hp} {h h' : Heap} {a : Addr} {o : HO}
theorem ObjOk.lt (x : ObjOk P w H h a o) : a < h.objs.size := by
  cases o with
  | lst xs => obtain ⟨_, _, _, _, e⟩ := x; exact Heap.lt_size e
  | tup xs => obtain ⟨_, _, _, p⟩ := x; exact p.lt
  | dK kvs => obtain ⟨_, _, _, _, o, _, _, e, _⟩ := x; exact Heap.lt_size e
  | dT kvs => obtain ⟨_, _, _, _, o, _, _, e, _⟩ := x; exact Heap.lt_size e
  | set S n => obtain ⟨o, _, _, _, e, _⟩ := x; exact Heap.lt_size e
  | ins C dx fs => obtain ⟨_, _, _, e, _⟩ := x; exact Heap.lt_size e
  | own y => obtain ⟨_, e⟩ := x; exact Heap.lt_size e
  | xd fs => obtain ⟨_, ⟨_, _, _, e, _⟩, _⟩ := x; exact Heap.lt_size e
  | rng lo hi => obtain ⟨_, _, _, e⟩ := x; exact Heap.lt_size e
  | frz ob u => obtain ⟨e, _⟩ := x; exact Heap.lt_size e
  | tbl ps => obtain ⟨_, e, _⟩ := x; exact Heap.lt_size e
  | met f y => exact Heap.lt_size (show h.get? a = some _ from x)
  | ext φ => obtain ⟨_, ⟨_, e⟩, _⟩ := x; exact Heap.lt_size e
theorem Paired.mapP {α β : Type} {F G : α → β → Prop} : ∀ {l₁ : List α} {l₂ : List β}, Paired F l₁ l₂ → (∀ a b, F a b → G a b) → Paired G l₁ l₂
  | _, _, .nil, _ => .nil
  | _, _, .cons r t, f => .cons (f _ _ r) (Paired.mapP t f)
/-- what an object's description leans on: its own object, its own dict, the tuples -/
theorem ObjOk.stay (x : ObjOk P w H h a o) (k : ∀ b u, (b = a ∨ H b = some (.own a)) → h.get? b = some u → h'.get? b = some u)
    (ho : ∀ b, H b = some (.own a) → H' b = some (.own a)) (ht : ∀ b xs, H b = some (.tup xs) → H' b = some (.tup xs)) : ObjOk P w H' h' a o := by
  induction o with
  | lst xs => obtain ⟨z, its, n, r, e⟩ := x; exact ⟨z, its, n, r, k _ _ (.inl rfl) e⟩
  | tup xs => obtain ⟨⟨z, od, q, dn⟩, its, r, ob, e, c⟩ := x; exact ⟨⟨z, od, k _ _ (.inl rfl) q, dn⟩, its, r, ob, k _ _ (.inl rfl) e, c⟩
  | dK kvs => obtain ⟨z, y, vs, r, ob, es, ep, e, c⟩ := x; exact ⟨z, y, vs, r, ob, es, ep, k _ _ (.inl rfl) e, c⟩
  | dT kvs =>
    obtain ⟨z, y, xs, r, ob, es, ep, e, c⟩ := x
    exact ⟨z, y, xs, Paired.mapP r fun p q z => ⟨z.1, ht _ _ z.2.1, z.2.2⟩, ob, es, ep, k _ _ (.inl rfl) e, c⟩
  | set S n => obtain ⟨ob, es, ep, t, e, c⟩ := x; exact ⟨ob, es, ep, t, k _ _ (.inl rfl) e, c⟩
  | ins C dx fs =>
    obtain ⟨d, z, ne, e, mA, ⟨od, es, ep, e2, c⟩, r⟩ := x
    exact ⟨ho _ d, z, ne, k _ _ (.inl rfl) e, mA, ⟨od, es, ep, k _ _ (.inr d) e2, c⟩, r⟩
  | own y => obtain ⟨ob, e⟩ := x; exact ⟨ob, k _ _ (.inl rfl) e⟩
  | xd fs => obtain ⟨mA, ⟨od, es, ep, e, c⟩, r⟩ := x; exact ⟨mA, ⟨od, es, ep, k _ _ (.inl rfl) e, c⟩, r⟩
  | rng lo hi => obtain ⟨t, u, v, e⟩ := x; exact ⟨t, u, v, k _ _ (.inl rfl) e⟩
  | frz ob u ih => obtain ⟨e, q⟩ := x; exact ⟨k _ _ (.inl rfl) e, ih q⟩
  | tbl ps =>
    obtain ⟨m, e, t⟩ := x
    exact ⟨m, k a _ (.inl rfl) e, t⟩
  | met f y =>
    have e : h.get? a = some (PySem.W.methodObj (.ref f) (.ref y)) := x
    show h'.get? a = some (PySem.W.methodObj (.ref f) (.ref y))
    exact k a _ (.inl rfl) e
  | ext φ => obtain ⟨p, ⟨o, e⟩, st⟩ := x; exact ⟨st _ _ p fun o q => k _ _ (.inl rfl) q, ⟨o, k _ _ (.inl rfl) e⟩, st⟩
theorem HOk.lt (x : HOk P w H h) (e : H a = some o) : a < h.objs.size := (x a o e).lt
theorem HOk.fresh (x : HOk P w H h) (e : h.objs.size ≤ a) : H a = none := by
  cases q : H a with
  | none => rfl
  | some u => exact absurd (Nat.lt_of_lt_of_le (x.lt q) e) (Nat.lt_irrefl _)
/-- every object of the heap is kept -/
theorem HOk.kept (x : HOk P w H h) (k : ∀ b u, h.get? b = some u → h'.get? b = some u) : HOk P w H h' := fun a o e =>
  (x a o e).stay (fun b u _ q => k b u q) (fun _ q => q) fun _ _ q => q
/-- a new object is laid and tracked -/
theorem HOk.laid (x : HOk P w H h) (k : ∀ b u, h.get? b = some u → h'.get? b = some u) (hp : h.objs.size ≤ a) (new : ObjOk P w (upd H a o) h' a o) : HOk P w (upd H a o) h' := fun b u e => by
  have hn := x.fresh hp
  by_cases hb : b = a
  · subst hb; rw [upd_same] at e; cases e; exact new
  · rw [upd_ne hb] at e
    exact (x b u e).stay (fun c v _ q => k c v q) (fun c q => by rw [upd_ne (ne_of_none q hn)]; exact q) fun c xs q => by rw [upd_ne (ne_of_none q hn)]; exact q
end

/-- what may be read as u: it is u, or a known u -/
def Rd (H : Hp) (a : Addr) (u : HO) : Prop := H a = some u ∨ ∃ o, H a = some (.frz o u)
theorem Rd.of {H : Hp} {a : Addr} {u : HO} (h : H a = some u) : Rd H a u := .inl h
theorem Rd.ok {P : Program} {w : World} {H : Hp} {h : Heap} {a : Addr} {u : HO} (r : Rd H a u) (x : HOk P w H h) : ObjOk P w H h a u := by
  rcases r with r | ⟨o, r⟩
  · exact x a u r
  · obtain ⟨_, q⟩ := x a _ r
    exact q
/-- what may be written -/
def Mut : Option HO → Prop
  | some (.lst _) => True
  | some (.dK _) => True
  | some (.dT _) => True
  | some (.set _ _) => True
  | some (.ins _ _ _) => True
  | some (.ext _) => True
  | _ => False
section
variable {P : Program} {w : World} {H : Hp} {h h' : Heap} {x e : Addr} {o' : HO}
/-- the object at e is changed: x itself, or the dict of the instance x -/
theorem HOk.write (ok : HOk P w H h) (mu : Mut (H x)) (he : e = x ∨ H e = some (.own x)) (k : ∀ b u, b ≠ e → h.get? b = some u → h'.get? b = some u) (heo : ∃ u, h'.get? e = some u)
    (new : ObjOk P w (upd H x o') h' x o') : HOk P w (upd H x o') h' := fun b u q => by
  have nown : ∀ c y, H c = some (.own y) → c ≠ x := fun c y r z => by subst z; rw [r] at mu; exact mu
  have ntup : ∀ c xs, H c = some (.tup xs) → c ≠ x := fun c xs r z => by subst z; rw [r] at mu; exact mu
  by_cases hb : b = x
  · subst hb; rw [upd_same] at q; cases q; exact new
  · rw [upd_ne hb] at q
    by_cases hbe : b = e
    · have q' : H b = some (.own x) := by
        rcases he with z | z
        · exact absurd (hbe.trans z) hb
        · rw [hbe]; exact z
      rw [q] at q'; cases q'
      obtain ⟨v, hv⟩ := heo
      exact ⟨v, by rw [hbe]; exact hv⟩
    · refine (ok b u q).stay (fun c v hc r => k c v ?_ r) (fun c r => by rw [upd_ne (nown c b r)]; exact r) fun c xs r => by rw [upd_ne (ntup c xs r)]; exact r
      rcases hc with rfl | hc
      · exact hbe
      · rintro rfl
        rcases he with z | z
        · exact nown c b hc z
        · rw [hc] at z; cases z; exact hb rfl
end

/-! ### kept unless tracked; of the frames at fs (the callers') the slots may change (an exception that passes writes there); of the records at ex (iterators) nothing is said -/
structure Un (fs ex : List Addr) (H H' : Hp) (h h' : Heap) : Prop where
  keep : ∀ b o, h.get? b = some o → H b = none → b ∉ fs → b ∉ ex → h'.get? b = some o
  slot : ∀ b o, h.get? b = some o → H b = none → b ∈ fs → b ∉ ex → ∃ sl, h'.get? b = some { o with slots := sl }
  free : ∀ b o, h.get? b = some o → H b = none → b ∉ ex → H' b = none
  there : ∀ b o, h.get? b = some o → b ∉ ex → ∃ o', h'.get? b = some o'
  tups : ∀ b xs, H b = some (.tup xs) → H' b = some (.tup xs)
  frzs : ∀ b o u, H b = some (.frz o u) → H' b = some (.frz o u)
  tbls : ∀ b ps, H b = some (.tbl ps) → ∃ more, H' b = some (.tbl (ps ++ more))
section
variable {fs fs' ex ex' : List Addr} {H H1 H2 : Hp} {h h1 h2 h' : Heap} {a x e : Addr} {o : HO}
theorem Un.any (u : Un fs ex H H1 h h1) {b : Addr} {ob : Obj} (q : h.get? b = some ob) (n : H b = none) (hx : b ∉ ex) : ∃ sl, h1.get? b = some { ob with slots := sl } := by
  by_cases hb : b ∈ fs
  · exact u.slot b ob q n hb hx
  · exact ⟨ob.slots, u.keep b ob q n hb hx⟩
theorem Un.trans (a : Un fs ex H H1 h h1) (b : Un fs ex H1 H2 h1 h2) : Un fs ex H H2 h h2 where
  keep := fun c ob q n hc hx => b.keep c ob (a.keep c ob q n hc hx) (a.free c ob q n hx) hc hx
  slot := fun c ob q n hc hx => by
    obtain ⟨sl, e1⟩ := a.slot c ob q n hc hx
    obtain ⟨sl', e2⟩ := b.slot c _ e1 (a.free c ob q n hx) hc hx
    exact ⟨sl', e2⟩
  free := fun c ob q n hx => by
    obtain ⟨o', e1⟩ := a.there c ob q hx
    exact b.free c o' e1 (a.free c ob q n hx) hx
  there := fun c ob q hx => by
    obtain ⟨o', e1⟩ := a.there c ob q hx
    exact b.there c o' e1 hx
  tups := fun c xs q => b.tups c xs (a.tups c xs q)
  frzs := fun c ob xs q => b.frzs c ob xs (a.frzs c ob xs q)
  tbls := fun c ps q => by
    obtain ⟨m1, e1⟩ := a.tbls c ps q
    obtain ⟨m2, e2⟩ := b.tbls c _ e1
    exact ⟨m1 ++ m2, by rw [e2, Array.append_assoc]⟩
theorem Un.kept (k : ∀ b u, h.get? b = some u → h'.get? b = some u) : Un fs ex H H h h' :=
  ⟨fun b ob q _ _ _ => k b ob q, fun b ob q _ _ _ => ⟨ob.slots, k b ob q⟩, fun _ _ _ n _ => n, fun b ob q _ => ⟨ob, k b ob q⟩, fun _ _ q => q, fun _ _ _ q => q, fun _ ps q => ⟨#[], by rw [q]; simp⟩⟩
theorem Un.refl : Un fs ex H H h h := Un.kept fun _ _ q => q
theorem Un.laid (k : ∀ b u, h.get? b = some u → h'.get? b = some u) (hp : h.objs.size ≤ a) (hn : H a = none) : Un fs ex H (upd H a o) h h' where
  keep := fun b u q _ _ _ => k b u q
  slot := fun b u q _ _ _ => ⟨u.slots, k b u q⟩
  free := fun b u q n _ => by rw [upd_ne (Nat.ne_of_lt (Nat.lt_of_lt_of_le (Heap.lt_size q) hp))]; exact n
  there := fun b u q _ => ⟨u, k b u q⟩
  tups := fun b xs q => by rw [upd_ne (ne_of_none q hn)]; exact q
  frzs := fun b u xs q => by rw [upd_ne (ne_of_none q hn)]; exact q
  tbls := fun b ps q => ⟨#[], by rw [upd_ne (ne_of_none q hn), q]; simp⟩
theorem Un.write (mu : Mut (H x)) (he : e = x ∨ H e = some (.own x)) (k : ∀ b u, b ≠ e → h.get? b = some u → h'.get? b = some u) (heo : ∃ u, h'.get? e = some u) : Un fs ex H (upd H x o) h h' := by
  have hx : ∀ b, H b = none → b ≠ x := fun b n z => by subst z; rw [n] at mu; exact mu
  have hb : ∀ b, H b = none → b ≠ e := fun b n z => by
    subst z
    rcases he with r | r
    · exact hx b n r
    · rw [n] at r; cases r
  have hm : ∀ b u, H b = some u → ¬ Mut (some u) → b ≠ x := fun b u q nm z => by subst z; rw [q] at mu; exact nm mu
  refine ⟨fun b u q n _ _ => k b u (hb b n) q, fun b u q n _ _ => ⟨u.slots, k b u (hb b n) q⟩, fun b u q n _ => by rw [upd_ne (hx b n)]; exact n, fun b u q _ => ?_,
    fun b xs q => by rw [upd_ne (hm b _ q fun z => z)]; exact q, fun b u xs q => by rw [upd_ne (hm b _ q fun z => z)]; exact q, fun b ps q => ⟨#[], by rw [upd_ne (hm b _ q fun z => z), q]; simp⟩⟩
  by_cases hbe : b = e
  · subst hbe; exact heo
  · exact ⟨u, k b u hbe q⟩
theorem Un.mono (u : Un fs ex H H1 h h1) (hs : ∀ b ∈ fs, b ∈ fs') (hx : ∀ b ∈ ex, b ∈ ex') : Un fs' ex' H H1 h h1 :=
  ⟨fun b ob q n hb he => u.keep b ob q n (fun z => hb (hs b z)) fun z => he (hx b z), fun _ _ q n _ he => u.any q n fun z => he (hx _ z), fun b ob q n he => u.free b ob q n fun z => he (hx b z), fun b ob q he => u.there b ob q fun z => he (hx b z), u.tups, u.frzs, u.tbls⟩
end

/-! ### the heap without what is tracked -/
def trk (h : Heap) (H : Hp) : List Addr := (List.range h.objs.size).filter fun a => (H a).isSome
def hidT (h : Heap) (H : Hp) : Heap := PySem.W.hideAll h (trk h H)
theorem hidT_size (h : Heap) (H : Hp) : (hidT h H).objs.size = h.objs.size := PySem.W.hideAll_size _ _
theorem hidT_get {h : Heap} {H : Hp} {b : Addr} {o : Obj} (e : h.get? b = some o) (n : H b = none) : (hidT h H).get? b = some o :=
  PySem.W.hideAll_get _ e fun hm => by
    have q : (H b).isSome = true := (List.mem_filter.mp hm).2
    rw [n] at q; simp at q
theorem of_hidT {h : Heap} {H : Hp} {b : Addr} {o : Obj} (e : (hidT h H).get? b = some o) : h.get? b = some o ∧ H b = none := by
  have e' : h.get? b = some o := PySem.W.of_hideAll (trk h H) e
  refine ⟨e', ?_⟩
  cases q : H b with
  | none => rfl
  | some x =>
    have hm : b ∈ trk h H := List.mem_filter.mpr ⟨List.mem_range.mpr (Heap.lt_size e'), by simp [q]⟩
    have z : (hidT h H).get? b = none := PySem.W.hideAll_none (trk h H) hm
    rw [z] at e; cases e

/-! ### OpenK's ledger, filled with every new object but one -/
def allNews (g h : Heap) (L : Addr) : List (Addr × Obj) := (List.range h.objs.size).filterMap fun a => if a = L ∨ (g.get? a).isSome = true then none else (h.get? a).map fun o => (a, o)
def rest (g h : Heap) (L d : Addr) : List (Addr × Obj) := (allNews g h L).filter fun p => decide (p.1 ≠ d)
end L2

namespace L2
open PySem PySem.Spec PyProof.Rows

/-- the module's facts, over the base: the heap at the law's entry without what is tracked there -/
def refsOf (vs : List Value) : List Addr := vs.filterMap fun v => match v with | .ref a => some a | _ => none
/-- the mark: an entry of K behind another of the same address, so never looked up, that names tables -/
def tabMark (vs : List Value) : Obj := { cls := .int 424242 0, data := .fields vs.toArray }
def tabsO (o : Obj) : List Addr := match o.cls, o.data with
  | .int 424242 0, .fields vs => refsOf vs.toList
  | _, _ => []
def tabs (K : PySem.W.Frag) : List Addr := match K.getLast? with
  | some p => tabsO p.2
  | none => []
/-- the named tables are tracked -/
def TbOk (K : PySem.W.Frag) (H : Hp) : Prop := ∀ P ∈ tabs K, ∃ ps, H P = some (.tbl ps)
structure Mod (K : PySem.W.Frag) (mg : Str → Option Value) (base : Heap) : Prop where
  kin : K.In base
  glob : base.Ns mainGlobals mg
  blt : ∃ mb, base.Ns builtinsNs mb ∧ ∀ x : Str, x ≠ "__name__" → mb x = bootBuiltins x
  nolimit : base.NoLimit
  bmain : ∃ bm ob, mg "__builtins__" = some (.ref bm) ∧ bm ≠ builtinsNs ∧ base.get? bm = some ob ∧ ob.cls = .type "module" ∧ ob.dict = some builtinsNs ∧ ob.data = .plain

/-- the context: a def's body (or a comprehension's block) running. base: fixed through the whole law; s₀, H₀: the entry; outer: the frames whose slots others may change (a def's callers); stack: all frames that run;
   ex: iterators that were made ahead of the entry and are walked here (a comprehension's); fn: the names whose cells were made at the entry (a def: all; a comprehension's block: its own); calm: not within an except suite; pn: pins that every state bears; xe: what is wanted of an exception that leaves the code -/
structure Cx where
  prog : Program
  w : World
  K : PySem.W.Frag
  mg : Str → Option Value
  base : Heap
  A : Around
  N : List Str
  s_0 : Shared
  H_0 : Hp
  env : Env
  outer : List Env
  stack : List Env
  ex : List Addr
  fn : Str → Bool
  calm : Bool
  pn : List (Addr × Obj)
  xe : Value → Shared → Prop
/-- the callers' frames -/
def frs (l : List Env) : List Addr := l.filterMap (·.frame)
abbrev Cx.fs (X : Cx) : List Addr := frs X.outer

def Vis (sc : Scope) (x : Str) : Prop := sc.names.lookup x = some .local ∨ sc.names.lookup x = some .cell ∨ sc.names.lookup x = some .free
def Loc (sc : Scope) (x : Str) : Prop := sc.names.lookup x = some .local ∨ sc.names.lookup x = some .cell
def Look (env : Env) (h : Heap) (m : Str → Option Value) (x : Str) (u : Value) : Prop :=
  (env.kindOf x = some .local ∧ m x = some u) ∨ ((env.kindOf x = some .cell ∨ env.kindOf x = some .free) ∧ ∃ c, env.cells.lookup x = some c ∧ h.IsCell c (some u))

structure Cx.Ok (X : Cx) : Prop where
  mod : Mod X.K X.mg X.base
  kind : X.env.scope.kind = .function
  glob : X.env.globals = mainGlobals
  blt : X.env.builtins = builtinsNs
  above : X.s_0.heap.objs.size ≤ X.env.locals
  inj : ∀ x y c, X.env.cells.lookup x = some c → X.env.cells.lookup y = some c → x = y
  has : ∀ x, (X.env.kindOf x = some .cell ∨ X.env.kindOf x = some .free) → ∃ c, X.env.cells.lookup x = some c
  cab : ∀ x c, X.fn x = true → X.env.cells.lookup x = some c → X.s_0.heap.objs.size ≤ c
  hd : X.calm = true → X.A.handled = none
  frames : X.A.frames = some X.stack
  stk : X.stack = X.outer ∨ (X.stack = X.env :: X.outer ∧ X.env.frame = some X.env.locals)
  exf : ∀ b ∈ X.ex, b ≠ X.env.locals ∧ ∀ x c, X.env.cells.lookup x = some c → c ≠ b
  bs : ∀ b o, X.base.get? b = some o → X.s_0.heap.get? b = some o ∧ X.H_0 b = none
  bsz : X.base.objs.size ≤ X.s_0.heap.objs.size
  noex : ∀ b o, X.base.get? b = some o → b ∉ X.ex
  exfs : ∀ b ∈ X.ex, b ∉ X.fs
  funs : X.s_0.heap.FunFrames X.base X.outer
  frf : ∀ b ∈ X.fs, X.H_0 b = none
  tb : TbOk X.K X.H_0

structure Inv (X : Cx) (pins : List (Addr × Obj)) (σ : List (Option V)) (H : Hp) (s : Shared) : Prop where
  ok : X.Ok
  os : s.os = X.s_0.os
  bare : AllBare s.gens
  base : Un X.fs X.ex X.H_0 H X.s_0.heap s.heap
  loc : ∃ m, s.heap.Ns X.env.locals m ∧ ∀ (i : Nat) (x : Str) (v : V), X.N[i]? = some x → σ[i]? = some (some v) → Vis X.env.scope x → ∃ u, RelV v u ∧ Look X.env s.heap m x u
  cell : ∀ x c, X.env.cells.lookup x = some c → ∃ v, s.heap.IsCell c v
  free : H X.env.locals = none
  freeC : ∀ x c, X.env.cells.lookup x = some c → H c = none
  pin : ∀ p ∈ X.pn ++ pins, s.heap.get? p.1 = some p.2 ∧ H p.1 = none ∧ p.1 ≠ X.env.locals ∧ p.1 ∉ X.fs ∧ ∀ v, p.2.data ≠ .cell v
  hok : HOk X.prog X.w H s.heap
  len : σ.length = X.N.length

section
variable {X : Cx} {pins : List (Addr × Obj)} {σ : List (Option V)} {H H' : Hp} {s : Shared} {h' : Heap}

theorem Cx.Ok.nofr (ok : X.Ok) {b : Addr} {o : Obj} (e : X.base.get? b = some o) : b ∉ X.fs := fun hb => by
  have := (ok.funs.mem hb).1
  rw [e] at this; cases this
theorem Inv.bs (I : Inv X pins σ H s) : ∀ b o, X.base.get? b = some o → s.heap.get? b = some o ∧ H b = none := fun b o e =>
  ⟨I.base.keep b o (I.ok.bs b o e).1 (I.ok.bs b o e).2 (I.ok.nofr e) (I.ok.noex b o e), I.base.free b o (I.ok.bs b o e).1 (I.ok.bs b o e).2 (I.ok.noex b o e)⟩
theorem Inv.bk (I : Inv X pins σ H s) : ∀ b o, X.base.get? b = some o → s.heap.get? b = some o := fun b o e => (I.bs b o e).1
theorem Inv.mod (I : Inv X pins σ H s) : Mod X.K X.mg X.base := I.ok.mod
theorem Inv.tb (I : Inv X pins σ H s) : TbOk X.K H := fun P hP => let ⟨ps, e⟩ := I.ok.tb P hP; let ⟨m, e'⟩ := I.base.tbls P ps e; ⟨ps ++ m, e'⟩
theorem Inv.kIn (I : Inv X pins σ H s) : X.K.In s.heap := I.ok.mod.kin.keeps I.bk
theorem Inv.nolimit (I : Inv X pins σ H s) : s.heap.NoLimit := I.ok.mod.nolimit.keeps I.bk
theorem Inv.lt (I : Inv X pins σ H s) : X.env.locals < s.heap.objs.size := let ⟨_, hn, _⟩ := I.loc; hn.lt
theorem Inv.sz (I : Inv X pins σ H s) : X.s_0.heap.objs.size ≤ s.heap.objs.size := Nat.le_trans I.ok.above (Nat.le_of_lt I.lt)
theorem Inv.nofs (I : Inv X pins σ H s) {a : Addr} (h : s.heap.objs.size ≤ a) : a ∉ X.fs := fun hb => by
  obtain ⟨_, o, ho, _⟩ := I.ok.funs.mem hb
  exact absurd (Nat.lt_of_lt_of_le (Heap.lt_size ho) (Nat.le_trans I.sz h)) (Nat.lt_irrefl _)
theorem Inv.cne (I : Inv X pins σ H s) : ∀ x c, X.env.cells.lookup x = some c → c ≠ X.env.locals := fun x c e z => by
  obtain ⟨v, o, ho, hd⟩ := I.cell x c e
  obtain ⟨m, ⟨o', es, ep, ho', hd', _⟩, _⟩ := I.loc
  rw [z, ho'] at ho; cases ho; rw [hd'] at hd; cases hd
theorem Inv.funs (I : Inv X pins σ H s) : s.heap.FunFrames X.base X.outer := by
  have all : ∀ (l : List Env), (∀ b ∈ frs l, b ∈ X.fs) → X.s_0.heap.FunFrames X.base l → s.heap.FunFrames X.base l := by
    intro l
    induction l with
    | nil => intro _ _; trivial
    | cons env r ih =>
      intro hs hl
      obtain ⟨hk, ⟨L, o, hf, hn, ho, hd⟩, hr⟩ := hl
      have hL : L ∈ X.fs := hs L (by unfold frs; rw [List.filterMap_cons, hf]; exact List.mem_cons_self)
      obtain ⟨sl, e⟩ := I.base.slot L o ho (I.ok.frf L hL) hL fun z => I.ok.exfs L z hL
      exact ⟨hk, ⟨L, _, hf, hn, e, hd⟩, ih (fun b hb => hs b (by unfold frs; rw [List.filterMap_cons, hf]; exact List.mem_cons_of_mem _ hb)) hr⟩
  exact all X.outer (fun _ hb => hb) I.ok.funs

/-- the frames that run, for a call -/
theorem Inv.stack (I : Inv X pins σ H s) : s.heap.FunFrames X.base X.stack := by
  rcases I.ok.stk with e | ⟨e, hf⟩
  · rw [e]; exact I.funs
  · rw [e]
    obtain ⟨m, hn, _⟩ := I.loc
    refine .cons (by rw [I.ok.kind]; decide) hf hn ?_ I.funs
    exact Heap.get?_none_of_le (Nat.le_trans I.ok.bsz I.ok.above)
theorem Inv.stkSub (I : Inv X pins σ H s) : ∀ b ∈ frs X.stack, b ∈ X.env.locals :: X.fs := fun b hb => by
  rcases I.ok.stk with e | ⟨e, hf⟩
  · rw [e] at hb; exact List.mem_cons_of_mem _ hb
  · rw [e] at hb
    unfold frs at hb
    rw [List.filterMap_cons, hf] at hb
    exact hb
theorem Inv.stkFree (I : Inv X pins σ H s) : ∀ b ∈ frs X.stack, H b = none := fun b hb => by
  rcases List.mem_cons.mp (I.stkSub b hb) with e | hb
  · rw [e]; exact I.free
  · obtain ⟨_, o, ho, _⟩ := I.ok.funs.mem hb
    exact I.base.free b o ho (I.ok.frf b hb) fun z => I.ok.exfs b z hb

/-- THE STEP: the untracked objects but the frame and the records at ch are kept (the callers' frames up to slots), the frame's map is kept, the new abstract heap is held -/
theorem Inv.step {g' : Array GenState} {t' : Nat} {d' : Drawn} {ch : List Addr} (I : Inv X pins σ H s)
    (hch : ∀ b ∈ ch, (b ∈ X.ex ∨ X.s_0.heap.objs.size ≤ b) ∧ b ≠ X.env.locals ∧ (∀ x c, X.env.cells.lookup x = some c → c ≠ b) ∧ ∀ p ∈ X.pn ++ pins, p.1 ≠ b)
    (keep : ∀ b o, b ≠ X.env.locals → b ∉ X.fs → b ∉ ch → s.heap.get? b = some o → H b = none → h'.get? b = some o)
    (slot : ∀ b o, b ≠ X.env.locals → b ∈ X.fs → b ∉ ch → s.heap.get? b = some o → H b = none → ∃ sl, h'.get? b = some { o with slots := sl }) (free : ∀ b o, b ∉ ch → s.heap.get? b = some o → H b = none → H' b = none)
    (there : ∀ b o, b ∉ ch → s.heap.get? b = some o → ∃ o', h'.get? b = some o')
    (tups : ∀ b xs, H b = some (.tup xs) → H' b = some (.tup xs)) (frzs : ∀ b o u, H b = some (.frz o u) → H' b = some (.frz o u)) (tbls : ∀ b ps, H b = some (.tbl ps) → ∃ more, H' b = some (.tbl (ps ++ more)))
    (ns : ∀ m, s.heap.Ns X.env.locals m → h'.Ns X.env.locals m) (hok : HOk X.prog X.w H' h') (hg : AllBare g') :
    Inv X pins σ H' { s with heap := h', gens := g', drawn := d', toks := t' } := by
  have neL : ∀ b o, X.s_0.heap.get? b = some o → b ≠ X.env.locals := fun b o e => Nat.ne_of_lt (Nat.lt_of_lt_of_le (Heap.lt_size e) I.ok.above)
  have neC : ∀ b o, X.s_0.heap.get? b = some o → b ∉ X.ex → b ∉ ch := fun b o e hx hb => by
    rcases (hch b hb).1 with z | z
    · exact hx z
    · exact absurd (Nat.lt_of_lt_of_le (Heap.lt_size e) z) (Nat.lt_irrefl _)
  have cellK : ∀ x c, X.env.cells.lookup x = some c → ∀ v, s.heap.IsCell c v → h'.IsCell c v := fun x c e v ⟨o, ho, hd⟩ => by
    have nch : c ∉ ch := fun z => (hch c z).2.2.1 x c e rfl
    by_cases hc : c ∈ X.fs
    · obtain ⟨sl, q⟩ := slot c o (I.cne x c e) hc nch ho (I.freeC x c e)
      exact ⟨_, q, hd⟩
    · exact ⟨o, keep c o (I.cne x c e) hc nch ho (I.freeC x c e), hd⟩
  refine ⟨I.ok, I.os, hg, ⟨fun b o e n hb hx => ?_, fun b o e n hb hx => ?_, fun b o e n hx => ?_, fun b o e hx => ?_, fun b xs e => tups b xs (I.base.tups b xs e), fun b o xs e => frzs b o xs (I.base.frzs b o xs e), fun b ps e => ?_⟩, ?_, fun x c e => ?_, ?_, fun x c e => ?_, fun p hp => ?_, hok, I.len⟩
  · exact keep b o (neL b o e) hb (neC b o e hx) (I.base.keep b o e n hb hx) (I.base.free b o e n hx)
  · obtain ⟨sl, e1⟩ := I.base.slot b o e n hb hx
    obtain ⟨sl', e2⟩ := slot b _ (neL b o e) hb (neC b o e hx) e1 (I.base.free b o e n hx)
    exact ⟨sl', e2⟩
  · obtain ⟨o', e1⟩ := I.base.there b o e hx
    exact free b o' (neC b o e hx) e1 (I.base.free b o e n hx)
  · obtain ⟨o', e1⟩ := I.base.there b o e hx
    exact there b o' (neC b o e hx) e1
  · obtain ⟨m1, e1⟩ := I.base.tbls b ps e
    obtain ⟨m2, e2⟩ := tbls b _ e1
    exact ⟨m1 ++ m2, by rw [e2, Array.append_assoc]⟩
  · obtain ⟨m, hn, hl⟩ := I.loc
    refine ⟨m, ns m hn, fun i x v e1 e2 e3 => ?_⟩
    obtain ⟨u, r, l⟩ := hl i x v e1 e2 e3
    refine ⟨u, r, ?_⟩
    rcases l with l | ⟨k, c, e, z⟩
    · exact .inl l
    · exact .inr ⟨k, c, e, cellK x c e _ z⟩
  · obtain ⟨v, z⟩ := I.cell x c e
    exact ⟨v, cellK x c e v z⟩
  · obtain ⟨m, ⟨o, _, _, ho, _⟩, _⟩ := I.loc
    exact free _ o (fun z => (hch _ z).2.1 rfl) ho I.free
  · obtain ⟨v, o, ho, hd⟩ := I.cell x c e
    exact free c o (fun z => (hch c z).2.2.1 x c e rfl) ho (I.freeC x c e)
  · obtain ⟨e, n, ne, nf, d⟩ := I.pin p hp
    have nch : p.1 ∉ ch := fun z => (hch p.1 z).2.2.2 p hp rfl
    exact ⟨keep p.1 p.2 ne nf nch e n, free p.1 p.2 nch e n, ne, nf, d⟩
/-- .. where the frame's own object is kept too -/
theorem Inv.un {t' : Nat} (I : Inv X pins σ H s) (u : Un X.fs [] H H' s.heap h') (hok : HOk X.prog X.w H' h') : Inv X pins σ H' { s with heap := h', toks := t' } := by
  obtain ⟨m, ⟨o, es, ep, ho, r⟩, _⟩ := id I.loc
  obtain ⟨sl, hL⟩ := u.any ho I.free (by simp)
  exact I.step (g' := s.gens) (d' := s.drawn) (ch := []) (fun _ z => nomatch z) (fun b o _ hb _ e n => u.keep b o e n hb (by simp)) (fun b o _ hb _ e n => u.slot b o e n hb (by simp)) (fun b o _ e n => u.free b o e n (by simp)) (fun b o _ e => u.there b o e (by simp)) u.tups u.frzs u.tbls (fun m' hm => by
    obtain ⟨o', es', ep', ho', r'⟩ := hm
    rw [ho] at ho'; cases ho'
    exact ⟨_, es', ep', hL, r'⟩) hok I.bare
/-- behind a call (or a comprehension's block): the slots of this frame may have changed too, the records at ch may have turned -/
theorem Inv.call {g' : Array GenState} {t' : Nat} {d' : Drawn} {ch : List Addr} (I : Inv X pins σ H s) (u : Un (frs X.stack) ch H H' s.heap h') (hok : HOk X.prog X.w H' h') (hg : AllBare g')
    (hch : ∀ b ∈ ch, (b ∈ X.ex ∨ X.s_0.heap.objs.size ≤ b) ∧ b ≠ X.env.locals ∧ (∀ x c, X.env.cells.lookup x = some c → c ≠ b) ∧ ∀ p ∈ X.pn ++ pins, p.1 ≠ b) :
    Inv X pins σ H' { s with heap := h', gens := g', drawn := d', toks := t' } := by
  obtain ⟨m, ⟨o, es, ep, ho, r⟩, _⟩ := id I.loc
  obtain ⟨sl, hL⟩ := u.any ho I.free fun z => (hch _ z).2.1 rfl
  exact I.step (ch := ch) hch (fun b o hL hb hc e n => u.keep b o e n (fun z => (List.mem_cons.mp (I.stkSub b z)).elim hL hb) hc) (fun b o _ _ hc e n => u.any e n hc) (fun b o hc e n => u.free b o e n hc) (fun b o hc e => u.there b o e hc) u.tups u.frzs u.tbls (fun m' hm => by
    obtain ⟨o', es', ep', ho', r'⟩ := hm
    rw [ho] at ho'; cases ho'
    exact ⟨_, es', ep', hL, r'⟩) hok hg
/-- an untracked record of ours (an iterator) has turned -/
theorem Inv.turned {t' : Nat} {it : Addr} (I : Inv X pins σ H s) (k : ∀ b o, b ≠ it → s.heap.get? b = some o → h'.get? b = some o) (hn : H it = none) (hL : it ≠ X.env.locals)
    (h1 : it ∈ X.ex ∨ X.s_0.heap.objs.size ≤ it) (h2 : ∀ x c, X.env.cells.lookup x = some c → c ≠ it) (h3 : ∀ p ∈ X.pn ++ pins, p.1 ≠ it) : Inv X pins σ H { s with heap := h', toks := t' } := by
  have nit : ∀ b u, H b = some u → b ≠ it := fun b u e z => by rw [z, hn] at e; cases e
  refine I.step (g' := s.gens) (d' := s.drawn) (ch := [it]) (fun b hb => ?_) (fun b o _ _ hc e _ => k b o (fun z => hc (by simp [z])) e) (fun b o _ _ hc e _ => ⟨o.slots, k b o (fun z => hc (by simp [z])) e⟩) (fun _ _ _ _ n => n)
    (fun b o hc e => ⟨o, k b o (fun z => hc (by simp [z])) e⟩) (fun _ _ e => e) (fun _ _ _ e => e) (fun b ps e => ⟨#[], by rw [e]; simp⟩) (fun m hm => ?_) (fun b u e => ?_) I.bare
  · have e : b = it := by simpa using hb
    subst e
    exact ⟨h1, hL, h2, h3⟩
  · obtain ⟨o, es, ep, ho, r⟩ := hm
    exact ⟨o, es, ep, k _ o (Ne.symm hL) ho, r⟩
  · refine (I.hok b u e).stay (fun c v hc q => k c v ?_ q) (fun _ q => q) fun _ _ q => q
    rcases hc with z | z
    · rw [z]; exact nit b u e
    · exact nit c _ z
theorem Inv.tok (I : Inv X pins σ H s) (t : Nat) : Inv X pins σ H { s with toks := t } := I.un (h' := s.heap) (t' := t) Un.refl I.hok
/-- all objects kept -/
theorem Inv.kept {t' : Nat} (I : Inv X pins σ H s) (k : ∀ b u, s.heap.get? b = some u → h'.get? b = some u) : Inv X pins σ H { s with heap := h', toks := t' } := I.un (Un.kept k) (I.hok.kept k)
/-- a new object laid and tracked -/
theorem Inv.laid {a : Addr} {o : HO} {t' : Nat} (I : Inv X pins σ H s) (k : ∀ b u, s.heap.get? b = some u → h'.get? b = some u) (hp : s.heap.objs.size ≤ a) (new : ObjOk X.prog X.w (upd H a o) h' a o) :
    Inv X pins σ (upd H a o) { s with heap := h', toks := t' } := I.un (Un.laid k hp (I.hok.fresh hp)) (I.hok.laid k hp new)
/-- an object written -/
theorem Inv.write {x e : Addr} {o : HO} {t' : Nat} (I : Inv X pins σ H s) (mu : Mut (H x)) (he : e = x ∨ H e = some (.own x)) (k : ∀ b u, b ≠ e → s.heap.get? b = some u → h'.get? b = some u) (heo : ∃ u, h'.get? e = some u)
    (new : ObjOk X.prog X.w (upd H x o) h' x o) : Inv X pins σ (upd H x o) { s with heap := h', toks := t' } := I.un (Un.write mu he k heo) (I.hok.write mu he k heo new)
/-- forgetting slots, pins -/
theorem Inv.weak {σ' : List (Option V)} (I : Inv X pins σ H s) (hl : σ'.length = σ.length) (w : ∀ (i : Nat) v, σ'[i]? = some (some v) → σ[i]? = some (some v)) : Inv X pins σ' H s :=
  ⟨I.ok, I.os, I.bare, I.base, let ⟨m, hn, hl'⟩ := I.loc; ⟨m, hn, fun i x v e1 e2 e3 => hl' i x v e1 (w i v e2) e3⟩, I.cell, I.free, I.freeC, I.pin, I.hok, hl.trans I.len⟩
theorem Inv.pins_of {pins' : List (Addr × Obj)} (I : Inv X pins σ H s) (h : ∀ p ∈ pins', s.heap.get? p.1 = some p.2 ∧ H p.1 = none ∧ p.1 ≠ X.env.locals ∧ p.1 ∉ X.fs ∧ ∀ v, p.2.data ≠ .cell v) : Inv X pins' σ H s :=
  ⟨I.ok, I.os, I.bare, I.base, I.loc, I.cell, I.free, I.freeC, fun p hp => (List.mem_append.mp hp).elim (fun z => I.pin p (List.mem_append_left _ z)) (h p), I.hok, I.len⟩

theorem nodup_ix {N : List Str} (hN : N.Nodup) {i j : Nat} {x : Str} (a : N[i]? = some x) (b : N[j]? = some x) : i = j := by
  obtain ⟨h1, e1⟩ := List.getElem?_eq_some_iff.mp a
  obtain ⟨h2, e2⟩ := List.getElem?_eq_some_iff.mp b
  exact (List.getElem_inj hN).mp (e1.trans e2.symm)

/-- a name is stored; what changed -/
theorem store_ok2 {M : Model} {A : Around} {E : Value → Shared → Prop} {i : Nat} {x : Str} {v : V} {u : Value} {Q : Unit → Shared → Prop} (I : Inv X pins σ H s) (hN : X.N.Nodup) (hi : X.N[i]? = some x) (hx : Loc X.env.scope x) (r : RelV v u)
    (h : ∀ s', Inv X pins (σ.set i (some v)) H s' → (∃ a, Heap.SameBut a s.heap s'.heap ∧ (a = X.env.locals ∨ X.env.cells.lookup x = some a)) → Q () s') (hf : X.fn x = true ∨ X.env.scope.names.lookup x = some .local := by first | exact .inl rfl | exact .inr rfl | assumption) : wpAny M A (storeName X.env x u) Q E s := by
  obtain ⟨m, hn, hl⟩ := id I.loc
  have hcls : (X.env.scope.kind == .class || (X.env.scope.kind == .module && X.env.locals != X.env.globals)) = false := by rw [I.ok.kind]; rfl
  have hiσ : i < σ.length := by rw [I.len]; exact (List.getElem?_eq_some_iff.mp hi).1
  have cne := I.cne
  have tracked : ∀ {a : Addr} {h' : Heap}, (∃ o, s.heap.get? a = some o ∧ H a = none) → Heap.SameBut a s.heap h' → HOk X.prog X.w H h' := fun {a h'} ha hs b ob e => by
    obtain ⟨_, _, hfree⟩ := ha
    refine (I.hok b ob e).stay (fun c w' hc q => (hs.2 c ?_).trans q) (fun _ q => q) fun _ _ q => q
    rintro rfl
    rcases hc with rfl | hc
    · rw [hfree] at e; cases e
    · rw [hfree] at hc; cases hc
  rcases hx with hk | hk
  · refine wpAny_storeName_local hk hn (fun h' hn' hs => ?_) hcls
    obtain ⟨oL, _, _, hoL, _⟩ := id hn
    refine h _ ⟨I.ok, I.os, I.bare, ⟨fun b o e n hb hx => ?_, fun b o e n hb hx => ?_, I.base.free, fun b o e hx => ?_, I.base.tups, I.base.frzs, I.base.tbls⟩, ⟨_, hn', fun j y v' e1 e2 e3 => ?_⟩, fun y c e => ?_, I.free, I.freeC, fun p hp => ?_, tracked ⟨oL, hoL, I.free⟩ hs, by simpa using I.len⟩ ⟨_, hs, .inl rfl⟩
    · exact (hs.2 b (Nat.ne_of_lt (Nat.lt_of_lt_of_le (Heap.lt_size e) I.ok.above))).trans (I.base.keep b o e n hb hx)
    · obtain ⟨sl, e1⟩ := I.base.slot b o e n hb hx
      exact ⟨sl, (hs.2 b (Nat.ne_of_lt (Nat.lt_of_lt_of_le (Heap.lt_size e) I.ok.above))).trans e1⟩
    · obtain ⟨o', e1⟩ := I.base.there b o e hx
      exact ⟨o', (hs.2 b (Nat.ne_of_lt (Nat.lt_of_lt_of_le (Heap.lt_size e) I.ok.above))).trans e1⟩
    · by_cases hj : j = i
      · subst hj
        rw [hi] at e1; cases e1
        rw [List.getElem?_set_self hiσ] at e2
        cases e2
        exact ⟨u, r, .inl ⟨hk, by simp⟩⟩
      · rw [List.getElem?_set_ne (Ne.symm hj)] at e2
        obtain ⟨u', r', q⟩ := hl j y v' e1 e2 e3
        refine ⟨u', r', ?_⟩
        rcases q with ⟨k, e⟩ | ⟨k, c, e, z⟩
        · refine .inl ⟨k, ?_⟩
          have : y ≠ x := fun e => hj (nodup_ix hN e1 (e ▸ hi))
          simp [this, e]
        · exact .inr ⟨k, c, e, z.sameBut hs (cne y c e)⟩
    · obtain ⟨w', z⟩ := I.cell y c e
      exact ⟨w', z.sameBut hs (cne y c e)⟩
    · obtain ⟨e, n, ne, nf, d⟩ := I.pin p hp
      exact ⟨(hs.2 p.1 ne).trans e, n, ne, nf, d⟩
  · have hfn : X.fn x = true := by
      rcases hf with z | z
      · exact z
      · rw [z] at hk; cases hk
    obtain ⟨c, hc⟩ := I.ok.has x (.inl hk)
    obtain ⟨w', z⟩ := I.cell x c hc
    refine wpAny_storeName_cell I.ok.kind hk hc z (fun h' hc' hs => ?_)
    obtain ⟨oc, hoc, hocd⟩ := id z
    refine h { s with heap := h' } ⟨I.ok, I.os, I.bare, ⟨fun b o e n hb hx => ?_, fun b o e n hb hx => ?_, I.base.free, fun b o e hx => ?_, I.base.tups, I.base.frzs, I.base.tbls⟩, ⟨m, hn.sameBut hs (Ne.symm (cne x c hc)), fun j y v' e1 e2 e3 => ?_⟩, fun y c' e => ?_, I.free, I.freeC, fun p hp => ?_, tracked ⟨oc, hoc, I.freeC x c hc⟩ hs, by simpa using I.len⟩ ⟨c, hs, .inr hc⟩
    · exact (hs.2 b (Nat.ne_of_lt (Nat.lt_of_lt_of_le (Heap.lt_size e) (I.ok.cab x c hfn hc)))).trans (I.base.keep b o e n hb hx)
    · obtain ⟨sl, e1⟩ := I.base.slot b o e n hb hx
      exact ⟨sl, (hs.2 b (Nat.ne_of_lt (Nat.lt_of_lt_of_le (Heap.lt_size e) (I.ok.cab x c hfn hc)))).trans e1⟩
    · obtain ⟨o', e1⟩ := I.base.there b o e hx
      exact ⟨o', (hs.2 b (Nat.ne_of_lt (Nat.lt_of_lt_of_le (Heap.lt_size e) (I.ok.cab x c hfn hc)))).trans e1⟩
    · by_cases hj : j = i
      · subst hj
        rw [hi] at e1; cases e1
        rw [List.getElem?_set_self hiσ] at e2
        cases e2
        exact ⟨u, r, .inr ⟨.inl hk, c, hc, hc'⟩⟩
      · rw [List.getElem?_set_ne (Ne.symm hj)] at e2
        obtain ⟨u', r', q⟩ := hl j y v' e1 e2 e3
        refine ⟨u', r', ?_⟩
        rcases q with q | ⟨k, c', e, z'⟩
        · exact .inl q
        · refine .inr ⟨k, c', e, z'.sameBut hs ?_⟩
          rintro rfl
          exact hj (nodup_ix hN e1 (I.ok.inj _ _ _ e hc ▸ hi))
    · by_cases hcc : c' = c
      · subst hcc; exact ⟨_, hc'⟩
      · obtain ⟨w2, z2⟩ := I.cell y c' e
        exact ⟨w2, z2.sameBut hs hcc⟩
    · obtain ⟨e, n, ne, nf, d⟩ := I.pin p hp
      refine ⟨(hs.2 p.1 ?_).trans e, n, ne, nf, d⟩
      intro q
      rw [q, hoc] at e
      have q' : oc = p.2 := Option.some.inj e
      exact d w' (by rw [← q']; exact hocd)
theorem store_ok {M : Model} {A : Around} {E : Value → Shared → Prop} {i : Nat} {x : Str} {v : V} {u : Value} {Q : Unit → Shared → Prop} (I : Inv X pins σ H s) (hN : X.N.Nodup) (hi : X.N[i]? = some x) (hx : Loc X.env.scope x) (r : RelV v u)
    (h : ∀ s', Inv X pins (σ.set i (some v)) H s' → Q () s') (hf : X.fn x = true ∨ X.env.scope.names.lookup x = some .local := by first | exact .inl rfl | exact .inr rfl | assumption) : wpAny M A (storeName X.env x u) Q E s :=
  store_ok2 I hN hi hx r (fun s' I' _ => h s' I') hf
/-- behind a call or a block, the state as it is -/
theorem Inv.call' {s' : Shared} {ch : List Addr} (I : Inv X pins σ H s) (ho : s'.os = s.os) (u : Un (frs X.stack) ch H H' s.heap s'.heap) (hok : HOk X.prog X.w H' s'.heap) (hg : AllBare s'.gens)
    (hch : ∀ b ∈ ch, (b ∈ X.ex ∨ X.s_0.heap.objs.size ≤ b) ∧ b ≠ X.env.locals ∧ (∀ x c, X.env.cells.lookup x = some c → c ≠ b) ∧ ∀ p ∈ X.pn ++ pins, p.1 ≠ b) : Inv X pins σ H' s' := by
  obtain ⟨h', g', d', t', o'⟩ := s'
  have e : o' = s.os := ho
  subst e
  exact I.call (g' := g') (t' := t') (d' := d') u hok hg hch
end

/-! ### the judgements -/
/-- an exception: its class, its own dict's address (where it has one), the abstract heap behind it -/
abbrev XK := Value → Option Addr → Hp → Prop
abbrev St := List (Option V)
abbrev VK := V → Hp → Prop
/-- an expression's reading; a test's; an argument list's -/
abbrev TE := St → Hp → VK → Prop
abbrev TT := St → Hp → (Bool → Hp → Prop) → Prop
abbrev TA := St → Hp → (List V → Hp → Prop) → Prop
/-- what is wanted behind a statement -/
structure Ends where
  nx : St → Hp → Prop
  rt : VK
  bk : St → Hp → Prop := fun _ _ => False
  ct : St → Hp → Prop := fun _ _ => False
abbrev TS := Ends → St → Hp → Prop

def EP (X : Cx) (pins : List (Addr × Obj)) (σ : St) (Q : VK) (u : Value) (s' : Shared) : Prop := ∃ v H', Inv X pins σ H' s' ∧ RelV v u ∧ Q v H'
def TP (X : Cx) (pins : List (Addr × Obj)) (σ : St) (Q : Bool → Hp → Prop) (b : Bool) (s' : Shared) : Prop := ∃ H', Inv X pins σ H' s' ∧ Q b H'
def AP (X : Cx) (pins : List (Addr × Obj)) (σ : St) (Q : List V → Hp → Prop) (us : List Value) (s' : Shared) : Prop := ∃ vs H', Inv X pins σ H' s' ∧ Vals vs us ∧ Q vs H'
def SP (X : Cx) (pins : List (Addr × Obj)) (D : Ends) (f : Flow) (s' : Shared) : Prop :=
  match f with
  | .next => ∃ σ' H', Inv X pins σ' H' s' ∧ D.nx σ' H'
  | .brk => ∃ σ' H', Inv X pins σ' H' s' ∧ D.bk σ' H'
  | .cont => ∃ σ' H', Inv X pins σ' H' s' ∧ D.ct σ' H'
  | .ret u => ∃ v σ' H', Inv X pins σ' H' s' ∧ RelV v u ∧ D.rt v H'

def PE (X : Cx) (e : Expr) (t : TE) : Prop :=
  ∀ (pins : List (Addr × Obj)) (s : Shared) (σ : St) (H : Hp) (Q : VK), Inv X pins σ H s → t σ H Q → wpAny (model X.prog X.w) X.A (eval e X.env) (EP X pins σ Q) X.xe s
def PT (X : Cx) (e : Expr) (t : TT) : Prop :=
  ∀ (pins : List (Addr × Obj)) (s : Shared) (σ : St) (H : Hp) (Q : Bool → Hp → Prop), Inv X pins σ H s → t σ H Q → wpAny (model X.prog X.w) X.A (isTrue e X.env (eval e X.env)) (TP X pins σ Q) X.xe s
/-- a test whatever its 'whole' is (and, or) -/
def PW (X : Cx) (e : Expr) (t : TT) : Prop :=
  ∀ (whole : Sem Value) (pins : List (Addr × Obj)) (s : Shared) (σ : St) (H : Hp) (Q : Bool → Hp → Prop), Inv X pins σ H s → t σ H Q → wpAny (model X.prog X.w) X.A (isTrue e X.env whole) (TP X pins σ Q) X.xe s
theorem PW.pt {X : Cx} {e : Expr} {t : TT} (h : PW X e t) : PT X e t := h _
/-- an argument list (no star), from the left -/
def PA (X : Cx) (es : List Expr) (t : TA) : Prop :=
  ∀ (pos : Pos) (pins : List (Addr × Obj)) (s : Shared) (σ : St) (H : Hp) (Q : List V → Hp → Prop), Inv X pins σ H s → t σ H Q → wpAny (model X.prog X.w) X.A (spliced (backTo pos (starEach es X.env))) (AP X pins σ Q) X.xe s
def PS (X : Cx) (st : Stmt) (t : TS) : Prop :=
  ∀ (pins : List (Addr × Obj)) (s : Shared) (σ : St) (H : Hp) (D : Ends), Inv X pins σ H s → t D σ H → wpAny (model X.prog X.w) X.A (exec st X.env) (SP X pins D) X.xe s
def PSs (X : Cx) (st : List Stmt) (t : TS) : Prop :=
  ∀ (pins : List (Addr × Obj)) (s : Shared) (σ : St) (H : Hp) (D : Ends), Inv X pins σ H s → t D σ H → wpAny (model X.prog X.w) X.A (execs st X.env) (SP X pins D) X.xe s
/-- weaken the end -/
theorem thn {α : Type} {t : Sem α} {Q Q' : α → Shared → Prop} {M : Model} {A : Around} {E : Value → Shared → Prop} {s : Shared} (h : wpAny M A t Q E s) (hQ : ∀ a s, Q a s → Q' a s) : wpAny M A t Q' E s := wpAny_mono h hQ fun _ _ x => x
end L2

namespace L2
open PySem PySem.Spec PyProof.Rows
section
variable {X : Cx}

/-! ### names and constants -/
def tVar (i : Nat) : TE := fun σ H Q => ∃ v, σ[i]? = some (some v) ∧ Q v H
def tC (v : V) : TE := fun _ H Q => Q v H
theorem pe_var {i : Nat} {x : Str} {pos : Pos} (hN : X.N[i]? = some x) (hv : Vis X.env.scope x) (hd : (x == ("__debug__" : Str)) = false := by decide) (hcd : (x == ("__classdict__" : Str)) = false := by decide) : PE X (.Name x pos) (tVar i) := by
  intro pins s σ H Q I h
  obtain ⟨v, e, h⟩ := h
  obtain ⟨m, hn, hl⟩ := I.loc
  obtain ⟨u, r, l⟩ := hl i x v hN e hv
  have fin : EP X pins σ Q u s := ⟨v, H, I, r, h⟩
  rcases l with ⟨hk, hm⟩ | ⟨hk, c, hc, hcell⟩
  · exact wpAny_Name (wpAny_loadName_local I.ok.kind hk hn hm fin) hd
  · rcases hk with hk | hk
    · exact wpAny_Name (wpAny_loadName_cell I.ok.kind hk hc hcell fin) hd
    · exact wpAny_Name (wpAny_loadName_free I.ok.kind hk hc hcell fin hcd) hd
theorem pe_int {i j pos} : PE X (.Constant (.int i) j pos) (tC (.int i)) := fun _ _ _ H _ I h => wpAny_Constant_int ⟨.int i, H, I.tok _, ⟨_, rfl⟩, h⟩
theorem pe_bl {b j pos} : PE X (.Constant (.bool b) j pos) (tC (.bl b)) := fun _ _ _ H _ I h => Constant_bool ⟨.bl b, H, I, rfl, h⟩
theorem pe_str {x j pos} : PE X (.Constant (.str x) j pos) (tC (.str x)) := fun _ _ _ H _ I h => Calls.Constant_str ⟨.str x, H, I.tok _, ⟨_, rfl⟩, h⟩

/-- a global name of the def -/
def Gl (X : Cx) (x : Str) : Prop := X.env.kindOf x = some .globalImplicit
theorem ld_glob {E : Value → Shared → Prop} {pins : List (Addr × Obj)} {s : Shared} {σ : St} {H : Hp} {x : Str} {u : Value} {pos : Pos} {Q : Value → Shared → Prop} (I : Inv X pins σ H s) (hg : Gl X x) (hm : X.mg x = some u) (h : Q u s)
    (hd : (x == ("__debug__" : Str)) = false := by decide) : wpAny (model X.prog X.w) X.A (eval (.Name x pos) X.env) Q E s :=
  Calls.Name_function_global I.ok.kind hg (Calls.loadGlobal_global (by rw [I.ok.glob]; exact I.mod.glob.keeps I.bk) hm h) hd
theorem ld_blt {E : Value → Shared → Prop} {pins : List (Addr × Obj)} {s : Shared} {σ : St} {H : Hp} {x : Str} {u : Value} {pos : Pos} {Q : Value → Shared → Prop} (I : Inv X pins σ H s) (hg : Gl X x) (hm : X.mg x = none) (hv : bootBuiltins x = some u) (h : Q u s)
    (hn : x ≠ "__name__" := by decide) (hd : (x == ("__debug__" : Str)) = false := by decide) : wpAny (model X.prog X.w) X.A (eval (.Name x pos) X.env) Q E s := by
  obtain ⟨mb, h1, h2⟩ := I.mod.blt
  exact Calls.Name_function_global I.ok.kind hg (Calls.loadGlobal_builtin (by rw [I.ok.glob]; exact I.mod.glob.keeps I.bk) hm (by rw [I.ok.blt]; exact h1.keeps I.bk) ((h2 x hn).trans hv) h) hd
/-- a module's constant, a class, a function, as a value -/
theorem pe_glob {x : Str} {v : V} {u : Value} {pos : Pos} (hg : Gl X x) (hm : X.mg x = some u) (r : RelV v u) (hd : (x == ("__debug__" : Str)) = false := by decide) : PE X (.Name x pos) (tC v) :=
  fun _ _ _ H _ I h => ld_glob I hg hm ⟨v, H, I, r, h⟩ hd
theorem pe_bltn {x : Str} {v : V} {u : Value} {pos : Pos} (hg : Gl X x) (hm : X.mg x = none) (hv : bootBuiltins x = some u) (r : RelV v u) (hn : x ≠ "__name__" := by decide) (hd : (x == ("__debug__" : Str)) = false := by decide) : PE X (.Name x pos) (tC v) :=
  fun _ _ _ H _ I h => ld_blt I hg hm hv ⟨v, H, I, r, h⟩ hn hd

/-! ### arithmetic -/
/-- two ints -/
def t2I (ta tb : TE) (k : Int → Int → Hp → Prop) : St → Hp → Prop := fun σ H => ta σ H fun x H1 => tb σ H1 fun y H2 => ∃ i j, x = .int i ∧ y = .int j ∧ k i j H2
def tAdd (ta tb : TE) : TE := fun σ H Q => t2I ta tb (fun i j H2 => Q (.int (i + j)) H2) σ H
def tSub (ta tb : TE) : TE := fun σ H Q => t2I ta tb (fun i j H2 => Q (.int (i - j)) H2) σ H
/-- the left factor below 2^64 -/
def tMul (ta tb : TE) : TE := fun σ H Q => t2I ta tb (fun i j H2 => (-(2 ^ 64) < i ∧ i < 2 ^ 64) ∧ Q (.int (i * j)) H2) σ H
variable {a b : Expr} {ta tb : TE} {pos : Pos}
/-! ### comparisons -/
def PC (X : Cx) (op : CmpOp) (a b : Expr) (t : TE) : Prop :=
  ∀ (pins : List (Addr × Obj)) (s : Shared) (σ : St) (H : Hp) (Q : VK), Inv X pins σ H s → t σ H Q →
    wpAny (model X.prog X.w) X.A (eval a X.env) (fun v s₁ => wpAny (model X.prog X.w) X.A (eval b X.env) (fun u s₂ => wpAny (model X.prog X.w) X.A (compareOp op v u) (EP X pins σ Q) X.xe s₂) X.xe s₁) X.xe s
def tCmp (p : Int → Int → Bool) (ta tb : TE) : TE := fun σ H Q => t2I ta tb (fun i j H2 => Q (.bl (p i j)) H2) σ H
abbrev tLt : TE → TE → TE := tCmp fun i j => decide (i < j)
abbrev tLe : TE → TE → TE := tCmp fun i j => decide (i ≤ j)
abbrev tGt : TE → TE → TE := tCmp fun i j => decide (j < i)
abbrev tGe : TE → TE → TE := tCmp fun i j => decide (j ≤ i)
abbrev tEqI : TE → TE → TE := tCmp fun i j => decide (i = j)
abbrev tNeI : TE → TE → TE := tCmp fun i j => !decide (i = j)
/-- is None -/
def tIsN (ta : TE) : TE := fun σ H Q => ta σ H fun x H1 => Q (.bl (decide (x = .non))) H1
def tNotN (ta : TE) : TE := fun σ H Q => ta σ H fun x H1 => Q (.bl (!decide (x = .non))) H1
/-- a comparison as a value, as a test -/
def tB (t : TE) : TT := fun σ H Q => t σ H fun x H1 => ∃ c, x = .bl c ∧ Q c H1
/-! ### and, or, not -/
variable {tA tB' : TT} {rest : List Expr}
def tAnd (t u : TT) : TT := fun σ H Q => t σ H fun c H1 => if c = true then u σ H1 Q else Q false H1
def tOr (t u : TT) : TT := fun σ H Q => t σ H fun c H1 => if c = true then Q true H1 else u σ H1 Q
def tNot (t : TT) : TT := fun σ H Q => t σ H fun c H1 => Q (!c) H1
theorem pw_and1 (ha : PT X a tA) : PW X (.BoolOp .And [a] pos) tA := by
  intro wh pins s σ H Q I h
  refine isTrue_and (thn (ha pins s σ H Q I h) fun c s1 e => ?_)
  cases c with
  | true => exact isTrue_and_nil e
  | false => exact e
theorem pw_or1 (ha : PT X a tA) : PW X (.BoolOp .Or [a] pos) tA := by
  intro wh pins s σ H Q I h
  refine isTrue_or (thn (ha pins s σ H Q I h) fun c s1 e => ?_)
  cases c with
  | false => exact isTrue_or_nil e
  | true => exact e
theorem pw_and (ha : PT X a tA) (hb : PW X (.BoolOp .And (b :: rest) pos) tB') : PW X (.BoolOp .And (a :: b :: rest) pos) (tAnd tA tB') := by
  intro wh pins s σ H Q I h
  refine isTrue_and (thn (ha pins s σ H _ I h) fun c s1 ⟨H1, I1, q1⟩ => ?_)
  cases c with
  | true => exact hb wh pins s1 σ H1 Q I1 q1
  | false => exact ⟨H1, I1, q1⟩
theorem pw_or (ha : PT X a tA) (hb : PW X (.BoolOp .Or (b :: rest) pos) tB') : PW X (.BoolOp .Or (a :: b :: rest) pos) (tOr tA tB') := by
  intro wh pins s σ H Q I h
  refine isTrue_or (thn (ha pins s σ H _ I h) fun c s1 ⟨H1, I1, q1⟩ => ?_)
  cases c with
  | true => exact ⟨H1, I1, q1⟩
  | false => exact hb wh pins s1 σ H1 Q I1 q1
theorem pt_not (ha : PT X a tA) : PT X (.UnaryOp .Not a pos) (tNot tA) := by
  intro pins s σ H Q I h
  exact isTrue_not (ha pins s σ H (fun c H1 => Q (!c) H1) I h)
/-- .. as values (bools) -/
def tAndV (ta tb : TE) : TE := fun σ H Q => ta σ H fun x H1 => ∃ c, x = .bl c ∧ if c = true then tb σ H1 Q else Q (.bl false) H1
def tOrV (ta tb : TE) : TE := fun σ H Q => ta σ H fun x H1 => ∃ c, x = .bl c ∧ if c = true then Q (.bl true) H1 else tb σ H1 Q
def tNotV (ta : TE) : TE := fun σ H Q => ta σ H fun x H1 => ∃ c, x = .bl c ∧ Q (.bl (!c)) H1
/-- a if t else b -/
def tIf (t : TT) (ta tb : TE) : TE := fun σ H Q => t σ H fun c H1 => if c = true then ta σ H1 Q else tb σ H1 Q
theorem pe_ifExp {c : Expr} (hc : PT X c tA) (ha : PE X a ta) (hb : PE X b tb) : PE X (.IfExp c a b pos) (tIf tA ta tb) := by
  intro pins s σ H Q I h
  refine wpAny_IfExp (thn (hc pins s σ H _ I h) fun d s1 ⟨H1, I1, q1⟩ => ?_)
  cases d with
  | true => exact ha pins s1 σ H1 Q I1 q1
  | false => exact hb pins s1 σ H1 Q I1 q1
end
end L2

namespace L2
open PySem PySem.Spec PyProof.Rows

/-! ### a list, a tuple that is read: tracked, frozen, or an object of the module -/
def SqL (K : PySem.W.Frag) (H : Hp) (a : Addr) (xs : List V) : Prop :=
  Rd H a (.lst xs) ∨
    ∃ (o : Obj) (its : Array Value) (n : Nat), K.lookup a = some o ∧ o.cls = .type "list" ∧ o.dict = none ∧ o.data = .seq its n ∧ its.size ≤ sizeLine ∧ Vals xs its.toList
def SqT (K : PySem.W.Frag) (H : Hp) (a : Addr) (xs : List V) : Prop :=
  Rd H a (.tup xs) ∨
    ∃ (o : Obj) (its : Array Value) (n : Nat), K.lookup a = some o ∧ (o.cls = .type "tuple" ∧ o.dict = none) ∧ o.data = .seq its n ∧ its.size ≤ sizeLine ∧ Vals xs its.toList
def absV : Value → Option V
  | .none => some .non
  | .bool b => some (.bl b)
  | .int i _ => some (.int i)
  | .str x _ => some (.str x)
  | .bytes b _ => some (.byt b)
  | .float b _ => some (.flt b)
  | .ref a => some (.ref a)
  | .type n => some (.ty n)
  | _ => none
theorem RelV.abs {x : V} {u : Value} (r : RelV x u) : absV u = some x := by
  cases x with
  | non => cases r; rfl
  | bl _ => cases r; rfl
  | int _ => obtain ⟨t, rfl⟩ := r; rfl
  | str _ => obtain ⟨t, rfl⟩ := r; rfl
  | byt _ => obtain ⟨t, rfl⟩ := r; rfl
  | flt _ => obtain ⟨t, rfl⟩ := r; rfl
  | ref _ => cases r; rfl
  | ty _ => cases r; rfl
theorem RelV.inj {x y : V} {u : Value} (r : RelV x u) (q : RelV y u) : x = y := Option.some.inj (r.abs.symm.trans q.abs)
theorem Vals.inj : ∀ {xs ys : List V} {us : List Value}, Vals xs us → Vals ys us → xs = ys
  | _, _, _, .nil, .nil => rfl
  | _, _, _, .cons r t, .cons r' t' => by rw [r.inj r', Vals.inj t t']
section
variable {X : Cx} {pins : List (Addr × Obj)} {σ : St} {H : Hp} {s : Shared} {a : Addr} {xs ys : List V}
theorem SqL.of {K : PySem.W.Frag} (h : H a = some (.lst xs)) : SqL K H a xs := .inl (.inl h)
theorem SqT.of {K : PySem.W.Frag} (h : H a = some (.tup xs)) : SqT K H a xs := .inl (.inl h)
theorem Inv.list (I : Inv X pins σ H s) (h : SqL X.K H a xs) : ∃ its : List Value, Vals xs its ∧ PlainL s.heap a its.toArray ∧ xs.length ≤ sizeLine := by
  rcases h with h | ⟨o, its, n, hk, hc, hd, hs, hz, r⟩
  · obtain ⟨z, its, n, r, e⟩ := h.ok I.hok
    exact ⟨its, r, ⟨_, n, e, rfl, rfl, rfl⟩, z⟩
  · refine ⟨its.toList, r, ⟨o, n, I.kIn a o hk, hc, hd, by simpa using hs⟩, ?_⟩
    have e := r.length
    simp only [Array.length_toList] at e
    omega
theorem Inv.tuple (I : Inv X pins σ H s) (h : SqT X.K H a xs) : ∃ its : List Value, Vals xs its ∧ IsTup s.heap a its.toArray ∧ xs.length ≤ sizeLine := by
  rcases h with h | ⟨o, its, n, hk, ⟨hc, _⟩, hs, hz, r⟩
  · obtain ⟨z, its, r, p⟩ := h.ok I.hok
    exact ⟨its, r, p, z.1⟩
  · refine ⟨its.toList, r, ⟨o, I.kIn a o hk, hc, n, by simpa using hs⟩, ?_⟩
    have e := r.length
    simp only [Array.length_toList] at e
    omega
theorem Inv.list_inj (I : Inv X pins σ H s) (h : SqL X.K H a xs) (h' : SqL X.K H a ys) : xs = ys := by
  obtain ⟨its, r, ⟨o, n, e, _, _, d⟩, _⟩ := I.list h
  obtain ⟨its', r', ⟨o', n', e', _, _, d'⟩, _⟩ := I.list h'
  rw [e] at e'; cases e'
  rw [d] at d'
  injection d' with d1 _
  have : its = its' := by simpa using congrArg Array.toList d1
  subst this
  exact r.inj r'
theorem Inv.tuple_inj (I : Inv X pins σ H s) (h : SqT X.K H a xs) (h' : SqT X.K H a ys) : xs = ys := by
  obtain ⟨its, r, ⟨o, e, _, n, d⟩, _⟩ := I.tuple h
  obtain ⟨its', r', ⟨o', e', _, n', d'⟩, _⟩ := I.tuple h'
  rw [e] at e'; cases e'
  rw [d] at d'
  injection d' with d1 _
  have : its = its' := by simpa using congrArg Array.toList d1
  subst this
  exact r.inj r'
end

/-! ### another wish about exceptions -/
abbrev Cx.wish (X : Cx) (E : Value → Shared → Prop) : Cx := { X with xe := E }
/-- no exception leaves -/
abbrev Cx.nox (X : Cx) : Cx := X.wish fun _ _ => False
theorem Cx.Ok.wish {X : Cx} (ok : X.Ok) (E : Value → Shared → Prop) : (X.wish E).Ok :=
  ⟨ok.mod, ok.kind, ok.glob, ok.blt, ok.above, ok.inj, ok.has, ok.cab, ok.hd, ok.frames, ok.stk, ok.exf, ok.bs, ok.bsz, ok.noex, ok.exfs, ok.funs, ok.frf, ok.tb⟩
theorem Cx.Ok.unwish {X : Cx} {E : Value → Shared → Prop} (ok : (X.wish E).Ok) : X.Ok :=
  ⟨ok.mod, ok.kind, ok.glob, ok.blt, ok.above, ok.inj, ok.has, ok.cab, ok.hd, ok.frames, ok.stk, ok.exf, ok.bs, ok.bsz, ok.noex, ok.exfs, ok.funs, ok.frf, ok.tb⟩
section
variable {X : Cx} {pins : List (Addr × Obj)} {σ : St} {H : Hp} {s : Shared} {E : Value → Shared → Prop}
theorem Inv.wish (I : Inv X pins σ H s) (E : Value → Shared → Prop) : Inv (X.wish E) pins σ H s := ⟨I.ok.wish E, I.os, I.bare, I.base, I.loc, I.cell, I.free, I.freeC, I.pin, I.hok, I.len⟩
theorem Inv.unwish (I : Inv (X.wish E) pins σ H s) : Inv X pins σ H s := ⟨I.ok.unwish, I.os, I.bare, I.base, I.loc, I.cell, I.free, I.freeC, I.pin, I.hok, I.len⟩
theorem SP.unwish {D : Ends} {f : Flow} {s' : Shared} (h : SP (X.wish E) pins D f s') : SP X pins D f s' := by
  cases f with
  | next => obtain ⟨σ', H', I, q⟩ := h; exact ⟨σ', H', I.unwish, q⟩
  | brk => obtain ⟨σ', H', I, q⟩ := h; exact ⟨σ', H', I.unwish, q⟩
  | cont => obtain ⟨σ', H', I, q⟩ := h; exact ⟨σ', H', I.unwish, q⟩
  | ret u => obtain ⟨v, σ', H', I, r, q⟩ := h; exact ⟨v, σ', H', I.unwish, r, q⟩
theorem PE.nox {e : Expr} {t : TE} (h : PE X.nox e t) : PE X e t := fun pins s σ H Q I hw =>
  wpAny_mono (h pins s σ H Q (I.wish _) hw) (fun _ _ ⟨v, H', I', r, q⟩ => ⟨v, H', I'.unwish, r, q⟩) fun _ _ z => False.elim z
theorem PT.nox {e : Expr} {t : TT} (h : PT X.nox e t) : PT X e t := fun pins s σ H Q I hw =>
  wpAny_mono (h pins s σ H Q (I.wish _) hw) (fun _ _ ⟨H', I', q⟩ => ⟨H', I'.unwish, q⟩) fun _ _ z => False.elim z
theorem PSs.nox {st : List Stmt} {t : TS} (h : PSs X.nox st t) : PSs X st t := fun pins s σ H D I hw =>
  wpAny_mono (h pins s σ H D (I.wish _) hw) (fun _ _ q => q.unwish) fun _ _ z => False.elim z
end

/-! ### blocks and small statements -/
section
variable {X : Cx} {st : Stmt} {rest : List Stmt} {t u : TS} {e : Expr} {te : TE} {pos : Pos}
def tNext : TS := fun D σ H => D.nx σ H
def tSeq (t u : TS) : TS := fun D σ H => t { D with nx := u D } σ H
theorem pss_nil : PSs X [] tNext := fun _ _ σ H _ I h => wpAny_execs_nil ⟨σ, H, I, h⟩
theorem pss_cons (h1 : PS X st t) (h2 : PSs X rest u) : PSs X (st :: rest) (tSeq t u) := by
  intro pins s σ H D I h
  refine wpAny_execs_cons (thn (h1 pins s σ H { D with nx := u D } I h) fun f s1 q => ?_)
  cases f with
  | next =>
    obtain ⟨σ', H', I', q⟩ := q
    exact h2 pins s1 σ' H' D I' q
  | ret v => exact q
  | brk => exact q
  | cont => exact q
theorem pss_one (h1 : PS X st t) : PSs X [st] t := by
  intro pins s σ H D I h
  refine wpAny_execs_cons (thn (h1 pins s σ H D I h) fun f s1 q => ?_)
  cases f with
  | next => exact wpAny_execs_nil q
  | ret v => exact q
  | brk => exact q
  | cont => exact q
def tBreak : TS := fun D σ H => D.bk σ H
def tCont : TS := fun D σ H => D.ct σ H
/-- an expression whose value is dropped -/
def tDrop (te : TE) : TS := fun D σ H => te σ H fun _ H1 => D.nx σ H1
def tRet (te : TE) : TS := fun D σ H => te σ H D.rt
theorem ps_ret (he : PE X e te) : PS X (.Return (some e) pos) (tRet te) := by
  intro pins s σ H D I h
  exact wpAny_Return_some (thn (he pins s σ H _ I h) fun v s1 ⟨x, H1, I1, r1, q1⟩ => ⟨x, σ, H1, I1, r1, q1⟩)
def tRetN : TS := fun D _ H => D.rt .non H
def tIfS (c : TT) (t u : TS) : TS := fun D σ H => c σ H fun b H1 => if b = true then t D σ H1 else u D σ H1
theorem ps_if {c : Expr} {a b : List Stmt} {tc : TT} (hc : PT X c tc) (ha : PSs X a t) (hb : PSs X b u) : PS X (.If c a b pos) (tIfS tc t u) := by
  intro pins s σ H D I h
  refine wpAny_If (thn (hc pins s σ H _ I h) fun d s1 ⟨H1, I1, q1⟩ => ?_)
  cases d with
  | true => exact ha pins s1 σ H1 D I1 q1
  | false => exact hb pins s1 σ H1 D I1 q1
/-- code that the proof never comes to -/
def tNever : TS := fun _ _ _ => False
end

/-! ### targets -/
abbrev TG := V → St → Hp → (St → Hp → Prop) → Prop
abbrev TGs := List V → St → Hp → (St → Hp → Prop) → Prop
def PG (X : Cx) (target : Expr) (t : TG) : Prop :=
  ∀ (pins : List (Addr × Obj)) (s : Shared) (σ : St) (H : Hp) (v : V) (u : Value) (Q : St → Hp → Prop), Inv X pins σ H s → RelV v u → t v σ H Q →
    wpAny (model X.prog X.w) X.A (assign target X.env u) (fun _ s' => ∃ σ' H', Inv X pins σ' H' s' ∧ Q σ' H') X.xe s
/-- several targets, one after another -/
def PGs (X : Cx) (ts : List Expr) (t : TGs) : Prop :=
  ∀ (pins : List (Addr × Obj)) (s : Shared) (σ : St) (H : Hp) (vs : List V) (us : List Value) (Q : St → Hp → Prop), Inv X pins σ H s → Vals vs us → t vs σ H Q →
    wpAny (model X.prog X.w) X.A (assignInOrder ((assignEach ts X.env).map (·.2)) us) (fun _ s' => ∃ σ' H', Inv X pins σ' H' s' ∧ Q σ' H') X.xe s
/-- o[i] = v, by values -/
abbrev TSet := V → V → V → Hp → (Hp → Prop) → Prop
def PSet (X : Cx) (t : TSet) : Prop :=
  ∀ (pins : List (Addr × Obj)) (s : Shared) (σ : St) (H : Hp) (o i v : V) (ov iv u : Value) (Q : Hp → Prop), Inv X pins σ H s → RelV o ov → RelV i iv → RelV v u → t o i v H Q →
    wpAny (model X.prog X.w) X.A (setItem ov iv u) (fun _ s' => ∃ H', Inv X pins σ H' s' ∧ Q H') X.xe s
/-- a op= b, by values -/
abbrev TIp := V → V → Hp → VK → Prop
def PIp (X : Cx) (op : Operator) (t : TIp) : Prop :=
  ∀ (pins : List (Addr × Obj)) (s : Shared) (σ : St) (H : Hp) (x y : V) (v u : Value) (Q : VK), Inv X pins σ H s → RelV x v → RelV y u → t x y H Q →
    wpAny (model X.prog X.w) X.A (inplaceOp op v u) (EP X pins σ Q) X.xe s
section
variable {X : Cx} {pos : Pos}
def gName (i : Nat) : TG := fun v σ H Q => Q (σ.set i (some v)) H
theorem pg_name {i : Nat} {x : Str} (hN : X.N.Nodup) (hi : X.N[i]? = some x) (hx : Loc X.env.scope x) (hf : X.fn x = true ∨ X.env.scope.names.lookup x = some .local := by first | exact .inl rfl | exact .inr rfl | assumption) : PG X (.Name x pos) (gName i) := by
  intro pins s σ H v u Q I r h
  exact wpAny_assign_Name (store_ok I hN hi hx r (fun s' I' => ⟨_, H, I', h⟩) hf)
def gNil : TGs := fun vs σ H Q => vs = [] ∧ Q σ H
def gCons (t : TG) (u : TGs) : TGs := fun vs σ H Q => ∃ v r, vs = v :: r ∧ t v σ H fun σ' H' => u r σ' H' Q
theorem pgs_nil : PGs X [] gNil := by
  intro pins s σ H vs us Q I r h
  obtain ⟨e, h⟩ := h
  subst e
  cases r
  exact assignInOrder_nil ⟨σ, H, I, h⟩
theorem pgs_cons {e : Expr} {es : List Expr} {t : TG} {u : TGs} (h1 : PG X e t) (h2 : PGs X es u)
    (hs : (assignEach (e :: es) X.env).map (·.2) = assign e X.env :: (assignEach es X.env).map (·.2) := by rfl) : PGs X (e :: es) (gCons t u) := by
  intro pins s σ H vs us Q I r h
  obtain ⟨v, vr, e1, h⟩ := h
  subst e1
  cases r with
  | cons r rr =>
    rw [hs]
    refine assignInOrder_cons (thn (h1 pins s σ H _ _ _ I r h) fun _ s1 ⟨σ1, H1, I1, q1⟩ => ?_)
    exact h2 pins s1 σ1 H1 _ _ Q I1 rr q1
/-- (a, b, ..) = a tuple of that length -/
def gTup (K : PySem.W.Frag) (n : Nat) (t : TGs) : TG := fun v σ H Q => ∃ a xs, v = .ref a ∧ SqT K H a xs ∧ xs.length = n ∧ t xs σ H Q
theorem pg_tup {es : List Expr} {k : Nat} {t : TGs} {n : Nat} (hc : X.calm = true) (h : PGs X es t)
    (hn : (assignEach es X.env).length = n := by rfl) (hst : (assignEach es X.env).findIdx? (·.1) = none := by rfl) : PG X (.Tuple es k pos) (gTup X.K n t) := by
  intro pins s σ H v u Q I r hw
  obtain ⟨a, xs, e1, hq, hl, hw⟩ := hw
  subst e1
  cases r
  obtain ⟨its, rv, ht, hz⟩ := I.tuple hq
  refine assign_Tuple_tuple (I.ok.hd hc) ht (by simp [hn, ← hl, rv.length]) hst fun h' hx => ?_
  have I1 : Inv X pins σ H { s with heap := h' } := I.kept (t' := s.toks) fun b o e => hx b o (Nat.ne_of_lt (Heap.lt_size e)) e
  exact h pins _ σ H xs _ Q I1 (by simpa using rv) hw
/-- o[i] = .. -/
def gSub (to ti : TE) (t : TSet) : TG := fun v σ H Q => to σ H fun o H1 => ti σ H1 fun i H2 => t o i v H2 fun H3 => Q σ H3
theorem pg_sub {o i : Expr} {to ti : TE} {t : TSet} (ho : PE X o to) (hi : PE X i ti) (hs : PSet X t)
    (ha : ∀ v, assign (.Subscript o i pos) X.env v = (do
      let ov ← holding [v] (eval o X.env)
      let iv ← holding [v, ov] (eval i X.env)
      standAt pos
      holding [v, ov, iv] (setItem ov iv v)
      release [v, ov, iv] []) := by intro _; rfl) : PG X (.Subscript o i pos) (gSub to ti t) := by
  intro pins s σ H v u Q I r h
  rw [ha]
  refine wpAny_bind (wpAny_holding (thn (ho pins s σ H _ I h) fun ov s1 ⟨x, H1, I1, r1, q1⟩ => ?_))
  refine wpAny_bind (wpAny_holding (thn (hi pins s1 σ H1 _ I1 q1) fun iv s2 ⟨y, H2, I2, r2, q2⟩ => ?_))
  refine wpAny_bind (wpAny_standAt (wpAny_bind (wpAny_holding (thn (hs pins s2 σ H2 x y v ov iv u _ I2 r1 r2 r q2) fun _ s3 ⟨H3, I3, q3⟩ => ?_))))
  exact wpAny_release ⟨σ, H3, I3, q3⟩
/-- target = value -/
def tAsg (te : TE) (g : TG) : TS := fun D σ H => te σ H fun x H1 => g x σ H1 D.nx
theorem ps_asg {tg e : Expr} {te : TE} {g : TG} (he : PE X e te) (hg : PG X tg g) (hs : swapsWithSole [tg] e pos.line X.env = pure false := by rfl) (hw : swappedStores [tg] e X.env = pure none := by rfl)
    (h1 : (assignEach [tg] X.env).map (·.2) = [assign tg X.env] := by rfl) : PS X (.Assign [tg] e pos) (tAsg te g) := by
  intro pins s σ H D I h
  refine wpAny_Assign_stores (thn (he pins s σ H _ I h) fun v s1 ⟨x, H1, I1, r1, q1⟩ => ?_) hs hw
  rw [h1]
  exact thn (hg pins s1 σ H1 x v _ I1 r1 q1) fun _ s2 q => q
/-- name = value -/
theorem ps_set {i : Nat} {x : Str} {e : Expr} {te : TE} {pos' : Pos} (hN : X.N.Nodup) (hi : X.N[i]? = some x) (hx : Loc X.env.scope x) (he : PE X e te) (hs : swapsWith e (some (.Name x pos')) pos.line X.env = pure false := by rfl) (hf : X.fn x = true ∨ X.env.scope.names.lookup x = some .local := by first | exact .inl rfl | exact .inr rfl | assumption) :
    PS X (.Assign [.Name x pos'] e pos) (tAsg te (gName i)) := by
  intro pins s σ H D I h
  refine wpAny_Assign_Name (thn (he pins s σ H _ I h) fun v s1 ⟨y, H1, I1, r1, q1⟩ => ?_) hs
  exact store_ok I1 hN hi hx r1 (fun s2 I2 => ⟨_, H1, I2, q1⟩) hf
/-- a, b = x, y with plain local names: stored from the right; the pair itself is not tracked (the opening rows as in PyProof/Rows/TupAssign.lean:23) -/
def tPar (i j : Nat) (ta : TA) : TS := fun D σ H => ta σ H fun vs H1 => ∃ v w, vs = [v, w] ∧ D.nx ((σ.set i (some v)).set j (some w)) H1
/-- name op= e -/
def tAug (i : Nat) (te : TE) (ti : TIp) : TS := fun D σ H => ∃ x, σ[i]? = some (some x) ∧ te σ H fun y H1 => ti x y H1 fun z H2 => D.nx (σ.set i (some z)) H2
/-- o[i] op= e -/
def tAugS (to ti te : TE) (tget : V → V → Hp → VK → Prop) (tip : TIp) (tset : TSet) : TS := fun D σ H => to σ H fun o H1 => ti σ H1 fun i H2 => tget o i H2 fun x H3 => te σ H3 fun y H4 => tip x y H4 fun z H5 => tset o i z H5 fun H6 => D.nx σ H6
/-- o[i], by values -/
def PGet (X : Cx) (t : V → V → Hp → VK → Prop) : Prop :=
  ∀ (pins : List (Addr × Obj)) (s : Shared) (σ : St) (H : Hp) (o i : V) (ov iv : Value) (Q : VK), Inv X pins σ H s → RelV o ov → RelV i iv → t o i H Q →
    wpAny (model X.prog X.w) X.A (getItem ov iv) (EP X pins σ Q) X.xe s
/-- ints -/
def ipI (f : Int → Int → Int) : TIp := fun x y H Q => ∃ i j, x = .int i ∧ y = .int j ∧ Q (.int (f i j)) H
end

/-! ### while -/
section
variable {X : Cx} {pos : Pos}
/-- the invariant W with its measure -/
def tWhile (c : TT) (tb : TS) : TS := fun D σ H => ∃ W : Nat → St → Hp → Prop, (∃ m, W m σ H) ∧ ∀ m σ H, W m σ H →
  c σ H fun b H1 => if b = true then ∃ N : St → Hp → Prop, (∀ σ' H', N σ' H' → ∃ m', m' < m ∧ W m' σ' H') ∧ tb { D with nx := N, ct := N, bk := D.nx } σ H1 else D.nx σ H1
end

/-! ### what a loop or a comprehension walks -/
/-- at turn i: it yields x (the heap may grow), or it stops -/
structure It where
  go : Nat → Hp → Prop
  yld : Nat → Hp → V → Hp → Prop
  stop : Nat → Hp → Prop
/-- the iterator's own objects may turn: they are not the frame's, not pinned, younger than the entry (or a comprehension's own) -/
def FpOk (X : Cx) (pins : List (Addr × Obj)) (H : Hp) (b : Addr) : Prop :=
  H b = none ∧ b ≠ X.env.locals ∧ b ∉ X.fs ∧ (b ∈ X.ex ∨ X.s_0.heap.objs.size ≤ b) ∧ (∀ x c, X.env.cells.lookup x = some c → c ≠ b) ∧ ∀ p ∈ X.pn ++ pins, p.1 ≠ b
theorem Inv.fpOk {X : Cx} {pins : List (Addr × Obj)} {σ : St} {H H' : Hp} {s : Shared} {b : Addr} (I : Inv X pins σ H s) (hb : s.heap.objs.size ≤ b) (hn : H' b = none) : FpOk X pins H' b := by
  refine ⟨hn, Nat.ne_of_gt (Nat.lt_of_lt_of_le I.lt hb), I.nofs hb, .inr (Nat.le_trans I.sz hb), fun x c e z => ?_, fun p hp z => ?_⟩
  · obtain ⟨v, q⟩ := I.cell x c e
    exact absurd (Nat.lt_of_lt_of_le q.lt (by rw [z]; exact hb)) (Nat.lt_irrefl _)
  · exact absurd (Nat.lt_of_lt_of_le (Heap.lt_size (I.pin p hp).1) (by rw [z]; exact hb)) (Nat.lt_irrefl _)
structure Turn (P : Program) (w : World) (K : PySem.W.Frag) (tg : Expr) (J : It) (fp : List Addr) (it : Addr) (tn : Nat → Heap → Prop) : Prop where
  mem : it ∈ fp
  obj : ∀ i h, tn i h → ∀ b ∈ fp, ∃ o, h.get? b = some o ∧ ∀ v, o.data ≠ .cell v
  keep : ∀ i h h', tn i h → (∀ b ∈ fp, ∀ o, h.get? b = some o → h'.get? b = some o) → tn i h'
  item : ∀ (X : Cx), X.prog = P → X.w = w → X.K = K → X.calm = true → ∀ (i : Nat) (pins : List (Addr × Obj)) (s : Shared) (σ : St) (H : Hp) (E : Value → Shared → Prop), Inv X pins σ H s → (∀ b ∈ fp, FpOk X pins H b) → tn i s.heap → J.go i H →
    wpAny (model P w) X.A (pyNext (.ref it)) (fun r s1 => ∃ u, r = some u ∧
      wpAny (model P w) X.A (letOwnedTupleGo tg (.ref it) u) (fun _ s2 => ∃ x H', Inv X pins σ H' s2 ∧ RelV x u ∧ J.yld i H x H' ∧ tn (i + 1) s2.heap ∧ ∀ b ∈ fp, H' b = none) E s1) E s
  done : ∀ (X : Cx), X.prog = P → X.w = w → X.K = K → X.calm = true → ∀ (i : Nat) (pins : List (Addr × Obj)) (s : Shared) (σ : St) (H : Hp) (E : Value → Shared → Prop), Inv X pins σ H s → (∀ b ∈ fp, FpOk X pins H b) → tn i s.heap → J.stop i H →
    wpAny (model P w) X.A (pyNext (.ref it)) (fun r s1 => r = none ∧ Inv X pins σ H s1) E s
  self : ∀ (A : Around) (i : Nat) (s : Shared) (Q : Value → Shared → Prop) (E : Value → Shared → Prop), tn i s.heap → Q (.ref it) s → wpAny (model P w) A (pyIter (.ref it)) Q E s
abbrev TI := St → Hp → (It → Hp → Prop) → Prop
/-- an iterator has come -/
def PIE (X : Cx) (pins : List (Addr × Obj)) (σ : St) (tg : Expr) (R : It → Hp → Prop) (itv : Value) (s2 : Shared) : Prop :=
  ∃ (it : Addr) (fp : List Addr) (tn : Nat → Heap → Prop) (J : It) (H' : Hp), itv = .ref it ∧ Inv X pins σ H' s2 ∧ Turn X.prog X.w X.K tg J fp it tn ∧ tn 0 s2.heap ∧ (∀ b ∈ fp, FpOk X pins H' b) ∧ R J H'
def PI (X : Cx) (tg iter : Expr) (wi : TI) : Prop :=
  ∀ (pins : List (Addr × Obj)) (s : Shared) (σ : St) (H : Hp) (R : It → Hp → Prop), Inv X pins σ H s → wi σ H R →
    wpAny (model X.prog X.w) X.A (eval iter X.env) (fun v s1 => wpAny (model X.prog X.w) X.A (pyIter v) (PIE X pins σ tg R) X.xe s1) X.xe s

/-- the step ahead of the store is nothing for an iterator that keeps no tuple -/
theorem go_of {M : Model} {A : Around} {E : Value → Shared → Prop} {s : Shared} {tg : Expr} {it : Addr} {u : Value} {o : Obj} {n : String} {vs : Array Value} {Q : Unit → Shared → Prop} (ho : s.heap.get? it = some o) (hc : o.cls = .type n) (hd : o.data = .fields vs)
    (hn : ["enumerate", "zip", "dict_itemiterator", "dict_reverseitemiterator", "odict_iterator", "itertools.zip_longest", "itertools.pairwise"].contains n = false) (hQ : Q () s) : wpAny M A (letOwnedTupleGo tg (.ref it) u) Q E s := by
  unfold letOwnedTupleGo
  cases tg <;> first
    | exact wpAny_pure hQ
    | (cases u <;> first
        | exact wpAny_pure hQ
        | (refine wpAny_bind (wpAny_load ho ?_)
           rw [hc, hd]
           show wpAny M A (if (["enumerate", "zip", "dict_itemiterator", "dict_reverseitemiterator", "odict_iterator", "itertools.zip_longest", "itertools.pairwise"].contains n && vs[0]? == some (rawInt _)) = true then _ else _) Q E s
           rw [if_neg (by intro h; rw [hn, Bool.false_and] at h; cases h)]
           exact wpAny_pure hQ))

/-- the list at a, as it stands at each turn (a loop may append to it) -/
def Itl (K : PySem.W.Frag) (a : Addr) : It :=
  ⟨fun i H => ∃ xs x, SqL K H a xs ∧ xs[i]? = some x, fun i H x H' => H' = H ∧ ∀ xs, SqL K H a xs → xs[i]? = some x, fun i H => ∃ xs, SqL K H a xs ∧ xs.length ≤ i⟩
def Itt (K : PySem.W.Frag) (a : Addr) : It :=
  ⟨fun i H => ∃ xs x, SqT K H a xs ∧ xs[i]? = some x, fun i H x H' => H' = H ∧ ∀ xs, SqT K H a xs → xs[i]? = some x, fun i H => ∃ xs, SqT K H a xs ∧ xs.length ≤ i⟩
/-- lo, lo + 1, .. (n of them) -/
def Itr (lo : Int) (n : Nat) : It := ⟨fun i _ => i < n, fun i H x H' => H' = H ∧ x = .int (lo + i), fun i _ => n ≤ i⟩
theorem turn_list {P : Program} {w : World} {K : PySem.W.Frag} {tg : Expr} (a it : Addr) : Turn P w K tg (Itl K a) [it] it (fun i h => h.IsListIter it a i) where
  mem := by simp
  obj := fun i h st b hb => by
    have e : b = it := by simpa using hb
    subst e
    obtain ⟨o, e, c, d⟩ := st
    exact ⟨o, e, fun v z => by rw [d] at z; cases z⟩
  keep := fun i h h' st k => st.at fun o e => k it (by simp) o e
  item := by
    intro X hP hw hK hc i pins s σ H E I hf st hg
    subst hP hw hK
    obtain ⟨xs, x, hq, hx⟩ := hg
    obtain ⟨its, rv, p, hz⟩ := I.list hq
    obtain ⟨u, hu, ru⟩ := rv.get hx
    obtain ⟨f0, f1, f2, f3, f4, f5⟩ := hf it (by simp)
    refine wpAny_pyNext_list_item st p.isList (x := u) (by simpa using hu) fun h' st' sb => ?_
    have I1 : Inv X pins σ H { s with heap := h' } := I.turned (t' := s.toks) (fun b o hb e => (sb.2 b hb).trans e) f0 f1 f3 f4 f5
    obtain ⟨o, e, c, d⟩ := id st'
    exact ⟨u, rfl, go_of (s := { s with heap := h' }) e c d (by decide) ⟨x, H, I1, ru, ⟨rfl, fun ys hy => by rw [I.list_inj hy hq]; exact hx⟩, st', fun b hb => (hf b hb).1⟩⟩
  done := by
    intro X hP hw hK hc i pins s σ H E I hf st hg
    subst hP hw hK
    obtain ⟨xs, hq, hx⟩ := hg
    obtain ⟨its, rv, p, hz⟩ := I.list hq
    obtain ⟨f0, f1, f2, f3, f4, f5⟩ := hf it (by simp)
    have hl := rv.length
    exact wpAny_pyNext_list_end (I.ok.hd hc) st p.isList (by simp; omega) fun h' eb => ⟨rfl, I.turned (t' := s.toks) (fun b o hb e => eb b o hb e) f0 f1 f3 f4 f5⟩
  self := fun _ _ _ _ _ st h => wpAny_pyIter_listiter st h
theorem turn_tuple {P : Program} {w : World} {K : PySem.W.Frag} {tg : Expr} (a it : Addr) : Turn P w K tg (Itt K a) [it] it (fun i h => h.IsTupleIter it a i) where
  mem := by simp
  obj := fun i h st b hb => by
    have e : b = it := by simpa using hb
    subst e
    obtain ⟨o, e, c, d⟩ := st
    exact ⟨o, e, fun v z => by rw [d] at z; cases z⟩
  keep := fun i h h' st k => st.at fun o e => k it (by simp) o e
  item := by
    intro X hP hw hK hc i pins s σ H E I hf st hg
    subst hP hw hK
    obtain ⟨xs, x, hq, hx⟩ := hg
    obtain ⟨its, rv, p, hz⟩ := I.tuple hq
    obtain ⟨u, hu, ru⟩ := rv.get hx
    obtain ⟨f0, f1, f2, f3, f4, f5⟩ := hf it (by simp)
    refine wpAny_pyNext_tuple_item st (show s.heap.IsTuple a its.toArray from p) (x := u) (by simpa using hu) fun h' st' sb => ?_
    have I1 : Inv X pins σ H { s with heap := h' } := I.turned (t' := s.toks) (fun b o hb e => (sb.2 b hb).trans e) f0 f1 f3 f4 f5
    obtain ⟨o, e, c, d⟩ := id st'
    exact ⟨u, rfl, go_of (s := { s with heap := h' }) e c d (by decide) ⟨x, H, I1, ru, ⟨rfl, fun ys hy => by rw [I.tuple_inj hy hq]; exact hx⟩, st', fun b hb => (hf b hb).1⟩⟩
  done := by
    intro X hP hw hK hc i pins s σ H E I hf st hg
    subst hP hw hK
    obtain ⟨xs, hq, hx⟩ := hg
    obtain ⟨its, rv, p, hz⟩ := I.tuple hq
    obtain ⟨f0, f1, f2, f3, f4, f5⟩ := hf it (by simp)
    have hl := rv.length
    exact wpAny_pyNext_tuple_end (I.ok.hd hc) st (show s.heap.IsTuple a its.toArray from p) (by simp; omega) fun h' eb => ⟨rfl, I.turned (t' := s.toks) (fun b o hb e => eb b o hb e) f0 f1 f3 f4 f5⟩
  self := fun _ _ _ _ _ st h => wpAny_pyIter_tupleiter st h
theorem turn_range {P : Program} {w : World} {K : PySem.W.Frag} {tg : Expr} (it : Addr) (lo : Int) (n : Nat) : Turn P w K tg (Itr lo n) [it] it (fun i h => IsRangeIter h it (lo + (i : Nat) * 1) ((n : Int) - (i : Nat)) 1) where
  mem := by simp
  obj := fun i h st b hb => by
    have e : b = it := by simpa using hb
    subst e
    exact ⟨_, st, fun v z => by
      have z' : Data.fields _ = Data.cell v := z
      cases z'⟩
  keep := fun i h h' st k => k it (by simp) _ st
  item := by
    intro X hP hw hK hc i pins s σ H E I hf st hg
    subst hP hw hK
    obtain ⟨f0, f1, f2, f3, f4, f5⟩ := hf it (by simp)
    have W := Walks.range (prog := X.prog) (w := X.w) (I.ok.hd hc) it lo 1 n
    refine W.item i s _ _ hg st fun v h' tk hv st' kk => ?_
    obtain ⟨t, rfl⟩ := hv
    have I1 : Inv X pins σ H { s with heap := h', toks := tk } := I.turned (fun b o hb e => kk b o (by simpa using hb) e) f0 f1 f3 f4 f5
    refine ⟨_, rfl, go_of (s := { s with heap := h', toks := tk }) (n := "range_iterator") st' rfl rfl (by decide) ⟨.int (lo + i), H, I1, ⟨t, ?_⟩, ⟨rfl, rfl⟩, st', fun b hb => (hf b hb).1⟩⟩
    rw [Int.mul_one]
  done := by
    intro X hP hw hK hc i pins s σ H E I hf st hg
    subst hP hw hK
    obtain ⟨f0, f1, f2, f3, f4, f5⟩ := hf it (by simp)
    exact wpAny_pyNext_range_end (I.ok.hd hc) st (by have : n ≤ i := hg; omega) fun h' eb => ⟨rfl, I.turned (t' := s.toks) (fun b o hb e => eb b o hb e) f0 f1 f3 f4 f5⟩
  self := fun _ _ _ _ _ st h => wpAny_pyIter_rangeiter st h
end L2

namespace L2
open PySem PySem.Spec PyProof.Rows
section
variable {X : Cx} {tg : Expr}
def iList (K : PySem.W.Frag) (tl : TE) : TI := fun σ H R => tl σ H fun x H1 => ∃ a, x = .ref a ∧ (∃ xs, SqL K H1 a xs) ∧ R (Itl K a) H1
def iTup (K : PySem.W.Frag) (tl : TE) : TI := fun σ H R => tl σ H fun x H1 => ∃ a, x = .ref a ∧ (∃ xs, SqT K H1 a xs) ∧ R (Itt K a) H1
theorem pi_list {l : Expr} {tl : TE} (hl : PE X l tl) : PI X tg l (iList X.K tl) := by
  intro pins s σ H R I h
  refine thn (hl pins s σ H _ I h) fun v s1 ⟨x, H1, I1, r1, q1⟩ => ?_
  obtain ⟨a, e, ⟨xs, hq⟩, q⟩ := q1
  subst e
  cases r1
  obtain ⟨its, rv, p, hz⟩ := I1.list hq
  refine wpAny_pyIter_list p.isList ?_
  refine ⟨s1.heap.objs.size, [s1.heap.objs.size], _, _, H1, rfl, I1.kept (t' := s1.toks) fun b o e => Heap.get?_push_of_some _ e, turn_list a _, ⟨_, Heap.get?_push_size _ rfl, rfl, rfl⟩, fun b hb => ?_, q⟩
  have e : b = s1.heap.objs.size := by simpa using hb
  subst e
  exact I1.fpOk (Nat.le_refl _) (I1.hok.fresh (Nat.le_refl _))
theorem pi_tup {l : Expr} {tl : TE} (hl : PE X l tl) : PI X tg l (iTup X.K tl) := by
  intro pins s σ H R I h
  refine thn (hl pins s σ H _ I h) fun v s1 ⟨x, H1, I1, r1, q1⟩ => ?_
  obtain ⟨a, e, ⟨xs, hq⟩, q⟩ := q1
  subst e
  cases r1
  obtain ⟨its, rv, p, hz⟩ := I1.tuple hq
  refine wpAny_pyIter_tuple (show s1.heap.IsTuple a its.toArray from p) ?_
  refine ⟨s1.heap.objs.size, [s1.heap.objs.size], _, _, H1, rfl, I1.kept (t' := s1.toks) fun b o e => Heap.get?_push_of_some _ e, turn_tuple a _, ⟨_, Heap.get?_push_size _ rfl, rfl, rfl⟩, fun b hb => ?_, q⟩
  have e : b = s1.heap.objs.size := by simpa using hb
  subst e
  exact I1.fpOk (Nat.le_refl _) (I1.hok.fresh (Nat.le_refl _))
/-- a range object just made, walked -/
theorem range_it {pins : List (Addr × Obj)} {σ : St} {H : Hp} {s : Shared} {R : It → Hp → Prop} {E : Value → Shared → Prop} {lo hi : Int} {t u v : Tok} {tk : Nat} (I : Inv X pins σ H s) (h1 : -(2 ^ 62) ≤ lo) (h2 : lo < 2 ^ 62) (h3 : -(2 ^ 62) ≤ hi) (h4 : hi < 2 ^ 62)
    (q : R (Itr lo (hi - lo).toNat) H) : wpAny (model X.prog X.w) X.A (pyIter (.ref s.heap.objs.size)) (PIE X pins σ tg R) E { s with heap := s.heap.push { cls := .type "range", data := .fields #[.int lo t, .int hi u, .int 1 v] }, toks := tk } := by
  refine wpAny_pyIter_range (IsRange.new ..) (small_one h1 h2 h3 h4) ?_
  have I1 : Inv X pins σ H { s with heap := s.heap.push { cls := .type "range", data := .fields #[.int lo t, .int hi u, .int 1 v] }, toks := tk } := I.kept fun b o e => Heap.get?_push_of_some _ e
  refine ⟨(s.heap.push { cls := .type "range", data := .fields #[.int lo t, .int hi u, .int 1 v] }).objs.size, [(s.heap.push { cls := .type "range", data := .fields #[.int lo t, .int hi u, .int 1 v] }).objs.size], _, _, H, rfl,
    I1.kept (t' := tk) fun b o e => Heap.get?_push_of_some _ e, turn_range _ lo (hi - lo).toNat, ?_, fun b hb => ?_, q⟩
  · have e1 : lo + ((0 : Nat) : Int) * 1 = lo := by simp
    have e2 : (((hi - lo).toNat : Nat) : Int) - ((0 : Nat) : Int) = Builtin.Range.rangeSize lo hi 1 := by rw [rangeSize_one]; split <;> omega
    show IsRangeIter _ _ (lo + ((0 : Nat) : Int) * 1) ((((hi - lo).toNat : Nat) : Int) - ((0 : Nat) : Int)) 1
    rw [e1, e2]
    exact Heap.get?_push_size _ rfl
  · have e : b = (s.heap.push { cls := .type "range", data := .fields #[.int lo t, .int hi u, .int 1 v] }).objs.size := by simpa using hb
    subst e
    exact I1.fpOk (Nat.le_refl _) (I1.hok.fresh (Nat.le_refl _))
def iRng1 (ta : TA) : TI := fun σ H R => ta σ H fun vs H1 => ∃ j : Int, vs = [.int j] ∧ -(2 ^ 62) ≤ j ∧ j < 2 ^ 62 ∧ R (Itr 0 j.toNat) H1
def iRng2 (ta : TA) : TI := fun σ H R => ta σ H fun vs H1 => ∃ i j : Int, vs = [.int i, .int j] ∧ (-(2 ^ 62) ≤ i ∧ i < 2 ^ 62 ∧ -(2 ^ 62) ≤ j ∧ j < 2 ^ 62) ∧ R (Itr i (j - i).toNat) H1
theorem pi_range1 {a : Expr} {ta : TA} {p pos : Pos} (hg : Gl X "range") (hm : X.mg "range" = none) (ha : PA X [a] ta) (hs : starEach [a] X.env = [(false, eval a X.env)] := by rfl) : PI X tg (.Call (.Name "range" p) [a] [] pos) (iRng1 ta) := by
  intro pins s σ H R I h
  refine Call_ (ld_blt I hg hm boot_range (PyProof.Rows.callWith_type1 (thn (ha pos pins s σ H _ I h) fun us s1 ⟨vs, H1, I1, r1, q1⟩ => ?_) hs rfl))
  obtain ⟨j, e, q1, q2, q⟩ := q1
  subst e
  cases r1 with
  | cons r rr =>
    cases rr
    obtain ⟨t, rfl⟩ := r
    exact call_range_1 (range_it I1 (by omega) (by omega) q1 q2 (by simpa using q))
/-! ### for -/
/-- W: the invariant by the turn and a measure; N: what the body is to reach -/
def tFor (wi : TI) (g : TG) (tb : TS) : TS := fun D σ H => wi σ H fun J H1 => ∃ W : Nat → Nat → St → Hp → Prop, (∃ m, W 0 m σ H1) ∧ ∀ i m σ H, W i m σ H →
  (J.stop i H ∧ D.nx σ H) ∨ (J.go i H ∧ ∃ N : St → Hp → Prop, (∀ σ' H', N σ' H' → ∃ m', m' < m ∧ W (i + 1) m' σ' H') ∧ ∀ x H', J.yld i H x H' → g x σ H' fun σ2 H2 => tb { D with nx := N, ct := N, bk := D.nx } σ2 H2)
/-- the records at fp as they stand -/
def pinsAt (fp : List Addr) (h : Heap) : List (Addr × Obj) := fp.filterMap fun b => (h.get? b).map fun o => (b, o)
theorem mem_pinsAt {fp : List Addr} {h : Heap} {b : Addr} {o : Obj} (hb : b ∈ fp) (e : h.get? b = some o) : (b, o) ∈ pinsAt fp h := List.mem_filterMap.mpr ⟨b, hb, by rw [e]; rfl⟩
theorem of_pinsAt {fp : List Addr} {h : Heap} {p : Addr × Obj} (hp : p ∈ pinsAt fp h) : p.1 ∈ fp ∧ h.get? p.1 = some p.2 := by
  obtain ⟨b, hb, e⟩ := List.mem_filterMap.mp hp
  cases q : h.get? b with
  | none => rw [q] at e; cases e
  | some o =>
    rw [q] at e
    have e' : (b, o) = p := Option.some.inj e
    subst e'
    exact ⟨hb, q⟩
theorem Inv.pinned {pins : List (Addr × Obj)} {σ : St} {H : Hp} {s : Shared} {fp : List Addr} (I : Inv X pins σ H s) (hf : ∀ b ∈ fp, FpOk X pins H b) (ho : ∀ b ∈ fp, ∃ o, s.heap.get? b = some o ∧ ∀ v, o.data ≠ .cell v) : Inv X (pins ++ pinsAt fp s.heap) σ H s :=
  I.pins_of fun p hp => (List.mem_append.mp hp).elim (fun z => I.pin p (List.mem_append_right _ z)) fun z => by
    obtain ⟨hb, e⟩ := of_pinsAt z
    obtain ⟨f0, f1, f2, _⟩ := hf p.1 hb
    obtain ⟨o, e', d⟩ := ho p.1 hb
    rw [e] at e'; cases e'
    exact ⟨e, f0, f1, f2, d⟩
theorem Inv.unpinned {pins pl : List (Addr × Obj)} {σ : St} {H : Hp} {s : Shared} (I : Inv X (pins ++ pl) σ H s) : Inv X pins σ H s := I.pins_of fun p hp => I.pin p (List.mem_append_right _ (List.mem_append_left _ hp))
theorem ps_for {iter : Expr} {body : List Stmt} {wi : TI} {g : TG} {tb : TS} {pos : Pos} (hp : PassesOwn (model X.prog X.w) X.A X.env X.xe) (hc : X.calm = true) (hi : PI X tg iter wi) (hg : PG X tg g) (hb : PSs X body tb)
    (hs : ∀ x, foldedSetIterable iter X.env x = pure x := by intro _; rfl) : PS X (.For tg iter body [] pos) (tFor wi g tb) := by
  intro pins s σ H D I h
  refine wpAny_For (thn (hi pins s σ H _ I h) fun v s1 h1 => thn h1 fun itv s2 h2 => ?_) hs
  obtain ⟨it, fp, tn, J, H2, e, I2, T, st2, f2, W, ⟨m0, w0⟩, turn⟩ := h2
  subst e
  -- what stays true of the iterator's objects through the loop
  have stat : ∀ {H' : Hp}, (∀ b ∈ fp, H' b = none) → ∀ b ∈ fp, FpOk X pins H' b := fun hn b hb => ⟨hn b hb, (f2 b hb).2⟩
  refine codeAny_forLoop_any (fun n s' => ∃ i σ' H', Inv X pins σ' H' s' ∧ tn i s'.heap ∧ (∀ b ∈ fp, H' b = none) ∧ W i n σ' H') ?_ m0 ⟨0, σ, H2, I2, st2, fun b hb => (f2 b hb).1, w0⟩
  rintro n s3 ⟨i, σ3, H3, I3, st3, fr3, w3⟩
  rcases turn i n σ3 H3 w3 with ⟨stop, qn⟩ | ⟨go, N, hN, step⟩
  · refine wpAny_passesOwn hp (thn (T.done X rfl rfl rfl hc i pins s3 σ3 H3 X.xe I3 (stat fr3) st3 stop) fun r s4 ⟨hr, I4⟩ => ?_)
    subst hr
    exact wpAny_execs_nil ⟨σ3, H3, I4, qn⟩
  · refine wpAny_passesOwn hp (thn (T.item X rfl rfl rfl hc i pins s3 σ3 H3 X.xe I3 (stat fr3) st3 go) fun r s4 ⟨u, hr, h4⟩ => ?_)
    subst hr
    refine wpAny_passesOwn hp (thn h4 fun _ s5 ⟨x, H5, I5, r5, y5, st5, fr5⟩ => ?_)
    have I5' := I5.pinned (stat fr5) (T.obj _ _ st5)
    refine wpAny_passesOwn hp (thn (hg _ s5 σ3 H5 x u _ I5' r5 (step x H5 y5)) fun _ s6 ⟨σ6, H6, I6, q6⟩ => ?_)
    refine wpAny_passesOwn hp (thn (hb _ s6 σ6 H6 _ I6 q6) fun f s7 q7 => ?_)
    have again : ∀ {σ7 : St} {H7 : Hp}, Inv X (pins ++ pinsAt fp s5.heap) σ7 H7 s7 → N σ7 H7 → ∃ m, m < n ∧ ∃ i σ' H', Inv X pins σ' H' s7 ∧ tn i s7.heap ∧ (∀ b ∈ fp, H' b = none) ∧ W i m σ' H' := fun {σ7 H7} I7 n7 => by
      obtain ⟨m', hm, w7⟩ := hN σ7 H7 n7
      refine ⟨m', hm, i + 1, σ7, H7, I7.unpinned, T.keep _ _ _ st5 fun b hb o e => (I7.pin (b, o) (List.mem_append_right _ (List.mem_append_right _ (mem_pinsAt hb e)))).1, fun b hb => ?_, w7⟩
      obtain ⟨o, e, d⟩ := T.obj _ _ st5 b hb
      exact (I7.pin (b, o) (List.mem_append_right _ (List.mem_append_right _ (mem_pinsAt hb e)))).2.1
    cases f with
    | next => obtain ⟨σ7, H7, I7, n7⟩ := q7; exact again I7 n7
    | cont => obtain ⟨σ7, H7, I7, n7⟩ := q7; exact again I7 n7
    | brk => obtain ⟨σ7, H7, I7, q7⟩ := q7; exact ⟨σ7, H7, I7.unpinned, q7⟩
    | ret v => obtain ⟨x7, σ7, H7, I7, r7, q7⟩ := q7; exact ⟨x7, σ7, H7, I7.unpinned, r7, q7⟩
end

/-! ### the forms one uses -/
end L2

namespace L2
open PySem PySem.Spec PyProof.Rows

abbrev R2 := V → V → Hp → VK → Prop
/-- a two-place operation on values: f is binaryOp op, inplaceOp op or compareOp op -/
def OpR (X : Cx) (f : Value → Value → Sem Value) (r : R2) : Prop :=
  ∀ (pins : List (Addr × Obj)) (s : Shared) (σ : St) (H : Hp) (x y : V) (v u : Value) (Q : VK), Inv X pins σ H s → RelV x v → RelV y u → r x y H Q →
    wpAny (model X.prog X.w) X.A (f v u) (EP X pins σ Q) X.xe s
/-- a one-place operation -/
def UnR (X : Cx) (f : Value → Sem Value) (r : V → Hp → VK → Prop) : Prop :=
  ∀ (pins : List (Addr × Obj)) (s : Shared) (σ : St) (H : Hp) (x : V) (v : Value) (Q : VK), Inv X pins σ H s → RelV x v → r x H Q →
    wpAny (model X.prog X.w) X.A (f v) (EP X pins σ Q) X.xe s
/-- a call of a value that is known (a builtin, a type) with values -/
def CallR (X : Cx) (f : Value) (r : List V → Hp → VK → Prop) : Prop :=
  ∀ (pins : List (Addr × Obj)) (s : Shared) (σ : St) (H : Hp) (xs : List V) (us : List Value) (Q : VK), Inv X pins σ H s → Vals xs us → r xs H Q →
    wpAny (model X.prog X.w) X.A (call f us) (EP X pins σ Q) X.xe s
/-- a value's truth -/
def TruR (X : Cx) (r : V → Hp → (Bool → Hp → Prop) → Prop) : Prop :=
  ∀ (pins : List (Addr × Obj)) (s : Shared) (σ : St) (H : Hp) (x : V) (v : Value) (Q : Bool → Hp → Prop), Inv X pins σ H s → RelV x v → r x H Q →
    wpAny (model X.prog X.w) X.A (truthy v) (TP X pins σ Q) X.xe s

def tOp (r : R2) (ta tb : TE) : TE := fun σ H Q => ta σ H fun x H1 => tb σ H1 fun y H2 => r x y H2 Q
def tUn (r : V → Hp → VK → Prop) (ta : TE) : TE := fun σ H Q => ta σ H fun x H1 => r x H1 Q
/-- ints in, under C, and a value out -/
def rI (C : Int → Int → Prop) (g : Int → Int → V) : R2 := fun x y H Q => ∃ i j, x = .int i ∧ y = .int j ∧ C i j ∧ Q (g i j) H
def rI0 (g : Int → Int → V) : R2 := fun x y H Q => ∃ i j, x = .int i ∧ y = .int j ∧ Q (g i j) H
def rU (g : Int → V) : V → Hp → VK → Prop := fun x H Q => ∃ i, x = .int i ∧ Q (g i) H

section
variable {X : Cx} {a b c : Expr} {ta tb tc : TE} {pos : Pos}

theorem binT (ha : PE X a ta) (hb : PE X b tb) {pins : List (Addr × Obj)} {s : Shared} {σ : St} {H : Hp} {R : V → V → Hp → Prop} (I : Inv X pins σ H s)
    (h : ta σ H fun x H1 => tb σ H1 fun y H2 => R x y H2) {Q : Value → Shared → Prop} {f : Value → Value → Sem Value}
    (hf : ∀ v u s2 x y H2, Inv X pins σ H2 s2 → RelV x v → RelV y u → R x y H2 → wpAny (model X.prog X.w) X.A (f v u) Q X.xe s2) :
    wpAny (model X.prog X.w) X.A (eval a X.env) (fun v s₁ => wpAny (model X.prog X.w) X.A (eval b X.env) (fun u s₂ => wpAny (model X.prog X.w) X.A (f v u) Q X.xe s₂) X.xe s₁) X.xe s := by
  refine thn (ha pins s σ H _ I h) fun v s1 ⟨x, H1, I1, r1, q1⟩ => ?_
  refine thn (hb pins s1 σ H1 _ I1 q1) fun u s2 ⟨y, H2, I2, r2, q2⟩ => ?_
  exact hf v u s2 x y H2 I2 r1 r2 q2

theorem pe_op {op : Operator} {r : R2} (ho : OpR X (binaryOp op) r) (ha : PE X a ta) (hb : PE X b tb) : PE X (.BinOp a op b pos) (tOp r ta tb) := by
  intro pins s σ H Q I h
  exact wpAny_BinOp (binT ha hb I h fun v u s2 x y H2 I2 rx ry q => ho pins s2 σ H2 x y v u Q I2 rx ry q)
theorem pe_un {op : UnaryOp} {r : V → Hp → VK → Prop} (ho : UnR X (unaryOp op) r) (ha : PE X a ta) : PE X (.UnaryOp op a pos) (tUn r ta) := by
  intro pins s σ H Q I h
  exact UnaryOp_ (thn (ha pins s σ H _ I h) fun v s1 ⟨x, H1, I1, r1, q1⟩ => ho pins s1 σ H1 x v Q I1 r1 q1)
/-! ### ints -/
theorem opI {f : Value → Value → Sem Value} {C : Int → Int → Prop} {g : Int → Int → Int}
    (rule : ∀ (i j : Int) (t u : Tok) (s : Shared) (Q : Value → Shared → Prop) (E : Value → Shared → Prop), C i j → Q (.int (g i j) s.toks) { s with toks := s.toks + 1 } → wpAny (model X.prog X.w) X.A (f (.int i t) (.int j u)) Q E s) :
    OpR X f (rI C fun i j => .int (g i j)) := by
  intro pins s σ H x y v u Q I rx ry h
  obtain ⟨i, j, rfl, rfl, hc, q⟩ := h
  obtain ⟨t, rfl⟩ := rx
  obtain ⟨t', rfl⟩ := ry
  exact rule i j t t' s _ _ hc ⟨.int (g i j), H, I.tok _, ⟨_, rfl⟩, q⟩
theorem opI0 {f : Value → Value → Sem Value} {g : Int → Int → Int}
    (rule : ∀ (i j : Int) (t u : Tok) (s : Shared) (Q : Value → Shared → Prop) (E : Value → Shared → Prop), Q (.int (g i j) s.toks) { s with toks := s.toks + 1 } → wpAny (model X.prog X.w) X.A (f (.int i t) (.int j u)) Q E s) :
    OpR X f (rI0 fun i j => .int (g i j)) := by
  intro pins s σ H x y v u Q I rx ry h
  obtain ⟨i, j, rfl, rfl, q⟩ := h
  obtain ⟨t, rfl⟩ := rx
  obtain ⟨t', rfl⟩ := ry
  exact rule i j t t' s _ _ ⟨.int (g i j), H, I.tok _, ⟨_, rfl⟩, q⟩
theorem opB0 {f : Value → Value → Sem Value} {g : Int → Int → Bool}
    (rule : ∀ (i j : Int) (t u : Tok) (s : Shared) (Q : Value → Shared → Prop) (E : Value → Shared → Prop), Q (.bool (g i j)) s → wpAny (model X.prog X.w) X.A (f (.int i t) (.int j u)) Q E s) :
    OpR X f (rI0 fun i j => .bl (g i j)) := by
  intro pins s σ H x y v u Q I rx ry h
  obtain ⟨i, j, rfl, rfl, q⟩ := h
  obtain ⟨t, rfl⟩ := rx
  obtain ⟨t', rfl⟩ := ry
  exact rule i j t t' s _ _ ⟨.bl (g i j), H, I, rfl, q⟩

def CDiv (i j : Int) : Prop := 0 < j ∧ j < 1073741824
def CDivN (i j : Int) : Prop := j ≠ 0 ∧ j.natAbs < 1073741824
def CPow (i j : Int) : Prop := 0 ≤ j ∧ j ≤ 1000000 ∧ i.natAbs < 2 ^ 64
def CMul (i j : Int) : Prop := (-(2 ^ 64) < i ∧ i < 2 ^ 64) ∨ (-(2 ^ 64) < j ∧ j < 2 ^ 64)
theorem CMul.ok {i j : Int} (h : CMul i j) : IntMulOk i j := by
  rcases h with ⟨h1, h2⟩ | ⟨h1, h2⟩
  · exact .of_left (intBits_le_64 h1 h2)
  · exact .of_right (intBits_le_64 h1 h2)
theorem op_add : OpR X (binaryOp .Add) (rI0 fun i j => .int (i + j)) := opI0 fun _ _ _ _ _ _ _ q => add_int q
theorem op_sub : OpR X (binaryOp .Sub) (rI0 fun i j => .int (i - j)) := opI0 fun _ _ _ _ _ _ _ q => sub_int q
theorem op_modN : OpR X (binaryOp .Mod) (rI (fun _ j => j ≠ 0) fun i j => .int (i.fmod j)) := opI fun _ _ _ _ _ _ _ hc q => mod_int' hc q
theorem op_pow : OpR X (binaryOp .Pow) (rI CPow fun i j => .int (i ^ j.toNat)) := opI fun _ _ _ _ _ _ _ hc q => pow_int_small hc.1 hc.2.1 hc.2.2 q
theorem unI {f : Value → Sem Value} {g : Int → Int}
    (rule : ∀ (i : Int) (t : Tok) (s : Shared) (Q : Value → Shared → Prop) (E : Value → Shared → Prop), Q (.int (g i) s.toks) { s with toks := s.toks + 1 } → wpAny (model X.prog X.w) X.A (f (.int i t)) Q E s) :
    UnR X f (rU fun i => .int (g i)) := by
  intro pins s σ H x v Q I rx h
  obtain ⟨i, rfl, q⟩ := h
  obtain ⟨t, rfl⟩ := rx
  exact rule i t s _ _ ⟨.int (g i), H, I.tok _, ⟨_, rfl⟩, q⟩
theorem un_neg : UnR X (unaryOp .USub) (rU fun i => .int (-i)) := unI fun _ _ _ _ _ q => neg_int q
/-! ### bools among ints: n += (a < b) -/
end

/-! ### comparisons -/
/-- the scalars that == tells apart as data does -/
def scal : V → V → Bool
  | .non, .non => true | .non, .int _ => true | .int _, .non => true | .non, .bl _ => true | .bl _, .non => true | .non, .str _ => true | .str _, .non => true
  | .int _, .int _ => true | .bl _, .bl _ => true | .str _, .str _ => true | .byt _, .byt _ => true
  | .int _, .str _ => true | .str _, .int _ => true | .bl _, .str _ => true | .str _, .bl _ => true
  | _, _ => false
def rEq : R2 := fun x y H Q => scal x y = true ∧ Q (.bl (decide (x = y))) H
def rNe : R2 := fun x y H Q => scal x y = true ∧ Q (.bl (!decide (x = y))) H

section
variable {X : Cx} {a b c : Expr} {ta tb tc : TE} {pos : Pos}
theorem op_lt : OpR X (compareOp .Lt) (rI0 fun i j => .bl (decide (i < j))) := opB0 fun _ _ _ _ _ _ _ q => lt_int q
theorem op_gt : OpR X (compareOp .Gt) (rI0 fun i j => .bl (decide (j < i))) := opB0 fun _ _ _ _ _ _ _ q => gt_int q
theorem op_ge : OpR X (compareOp .GtE) (rI0 fun i j => .bl (decide (j ≤ i))) := opB0 fun _ _ _ _ _ _ _ q => ge_int q
/-- is, is not of two objects that are tracked lists or instances -/
def isObj : HO → Bool
  | .lst _ => true
  | .ins _ _ _ => true
  | _ => false
/-- two rules for one operation: by cases -/
theorem OpR.or {f : Value → Value → Sem Value} {r r' : R2} (h : OpR X f r) (h' : OpR X f r') : OpR X f (fun x y H Q => r x y H Q ∨ r' x y H Q) := by
  intro pins s σ H x y v u Q I rx ry q
  rcases q with q | q
  · exact h pins s σ H x y v u Q I rx ry q
  · exact h' pins s σ H x y v u Q I rx ry q

theorem nomark (b : Expr) {op : CmpOp} (h : op ≠ .In := by decide) (h2 : op ≠ .NotIn := by decide) : behindInMarks op b = false := by
  have e1 : (op == CmpOp.In) = false := by cases op <;> first | rfl | exact absurd rfl h
  have e2 : (op == CmpOp.NotIn) = false := by cases op <;> first | rfl | exact absurd rfl h2
  cases b <;> simp [behindInMarks, e1, e2]
/-- a comparison as a value; hm: nomark b, or (for in, not in) by with_unfolding_all rfl -/
theorem pe_cmpR {op : CmpOp} {r : R2} (ho : OpR X (compareOp op) r) (ha : PE X a ta) (hb : PE X b tb) (hm : behindInMarks op b = false) : PE X (.Compare a [op] [b] pos) (tOp r ta tb) := by
  intro pins s σ H Q I h
  exact wpAny_Compare1 (binT ha hb I h fun v u s2 x y H2 I2 rx ry q => ho pins s2 σ H2 x y v u Q I2 rx ry q) hm
/-- a reading of a value as a test -/
def tTest (t : TE) : TT := fun σ H Q => t σ H fun x H' => ∃ k, x = .bl k ∧ Q k H'
theorem pt_cmpR {op : CmpOp} {r : R2} (ho : OpR X (compareOp op) r) (ha : PE X a ta) (hb : PE X b tb) (hm : behindInMarks op b = false) : PT X (.Compare a [op] [b] pos) (tTest (tOp r ta tb)) := by
  intro pins s σ H Q I h
  refine wpAny_isTrue_Compare1 (thn (ha pins s σ H _ I h) fun v s1 ⟨x, H1, I1, r1, q1⟩ => thn (hb pins s1 σ H1 _ I1 q1) fun u s2 ⟨y, H2, I2, r2, q2⟩ =>
    thn (ho pins s2 σ H2 x y v u _ I2 r1 r2 q2) fun c s3 ⟨z, H3, I3, r3, k, e, q3⟩ => ?_) hm
  subst e
  cases r3
  exact wpAny_truthy_bool ⟨H3, I3, q3⟩
/-- a op1 b op2 c -/
def tChain (r r' : R2) (ta tb tc : TE) : TE := fun σ H Q => ta σ H fun x H1 => tb σ H1 fun y H2 => r x y H2 fun z H3 => ∃ k, z = .bl k ∧
  (if k = true then tc σ H3 fun w' H4 => r' y w' H4 Q else Q (.bl false) H3)
/-! ### truth -/
/-- a value's truth by the abstract heap -/
def TruV (K : PySem.W.Frag) (x : V) (H : Hp) (k : Bool) : Prop :=
  match x with
  | .non => k = false
  | .bl b => k = b
  | .int i => k = (i != 0)
  | .str y => y.length ≤ sizeLine ∧ k = ((y.length : Int) != 0)
  | .byt y => y.size ≤ sizeLine ∧ k = ((y.size : Int) != 0)
  | .ref p => (∃ xs, SqL K H p xs ∧ k = !xs.isEmpty) ∨ (∃ xs, SqT K H p xs ∧ k = !xs.isEmpty) ∨ ∃ kvs, H p = some (.dK kvs) ∧ k = !kvs.isEmpty
  | _ => False
theorem isEmpty_kv {κ : Type} {kvs : List (κ × V)} {vs : List (κ × Value)} (r : KV kvs vs) : (!vs.isEmpty) = !kvs.isEmpty := by
  cases r <;> rfl
theorem isEmpty_of {xs : List V} {its : List Value} (r : Vals xs its) : (!its.toArray.isEmpty) = !xs.isEmpty := by
  cases r <;> simp
theorem line63 : (sizeLine : Nat) < 2 ^ 63 := by rw [sizeLine_eq]; decide
theorem tru_ok : TruR X (fun x H Q => ∃ k, TruV X.K x H k ∧ Q k H) := by
  intro pins s σ H x v Q I rx h
  obtain ⟨k, e, q⟩ := h
  have hl := line63
  have hs : sizeLine = 16777216 := sizeLine_eq
  cases x with
  | non =>
    cases rx
    have e' : k = false := e
    subst e'
    exact truthy_none ⟨H, I, q⟩
  | bl b =>
    cases rx
    have e' : k = b := e
    subst e'
    exact wpAny_truthy_bool ⟨H, I, q⟩
  | int i =>
    obtain ⟨t, rfl⟩ := rx
    have e' : k = (i != 0) := e
    subst e'
    exact PySem.P.truthy_int ⟨H, I, q⟩
  | str y =>
    obtain ⟨t, rfl⟩ := rx
    obtain ⟨hy, e'⟩ : y.length ≤ sizeLine ∧ k = ((y.length : Int) != 0) := e
    subst e'
    exact PySem.P.truthy_str (by omega) ⟨H, I.tok _, q⟩
  | byt y =>
    obtain ⟨t, rfl⟩ := rx
    obtain ⟨hy, e'⟩ : y.size ≤ sizeLine ∧ k = ((y.size : Int) != 0) := e
    subst e'
    exact PySem.W.truthy_bytes (by omega) ⟨H, I.tok _, q⟩
  | ref p =>
    cases rx
    have e' : (∃ xs, SqL X.K H p xs ∧ k = !xs.isEmpty) ∨ (∃ xs, SqT X.K H p xs ∧ k = !xs.isEmpty) ∨ ∃ kvs, H p = some (.dK kvs) ∧ k = !kvs.isEmpty := e
    rcases e' with ⟨xs, hx, e'⟩ | ⟨xs, hx, e'⟩ | ⟨kvs, hx, e'⟩
    · subst e'
      obtain ⟨its, r, pl, hz⟩ := I.list hx
      have hlen := r.length
      exact wpAny_truthy_list pl.isList (by simp only [List.size_toArray]; omega) ⟨H, I.tok _, by rw [isEmpty_of r]; exact q⟩
    · subst e'
      obtain ⟨its, r, pl, hz⟩ := I.tuple hx
      have hlen := r.length
      exact truthy_tuple pl (by simp only [List.size_toArray]; omega) ⟨H, I.tok _, by rw [isEmpty_of r]; exact q⟩
    · subst e'
      obtain ⟨hz, hS, vs, r, m⟩ : kvs.length ≤ sizeLine ∧ (p == sysModules) = false ∧ ∃ vs, KV kvs vs ∧ s.heap.DictOf (mixKind X.prog X.w) p vs := I.hok p _ hx
      have hlen : kvs.length = vs.length := Paired.length r
      exact wpAny_truthy_dict hS m (by omega) ⟨H, I.tok _, by rw [isEmpty_kv r]; exact q⟩
  | _ => exact (show False from e).elim
/-- any expression whose test is its value's truth (a name, a call, a subscript, a field ..: he by fun _ => rfl) -/
theorem pt_truth (ha : PE X a ta) (he : ∀ whole, isTrue a X.env whole = (do let v ← whole; standAt a.pos; holding [v] (truthy v))) :
    PT X a (fun σ H Q => ta σ H fun x H' => ∃ k, TruV X.K x H' k ∧ Q k H') := by
  intro pins s σ H Q I h
  exact isTrue_plain (thn (ha pins s σ H _ I h) fun v s1 ⟨x, H1, I1, r1, q1⟩ => tru_ok pins s1 σ H1 x v Q I1 r1 q1) (he _)

/-! ### strs and bytes -/
theorem op_add_str : OpR X (binaryOp .Add) (fun x y H Q => ∃ i j, x = .str i ∧ y = .str j ∧ i.length + j.length ≤ sizeLine ∧ Q (.str (i ++ j)) H) := by
  intro pins s σ H x y v u Q I rx ry h
  obtain ⟨i, j, rfl, rfl, hz, q⟩ := h
  obtain ⟨t, rfl⟩ := rx
  obtain ⟨t', rfl⟩ := ry
  exact add_str (fun t' tk => ⟨.str (i ++ j), H, I.tok _, ⟨_, rfl⟩, q⟩) hz
def PlainIxT (b : Expr) : Prop := ∀ o i, subscripted b false o i = operate [o, i] (getItem o i)
/-! ### scalar builtins, by CallR -/
theorem vals1 {x : V} {us : List Value} (r : Vals [x] us) : ∃ u, us = [u] ∧ RelV x u := by
  cases r with
  | cons r1 r2 => cases r2; exact ⟨_, rfl, r1⟩
theorem vals2 {x y : V} {us : List Value} (r : Vals [x, y] us) : ∃ u w', us = [u, w'] ∧ RelV x u ∧ RelV y w' := by
  cases r with
  | cons r1 r2 =>
    cases r2 with
    | cons r3 r4 => cases r4; exact ⟨_, _, rfl, r1, r3⟩
theorem call_max2 (hc : X.calm = true) : CallR X (.builtin "max") (fun xs H Q => ∃ i j, xs = [.int i, .int j] ∧ Q (.int (if j > i then j else i)) H) := by
  intro pins s σ H xs us Q I r h
  obtain ⟨i, j, rfl, q⟩ := h
  obtain ⟨u, w', rfl, ⟨t, rfl⟩, ⟨t', rfl⟩⟩ := vals2 r
  refine max_two_ints (I.ok.hd hc) fun h' tk k => ⟨_, H, I.kept k, ?_, q⟩
  by_cases hj : j > i
  · rw [if_pos hj, if_pos hj]; exact ⟨_, rfl⟩
  · rw [if_neg hj, if_neg hj]; exact ⟨_, rfl⟩
theorem call_min2 (hc : X.calm = true) : CallR X (.builtin "min") (fun xs H Q => ∃ i j, xs = [.int i, .int j] ∧ Q (.int (if j < i then j else i)) H) := by
  intro pins s σ H xs us Q I r h
  obtain ⟨i, j, rfl, q⟩ := h
  obtain ⟨u, w', rfl, ⟨t, rfl⟩, ⟨t', rfl⟩⟩ := vals2 r
  refine min_two_ints (I.ok.hd hc) fun h' tk k => ⟨_, H, I.kept k, ?_, q⟩
  by_cases hj : j < i
  · rw [if_pos hj, if_pos hj]; exact ⟨_, rfl⟩
  · rw [if_neg hj, if_neg hj]; exact ⟨_, rfl⟩
theorem call_int1 : CallR X (.type "int") (fun xs H Q => (∃ i, xs = [.int i] ∧ Q (.int i) H) ∨ ∃ k, xs = [.bl k] ∧ Q (.int (if k then 1 else 0)) H) := by
  intro pins s σ H xs us Q I r h
  rcases h with ⟨i, rfl, q⟩ | ⟨k, rfl, q⟩
  · obtain ⟨u, rfl, t, rfl⟩ := vals1 r
    exact call_int_int ⟨.int i, H, I, ⟨_, rfl⟩, q⟩
  · obtain ⟨u, rfl, r1⟩ := vals1 r
    cases r1
    exact call_int_bool ⟨.int (if k then 1 else 0), H, I.tok _, ⟨_, rfl⟩, q⟩
/-- len of a str, a bytes, a list, a tuple -/
def LenV (K : PySem.W.Frag) (x : V) (H : Hp) (n : Nat) : Prop :=
  match x with
  | .str y => y.length ≤ sizeLine ∧ n = y.length
  | .byt y => y.size ≤ sizeLine ∧ n = y.size
  | .ref p => (∃ xs, SqL K H p xs ∧ n = xs.length) ∨ ∃ xs, SqT K H p xs ∧ n = xs.length
  | _ => False
theorem call_len : CallR X (.builtin "len") (fun xs H Q => ∃ x n, xs = [x] ∧ LenV X.K x H n ∧ Q (.int n) H) := by
  intro pins s σ H xs us Q I r h
  obtain ⟨x, n, rfl, e, q⟩ := h
  obtain ⟨u, rfl, rx⟩ := vals1 r
  have hl := line63
  have hs : sizeLine = 16777216 := sizeLine_eq
  cases x with
  | str y =>
    obtain ⟨t, rfl⟩ := rx
    obtain ⟨hy, e'⟩ : y.length ≤ sizeLine ∧ n = y.length := e
    subst e'
    exact len_str (by omega) ⟨.int _, H, I.tok _, ⟨_, rfl⟩, q⟩
  | byt y =>
    obtain ⟨t, rfl⟩ := rx
    obtain ⟨hy, e'⟩ : y.size ≤ sizeLine ∧ n = y.size := e
    subst e'
    exact PySem.W.len_bytes (by omega) ⟨.int _, H, I.tok _, ⟨_, rfl⟩, q⟩
  | ref p =>
    cases rx
    have e' : (∃ xs, SqL X.K H p xs ∧ n = xs.length) ∨ ∃ xs, SqT X.K H p xs ∧ n = xs.length := e
    rcases e' with ⟨xs, hx, e'⟩ | ⟨xs, hx, e'⟩
    · subst e'
      obtain ⟨its, r', pl, hz⟩ := I.list hx
      have hlen := r'.length
      exact Calls.call_len_list pl.isList (by simp only [List.size_toArray]; omega) ⟨.int xs.length, H, I.tok _, ⟨_, by simp only [List.size_toArray]; rw [hlen]⟩, q⟩
    · subst e'
      obtain ⟨its, r', pl, hz⟩ := I.tuple hx
      have hlen := r'.length
      exact len_tuple pl (by simp only [List.size_toArray]; omega) ⟨.int xs.length, H, I.tok _, ⟨_, by simp only [List.size_toArray]; rw [hlen]⟩, q⟩
  | _ => exact (show False from e).elim
end
end L2

namespace L2
open PySem PySem.Spec PyProof.Rows

/-! ### an instance, its attributes a map -/
structure ObjM (h : Heap) (x dx C : Addr) (mA : Str → Option Value) : Prop where
  obj : h.get? x = some (PySem.W.instObj C dx)
  ns : h.Ns1 dx mA
  ne : dx ≠ x

theorem lookIn_ns {h : Heap} {dx : Addr} {mA : Str → Option Value} (n : h.Ns1 dx mA) : ∃ od, h.get? dx = some od ∧ ∀ name, PySem.W.lookIn name od = some (mA name) := by
  obtain ⟨o, es, ep, ho, hd, hk, _, hm⟩ := n
  refine ⟨o, ho, fun name => ?_⟩
  have e := hm name
  unfold nsFind findBy at e
  rw [← Array.find?_toList] at e
  unfold PySem.W.lookIn
  rw [hd]
  dsimp only
  split
  · rename_i y q
    rw [q] at e
    exact congrArg some e
  · rename_i q
    rw [q] at e
    have a : es.toList.any (·.refKey) = false := by
      rw [List.any_eq_false]
      intro y hy
      obtain ⟨z, t, hkey⟩ := hk y (Array.mem_toList_iff.mp hy)
      simp [DictEntry.refKey, hkey]
    have a' : ¬ es.toList.any (·.refKey) = true := by rw [a]; exact Bool.false_ne_true
    rw [if_neg a']
    exact congrArg some e

theorem ObjM.look {h : Heap} {x dx C : Addr} {mA : Str → Option Value} (I : ObjM h x dx C mA) : ∃ od, PySem.W.InstAt h x (PySem.W.instObj C dx) C (some od) ∧ ∀ name, PySem.W.lookIn name od = some (mA name) :=
  let ⟨od, ho, hl⟩ := lookIn_ns I.ns
  ⟨od, ⟨I.obj, rfl, rfl, ho⟩, hl⟩

section
variable {prog : Program} {w : World} {A : Around} {E : Value → Shared → Prop} {s : Shared} {K : PySem.W.Frag} {x dx C f : Addr} {mA : Str → Option Value} {name : Str} {v : Value}

end

/-! ### the attributes as a list of pairs -/
def putF (f : Str) (v : V) : List (Str × V) → List (Str × V)
  | [] => [(f, v)]
  | (g, x) :: r => if g = f then (g, v) :: r else (g, x) :: putF f v r
theorem RelO.none_of {o : Option Value} (r : RelO none o) : o = none := by
  cases o with
  | none => rfl
  | some u => exact (show False from r).elim
section
variable {P : Program} {w : World} {H H' : Hp} {h h' : Heap} {a C dx : Addr} {fs fs' : List (Str × V)}
end

/-! ### what of the text a class must have -/
structure Cls (K : PySem.W.Frag) (C : Addr) : Prop where
  pg : PySem.W.plainGet K C Str.empty = true
  hd : PySem.W.hasDictIn K C = true
  po : PySem.W.plainOver K C = true
  sa : PySem.W.findIn K (.ref C) "__setattr__" = some (some (.builtin "object.__setattr__"))
theorem Cls.get {K : PySem.W.Frag} {C : Addr} (c : Cls K C) (f : Str) : PySem.W.plainGet K C f = true := c.pg
/-- no class of it has the name -/
def NoAttr (K : PySem.W.Frag) (C : Addr) (f : Str) : Prop := PySem.W.findIn K (.ref C) f = some none
/-- a constant of the class -/
structure Con (K : PySem.W.Frag) (C : Addr) (f : Str) (v : V) (u : Value) : Prop where
  at_ : PySem.W.findIn K (.ref C) f = some (some u)
  rel : RelV v u
  get : PySem.W.specialIn K u "__get__" = some none
  cp : PySem.W.copiedNames.contains f = false
/-- a method: a plain def of the class or of one above it -/
structure Meth (K : PySem.W.Frag) (C : Addr) (m : Str) (f : Addr) : Prop where
  at_ : PySem.W.findIn K (.ref C) m = some (some (.ref f))
  fn : PySem.W.isFn K (.ref f) = true
  kp : PySem.W.keepIn K (.ref f) = true

section
variable {X : Cx} {pins : List (Addr × Obj)} {σ : St} {H : Hp} {s : Shared} {a C dx : Addr} {fs : List (Str × V)} {f : Str} {v : V} {A : Around} {E : Value → Shared → Prop}

/-- a new instance, tracked, without attributes -/
theorem Inv.made (I : Inv X pins σ H s) : Inv X pins σ (upd (upd H s.heap.objs.size (.own (s.heap.objs.size + 1))) (s.heap.objs.size + 1) (.ins C s.heap.objs.size []))
    { s with heap := (s.heap.push PySem.W.emptyDict).push (PySem.W.instObj C s.heap.objs.size) } := by
  have e1 : (s.heap.push PySem.W.emptyDict).get? s.heap.objs.size = some PySem.W.emptyDict := Heap.get?_push_size s.heap rfl
  have e2 : ((s.heap.push PySem.W.emptyDict).push (PySem.W.instObj C s.heap.objs.size)).get? (s.heap.objs.size + 1) = some (PySem.W.instObj C s.heap.objs.size) := by
    have := Heap.get?_push_size (s.heap.push PySem.W.emptyDict) (o := PySem.W.instObj C s.heap.objs.size) rfl
    rwa [Heap.size_push] at this
  have e3 : (s.heap.push PySem.W.emptyDict).Ns s.heap.objs.size (fun _ => none) := ⟨PySem.W.emptyDict, #[], _, e1, rfl, (fun e he => absurd he (by simp)), fun _ => rfl⟩
  have I1 := I.laid (a := s.heap.objs.size) (o := .own (s.heap.objs.size + 1)) (h' := s.heap.push PySem.W.emptyDict) (t' := s.toks) (fun b u q => Heap.get?_push_of_some _ q) (Nat.le_refl _) ⟨_, e1⟩
  refine I1.laid (a := s.heap.objs.size + 1) (o := .ins C s.heap.objs.size []) (t' := s.toks) (fun b u q => Heap.get?_push_of_some _ q) (Nat.le_of_eq (Heap.size_push _ _)) ?_
  have ne : s.heap.objs.size ≠ s.heap.objs.size + 1 := Nat.ne_of_lt (Nat.lt_succ_self _)
  refine ⟨by rw [upd_ne ne, upd_same], Nat.zero_le _, ne, e2, fun _ => none, (Heap.Ns1.of_empty e3).at fun o q => Heap.get?_push_of_some _ q, fun _ => True.intro, fun y hy => absurd rfl hy⟩

end

/-! ### readings and rules -/
/-- e.f, an attribute of the instance -/
def tFld (K : PySem.W.Frag) (ta : TE) (f : Str) : TE := fun σ H Q => ta σ H fun x H1 => ∃ a C dx fs v, x = .ref a ∧ H1 a = some (.ins C dx fs) ∧ Cls K C ∧ NoAttr K C f ∧ fs.lookup f = some v ∧ Q v H1
/-- e.f, a constant of the class -/
def tCon (K : PySem.W.Frag) (ta : TE) (f : Str) : TE := fun σ H Q => ta σ H fun x H1 => ∃ a C dx fs v u, x = .ref a ∧ H1 a = some (.ins C dx fs) ∧ Cls K C ∧ Con K C f v u ∧ fs.lookup f = none ∧ Q v H1
/-- e.f = value -/
def sFld (K : PySem.W.Frag) (ta tv : TE) (f : Str) : TS := fun D σ H => tv σ H fun y H1 => ta σ H1 fun x H2 => ∃ a C dx fs, x = .ref a ∧ H2 a = some (.ins C dx fs) ∧ Cls K C ∧ NoAttr K C f ∧ fs.length < 1000 ∧
  D.nx σ (upd H2 a (.ins C dx (putF f y fs)))
/-- an augmented operator on two values -/
def InOp (X : Cx) (op : Operator) (rd : V → V → Hp → VK → Prop) : Prop :=
  ∀ (pins : List (Addr × Obj)) (s : Shared) (σ : St) (H : Hp) (x y : V) (u v : Value) (Q : VK), Inv X pins σ H s → RelV x u → RelV y v → rd x y H Q → wpAny (model X.prog X.w) X.A (inplaceOp op u v) (EP X pins σ Q) X.xe s
/-- e.f op= value -/
def sFldAug (K : PySem.W.Frag) (ta tv : TE) (rd : V → V → Hp → VK → Prop) (f : Str) : TS := fun D σ H => ta σ H fun x H1 => ∃ a C dx fs v, x = .ref a ∧ H1 a = some (.ins C dx fs) ∧ Cls K C ∧ NoAttr K C f ∧ fs.lookup f = some v ∧
  tv σ H1 fun y H2 => rd v y H2 fun z H3 => ∃ dx' fs', H3 a = some (.ins C dx' fs') ∧ fs'.length < 1000 ∧ D.nx σ (upd H3 a (.ins C dx' (putF f z fs')))

section
variable {X : Cx} {o e value : Expr} {f : Str} {pos pos' tpos : Pos} {ta tv : TE}
def rAdd : V → V → Hp → VK → Prop := fun x y H Q => ∃ i j, x = .int i ∧ y = .int j ∧ Q (.int (i + j)) H
def rSub : V → V → Hp → VK → Prop := fun x y H Q => ∃ i j, x = .int i ∧ y = .int j ∧ Q (.int (i - j)) H
end

/-! ### isinstance -/
section
variable {X : Cx} {pins : List (Addr × Obj)} {σ : St} {H : Hp} {s : Shared} {A : Around} {E : Value → Shared → Prop} {Q : Value → Shared → Prop} {c : Value} {b : Bool}
/-- the type of a value, as the fragment's deciders take it; for an instance its class -/
inductive TyOf (K : PySem.W.Frag) (H : Hp) : V → Value → Prop where
  | non : TyOf K H .non (.type "NoneType")
  | bl (x : Bool) : TyOf K H (.bl x) (.type "bool")
  | int (i : Int) : TyOf K H (.int i) (.type "int")
  | str (x : Str) : TyOf K H (.str x) (.type "str")
  | flt (x : UInt64) : TyOf K H (.flt x) (.type "float")
  | lst {a : Addr} {xs : List V} (e : H a = some (.lst xs)) : TyOf K H (.ref a) (.type "list")
  | frz {a : Addr} {o : Obj} {xs : List V} (e : H a = some (.frz o (.lst xs))) : TyOf K H (.ref a) (.type "list")
  | tup {a : Addr} {xs : List V} (e : H a = some (.tup xs)) : TyOf K H (.ref a) (.type "tuple")
  | dK {a : Addr} {kvs : List (Key × V)} (e : H a = some (.dK kvs)) : TyOf K H (.ref a) (.type "dict")
  | dT {a : Addr} {kvs : List (List Key × V)} (e : H a = some (.dT kvs)) : TyOf K H (.ref a) (.type "dict")
  | ins {a C dx : Addr} {fs : List (Str × V)} (e : H a = some (.ins C dx fs)) (cl : Cls K C) (ha : PySem.W.findIn K (.ref C) "__class__" = some (some (.builtin "object.__class__")))
      (hn : PySem.W.specialIn K (.builtin "object.__class__") "__get__" = some (some (.builtin "getset_descriptor.__get__"))) (htk : PySem.W.takesIn K (.builtin "object.__class__") = some true)
      (hm : PySem.W.mroIn K C (.type "object") = some true) : TyOf K H (.ref a) (.ref C)
end
end L2

namespace L2
open PySem PySem.Spec PyProof.Rows

/-! ### room -/
structure Room (k : Nat) (A : Around) : Prop where
  hd : A.handled = none
  dp : A.depth + 3 * k + 5 < recursionLimit
  un : A.units + 16 * k + 200 < cLine
theorem Room.mono {j k : Nat} {A : Around} (r : Room k A) (h : j ≤ k) : Room j A := ⟨r.hd, by have := r.dp; omega, by have := r.un; omega⟩
theorem Room.deeper {k : Nat} {A : Around} (r : Room (k + 1) A) (env : Env) : Room k (A.deeper env) :=
  ⟨r.hd, by have := r.dp; show A.depth + 1 + 3 * k + 5 < _; omega, by have := r.un; show A.units + 3 + 16 * k + 200 < _; omega⟩
theorem Room.in1 {k : Nat} {A : Around} (r : Room (k + 1) A) : Room k A.in1 :=
  ⟨r.hd, by have := r.dp; show A.depth + 3 * k + 5 < _; omega, by have := r.un; show A.units + 1 + 16 * k + 200 < _; omega⟩
theorem make_depth {A : Around} {C : Addr} {us : List Value} {kw : List (Str × Value)} : (A.under (.builtin "type.__call__" ⟨.ref C :: us, kw⟩)).depth = A.depth + 1 := by
  first | rfl | simp [Around.under, Code.weight, Code.isCreation, Code.isGuard, Code.isCaller, Code.frames, Code.isFrame, guardIds]
theorem make_units {A : Around} {C : Addr} {us : List Value} {kw : List (Str × Value)} : (A.under (.builtin "type.__call__" ⟨.ref C :: us, kw⟩)).units = A.units + 1 := by
  first | rfl | simp [Around.under, Code.cUnits, Code.frames, Code.isFrame]
theorem Room.make {k : Nat} {A : Around} (r : Room (k + 1) A) (C : Addr) (us : List Value) (kw : List (Str × Value)) : Room k (A.under (.builtin "type.__call__" ⟨.ref C :: us, kw⟩)) :=
  ⟨r.hd, by have := r.dp; rw [make_depth]; omega, by have := r.un; rw [make_units]; omega⟩
theorem Room.depth {k : Nat} {A : Around} (r : Room k A) : A.depth < recursionLimit := by have := r.dp; omega
theorem Room.units {k : Nat} {A : Around} (r : Room k A) : A.units + 64 < cLine := by have := r.un; omega
/-! ### argument lists and displays -/
def tNil : TA := fun _ H Q => Q [] H
def tCons (ta : TE) (tr : TA) : TA := fun σ H Q => ta σ H fun x H1 => tr σ H1 fun xs H2 => Q (x :: xs) H2
section
variable {X : Cx} {e : Expr} {es : List Expr} {te : TE} {t : TA} {pos : Pos}
theorem pa_nil : PA X [] tNil := fun _ _ _ _ H Q I h => Calls.spliced_nil ⟨[], H, I, .nil, h⟩
theorem pa_cons (ha : PE X e te) (hr : PA X es t) (hs : starEach (e :: es) X.env = (false, eval e X.env) :: starEach es X.env := by rfl) : PA X (e :: es) (tCons te t) := by
  intro pos pins s σ H Q I h
  rw [hs]
  show wpAny _ _ (spliced ((false, eval e X.env) :: backTo pos (starEach es X.env))) _ _ s
  refine Calls.spliced_cons (thn (ha pins s σ H _ I h) fun u s1 ⟨x, H1, I1, r1, q1⟩ => ?_)
  exact thn (hr pos pins s1 σ H1 _ I1 q1) fun us s2 ⟨xs, H2, I2, r2, q2⟩ => ⟨x :: xs, H2, I2, .cons r1 r2, q2⟩

/-- a tuple, a list of written items -/
def tTup (t : TA) : TE := fun σ H Q => t σ H fun xs H1 => xs.length ≤ sizeLine ∧ ∀ p, H1 p = none → Q (.ref p) (upd H1 p (.tup xs))
def tLst (t : TA) : TE := fun σ H Q => t σ H fun xs H1 => xs.length ≤ sizeLine ∧ ∀ p, H1 p = none → Q (.ref p) (upd H1 p (.lst xs))
theorem pe_lst (h : PA X es t) : PE X (.List es pos) (tLst t) := by
  intro pins s σ H Q I hq
  refine wpAny_List_spliced (thn (h pos pins s σ H _ I hq) fun us s1 ⟨xs, H1, I1, r, z, q⟩ => ⟨by rw [← r.length]; exact z, ?_⟩)
  have hf : H1 s1.heap.objs.size = none := I1.hok.fresh (Nat.le_refl _)
  refine ⟨.ref s1.heap.objs.size, upd H1 s1.heap.objs.size (.lst xs), I1.laid (t' := s1.toks) (fun b u e => Heap.get?_push_of_some _ e) (Nat.le_refl _) ?_, rfl, q _ hf⟩
  exact ⟨z, us, 0, r, Heap.get?_push_size _ rfl⟩
end

/-! ### what a def promises -/
/-- a def's promise: the bound arguments in the parameters' order, the heap, the wanted end, the wanted exception -/
abbrev Sp := List V → Hp → VK → XK → Prop
/-- how an exception lies behind a call (file 08 gives it): the callers' frames, abstract heap and state ahead of the call, the wish, the exception, the state -/
abbrev CXT := List Env → Hp → Shared → XK → Value → Shared → Prop

/-- the state at a call -/
structure Env0 (P : Program) (w : World) (K : PySem.W.Frag) (mg : Str → Option Value) (base : Heap) (A : Around) (outer : List Env) (s : Shared) (H : Hp) : Prop where
  frames : A.frames = some outer
  mod : Mod K mg base
  bs : ∀ b o, base.get? b = some o → s.heap.get? b = some o ∧ H b = none
  bsz : base.objs.size ≤ s.heap.objs.size
  funs : s.heap.FunFrames base outer
  frf : ∀ b ∈ frs outer, H b = none
  hok : HOk P w H s.heap
  bare : AllBare s.gens
  tb : TbOk K H
/-- a call's end -/
def CE (outer : List Env) (P : Program) (w : World) (H : Hp) (s : Shared) (Q : VK) (u : Value) (s' : Shared) : Prop :=
  ∃ v H', s'.os = s.os ∧ AllBare s'.gens ∧ Un (frs outer) [] H H' s.heap s'.heap ∧ HOk P w H' s'.heap ∧ RelV v u ∧ Q v H'
def CR (CX : CXT) (outer : List Env) (P : Program) (w : World) (H : Hp) (s : Shared) (Q : VK) (E : XK) (r : Result) (s' : Shared) : Prop :=
  match r with
  | .ok (.ret u) => CE outer P w H s Q u s'
  | .ok _ => False
  | .error e => CX outer H s E e s'
structure FnOk (P : Program) (w : World) (K : PySem.W.Frag) (mg : Str → Option Value) (base : Heap) (CX : CXT) (k : Nat) (f : Addr) (fd : FuncData) (ps : List Str) (sp : Sp) : Prop where
  len : ∀ vs H Q E, sp vs H Q E → vs.length = ps.length
  run : ∀ (A : Around) (outer : List Env) (s : Shared) (H : Hp) (args : Args) (us : List Value) (vs : List V) (Q : VK) (E : XK), Room k A → Env0 P w K mg base A outer s H → BindsTo s fd args (ps.zip us) → Vals vs us → sp vs H Q E →
    codeAny (model P w) A (.call (.ref f) args) (CR CX outer P w H s Q E) s
theorem FnOk.mono {P : Program} {w : World} {K : PySem.W.Frag} {mg : Str → Option Value} {base : Heap} {CX : CXT} {j k : Nat} {f : Addr} {fd : FuncData} {ps : List Str} {sp : Sp} (F : FnOk P w K mg base CX j f fd ps sp) (h : j ≤ k) :
    FnOk P w K mg base CX k f fd ps sp := ⟨F.len, fun A outer s H args us vs Q E hr => F.run A outer s H args us vs Q E (hr.mono h)⟩
/-- a weaker promise -/
theorem FnOk.imp {P : Program} {w : World} {K : PySem.W.Frag} {mg : Str → Option Value} {base : Heap} {CX : CXT} {k : Nat} {f : Addr} {fd : FuncData} {ps : List Str} {sp sp' : Sp} (F : FnOk P w K mg base CX k f fd ps sp)
    (h : ∀ vs H Q E, sp' vs H Q E → sp vs H Q E) : FnOk P w K mg base CX k f fd ps sp' :=
  ⟨fun vs H Q E q => F.len vs H Q E (h _ _ _ _ q), fun A outer s H args us vs Q E hr he hb hv hs => F.run A outer s H args us vs Q E hr he hb hv (h _ _ _ _ hs)⟩

theorem Env0.make {P : Program} {w : World} {K : PySem.W.Frag} {mg : Str → Option Value} {base : Heap} {A : Around} {outer : List Env} {s : Shared} {H : Hp} (e : Env0 P w K mg base A outer s H) (C : Addr) (us : List Value) (kw : List (Str × Value)) :
    Env0 P w K mg base (A.under (.builtin "type.__call__" ⟨.ref C :: us, kw⟩)) outer s H := ⟨by first | exact e.frames | (simpa [Around.under, Code.envs, Code.isFrame, pushEnvs] using e.frames), e.mod, e.bs, e.bsz, e.funs, e.frf, e.hok, e.bare, e.tb⟩
theorem Env0.in1 {P : Program} {w : World} {K : PySem.W.Frag} {mg : Str → Option Value} {base : Heap} {A : Around} {outer : List Env} {s : Shared} {H : Hp} (e : Env0 P w K mg base A outer s H) :
    Env0 P w K mg base A.in1 outer s H := ⟨e.frames, e.mod, e.bs, e.bsz, e.funs, e.frf, e.hok, e.bare, e.tb⟩

section
variable {X : Cx} {pins : List (Addr × Obj)} {σ : St} {H : Hp} {s s' : Shared}
/-- from a body: what a callee wants -/
theorem Inv.env0 (I : Inv X pins σ H s) : Env0 X.prog X.w X.K X.mg X.base X.A X.stack s H :=
  ⟨I.ok.frames, I.ok.mod, I.bs, Nat.le_trans I.ok.bsz I.sz, I.stack, I.stkFree, I.hok, I.bare, I.tb⟩
/-- behind a call -/
theorem Inv.after {Q : VK} {u : Value} (I : Inv X pins σ H s) (h : CE X.stack X.prog X.w H s Q u s') : EP X pins σ Q u s' := by
  obtain ⟨v, H', os, bare, un, hok, r, q⟩ := h
  obtain ⟨hh, g, d, t, os'⟩ := s'
  obtain rfl : os' = s.os := os
  exact ⟨v, H', I.call (h' := hh) (g' := g) (d' := d) (t' := t) (ch := []) un hok bare (fun b z => absurd z (by simp)), r, q⟩
end

/-! ### calls -/
/-- f(..): the written arguments, then the defaults dvs; E: what is wanted of an exception -/
def tCall (sp : Sp) (dvs : List V) (E : XK) (t : TA) : TE := fun σ H Q => t σ H fun vs H1 => sp (vs ++ dvs) H1 Q E
/-- o.m(..) of an instance of the class at C -/
def tMeth (C : Addr) (m : Str) (sp : Sp) (dvs : List V) (E : XK) (ta : TE) (t : TA) : TE := fun σ H Q => ta σ H fun x H1 => ∃ a dx fs, x = .ref a ∧ H1 a = some (.ins C dx fs) ∧ fs.lookup m = none ∧
  t σ H1 fun vs H2 => sp (x :: (vs ++ dvs)) H2 Q E
/-- C(..): a new instance and its dict, then __init__ -/
def tMake (C : Addr) (sp : Sp) (dvs : List V) (E : XK) (t : TA) : TE := fun σ H Q => t σ H fun vs H1 => ∀ x dx, H1 x = none → H1 dx = none → dx ≠ x →
  sp (.ref x :: (vs ++ dvs)) (upd (upd H1 dx (.own x)) x (.ins C dx [])) (fun v H2 => v = .non ∧ Q (.ref x) H2) E

/-- how the parameters are bound: us the positional arguments, kw the keywords' values by name, ds the defaults that fill up -/
def Binds (K : PySem.W.Frag) (fd : FuncData) (ps : List Str) (ds : List Value) : Prop :=
  ∀ (s : Shared) (us : List Value), K.In s.heap → (us ++ ds).length = ps.length → BindsTo s fd ⟨us, []⟩ (ps.zip (us ++ ds))
/-- every parameter is given -/
theorem Binds.all {K : PySem.W.Frag} {fd : FuncData} {ps : List Str} (h : ∀ us : List Value, us.length = ps.length → bindArgs fd ⟨us, []⟩ = pure (ps.zip us)) : Binds K fd ps [] := fun s us _ hl => by
  rw [List.append_nil] at hl ⊢
  exact .of_eq (h us hl)

/-- an exception of a callee reaches what this body wants of exceptions -/
def Passes (CX : CXT) (X : Cx) (E : XK) : Prop := ∀ (pins : List (Addr × Obj)) (σ : St) (H : Hp) (s : Shared) (e : Value) (s' : Shared), Inv X pins σ H s → CX X.stack H s E e s' → X.xe e s'

section
variable {X : Cx} {CX : CXT} {k : Nat} {f C : Addr} {fd : FuncData} {ps : List Str} {sp : Sp} {dvs : List V} {ds : List Value} {E : XK} {x m : Str} {p pos apos : Pos} {e o : Expr} {es : List Expr} {ta : TE} {t : TA}

/-- the callee runs -/
theorem run_fn {pins : List (Addr × Obj)} {σ : St} {H : Hp} {s : Shared} {Q : VK} {us : List Value} {vs : List V} (F : FnOk X.prog X.w X.K X.mg X.base CX k f fd ps sp) (hr : Room k X.A) (hb : Binds X.K fd ps ds) (hd : Vals dvs ds) (hx : Passes CX X E)
    (I : Inv X pins σ H s) (r : Vals vs us) (h : sp (vs ++ dvs) H Q E) : wpAny (model X.prog X.w) X.A (call (.ref f) us) (EP X pins σ Q) X.xe s := by
  have r2 : Vals (vs ++ dvs) (us ++ ds) := r.append hd
  have hl : (us ++ ds).length = ps.length := by rw [← r2.length]; exact F.len _ _ _ _ h
  refine wpAny_call (codeAny_mono (F.run X.A X.stack s H ⟨us, []⟩ (us ++ ds) (vs ++ dvs) Q E hr I.env0 (hb s us I.kIn hl) r2 h) fun r s' hq => ?_)
  cases r with
  | error e => exact hx pins σ H s e s' I hq
  | ok fl =>
    cases fl with
    | ret u => exact I.after hq
    | next => exact False.elim hq
    | brk => exact False.elim hq
    | cont => exact False.elim hq

theorem pe_call (F : FnOk X.prog X.w X.K X.mg X.base CX k f fd ps sp) (hr : Room k X.A) (hg : Gl X x) (hm : X.mg x = some (.ref f)) (hk : PySem.W.keepIn X.K (.ref f) = true) (hb : Binds X.K fd ps ds) (hd : Vals dvs ds) (hx : Passes CX X E)
    (ha : PA X (e :: es) t) (hdb : (x == ("__debug__" : Str)) = false := by decide) (he : starEach (e :: es) X.env = (false, eval e X.env) :: starEach es X.env := by rfl) (hpl : (backTo pos (starEach es X.env)).any (·.1) = false := by rfl) :
    PE X (.Call (.Name x p) (e :: es) [] pos) (tCall sp dvs E t) := by
  intro pins s σ H Q I h
  refine wpAny_Call_Name_kw (ld_glob I hg hm ?_ hdb)
  refine PySem.W.callWith_K (h₀ := X.base) I.ok.mod.kin hk (thn (ha pos pins s σ H _ I h) fun us s1 ⟨vs, H1, I1, r, q⟩ => ⟨I1.kIn, ?_⟩) he hpl
  exact run_fn F hr hb hd hx I1 r q
/-- what a class must have to be made -/
structure Mk (K : PySem.W.Frag) (C f : Addr) : Prop where
  makes : PySem.W.makesIn K C = true
  init : PySem.W.findIn K (.ref C) "__init__" = some (some (.ref f))
  fn : PySem.W.isFn K (.ref f) = true
  kp : PySem.W.keepIn K (.ref C) = true

end

/-! ### keywords -/
/-- the values of the keywords, from the left -/
def PK (X : Cx) (kws : List Keyword) (t : TA) : Prop :=
  ∀ (pos : Pos) (pins : List (Addr × Obj)) (s : Shared) (σ : St) (H : Hp) (Q : List V → Hp → Prop), Inv X pins σ H s → t σ H Q → wpAny (model X.prog X.w) X.A (evalAll ((backToKw pos (keywordEach kws X.env)).map (·.2))) (AP X pins σ Q) X.xe s
section
variable {X : Cx} {CX : CXT} {k : Nat} {f C : Addr} {fd : FuncData} {ps ks : List Str} {sp : Sp} {E : XK} {x m : Str} {p pos apos kpos : Pos} {e o : Expr} {es : List Expr} {kws : List Keyword} {te ta : TE} {t tk : TA} {nm : Option Str}
/-- how a call with keywords binds: g puts the positional values us and the keywords' values ws (names ks) in the parameters' order, defaults among them -/
structure KBinds (K : PySem.W.Frag) (fd : FuncData) (ps ks : List Str) (g : List Value → List Value → List Value) (gV : List V → List V → List V) : Prop where
  to : ∀ (s : Shared) (us ws : List Value), K.In s.heap → (g us ws).length = ps.length → BindsTo s fd ⟨us, ks.zip ws⟩ (ps.zip (g us ws))
  rel : ∀ {vs : List V} {us : List Value} {zs : List V} {ws : List Value}, Vals vs us → Vals zs ws → Vals (gV vs zs) (g us ws)
def tCallK (sp : Sp) (gV : List V → List V → List V) (E : XK) (t tk : TA) : TE := fun σ H Q => t σ H fun vs H1 => tk σ H1 fun zs H2 => sp (gV vs zs) H2 Q E
variable {g : List Value → List Value → List Value} {gV : List V → List V → List V}
end

/-! ### a def's body keeps its promise -/
/-- names: the parameters first -/
structure FnScope (N P : List Str) (sc : Scope) : Prop where
  kind : sc.kind = .function
  co : sc.isCoroutine = false
  gen : sc.isGenerator = false
  nd : N.Nodup
  pre : N.take P.length = P
  par : ∀ x ∈ P, sc.names.lookup x = some .local ∨ sc.names.lookup x = some .cell
  nofree : ∀ y ∈ sc.names, y.2 ≠ .free

theorem bindL_out {kindOf : Str → Option NameKind} {x : Str} : ∀ {binds : List (Str × Value)} {m : Str → Option Value}, (∀ v, (x, v) ∉ binds) → bindL kindOf binds m x = m x
  | [], _, _ => rfl
  | (n, v) :: r, m, h => by
    unfold bindL
    rw [bindL_out fun w hw => h w (List.mem_cons_of_mem _ hw)]
    split
    · have : x ≠ n := by rintro rfl; exact h v List.mem_cons_self
      simp [this]
    · rfl
theorem bindC_out {kindOf : Str → Option NameKind} {x : Str} : ∀ {binds : List (Str × Value)} {m : Str → Option Value}, (∀ v, (x, v) ∉ binds) → bindC kindOf binds m x = m x
  | [], _, _ => rfl
  | (n, v) :: r, m, h => by
    unfold bindC
    rw [bindC_out fun w hw => h w (List.mem_cons_of_mem _ hw)]
    split
    · rfl
    · have : x ≠ n := by rintro rfl; exact h v List.mem_cons_self
      simp [this]
theorem bindL_get {kindOf : Str → Option NameKind} {x : Str} {v : Value} : ∀ {P : List Str} {vs : List Value} {i : Nat} {m : Str → Option Value}, P.Nodup → P[i]? = some x → vs[i]? = some v → kindOf x = some .local →
    bindL kindOf (P.zip vs) m x = some v
  | [], _, _, _, _, h, _, _ => by simp at h
  | _ :: _, [], _, _, _, _, h, _ => by simp at h
  | p :: P, w :: vs, 0, m, nd, h1, h2, hk => by
    simp at h1 h2; subst h1; subst h2
    show bindL kindOf ((p, w) :: P.zip vs) m p = _
    unfold bindL
    rw [bindL_out fun v hv => (List.nodup_cons.mp nd).1 (List.of_mem_zip hv).1, if_pos hk]
    simp
  | p :: P, w :: vs, i + 1, m, nd, h1, h2, hk => by
    show bindL kindOf ((p, w) :: P.zip vs) m x = _
    unfold bindL
    exact bindL_get (i := i) (List.nodup_cons.mp nd).2 (by simpa using h1) (by simpa using h2) hk
theorem bindC_get {kindOf : Str → Option NameKind} {x : Str} {v : Value} : ∀ {P : List Str} {vs : List Value} {i : Nat} {m : Str → Option Value}, P.Nodup → P[i]? = some x → vs[i]? = some v → kindOf x ≠ some .local →
    bindC kindOf (P.zip vs) m x = some v
  | [], _, _, _, _, h, _, _ => by simp at h
  | _ :: _, [], _, _, _, _, h, _ => by simp at h
  | p :: P, w :: vs, 0, m, nd, h1, h2, hk => by
    simp at h1 h2; subst h1; subst h2
    show bindC kindOf ((p, w) :: P.zip vs) m p = _
    unfold bindC
    rw [bindC_out fun v hv => (List.nodup_cons.mp nd).1 (List.of_mem_zip hv).1, if_neg hk]
    simp
  | p :: P, w :: vs, i + 1, m, nd, h1, h2, hk => by
    show bindC kindOf ((p, w) :: P.zip vs) m x = _
    unfold bindC
    exact bindC_get (i := i) (List.nodup_cons.mp nd).2 (by simpa using h1) (by simpa using h2) hk

/-- the names' values at the entry -/
def start (N : List Str) (vs : List V) : St := vs.map some ++ List.replicate (N.length - vs.length) none

/-- the context of a def's body, at its entry; an exception leaves the frame, then lies as CX says -/
def cxOf (CX : CXT) (P : Program) (w : World) (K : PySem.W.Frag) (mg : Str → Option Value) (base : Heap) (N : List Str) (qual : Str) (scope : Scope) (f : Addr) (cd : Value) (A : Around) (outer : List Env) (s : Shared) (H : Hp) (E : XK) : Cx where
  prog := P
  w := w
  K := K
  mg := mg
  base := base
  A := A.deeper (envOfC qual scope s.heap.objs.size f cd)
  N := N
  s_0 := s
  H_0 := H
  env := envOfC qual scope s.heap.objs.size f cd
  outer := outer
  stack := envOfC qual scope s.heap.objs.size f cd :: outer
  ex := []
  calm := true
  fn := fun _ => true
  pn := []
  xe := fun e s' => wpAny (model P w) (A.deeper (envOfC qual scope s.heap.objs.size f cd)) (leaving (envOfC qual scope s.heap.objs.size f cd) e) (fun _ s'' => CX outer H s E e s'') (fun e' s'' => CX outer H s E e' s'') s'

theorem cell_has {sc : Scope} {n : Nat} {x : Str} (h : sc.names.lookup x = some .cell) : ∃ c, (cellsFrom n sc.names []).lookup x = some c := by
  have q := PySem.W.cellsFrom_some sc.names n [] (.inl h)
  exact Option.isSome_iff_exists.mp q

theorem inv_start {CX : CXT} {P : Program} {w : World} {K : PySem.W.Frag} {mg : Str → Option Value} {base : Heap} {N ps : List Str} {qual : Str} {scope : Scope} {f : Addr} {cd : Value} {A : Around} {outer : List Env} {s s1 : Shared} {H : Hp} {E : XK} {us : List Value} {vs : List V}
    (S : FnScope N ps scope) (hd : A.handled = none) (e0 : Env0 P w K mg base A outer s H) (hl : vs.length = ps.length) (r : Vals vs us)
    (x : InCallC s s.heap.objs.size (bindL (envOfC qual scope s.heap.objs.size f cd).kindOf (ps.zip us) fun _ => none) (cellsFrom (s.heap.objs.size + 1) scope.names []) (bindC (envOfC qual scope s.heap.objs.size f cd).kindOf (ps.zip us) fun _ => none) s1) :
    Inv (cxOf CX P w K mg base N qual scope f cd A outer s H E) [] (start N vs) H s1 := by
  have hpl : ps.length ≤ N.length := by have := congrArg List.length S.pre; rw [List.length_take] at this; omega
  obtain ⟨h1, tk, rfl, hk⟩ := x.done
  have noA : ∀ b : Addr, b ∉ (cxOf CX P w K mg base N qual scope f cd A outer s H E).ex := fun b z => absurd (show b ∈ ([] : List Addr) from z) (by simp)
  refine ⟨⟨e0.mod, S.kind, rfl, rfl, Nat.le_refl _, fun y z c h1 h2 => ?_, fun y hy => ?_, fun y c _ h => ?_, fun _ => hd, Around.frames_deeper e0.frames, .inr ⟨rfl, rfl⟩, fun b z => absurd z (noA b), e0.bs, e0.bsz, fun b _ _ => noA b, fun b z => absurd z (noA b), e0.funs, e0.frf, e0.tb⟩,
    rfl, e0.bare, Un.kept hk, ⟨_, x.toInCall.ns, fun i y v h1 h2 h3 => ?_⟩, fun y c h => ⟨_, x.cell y c h⟩, e0.hok.fresh (Nat.le_refl _), fun y c h => ?_, fun p hp => absurd (show p ∈ ([] : List (Addr × Obj)) from hp) (by simp), e0.hok.kept hk, ?_⟩
  · exact name_of_addr x.apart (PySem.mem_of_lookup h1) (PySem.mem_of_lookup h2)
  · have hy : scope.names.lookup y = some .cell ∨ scope.names.lookup y = some .free := hy
    rcases hy with hy | hy
    · exact cell_has hy
    · exact absurd rfl (S.nofree _ (PySem.mem_of_lookup hy))
  · exact Nat.le_of_lt (x.above y c (PySem.mem_of_lookup h))
  · have hi : i < vs.length := by
      unfold start at h2
      by_cases hi : i < vs.length
      · exact hi
      · rw [List.getElem?_append_right (by simpa using hi)] at h2
        rw [List.getElem?_replicate] at h2
        split at h2 <;> cases h2
    have ha : vs[i]? = some v := by
      unfold start at h2
      rw [List.getElem?_append_left (by simpa using hi), List.getElem?_map] at h2
      cases e : vs[i]? with
      | none => rw [e] at h2; cases h2
      | some a => rw [e] at h2; cases h2; rfl
    obtain ⟨u, hu, rv⟩ := r.get ha
    have hp : ps[i]? = some y := by
      rw [← S.pre, List.getElem?_take_of_lt (by omega)]; exact h1
    have ndP : ps.Nodup := by rw [← S.pre]; exact S.nd.sublist (List.take_sublist _ _)
    refine ⟨u, rv, ?_⟩
    rcases S.par y (List.mem_of_getElem? hp) with k | k
    · exact .inl ⟨k, bindL_get ndP hp hu k⟩
    · obtain ⟨c, e⟩ := cell_has (n := s.heap.objs.size + 1) k
      refine .inr ⟨.inl k, c, e, ?_⟩
      have q := x.cell y c e
      rw [bindC_get ndP hp hu (by show scope.names.lookup y ≠ _; rw [k]; decide)] at q
      exact q
  · exact e0.hok.fresh (Nat.le_of_lt (x.above y c (PySem.mem_of_lookup h)))
  · unfold start
    show _ = N.length
    rw [List.length_append, List.length_map, List.length_replicate]
    omega

/-- THE RULE: a def (or a method) of the text, by its body. The body's reading t is chosen for each entry; it is run at the parameters' values -/
theorem fn_of {CX : CXT} {P : Program} {w : World} {K : PySem.W.Frag} {mg : Str → Option Value} {base : Heap} {k : Nat} {f : Addr} {name qual : Str} {params : Arguments} {body : List Stmt} {scope : Scope} {dV kV doc pm cdv ct oc : Value} {an od : Option Addr}
    {osl : Array (Option Value)} {N ps : List Str} {sp : Sp} (lk : K.lookup f = some ⟨oc, od, .func (PySem.W.fnOf name qual params body scope dV kV doc pm an cdv ct), osl⟩) (hcd : PySem.W.codeIn K cdv qual = true) (S : FnScope N ps scope)
    (len : ∀ vs H Q E, sp vs H Q E → vs.length = ps.length)
    (hbody : ∀ (A : Around) (outer : List Env) (s : Shared) (H : Hp) (vs : List V) (Q : VK) (E : XK), Room k (A.deeper (envOfC qual scope s.heap.objs.size f cdv)) → sp vs H Q E →
      ∃ t, PSs (cxOf CX P w K mg base N qual scope f cdv A outer s H E) body t ∧ t { nx := fun _ H' => Q .non H', rt := Q } (start N vs) H) :
    FnOk P w K mg base CX (k + 1) f (PySem.W.fnOf name qual params body scope dV kV doc pm an cdv ct) ps sp := by
  refine ⟨len, fun A outer s H args us vs Q E hr e0 hb r hsp => ?_⟩
  have hl := len _ _ _ _ hsp
  have KX : K.In s.heap := e0.mod.kin.keeps fun b o e => (e0.bs b o e).1
  have lim : s.heap.NoLimit := e0.mod.nolimit.keeps fun b o e => (e0.bs b o e).1
  have hkind : ∀ y ∈ ps.zip us, scope.names.lookup y.1 = some .local ∨ (scope.names.lookup y.1 = some .cell ∧ ((cellsFrom (s.heap.objs.size + 1) scope.names []).lookup y.1).isSome = true) := fun ⟨n, v⟩ hy => by
    rcases S.par n (List.of_mem_zip hy).1 with q | q
    · exact .inl q
    · exact .inr ⟨q, PySem.W.cellsFrom_some _ _ _ (.inl q)⟩
  refine codeAny_call_function hr.depth (KX _ _ lk) rfl S.co S.gen rfl (PySem.W.codeRec_of KX hcd) (hb _ _ _ _ ?_)
  refine wpAny_newFunctionEnv_cells S.kind hkind fun env he s1 x => ?_
  subst he
  refine ⟨lim.keeps x.toInCall.keep, codeAny_func ?_⟩
  obtain ⟨t, ht, hq⟩ := hbody A outer s H vs Q E (hr.deeper _) hsp
  have I : Inv (cxOf CX P w K mg base N qual scope f cdv A outer s H E) [] (start N vs) H s1 := inv_start S hr.hd e0 hl r x
  refine wpAny_mono (ht [] s1 (start N vs) H _ I hq) (fun fl s' hs => ?_) fun e s' hs => hs
  have fin : ∀ {σ' : St} {H' : Hp} {v : V} {u : Value}, Inv (cxOf CX P w K mg base N qual scope f cdv A outer s H E) [] σ' H' s' → RelV v u → Q v H' → CE outer P w H s Q u s' :=
    fun {σ' H' v u} J rv q => ⟨v, H', J.os, J.bare, J.base, J.hok, rv, q⟩
  cases fl with
  | ret u =>
    obtain ⟨v, σ', H', J, rv, q⟩ := hs
    exact fin J rv q
  | next =>
    obtain ⟨σ', H', J, q⟩ := hs
    exact fin (v := V.non) (u := Value.none) J rfl q
  | brk =>
    obtain ⟨_, _, _, q⟩ := hs
    exact False.elim q
  | cont =>
    obtain ⟨_, _, _, q⟩ := hs
    exact False.elim q
end L2

namespace L2
open PySem PySem.Spec PyProof.Rows
section
variable {X : Cx} {x : Str} {p pos : Pos} {e : Expr} {es : List Expr} {t : TA} {id T : String} {r : List V → Hp → VK → Prop}

def tCB (r : List V → Hp → VK → Prop) (t : TA) : TE := fun σ H Q => t σ H fun vs H1 => r vs H1 Q
/-- f(e, ..), f a built-in function -/
theorem pe_callB (hc : CallR X (.builtin id) r) (hg : Gl X x) (hm : X.mg x = none) (hv : bootBuiltins x = some (.builtin id)) (ha : PA X (e :: es) t) (hn : x ≠ "__name__" := by decide) (hdb : (x == ("__debug__" : Str)) = false := by decide)
    (he : starEach (e :: es) X.env = (false, eval e X.env) :: starEach es X.env := by rfl) (hpl : (backTo pos (starEach es X.env)).any (·.1) = false := by rfl) : PE X (.Call (.Name x p) (e :: es) [] pos) (tCB r t) := by
  intro pins s σ H Q I h
  refine wpAny_Call_Name_kw (ld_blt I hg hm hv ?_ hn hdb)
  exact PyProof.Rows.callWith_builtin1 (thn (ha pos pins s σ H _ I h) fun us s1 ⟨vs, H1, I1, r1, q1⟩ => hc pins s1 σ H1 vs us Q I1 r1 q1) he hpl
/-- T(e, ..), T a built-in type -/
theorem pe_callTy (hc : CallR X (.type T) r) (hg : Gl X x) (hm : X.mg x = none) (hv : bootBuiltins x = some (.type T)) (ha : PA X (e :: es) t) (hn : x ≠ "__name__" := by decide) (hdb : (x == ("__debug__" : Str)) = false := by decide)
    (he : starEach (e :: es) X.env = (false, eval e X.env) :: starEach es X.env := by rfl) (hpl : (backTo pos (starEach es X.env)).any (·.1) = false := by rfl) : PE X (.Call (.Name x p) (e :: es) [] pos) (tCB r t) := by
  intro pins s σ H Q I h
  refine wpAny_Call_Name_kw (ld_blt I hg hm hv ?_ hn hdb)
  exact PyProof.Rows.callWith_type1 (thn (ha pos pins s σ H _ I h) fun us s1 ⟨vs, H1, I1, r1, q1⟩ => hc pins s1 σ H1 vs us Q I1 r1 q1) he hpl
end
end L2

namespace HT
open PySem PyProof.Rows

/-- t < u of tuples of ints -/
def lexLt : List Int → List Int → Bool
  | [], [] => false
  | [], _ :: _ => true
  | _ :: _, [] => false
  | x :: xs, y :: ys => if x = y then lexLt xs ys else decide (x < y)
section
open PySem.SeqAt
open PySem.AutoSeq1 (wpAny_loadPart')
open PySem.MeetsSeq PySem.MeetsSeq2 PySem.MeetsSeq3

end

section
variable {prog : Program} {w : World} {A : Around} {E : Value → Shared → Prop} {s : Shared}

/-- t + u, t not empty -/
theorem cat_tup {t b : Addr} {vs ws : List Value} {Q : Value → Shared → Prop} (ht : IsTup s.heap t vs.toArray) (hb : IsTup s.heap b ws.toArray) (hv : vs ≠ [])
    (h1 : ws = [] → Q (.ref t) s) (h2 : ws ≠ [] → Q (.ref s.heap.objs.size) { s with heap := s.heap.push { cls := .type "tuple", data := .seq (vs ++ ws).toArray } })
    (hsz : vs.length + ws.length ≤ sizeLine) : wpAny (model prog w) A (binaryOp .Add (.ref t) (.ref b)) Q E s := by
  obtain ⟨⟨cls, dd, data, sl⟩, ho, hc, n, hd⟩ := id ht
  obtain ⟨⟨cls2, dd2, data2, sl2⟩, ho2, hc2, n2, hd2⟩ := id hb
  simp only at hc hd hc2 hd2
  subst hc hd hc2 hd2
  have e : vs.toArray ++ ws.toArray = (vs ++ ws).toArray := by simp
  by_cases hw : ws = []
  · exact concat_meets ⟨_, ho, rfl⟩ ⟨_, ho2, rfl⟩ noFill_tuple_add seq_tuple_add PySem.F.slot_tuple_add PySem.F.entry_tuple_add (PySem.F.args_tuple_add_2 _ _)
      (tuple_addW1 t b vs.toArray ws.toArray n n2 dd dd2 sl sl2 (by simpa using hv) (by simp [hw])) ⟨ho, ho2, h1 hw⟩
  · refine concat_meets ⟨_, ho, rfl⟩ ⟨_, ho2, rfl⟩ noFill_tuple_add seq_tuple_add PySem.F.slot_tuple_add PySem.F.entry_tuple_add (PySem.F.args_tuple_add_2 _ _)
      (tuple_addW2 t b vs.toArray ws.toArray n n2 dd dd2 sl sl2 (by simpa using hv) (by simpa using hw) (by rw [List.size_toArray, List.size_toArray]; exact hsz)) ⟨ho, ho2, ?_⟩
    rw [e]
    exact h2 hw

/-! ### t[a:b], not the whole -/
/-- a slice's bound as a place among n (d where it is left out) -/
def sIx (n d : Nat) : Option Int → Nat
  | none => d
  | some v => if v < 0 then (v + (n : Int)).toNat else min v.toNat n
theorem sIx_none (n d : Nat) : sIx n d none = d := rfl
theorem sIx_nat (n d k : Nat) : sIx n d (some (k : Int)) = min k n := by
  show (if (k : Int) < 0 then ((k : Int) + (n : Int)).toNat else min (k : Int).toNat n) = min k n
  rw [if_neg (by omega), Int.toNat_natCast]
theorem sIx_le (n d : Nat) (hd : d ≤ n) (o : Option Int) : sIx n d o ≤ n := by
  cases o with
  | none => exact hd
  | some v =>
    show (if v < 0 then (v + (n : Int)).toNat else min v.toNat n) ≤ n
    by_cases hv : v < 0
    · rw [if_pos hv]; omega
    · rw [if_neg hv]; exact Nat.min_le_right _ _
theorem clip_eq (v : Int) (n d : Nat) : (if v < 0 then max (v + (n : Int)) 0 else min v (n : Int)) = ((sIx n d (some v) : Nat) : Int) := by
  show (if v < 0 then max (v + (n : Int)) 0 else min v (n : Int)) = (((if v < 0 then (v + (n : Int)).toNat else min v.toNat n) : Nat) : Int)
  by_cases hv : v < 0
  · simp only [if_pos hv]; omega
  · simp only [if_neg hv]; omega
theorem adjust_gen (lo hi : Option Int) (n : Nat) : Builtin.Slice.sliceAdjust lo hi 1 (n : Int) = (((sIx n 0 lo : Nat) : Int), ((sIx n n hi : Nat) : Int)) := by
  have h1 : ¬ ((1 : Int) < 0) := by omega
  unfold Builtin.Slice.sliceAdjust
  simp only [h1, if_false]
  refine Prod.ext ?_ ?_
  · cases lo with
    | none => rfl
    | some v => exact clip_eq v n 0
  · cases hi with
    | none => rfl
    | some v => exact clip_eq v n n
theorem places_gen (i j : Nat) : Builtin.Slice.slicePlaces (i : Int) (j : Int) 1 = j - i := by
  unfold Builtin.Slice.slicePlaces
  have h1 : (1 : Int) > 0 := by omega
  simp only [h1, if_true, Int.ediv_one]
  split <;> omega
theorem slicePart_ {v : Value} {o : Option Int} {Q : Option Int → Shared → Prop} (p : IsPart v o) (h : Q o s) : wpAny (model prog w) A (Builtin.Slice.slicePartIndex v) Q E s := by
  cases p with
  | none => exact slicePart_none h
  | int i t => exact slicePart_int h
theorem sliceApplied_gen {sl : Addr} {vl vu : Value} {lo hi : Option Int} {n : Nat} {Q : Int × Int × Nat → Shared → Prop} (hs : s.heap.IsSliceOf sl vl vu .none) (pl : IsPart vl lo) (pu : IsPart vu hi)
    (h : Q (((sIx n 0 lo : Nat) : Int), 1, sIx n n hi - sIx n 0 lo) s) : wpAny (model prog w) A (Builtin.Slice.sliceApplied (.ref sl) (pure (n : Int))) Q E s := by
  obtain ⟨os, hos, hcs, hds⟩ := id hs
  unfold Builtin.Slice.sliceApplied Builtin.Slice.sliceFields
  refine wpAny_bind (wpAny_bind (wpAny_field hos hds (x := vl) rfl (wpAny_bind (wpAny_field hos hds (x := vu) rfl (wpAny_bind (wpAny_field hos hds (x := .none) rfl (wpAny_pure ?_)))))))
  refine wpAny_bind (slicePart_none ?_)
  show wpAny _ _ (if ((1 : Int) == 0) = true then _ else _) _ _ s
  rw [if_neg (by decide)]
  refine wpAny_bind (slicePart_ pl (wpAny_bind (slicePart_ pu (wpAny_bind (wpAny_pure ?_)))))
  show wpAny _ _ (match Builtin.Slice.sliceAdjust lo hi 1 (n : Int) with | (lo, hi) => pure (lo, (1 : Int), Builtin.Slice.slicePlaces lo hi 1)) _ _ s
  rw [adjust_gen lo hi n]
  show wpAny _ _ (pure (((sIx n 0 lo : Nat) : Int), (1 : Int), Builtin.Slice.slicePlaces ((sIx n 0 lo : Nat) : Int) ((sIx n n hi : Nat) : Int) 1)) _ _ s
  rw [places_gen]
  exact wpAny_pure h
theorem pick_gen (xs : Array Value) (i k : Nat) : ((List.range k).filterMap fun (m : Nat) => xs[((i : Int) + (m : Int) * 1).toNat]?).toArray = ((xs.toList.drop i).take k).toArray := by
  have e : (fun (m : Nat) => xs[((i : Int) + (m : Int) * 1).toNat]?) = fun m => xs[i + m]? := by
    funext m
    have : ((i : Int) + (m : Int) * 1).toNat = i + m := by omega
    rw [this]
  rw [e]
  have := pick_run xs i k
  rw [List.filterMap_map] at this
  have e2 : ((fun x => xs[x]?) ∘ fun x => i + x) = fun m => xs[i + m]? := rfl
  rw [e2] at this
  rw [this]

theorem getItem_tuple_cut {t sl : Addr} {items : Array Value} {vl vu : Value} {lo hi : Option Int} {Q : Value → Shared → Prop} (ht : IsTup s.heap t items) (hs : s.heap.IsSliceOf sl vl vu .none) (pl : IsPart vl lo) (pu : IsPart vu hi)
    (hw : ¬ (sIx items.size 0 lo = 0 ∧ sIx items.size items.size hi = items.size))
    (h : Q (.ref s.heap.objs.size) { s with heap := s.heap.push { cls := .type "tuple", data := .seq ((items.toList.drop (sIx items.size 0 lo)).take (sIx items.size items.size hi - sIx items.size 0 lo)).toArray } })
    (hsz : items.size ≤ sizeLine) : wpAny (model prog w) A (getItem (.ref t) (.ref sl)) Q E s := by
  have htake : sizeOk (.seq ((items.toList.drop (sIx items.size 0 lo)).take (sIx items.size items.size hi - sIx items.size 0 lo)).toArray) := by
    show ((items.toList.drop (sIx items.size 0 lo)).take (sIx items.size items.size hi - sIx items.size 0 lo)).toArray.size ≤ sizeLine
    rw [List.size_toArray, List.length_take, List.length_drop, Array.length_toList]
    omega
  have hj : sIx items.size items.size hi ≤ items.size := sIx_le _ _ (Nat.le_refl _) hi
  obtain ⟨os, hos, hcs, hds⟩ := id hs
  have hTs : s.TypeIs (.ref sl) "slice" := ⟨os, hos, hcs⟩
  unfold getItem
  try with_reducible refine wpAny_holding ?_
  first | refine wpAny_bind (wpAny_pure ?_) | skip
  refine wpAny_bind (wpAny_sequenceKey ht.typeIs (by decide) ?_)
  refine wpAny_bind (wpAny_callSpecial?_slot (name := Str.ofString "__getitem__") ht.typeIs PyProof.Rows.slot_tuple_getitem
    (wpAny_call_entry PyProof.Rows.slot_tuple_getitem ht.typeIs entry_tuple_getitem ?_ (args_tuple_getitem _ _)))
  show wpAny _ _ (Builtin.Tuple.tupleItemsOf (.ref t) >>= _) _ _ s
  refine wpAny_bind (tupleItemsOf_ ht ?_)
  refine wpAny_bind (wpAny_typeOf hTs ?_)
  rw [if_pos (by decide)]
  refine wpAny_bind (sliceApplied_gen hs pl pu ?_)
  have hno : ¬ ((((sIx items.size 0 lo : Nat) : Int) == 0 && (1 : Int) == 1 && (sIx items.size items.size hi - sIx items.size 0 lo) == items.size) = true) := by
    intro q
    rw [Bool.and_eq_true, Bool.and_eq_true] at q
    have q1 : ((sIx items.size 0 lo : Nat) : Int) = 0 := eq_of_beq q.1.1
    have q2 : sIx items.size items.size hi - sIx items.size 0 lo = items.size := eq_of_beq q.2
    exact hw ⟨by omega, by omega⟩
  show wpAny _ _ (if (((sIx items.size 0 lo : Nat) : Int) == 0 && (1 : Int) == 1 && (sIx items.size items.size hi - sIx items.size 0 lo) == items.size) = true then _ else _) _ _ s
  rw [if_neg hno, pick_gen]
  first
    | exact wpAny_bind (m := Builtin.Tuple.tupleExact _) (wpAny_newObj_type (wpAny_pure ⟨_, rfl, wpAny_pure h⟩) htake)
    | exact wpAny_bind (m := Builtin.Tuple.tupleExact _) (wpAny_newObj_type (wpAny_bind (wpAny_pure (wpAny_pure ⟨_, rfl, wpAny_pure h⟩))) htake)
    | exact wpAny_bind (wpAny_bind (m := Builtin.Tuple.tupleExact _) (wpAny_newObj_type (wpAny_pure (wpAny_pure ⟨_, rfl, wpAny_pure h⟩)) htake))
    | exact wpAny_bind (wpAny_bind (m := Builtin.Tuple.tupleExact _) (wpAny_newObj_type (wpAny_pure ⟨_, rfl, wpAny_pure h⟩) htake))
end
end HT

namespace L2
open PySem PySem.Spec PyProof.Rows

/-! ### the parts of a slice -/
abbrev TO := St → Hp → (Option Int → Hp → Prop) → Prop
/-- a slice's part (left out, or an int) -/
def PO (X : Cx) (e : Option Expr) (t : TO) : Prop :=
  ∀ (pins : List (Addr × Obj)) (s : Shared) (σ : St) (H : Hp) (Q : Option Int → Hp → Prop), Inv X pins σ H s → t σ H Q →
    wpAny (model X.prog X.w) X.A (evalPart e X.env) (fun u s' => ∃ o H', Inv X pins σ H' s' ∧ IsPart u o ∧ Q o H') X.xe s
def tNoPart : TO := fun _ H Q => Q none H
def tPart (t : TE) : TO := fun σ H Q => t σ H fun x H1 => ∃ i, x = .int i ∧ Q (some i) H1

section
variable {X : Cx} {e : Expr} {te : TE} {lo hi : Option Expr} {tl th : TO} {pos p2 : Pos}

theorem po_none : PO X none tNoPart := by
  intro pins s σ H Q I h
  rw [evalPart_none]
  exact wpAny_pure ⟨none, H, I, .none, h⟩
theorem po_some (h : PE X e te) : PO X (some e) (tPart te) := by
  intro pins s σ H Q I hw
  rw [evalPart_some]
  refine thn (h pins s σ H _ I hw) fun u s1 ⟨x, H1, I1, r1, q1⟩ => ?_
  obtain ⟨i, rfl, q⟩ := q1
  obtain ⟨t, rfl⟩ := r1
  exact ⟨some i, H1, I1, .int i t, q⟩

/-- what a slice of a value is, by values: the slice object stands at sl -/
def SlR (X : Cx) (r : V → Option Int → Option Int → Hp → VK → Prop) : Prop :=
  ∀ (pins : List (Addr × Obj)) (s : Shared) (σ : St) (H : Hp) (x : V) (v vl vu : Value) (lo hi : Option Int) (sl : Addr) (Q : VK), Inv X pins σ H s → RelV x v → s.heap.IsSliceOf sl vl vu .none → IsPart vl lo → IsPart vu hi → r x lo hi H Q →
    ∃ T id, typeLookup (.type T) "__getitem__" = pure (some (.builtin id)) ∧ s.TypeIs v T ∧ wpAny (model X.prog X.w) X.A (getItem v (.ref sl)) (EP X pins σ Q) X.xe s
theorem SlR.or {r r' : V → Option Int → Option Int → Hp → VK → Prop} (h : SlR X r) (h' : SlR X r') : SlR X (fun x lo hi H Q => r x lo hi H Q ∨ r' x lo hi H Q) := by
  intro pins s σ H x v vl vu lo hi sl Q I rx hs pl pu q
  rcases q with q | q
  · exact h pins s σ H x v vl vu lo hi sl Q I rx hs pl pu q
  · exact h' pins s σ H x v vl vu lo hi sl Q I rx hs pl pu q
def tSl (r : V → Option Int → Option Int → Hp → VK → Prop) (te : TE) (tl th : TO) : TE := fun σ H Q => te σ H fun x H1 => tl σ H1 fun l H2 => th σ H2 fun u H3 => r x l u H3 Q
/-- a[lo:hi], any a -/
theorem pe_slice {r : V → Option Int → Option Int → Hp → VK → Prop} (hr : SlR X r) (he : PE X e te) (hl : PO X lo tl) (hu : PO X hi th) : PE X (.Subscript e (.Slice lo hi none p2) pos) (tSl r te tl th) := by
  intro pins s σ H Q I h
  refine Subscript_ (thn (he pins s σ H _ I h) fun v s1 ⟨x, H1, I1, r1, q1⟩ => ?_)
  refine wpAny_Slice (thn (hl pins s1 σ H1 _ I1 q1) fun vl s2 ⟨l, H2, I2, pl, q2⟩ => thn (hu pins s2 σ H2 _ I2 q2) fun vu s3 ⟨u, H3, I3, pu, q3⟩ => ?_)
  rw [evalPart_none]
  refine wpAny_pure ?_
  have I4 : Inv X pins σ H3 { s3 with heap := s3.heap.push { cls := .type "slice", data := .fields #[vl, vu, .none] } } := I3.kept (t' := s3.toks) fun b ob q => Heap.get?_push_of_some _ q
  obtain ⟨T, id, hT, ht, hg⟩ := hr pins { s3 with heap := s3.heap.push { cls := .type "slice", data := .fields #[vl, vu, .none] } } σ H3 x v vl vu l u s3.heap.objs.size Q I4 r1 (Heap.IsSliceOf.new ..) pl pu q3
  show wpAny (model X.prog X.w) X.A (subscriptTail e (.Slice lo hi none p2) v (.ref s3.heap.objs.size)) (EP X pins σ Q) X.xe { s3 with heap := s3.heap.push { cls := .type "slice", data := .fields #[vl, vu, .none] } }
  exact tail_any (ops := [.ref s3.heap.objs.size, v]) ht hT hg (by with_unfolding_all rfl)

/-- the items of xs[lo:hi] -/
def cutV (xs : List V) (lo hi : Option Int) : List V := (xs.drop (HT.sIx xs.length 0 lo)).take (HT.sIx xs.length xs.length hi - HT.sIx xs.length 0 lo)
theorem cutV_length (xs : List V) (lo hi : Option Int) : (cutV xs lo hi).length ≤ xs.length := by
  unfold cutV
  rw [List.length_take, List.length_drop]
  omega
/-- t[lo:hi], not the whole of it (the whole would be t itself) -/
def rSlT (K : PySem.W.Frag) : V → Option Int → Option Int → Hp → VK → Prop := fun x lo hi H Q => ∃ a xs, x = .ref a ∧ SqT K H a xs ∧
  ¬ (HT.sIx xs.length 0 lo = 0 ∧ HT.sIx xs.length xs.length hi = xs.length) ∧ ∀ p, H p = none → Q (.ref p) (upd H p (.tup (cutV xs lo hi)))
theorem sl_tup : SlR X (rSlT X.K) := by
  intro pins s σ H x v vl vu lo hi sl Q I rx hs pl pu h
  obtain ⟨a, xs, rfl, hx, hw, q⟩ := h
  cases rx
  obtain ⟨its, r, ht, hz⟩ := I.tuple hx
  have hlen : its.toArray.size = xs.length := by rw [List.size_toArray]; exact r.length.symm
  refine ⟨"tuple", _, PyProof.Rows.slot_tuple_getitem.lookup, ht.typeIs, ?_⟩
  refine HT.getItem_tuple_cut ht hs pl pu (by rw [hlen]; exact hw) ?_ (by rw [hlen]; exact hz)
  rw [hlen]
  refine ⟨.ref s.heap.objs.size, _, I.laid (t' := s.toks) (o := .tup (cutV xs lo hi)) (fun b ob q => Heap.get?_push_of_some _ q) (Nat.le_refl _) ?_, rfl, q _ (I.hok.fresh (Nat.le_refl _))⟩
  exact ⟨⟨Nat.le_trans (cutV_length xs lo hi) hz, _, Heap.get?_push_size _ rfl, rfl⟩, _, (r.drop (HT.sIx xs.length 0 lo)).take (HT.sIx xs.length xs.length hi - HT.sIx xs.length 0 lo), IsTup.new _ _⟩

/-! ### t < u, t + u -/
def rLtT (K : PySem.W.Frag) : R2 := fun x y H Q => ∃ a b ns ms, x = .ref a ∧ y = .ref b ∧ SqT K H a (ns.map V.int) ∧ SqT K H b (ms.map V.int) ∧ Q (.bl (HT.lexLt ns ms)) H
/-- t + u, t not empty: u empty gives t itself -/
def rCatT (K : PySem.W.Frag) : R2 := fun x y H Q => ∃ a b xs ys, x = .ref a ∧ y = .ref b ∧ SqT K H a xs ∧ SqT K H b ys ∧ xs ≠ [] ∧ xs.length + ys.length ≤ sizeLine ∧
  (ys = [] → Q (.ref a) H) ∧ (ys ≠ [] → ∀ p, H p = none → Q (.ref p) (upd H p (.tup (xs ++ ys))))
theorem Vals.nil_iff {xs : List V} {us : List Value} (r : Vals xs us) : us = [] ↔ xs = [] := by
  cases r with
  | nil => simp
  | cons _ _ => simp
theorem op_catT : OpR X (binaryOp .Add) (rCatT X.K) := by
  intro pins s σ H x y v u Q I rx ry h
  obtain ⟨a, b, xs, ys, rfl, rfl, ha, hb, hx, hz, q1, q2⟩ := h
  cases rx
  cases ry
  obtain ⟨its, r1, p1, _⟩ := I.tuple ha
  obtain ⟨its2, r2, p2, _⟩ := I.tuple hb
  refine HT.cat_tup p1 p2 (fun z => hx (r1.nil_iff.mp z)) (fun z => ⟨.ref a, H, I, rfl, q1 (r2.nil_iff.mp z)⟩) (fun z => ?_) (by rw [← r1.length, ← r2.length]; exact hz)
  refine ⟨.ref s.heap.objs.size, _, I.laid (t' := s.toks) (o := .tup (xs ++ ys)) (fun b ob q => Heap.get?_push_of_some _ q) (Nat.le_refl _) ?_, rfl, q2 (fun w => z (r2.nil_iff.mpr w)) _ (I.hok.fresh (Nat.le_refl _))⟩
  exact ⟨⟨by rw [List.length_append]; exact hz, _, Heap.get?_push_size _ rfl, rfl⟩, _, r1.append r2, IsTup.new _ _⟩
end
end L2

namespace L2
open PySem PySem.Spec PyProof.Rows

/-! ### places -/
/-- the place that an index of any sign means -/
def ixN (n : Nat) (i : Int) : Option Nat := if 0 ≤ i then (if i < n then some i.toNat else none) else if -(n : Int) ≤ i then some (i + n).toNat else none
def atI {α : Type} (xs : List α) (i : Int) : Option α := (ixN xs.length i).bind fun j => xs[j]?
theorem ixN_seq {n : Nat} {i : Int} {j : Nat} (h : ixN n i = some j) : seqIndex? i n = some j ∧ j < n ∧ -(n : Int) ≤ i ∧ i < n := by
  unfold ixN at h
  by_cases h0 : 0 ≤ i
  · rw [if_pos h0] at h
    by_cases h1 : i < n
    · rw [if_pos h1] at h
      have e : i.toNat = j := Option.some.inj h
      exact ⟨by rw [seqIndex_of h0 h1, e], by omega, by omega, h1⟩
    · rw [if_neg h1] at h; cases h
  · rw [if_neg h0] at h
    by_cases h1 : -(n : Int) ≤ i
    · rw [if_pos h1] at h
      have e : (i + n).toNat = j := Option.some.inj h
      exact ⟨by rw [seqIndex_neg (by omega) h1, e], by omega, h1, by omega⟩
    · rw [if_neg h1] at h; cases h
theorem atI_get {α : Type} {xs : List α} {i : Int} {v : α} (h : atI xs i = some v) : ∃ j, seqIndex? i xs.length = some j ∧ xs[j]? = some v ∧ j < xs.length ∧ -(xs.length : Int) ≤ i ∧ i < xs.length := by
  unfold atI at h
  cases e : ixN xs.length i with
  | none => rw [e] at h; cases h
  | some j =>
    rw [e] at h
    obtain ⟨h1, h2, h3, h4⟩ := ixN_seq e
    exact ⟨j, h1, h, h2, h3, h4⟩
theorem atI_nat {α : Type} {xs : List α} {j : Nat} {v : α} (h : xs[j]? = some v) : atI xs (j : Int) = some v := by
  have hj : j < xs.length := (List.getElem?_eq_some_iff.mp h).1
  have e : ixN xs.length (j : Int) = some j := by
    unfold ixN
    rw [if_pos (by omega), if_pos (by omega)]; simp
  unfold atI; rw [e]; exact h
/-! ### what may be subscripted -/
/-- what stands as an index of a plain subscript -/
def PlainIx (b : Expr) : Prop := ∀ o i, subscripted b false o i = operate [o, i] (getItem o i)
/-- a subscript by values -/
def IxR (X : Cx) (r : R2) : Prop :=
  ∀ (value slice : Expr) (pins : List (Addr × Obj)) (s : Shared) (σ : St) (H : Hp) (x y : V) (v u : Value) (Q : VK), Inv X pins σ H s → RelV x v → RelV y u → r x y H Q →
    subscripted slice false v u = operate [v, u] (getItem v u) → wpAny (model X.prog X.w) X.A (subscriptTail value slice v u) (EP X pins σ Q) X.xe s
/-- a call of a builtin's method by values: the receiver, the arguments -/
def MtR (X : Cx) (id : String) (r : V → List V → Hp → VK → Prop) : Prop :=
  ∀ (pins : List (Addr × Obj)) (s : Shared) (σ : St) (H : Hp) (x : V) (xs : List V) (v : Value) (us : List Value) (Q : VK), Inv X pins σ H s → RelV x v → Vals xs us → r x xs H Q →
    wpAny (model X.prog X.w) X.A (call (.builtin id) (v :: us)) (EP X pins σ Q) X.xe s
section
variable {X : Cx} {a b : Expr} {ta tb : TE} {pos : Pos}
theorem IxR.or {r r' : R2} (h : IxR X r) (h' : IxR X r') : IxR X (fun x y H Q => r x y H Q ∨ r' x y H Q) := by
  intro value slice pins s σ H x y v u Q I rx ry q hs
  rcases q with q | q
  · exact h value slice pins s σ H x y v u Q I rx ry q hs
  · exact h' value slice pins s σ H x y v u Q I rx ry q hs
theorem MtR.or {id : String} {r r' : V → List V → Hp → VK → Prop} (h : MtR X id r) (h' : MtR X id r') : MtR X id (fun x xs H Q => r x xs H Q ∨ r' x xs H Q) := by
  intro pins s σ H x xs v us Q I rx rs q
  rcases q with q | q
  · exact h pins s σ H x xs v us Q I rx rs q
  · exact h' pins s σ H x xs v us Q I rx rs q
/-- a[b] -/
theorem pe_ix {r : R2} (hr : IxR X r) (ha : PE X a ta) (hb : PE X b tb) (hs : PlainIx b) : PE X (.Subscript a b pos) (tOp r ta tb) := by
  intro pins s σ H Q I h
  exact Subscript_ (binT ha hb I h fun v u s2 x y H2 I2 rx ry q => hr a b pins s2 σ H2 x y v u Q I2 rx ry q (hs _ _))

def rIxL (K : PySem.W.Frag) : R2 := fun x y H Q => ∃ p xs i v, x = .ref p ∧ y = .int i ∧ SqL K H p xs ∧ atI xs i = some v ∧ Q v H
def rIxT (K : PySem.W.Frag) : R2 := fun x y H Q => ∃ p xs i v, x = .ref p ∧ y = .int i ∧ SqT K H p xs ∧ atI xs i = some v ∧ Q v H
def rIxS : R2 := fun x y H Q => ∃ z i c, x = .str z ∧ y = .int i ∧ z.length ≤ sizeLine ∧ atI z.cps.toList i = some c ∧ Q (.str ⟨#[c]⟩) H
theorem ix_list : IxR X (rIxL X.K) := by
  intro value slice pins s σ H x y v u Q I rx ry h hs
  obtain ⟨p, xs, i, z, rfl, rfl, hq, he, q⟩ := h
  cases rx
  obtain ⟨t, rfl⟩ := ry
  obtain ⟨its, r, pl, hz⟩ := I.list hq
  obtain ⟨j, h1, h2, h3, h4, h5⟩ := atI_get he
  obtain ⟨w, ew, rw'⟩ := r.get h2
  have hl := r.length
  have hn := line63
  have fin : EP X pins σ Q w s := ⟨z, H, I, rw', q⟩
  by_cases h0 : 0 ≤ i
  · have hj : i.toNat = j := by
      rw [seqIndex_of h0 h5] at h1
      exact Option.some.inj h1
    exact item_listR pl.isList h0 (by omega) (by rw [hj]; simpa using ew) fin hs
  · have hj : (i + (its.toArray.size : Int)).toNat = j := by
      rw [seqIndex_neg (by omega) h4] at h1
      rw [List.size_toArray, ← hl]
      exact Option.some.inj h1
    exact subscriptTail_builtinR (x := w) pl.isList.typeIs slot_list_getitem.lookup
      (wpAny_getItem_list_neg (Q := fun r s' => r = w ∧ EP X pins σ Q r s') pl.isList (by omega) (by rw [List.size_toArray] <;> omega) (by omega) (by rw [hj]; simpa using ew) ⟨rfl, fin⟩) hs
theorem ix_tup : IxR X (rIxT X.K) := by
  intro value slice pins s σ H x y v u Q I rx ry h hs
  obtain ⟨p, xs, i, z, rfl, rfl, hq, he, q⟩ := h
  cases rx
  obtain ⟨t, rfl⟩ := ry
  obtain ⟨its, r, pl, hz⟩ := I.tuple hq
  obtain ⟨j, h1, h2, h3, h4, h5⟩ := atI_get he
  obtain ⟨w, ew, rw'⟩ := r.get h2
  have hl := r.length
  have hn := line63
  have fin : EP X pins σ Q w s := ⟨z, H, I, rw', q⟩
  exact subscriptTail_builtinR (x := w) pl.typeIs slot_tuple_getitem.lookup
    (getItem_tuple (j := j) (Q := fun r s' => r = w ∧ EP X pins σ Q r s') pl (by omega) (by omega) (by rw [List.size_toArray, ← hl]; exact h1) (by simpa using ew) ⟨rfl, fin⟩) hs
theorem ix_str : IxR X rIxS := by
  intro value slice pins s σ H x y v u Q I rx ry h hs
  obtain ⟨z, i, c, rfl, rfl, hz, he, q⟩ := h
  obtain ⟨t, rfl⟩ := rx
  obtain ⟨t', rfl⟩ := ry
  obtain ⟨j, h1, h2, h3, h4, h5⟩ := atI_get he
  have hl : z.cps.toList.length = z.length := by simp [Str.length]
  rw [hl] at h1 h4 h5
  have hn := line63
  exact tail_any (typeIs_str s z t) slot_str_getitem.lookup (getItem_str (c := c) (by
    have e1 : decide (i < -(2 ^ 63 : Int)) = false := decide_eq_false (by omega)
    have e2 : decide (i ≥ 2 ^ 63) = false := decide_eq_false (by omega)
    rw [e1, e2, Bool.or_false]) (by rw [h1]; simpa using h2) ⟨.str ⟨#[c]⟩, H, I.tok _, ⟨_, rfl⟩, q⟩) hs
/-- list, tuple or str -/
def rIx (K : PySem.W.Frag) : R2 := fun x y H Q => rIxL K x y H Q ∨ rIxT K x y H Q ∨ rIxS x y H Q
theorem ix_seq : IxR X (rIx X.K) := ix_list.or (ix_tup.or ix_str)

/-! ### xs[i] = v, any sign -/
/-- the list's object behind a store -/
theorem mapSeq_set (its : List Value) (n j : Nat) (u : Value) : Obj.mapSeq (·.setIfInBounds j u) { cls := .type "list", data := .seq its.toArray n } = { cls := .type "list", data := .seq (its.set j u).toArray n } := by
  simp [Obj.mapSeq]
theorem Inv.lst {pins : List (Addr × Obj)} {σ : St} {H : Hp} {s : Shared} {p : Addr} {xs : List V} (I : Inv X pins σ H s) (h : H p = some (.lst xs)) :
    ∃ (its : List Value) (n : Nat), Vals xs its ∧ s.heap.get? p = some { cls := .type "list", data := .seq its.toArray n } ∧ xs.length ≤ sizeLine := by
  obtain ⟨z, its, n, r, e⟩ := I.hok p _ h
  exact ⟨its, n, r, e, z⟩
/-- the list at p is written by an update of its object -/
theorem Inv.lstUpd {pins : List (Addr × Obj)} {σ : St} {H : Hp} {s : Shared} {p : Addr} {xs ys : List V} {its its' : List Value} {n n' : Nat} {f : Obj → Obj} (I : Inv X pins σ H s) (h : H p = some (.lst xs))
    (ho : s.heap.get? p = some { cls := .type "list", data := .seq its.toArray n }) (hf : f { cls := .type "list", data := .seq its.toArray n } = { cls := .type "list", data := .seq its'.toArray n' }) (r : Vals ys its') (hz : ys.length ≤ sizeLine) (t : Nat) :
    Inv X pins σ (upd H p (.lst ys)) { s with heap := s.heap.update p f, toks := t } := by
  have e : (s.heap.update p f).get? p = some { cls := .type "list", data := .seq its'.toArray n' } := by
    rw [Heap.get?_update_self f ho (by rw [hf] <;> rfl), hf]
  refine I.write (x := p) (e := p) (by rw [h]; trivial) (.inl rfl) (fun b u hb q => (Heap.get?_update_other _ _ (Ne.symm hb)).trans q) ⟨_, e⟩ ?_
  exact ⟨hz, its', n', r, e⟩
def rSetL : V → V → V → Hp → (Hp → Prop) → Prop := fun o i v H Q => ∃ p xs k j, o = .ref p ∧ i = .int k ∧ H p = some (.lst xs) ∧ ixN xs.length k = some j ∧ Q (upd H p (.lst (xs.set j v)))
theorem set_list : PSet X rSetL := by
  intro pins s σ H o i v ov iv u Q I ro ri rv h
  obtain ⟨p, xs, k, j, rfl, rfl, hp, hj, q⟩ := h
  cases ro
  obtain ⟨t, rfl⟩ := ri
  obtain ⟨its, n, r, ho, hz⟩ := I.lst hp
  obtain ⟨h1, h2, h3, h4⟩ := ixN_seq hj
  have hl := r.length
  have hn := line63
  have I' : Inv X pins σ (upd H p (.lst (xs.set j v))) { s with heap := s.heap.update p (Obj.mapSeq (·.setIfInBounds j u)) } :=
    I.lstUpd hp ho (mapSeq_set its n j u) (r.set rv j) (by rw [List.length_set]; exact hz) s.toks
  by_cases h0 : 0 ≤ k
  · have hk : k.toNat = j := by
      rw [seqIndex_of h0 h4] at h1
      exact Option.some.inj h1
    exact PySem.W.ki_setAt ho h0 (by omega) (by rw [List.size_toArray, ← hl]; exact h4) (by rw [hk]; exact ⟨_, I', q⟩)
  · have hk : (k + (its.toArray.size : Int)).toNat = j := by
      rw [seqIndex_neg (by omega) h3] at h1
      rw [List.size_toArray, ← hl]
      exact Option.some.inj h1
    exact PySem.W.ki_setBack ho (by omega) (by rw [List.size_toArray, ← hl]; exact h3) (by omega) (by rw [hk]; exact ⟨_, I', q⟩)

/-! ### slices -/
theorem slice_bounds (lo hi : Option Int) (n : Nat) : (sliceBounds lo hi none n).1 = ((HT.sIx n 0 lo : Nat) : Int) ∧ (sliceBounds lo hi none n).2.1 = ((HT.sIx n n hi : Nat) : Int) ∧ (sliceBounds lo hi none n).2.2 = 1 := by
  refine ⟨?_, ?_, rfl⟩
  · cases lo with
    | none => simp [sliceBounds, HT.sIx]
    | some i =>
      simp only [sliceBounds, HT.sIx, Option.getD_none, show (1 : Int) > 0 by decide, if_true]
      by_cases h : i < 0
      · simp only [h, if_true] <;> omega
      · simp only [h, if_false] <;> omega
  · cases hi with
    | none => simp [sliceBounds, HT.sIx]
    | some i =>
      simp only [sliceBounds, HT.sIx, Option.getD_none, show (1 : Int) > 0 by decide, if_true]
      by_cases h : i < 0
      · simp only [h, if_true] <;> omega
      · simp only [h, if_false] <;> omega
theorem slicePick_cut (its : List Value) (lo hi : Option Int) : slicePick its.toArray lo hi none = ((its.drop (HT.sIx its.length 0 lo)).take (HT.sIx its.length its.length hi - HT.sIx its.length 0 lo)).toArray := by
  obtain ⟨h1, h2, h3⟩ := slice_bounds lo hi its.toArray.size
  unfold slicePick
  rw [h1, h2, h3]
  simp only [sliceRange_one, pick_run, List.size_toArray] <;> rfl
/-- xs[lo:hi] of a list: a new list -/
def rSlL (K : PySem.W.Frag) : V → Option Int → Option Int → Hp → VK → Prop := fun x lo hi H Q => ∃ a xs, x = .ref a ∧ SqL K H a xs ∧ ∀ p, H p = none → Q (.ref p) (upd H p (.lst (cutV xs lo hi)))
theorem sl_list : SlR X (rSlL X.K) := by
  intro pins s σ H x v vl vu lo hi sl Q I rx hs pl pu h
  obtain ⟨a, xs, rfl, hx, q⟩ := h
  cases rx
  obtain ⟨its, r, ht, hz⟩ := I.list hx
  have hlen := r.length
  refine ⟨"list", _, slot_list_getitem.lookup, ht.isList.typeIs, ?_⟩
  refine wpAny_getItem_list_slice ht.isList hs pl pu .none (by simp) ?_ (by rw [List.size_toArray] <;> omega)
  rw [slicePick_cut, ← hlen]
  refine ⟨.ref s.heap.objs.size, _, I.laid (t' := s.toks) (o := .lst (cutV xs lo hi)) (fun b ob q => Heap.get?_push_of_some _ q) (Nat.le_refl _) ?_, rfl, q _ (I.hok.fresh (Nat.le_refl _))⟩
  exact ⟨Nat.le_trans (cutV_length xs lo hi) hz, _, 0, (r.drop (HT.sIx xs.length 0 lo)).take (HT.sIx xs.length xs.length hi - HT.sIx xs.length 0 lo), Heap.get?_push_size _ rfl⟩

/-! ### in, not in: flat items -/
def flatV : V → Bool
  | .non => true
  | .bl _ => true
  | .int _ => true
  | .str _ => true
  | _ => false
/-- == of flat values -/
def eqV : V → V → Bool
  | .non, .non => true
  | .bl a, .bl b => a == b
  | .bl a, .int b => (if a then 1 else 0) == b
  | .int a, .bl b => a == (if b then 1 else 0)
  | .int a, .int b => a == b
  | .str a, .str b => a == b
  | _, _ => false
/-- the items' answers, read off the values (a value's own answer does not lean on its token) -/
def eqU (x : V) (u : Value) : Bool := match u with
  | .none => eqV .non x
  | .bool b => eqV (.bl b) x
  | .int i _ => eqV (.int i) x
  | .str z _ => eqV (.str z) x
  | _ => false
def inV (x : V) (xs : List V) : Bool := xs.any fun y => eqV y x
/-- x in a list or tuple of flat items -/
def rIn (K : PySem.W.Frag) (neg : Bool) : R2 := fun x y H Q => ∃ p xs, y = .ref p ∧ (SqL K H p xs ∨ SqT K H p xs) ∧ flatV x = true ∧ xs.all flatV = true ∧ Q (.bl (if neg then !inV x xs else inV x xs)) H
/-! ### len, list(x), tuple(x) of any list or tuple that is read -/
theorem CallR.or {f : Value} {r r' : List V → Hp → VK → Prop} (h : CallR X f r) (h' : CallR X f r') : CallR X f (fun xs H Q => r xs H Q ∨ r' xs H Q) := by
  intro pins s σ H xs us Q I rs q
  rcases q with q | q
  · exact h pins s σ H xs us Q I rs q
  · exact h' pins s σ H xs us Q I rs q
/-! ### the call of a builtin's method: o.m(..) -/
/-- the value is of that builtin type -/
def tyV (K : PySem.W.Frag) (T : String) (x : V) (H : Hp) : Prop := match x with
  | .str _ => T = "str"
  | .int _ => T = "int"
  | .ref p => (T = "list" ∧ ∃ xs, SqL K H p xs) ∨ (T = "tuple" ∧ ∃ o, K.lookup p = some o ∧ o.cls = .type "tuple" ∧ o.dict = none) ∨
      (T = "dict" ∧ ((∃ kvs, H p = some (.dK kvs)) ∨ ∃ kvs, H p = some (.dT kvs))) ∨ (T = "set" ∧ ∃ S n, H p = some (.set S n))
  | _ => False
def tBM0 (K : PySem.W.Frag) (T : String) (r : V → List V → Hp → VK → Prop) (to : TE) : TE := fun σ H Q => to σ H fun x H1 => tyV K T x H1 ∧ r x [] H1 Q
def tBM (K : PySem.W.Frag) (T : String) (r : V → List V → Hp → VK → Prop) (to : TE) (t : TA) : TE := fun σ H Q => to σ H fun x H1 => tyV K T x H1 ∧ t σ H1 fun xs H2 => r x xs H2 Q
variable {o e : Expr} {es : List Expr} {to : TE} {t : TA} {name : Str} {apos cpos : Pos} {T id : String} {r : V → List V → Hp → VK → Prop}
/- xs.append(e), list.index on a module's tuple .. are MtR facts of 06m -/
end
end L2

namespace L2
open PySem PySem.Spec PyProof.Rows

def MtM (X : Cx) (id : String) (r : V → List V → Hp → VK → Prop) : Prop :=
  ∀ (pins : List (Addr × Obj)) (s : Shared) (σ : St) (H : Hp) (x : V) (xs : List V) (v : Value) (us : List Value) (Q : VK), Inv X pins σ H s → RelV x v → Vals xs us → r x xs H Q →
    wpAny (model X.prog X.w) X.A (call (.builtin id) (v :: us)) (EP X pins σ Q) X.xe s

/-! ### lists of values -/
theorem Vals.one : ∀ {x : V} {us : List Value}, Vals [x] us → ∃ u, us = [u] ∧ RelV x u
  | _, _, .cons r .nil => ⟨_, rfl, r⟩
theorem Vals.two : ∀ {x y : V} {us : List Value}, Vals [x, y] us → ∃ u v, us = [u, v] ∧ RelV x u ∧ RelV y v
  | _, _, _, .cons r (.cons q .nil) => ⟨_, _, rfl, r, q⟩
theorem Vals.zero : ∀ {us : List Value}, Vals [] us → us = []
  | _, .nil => rfl
theorem Vals.dropLast {xs : List V} {us : List Value} (h : Vals xs us) : Vals xs.dropLast us.dropLast := by
  induction h with
  | nil => exact .nil
  | cons r t ih =>
    cases t with
    | nil => exact .nil
    | cons q t' => exact .cons r ih
theorem Vals.eraseIdx : ∀ {xs : List V} {us : List Value} (i : Nat), Vals xs us → Vals (xs.eraseIdx i) (us.eraseIdx i)
  | _, _, _, .nil => .nil
  | _, _, 0, .cons _ t => t
  | _, _, i + 1, .cons r t => .cons r (Vals.eraseIdx i t)
theorem Vals.reverse {xs : List V} {us : List Value} (h : Vals xs us) : Vals xs.reverse us.reverse := by
  induction h with
  | nil => exact .nil
  | cons r t ih => rw [List.reverse_cons, List.reverse_cons]; exact Vals.append ih (.cons r .nil)
theorem Vals.rep {xs : List V} {us : List Value} (h : Vals xs us) : ∀ k : Nat, Vals (List.replicate k xs).flatten (List.replicate k us).flatten
  | 0 => .nil
  | k + 1 => by
    rw [List.replicate_succ, List.replicate_succ, List.flatten_cons, List.flatten_cons]
    exact Vals.append h (Vals.rep h k)
theorem foldl_rep (its : List Value) : ∀ (k : Nat) (acc : List Value),
    List.foldl (fun x1 x2 => x1 ++ x2) acc.toArray (List.replicate k its.toArray) = (acc ++ (List.replicate k its).flatten).toArray
  | 0, acc => by simp
  | k + 1, acc => by
    have e : acc.toArray ++ its.toArray = (acc ++ its).toArray := by simp
    have e2 : (acc ++ its) ++ (List.replicate k its).flatten = acc ++ (List.replicate (k + 1) its).flatten := by
      rw [List.replicate_succ, List.flatten_cons, List.append_assoc]
    rw [← e2, ← foldl_rep its k (acc ++ its), ← e, List.replicate_succ, List.foldl_cons]

section
variable {X : Cx} {pins : List (Addr × Obj)} {σ : St} {H : Hp} {s : Shared} {l b : Addr} {xs ys zs : List V}

/-! ### the two steps: a tracked list is rewritten, a new list is laid -/
theorem Inv.lnew {its : List Value} {t' : Nat} (I : Inv X pins σ H s) (hv : Vals ys its) (hz : ys.length ≤ sizeLine) :
    Inv X pins σ (upd H s.heap.objs.size (.lst ys)) { s with heap := s.heap.push { cls := .type "list", data := .seq its.toArray }, toks := t' } :=
  I.laid (fun _ _ q => Heap.get?_push_of_some _ q) (Nat.le_refl _) ⟨hz, its, 0, hv, Heap.get?_push_size _ rfl⟩
theorem Inv.fresh (I : Inv X pins σ H s) : H s.heap.objs.size = none := I.hok.fresh (Nat.le_refl _)
theorem Inv.lstM (I : Inv X pins σ H s) (hH : H l = some (.lst xs)) : xs.length ≤ sizeLine ∧ ∃ (its : List Value) (n : Nat), Vals xs its ∧ xs.length = its.length ∧ s.heap.get? l = some { cls := .type "list", data := .seq its.toArray n } := by
  obtain ⟨z, its, n, r, e⟩ := I.hok l _ hH
  exact ⟨z, its, n, r, r.length, e⟩

theorem notLongL {n : Nat} (h : n ≤ sizeLine) : Builtin.List.listTooLong n = false := by
  unfold Builtin.List.listTooLong
  exact decide_eq_false (by omega)
end

section
variable {X : Cx}

/-! ### methods -/
def rAppend : V → List V → Hp → VK → Prop := fun x vs H Q => ∃ l xs y, x = .ref l ∧ vs = [y] ∧ H l = some (.lst xs) ∧ xs.length < sizeLine ∧ Q .non (upd H l (.lst (xs ++ [y])))
def rExtend : V → List V → Hp → VK → Prop := fun x vs H Q => ∃ l b xs zs, x = .ref l ∧ vs = [.ref b] ∧ H l = some (.lst xs) ∧ H b = some (.lst zs) ∧ xs.length + zs.length ≤ sizeLine ∧ Q .non (upd H l (.lst (xs ++ zs)))
def rPop : V → List V → Hp → VK → Prop := fun x vs H Q => ∃ l xs y, x = .ref l ∧ vs = [] ∧ H l = some (.lst xs) ∧ xs[xs.length - 1]? = some y ∧ Q y (upd H l (.lst xs.dropLast))
def rPopAt : V → List V → Hp → VK → Prop := fun x vs H Q => ∃ l xs i k y, x = .ref l ∧ vs = [.int i] ∧ H l = some (.lst xs) ∧ -(2 ^ 63) ≤ i ∧ i < 2 ^ 63 ∧ seqIndex? i xs.length = some k ∧ xs[k]? = some y ∧ Q y (upd H l (.lst (xs.eraseIdx k)))
def rReverse : V → List V → Hp → VK → Prop := fun x vs H Q => ∃ l xs, x = .ref l ∧ vs = [] ∧ H l = some (.lst xs) ∧ Q .non (upd H l (.lst xs.reverse))
def rClear : V → List V → Hp → VK → Prop := fun x vs H Q => ∃ l xs, x = .ref l ∧ vs = [] ∧ H l = some (.lst xs) ∧ Q .non (upd H l (.lst []))
/-! ### list + list, list += list, list * int -/
def rCat : R2 := fun x y H Q => ∃ l b xs zs, x = .ref l ∧ y = .ref b ∧ H l = some (.lst xs) ∧ H b = some (.lst zs) ∧ xs.length + zs.length ≤ sizeLine ∧ ∀ p, H p = none → Q (.ref p) (upd H p (.lst (xs ++ zs)))
theorem op_cat : OpR X (binaryOp .Add) rCat := by
  intro pins s σ H x y v u Q I rx ry h
  obtain ⟨l, b, xs, zs, rfl, rfl, hH, hB, hz, q⟩ := h
  cases rx
  cases ry
  obtain ⟨z, its, n, r, hl, e⟩ := I.lstM hH
  obtain ⟨z2, its2, n2, r2, hl2, e2⟩ := I.lstM hB
  refine PySem.P.add_list e e2 ?_ (by rw [List.size_toArray, List.size_toArray]; omega)
  have ea : its.toArray ++ its2.toArray = (its ++ its2).toArray := by simp
  rw [ea]
  exact ⟨.ref _, _, I.lnew (t' := s.toks) (r.append r2) (by rw [List.length_append]; omega), rfl, q _ I.fresh⟩
/-- a list times an int (a negative one is nothing) -/
def rRep : R2 := fun x y H Q => ∃ l k xs, x = .ref l ∧ y = .int k ∧ H l = some (.lst xs) ∧ -(2 ^ 63) ≤ k ∧ k < 2 ^ 63 ∧ xs.length * k.toNat ≤ sizeLine ∧
  ∀ p, H p = none → Q (.ref p) (upd H p (.lst (List.replicate k.toNat xs).flatten))
theorem len_rep {α : Type} (xs : List α) (k : Nat) : (List.replicate k xs).flatten.length = k * xs.length := by
  induction k with
  | zero => simp
  | succ k ih => rw [List.replicate_succ, List.flatten_cons, List.length_append, ih, Nat.succ_mul, Nat.add_comm]
theorem op_rep : OpR X (binaryOp .Mult) rRep := by
  intro pins s σ H x y v u Q I rx ry h
  obtain ⟨l, k, xs, rfl, rfl, hH, h1, h2, hz, q⟩ := h
  cases rx
  obtain ⟨t, rfl⟩ := ry
  obtain ⟨z, its, n, r, hl, e⟩ := I.lstM hH
  have hlen : its.toArray.size * k.toNat ≤ sizeLine := by rw [List.size_toArray, ← hl]; exact hz
  have hcap : ¬ its.toArray.size * k.toNat > (2 ^ 63 - 1) / 8 := by
    have : (sizeLine : Nat) ≤ (2 ^ 63 - 1) / 8 := by decide
    omega
  have hfit : ¬ (!Builtin.List.listFitsIndex k) = true := by
    rw [fitsIndex_both h1 h2]
    exact Bool.false_ne_true
  have hlong : ¬ Builtin.List.listTooLong (its.toArray.size * k.toNat) = true := by
    rw [notLongL hlen]
    exact Bool.false_ne_true
  have hnew : List.foldl (fun x1 x2 => x1 ++ x2) #[] (List.replicate (if its.toArray.isEmpty = true then 0 else k.toNat) its.toArray) = (List.replicate k.toNat its).flatten.toArray := by
    have f0 : ∀ m : Nat, List.foldl (fun x1 x2 => x1 ++ x2) #[] (List.replicate m its.toArray) = (List.replicate m its).flatten.toArray := fun m => by
      have := foldl_rep its m []
      rw [List.nil_append] at this
      exact this
    rw [f0]
    cases its with
    | nil => simp
    | cons a r' => rw [if_neg (by simp)]
  refine wpAny_binaryOp_repeat_ref (T := "list") (U := "int") (by decide) ⟨_, e, rfl⟩ (fun s' => typeIs_int s' k t) noFill_list_mul F.fills_int_mul F.slot_int_rmul repeat_list F.slot_int_index.lookup
    (call_meets F.slot_int_rmul (typeIs_int s k t) F.entry_int_rmul (F.args_int_rmul_2 _ _) (int___rmul___int_list k t l its.toArray n)
      ⟨e, rfl, ⟨_, e, rfl⟩, call_meets F.slot_list_mul ⟨_, e, rfl⟩ F.entry_list_mul (F.args_list_mul_2 _ _) (AutoListH.list___mul___list_int_3 l its.toArray n k t hfit hcap hlong) ⟨e, ?_⟩⟩)
  rw [hnew]
  exact ⟨.ref _, _, I.lnew (t' := s.toks) (r.rep k.toNat) (by rw [len_rep, Nat.mul_comm]; exact hz), rfl, q _ I.fresh⟩

/-! ### del xs[i] -/
end

/-! ### xs[a:b] = ys -/
section
variable {prog : Program} {w : World} {A : Around} {E : Value → Shared → Prop} {s : Shared}
set_option maxRecDepth 100000 in
end

section
variable {X : Cx}
end
end L2

namespace L2
open PySem PySem.Spec PyProof.Rows

theorem Vals.ints : ∀ {ns : List Int} {us : List Value}, Vals (ns.map V.int) us → IntsAre us ns
  | [], us, h => by
    rw [List.map_nil] at h
    cases h
    exact IntsAre.nil
  | n :: ns, us, h => by
    rw [List.map_cons] at h
    cases h with
    | cons r t =>
      obtain ⟨k, rfl⟩ := r
      exact IntsAre.cons n k (Vals.ints t)
theorem Vals.strs : ∀ {xs : List Str} {us : List Value}, Vals (xs.map V.str) us → StrsAre us xs
  | [], us, h => by
    rw [List.map_nil] at h
    cases h
    exact StrsAre.nil
  | x :: xs, us, h => by
    rw [List.map_cons] at h
    cases h with
    | cons r t =>
      obtain ⟨k, rfl⟩ := r
      exact StrsAre.cons x k (Vals.strs t)
/-! ### the library's walks over a list of ints, kept objects alone -/
section
variable {prog : Program} {w : World} {A : Around} {E : Value → Shared → Prop} {s : Shared} {l : Addr} {its : List Value} {ns : List Int} {Q : Value → Shared → Prop}
end

/-! ### the calls, by values (CallR of 03t; MtR of 06l) -/
section
variable {X : Cx}
/-- sum(xs) of a list of ints -/
def rSum (K : PySem.W.Frag) : List V → Hp → VK → Prop := fun vs H Q => ∃ (a : Addr) (ns : List Int), vs = [V.ref a] ∧ SqL K H a (ns.map V.int) ∧ Q (.int ns.sum) H
/-- max(xs), min(xs) of a list of ints -/
def rMax (K : PySem.W.Frag) : List V → Hp → VK → Prop := fun vs H Q => ∃ (a : Addr) (ns : List Int), vs = [V.ref a] ∧ SqL K H a (ns.map V.int) ∧ 0 < ns.length ∧ ∀ m, m ∈ ns → (∀ y, y ∈ ns → y ≤ m) → Q (.int m) H
def rMin (K : PySem.W.Frag) : List V → Hp → VK → Prop := fun vs H Q => ∃ (a : Addr) (ns : List Int), vs = [V.ref a] ∧ SqL K H a (ns.map V.int) ∧ 0 < ns.length ∧ ∀ m, m ∈ ns → (∀ y, y ∈ ns → m ≤ y) → Q (.int m) H
/-! sorted, sort (fewer than 64 items: the library's own bound) -/
def rSorted (K : PySem.W.Frag) : List V → Hp → VK → Prop := fun vs H Q => ∃ (a : Addr) (ns : List Int), vs = [V.ref a] ∧ SqL K H a (ns.map V.int) ∧ ns.length < 64 ∧
  ∀ (ns' : List Int) (p : Addr), ns'.Perm ns → ns'.Pairwise (· ≤ ·) → H p = none → Q (.ref p) (upd H p (.lst (ns'.map V.int)))
def rSortedS (K : PySem.W.Frag) : List V → Hp → VK → Prop := fun vs H Q => ∃ (a : Addr) (xs : List Str), vs = [V.ref a] ∧ SqL K H a (xs.map V.str) ∧ xs.length < 64 ∧
  ∀ (ys : List Str) (p : Addr), ys.Perm xs → sortedS ys = true → H p = none → Q (.ref p) (upd H p (.lst (ys.map V.str)))
/-- xs.sort(), ints -/
def rSort : V → List V → Hp → VK → Prop := fun x xs H Q => ∃ (a : Addr) (ns : List Int), x = V.ref a ∧ xs = [] ∧ H a = some (.lst (ns.map V.int)) ∧ ns.length < 64 ∧
  ∀ ns' : List Int, ns'.Perm ns → ns'.Pairwise (· ≤ ·) → Q .non (upd H a (.lst (ns'.map V.int)))
end

/-! ### list.index, flat items -/
section
variable {X : Cx}
def rIndex (K : PySem.W.Frag) : V → List V → Hp → VK → Prop := fun x xs H Q => ∃ (a : Addr) (ys : List V) (y : V) (j : Nat) (z : V), x = V.ref a ∧ xs = [y] ∧ SqL K H a ys ∧ flatV y = true ∧ ys.all flatV = true ∧ ys[j]? = some z ∧ eqV z y = true ∧
  (∀ (m : Nat) (z' : V), m < j → ys[m]? = some z' → eqV z' y = false) ∧ Q (.int (j : Nat)) H
end

/-! ### type(x) of an own instance; is, is not of a module's class -/
section
variable {X : Cx}
end

/-! ### any(xs), all(xs) of a list of bools -/
section
variable {X : Cx}
def rAny (K : PySem.W.Frag) : List V → Hp → VK → Prop := fun vs H Q => ∃ (a : Addr) (bs : List Bool), vs = [V.ref a] ∧ SqL K H a (bs.map V.bl) ∧ Q (.bl (bs.any id)) H
def rAll (K : PySem.W.Frag) : List V → Hp → VK → Prop := fun vs H Q => ∃ (a : Addr) (bs : List Bool), vs = [V.ref a] ∧ SqL K H a (bs.map V.bl) ∧ Q (.bl (bs.all id)) H
end

/-! ### == and != of data at any depth: none, bools, ints, texts, lists, tuples -/
mutual
inductive Dp (K : PySem.W.Frag) (H : Hp) : V → PyData → Prop
  | non : Dp K H .non .none
  | bl (b : Bool) : Dp K H (.bl b) (.bool b)
  | int (i : Int) : Dp K H (.int i) (.int i)
  | str (x : Str) : Dp K H (.str x) (.str x)
  | lst {a : Addr} {xs : List V} {ds : List PyData} : SqL K H a xs → DpAll K H xs ds → Dp K H (.ref a) (.list ds)
  | tup {a : Addr} {xs : List V} {ds : List PyData} : SqT K H a xs → DpAll K H xs ds → Dp K H (.ref a) (.tuple ds)
inductive DpAll (K : PySem.W.Frag) (H : Hp) : List V → List PyData → Prop
  | nil : DpAll K H [] []
  | cons {v : V} {vs : List V} {d : PyData} {ds : List PyData} : Dp K H v d → DpAll K H vs ds → DpAll K H (v :: vs) (d :: ds)
end
section
variable {X : Cx} {pins : List (Addr × Obj)} {σ : St} {H : Hp} {s : Shared}
mutual
theorem Dp.reads (I : Inv X pins σ H s) : ∀ (d : PyData) (v : V) (u : Value), Dp X.K H v d → RelV v u → ∃ as, Reads s.heap u d as
  | .none, _, _, h, r => by
    cases h
    cases r
    exact ⟨_, Reads.none⟩
  | .bool b, _, _, h, r => by
    cases h
    cases r
    exact ⟨_, Reads.bool b⟩
  | .int i, _, _, h, r => by
    cases h
    obtain ⟨t, rfl⟩ := r
    exact ⟨_, Reads.int i t⟩
  | .str x, _, _, h, r => by
    cases h
    obtain ⟨t, rfl⟩ := r
    exact ⟨_, Reads.str x t⟩
  | .list ds, _, _, h, r => by
    cases h with
    | lst hs ha =>
      cases r
      obtain ⟨its, rv, ⟨o, n, ho, hc, _, hd⟩, _⟩ := I.list hs
      obtain ⟨as, hr⟩ := Dp.readsAll I ds _ its ha rv
      exact ⟨_, Reads.list ho hc hd hr⟩
  | .tuple ds, _, _, h, r => by
    cases h with
    | tup hs ha =>
      cases r
      obtain ⟨its, rv, ⟨o, ho, hc, n, hd⟩, _⟩ := I.tuple hs
      obtain ⟨as, hr⟩ := Dp.readsAll I ds _ its ha rv
      exact ⟨_, Reads.tuple ho hc hd hr⟩
  | .dict _, _, _, h, _ => by cases h
theorem Dp.readsAll (I : Inv X pins σ H s) : ∀ (ds : List PyData) (vs : List V) (us : List Value), DpAll X.K H vs ds → Vals vs us → ∃ as, ReadsAll s.heap us ds as
  | [], _, _, h, r => by
    cases h
    cases r
    exact ⟨_, ReadsAll.nil⟩
  | d :: ds, _, _, h, r => by
    cases h with
    | cons h1 h2 =>
      cases r with
      | cons r1 r2 =>
        obtain ⟨as, q1⟩ := Dp.reads I d _ _ h1 r1
        obtain ⟨bs, q2⟩ := Dp.readsAll I ds _ _ h2 r2
        exact ⟨_, ReadsAll.cons q1 q2⟩
end
end
section
variable {X : Cx}
def rEqD (K : PySem.W.Frag) : R2 := fun x y H Q => ∃ d e, Dp K H x d ∧ Dp K H y e ∧ SeqAt.shaped d = true ∧ SeqAt.shaped e = true ∧ Q (.bl (PyData.eqv d e)) H
def rNeD (K : PySem.W.Frag) : R2 := fun x y H Q => ∃ d e, Dp K H x d ∧ Dp K H y e ∧ SeqAt.shaped d = true ∧ SeqAt.shaped e = true ∧ Q (.bl (!PyData.eqv d e)) H
theorem op_eqD (hu : X.A.units + 64 < cLine) : OpR X (compareOp .Eq) (rEqD X.K) := by
  intro pins s σ H x y v u Q I rx ry h
  obtain ⟨d, e, hd, he, sd, se, q⟩ := h
  obtain ⟨as, r1⟩ := Dp.reads I d x v hd rx
  obtain ⟨bs, r2⟩ := Dp.reads I e y u he ry
  exact SeqAt.compareEq_shaped r1 r2 sd se hu ⟨.bl _, H, I, rfl, q⟩
theorem op_neD (hu : X.A.units + 64 < cLine) : OpR X (compareOp .NotEq) (rNeD X.K) := by
  intro pins s σ H x y v u Q I rx ry h
  obtain ⟨d, e, hd, he, sd, se, q⟩ := h
  obtain ⟨as, r1⟩ := Dp.reads I d x v hd rx
  obtain ⟨bs, r2⟩ := Dp.reads I e y u he ry
  exact SeqAt.compareNe_shaped r1 r2 sd se hu ⟨.bl _, H, I, rfl, q⟩
end
end L2

namespace L2
open PySem PySem.Spec PyProof.Rows
abbrev CellAt (h : Heap) (c : Addr) (v : Option Value) : Prop := h.IsCell c v
def relS (scope sc : Scope) : Scope :=
  { scope with names := scope.names.map fun (n, k) => if (k == .free && sc.kind == .function && sc.names.lookup n == some .cell) then (n, .cell) else (n, k) }

def cloFrom (cells : List (Str × Addr)) : List (Str × NameKind) → List (Str × Addr) → List (Str × Addr)
  | [], acc => acc
  | (n, k) :: r, acc => if k == .free then cloFrom cells r ((n, (cells.lookup n).getD 0) :: acc) else cloFrom cells r acc

theorem closure_loop (env : Env) (f : Str × NameKind → List (Str × Addr) → Sem (ForInStep (List (Str × Addr))))
    (hf : ∀ n k c, f (n, k) c = if k == .free then (do let a ← cellOf env n; pure (.yield ((n, a) :: c))) else pure (.yield c)) :
    ∀ (names : List (Str × NameKind)) (acc : List (Str × Addr)), (∀ y ∈ names, y.2 = .free → ∃ c, env.cells.lookup y.1 = some c) → forIn names acc f = pure (cloFrom env.cells names acc)
  | [], acc, _ => by rw [List.forIn_nil]; rfl
  | (n, k) :: r, acc, h => by
    rw [List.forIn_cons, hf]
    have ih := fun acc => closure_loop env f hf r acc fun y hy => h y (List.mem_cons_of_mem _ hy)
    unfold cloFrom
    by_cases hk : (k == NameKind.free) = true
    · rw [if_pos hk, if_pos hk]
      obtain ⟨c, hc⟩ := h (n, k) List.mem_cons_self (by simpa using hk)
      have e : cellOf env n = pure c := by unfold cellOf; rw [hc]
      rw [e]
      have e2 : (env.cells.lookup n).getD 0 = c := by rw [hc]; rfl
      rw [e2]
      exact ih _
    · rw [if_neg hk, if_neg hk]
      exact ih _
theorem closure_ok {scope : Scope} {env : Env} (h : ∀ y ∈ scope.names, y.2 = .free → ∃ c, env.cells.lookup y.1 = some c) : closureFor scope env = pure (cloFrom env.cells scope.names []) := by
  simp only [closureFor]
  rw [closure_loop env _ (fun n k c => rfl) scope.names [] h]
  rfl

theorem mem_lookup {α : Type} : ∀ {l : List (Str × α)} {n : Str} {c : α}, (n, c) ∈ l → ∃ c', l.lookup n = some c'
  | (k, v) :: r, n, c, h => by
    rw [List.lookup_cons]
    cases hb : n == k with
    | true => exact ⟨_, rfl⟩
    | false =>
      rcases List.mem_cons.mp h with e | h
      · cases e; simp at hb
      · exact mem_lookup h

theorem cloFrom_mem {cells : List (Str × Addr)} : ∀ {names : List (Str × NameKind)} {acc : List (Str × Addr)} {n : Str} {c : Addr}, (n, c) ∈ cloFrom cells names acc → (n, c) ∈ acc ∨ ((n, .free) ∈ names ∧ c = (cells.lookup n).getD 0)
  | [], _, _, _, h => .inl h
  | (m, k) :: r, acc, n, c, h => by
    unfold cloFrom at h
    split at h
    · rename_i hk
      have hk : k = .free := by simpa using hk
      rcases cloFrom_mem h with h | ⟨h1, h2⟩
      · rcases List.mem_cons.mp h with e | h
        · cases e; exact .inr ⟨hk ▸ List.mem_cons_self, rfl⟩
        · exact .inl h
      · exact .inr ⟨List.mem_cons_of_mem _ h1, h2⟩
    · rcases cloFrom_mem h with h | ⟨h1, h2⟩
      · exact .inl h
      · exact .inr ⟨List.mem_cons_of_mem _ h1, h2⟩
theorem cloFrom_acc {cells : List (Str × Addr)} : ∀ {names : List (Str × NameKind)} {acc : List (Str × Addr)} {p : Str × Addr}, p ∈ acc → p ∈ cloFrom cells names acc
  | [], _, _, h => h
  | (m, k) :: r, acc, p, h => by
    unfold cloFrom
    split
    · exact cloFrom_acc (List.mem_cons_of_mem _ h)
    · exact cloFrom_acc h
theorem cloFrom_has {cells : List (Str × Addr)} : ∀ {names : List (Str × NameKind)} {acc : List (Str × Addr)} {n : Str}, (n, .free) ∈ names → (n, (cells.lookup n).getD 0) ∈ cloFrom cells names acc
  | (m, k) :: r, acc, n, h => by
    unfold cloFrom
    rcases List.mem_cons.mp h with e | h
    · cases e
      exact cloFrom_acc List.mem_cons_self
    · split
      · exact cloFrom_has h
      · exact cloFrom_has h

theorem cells_mem : ∀ {names : List (Str × NameKind)} {h : Heap} {acc : List (Str × Addr)} {x : Str} {c : Addr}, (x, c) ∈ cellsFrom h.objs.size names acc →
    (x, c) ∈ acc ∨ ((x, .cell) ∈ names ∧ h.objs.size ≤ c ∧ CellAt (pushCells h names) c none)
  | [], _, _, _, _, h => .inl h
  | (n, k) :: r, h, acc, x, c, hm => by
    unfold cellsFrom at hm
    unfold pushCells
    split at hm
    · rename_i hk
      rw [if_pos hk]
      have hk : k = .cell := by simpa using hk
      rw [← Heap.size_push h { cls := .type "cell", data := .cell none }] at hm
      rcases cells_mem hm with hm | ⟨h1, h2, h3⟩
      · rcases List.mem_cons.mp hm with e | hm
        · cases e
          exact .inr ⟨hk ▸ List.mem_cons_self, Nat.le_refl _, _, pushCells_keeps r _ _ _ (Heap.get?_push_size _ rfl), rfl⟩
        · exact .inl hm
      · rw [Heap.size_push] at h2
        exact .inr ⟨List.mem_cons_of_mem _ h1, Nat.le_of_succ_le h2, h3⟩
    · rename_i hk
      rw [if_neg hk]
      rcases cells_mem hm with hm | ⟨h1, h2, h3⟩
      · exact .inl hm
      · exact .inr ⟨List.mem_cons_of_mem _ h1, h2, h3⟩
theorem cells_acc : ∀ {names : List (Str × NameKind)} {n : Nat} {acc : List (Str × Addr)} {p : Str × Addr}, p ∈ acc → p ∈ cellsFrom n names acc
  | [], _, _, _, h => h
  | (m, k) :: r, n, acc, p, h => by
    unfold cellsFrom
    split
    · exact cells_acc (List.mem_cons_of_mem _ h)
    · exact cells_acc h
theorem cells_has : ∀ {names : List (Str × NameKind)} {n : Nat} {acc : List (Str × Addr)} {x : Str}, (x, .cell) ∈ names → ∃ c, (x, c) ∈ cellsFrom n names acc
  | (m, k) :: r, n, acc, x, h => by
    unfold cellsFrom
    rcases List.mem_cons.mp h with e | h
    · cases e
      exact ⟨n, cells_acc List.mem_cons_self⟩
    · split
      · exact cells_has h
      · exact cells_has h
theorem cells_inj : ∀ {names : List (Str × NameKind)} {h : Heap} {acc : List (Str × Addr)} {x y : Str} {c : Addr}, (∀ p ∈ acc, p.2 < h.objs.size) → (∀ x y c, (x, c) ∈ acc → (y, c) ∈ acc → x = y) →
    (x, c) ∈ cellsFrom h.objs.size names acc → (y, c) ∈ cellsFrom h.objs.size names acc → x = y
  | [], _, _, _, _, _, _, hi, h1, h2 => hi _ _ _ h1 h2
  | (n, k) :: r, h, acc, x, y, c, hl, hi, h1, h2 => by
    unfold cellsFrom at h1 h2
    split at h1
    · rename_i hk
      rw [if_pos hk] at h2
      rw [← Heap.size_push h { cls := .type "cell", data := .cell none }] at h1 h2
      refine cells_inj (h := h.push _) (fun p hp => ?_) (fun x y c a b => ?_) h1 h2
      · rw [Heap.size_push]
        rcases List.mem_cons.mp hp with rfl | hp
        · exact Nat.lt_succ_self _
        · exact Nat.lt_succ_of_lt (hl p hp)
      · rcases List.mem_cons.mp a with e | a <;> rcases List.mem_cons.mp b with e' | b
        · cases e; cases e'; rfl
        · cases e; exact absurd (hl _ b) (Nat.lt_irrefl _)
        · cases e'; exact absurd (hl _ a) (Nat.lt_irrefl _)
        · exact hi _ _ _ a b
    · rename_i hk
      rw [if_neg hk] at h2
      exact cells_inj hl hi h1 h2

theorem newEnv_comp {M : Model} {A : Around} {E : Value → Shared → Prop} {s : Shared} {scope : Scope} {globals : Addr} {closure : List (Str × Addr)} {qual : Str} {func : Option Addr} {code : Value} {around : Env} {builtins : Addr} {Q : Env → Shared → Prop}
    (h : Q (newEnv scope s.heap.objs.size globals (cellsFrom (s.heap.objs.size + 1) scope.names closure) qual func code (some around) builtins)
      { s with heap := pushCells (s.heap.push { cls := .type "dict", data := .dict #[] }) scope.names }) :
    wpAny M A (newFunctionEnv scope globals closure [] qual func code (some around) builtins) Q E s := by
  simp only [newFunctionEnv, Option.isSome_some, if_true]
  refine wpAny_bind (wpAny_alloc ?_)
  refine wpAny_bind (wpAny_layCells _ (fun n k c => rfl) scope.names closure _ _ ?_)
  rw [show ({ s with heap := s.heap.push { cls := .type "dict", data := .dict #[] } } : Shared).heap.objs.size = s.heap.objs.size + 1 from Heap.size_push ..]
  rw [List.forIn_nil]
  exact wpAny_bind (wpAny_pure (wpAny_pure h))

/-- every name of the written scope, in the scope that runs -/
theorem lookup_relS {sc : Scope} : ∀ {names : List (Str × NameKind)} {x : Str} {k : NameKind},
    (names.map fun (n, k) => if (k == NameKind.free && sc.kind == .function && sc.names.lookup n == some .cell) then (n, NameKind.cell) else (n, k)).lookup x = some k →
    ∃ k', names.lookup x = some k' ∧ (k = k' ∨ (k' = .free ∧ k = .cell))
  | [], _, _, h => by simp at h
  | (n, k₀) :: r, x, k, h => by
    have ih := @lookup_relS sc r x k
    have h' : List.lookup x ((if (k₀ == NameKind.free && sc.kind == .function && sc.names.lookup n == some .cell) = true then (n, NameKind.cell) else (n, k₀)) :: (r.map _)) = some k := h
    cases hx : x == n with
    | true =>
      simp only [List.lookup_cons, hx]
      by_cases hc : (k₀ == NameKind.free && sc.kind == .function && sc.names.lookup n == some .cell) = true
      · rw [if_pos hc] at h'
        simp only [List.lookup_cons, hx] at h'
        cases h'
        simp only [Bool.and_eq_true, beq_iff_eq] at hc
        exact ⟨k₀, rfl, .inr ⟨hc.1.1, rfl⟩⟩
      · rw [if_neg hc] at h'
        simp only [List.lookup_cons, hx] at h'
        cases h'
        exact ⟨_, rfl, .inl rfl⟩
    | false =>
      simp only [List.lookup_cons, hx]
      by_cases hc : (k₀ == NameKind.free && sc.kind == .function && sc.names.lookup n == some .cell) = true
      · rw [if_pos hc] at h'
        simp only [List.lookup_cons, hx] at h'
        exact ih h'
      · rw [if_neg hc] at h'
        simp only [List.lookup_cons, hx] at h'
        exact ih h'
/-- the names of a comprehension's block: its own (with their places in N), or captured -/
structure BlkOk (N : List Str) (sc scope : Scope) (own : List (Str × Nat)) : Prop where
  kind : scope.kind = .function
  uniq : ∀ y ∈ scope.names, scope.names.lookup y.1 = some y.2
  ix : ∀ p ∈ own, N[p.2]? = some p.1
  free : ∀ y ∈ scope.names, y.2 = .free → sc.names.lookup y.1 = some .cell ∨ sc.names.lookup y.1 = some .free
  own : ∀ y ∈ scope.names, y.2 = .local ∨ y.2 = .cell → y.1 ∈ own.map (·.1) ∨ y.1 ∉ N
/-- the slots of the block's own names forgotten -/
def wipe (σ : St) : List Nat → St
  | [] => σ
  | v :: vs => (wipe σ vs).set v none
theorem wipe_length (σ : St) : ∀ vs : List Nat, (wipe σ vs).length = σ.length
  | [] => rfl
  | v :: vs => by unfold wipe; rw [List.length_set, wipe_length σ vs]
theorem wipe_some {σ : St} {i : Nat} {x : V} : ∀ {vs : List Nat}, (wipe σ vs)[i]? = some (some x) → σ[i]? = some (some x) ∧ i ∉ vs
  | [], h => ⟨h, by simp⟩
  | v :: vs, h => by
    unfold wipe at h
    by_cases hi : v = i
    · subst hi
      by_cases hv : v < (wipe σ vs).length
      · rw [List.getElem?_set_self hv] at h; cases h
      · rw [List.getElem?_eq_none (by simpa using hv)] at h; cases h
    · rw [List.getElem?_set_ne hi] at h
      obtain ⟨h1, h2⟩ := wipe_some h
      exact ⟨h1, by simp only [List.mem_cons, not_or]; exact ⟨fun e => hi e.symm, h2⟩⟩

/-- the context of a block that starts at s, its iterator's objects at fp -/
abbrev Cx.blk (X : Cx) (s : Shared) (H : Hp) (scope : Scope) (cenv : Env) (fp : List Addr) : Cx := { X with s_0 := s, H_0 := H, env := cenv, outer := X.stack, ex := fp, fn := fun x => scope.names.lookup x == some .cell, pn := [], xe := fun _ _ => False }
section
variable {X : Cx} {pins : List (Addr × Obj)} {σ : St} {H : Hp} {s : Shared}
theorem block_start {scope : Scope} {own : List (Str × Nat)} {fp : List Addr} (I : Inv X pins σ H s) (ok : BlkOk X.N X.env.scope scope own) (hN : X.N.Nodup) (hfp : ∀ b ∈ fp, FpOk X pins H b ∧ b < s.heap.objs.size) :
    Inv (X.blk s H scope (compEnvC scope (cellsFrom (s.heap.objs.size + 1) scope.names (cloFrom X.env.cells scope.names [])) s.heap.objs.size X.env) fp) [] (wipe σ (own.map (·.2))) H { s with heap := pushCells (s.heap.push { cls := .type "dict", data := .dict #[] }) scope.names } := by
  have hfree : ∀ y ∈ scope.names, y.2 = .free → ∃ c, X.env.cells.lookup y.1 = some c := fun y hy e => by
    rcases ok.free y hy e with k | k
    · exact I.ok.has _ (.inl k)
    · exact I.ok.has _ (.inr k)
  generalize hcenv : compEnvC scope (cellsFrom (s.heap.objs.size + 1) scope.names (cloFrom X.env.cells scope.names [])) s.heap.objs.size X.env = cenv
  have kp : ∀ b o, s.heap.get? b = some o → (pushCells (s.heap.push { cls := .type "dict", data := .dict #[] }) scope.names).get? b = some o := fun b o e => pushCells_keeps _ _ _ _ (Heap.get?_push_of_some _ e)
  have hL : cenv.locals = s.heap.objs.size := by rw [← hcenv]; rfl
  have hcl : cenv.cells = cellsFrom (s.heap.objs.size + 1) scope.names (cloFrom X.env.cells scope.names []) := by rw [← hcenv]; rfl
  have hsc : cenv.scope = relS scope X.env.scope := by rw [← hcenv]; rfl
  rw [← Heap.size_push s.heap { cls := .type "dict", data := .dict #[] }] at hcl
  have cm : ∀ {y c}, (y, c) ∈ cloFrom X.env.cells scope.names [] → X.env.cells.lookup y = some c ∧ c < s.heap.objs.size := fun {y c} hm => by
    rcases cloFrom_mem hm with hm | ⟨h1, rfl⟩
    · cases hm
    · obtain ⟨c, hc⟩ := hfree _ h1 rfl
      rw [hc]
      obtain ⟨w, z⟩ := I.cell _ _ hc
      exact ⟨rfl, z.lt⟩
  have mem : ∀ {y c}, cenv.cells.lookup y = some c → (X.env.cells.lookup y = some c ∧ c < s.heap.objs.size) ∨ (s.heap.objs.size + 1 ≤ c ∧ CellAt (pushCells (s.heap.push { cls := .type "dict", data := .dict #[] }) scope.names) c none) := fun {y c} e => by
    rw [hcl] at e
    rcases cells_mem (PySem.mem_of_lookup e) with hm | ⟨_, h2, h3⟩
    · exact .inl (cm hm)
    · rw [Heap.size_push] at h2; exact .inr ⟨h2, h3⟩
  have look : ∀ {y}, scope.names.lookup y = some .free → ∃ c, cenv.cells.lookup y = some c ∧ X.env.cells.lookup y = some c := fun {y} hl => by
    have hy : (y, NameKind.free) ∈ scope.names := PySem.mem_of_lookup hl
    obtain ⟨c', e'⟩ := mem_lookup (cells_acc (names := scope.names) (n := (s.heap.push { cls := .type "dict", data := .dict #[] }).objs.size) (cloFrom_has (cells := X.env.cells) (acc := []) hy))
    rw [← hcl] at e'
    refine ⟨c', e', ?_⟩
    rw [hcl] at e'
    rcases cells_mem (PySem.mem_of_lookup e') with hm | ⟨h1, _, _⟩
    · exact (cm hm).1
    · have := ok.uniq _ h1
      rw [hl] at this; cases this
  have okB : (X.blk s H scope cenv fp).Ok := by
    refine ⟨I.ok.mod, by show cenv.scope.kind = _; rw [hsc]; exact ok.kind, by show cenv.globals = _; rw [← hcenv]; exact I.ok.glob, by show cenv.builtins = _; rw [← hcenv]; exact I.ok.blt, by show s.heap.objs.size ≤ cenv.locals; rw [hL]; exact Nat.le_refl _,
      fun y z c e1 e2 => ?_, fun y hy => ?_, fun y c z e => ?_, I.ok.hd, I.ok.frames, .inl rfl, fun b hb => ⟨?_, fun y c e z => ?_⟩, I.bs, Nat.le_trans I.ok.bsz I.sz, fun b o e hb => ?_, fun b hb z => ?_, I.stack, I.stkFree, I.tb⟩
    · have e1 : cenv.cells.lookup y = some c := e1
      have e2 : cenv.cells.lookup z = some c := e2
      rw [hcl] at e1 e2
      refine cells_inj (fun p hp => ?_) (fun y z c a b => I.ok.inj y z c (cm a).1 (cm b).1) (PySem.mem_of_lookup e1) (PySem.mem_of_lookup e2)
      rw [Heap.size_push]
      exact Nat.lt_succ_of_lt (cm (y := p.1) (c := p.2) hp).2
    · show ∃ c, cenv.cells.lookup y = some c
      have key : ∀ k, cenv.kindOf y = some k → (k = .cell ∨ k = .free) → ∃ c, cenv.cells.lookup y = some c := fun k hk hk' => by
        unfold Env.kindOf at hk
        rw [hsc] at hk
        obtain ⟨k', e, r⟩ := lookup_relS hk
        have : k' = .cell ∨ k' = .free := by
          rcases r with rfl | ⟨rfl, _⟩
          · exact hk'
          · exact .inr rfl
        rcases this with rfl | rfl
        · obtain ⟨c, hm⟩ := cells_has (n := (s.heap.push { cls := .type "dict", data := .dict #[] }).objs.size) (acc := cloFrom X.env.cells scope.names []) (PySem.mem_of_lookup e)
          obtain ⟨c', e'⟩ := mem_lookup hm
          exact ⟨c', by rw [hcl]; exact e'⟩
        · obtain ⟨c, h1, _⟩ := look e
          exact ⟨c, h1⟩
      rcases hy with hy | hy
      · exact key _ hy (.inl rfl)
      · exact key _ hy (.inr rfl)
    · have z : (scope.names.lookup y == some NameKind.cell) = true := z
      have z : scope.names.lookup y = some .cell := by simpa using z
      have e : cenv.cells.lookup y = some c := e
      rw [hcl] at e
      rcases cells_mem (PySem.mem_of_lookup e) with hm | ⟨_, h2, _⟩
      · rcases cloFrom_mem hm with hm | ⟨h1, _⟩
        · cases hm
        · have q := ok.uniq _ h1
          rw [z] at q; cases q
      · rw [Heap.size_push] at h2
        exact Nat.le_of_succ_le h2
    · show b ≠ cenv.locals
      rw [hL]; exact Nat.ne_of_lt (hfp b hb).2
    · have e : cenv.cells.lookup y = some c := e
      rcases mem e with ⟨h1, _⟩ | ⟨h1, _⟩
      · exact (hfp b hb).1.2.2.2.2.1 y c h1 z
      · have h2 : s.heap.objs.size + 1 ≤ b := by rw [← z]; exact h1
        exact absurd (Nat.lt_of_lt_of_le (hfp b hb).2 (Nat.le_of_succ_le h2)) (Nat.lt_irrefl _)
    · rcases (hfp b hb).1.2.2.2.1 with z | z
      · exact I.ok.noex b o e z
      · exact absurd (Nat.lt_of_lt_of_le (Heap.lt_size e) (Nat.le_trans I.ok.bsz z)) (Nat.lt_irrefl _)
    · rcases List.mem_cons.mp (I.stkSub b z) with z | z
      · exact (hfp b hb).1.2.1 z
      · exact (hfp b hb).1.2.2.1 z
  refine ⟨okB, rfl, I.bare, Un.kept kp, ⟨fun _ => none, ?_, fun i y av e1 e2 e3 => ?_⟩, fun y c e => ?_, ?_, fun y c e => ?_, fun p hp => ?_, I.hok.kept kp, by rw [wipe_length]; exact I.len⟩
  · show Heap.Ns _ cenv.locals _
    rw [hL]
    exact Heap.Ns.keeps (Heap.Ns.new ..) fun b o e => pushCells_keeps _ _ _ _ e
  · obtain ⟨e2, hne⟩ := wipe_some e2
    have hfr : scope.names.lookup y = some .free ∧ (cenv.kindOf y = some .cell ∨ cenv.kindOf y = some .free) := by
      have key : ∀ k, cenv.scope.names.lookup y = some k → k = .local ∨ k = .cell ∨ k = .free → scope.names.lookup y = some .free ∧ (cenv.kindOf y = some .cell ∨ cenv.kindOf y = some .free) := fun k hk hk' => by
        have hk0 := hk
        rw [hsc] at hk
        obtain ⟨k', e, r⟩ := lookup_relS hk
        have no : ¬ (k' = .local ∨ k' = .cell) := fun hh => by
          rcases ok.own _ (PySem.mem_of_lookup e) hh with e' | e'
          · obtain ⟨p, hp, hpy⟩ := List.mem_map.mp e'
            have e3 := ok.ix p hp
            have : p.1 = y := hpy
            rw [this] at e3
            exact hne (List.mem_map.mpr ⟨p, hp, nodup_ix hN e3 e1⟩)
          · exact e' (List.mem_of_getElem? e1)
        rcases r with rfl | ⟨rfl, rfl⟩
        · rcases hk' with rfl | rfl | rfl
          · exact absurd (.inl rfl) no
          · exact absurd (.inr rfl) no
          · exact ⟨e, .inr hk0⟩
        · exact ⟨e, .inl hk0⟩
      have e3 : Vis cenv.scope y := e3
      rcases e3 with e3 | e3 | e3
      · exact key _ e3 (.inl rfl)
      · exact key _ e3 (.inr (.inl rfl))
      · exact key _ e3 (.inr (.inr rfl))
    obtain ⟨m, hn, hl⟩ := I.loc
    have hvis : Vis X.env.scope y := (ok.free _ (PySem.mem_of_lookup hfr.1) rfl).elim (fun k => .inr (.inl k)) (fun k => .inr (.inr k))
    obtain ⟨w, r, q⟩ := hl i y av e1 e2 hvis
    refine ⟨w, r, .inr ⟨hfr.2, ?_⟩⟩
    obtain ⟨c, h1, h2⟩ := look hfr.1
    rcases q with ⟨k, _⟩ | ⟨_, c', e', z⟩
    · have k : X.env.scope.names.lookup y = some .local := k
      rcases ok.free _ (PySem.mem_of_lookup hfr.1) rfl with k' | k' <;> rw [show X.env.scope.names.lookup y = _ from k'] at k <;> cases k
    · rw [h2] at e'; cases e'
      exact ⟨c, h1, z.keeps kp⟩
  · have e : cenv.cells.lookup y = some c := e
    rcases mem e with ⟨h1, _⟩ | ⟨_, z⟩
    · obtain ⟨w, z⟩ := I.cell y c h1
      exact ⟨w, z.keeps kp⟩
    · exact ⟨_, z⟩
  · show H cenv.locals = none
    rw [hL]; exact I.hok.fresh (Nat.le_refl _)
  · have e : cenv.cells.lookup y = some c := e
    rcases mem e with ⟨h1, _⟩ | ⟨h1, _⟩
    · exact I.freeC y c h1
    · exact I.hok.fresh (Nat.le_of_succ_le h1)
  · exact absurd (show p ∈ ([] : List (Addr × Obj)) ++ [] from hp) (by simp)

/-- an item appended to a tracked list -/
theorem app_ok {E : Value → Shared → Prop} {D : Addr} {xs : List V} {y : V} {v : Value} {Q : Value → Shared → Prop} (I : Inv X pins σ H s) (hD : H D = some (.lst xs)) (hz : xs.length < sizeLine) (r : RelV y v)
    (h : ∀ s', Inv X pins σ (upd H D (.lst (xs ++ [y]))) s' → Q .none s') : wpAny (model X.prog X.w) X.A (call (.builtin "list.append") [.ref D, v]) Q E s := by
  obtain ⟨hz', its, n, ri, e⟩ := I.hok D _ hD
  have hl := ri.length
  refine append_at (hsz := by rw [List.size_toArray]; omega) e fun h' sb ho' => ?_
  refine h { s with heap := h' } (I.write (t' := s.toks) (by rw [hD]; trivial) (.inl rfl) (fun b u hb q => (sb.2 b hb).trans q) ⟨_, ho'⟩ ⟨by rw [List.length_append]; exact hz, its ++ [v], n + 1, ri.append (.cons r .nil), ?_⟩)
  rw [ho']
  simp

/-- a clause's tests -/
def PTs (X : Cx) (ifs : List Expr) (t : TT) : Prop :=
  ∀ (pins : List (Addr × Obj)) (s : Shared) (σ : St) (H : Hp) (Q : Bool → Hp → Prop), Inv X pins σ H s → t σ H Q →
    wpAny (model X.prog X.w) X.A (forIn ifs true fun c r => if r = true then do let ok ← isTrue c X.env (eval c X.env); pure (ForInStep.yield ok) else pure (ForInStep.yield r)) (TP X pins σ Q) X.xe s
def tYes : TT := fun _ H Q => Q true H
theorem pts_nil : PTs X [] tYes := fun _ _ _ H _ I h => wpAny_tests_nil ⟨H, I, h⟩
end

theorem thnF {α : Type} {t : Sem α} {Q Q' : α → Shared → Prop} {M : Model} {A : Around} {E : Value → Shared → Prop} {s : Shared} (h : wpAny M A t Q (fun _ _ => False) s) (hQ : ∀ a s, Q a s → Q' a s) : wpAny M A t Q' E s := wpAny_mono h hQ fun _ _ z => False.elim z

/-- the loop of a list comprehension's block, the target of any form (codeAny_compLoop_tests asks a target that no tuple goes to; statement and proof follow it, PyProof/CompMap.lean:41-61, with the step letOwnedTupleGo kept) -/
theorem compLoop_any {prog : Program} {w : World} {A : Around} {R : Result → Shared → Prop} {s : Shared} {elt target iter : Expr} {ifs : List Expr} {scope : Scope} {pos : Pos} {it acc : Value} {env : Env} (I : Nat → Shared → Prop)
    (turn : ∀ n s, I n s → wpAny (model prog w) A (pyNext it) (fun r s₁ => match r with
      | none => R (.ok .next) s₁
      | some v => wpAny (model prog w) A (letOwnedTupleGo target it v) (fun _ s₁' => wpAny (model prog w) A (assign target env v) (fun _ s₂ =>
          wpAny (model prog w) A (forIn ifs true fun c r => if r = true then do let ok ← isTrue c env (eval c env); pure (ForInStep.yield ok) else pure (ForInStep.yield r)) (fun ok s₃ =>
            if ok = true then wpAny (model prog w) A (eval elt env) (fun x s₄ =>
              wpAny (model prog w) A (call (.builtin "list.append") [acc, x]) (fun _ s₅ => ∃ m, m < n ∧ I m s₅) (notedBy (model prog w) A env fun e s' => R (.error e) s') s₄) (notedBy (model prog w) A env fun e s' => R (.error e) s') s₃
            else ∃ m, m < n ∧ I m s₃) (notedBy (model prog w) A env fun e s' => R (.error e) s') s₂) (notedBy (model prog w) A env fun e s' => R (.error e) s') s₁') (notedBy (model prog w) A env fun e s' => R (.error e) s') s₁) (notedBy (model prog w) A env fun e s' => R (.error e) s') s)
    (n : Nat) (h : I n s) :
    codeAny (model prog w) A (.compLoop (.ListComp elt [⟨target, iter, ifs, 0⟩] scope pos) 0 it acc env) R s := by
  refine codeAny_loop rfl I (fun n s hI => ?_) n h
  show wpAny _ A ((compTurn (.ListComp elt [⟨target, iter, ifs, 0⟩] scope pos) 0 it acc env).onRaise (fun x => do noteFrame x env; theTreesLotGoes x)) _ _ s
  refine wpAny_noted ?_
  rw [compTurn_list]
  refine wpAny_bind (wpAny_standAt (wpAny_bind (wpAny_mono (turn n s hI) (fun r s₁ h₁ => ?_) fun _ _ h' => h')))
  cases r with
  | none => exact wpAny_pure h₁
  | some v =>
    refine wpAny_bind (wpAny_mono h₁ (fun _ s₁' h₁' => ?_) fun _ _ h' => h')
    refine wpAny_bind (wpAny_mono h₁' (fun _ s₂ h₂ => wpAny_bind (wpAny_mono h₂ (fun ok s₃ h₃ => ?_) fun _ _ h' => h')) fun _ _ h' => h')
    cases ok with
    | false => exact wpAny_pure ⟨rfl, h₃⟩
    | true =>
      exact wpAny_bind (wpAny_bind (wpAny_mono h₃ (fun x s₄ h₄ => wpAny_bind (wpAny_mono h₄ (fun _ s₅ h₅ => wpAny_pure (wpAny_pure ⟨rfl, h₅⟩)) fun _ _ h' => h')) fun _ _ h' => h'))

section
variable {X : Cx}
/-- [elt for target in iter if ..]: D the new list; W by the turn and a measure, Nx what a turn is to reach -/
def tLc (wi : TI) (g : TG) (tt : TT) (te : TE) (vs : List Nat) : TE := fun σ H Q => wi σ H fun J H1 => ∀ D, H1 D = none → ∃ W : Nat → Nat → Hp → Prop, (∃ m, W 0 m (upd H1 D (.lst []))) ∧ ∀ i m H, W i m H →
  (J.stop i H ∧ Q (.ref D) H) ∨ (J.go i H ∧ ∃ Nx : Hp → Prop, (∀ H', Nx H' → ∃ m', m' < m ∧ W (i + 1) m' H') ∧ ∀ x H', J.yld i H x H' → g x (wipe σ vs) H' fun σ2 H2 => wipe σ2 vs = wipe σ vs ∧ tt σ2 H2 fun b H3 =>
    if b = true then te σ2 H3 fun y H4 => ∃ acc, H4 D = some (.lst acc) ∧ acc.length < sizeLine ∧ Nx (upd H4 D (.lst (acc ++ [y]))) else Nx H3)
theorem lc_core {pins : List (Addr × Obj)} {s : Shared} {σ : St} {H : Hp} {Q : VK} {elt tg iter : Expr} {ifs : List Expr} {scope : Scope} {own : List (Str × Nat)} {pos pos' : Pos} {wi : TI} {g : TG} {tt : TT} {te : TE} {use : Option (Value → Sem Unit)} {Qf : Value → Shared → Prop}
    (hc : X.calm = true) (hN : X.N.Nodup) (I : Inv X pins σ H s) (hi : PI X tg iter wi) (ok : BlkOk X.N X.env.scope scope own)
    (hg : ∀ (s : Shared) (H : Hp) (C : Addr) (cl : List (Str × Addr)) (fp : List Addr), PG (X.blk s H scope (compEnvC scope cl C X.env) fp) tg g) (ht : ∀ (s : Shared) (H : Hp) (C : Addr) (cl : List (Str × Addr)) (fp : List Addr), PTs (X.blk s H scope (compEnvC scope cl C X.env) fp) ifs tt)
    (he : ∀ (s : Shared) (H : Hp) (C : Addr) (cl : List (Str × Addr)) (fp : List Addr), PE (X.blk s H scope (compEnvC scope cl C X.env) fp) elt te) (hs : ∀ x, foldedSetIterable iter X.env x = pure x)
    (h : tLc wi g tt te (own.map (·.2)) σ H Q)
    (hRR : ∀ D C s' m H', Inv X pins σ H' s' → Q (.ref D) H' → s'.heap.Ns C m → FpOk X pins H' C → compPost (model X.prog X.w) X.A X.xe use Qf (.ref D) C (.ok .next) s') :
    wpAny (model X.prog X.w) X.A (comprehension (.ListComp elt [⟨tg, iter, ifs, 0⟩] scope pos) scope X.env pos' (newList []) false (eval iter X.env) use) Qf X.xe s := by
  have hfree : ∀ y ∈ scope.names, y.2 = .free → ∃ c, X.env.cells.lookup y.1 = some c := fun y hy e => by
    rcases ok.free y hy e with k | k
    · exact I.ok.has _ (.inl k)
    · exact I.ok.has _ (.inr k)
  refine wpAny_comprehension_free (use := use) rfl hs (closure_ok hfree) ok.kind (fun y hy e => by rw [ok.uniq y hy, e])
    (thn (hi pins s σ H _ I h) fun xv s1 hx => thn hx fun itv s2 h2 => ?_)
  obtain ⟨it, fp, tn, J, H2, e, I2, T, st2, f2, q⟩ := h2
  subst e
  refine wpAny_newObj_type (newEnv_comp ?_) (by show 0 ≤ sizeLine; decide)
  generalize hD : s2.heap.objs.size = D
  have hDn : H2 D = none := I2.hok.fresh (Nat.le_of_eq hD)
  obtain ⟨W, ⟨m0, w0⟩, turn⟩ := q D hDn
  -- the new list
  generalize hs3 : ({ s2 with heap := s2.heap.push { cls := .type "list", data := .seq ([] : List Value).toArray } } : Shared) = s3
  have I3 : Inv X pins σ (upd H2 D (.lst [])) s3 := by
    rw [← hs3]
    refine I2.laid (t' := s2.toks) (fun b o e => Heap.get?_push_of_some _ e) (Nat.le_of_eq hD) ⟨Nat.zero_le _, [], 0, .nil, ?_⟩
    rw [← hD]
    exact Heap.get?_push_size _ rfl
  have h3 : s3.heap = s2.heap.push { cls := .type "list", data := .seq ([] : List Value).toArray } := by rw [← hs3]
  have sz : ∀ b ∈ fp, b < s2.heap.objs.size := fun b hb => by
    obtain ⟨o, e, _⟩ := T.obj _ _ st2 b hb
    exact Heap.lt_size e
  have f3 : ∀ b ∈ fp, FpOk X pins (upd H2 D (.lst [])) b ∧ b < s3.heap.objs.size := fun b hb => by
    have hlt := sz b hb
    refine ⟨⟨?_, (f2 b hb).2⟩, by rw [h3, Heap.size_push]; exact Nat.lt_succ_of_lt hlt⟩
    rw [upd_ne (by rw [← hD]; exact Nat.ne_of_lt hlt)]
    exact (f2 b hb).1
  have st3 : tn 0 s3.heap := T.keep _ _ _ st2 fun b _ o e => by rw [h3]; exact Heap.get?_push_of_some _ e
  have I4 := block_start I3 ok hN f3
  have pg := hg s3 (upd H2 D (.lst [])) s3.heap.objs.size (cellsFrom (s3.heap.objs.size + 1) scope.names (cloFrom X.env.cells scope.names [])) fp
  have pt := ht s3 (upd H2 D (.lst [])) s3.heap.objs.size (cellsFrom (s3.heap.objs.size + 1) scope.names (cloFrom X.env.cells scope.names [])) fp
  have pe := he s3 (upd H2 D (.lst [])) s3.heap.objs.size (cellsFrom (s3.heap.objs.size + 1) scope.names (cloFrom X.env.cells scope.names [])) fp
  show codeAny _ _ (.compStart (.ListComp elt [⟨tg, iter, ifs, 0⟩] scope pos) 0 (.ref it) (.ref D) (compEnvC scope (cellsFrom (s3.heap.objs.size + 1) scope.names (cloFrom X.env.cells scope.names [])) s3.heap.objs.size X.env)) (compPost (model X.prog X.w) X.A X.xe use Qf (.ref D) s3.heap.objs.size) { s3 with heap := pushCells (s3.heap.push { cls := .type "dict", data := .dict #[] }) scope.names }
  have nfp : ∀ b ∈ fp, (upd H2 D (.lst [])) b = none := fun b hb => (f3 b hb).1.1
  generalize hce : compEnvC scope (cellsFrom (s3.heap.objs.size + 1) scope.names (cloFrom X.env.cells scope.names [])) s3.heap.objs.size X.env = ce at I4 pg pt pe ⊢
  have cL : ce.locals = s3.heap.objs.size := by subst hce; rfl
  generalize hH3 : upd H2 D (.lst []) = H3 at I3 I4 pg pt pe w0 nfp f3
  generalize hs4 : ({ s3 with heap := pushCells (s3.heap.push { cls := .type "dict", data := .dict #[] }) scope.names } : Shared) = s4 at I4 ⊢
  have st4 : tn 0 s4.heap := T.keep _ _ _ st3 fun b _ o e => by rw [← hs4]; exact pushCells_keeps _ _ _ _ (Heap.get?_push_of_some _ e)
  have stat : ∀ {σ' : St} {H' : Hp} {s' : Shared}, Inv (X.blk s3 H3 scope ce fp) [] σ' H' s' → (∀ b ∈ fp, H' b = none) → ∀ b ∈ fp, FpOk (X.blk s3 H3 scope ce fp) [] H' b := fun {σ' H' s'} I' hn b hb =>
    ⟨hn b hb, (I'.ok.exf b hb).1, I'.ok.exfs b hb, .inl hb, fun x c e => (I'.ok.exf b hb).2 x c e, fun p hp => absurd (show p ∈ ([] : List (Addr × Obj)) ++ [] from hp) (by simp)⟩
  have loop : codeAny (model X.prog X.w) X.A (.compLoop (.ListComp elt [⟨tg, iter, ifs, 0⟩] scope pos) 0 (.ref it) (.ref D) ce) (compPost (model X.prog X.w) X.A X.xe use Qf (.ref D) s3.heap.objs.size) s4 := by
    refine compLoop_any (fun n s' => ∃ i H', Inv (X.blk s3 H3 scope ce fp) [] (wipe σ (own.map (·.2))) H' s' ∧ tn i s'.heap ∧ (∀ b ∈ fp, H' b = none) ∧ W i n H') ?_ m0 ⟨0, H3, I4, st4, nfp, w0⟩
    rintro n s5 ⟨i, H5, I5, st5, n5, w5⟩
    rcases turn i n H5 w5 with ⟨stop, qq⟩ | ⟨go, Nx, hNx, step⟩
    · have td := T.done (X.blk s3 H3 scope ce fp) rfl rfl rfl hc i [] s5 _ H5 (fun _ _ => False) I5 (stat I5 n5) st5 stop
      refine thnF td fun r s6 ⟨hr, I6⟩ => ?_
      subst hr
      -- back in the def's context
      have I7 : Inv X pins σ H5 s6 := I3.call' (ch := fp) I6.os I6.base I6.hok I6.bare fun b hb => ⟨(f3 b hb).1.2.2.2.1, (f3 b hb).1.2.1, (f3 b hb).1.2.2.2.2.1, (f3 b hb).1.2.2.2.2.2⟩
      have nC : H5 s3.heap.objs.size = none := by
        have z : H5 ce.locals = none := I6.free
        rw [cL] at z
        exact z
      obtain ⟨m, hn, _⟩ := I6.loc
      have hn : s6.heap.Ns ce.locals m := hn
      rw [cL] at hn
      exact hRR D s3.heap.objs.size s6 m H5 I7 qq hn (I3.fpOk (Nat.le_refl _) nC)
    · have ti := T.item (X.blk s3 H3 scope ce fp) rfl rfl rfl hc i [] s5 _ H5 (fun _ _ => False) I5 (stat I5 n5) st5 go
      refine thnF ti fun r s6 ⟨u, hr, h6⟩ => ?_
      subst hr
      refine thnF h6 fun _ s7 ⟨x, H7, I7, r7, y7, st7, n7⟩ => ?_
      have I7' := I7.pinned (stat I7 n7) (T.obj _ _ st7)
      refine thnF (pg _ s7 _ H7 x u _ I7' r7 (step x H7 y7)) fun _ s8 ⟨σ8, H8, I8, hw8, q8⟩ => ?_
      refine thnF (pt _ s8 σ8 H8 _ I8 q8) fun b s9 ⟨H9, I9, q9⟩ => ?_
      -- the turn's end
      have fin : ∀ {s' : Shared} {H' : Hp}, Inv (X.blk s3 H3 scope ce fp) ([] ++ pinsAt fp s7.heap) σ8 H' s' → Nx H' → ∃ m, m < n ∧ ∃ i H', Inv (X.blk s3 H3 scope ce fp) [] (wipe σ (own.map (·.2))) H' s' ∧ tn i s'.heap ∧ (∀ b ∈ fp, H' b = none) ∧ W i m H' := fun {s' H'} I' nx => by
        obtain ⟨m', hm, w'⟩ := hNx H' nx
        have pin' : ∀ b ∈ fp, ∀ o, s7.heap.get? b = some o → s'.heap.get? b = some o ∧ H' b = none := fun b hb o e =>
          let z := I'.pin (b, o) (List.mem_append_right _ (List.mem_append_right _ (mem_pinsAt hb e)))
          ⟨z.1, z.2.1⟩
        have hl : (wipe σ (own.map (·.2))).length = σ8.length := by rw [← hw8, wipe_length]
        refine ⟨m', hm, i + 1, H', (I'.unpinned (pins := [])).weak hl (fun j v e => ?_), T.keep _ _ _ st7 fun b hb o e => (pin' b hb o e).1, fun b hb => ?_, w'⟩
        · rw [← hw8] at e
          exact (wipe_some e).1
        · obtain ⟨o, e, _⟩ := T.obj _ _ st7 b hb
          exact (pin' b hb o e).2
      cases b with
      | false =>
        simp only [Bool.false_eq_true, if_false] at q9 ⊢
        exact fin I9 q9
      | true =>
        simp only [if_true] at q9 ⊢
        refine thnF (pe _ s9 σ8 H9 _ I9 q9) fun z s10 ⟨yv, H10, I10, r10, acc, hD10, hz10, nx⟩ => ?_
        exact app_ok (X := X.blk s3 H3 scope ce fp) I10 hD10 hz10 r10 fun s11 I11 => fin I11 nx
  exact codeAny_compStart_list loop (T.self X.A 0 _ _ _ st4 loop)
/-- as a value -/
theorem pe_lc {elt tg iter : Expr} {ifs : List Expr} {scope : Scope} {own : List (Str × Nat)} {pos : Pos} {wi : TI} {g : TG} {tt : TT} {te : TE} (hc : X.calm = true) (hN : X.N.Nodup) (hi : PI X tg iter wi) (ok : BlkOk X.N X.env.scope scope own)
    (hg : ∀ (s : Shared) (H : Hp) (C : Addr) (cl : List (Str × Addr)) (fp : List Addr), PG (X.blk s H scope (compEnvC scope cl C X.env) fp) tg g) (ht : ∀ (s : Shared) (H : Hp) (C : Addr) (cl : List (Str × Addr)) (fp : List Addr), PTs (X.blk s H scope (compEnvC scope cl C X.env) fp) ifs tt)
    (he : ∀ (s : Shared) (H : Hp) (C : Addr) (cl : List (Str × Addr)) (fp : List Addr), PE (X.blk s H scope (compEnvC scope cl C X.env) fp) elt te) (hs : ∀ x, foldedSetIterable iter X.env x = pure x := by intro _; rfl) :
    PE X (.ListComp elt [⟨tg, iter, ifs, 0⟩] scope pos) (tLc wi g tt te (own.map (·.2))) := by
  intro pins s σ H Q I h
  rw [eval_ListComp]
  refine lc_core hc hN I hi ok hg ht he hs h fun D C s' m H' I' q hn f => ⟨m, hn, fun h'' sb => ?_⟩
  obtain ⟨f0, f1, f2, f3, f4, f5⟩ := f
  exact ⟨.ref D, H', I'.turned (t' := s'.toks) (fun b o hb e => (sb.2 b hb).trans e) f0 f1 f3 f4 f5, rfl, q⟩
end

/-! ### the forms one uses -/
def blkC (N : List Str) (sc scope : Scope) (own : List (Str × Nat)) : Bool :=
  (match scope.kind with | .function => true | _ => false) && (scope.names.all fun y => decide (scope.names.lookup y.1 = some y.2)) && (own.all fun p => decide (N[p.2]? = some p.1)) &&
    (scope.names.all fun y => match y.2 with
      | .free => (match sc.names.lookup y.1 with | some .cell => true | some .free => true | _ => false)
      | .local => decide (y.1 ∈ own.map (·.1)) || decide (y.1 ∉ N)
      | .cell => decide (y.1 ∈ own.map (·.1)) || decide (y.1 ∉ N)
      | _ => true)
theorem blkOk_by {N : List Str} {sc scope : Scope} {own : List (Str × Nat)} (h : blkC N sc scope own = true) : BlkOk N sc scope own := by
  unfold blkC at h
  simp only [Bool.and_eq_true, List.all_eq_true, decide_eq_true_eq] at h
  obtain ⟨⟨⟨h1, h2⟩, h3⟩, h4⟩ := h
  refine ⟨?_, h2, h3, fun y hy e => ?_, fun y hy e => ?_⟩
  · split at h1
    · assumption
    · cases h1
  · have q := h4 y hy
    simp only [e] at q
    split at q <;> first | exact .inl (by assumption) | exact .inr (by assumption) | cases q
  · have q := h4 y hy
    rcases e with e | e <;> (simp only [e, Bool.or_eq_true, decide_eq_true_eq] at q; exact q)
end L2

namespace L2
open PySem PySem.Spec PyProof.Rows

section
variable {prog : Program} {w : World} {A : Around} {R : Result → Shared → Prop} {s : Shared} {elt t0 i0 t1 i1 : Expr} {ifs0 ifs1 : List Expr} {scope : Scope} {pos : Pos} {it acc : Value} {env : Env}
end

section
variable {X : Cx}
/-- [elt for tg in iter if .. for tg1 in iter1 if ..]: behind the first clause's store and tests the second source's own loop, from which Nx is reached. vs: the block's names; vs1: those of the second target -/
def tLc2 (wi : TI) (g : TG) (tt : TT) (wi1 : TI) (g1 : TG) (tt1 : TT) (te : TE) (vs vs1 : List Nat) : TE := fun σ H Q => wi σ H fun J H1 => ∀ D, H1 D = none → ∃ W : Nat → Nat → Hp → Prop, (∃ m, W 0 m (upd H1 D (.lst []))) ∧ ∀ i m H, W i m H →
  (J.stop i H ∧ Q (.ref D) H) ∨ (J.go i H ∧ ∃ Nx : Hp → Prop, (∀ H', Nx H' → ∃ m', m' < m ∧ W (i + 1) m' H') ∧ ∀ x H', J.yld i H x H' → g x (wipe σ vs) H' fun σ2 H2 => wipe σ2 vs = wipe σ vs ∧ tt σ2 H2 fun b H3 =>
    if b = true then wi1 σ2 H3 fun J1 H4 => ∃ W1 : Nat → Nat → Hp → Prop, (∃ m, W1 0 m H4) ∧ ∀ j k H, W1 j k H →
      (J1.stop j H ∧ Nx H) ∨ (J1.go j H ∧ ∃ Nx1 : Hp → Prop, (∀ H', Nx1 H' → ∃ k', k' < k ∧ W1 (j + 1) k' H') ∧ ∀ x H', J1.yld j H x H' → g1 x (wipe σ2 vs1) H' fun σ3 H5 => wipe σ3 vs1 = wipe σ2 vs1 ∧ tt1 σ3 H5 fun b H6 =>
        if b = true then te σ3 H6 fun y H7 => ∃ acc, H7 D = some (.lst acc) ∧ acc.length < sizeLine ∧ Nx1 (upd H7 D (.lst (acc ++ [y]))) else Nx1 H6)
    else Nx H3)
end
end L2

namespace L2
open PySem PySem.Spec PyProof.Rows

/-! ### lists of pairs as tables -/
section
variable {κ : Type} [DecidableEq κ]
def valV (kvs : List (κ × V)) (k : κ) : Option V := (kvs.find? fun kv => decide (kv.1 = k)).map (·.2)
/-- in its place, or at the end -/
def putK (kvs : List (κ × V)) (k : κ) (v : V) : List (κ × V) :=
  if (kvs.any fun kv => decide (kv.1 = k)) = true then kvs.map (fun kv => if kv.1 = k then (kv.1, v) else kv) else kvs ++ [(k, v)]
def dropK (kvs : List (κ × V)) (k : κ) : List (κ × V) := kvs.filter fun kv => decide (kv.1 ≠ k)

theorem valV_pos {p : κ × V} {r : List (κ × V)} {k : κ} (e : p.1 = k) : valV (p :: r) k = some p.2 := by simp [valV, List.find?_cons, e]
theorem valV_neg {p : κ × V} {r : List (κ × V)} {k : κ} (e : ¬ p.1 = k) : valV (p :: r) k = valV r k := by simp [valV, List.find?_cons, e]
theorem valV_any (k : κ) : ∀ kvs : List (κ × V), (kvs.any fun kv => decide (kv.1 = k)) = (valV kvs k).isSome
  | [] => rfl
  | p :: r => by
    rw [List.any_cons]
    by_cases e : p.1 = k
    · simp only [valV_pos e, decide_eq_true e, Bool.true_or, Option.isSome_some]
    · rw [valV_neg e, decide_eq_false e, Bool.false_or]; exact valV_any k r
theorem RelO.isSome_eq {o : Option V} {u : Option Value} (r : RelO o u) : o.isSome = u.isSome := by
  cases o with
  | none => cases u with
    | none => rfl
    | some _ => exact (show False from r).elim
  | some _ => cases u with
    | none => exact (show False from r).elim
    | some _ => rfl
theorem RelO.getD {o : Option V} {u : Option Value} {d : V} {d' : Value} (r : RelO o u) (rd : RelV d d') : RelV (o.getD d) (u.getD d') := by
  cases o with
  | none => cases u with
    | none => exact rd
    | some _ => exact (show False from r).elim
  | some _ => cases u with
    | none => exact (show False from r).elim
    | some _ => exact r

/-- raw tables of the same keys -/
theorem KV.val {kvs : List (κ × V)} {vs : List (κ × Value)} (r : KV kvs vs) (k : κ) : RelO (valV kvs k) (valueAt vs k) := by
  unfold KV at r
  induction r with
  | nil => exact True.intro
  | @cons p q ps qs h t ih =>
    obtain ⟨h1, h2⟩ := h
    by_cases e : p.1 = k
    · have e' : q.1 = k := h1.symm.trans e
      have b : valueAt (q :: qs) k = some q.2 := by simp [valueAt, List.find?_cons, e']
      rw [valV_pos e, b]; exact h2
    · have e' : ¬ q.1 = k := fun z => e (h1.trans z)
      have b : valueAt (q :: qs) k = valueAt qs k := by simp [valueAt, List.find?_cons, e']
      rw [valV_neg e, b]; exact ih
theorem KV.any {kvs : List (κ × V)} {vs : List (κ × Value)} (r : KV kvs vs) (k : κ) : (kvs.any fun kv => decide (kv.1 = k)) = vs.any fun kv => decide (kv.1 = k) := by
  unfold KV at r
  induction r with
  | nil => rfl
  | cons h t ih => rw [List.any_cons, List.any_cons, ih, h.1]
theorem KV.repl {kvs : List (κ × V)} {vs : List (κ × Value)} (r : KV kvs vs) (k : κ) {y : V} {u : Value} (ry : RelV y u) :
    KV (kvs.map fun kv => if kv.1 = k then (kv.1, y) else kv) (vs.map fun kv => if kv.1 = k then (kv.1, u) else kv) := by
  unfold KV at r ⊢
  induction r with
  | nil => exact .nil
  | @cons p q ps qs h t ih =>
    rw [List.map_cons, List.map_cons]
    refine .cons ?_ ih
    obtain ⟨h1, h2⟩ := h
    by_cases e : p.1 = k
    · rw [if_pos e, if_pos (h1.symm.trans e)]; exact ⟨h1, ry⟩
    · rw [if_neg e, if_neg (fun z => e (h1.trans z))]; exact ⟨h1, h2⟩
theorem KV.put {kvs : List (κ × V)} {vs : List (κ × Value)} (r : KV kvs vs) (k : κ) {y : V} {u : Value} (ry : RelV y u) : KV (putK kvs k y) (stored vs k u) := by
  unfold putK stored
  rw [r.any k]
  by_cases e : (vs.any fun kv => decide (kv.1 = k)) = true
  · rw [if_pos e, if_pos e]; exact r.repl k ry
  · rw [if_neg e, if_neg e]; exact Paired.snoc r ⟨rfl, ry⟩
theorem KV.drop {kvs : List (κ × V)} {vs : List (κ × Value)} (r : KV kvs vs) (k : κ) : KV (dropK kvs k) (without vs k) := by
  unfold KV at r ⊢
  unfold dropK without
  induction r with
  | nil => exact .nil
  | @cons p q ps qs h t ih =>
    obtain ⟨h1, h2⟩ := h
    rw [List.filter_cons, List.filter_cons]
    by_cases e : p.1 = k
    · have a : ¬ decide (p.1 ≠ k) = true := by simp [e]
      have b : ¬ decide (q.1 ≠ k) = true := by simp [h1.symm.trans e]
      rw [if_neg a, if_neg b]; exact ih
    · have e' : ¬ q.1 = k := fun z => e (h1.trans z)
      have a : decide (p.1 ≠ k) = true := by simp [e]
      have b : decide (q.1 ≠ k) = true := by simp [e']
      rw [if_pos a, if_pos b]; exact .cons ⟨h1, h2⟩ ih
theorem KV.keys {kvs : List (κ × V)} {vs : List (κ × Value)} (r : KV kvs vs) : kvs.map (·.1) = vs.map (·.1) := by
  unfold KV at r
  induction r with
  | nil => rfl
  | cons h t ih => rw [List.map_cons, List.map_cons, ih, h.1]
theorem KV.length {kvs : List (κ × V)} {vs : List (κ × Value)} (r : KV kvs vs) : kvs.length = vs.length := Paired.length r
end


/-! ### a tracked dict, its keys ints and texts or tuples of these -/
/-- raw entries of a dict with tuple keys -/
abbrev KT (H : Hp) : List (List Key × V) → List (List Key × Addr × Value) → Prop := Paired fun p q => p.1 = q.1 ∧ H q.2.1 = some (.tup (p.1.map kV)) ∧ RelV p.2 q.2.2
theorem KT.val {H : Hp} {kvs : List (List Key × V)} {xs : List (List Key × Addr × Value)} (r : KT H kvs xs) (k : List Key) : RelO (valV kvs k) ((atKey xs k).map (·.2)) := by
  induction r with
  | nil => exact True.intro
  | @cons p q ps qs h t ih =>
    obtain ⟨h1, _, h2⟩ := h
    by_cases e : p.1 = k
    · have e' : q.1 = k := h1.symm.trans e
      have b : atKey (q :: qs) k = some q.2 := by simp [atKey, List.find?_cons, e']
      rw [valV_pos e, b]; exact h2
    · have e' : ¬ q.1 = k := fun z => e (h1.trans z)
      have b : atKey (q :: qs) k = atKey qs k := by simp [atKey, List.find?_cons, e']
      rw [valV_neg e, b]; exact ih
theorem KT.repl {H : Hp} {kvs : List (List Key × V)} {xs : List (List Key × Addr × Value)} (r : KT H kvs xs) (k : List Key) {y : V} {u : Value} (ry : RelV y u) :
    KT H (kvs.map fun kv => if kv.1 = k then (kv.1, y) else kv) (xs.map (putAt k u)) := by
  induction r with
  | nil => exact .nil
  | @cons p q ps qs h t ih =>
    rw [List.map_cons, List.map_cons]
    refine .cons ?_ ih
    obtain ⟨h1, h2, h3⟩ := h
    unfold putAt
    by_cases e : p.1 = k
    · rw [if_pos e, if_pos (h1.symm.trans e)]; exact ⟨h1, h2, ry⟩
    · rw [if_neg e, if_neg (fun z => e (h1.trans z))]; exact ⟨h1, h2, h3⟩
theorem KT.put {H : Hp} {kvs : List (List Key × V)} {xs : List (List Key × Addr × Value)} (r : KT H kvs xs) (k : List Key) {b : Addr} {y : V} {u : Value} (hb : H b = some (.tup (k.map kV))) (ry : RelV y u) :
    KT H (putK kvs k y) (storedH xs k b u) := by
  have e : (kvs.any fun kv => decide (kv.1 = k)) = (atKey xs k).isSome := by
    rw [valV_any, (r.val k).isSome_eq, Option.isSome_map]
  unfold putK storedH
  rw [e]
  by_cases q : (atKey xs k).isSome = true
  · rw [if_pos q, if_pos q]; exact r.repl k ry
  · rw [if_neg q, if_neg q]; exact Paired.snoc r ⟨rfl, hb, ry⟩
theorem KT.keeps {H H' : Hp} {kvs : List (List Key × V)} {xs : List (List Key × Addr × Value)} (r : KT H kvs xs) (ht : ∀ b ys, H b = some (.tup ys) → H' b = some (.tup ys)) : KT H' kvs xs :=
  Paired.mapP r fun _ _ z => ⟨z.1, ht _ _ z.2.1, z.2.2⟩

section
variable {P : Program} {w : World} {H : Hp} {h : Heap} {a : Addr}
end

/-- what the dict at a holds at the key y -/
def DGet (H : Hp) (a : Addr) (y : V) (r : Option V) : Prop :=
  (∃ kvs k, Rd H a (.dK kvs) ∧ y = kV k ∧ r = valV kvs k) ∨ ∃ kvs k b, Rd H a (.dT kvs) ∧ y = .ref b ∧ H b = some (.tup (k.map kV)) ∧ r = valV kvs k
/-- the heap behind a[y] = v -/
def DPut (H : Hp) (a : Addr) (y v : V) (H' : Hp) : Prop :=
  (∃ kvs k, H a = some (.dK kvs) ∧ y = kV k ∧ kvs.length < sizeLine ∧ H' = upd H a (.dK (putK kvs k v))) ∨
  ∃ kvs k b, H a = some (.dT kvs) ∧ y = .ref b ∧ H b = some (.tup (k.map kV)) ∧ kvs.length < sizeLine ∧ H' = upd H a (.dT (putK kvs k v))
theorem DGet.k {H : Hp} {a : Addr} {kvs : List (Key × V)} {k : Key} (e : H a = some (.dK kvs)) : DGet H a (kV k) (valV kvs k) := .inl ⟨kvs, k, .inl e, rfl, rfl⟩
theorem DGet.t {H : Hp} {a b : Addr} {kvs : List (List Key × V)} {k : List Key} (e : H a = some (.dT kvs)) (eb : H b = some (.tup (k.map kV))) : DGet H a (.ref b) (valV kvs k) := .inr ⟨kvs, k, b, .inl e, rfl, eb, rfl⟩
theorem DPut.k {H : Hp} {a : Addr} {kvs : List (Key × V)} {k : Key} {v : V} (e : H a = some (.dK kvs)) (hl : kvs.length < sizeLine) : DPut H a (kV k) v (upd H a (.dK (putK kvs k v))) := .inl ⟨kvs, k, e, rfl, hl, rfl⟩
theorem DPut.t {H : Hp} {a b : Addr} {kvs : List (List Key × V)} {k : List Key} {v : V} (e : H a = some (.dT kvs)) (eb : H b = some (.tup (k.map kV))) (hl : kvs.length < sizeLine) :
    DPut H a (.ref b) v (upd H a (.dT (putK kvs k v))) := .inr ⟨kvs, k, b, e, rfl, eb, hl, rfl⟩


section
variable {X : Cx} {pins : List (Addr × Obj)} {σ : St} {H : Hp} {s : Shared} {a : Addr} {y v : V} {u r : Value} {o : Option V} {A : Around} {E : Value → Shared → Prop}

end

section
variable {X : Cx} {pins : List (Addr × Obj)} {σ : St} {H : Hp} {s : Shared} {a : Addr} {kvs : List (Key × V)} {k : Key} {u : Value} {A : Around} {E : Value → Shared → Prop}
end


/-! ### readings and rules -/
/-- the element of a subscription, not a slice -/
def NoSl (i : Expr) : Prop := ∀ ov iv, subscripted i false ov iv = operate [ov, iv] (getItem ov iv)
/-- d[y] -/
def tDGet (td ty : TE) : TE := fun σ H Q => td σ H fun x H1 => ty σ H1 fun y H2 => ∃ a v, x = .ref a ∧ DGet H2 a y (some v) ∧ Q v H2
/-- y in d, y not in d -/
def tDIn (ty td : TE) : TE := fun σ H Q => ty σ H fun y H1 => td σ H1 fun x H2 => ∃ a o, x = .ref a ∧ DGet H2 a y o ∧ Q (.bl o.isSome) H2
def tDNotIn (ty td : TE) : TE := fun σ H Q => ty σ H fun y H1 => td σ H1 fun x H2 => ∃ a o, x = .ref a ∧ DGet H2 a y o ∧ Q (.bl (!o.isSome)) H2
/-- d[y] = v -/
def sDPut (td ty tv : TE) : TS := fun D σ H => tv σ H fun v H1 => td σ H1 fun x H2 => ty σ H2 fun y H3 => ∃ a H4, x = .ref a ∧ DPut H3 a y v H4 ∧ D.nx σ H4
/-- d[y] op= v -/
def sDAug (td ty tv : TE) (rd : V → V → Hp → VK → Prop) : TS := fun D σ H => td σ H fun x H1 => ty σ H1 fun y H2 => ∃ a v, x = .ref a ∧ DGet H2 a y (some v) ∧
  tv σ H2 fun y2 H3 => rd v y2 H3 fun z H4 => ∃ H5, DPut H4 a y z H5 ∧ D.nx σ H5
/-- del d[y] -/
def sDDel (td ty : TE) : TS := fun D σ H => td σ H fun x H1 => ty σ H1 fun y H2 => ∃ a kvs k, x = .ref a ∧ H2 a = some (.dK kvs) ∧ y = kV k ∧ (valV kvs k).isSome = true ∧ D.nx σ (upd H2 a (.dK (dropK kvs k)))

section
variable {X : Cx} {o i e value : Expr} {pos pos' tpos : Pos} {td ty tv : TE}
end


/-! ### displays -/
/-- {}, to be a dict of the kind that is wanted -/
def tDNewK : TE := fun _ H Q => ∀ p, H p = none → Q (.ref p) (upd H p (.dK []))
def tDNewT : TE := fun _ H Q => ∀ p, H p = none → Q (.ref p) (upd H p (.dT []))
section
variable {X : Cx} {pos : Pos}
end

/-- the pairs of a display, from the left -/
def tPairs : List (TE × TE) → St → Hp → (List (V × V) → Hp → Prop) → Prop
  | [], _, H, Q => Q [] H
  | (tk, tv) :: r, σ, H, Q => tk σ H fun x H1 => tv σ H1 fun y H2 => tPairs r σ H2 fun ps H3 => Q ((x, y) :: ps) H3
abbrev VV : List (V × V) → List (Value × Value) → Prop := Paired fun p q => RelV p.1 q.1 ∧ RelV p.2 q.2
def PPs (X : Cx) (pos : Pos) (keys : List (Option Expr)) (values : List Expr) (trs : List (TE × TE)) : Prop :=
  ∀ (pins : List (Addr × Obj)) (s : Shared) (σ : St) (H : Hp) (Q : List (V × V) → Hp → Prop), Inv X pins σ H s → tPairs trs σ H Q →
    wpAny (model X.prog X.w) X.A (evalPairs (pairTrees keys values X.env pos)) (fun vs s' => ∃ ps H', Inv X pins σ H' s' ∧ VV ps vs ∧ Q ps H') X.xe s
def mergeK (kvs more : List (Key × V)) : List (Key × V) := more.foldl (fun acc kv => putK acc kv.1 kv.2) kvs
/-- {k: v, ..} with keys ints and texts; the new dict stands empty while the pairs are made -/
def tDisp (trs : List (TE × TE)) : TE := fun σ H Q => ∀ p, H p = none → tPairs trs σ (upd H p (.dK [])) fun ps H2 => H2 p = some (.dK []) ∧ ∃ kvs : List (Key × V), ps = kvs.map (fun kv => (kV kv.1, kv.2)) ∧ kvs.length ≤ 15 ∧ Q (.ref p) (upd H2 p (.dK (mergeK [] kvs)))
/-! ### methods -/
/-- a method call o.m(e) of a built-in, with one argument: what must be seen of the text -/
structure M1 (X : Cx) (o : Expr) (m : Str) (apos : Pos) (e : Expr) (cpos : Pos) : Prop where
  base : attributeBase o m X.env (eval o X.env) = eval o X.env
  few : ((backTo cpos (starEach [e] X.env)).all (fun x => !x.1) && (backToKw cpos (keywordEach [] X.env)).all (fun x => x.1.isSome)
    && decide (([e] : List Expr).length + ([] : List Keyword).length + (if ([] : List Keyword).isEmpty then 0 else 1) < 30)) = true
  line : (apos.endLine == cpos.line) = true
  trees : backTo cpos (starEach [e] X.env) = [(false, eval e X.env)]
structure M2 (X : Cx) (o : Expr) (m : Str) (apos : Pos) (e f : Expr) (cpos : Pos) : Prop where
  base : attributeBase o m X.env (eval o X.env) = eval o X.env
  few : ((backTo cpos (starEach [e, f] X.env)).all (fun x => !x.1) && (backToKw cpos (keywordEach [] X.env)).all (fun x => x.1.isSome)
    && decide (([e, f] : List Expr).length + ([] : List Keyword).length + (if ([] : List Keyword).isEmpty then 0 else 1) < 30)) = true
  line : (apos.endLine == cpos.line) = true
  trees : backTo cpos (starEach [e, f] X.env) = [(false, eval e X.env), (false, eval f X.env)]

/-- a is a dict, whatever its keys -/
def IsD (H : Hp) (a : Addr) : Prop := (∃ kvs, Rd H a (.dK kvs)) ∨ ∃ kvs, Rd H a (.dT kvs)
section
variable {X : Cx} {pins : List (Addr × Obj)} {σ : St} {H : Hp} {s : Shared} {a : Addr} {y d : V} {u r : Value} {o : Option V} {A : Around} {E : Value → Shared → Prop}
end

def tDGet1 (td ty : TE) : TE := fun σ H Q => td σ H fun x H1 => ∃ a, x = .ref a ∧ IsD H1 a ∧ ty σ H1 fun y H2 => ∃ o, DGet H2 a y o ∧ Q (o.getD .non) H2
def tDGet2 (td ty tx : TE) : TE := fun σ H Q => td σ H fun x H1 => ∃ a, x = .ref a ∧ IsD H1 a ∧ ty σ H1 fun y H2 => tx σ H2 fun z H3 => ∃ o, DGet H3 a y o ∧ Q (o.getD z) H3
/-- d.pop(k): there; d.pop(k, x): there or not -/
def tDPop1 (td ty : TE) : TE := fun σ H Q => td σ H fun x H1 => ∃ a, x = .ref a ∧ IsD H1 a ∧ ty σ H1 fun y H2 => ∃ kvs k v, H2 a = some (.dK kvs) ∧ y = kV k ∧ valV kvs k = some v ∧ Q v (upd H2 a (.dK (dropK kvs k)))
def tDPop2 (td ty tx : TE) : TE := fun σ H Q => td σ H fun x H1 => ∃ a, x = .ref a ∧ IsD H1 a ∧ ty σ H1 fun y H2 => tx σ H2 fun z H3 => ∃ kvs k, H3 a = some (.dK kvs) ∧ y = kV k ∧
  (∀ v, valV kvs k = some v → Q v (upd H3 a (.dK (dropK kvs k)))) ∧ (valV kvs k = none → Q z H3)
section
variable {X : Cx} {o e f : Expr} {apos cpos : Pos} {td ty tx : TE}
end

/-! ### dict(d): a copy -/
section
variable {X : Cx} {pins : List (Addr × Obj)} {σ : St} {H : Hp} {s : Shared} {a : Addr} {kvs : List (Key × V)} {A : Around} {E : Value → Shared → Prop}
end


section
variable {X : Cx} {pins : List (Addr × Obj)} {σ : St} {H : Hp} {s : Shared} {a : Addr} {y : V} {u : Value} {A : Around} {E : Value → Shared → Prop}
end
end L2

namespace L2
open PySem PySem.Spec PyProof.Rows

section
variable {prog : Program} {w : World} {A : Around} {E : Value → Shared → Prop}
end

section
variable {X : Cx}
end
end L2

namespace L2
open PySem PySem.Spec PyProof.Rows

section
variable {X : Cx} {pins : List (Addr × Obj)} {σ : St} {H : Hp} {s : Shared} {h' : Heap}
/-- several records of ours have turned -/
theorem Inv.turnedL {t' : Nat} {ch : List Addr} (I : Inv X pins σ H s) (k : ∀ b o, b ∉ ch → s.heap.get? b = some o → h'.get? b = some o) (hf : ∀ b ∈ ch, FpOk X pins H b) : Inv X pins σ H { s with heap := h', toks := t' } := by
  have nit : ∀ b u, H b = some u → b ∉ ch := fun b u e z => by
    have q := (hf b z).1
    rw [q] at e; cases e
  refine I.step (g' := s.gens) (d' := s.drawn) (ch := ch) (fun b hb => ⟨(hf b hb).2.2.2.1, (hf b hb).2.1, (hf b hb).2.2.2.2.1, (hf b hb).2.2.2.2.2⟩) (fun b o _ _ hc e _ => k b o hc e) (fun b o _ _ hc e _ => ⟨o.slots, k b o hc e⟩)
    (fun _ _ _ _ n => n) (fun b o hc e => ⟨o, k b o hc e⟩) (fun _ _ e => e) (fun _ _ _ e => e) (fun b ps e => ⟨#[], by rw [e]; simp⟩) (fun m hm => ?_) (fun b u e => ?_) I.bare
  · obtain ⟨o, es, ep, ho, r⟩ := hm
    exact ⟨o, es, ep, k _ o (fun z => (hf _ z).2.1 rfl) ho, r⟩
  · refine (I.hok b u e).stay (fun c v hc q => k c v ?_ q) (fun _ q => q) fun _ _ q => q
    rcases hc with z | z
    · rw [z]; exact nit b u e
    · exact nit c _ z
/-- .. and one new object is laid -/
theorem Inv.turnedNew {t' : Nat} {ch : List Addr} {T : Addr} {ob : HO} (I : Inv X pins σ H s) (k : ∀ b o, b ∉ ch → s.heap.get? b = some o → h'.get? b = some o) (hf : ∀ b ∈ ch, FpOk X pins H b) (hT : s.heap.objs.size ≤ T)
    (new : ObjOk X.prog X.w (upd H T ob) h' T ob) : Inv X pins σ (upd H T ob) { s with heap := h', toks := t' } := by
  have hn : H T = none := I.hok.fresh hT
  have nit : ∀ b u, H b = some u → b ∉ ch := fun b u e z => by
    have q := (hf b z).1
    rw [q] at e; cases e
  refine I.step (g' := s.gens) (d' := s.drawn) (ch := ch) (fun b hb => ⟨(hf b hb).2.2.2.1, (hf b hb).2.1, (hf b hb).2.2.2.2.1, (hf b hb).2.2.2.2.2⟩) (fun b o _ _ hc e _ => k b o hc e) (fun b o _ _ hc e _ => ⟨o.slots, k b o hc e⟩)
    (fun b o _ e n => ?_) (fun b o hc e => ⟨o, k b o hc e⟩) (fun b xs e => ?_) (fun b o u e => ?_) (fun b ps e => ⟨#[], ?_⟩) (fun m hm => ?_) (fun b u e => ?_) I.bare
  · rw [upd_ne (Nat.ne_of_lt (Nat.lt_of_lt_of_le (Heap.lt_size e) hT))]; exact n
  · rw [upd_ne (ne_of_none e hn)]; exact e
  · rw [upd_ne (ne_of_none e hn)]; exact e
  · rw [upd_ne (ne_of_none e hn), e]; simp
  · obtain ⟨o, es, ep, ho, r⟩ := hm
    exact ⟨o, es, ep, k _ o (fun z => (hf _ z).2.1 rfl) ho, r⟩
  · by_cases hb : b = T
    · subst hb
      rw [upd_same] at e
      cases e
      exact new
    · rw [upd_ne hb] at e
      refine (I.hok b u e).stay (fun c v hc q => k c v ?_ q) (fun c q => by rw [upd_ne (ne_of_none q hn)]; exact q) fun c xs q => by rw [upd_ne (ne_of_none q hn)]; exact q
      rcases hc with z | z
      · rw [z]; exact nit b u e
      · exact nit c _ z

/-! ### locking a thing while a statement runs -/
end
/-- the statement runs while the thing at d is locked (read, not written); d and what stands there are the reading's choice -/
def tLock (t : TS) : TS := fun D σ H => ∃ d u, H d = some u ∧ Mut (some u) ∧ ∀ od, t ⟨fun σ' H' => H' d = some (.frz od u) ∧ D.nx σ' (upd H' d u), fun v H' => H' d = some (.frz od u) ∧ D.rt v (upd H' d u), fun σ' H' => H' d = some (.frz od u) ∧ D.bk σ' (upd H' d u), fun σ' H' => H' d = some (.frz od u) ∧ D.ct σ' (upd H' d u)⟩ σ (upd H d (.frz od u))
def tLockE (t : TE) : TE := fun σ H Q => ∃ d u, H d = some u ∧ Mut (some u) ∧ ∀ od, t σ (upd H d (.frz od u)) fun v H' => H' d = some (.frz od u) ∧ Q v (upd H' d u)
section
variable {X : Cx}
/-! ### one iterator just laid -/
end

/-! ### range with a step -/
/-- lo, lo + c, .. (n of them) -/
def Itc (lo c : Int) (n : Nat) : It := ⟨fun i _ => i < n, fun i H x H' => H' = H ∧ x = .int (lo + (i : Nat) * c), fun i _ => n ≤ i⟩
/-- range(i, j, c): small bounds, n items -/
def RgC (i j c : Int) (n : Nat) : Prop := c ≠ 0 ∧ c.natAbs < 1073741824 ∧ Builtin.Range.small i j c = true ∧ Builtin.Range.rangeSize i j c = n
theorem RgC.neg {i j : Int} (ha : -(2 ^ 62) ≤ i) (ha' : i < 2 ^ 62) (hb : -(2 ^ 62) ≤ j) (hb' : j < 2 ^ 62) : RgC i j (-1) (i - j).toNat :=
  ⟨by decide, by decide, PySem.W.small_down ha ha' hb hb', PySem.W.rangeSize_downNat i j⟩
def iRng3 (ta : TA) : TI := fun σ H R => ta σ H fun vs H1 => ∃ (i j c : Int) (n : Nat), vs = [.int i, .int j, .int c] ∧ RgC i j c n ∧ R (Itc i c n) H1
section
variable {X : Cx} {tg : Expr}
end
/-! ### reversed(list) -/
/-- the list at a (n items at the start, which the loop leaves there), from its end -/
def Itv (K : PySem.W.Frag) (a : Addr) (n : Nat) : It :=
  ⟨fun i H => i < n ∧ ∃ (xs : List V) (x : V), SqL K H a xs ∧ xs[n - 1 - i]? = some x, fun i H x H' => H' = H ∧ ∀ xs, SqL K H a xs → xs[n - 1 - i]? = some x, fun i _ => n ≤ i⟩
def iRev (K : PySem.W.Frag) (ta : TA) : TI := fun σ H R => ta σ H fun vs H1 => ∃ (a : Addr) (xs : List V), vs = [.ref a] ∧ SqL K H1 a xs ∧ R (Itv K a xs.length) H1
section
variable {X : Cx} {tg : Expr}
end

/-! ### a str -/
def Its (x : Str) : It := ⟨fun i _ => i < x.cps.size, fun i H v H' => H' = H ∧ ∃ c, x.cps[i]? = some c ∧ v = .str ⟨#[c]⟩, fun i _ => x.cps.size ≤ i⟩
def iStr (te : TE) : TI := fun σ H R => te σ H fun v H1 => ∃ x, v = .str x ∧ R (Its x) H1
/-! ### a dict's keys: any dict's entries -/
section
variable {prog : Program} {w : World} {A : Around} {E : Value → Shared → Prop} {s : Shared}
end

/-! ### a locked dict -/
section
variable {X : Cx} {pins : List (Addr × Obj)} {σ : St} {H : Hp} {s : Shared} {d : Addr} {o : Obj}
end

/-- the keys of the locked dict at d, in their order -/
def Itk (d : Addr) (o : Obj) (kvs : List (Key × V)) : It :=
  ⟨fun i H => H d = some (.frz o (.dK kvs)) ∧ i < kvs.length, fun i H x H' => H' = H ∧ ∃ k v, kvs[i]? = some (k, v) ∧ x = kV k, fun i H => H d = some (.frz o (.dK kvs)) ∧ kvs.length ≤ i⟩
/-- .. of tuple keys: the key's own tuple -/
def Itkt (d : Addr) (o : Obj) (kvs : List (List Key × V)) : It :=
  ⟨fun i H => H d = some (.frz o (.dT kvs)) ∧ i < kvs.length, fun i H x H' => H' = H ∧ ∃ (k : List Key) (v : V) (q : Addr), kvs[i]? = some (k, v) ∧ x = .ref q ∧ H q = some (.tup (k.map kV)), fun i H => H d = some (.frz o (.dT kvs)) ∧ kvs.length ≤ i⟩
/-- the values -/
def Itd (d : Addr) (o : Obj) (kvs : List (Key × V)) : It :=
  ⟨fun i H => H d = some (.frz o (.dK kvs)) ∧ i < kvs.length, fun i H x H' => H' = H ∧ ∃ k, kvs[i]? = some (k, x), fun i H => H d = some (.frz o (.dK kvs)) ∧ kvs.length ≤ i⟩
/-- the pairs, each a new tuple -/
def Iti (d : Addr) (o : Obj) (kvs : List (Key × V)) : It :=
  ⟨fun i H => H d = some (.frz o (.dK kvs)) ∧ i < kvs.length, fun i H x H' => ∃ T k v, kvs[i]? = some (k, v) ∧ x = .ref T ∧ H T = none ∧ H' = upd H T (.tup [kV k, v]), fun i H => H d = some (.frz o (.dK kvs)) ∧ kvs.length ≤ i⟩
section
variable {P : Program} {w : World} {K : PySem.W.Frag} {tg : Expr} {d : Addr} {o : Obj} {es : Array DictEntry} {ep : Nat}
end

/-! ### for k in d, d.keys(), d.values(), d.items() -/
/-- the dict is locked (tLock, or by the caller) -/
def iKeys (td : TE) : TI := fun σ H R => td σ H fun x H1 => ∃ d o, x = .ref d ∧ ((∃ kvs, H1 d = some (.frz o (.dK kvs)) ∧ R (Itk d o kvs) H1) ∨ ∃ kvs, H1 d = some (.frz o (.dT kvs)) ∧ R (Itkt d o kvs) H1)
def iVals (td : TE) : TI := fun σ H R => td σ H fun x H1 => ∃ d o kvs, x = .ref d ∧ H1 d = some (.frz o (.dK kvs)) ∧ R (Itd d o kvs) H1
def iItems (td : TE) : TI := fun σ H R => td σ H fun x H1 => ∃ d o kvs, x = .ref d ∧ H1 d = some (.frz o (.dK kvs)) ∧ R (Iti d o kvs) H1
def iKeysM (td : TE) : TI := fun σ H R => td σ H fun x H1 => ∃ d o kvs, x = .ref d ∧ H1 d = some (.frz o (.dK kvs)) ∧ R (Itk d o kvs) H1
section
variable {X : Cx} {tg e : Expr} {td : TE} {apos cpos : Pos}
end

/-! ### enumerate(list) -/
/-- the list at a as it stands at each turn, each item in a new pair -/
def Ite (K : PySem.W.Frag) (a : Addr) : It :=
  ⟨fun i H => ∃ (xs : List V) (x : V), SqL K H a xs ∧ xs[i]? = some x, fun i H v H' => ∃ T x, v = .ref T ∧ H T = none ∧ H' = upd H T (.tup [.int (i : Nat), x]) ∧ ∀ xs, SqL K H a xs → xs[i]? = some x, fun i H => ∃ xs : List V, SqL K H a xs ∧ xs.length ≤ i⟩
def iEnum (K : PySem.W.Frag) (ta : TA) : TI := fun σ H R => ta σ H fun vs H1 => ∃ a xs, vs = [.ref a] ∧ SqL K H1 a xs ∧ R (Ite K a) H1
/-! ### zip(list, list) -/
theorem boot_zip5 : bootBuiltins "zip" = some (.type "zip") := by decide +kernel
/-- the lists at a and b as they stand at each turn, the items in new pairs -/
def Itz (K : PySem.W.Frag) (a b : Addr) : It :=
  ⟨fun i H => ∃ (xs ys : List V) (x y : V), SqL K H a xs ∧ SqL K H b ys ∧ xs[i]? = some x ∧ ys[i]? = some y,
    fun i H v H' => ∃ T x y, v = .ref T ∧ H T = none ∧ H' = upd H T (.tup [x, y]) ∧ (∀ xs, SqL K H a xs → xs[i]? = some x) ∧ ∀ ys, SqL K H b ys → ys[i]? = some y,
    fun i H => ∃ xs ys : List V, SqL K H a xs ∧ SqL K H b ys ∧ (xs.length ≤ i ∨ ys.length ≤ i)⟩
def iZip (K : PySem.W.Frag) (ta : TA) : TI := fun σ H R => ta σ H fun vs H1 => ∃ a b xs ys, vs = [.ref a, .ref b] ∧ SqL K H1 a xs ∧ SqL K H1 b ys ∧ R (Itz K a b) H1
end L2

section 
namespace Bits
open PySem PyProof.Rows

end Bits
end 

section 
namespace TL
open PySem PySem.Builtin PySem.Builtin.Str PySem.StrLaws

abbrev tl (x : Str) : List Nat := x.cps.toList
/-! ### the list functions -/
/-- S stands at the head of l -/
def pre (S l : List Nat) : Bool := l.take S.length == S
/-- l cut at each S from the left; k signs are still to be passed over -/
def spl (S : List Nat) : Nat → List Nat → List Nat → List (List Nat)
  | _, acc, [] => [acc]
  | 0, acc, c :: r => if pre S (c :: r) = true then acc :: spl S (S.length - 1) [] r else spl S 0 (acc ++ [c]) r
  | k + 1, acc, _ :: r => spl S k acc r
/-- what stands before the first S, and behind it -/
def par (S : List Nat) : List Nat → List Nat → Option (List Nat × List Nat)
  | _, [] => none
  | acc, c :: r => if pre S (c :: r) = true then some (acc, (c :: r).drop S.length) else par S (acc ++ [c]) r

/-! ### the model's split and partition are these -/
/-! ### computing spl and par -/
/-- joined lists -/
def joinL (S : List Nat) : List (List Nat) → List Nat
  | [] => []
  | [p] => p
  | p :: q :: r => p ++ (S ++ joinL S (q :: r))
/-! ### digits -/
/-- the signs of a number -/
def numL (n : Nat) : List Nat := (Nat.toDigits 10 n).map Char.toNat
/-! ### words: x.split() -/
def wstep (st : List (List Nat) × List Nat) (c : Nat) : List (List Nat) × List Nat :=
  if Unicode.isSpace c = true then (if st.2 = [] then st else (st.1 ++ [st.2], [])) else (st.1, st.2 ++ [c])
def wfin (st : List (List Nat) × List Nat) : List (List Nat) := if st.2 = [] then st.1 else st.1 ++ [st.2]
end TL
end 

namespace L2
open PySem PySem.Spec PyProof.Rows

theorem strs_of_vals : ∀ {ys : List Str} {us : List Value}, Vals (ys.map V.str) us → StrsAre us ys
  | [], _, .nil => .nil
  | y :: ys, _, .cons r t => by
    obtain ⟨k, rfl⟩ := r
    exact .cons y k (strs_of_vals t)

/-- a new list of texts, tracked -/
def rNewStrs (ys : List Str) : Hp → VK → Prop := fun H Q => ∀ p, H p = none → Q (.ref p) (upd H p (.lst (ys.map V.str)))

section
variable {X : Cx} {pins : List (Addr × Obj)} {σ : St} {H : Hp} {s : Shared} {Q : VK}
end

section
variable {X : Cx}

/-- sep.join(a list | a tuple of texts) -/
theorem mt_join : MtR X "str.join" (fun x xs H Q => ∃ a p, ∃ ys : List Str, x = .str a ∧ xs = [.ref p] ∧ (SqL X.K H p (ys.map V.str) ∨ SqT X.K H p (ys.map V.str)) ∧
    (ys.map (·.length)).sum + ys.length * a.length ≤ 16777216 ∧ Q (.str (Txt.join a ys)) H) := by
  intro pins s σ H x xs v us Q I rx rs h
  obtain ⟨a, p, ys, rfl, rfl, hp, hz, h⟩ := h
  obtain ⟨t, rfl⟩ := rx
  cases rs with
  | cons r1 rs =>
    cases rs
    cases r1
    rcases hp with hp | hp
    · obtain ⟨its, r, ⟨o, n, ho, hc, _, hd⟩, _⟩ := I.list hp
      exact PyProof.Rows.join_list (items := its.toArray) ⟨o, ho, hc, n, hd⟩ (by rw [List.toList_toArray]; exact strs_of_vals r) hz fun t' k => ⟨.str _, H, I.tok k, ⟨t', rfl⟩, h⟩
    · obtain ⟨its, r, ht, _⟩ := I.tuple hp
      exact PyProof.Rows.join_tuple (items := its.toArray) ht (by rw [List.toList_toArray]; exact strs_of_vals r) hz fun t' k => ⟨.str _, H, I.tok k, ⟨t', rfl⟩, h⟩

/-! ### of a text alone -/
/-! ### of a text and a text -/
theorem mt1 {id : String} {g : Str → Str → V} (rule : ∀ (a b : Str) (t u : Tok) (s : Shared) (Q : Value → Shared → Prop), (∀ (v : Value) (k : Nat), RelV (g a b) v → Q v { s with toks := k }) →
    wpAny (model X.prog X.w) X.A (call (.builtin id) [.str a t, .str b u]) Q X.xe s) : MtR X id (fun x xs H Q => ∃ a b, x = .str a ∧ xs = [.str b] ∧ Q (g a b) H) := by
  intro pins s σ H x xs v us Q I rx rs h
  obtain ⟨a, b, rfl, rfl, h⟩ := h
  obtain ⟨t, rfl⟩ := rx
  cases rs with
  | cons r1 rs =>
    cases rs
    obtain ⟨u, rfl⟩ := r1
    exact rule a b t u s _ fun v k r => ⟨g a b, H, I.tok k, r, h⟩
theorem mt_count : MtR X "str.count" (fun x xs H Q => ∃ a b, x = .str a ∧ xs = [.str b] ∧ Q (.int (Txt.count a b)) H) :=
  mt1 (g := fun a b => .int (Txt.count a b)) fun _ _ _ _ s _ h => PySem.SC.count (h _ (s.toks + 1) ⟨_, rfl⟩)

end

section
variable {X : Cx} {o e : Expr} {to te : TE}
def tM0 (r : V → List V → Hp → VK → Prop) (to : TE) : TE := fun σ H Q => to σ H fun x H1 => (∃ a, x = .str a) ∧ r x [] H1 Q
def tM1 (r : V → List V → Hp → VK → Prop) (to te : TE) : TE := fun σ H Q => to σ H fun x H1 => (∃ a, x = .str a) ∧ te σ H1 fun y H2 => r x [y] H2 Q
theorem pe_m1 {id : String} {name : Str} {apos pos : Pos} {r : V → List V → Hp → VK → Prop} (slot : Slot "str" name id) (ty : typeOf (.builtin id) = pure (.type "method_descriptor")) (rule : MtR X id r) (ho : PE X o to) (he : PE X e te)
    (hs : starEach [e] X.env = [(false, eval e X.env)] := by rfl) (hbase : attributeBase o name X.env (eval o X.env) = eval o X.env := by rfl) (hline : (apos.endLine == pos.line) = true := by rfl) :
    PE X (.Call (.Attribute o name apos) [e] [] pos) (tM1 r to te) := by
  intro pins s σ H Q I h
  refine PySem.Call_method1 hbase hs hline (thn (ho pins s σ H _ I h) fun v s1 ⟨x, H1, I1, r1, q1⟩ => ?_)
  obtain ⟨⟨a, rfl⟩, q1⟩ := q1
  obtain ⟨t, rfl⟩ := _root_.id r1
  refine ⟨"str", _, F.plainAttrs_str, slot, ty, typeIs_str _ _ _, (fun _ e => nomatch e), Calls.callWith_builtin rfl (Calls.evalArgs_plain (Calls.spliced_cons ?_))⟩
  exact thn (he pins s1 σ H1 _ I1 q1) fun u s2 ⟨y, H2, I2, r2, q2⟩ => Calls.spliced_nil (rule pins s2 σ H2 _ [y] _ [u] Q I2 r1 (.cons r2 .nil) q2)

theorem pe_join {apos pos : Pos} (ho : PE X o to) (he : PE X e te) (hs : starEach [e] X.env = [(false, eval e X.env)] := by rfl) (hbase : attributeBase o "join" X.env (eval o X.env) = eval o X.env := by rfl) (hline : (apos.endLine == pos.line) = true := by rfl) :
    PE X (.Call (.Attribute o "join" apos) [e] [] pos) (tM1 (fun x xs H Q => ∃ a p, ∃ ys : List Str, x = .str a ∧ xs = [.ref p] ∧ (SqL X.K H p (ys.map V.str) ∨ SqT X.K H p (ys.map V.str)) ∧
      (ys.map (·.length)).sum + ys.length * a.length ≤ 16777216 ∧ Q (.str (Txt.join a ys)) H) to te) :=
  pe_m1 F.slot_str_join F.type_str_join mt_join ho he hs hbase hline
end
end L2

namespace L2
open PySem PySem.Spec PyProof.Rows

section
variable {X : Cx}
end

/-! ### slices of a text -/
theorem IsPart.raw {v : Value} {o : Option Int} (p : IsPart v o) : ∃ l : Option (Int × Tok), v = partValue l ∧ l.map (·.1) = o := by
  cases p with
  | none => exact ⟨none, rfl, rfl⟩
  | int i t => exact ⟨some (i, t), rfl, rfl⟩

/-- a part, clipped, as the text's slice reckons it -/
def clipS (n d : Nat) : Option Int → Int
  | none => (d : Int)
  | some i => max 0 (min (if i < 0 then i + (n : Int) else i) (n : Int))
theorem clipS_eq (n d : Nat) (o : Option Int) : clipS n d o = ((HT.sIx n d o : Nat) : Int) := by
  cases o with
  | none => rfl
  | some v =>
    show max (0 : Int) (min (if v < 0 then v + (n : Int) else v) (n : Int)) = (((if v < 0 then (v + (n : Int)).toNat else min v.toNat n) : Nat) : Int)
    by_cases hv : v < 0
    · simp only [if_pos hv]
      omega
    · simp only [if_neg hv]
      omega
theorem sidx_clip (a b : Option Int) (n : Nat) : Builtin.Str.strSliceIndices a b 1 n = sliceRange (clipS n 0 a) (clipS n n b) 1 := by
  have h1 : ((1 : Int) > 0) = True := by simp
  cases a <;> cases b <;> first
    | rfl
    | (simp only [Builtin.Str.strSliceIndices, clipS, h1, if_true]; rfl)
    | simp [Builtin.Str.strSliceIndices, clipS]
theorem sidx (a b : Option Int) (n : Nat) : Builtin.Str.strSliceIndices a b 1 n = (List.range (HT.sIx n n b - HT.sIx n 0 a)).map (fun k => HT.sIx n 0 a + k) := by
  rw [sidx_clip, clipS_eq, clipS_eq]
  generalize HT.sIx n 0 a = p
  generalize HT.sIx n n b = q
  simp only [sliceRange, show ((1 : Int) > 0) = True from by simp, if_true]
  by_cases hlt : (p : Int) < q
  · have e3 : (((q : Int) - p + 1 - 1) / 1).toNat = q - p := by first | omega | (simp; done) | (simp; omega)
    simp only [hlt, if_true, e3]
    refine List.map_congr_left fun k _ => ?_
    omega
  · have : q - p = 0 := by omega
    simp [hlt, this]

/-- z[lo:hi] -/
def cutS (z : Str) (lo hi : Option Int) : Str :=
  ⟨((z.cps.toList.drop (HT.sIx z.length 0 lo)).take (HT.sIx z.length z.length hi - HT.sIx z.length 0 lo)).toArray⟩
theorem sliceText_cut (z : Str) (lo hi : Option Int) : PySem.StrLaws.sliceText z lo hi = cutS z lo hi := by
  have h1 : HT.sIx z.length 0 lo ≤ z.length := HT.sIx_le _ _ (Nat.zero_le _) _
  have h2 : HT.sIx z.length z.length hi ≤ z.length := HT.sIx_le _ _ (Nat.le_refl _) _
  have hp : HT.sIx z.length 0 lo ≤ max (HT.sIx z.length 0 lo) (HT.sIx z.length z.length hi) := Nat.le_max_left _ _
  have hq : max (HT.sIx z.length 0 lo) (HT.sIx z.length z.length hi) ≤ z.length := Nat.max_le.mpr ⟨h1, h2⟩
  have hd : max (HT.sIx z.length 0 lo) (HT.sIx z.length z.length hi) - HT.sIx z.length 0 lo = HT.sIx z.length z.length hi - HT.sIx z.length 0 lo := by omega
  have e : Builtin.Str.strSliceIndices lo hi 1 z.length =
      Builtin.Str.strSliceIndices (some ((HT.sIx z.length 0 lo : Nat) : Int)) (some ((max (HT.sIx z.length 0 lo) (HT.sIx z.length z.length hi) : Nat) : Int)) 1 z.length := by
    rw [PySem.StrLaws.strSliceIndices_plain hp hq, hd, sidx]
  have e2 : PySem.StrLaws.sliceText z lo hi =
      PySem.StrLaws.sliceText z (some ((HT.sIx z.length 0 lo : Nat) : Int)) (some ((max (HT.sIx z.length 0 lo) (HT.sIx z.length z.length hi) : Nat) : Int)) := by
    unfold PySem.StrLaws.sliceText
    rw [e]
  rw [e2, PySem.StrLaws.sliceText_nat z hp hq, hd]
  rfl
theorem cutS_length (z : Str) (lo hi : Option Int) : (cutS z lo hi).length ≤ z.length := by
  show (((z.cps.toList.drop (HT.sIx z.length 0 lo)).take (HT.sIx z.length z.length hi - HT.sIx z.length 0 lo)).toArray).size ≤ z.cps.size
  rw [List.size_toArray, List.length_take, List.length_drop, Array.length_toList]
  omega
def rSlS : V → Option Int → Option Int → Hp → VK → Prop := fun x lo hi H Q => ∃ z, x = .str z ∧ z.length ≤ sizeLine ∧ Q (.str (cutS z lo hi)) H
theorem sl_str {X : Cx} : SlR X rSlS := by
  intro pins s σ H x v vl vu lo hi sl Q I rx hs pl pu h
  obtain ⟨z, rfl, hz, q⟩ := h
  obtain ⟨t, rfl⟩ := rx
  obtain ⟨os, hos, hcs, hds⟩ := hs
  obtain ⟨l, rfl, rfl⟩ := IsPart.raw pl
  obtain ⟨u, rfl, rfl⟩ := IsPart.raw pu
  refine ⟨"str", _, F.slot_str_getitem.lookup, typeIs_str _ _ _, ?_⟩
  refine wpAny_getItem_str_slice (l := l) (u := u) (st := none) ⟨os, hos, hcs, hds⟩ rfl ?_
  have hl : (PySem.StrLaws.sliceText z (l.map (·.1)) (u.map (·.1))).length ≤ sizeLine := by
    rw [sliceText_cut]
    exact Nat.le_trans (cutS_length z _ _) hz
  rw [← sliceText_cut] at q
  unfold PySem.StrLaws.sliceText at q hl
  show Made.post (if ((1 : Int) == 1 && (Builtin.Str.strSliceIndices (l.map (·.1)) (u.map (·.1)) 1 z.length).length == z.length) = true then Made.val (.str z t)
    else Made.str ⟨((Builtin.Str.strSliceIndices (l.map (·.1)) (u.map (·.1)) 1 z.length).filterMap (z.cps[·]?)).toArray⟩) (EP X pins σ Q) s
  by_cases c : ((1 : Int) == 1 && (Builtin.Str.strSliceIndices (l.map (·.1)) (u.map (·.1)) 1 z.length).length == z.length) = true
  · rw [if_pos c] at q ⊢
    exact ⟨.str z, H, I, ⟨t, rfl⟩, q⟩
  · rw [if_neg c] at q hl ⊢
    exact ⟨hl, .str _, H, I.tok _, ⟨_, rfl⟩, q⟩
end L2

namespace Att
open PySem PySem.W PySem.Calls PyProof.Rows

/-! ### the script -/
theorem ints_of_wellAll {P : Params} {h : Heap} : ∀ (ns : List Int) (vs : List Value), WellAll P h vs (ns.map WData.int) → IntsAre vs ns := by
  intro ns
  induction ns with
  | nil =>
    intro vs w
    rw [List.map_nil] at w
    cases w
    exact .nil
  | cons n ns ih =>
    intro vs w
    rw [List.map_cons] at w
    cases w with
    | cons a b =>
      cases a
      exact .cons _ _ (ih _ b)

theorem script_of {l : OpenLaw} {n : Nat} (hn : l.most = some n) {P : Params} {h : Heap} {args : List WData} {vals : List Value}
    (hpre : l.row.toRowW.claim.pre args = true) (hwl : WellAll P h vals args) :
    ∃ a vs ns, vals = [Value.ref a] ∧ args = [WData.list (ns.map WData.int)] ∧ h.get? a = some { cls := .type "list", data := .seq vs.toArray } ∧ IntsAre vs ns ∧ ns.length ≤ n := by
  have hsh : WShape.hasAll [] args [.list .int] = true := (pre_splitW hpre).1
  have hc : l.pre.holds [] { args := args } = true := (pre_splitW hpre).2
  obtain ⟨d, r, rfl, h1, h2⟩ := hasAllW_cons hsh
  obtain rfl := hasAllW_nil h2
  obtain ⟨xs, rfl, h3⟩ := hasW_list h1
  obtain ⟨ns, rfl⟩ := items_int h3
  have hlen : ns.length ≤ n := by
    unfold OpenLaw.pre at hc
    have h4 : (WTm.not (.lt (.lit (.int (n : Int))) (.len (.arg 0)))).holds [] { args := [.list (ns.map .int)] } = true := by
      have h4 := (holds_andW hc).1
      rw [hn] at h4
      exact h4
    have h5 := condW_of h4 (w_not (w_lt w_lit (w_len_list (w_arg rfl))))
    rw [List.length_map] at h5
    refine Nat.le_of_not_lt fun q => ?_
    have q' : (n : Int) < ((ns.length : Nat) : Int) := by omega
    first
      | (rw [decide_eq_true q'] at h5; exact absurd h5 (by decide))
      | (simp at h5; omega)
  cases hwl with
  | cons w1 w2 =>
    cases w2
    cases w1 with
    | list ho hall => exact ⟨_, _, ns, rfl, rfl, ho, ints_of_wellAll ns _ hall, hlen⟩

theorem post_true (l : OpenLaw) (args : List WData) : l.row.toRowW.claim.post args (.bool true) args = true :=
  postW_of (r := l.row.toRowW) (X := (true == true))
    (show WShape.has [] (.bool true) .bool = true by first | rfl | decide | simp [WShape.has, WShape.arms, WShape.armsAll])
    (show (WTm.eq .res (.lit (.bool true))).value [] { args := args, res := some (.bool true), after := args } = some (.bool (true == true)) from w_eq_bool (w_res rfl) w_lit) rfl

/-! ### the attachment: holds_open's last premise (the goal 'hc' behind k_head) from a wpAny of the law's body -/
/-- the same from a codeAny of the CALL (for a layer whose function contracts speak of calls) -/
theorem attach_call {l : OpenLaw} {n : Nat} {q : Program} {loose : List Str} {XP : (Str → Option Value) → Heap → Prop} {YP : World → Heap → Prop} {d : DefRec}
    (hn : l.most = some n) (hdf : d.params.defaults = [])
    (call : ∀ (w : World) (s₀ s₁ : Shared) (mg mb : Str → Option Value) (fa : Addr) (o : Obj) (pm cd doc : Value) (a : Addr) (vs : List Value) (ns : List Int),
      Ground q loose [] XP w s₀ mg mb s₁.heap → YP w s₁.heap →
      s₁.heap.get? fa = some o → o.data = .func (docDef d.name d.params d.body d.scope pm cd doc) → s₁.heap.CodeRec cd d.name → mg d.name = some (.ref fa) →
      s₁.heap.get? a = some { cls := .type "list", data := .seq vs.toArray } → IntsAre vs ns → ns.length ≤ n → s₁.gens = #[] →
      codeAny (model l.prog w) callerA (.call (.ref fa) ⟨[.ref a], []⟩) (fun r s' => r = .ok (.ret (.bool true)) ∧ OldK s₁.heap s'.heap ∧ s'.os = s₁.os ∧ AllBare s'.gens) s₁) :
    WalkO q loose XP YP l.row.toRowW d [] (fun f vs => PySem.call f vs) := by
  intro w s₀ s₁ mg mb G Y fa o pm cd doc dV kV ho hd hcd hD hmg hg args vals as hpre hlay hrd hwl hlo
  obtain rfl : dV = .none := Dflts.none hD hdf
  obtain rfl : kV = .none := Dflts.noKw hD
  obtain ⟨a, vs, ns, rfl, rfl, hobj, hints, hlen⟩ := script_of hn hpre hwl
  refine enter_call (codeAny_mono (call w s₀ s₁ mg mb fa o pm cd doc a vs ns G Y ho (fd_plain hd) hcd hmg hobj hints hlen hg) fun r s' hq => ?_)
  obtain ⟨rfl, h2, h3, h4⟩ := hq
  exact ⟨.inl ⟨.bool true, .bool true, [], rfl, fun _ => rfl, .bool true, post_true l _, fun _ => ⟨List.Pairwise.nil, fun _ hm => (nomatch hm)⟩⟩, h2, h3, h4⟩

/-! ### rules over ANY heap (no ledger) from facts about the written part K: the library's own take a ledger (News) for what they write -/
section
variable {prog : Program} {w : World} {A : Around} {E : Value → Shared → Prop} {s : Shared} {K : Frag}

/-! the whole heap as the ledger: makes every rule that writes through a ledger a rule over any heap -/
def noObjs (h : Heap) : Heap := { h with objs := #[] }
def ledger (h : Heap) (L d : Addr) : List (Addr × Obj) := (List.range h.objs.size).filterMap fun a => if a = L ∨ a = d then none else (h.get? a).map fun o => (a, o)
end
end Att

namespace L2
open PySem PySem.Spec PyProof.Rows

theorem vals_ints : ∀ {vs : List Value} {ns : List Int}, IntsAre vs ns → Vals (ns.map V.int) vs
  | _, _, .nil => .nil
  | _, _, .cons n t h => .cons ⟨t, rfl⟩ (vals_ints h)

/-- nothing is tracked but the script, known to the object (or it is an object of the module) -/
def Only (H : Hp) : Prop := ∀ b, H b = none ∨ (∃ o xs, H b = some (.frz o (.lst xs))) ∨ ∃ ps, H b = some (.tbl ps)

/-- THE HEAD: the law's promise, at the heap behind the top. F, the promise of the law's def, may use that base is part of the heap (so K.In base, base.Ns mainGlobals mg stand in Mod) -/
theorem law_call {P : Program} {w : World} {K : PySem.W.Frag} {mg mb : Str → Option Value} {CX : CXT} {k : Nat} {fa a : Addr} {fd : FuncData} {x : Str} {sp : Sp} {s₁ : Shared} {vs : List Value} {ns : List Int}
    (KX : K.In s₁.heap) (hns : s₁.heap.Ns mainGlobals mg) (hb : s₁.heap.Ns builtinsNs mb) (hbb : ∀ x : Str, x ≠ "__name__" → mb x = bootBuiltins x) (hlim : s₁.heap.NoLimit) (hg : s₁.gens = #[])
    (ha : s₁.heap.get? a = some { cls := .type "list", data := .seq vs.toArray }) (hi : IntsAre vs ns) (hl : ns.length ≤ sizeLine) (hr : Room k callerA)
    (F : ∀ base : Heap, K.In base → base.Ns mainGlobals mg → FnOk P w K mg base CX k fa fd [x] sp) (hbind : ∀ (s : Shared) (u : Value), BindsTo s fd ⟨[u], []⟩ [(x, u)])
    (hsp : ∀ H : Hp, Only H → SqL K H a (ns.map V.int) → sp [.ref a] H (fun v _ => v = .bl true) fun _ _ _ => False)
    (hCX : ∀ H e s', CX [] H s₁ (fun _ _ _ => False) e s' → False)
    (hT : ∀ P ∈ tabs K, K.lookup P = none ∧ ∃ c ps, s₁.heap.TableAt c P ps ∧ TriplesOk ps.toList)
    (hbm : ∃ bm ob, mg "__builtins__" = some (.ref bm) ∧ bm ≠ builtinsNs ∧ s₁.heap.get? bm = some ob ∧ ob.cls = .type "module" ∧ ob.dict = some builtinsNs ∧ ob.data = .plain) :
    codeAny (model P w) callerA (.call (.ref fa) ⟨[.ref a], []⟩) (fun r s' => r = .ok (.ret (.bool true)) ∧ OldK s₁.heap s'.heap ∧ s'.os = s₁.os ∧ AllBare s'.gens) s₁ := by
  have rv := vals_ints hi
  have lenV := hi.length
  have core : ∀ H : Hp, Only H → SqL K H a (ns.map V.int) → HOk P w H s₁.heap → (∀ b, H b ≠ none → b = a ∨ b ∈ tabs K) → (H a ≠ none → K.lookup a = none) → TbOk K H → (∀ b ps, H b = some (.tbl ps) → ∃ ps0, ps = ps0 ∧ s₁.heap.get? b = some { cls := .none, data := .fields ps0 }) →
      codeAny (model P w) callerA (.call (.ref fa) ⟨[.ref a], []⟩) (fun r s' => r = .ok (.ret (.bool true)) ∧ OldK s₁.heap s'.heap ∧ s'.os = s₁.os ∧ AllBare s'.gens) s₁ := by
    intro H hO hS hok hA hK tb hO2
    have base_of : ∀ {b : Addr} {o : Obj}, s₁.heap.get? b = some o → H b = none → (hidT s₁.heap H).get? b = some o := fun e n => hidT_get e n
    have noA : ∀ {b : Addr} {o : Obj} {es : Array DictEntry} {ep : Nat}, s₁.heap.get? b = some o → o.data = .dict es ep → H b = none := fun {b o es ep} e d => by
      cases q : H b with
      | none => rfl
      | some u =>
        rcases hA b (by rw [q]; simp) with e' | e'
        · subst e'
          rw [ha] at e; cases e
          have d' : Data.seq vs.toArray _ = Data.dict es ep := d
          cases d'
        · obtain ⟨_, c, ps, tt, _⟩ := hT b e'
          rw [tt.2] at e; cases e
          have d' : Data.fields ps = Data.dict es ep := d
          cases d'
    have nsK : ∀ {b : Addr} {m : Str → Option Value}, s₁.heap.Ns b m → (hidT s₁.heap H).Ns b m := fun {b m} ⟨o, es, ep, e, d, r⟩ => ⟨o, es, ep, base_of e (noA e d), d, r⟩
    have hKb : K.In (hidT s₁.heap H) := fun b o e => base_of (KX b o e) (by
      cases q : H b with
      | none => rfl
      | some u =>
        rcases hA b (by rw [q]; simp) with e' | e'
        · subst e'
          rw [hK (by rw [q]; simp)] at e; cases e
        · rw [(hT b e').1] at e; cases e)
    have hM : Mod K mg (hidT s₁.heap H) := ⟨hKb, nsK hns, ⟨mb, nsK hb, hbb⟩, let ⟨mc, h1, h2⟩ := hlim; ⟨mc, nsK h1, h2⟩, let ⟨bm, ob, h1, h2, h3, h4, h5, h6⟩ := hbm; ⟨bm, ob, h1, h2, base_of h3 (by
      cases q : H bm with
      | none => rfl
      | some u =>
        rcases hA bm (by rw [q]; simp) with e' | e'
        · subst e'
          rw [ha] at h3; cases h3; cases h6
        · obtain ⟨_, c, ps, tt, _⟩ := hT bm e'
          rw [tt.2] at h3; cases h3; cases h6), h4, h5, h6⟩⟩
    have e0 : Env0 P w K mg (hidT s₁.heap H) callerA [] s₁ H := ⟨rfl, hM, fun b o e => of_hidT e, Nat.le_of_eq (hidT_size _ _), trivial, fun b hb => absurd (show b ∈ ([] : List Addr) from hb) (by simp), hok, .of_eq hg, tb⟩
    refine codeAny_mono ((F _ hKb (nsK hns)).run callerA [] s₁ H ⟨[.ref a], []⟩ [.ref a] [.ref a] _ _ hr e0 (hbind s₁ (.ref a)) (.cons rfl .nil) (hsp H hO hS)) fun r s' h => ?_
    cases r with
    | error e => exact (hCX H e s' h).elim
    | ok fl =>
      cases fl with
      | next => exact False.elim h
      | brk => exact False.elim h
      | cont => exact False.elim h
      | ret u =>
        obtain ⟨v, H', os, bare, un, hok', r', q⟩ := h
        have q' : v = .bl true := q
        subst q'
        obtain rfl : u = Value.bool true := r'
        refine ⟨rfl, ⟨fun b o e => ?_, fun b o e => un.there b o e (by simp)⟩, os, bare⟩
        cases q : H b with
        | none => exact .inl (un.keep b o e q (by intro z; exact absurd (show b ∈ ([] : List Addr) from z) (by simp)) (by simp))
        | some u =>
          rcases hO b with z | ⟨ob, xs, z⟩ | ⟨ps, z⟩
          · rw [q] at z; cases z
          · have z2 := un.frzs b ob _ z
            obtain ⟨e1, _⟩ := hok b _ z
            obtain ⟨e2, _⟩ := hok' b _ z2
            rw [e] at e1; cases e1
            exact .inl e2
          · obtain ⟨more, z2⟩ := un.tbls b ps z
            obtain ⟨m1, e1, _⟩ := hok b _ z
            obtain ⟨m2, e2, _⟩ := hok' b _ z2
            rcases hA b (by rw [q]; simp) with e' | e'
            · subst e'
              rw [ha] at e1
              cases e1
            · obtain ⟨_, c, ps', tt, _⟩ := hT b e'
              obtain ⟨ps0, q0, q1⟩ := hO2 b ps z
              rw [e] at q1; cases q1
              have q2 : ps = ps0 := q0
              subst q2
              exact .inr (.inl ⟨tt.isCodeTable, rfl, ps, more ++ m2, rfl, by rw [e2, Array.append_assoc]⟩)
  -- the tables' own part of the abstract heap
  have hex : ∀ P ∈ tabs K, ∃ ps, s₁.heap.get? P = some { cls := .none, data := .fields ps } ∧ TriplesOk ps.toList := fun P hP => by
    obtain ⟨_, c, ps, tt, ok⟩ := hT P hP
    exact ⟨ps, tt.2, ok⟩
  classical
  let HT : Hp := fun b => if h : b ∈ tabs K then some (.tbl (hex b h).choose) else none
  have hTt : ∀ b (h : b ∈ tabs K), HT b = some (.tbl (hex b h).choose) := fun b h => dif_pos h
  have hTn : ∀ b, b ∉ tabs K → HT b = none := fun b h => dif_neg h
  have hTok : ∀ b u, HT b = some u → ∀ H : Hp, ObjOk P w H s₁.heap b u := fun b u z H => by
    by_cases h : b ∈ tabs K
    · rw [hTt b h] at z; cases z
      exact ⟨#[], by rw [Array.append_empty]; exact (hex b h).choose_spec⟩
    · rw [hTn b h] at z; cases z
  have hT2 : ∀ b ps, HT b = some (.tbl ps) → ∃ ps0, ps = ps0 ∧ s₁.heap.get? b = some { cls := .none, data := .fields ps0 } := fun b ps z => by
    by_cases h : b ∈ tabs K
    · rw [hTt b h] at z; cases z
      exact ⟨_, rfl, (hex b h).choose_spec.1⟩
    · rw [hTn b h] at z; cases z
  have anT : a ∉ tabs K := fun h => by
    obtain ⟨ps, e, _⟩ := hex a h
    rw [ha] at e; cases e
  cases hk : K.lookup a with
  | some o =>
    have e := KX a o hk
    rw [ha] at e
    cases e
    refine core HT (fun b => ?_) (.inr ⟨_, vs.toArray, _, hk, rfl, rfl, rfl, by rw [List.size_toArray, lenV]; exact hl, by simpa using rv⟩) (fun b u z => hTok b u z HT) (fun b z => ?_) (fun z => absurd (hTn a anT) z) (fun P hP => ⟨_, hTt P hP⟩) hT2
    · by_cases h : b ∈ tabs K
      · exact .inr (.inr ⟨_, hTt b h⟩)
      · exact .inl (hTn b h)
    · by_cases h : b ∈ tabs K
      · exact .inr h
      · exact absurd (hTn b h) z
  | none =>
    refine core (fun b => if b = a then some (.frz { cls := .type "list", data := .seq vs.toArray } (.lst (ns.map V.int))) else HT b) (fun b => ?_) (.inl (.inr ⟨{ cls := .type "list", data := .seq vs.toArray }, if_pos rfl⟩)) (fun b u z => ?_) (fun b z => ?_) (fun _ => hk) (fun P hP => ⟨_, (if_neg (fun e : P = a => anT (e ▸ hP))).trans (hTt P hP)⟩) (fun b ps z => by
      by_cases hb : b = a
      · have z' := (if_pos hb).symm.trans z
        cases z'
      · exact hT2 b ps ((if_neg hb).symm.trans z))
    · by_cases hb : b = a
      · exact .inr (.inl ⟨_, _, if_pos hb⟩)
      · by_cases h : b ∈ tabs K
        · exact .inr (.inr ⟨_, (if_neg hb).trans (hTt b h)⟩)
        · exact .inl ((if_neg hb).trans (hTn b h))
    · by_cases hb : b = a
      · have z' := (if_pos hb).symm.trans z
        cases z'
        subst hb
        exact ⟨ha, by rw [List.length_map]; exact hl, vs, _, rv, ha⟩
      · have z' := (if_neg hb).symm.trans z
        exact hTok b u z' _
    · by_cases hb : b = a
      · exact .inl hb
      · by_cases h : b ∈ tabs K
        · exact .inr h
        · exact absurd ((if_neg hb).trans (hTn b h)) z
end L2

namespace L2
open PySem PySem.Spec PyProof.Rows

abbrev KOf {K : PySem.W.Frag} {h : Heap} (_ : K.In h) : PySem.W.Frag := K

/-- the goal that k_head leaves (case hc), from the law's promise. F gives the function object fd (K's own) once, then the promise over every base -/
theorem walk_of {l : PySem.W.OpenLaw} {n k : Nat} {q : Program} {loose : List Str} {XP : (Str → Option Value) → Heap → Prop} {YP : World → Heap → Prop} {d : DefRec} {K : Params → PySem.W.Frag} {CX : World → CXT} {sp : World → Sp} {x : Str}
    (hn : l.most = some n) (hn2 : n ≤ sizeLine) (hdf : d.params.defaults = []) (hr : Room k callerA)
    (hY : ∀ (w : World) (h : Heap), YP w h → (K w.params).In h)
    (F : ∀ (w : World) (mg : Str → Option Value) (fa : Addr) (h : Heap), (K w.params).In h → h.Ns mainGlobals mg → mg d.name = some (.ref fa) →
      ∃ fd : FuncData, (∀ (s : Shared) (u : Value), BindsTo s fd ⟨[u], []⟩ [(x, u)]) ∧
        ∀ base : Heap, (K w.params).In base → base.Ns mainGlobals mg → FnOk l.prog w (K w.params) mg base (CX w) k fa fd [x] (sp w))
    (hsp : ∀ (w : World) (H : Hp) (a : Addr) (ns : List Int), ns.length ≤ n → Only H → SqL (K w.params) H a (ns.map V.int) → sp w [.ref a] H (fun v _ => v = .bl true) fun _ _ _ => False)
    (hCX : ∀ (w : World) (H : Hp) (s : Shared) (e : Value) (s' : Shared), CX w [] H s (fun _ _ _ => False) e s' → False)
    (hT : ∀ (w : World) (h : Heap), YP w h → ∀ P ∈ tabs (K w.params), (K w.params).lookup P = none ∧ ∃ c ps, h.TableAt c P ps ∧ TriplesOk ps.toList) :
    PySem.W.WalkO q loose XP YP l.row.toRowW d [] (fun f vs => PySem.call f vs) := by
  refine Att.attach_call hn hdf fun w s₀ s₁ mg mb fa o pm cd doc a vs ns G Y ho hd hcd hmg hobj hints hlen hg => ?_
  have KX := hY w _ Y
  obtain ⟨fd, hb, hF⟩ := F w mg fa _ KX G.T.g hmg
  exact law_call KX G.T.g G.T.b G.T.builtins G.T.nolimit hg hobj hints (Nat.le_trans hlen hn2) hr hF hb (fun H hO hS => hsp w H a ns hlen hO hS) (fun H e s' => hCX w H s₁ e s') (hT w _ Y) G.T.bmain
end L2

/- THE LAST THEOREM (shape; LID, My.* are yours):
   My.Adr: a structure of the addresses that your layer names (classes, functions); My.Txt K t: a structure (Prop) of the equations over K;
   My.txt_mk : {K} {implicit addresses ..} (e1 : nsIn K mainGlobals "law" = some (some (.ref f))) (e2 : K.lookup f = some ⟨oc, od, .func (fnOf "law" "law" params body scope dV kV doc pm an cdv ct), sl⟩) (e3 : codeIn K cdv "law" = true) .. : ∃ t, My.Txt K t

set_option maxRecDepth 100000 in
set_option maxHeartbeats 0 in
theorem PySem.Challenge.cw_LID_holds : PySem.Challenge.rw_LID.Holds := by
  w_on; o_law; k_head; (case hw => w_witness2)
  k_fill
  refine L2.walk_of (l := PySem.Challenge.rw_LID) (n := 63) (k := 40) (x := "script") (CX := fun w => ..) (sp := fun _ => My.sp_law) rfl (by decide) rfl ⟨rfl, by decide, by decide⟩ (fun w h Y => PySem.W.kIn_of Y) ?F ?S ?C
  case F =>
    intro w mg fa h KX G hmg
    have T : ∃ t, My.Txt (L2.KOf KX) t := by
      dsimp only [L2.KOf]                          -- K must stand as «<heap const> w.params» for k_is
      refine' My.txt_mk ?e1 ?e2 ?e3 ..
      (case e1 => PySem.W.k_is)                    -- in the order: a name -> its address -> its object -> its parts
      (case e2 => PySem.W.k_is)
      ..
    obtain ⟨t, T⟩ := T
    have e0 := hmg.symm.trans (PySem.W.mg_of KX G T.law)
    cases e0                                       -- fa is the law's own address
    exact ⟨_, fun s u => .of_eq rfl, fun base kb nb => My.law_fn T kb nb⟩     -- if «.of_eq rfl» comes too early: refine' ⟨_, ?b, fun base kb nb => My.law_fn T kb nb⟩; exact fun s u => .of_eq rfl
  case S => exact fun w H a ns hl hO hS => ..
  case C => exact ..
(the tactic k_is has no namespace: write k_is) -/

/-! SHORT WORDS over the layer: a def of the text, its body, what a loop and a test want. -/
namespace L2
open PySem PySem.Spec PyProof.Rows

/-! ### the text by places -/
/-- the j-th statement of a class's body -/
def inClass (s : Stmt) (j : Nat) : Stmt := match s with
  | .ClassDef _ _ _ body _ _ _ _ _ _ _ => body.getD j (.Pass ⟨0, 0, 0, 0⟩)
  | _ => .Pass ⟨0, 0, 0, 0⟩
def defArgs (s : Stmt) : Arguments := match s with
  | .FunctionDef _ a _ _ _ _ _ _ _ _ => a
  | _ => { posonlyargs := [], args := [], vararg := none, kwonlyargs := [], kw_defaults := [], kwarg := none, defaults := [] }
def defBody (s : Stmt) : List Stmt := match s with
  | .FunctionDef _ _ b _ _ _ _ _ _ _ => b
  | _ => []
def defScope (s : Stmt) : Scope := match s with
  | .FunctionDef _ _ _ _ _ _ sc _ _ _ => sc
  | _ => { kind := .function, names := [], isGenerator := false, isCoroutine := false }

/-! ### no exception leaves a def -/
abbrev CX0 : CXT := fun _ _ _ _ _ _ => False
abbrev E0 : XK := fun _ _ _ => False
theorem pass0 {X : Cx} : Passes CX0 X E0 := fun _ _ _ _ _ _ _ h => h.elim

/-! ### a def (or method) of the text as it stands behind the top -/
structure Fun (K : PySem.W.Frag) (x qual : Str) (st : Stmt) (f : Addr) (fd : FuncData) : Prop where
  ex : ∃ (oc : Value) (od : Option Addr) (kV doc pm : Value) (an : Option Addr) (cdv ct : Value) (osl : Array (Option Value)),
    fd = PySem.W.fnOf x qual (defArgs st) (defBody st) (defScope st) .none kV doc pm an cdv ct ∧ K.lookup f = some ⟨oc, od, .func fd, osl⟩ ∧ PySem.W.codeIn K cdv qual = true
  kp : PySem.W.keepIn K (.ref f) = true
section
variable {P : Program} {w : World} {K : PySem.W.Frag} {mg : Str → Option Value} {base : Heap}
/-- THE RULE for a def: its body as a term of rules, and the reading of that term -/
theorem Fun.ok {x qual : Str} {st : Stmt} {f : Addr} {fd : FuncData} {N ps : List Str} {k : Nat} {sp : Sp} (F : Fun K x qual st f fd) (S : FnScope N ps (defScope st)) (len : ∀ vs H Q E, sp vs H Q E → vs.length = ps.length)
    (hbody : ∀ (cdv : Value) (A : Around) (outer : List Env) (s : Shared) (H : Hp) (vs : List V) (Q : VK) (E : XK), Room k (A.deeper (envOfC qual (defScope st) s.heap.objs.size f cdv)) → sp vs H Q E →
      ∃ t, PSs (cxOf CX0 P w K mg base N qual (defScope st) f cdv A outer s H E).nox (defBody st) t ∧ t { nx := fun _ H' => Q .non H', rt := Q } (start N vs) H) : FnOk P w K mg base CX0 (k + 1) f fd ps sp := by
  obtain ⟨oc, od, kV, doc, pm, an, cdv, ct, osl, rfl, lk, hcd⟩ := F.ex
  refine fn_of lk hcd S len fun A outer s H vs Q E hr hsp => ?_
  obtain ⟨t, h, q⟩ := hbody cdv A outer s H vs Q E hr hsp
  exact ⟨t, h.nox, q⟩
/-- how its arguments bind (no defaults): h is «fun _ _ _ _ _ _ us hl => match us, hl with | [_, _], _ => rfl», one _ a parameter -/
theorem Fun.binds {x qual : Str} {st : Stmt} {f : Addr} {fd : FuncData} {ps : List Str} (F : Fun K x qual st f fd)
    (h : ∀ (kV doc pm : Value) (an : Option Addr) (cdv ct : Value) (us : List Value), us.length = ps.length → bindArgs (PySem.W.fnOf x qual (defArgs st) (defBody st) (defScope st) .none kV doc pm an cdv ct) ⟨us, []⟩ = pure (ps.zip us)) : Binds K fd ps [] := by
  obtain ⟨oc, od, kV, doc, pm, an, cdv, ct, osl, rfl, lk, hcd⟩ := F.ex
  exact .all (h kV doc pm an cdv ct)
theorem fun_mk {x qual : Str} {st : Stmt} {f : Addr} {oc : Value} {od an : Option Addr} {osl : Array (Option Value)} {kV doc pm cdv ct : Value} (l : K.lookup f = some ⟨oc, od, .func (PySem.W.fnOf x qual (defArgs st) (defBody st) (defScope st) .none kV doc pm an cdv ct), osl⟩)
    (c : PySem.W.codeIn K cdv qual = true) (k : PySem.W.keepIn K (.ref f) = true) : Fun K x qual st f (PySem.W.fnOf x qual (defArgs st) (defBody st) (defScope st) .none kV doc pm an cdv ct) := ⟨⟨oc, od, kV, doc, pm, an, cdv, ct, osl, rfl, l, c⟩, k⟩
end
/-! ### expressions in short: the name that stands in the i-th slot -/
section
variable {X : Cx}
end

/-! ### tests -/
/-! ### heaps -/
/-- all that was tracked is as it was -/
def Same (H H' : Hp) : Prop := ∀ b o, H b = some o → H' b = some o
theorem Same.refl (H : Hp) : Same H H := fun _ _ h => h
theorem Same.trans {H H1 H2 : Hp} (a : Same H H1) (b : Same H1 H2) : Same H H2 := fun c o h => b c o (a c o h)
theorem Same.free {H H' : Hp} (e : Same H H') {l : Addr} (h : H' l = Option.none) : H l = Option.none := by
  cases q : H l with
  | none => rfl
  | some o =>
    rw [e l o q] at h
    cases h
theorem Same.seq {K : PySem.W.Frag} {H H' : Hp} {a : Addr} {xs : List V} (e : Same H H') (h : SqL K H a xs) : SqL K H' a xs := by
  rcases h with (h | ⟨o, h⟩) | h
  · exact .inl (.inl (e _ _ h))
  · exact .inl (.inr ⟨o, e _ _ h⟩)
  · exact .inr h

/-! ### a dict's pairs: keys that differ -/
section
variable {κ : Type} [DecidableEq κ]
end
/-! ### lists -/
/-- a new instance and its __init__ leave all that was tracked as it was -/
theorem Same.made {H H1 : Hp} {x dx C : Addr} (nx : H x = Option.none) (nd : H dx = Option.none) (k : ∀ b o, (upd (upd H dx (.own x)) x (.ins C dx [])) b = some o → b ≠ x → H1 b = some o) : Same H H1 := fun b o e =>
  k b o (by rw [upd_ne (ne_of_none e nx), upd_ne (ne_of_none e nd)]; exact e) (ne_of_none e nx)
end L2

set_option autoImplicit false
set_option maxHeartbeats 8000000
namespace PL
open PySem PySem.Spec PyProof.Rows L2
section
variable {prog : Program} {w : World} {A : Around} {E : Value → Shared → Prop} {s : Shared}
theorem tupNext {it t : Addr} {i : Nat} {items : Array Value} {x : Value} {Q : Value → Shared → Prop} (g : IsTupIter s.heap it t i) (gt : IsTup s.heap t items) (gx : items[i]? = some x)
    (k : ∀ h', IsTupIter h' it t (i + 1) → Heap.SameBut it s.heap h' → Q x { s with heap := h' }) : wpAny (model prog w) A (Builtin.SmallTypes.nextOf (.ref it)) Q E s := by
  obtain ⟨⟨c, dd, dt, sl⟩, h1, h2, h3⟩ := id g
  obtain ⟨⟨pc, pd, pdt, psl⟩, h4, _, n, h5⟩ := gt
  obtain ⟨heap, g1, d1, tk, os⟩ := s
  cases h2
  cases h3
  cases h5
  unfold Builtin.SmallTypes.nextOf; refine wpAny_bind (wpAny_callSpecial?_slot (T := "tuple_iterator") ⟨_, h1, rfl⟩ slot_tupleiter_next (wpAny_call_entry slot_tupleiter_next ⟨_, h1, rfl⟩ entry_tupleiter_next ?_ (args_tupleiter_next _)))
  wp_walk
  have gi : items[(i : Int).toNat]? = some x := gx
  rw [gi]
  wp_walk
  refine ⟨x, rfl, ?_⟩
  wp_walk
  exact k _ ⟨_, Heap.get?_update_self _ h1 rfl, rfl, rfl⟩ (Heap.SameBut.update ..)
/-- an iterator over a tuple (true) or a list (false), and what it goes over -/
def IsIt : Bool → Heap → Addr → Addr → Nat → Prop
  | true => IsTupIter
  | false => Heap.IsListIter
def IsSq : Bool → Heap → Addr → Array Value → Prop
  | true => IsTup
  | false => Heap.IsList
theorem IsIt.at_ {b : Bool} {h h' : Heap} {it l : Addr} {i : Nat} (x : IsIt b h it l i) (k : ∀ o, h.get? it = some o → h'.get? it = some o) : IsIt b h' it l i := by
  cases b <;> (obtain ⟨o, ho, r⟩ := x; exact ⟨o, k o ho, r⟩)
theorem IsSq.at_ {b : Bool} {h h' : Heap} {l : Addr} {xs : Array Value} (x : IsSq b h l xs) (k : ∀ o, h.get? l = some o → h'.get? l = some o) : IsSq b h' l xs := by
  cases b <;> (obtain ⟨o, ho, r⟩ := x; exact ⟨o, k o ho, r⟩)
theorem IsIt.obj {b : Bool} {h : Heap} {it l : Addr} {i : Nat} (x : IsIt b h it l i) : ∃ o, h.get? it = some o ∧ ∀ v, o.data ≠ .cell v := by
  cases b <;> (obtain ⟨o, ho, _, hd⟩ := x; exact ⟨o, ho, fun v q => by rw [hd] at q; cases q⟩)
theorem oneNext {b : Bool} {it t : Addr} {i : Nat} {items : Array Value} {x : Value} {Q : Value → Shared → Prop} (g : IsIt b s.heap it t i) (gt : IsSq b s.heap t items) (gx : items[i]? = some x)
    (k : ∀ h', IsIt b h' it t (i + 1) → Heap.SameBut it s.heap h' → Q x { s with heap := h' }) : wpAny (model prog w) A (Builtin.SmallTypes.nextOf (.ref it)) Q E s := by
  cases b with
  | true => exact tupNext g gt gx k
  | false => exact wpAny_nextOf_list_item g gt gx k
def tob (vs : List Value) : Obj := { cls := .type "tuple", data := .seq vs.toArray }
theorem nea {a b : Nat} (h : a ≠ b) : @Ne Addr a b := h
theorem fld {α : Type} {z : Addr} {o : Obj} {vs : Array Value} {j : Nat} {v : Value} {f : Value → Sem α} {Q : α → Shared → Prop} (ho : s.heap.get? z = some o) (hd : o.data = .fields vs) (hv : vs[j]? = some v) (k : wpAny (model prog w) A (f v) Q E s) :
    wpAny (model prog w) A (field (.ref z) j >>= f) Q E s := wpAny_bind (wpAny_field ho hd hv k)
theorem sqi {α : Type} {z : Addr} {o : Obj} {vs : Array Value} {m : Nat} {f : Option (Array Value) → Sem α} {Q : α → Shared → Prop} (ho : s.heap.get? z = some o) (hd : o.data = .seq vs m) (k : wpAny (model prog w) A (f (some vs)) Q E s) :
    wpAny (model prog w) A (seqItems? (.ref z) >>= f) Q E s := wpAny_bind (wpAny_seqItems ho hd k)
/-- the zip's pair is free -/
theorem freeNow {α : Type} {z TI TO : Addr} {f : Bool → Sem α} {Q : α → Shared → Prop} (hz : IsZip s.heap z TI TO .none) (k : wpAny (model prog w) A (f true) Q E s) :
    wpAny (model prog w) A (Builtin.SmallTypes.ownedTupleIsFree (.ref z) >>= f) Q E s := by
  refine wpAny_bind ?_
  unfold Builtin.SmallTypes.ownedTupleIsFree; exact fld hz rfl rfl (wpAny_pure k)
/-- the zip's mark is changed -/
theorem mark {α : Type} {z TI TO : Addr} {m v : Value} {f : Unit → Sem α} {Q : α → Shared → Prop} (hz : IsZip s.heap z TI TO m) (k : ∀ h', IsZip h' z TI TO v → Heap.SameBut z s.heap h' → wpAny (model prog w) A (f ()) Q E { s with heap := h' }) :
    wpAny (model prog w) A (setField (.ref z) 0 v >>= f) Q E s := wpAny_bind (wpAny_setField_rec hz (Nat.zero_lt_succ _) k)
/-- the pair's k-th place is written -/
theorem putAt {α : Type} {T : Addr} {vs : List Value} {j : Nat} {x : Value} {f : Unit → Sem α} {Q : α → Shared → Prop} (ho : s.heap.get? T = some (tob vs)) (hl : vs.length ≤ 9) (k : ∀ h', h'.get? T = some (tob (vs.set j x)) → Heap.SameBut T s.heap h' → wpAny (model prog w) A (f ()) Q E { s with heap := h' }) :
    wpAny (model prog w) A (updateSeq T (fun a => a.setIfInBounds j x) >>= f) Q E s := by
  have h9 : 9 ≤ sizeLine := by decide
  refine wpAny_bind (wpAny_updateSeq ho rfl (k _ ?_ (Heap.SameBut.update ..)) (by simp; omega) (by simp; omega))
  rw [Heap.get?_update_self _ ho rfl]
  simp [tob, Obj.mapSeq]
/-- one is drawn -/
theorem drawn {β : Type} {b : Bool} {it t : Addr} {i : Nat} {items : Array Value} {x : Value} {f : Option Value → Sem β} {r : Value → Sem Unit} {Q : β → Shared → Prop} (g : IsIt b s.heap it t i) (gt : IsSq b s.heap t items) (gx : items[i]? = some x)
    (k : ∀ h', IsIt b h' it t (i + 1) → Heap.SameBut it s.heap h' → wpAny (model prog w) A (f (some x)) Q E { s with heap := h' }) :
    wpAny (model prog w) A (Sem.onRaise (Builtin.SmallTypes.nextOf (.ref it) >>= fun v => pure (some v)) r >>= f) Q E s :=
  wpAny_bind (wpAny_onRaise (wpAny_bind (oneNext g gt gx fun h' a b => wpAny_pure (k h' a b))))
theorem handOut {α : Type} {z TI TO T : Addr} {m : Value} {f : Unit → Sem α} {Q : α → Shared → Prop} (hz : IsZip s.heap z TI TO m) (k : ∀ h', IsZip h' z TI TO (rawInt T) → Heap.SameBut z s.heap h' → wpAny (model prog w) A (f ()) Q E { s with heap := h' }) :
    wpAny (model prog w) A (Builtin.SmallTypes.ownedTupleHandOut (.ref z) (.ref T) >>= f) Q E s := by
  refine wpAny_bind ?_
  unfold Builtin.SmallTypes.ownedTupleHandOut; refine mark hz fun h1 z1 s1 => wpAny_setField_rec z1 (by simp) fun h2 z2 s2 => k h2 z2 ?_
  exact ⟨s2.1.trans s1.1, fun c hc => (s2.2 c hc).trans (s1.2 c hc)⟩
/-- what is zipped: tuple or list, where it stands, its items -/
abbrev Sr := Bool × Nat × Array Value
/-- a zip: the iterators from n on, their tuple, the last answer, the zip itself -/
structure ZN (rs : List Sr) (n i : Nat) (h : Heap) : Prop where
  z : IsZip h (n + rs.length + 2) (n + rs.length) (n + rs.length + 1) .none
  ti : h.get? (n + rs.length) = some (tob ((List.range rs.length).map fun j => Value.ref (n + j)))
  to : ∃ vs : List Value, vs.length = rs.length ∧ h.get? (n + rs.length + 1) = some (tob vs)
  it : ∀ (j : Nat) (r : Sr), rs[j]? = some r → IsIt r.1 h (n + j) r.2.1 i
/-- what a turn of a zip leaves as it is -/
def Off (rs : List Sr) (n : Nat) (h h' : Heap) : Prop := ∀ (c : Nat) (o : Obj), (c < n ∨ c = n + rs.length ∨ n + rs.length + 2 < c) → h.get? c = some o → h'.get? c = some o
end
/-- a list or a tuple that is read -/
def Sq (K : PySem.W.Frag) : Bool → Hp → Addr → List V → Prop
  | true => SqT K
  | false => SqL K
/-- the turns of a zip of these -/
def Izn (K : PySem.W.Frag) (as : List (Bool × Addr)) : It :=
  ⟨fun i H => ∃ vs : List V, vs.length = as.length ∧ ∀ (j : Nat) (a : Bool × Addr), as[j]? = some a → ∃ us v, Sq K a.1 H a.2 us ∧ us[i]? = some v ∧ vs[j]? = some v,
    fun i H v H' => ∃ (T : Addr) (vs : List V), v = .ref T ∧ H T = none ∧ H' = upd H T (.tup vs) ∧ vs.length = as.length ∧ ∀ (j : Nat) (a : Bool × Addr), as[j]? = some a → ∀ us, Sq K a.1 H a.2 us → us[i]? = vs[j]?,
    fun i H => (∀ a ∈ as, ∃ us, Sq K a.1 H a.2 us) ∧ ∃ a ∈ as, ∃ us, Sq K a.1 H a.2 us ∧ us.length ≤ i⟩
/-- the state of a zip of these, i items drawn of each -/
def Zst (as : List (Bool × Addr)) (n i : Nat) (h : Heap) : Prop := ∃ rs : List Sr, (rs.map fun r => (r.1, r.2.1)) = as ∧ ZN rs n i h
end PL

/-! PURE LAYER, part 7: a zip is made -/
namespace PL
open PySem PySem.Spec PyProof.Rows L2
def itObj (b : Bool) (l : Addr) : Obj := { cls := .type (if b then "tuple_iterator" else "list_iterator"), data := .fields #[.ref l, .int 0 0] }
theorem it_new {b : Bool} {h : Heap} {l a : Addr} (e : h.get? a = some (itObj b l)) : IsIt b h a l 0 := by
  cases b <;> exact ⟨_, e, rfl, rfl⟩
section
variable {prog : Program} {w : World} {A : Around} {E : Value → Shared → Prop} {s : Shared}
end
/-- objects put behind a heap -/
def behind (h : Heap) : List Obj → Heap
  | [] => h
  | o :: os => behind (h.push o) os
theorem behind_old : ∀ (os : List Obj) (h : Heap) (c : Addr) (o : Obj), h.get? c = some o → (behind h os).get? c = some o
  | [], _, _, _, q => q
  | x :: os, h, c, o, q => behind_old os (h.push x) c o (Heap.get?_push_of_some _ q)
theorem behind_get : ∀ (os : List Obj) (h : Heap) (j : Nat) (o : Obj), os[j]? = some o → o.isFreed = false → (behind h os).get? (h.objs.size + j) = some o
  | [], _, _, _, q, _ => by simp at q
  | x :: os, h, 0, o, q, f => by
    cases q
    exact behind_old os _ _ _ (Heap.get?_push_size _ f)
  | x :: os, h, j + 1, o, q, f => by
    have := behind_get os (h.push x) j o (by simpa using q) f
    rw [Heap.size_push, Nat.add_right_comm] at this
    exact this
/-- what making a zip of these lays down -/
def laid (as : List (Bool × Addr)) (n : Nat) : List Obj :=
  (as.map fun a => itObj a.1 a.2) ++ [tob ((List.range as.length).map fun j => Value.ref (n + j)), tob (as.map fun _ => .none),
    { cls := .type "zip", data := .fields #[.none, .bool false, .bool false, .ref (n + as.length), .ref (n + as.length + 1)] }]
theorem laid_zst (as : List (Bool × Addr)) (h : Heap) : Zst as h.objs.size 0 (behind h (laid as h.objs.size)) := by
  refine ⟨as.map fun a => (a.1, a.2, #[]), by rw [List.map_map]; exact List.map_id _, ?_⟩
  have at_ : ∀ (k : Nat) (o : Obj), ([tob ((List.range as.length).map fun j => Value.ref (h.objs.size + j)), tob (as.map fun _ => .none), ({ cls := .type "zip", data := .fields #[.none, .bool false, .bool false, .ref (h.objs.size + as.length), .ref (h.objs.size + as.length + 1)] } : Obj)])[k]? = some o → o.isFreed = false → (behind h (laid as h.objs.size)).get? (h.objs.size + (as.length + k)) = some o := fun k o q f => by
    refine behind_get _ _ _ _ ?_ f
    unfold laid
    rw [List.getElem?_append_right (by simp), List.length_map, Nat.add_sub_cancel_left]
    exact q
  refine ⟨?_, ?_, ⟨as.map fun _ => .none, by simp, ?_⟩, fun j r hr => ?_⟩
  · rw [List.length_map]; exact at_ 2 _ rfl rfl
  · rw [List.length_map]; exact at_ 0 _ rfl rfl
  · rw [List.length_map]; exact at_ 1 _ rfl rfl
  · rw [List.getElem?_map] at hr
    cases e : as[j]? with
    | none => rw [e] at hr; cases hr
    | some a =>
      rw [e] at hr
      cases hr
      have hl := (List.getElem?_eq_some_iff.mp e).1
      refine it_new (behind_get _ _ _ _ ?_ (by cases a with | mk b l => cases b <;> rfl))
      unfold laid
      rw [List.getElem?_append_left (by simpa using hl), List.getElem?_map, e]
      rfl
section
variable {prog : Program} {w : World} {A : Around} {E : Value → Shared → Prop} {s : Shared}
theorem zipped {as : List (Bool × Addr)} {Q : Value → Shared → Prop} (h : ∀ h' : Heap, Zst as s.heap.objs.size 0 h' → (∀ c o, s.heap.get? c = some o → h'.get? c = some o) → Q (.ref (s.heap.objs.size + as.length + 2)) { s with heap := h' }) : Q (.ref (s.heap.objs.size + as.length + 2)) { s with heap := behind s.heap (laid as s.heap.objs.size) } :=
  h _ (laid_zst as s.heap) fun c o q => behind_old _ _ _ _ q
end
def iZ2 (K : PySem.W.Frag) (ta : TA) : TI := fun σ H R => ta σ H fun vs H1 => ∃ a b xs ys, vs = [.ref a.2, .ref b.2] ∧ Sq K a.1 H1 a.2 xs ∧ Sq K b.1 H1 b.2 ys ∧ R (Izn K [a, b]) H1
def iZ3 (K : PySem.W.Frag) (ta : TA) : TI := fun σ H R => ta σ H fun vs H1 => ∃ a b c xs ys zs, vs = [.ref a.2, .ref b.2, .ref c.2] ∧ Sq K a.1 H1 a.2 xs ∧ Sq K b.1 H1 b.2 ys ∧ Sq K c.1 H1 c.2 zs ∧ R (Izn K [a, b, c]) H1
end PL

/-! PURE LAYER, part 1: values without a heap, a store of lists, how they lie in the abstract heap; expressions. -/
namespace PL
open PySem PySem.Spec PyProof.Rows L2

/-- a value: tuples are trees, lists that the program makes are numbered places of the store, ro is a list that nobody changes -/
inductive D where
  | non | bl (b : Bool) | int (i : Int) | str (x : Str) | tup (ds : List D) | ls (n : Nat) | ro (ds : List D) | ty (n : String) | cls (c : Str) | exc (c : Str) | dc (t : Bool) (n : Nat)

abbrev Sto := List (List D)
abbrev Rh := List Addr
abbrev Gm := List (Option D)
abbrev M (α : Type) := Sto → Option (α × Sto)
def ret {α : Type} (a : α) : M α := fun S => some (a, S)
def stuck {α : Type} : M α := fun _ => none
def bnd {α β : Type} (m : M α) (f : α → M β) : M β := fun S => match m S with
  | some (a, S1) => f a S1
  | none => none
theorem bnd_some {α β : Type} {m : M α} {f : α → M β} {S : Sto} {r : β × Sto} (h : bnd m f S = some r) : ∃ a S1, m S = some (a, S1) ∧ f a S1 = some r := by
  unfold bnd at h
  split at h
  · exact ⟨_, _, by assumption, h⟩
  · cases h
theorem bnd_of {α β : Type} {m : M α} {f : α → M β} {S S1 : Sto} {a : α} (h : m S = some (a, S1)) : bnd m f S = f a S1 := by
  unfold bnd
  rw [h]

/-- a list that nobody changes -/
def RoL (K : PySem.W.Frag) (H : Hp) (r : Rh) (a : Addr) (xs : List V) : Prop := (Rd H a (.lst xs) ∧ a ∉ r) ∨ SqL K (fun _ => none) a xs
theorem sqL_none {K : PySem.W.Frag} {H : Hp} {a : Addr} {xs : List V} (h : SqL K (fun _ => none) a xs) : SqL K H a xs := by
  rcases h with (h | ⟨o, h⟩) | h
  · cases h
  · cases h
  · exact .inr h
theorem RoL.sq {K : PySem.W.Frag} {H : Hp} {r : Rh} {a : Addr} {xs : List V} (h : RoL K H r a xs) : SqL K H a xs := by
  rcases h with ⟨h, _⟩ | h
  · exact .inl h
  · exact sqL_none h

/-- an exception object of the class at C -/
def IsExc (a C : Addr) : Heap → Prop := fun h => ∃ o vs, h.get? a = some o ∧ o.cls = .ref C ∧ o.data = .fields vs
/-- what kind of a thing of the store stands there: 1 a list, 2 a dict by ints or texts, 3 a dict by tuples -/
def kdO : Option HO → Nat
  | some (.lst _) => 1
  | some (.dK _) => 2
  | some (.dT _) => 3
  | _ => 0
structure IsL (H : Hp) (r : Rh) (n : Nat) (a : Addr) : Prop where
  ix : r[n]? = some a
  kd : kdO (H a) = 1
/-- t: its keys are tuples -/
structure IsDc (H : Hp) (r : Rh) (t : Bool) (n : Nat) (a : Addr) : Prop where
  ix : r[n]? = some a
  kd : kdO (H a) = cond t 3 2
/-- a tuple that the program made -/
def TupR (H : Hp) (a : Addr) (xs : List V) : Prop := H a = some (.tup xs)
theorem TupR.of {H : Hp} {a : Addr} {xs : List V} (h : H a = some (.tup xs)) : TupR H a xs := h
theorem TupR.sq {K : PySem.W.Frag} {H : Hp} {a : Addr} {xs : List V} (h : TupR H a xs) : SqT K H a xs := SqT.of h
instance {K : PySem.W.Frag} {H : Hp} {a : Addr} {xs : List V} : Coe (TupR H a xs) (SqT K H a xs) := ⟨TupR.sq⟩
mutual
inductive Rep (K : PySem.W.Frag) (H : Hp) (r : Rh) : V → D → Prop
  | non : Rep K H r .non .non
  | bl (b : Bool) : Rep K H r (.bl b) (.bl b)
  | int (i : Int) : Rep K H r (.int i) (.int i)
  | str (x : Str) : Rep K H r (.str x) (.str x)
  | tup {a : Addr} {xs : List V} {ds : List D} : TupR H a xs → Reps K H r xs ds → Rep K H r (.ref a) (.tup ds)
  | ls {a : Addr} {n : Nat} : IsL H r n a → Rep K H r (.ref a) (.ls n)
  | ro {a : Addr} {xs : List V} {ds : List D} : RoL K H r a xs → Reps K H r xs ds → Rep K H r (.ref a) (.ro ds)
  | ty (n : String) : Rep K H r (.ty n) (.ty n)
  | cls {a : Addr} {c : Str} : PySem.W.nsIn K mainGlobals c = some (some (.ref a)) → Rep K H r (.ref a) (.cls c)
  | exc {a C : Addr} {c : Str} : PySem.W.nsIn K mainGlobals c = some (some (.ref C)) → H a = some (.ext (IsExc a C)) → a ∉ r → Rep K H r (.ref a) (.exc c)
  | dc {a : Addr} {t : Bool} {n : Nat} : IsDc H r t n a → Rep K H r (.ref a) (.dc t n)
inductive Reps (K : PySem.W.Frag) (H : Hp) (r : Rh) : List V → List D → Prop
  | nil : Reps K H r [] []
  | cons {v : V} {vs : List V} {d : D} {ds : List D} : Rep K H r v d → Reps K H r vs ds → Reps K H r (v :: vs) (d :: ds)
end

/-- a dict's entries, as data: pairs of a key and a value -/
def keyD : D → Option Key
  | .int i => some (.inl i)
  | .str x => some (.inr x)
  | _ => none
def keysD : D → Option (List Key)
  | .tup [a, b] => match keyD a, keyD b with
    | some x, some y => some [x, y]
    | _, _ => none
  | _ => none
structure DRep {κ : Type} (key : D → Option κ) (K : PySem.W.Frag) (H : Hp) (r : Rh) (kvs : List (κ × V)) (ds : List D) : Prop where
  len : kvs.length = ds.length
  at_ : ∀ (i : Nat) (k : κ) (v : V), kvs[i]? = some (k, v) → ∃ kd vd, ds[i]? = some (.tup [kd, vd]) ∧ key kd = some k ∧ Rep K H r v vd
def Cell (K : PySem.W.Frag) (H : Hp) (r : Rh) (a : Addr) (ds : List D) : Prop :=
  (∃ xs, H a = some (.lst xs) ∧ Reps K H r xs ds) ∨ (∃ kvs, H a = some (.dK kvs) ∧ DRep keyD K H r kvs ds) ∨ ∃ kvs, H a = some (.dT kvs) ∧ DRep keysD K H r kvs ds
structure SOk (K : PySem.W.Frag) (H : Hp) (r : Rh) (S : Sto) : Prop where
  len : r.length = S.length
  cell : ∀ (n : Nat) (a : Addr) (ds : List D), r[n]? = some a → S[n]? = some ds → Cell K H r a ds
  inj : ∀ (n m : Nat) (a : Addr), r[n]? = some a → r[m]? = some a → n = m
/-- from one abstract heap to a later one: what is not a list of the store stays -/
structure Stp (H : Hp) (r : Rh) (H' : Hp) (r' : Rh) : Prop where
  pre : ∃ q, r' = r ++ q
  keep : ∀ a o, H a = some o → a ∉ r → H' a = some o
  fresh : ∀ a, a ∈ r' → a ∈ r ∨ H a = none
  kind : ∀ a, a ∈ r → kdO (H a) ≠ 0 → kdO (H' a) = kdO (H a)

section
variable {K : PySem.W.Frag} {H H' H1 H2 : Hp} {r r' r1 r2 : Rh} {S S' S1 : Sto} {v : V} {d : D} {vs : List V} {ds : List D} {a : Addr} {n : Nat}
theorem Stp.refl : Stp H r H r := ⟨⟨[], by simp⟩, fun _ _ h _ => h, fun _ h => .inl h, fun _ _ _ => rfl⟩
theorem Stp.trans (x : Stp H r H1 r1) (y : Stp H1 r1 H2 r2) : Stp H r H2 r2 := by
  obtain ⟨q, rfl⟩ := x.pre
  obtain ⟨q2, rfl⟩ := y.pre
  refine ⟨⟨q ++ q2, by simp⟩, fun a o h ha => ?_, fun a h => ?_, fun a ha h0 => by
    have e1 := x.kind a ha h0
    have e2 := y.kind a (List.mem_append_left _ ha) (by rw [e1]; exact h0)
    rw [e2, e1]⟩
  · refine y.keep a o (x.keep a o h ha) fun h1 => ?_
    rcases x.fresh a h1 with h2 | h2
    · exact ha h2
    · rw [h] at h2; cases h2
  · rcases y.fresh a h with h1 | h1
    · exact x.fresh a h1
    · by_cases ha : a ∈ r
      · exact .inl ha
      · cases e : H a with
        | none => exact .inr rfl
        | some o => rw [x.keep a o e ha] at h1; cases h1
theorem kd_is {o : Option HO} (h : kdO o = 1) : ∃ xs, o = some (.lst xs) := by
  unfold kdO at h
  split at h
  · exact ⟨_, rfl⟩
  · cases h
  · cases h
  · cases h
theorem IsL.of {xs : List V} (h : r[n]? = some a) (e : H a = some (.lst xs)) : IsL H r n a := ⟨h, by rw [e]; rfl⟩
theorem IsL.mem (h : IsL H r n a) : a ∈ r := List.mem_of_getElem? h.ix
theorem IsDc.mem {t : Bool} (h : IsDc H r t n a) : a ∈ r := List.mem_of_getElem? h.ix
theorem Cell.kd (h : Cell K H r a ds) : kdO (H a) ≠ 0 := by
  rcases h with ⟨_, e, _⟩ | ⟨_, e, _⟩ | ⟨_, e, _⟩ <;> rw [e] <;> exact fun z => nomatch z
theorem SOk.at_ (s : SOk K H r S) (n : Nat) (a : Addr) (ds : List D) (h : IsL H r n a) (hx : S[n]? = some ds) : ∃ xs, H a = some (.lst xs) ∧ Reps K H r xs ds := by
  rcases s.cell n a ds h.ix hx with q | ⟨_, e, _⟩ | ⟨_, e, _⟩
  · exact q
  · have := h.kd; rw [e] at this; cases this
  · have := h.kd; rw [e] at this; cases this
theorem SOk.kd (s : SOk K H r S) (h : a ∈ r) : kdO (H a) ≠ 0 := by
  obtain ⟨n, hn, e⟩ := List.mem_iff_getElem.mp h
  have e1 : r[n]? = some a := by rw [List.getElem?_eq_getElem hn, e]
  have e2 : n < S.length := by rw [← s.len]; exact hn
  exact (s.cell n a S[n] e1 (List.getElem?_eq_getElem e2)).kd
theorem SOk.ne_tup (s : SOk K H r S) {xs : List V} (h : Rd H a (.tup xs)) : a ∉ r := fun m => by
  have q := s.kd m
  rcases h with h | ⟨o, h⟩
  · rw [h] at q; exact q rfl
  · rw [h] at q; exact q rfl
theorem Stp.rd (x : Stp H r H' r') {u : HO} (h : Rd H a u) (ha : a ∉ r) : Rd H' a u := by
  rcases h with h | ⟨o, h⟩
  · exact .inl (x.keep _ _ h ha)
  · exact .inr ⟨o, x.keep _ _ h ha⟩
theorem Stp.nin (x : Stp H r H' r') {u : HO} (h : Rd H a u) (ha : a ∉ r) : a ∉ r' := fun m => by
  rcases x.fresh a m with h1 | h1
  · exact ha h1
  · rcases h with h | ⟨o, h⟩
    · rw [h] at h1; cases h1
    · rw [h] at h1; cases h1
theorem Stp.sqT (x : Stp H r H' r') (s : SOk K H r S) {xs : List V} (h : SqT K H a xs) : SqT K H' a xs := by
  rcases h with h | h
  · exact .inl (x.rd h (s.ne_tup h))
  · exact .inr h
theorem Stp.tupR (x : Stp H r H' r') (s : SOk K H r S) {xs : List V} (h : TupR H a xs) : TupR H' a xs := x.keep _ _ h (s.ne_tup (.inl h))
theorem Stp.roL (x : Stp H r H' r') {xs : List V} (h : RoL K H r a xs) : RoL K H' r' a xs := by
  rcases h with ⟨h, ha⟩ | h
  · exact .inl ⟨x.rd h ha, x.nin h ha⟩
  · exact .inr h
theorem Stp.ix0 (x : Stp H r H' r') (h : r[n]? = some a) : r'[n]? = some a := by
  obtain ⟨q, rfl⟩ := x.pre
  rw [List.getElem?_append_left (List.getElem?_eq_some_iff.mp h).1]
  exact h
theorem Stp.ix (x : Stp H r H' r') (h : IsL H r n a) : IsL H' r' n a := ⟨x.ix0 h.ix, by rw [x.kind a h.mem (by rw [h.kd]; decide), h.kd]⟩
theorem Stp.dx {t : Bool} (x : Stp H r H' r') (h : IsDc H r t n a) : IsDc H' r' t n a := ⟨x.ix0 h.ix, by rw [x.kind a h.mem (by rw [h.kd]; cases t <;> decide)]; exact h.kd⟩
mutual
theorem Rep.mono (x : Stp H r H' r') (s : SOk K H r S) : ∀ {v : V} {d : D}, Rep K H r v d → Rep K H' r' v d
  | _, _, .non => .non
  | _, _, .bl b => .bl b
  | _, _, .int i => .int i
  | _, _, .str y => .str y
  | _, _, .tup h1 h2 => .tup (x.tupR s h1) (Reps.mono x s h2)
  | _, _, .ls h => .ls (x.ix h)
  | _, _, .ro h1 h2 => .ro (x.roL h1) (Reps.mono x s h2)
  | _, _, .ty n => .ty n
  | _, _, .cls h => .cls h
  | _, _, .exc h1 h2 h3 => .exc h1 (x.keep _ _ h2 h3) fun m => by
    rcases x.fresh _ m with h | h
    · exact h3 h
    · rw [h2] at h; cases h
  | _, _, .dc h => .dc (x.dx h)
theorem Reps.mono (x : Stp H r H' r') (s : SOk K H r S) : ∀ {vs : List V} {ds : List D}, Reps K H r vs ds → Reps K H' r' vs ds
  | _, _, .nil => .nil
  | _, _, .cons h1 h2 => .cons (Rep.mono x s h1) (Reps.mono x s h2)
end
theorem Reps.length : ∀ {vs : List V} {ds : List D}, Reps K H r vs ds → vs.length = ds.length
  | _, _, .nil => rfl
  | _, _, .cons _ h => by rw [List.length_cons, List.length_cons, Reps.length h]
theorem Reps.get : ∀ {vs : List V} {ds : List D} {i : Nat} {d : D}, Reps K H r vs ds → ds[i]? = some d → ∃ v, vs[i]? = some v ∧ Rep K H r v d
  | _, _, _, _, .nil, e => by simp at e
  | _, _, 0, _, .cons h _, e => by simp at e; subst e; exact ⟨_, rfl, h⟩
  | _, _, i + 1, d, .cons _ t, e => by
    obtain ⟨v, h1, h2⟩ := Reps.get (i := i) (d := d) t (by simpa using e)
    exact ⟨v, by simpa using h1, h2⟩
theorem Reps.append : ∀ {xs ys : List V} {us ws : List D}, Reps K H r xs us → Reps K H r ys ws → Reps K H r (xs ++ ys) (us ++ ws)
  | _, _, _, _, .nil, s => s
  | _, _, _, _, .cons h t, s => .cons h (Reps.append t s)
theorem Reps.take : ∀ {xs : List V} {us : List D} (n : Nat), Reps K H r xs us → Reps K H r (xs.take n) (us.take n)
  | _, _, 0, _ => .nil
  | _, _, _ + 1, .nil => .nil
  | _, _, n + 1, .cons h t => .cons h (Reps.take n t)
theorem Reps.drop : ∀ {xs : List V} {us : List D} (n : Nat), Reps K H r xs us → Reps K H r (xs.drop n) (us.drop n)
  | _, _, 0, h => h
  | _, _, _ + 1, .nil => .nil
  | _, _, n + 1, .cons _ t => Reps.drop n t
theorem Reps.set {x : V} {u : D} (h : Rep K H r x u) : ∀ {xs : List V} {us : List D} (i : Nat), Reps K H r xs us → Reps K H r (xs.set i x) (us.set i u)
  | _, _, _, .nil => .nil
  | _, _, 0, .cons _ t => .cons h t
  | _, _, i + 1, .cons q t => .cons q (Reps.set h i t)
theorem Reps.reverse : ∀ {xs : List V} {us : List D}, Reps K H r xs us → Reps K H r xs.reverse us.reverse
  | _, _, .nil => .nil
  | _, _, .cons h t => by
    rw [List.reverse_cons, List.reverse_cons]
    exact Reps.append (Reps.reverse t) (.cons h .nil)

/-- a new object that is no list of the store -/
theorem kd_new {o : HO} (h : H a = none) : ∀ b, kdO (H b) ≠ 0 → kdO (upd H a o b) = kdO (H b) := fun b h0 => by
  rw [upd_ne fun z => by rw [z, h] at h0; exact h0 rfl]
theorem Stp.new {o : HO} (h : H a = none) : Stp H r (upd H a o) r :=
  ⟨⟨[], by simp⟩, fun b o' e _ => by rw [upd_ne (ne_of_none e h)]; exact e, fun _ m => .inl m, fun b _ => kd_new h b⟩
theorem DRep.mono {κ : Type} {key : D → Option κ} {kvs : List (κ × V)} (x : Stp H r H' r') (s : SOk K H r S) (h : DRep key K H r kvs ds) : DRep key K H' r' kvs ds := ⟨h.len, fun i k v e => by
  obtain ⟨kd, vd, h1, h2, h3⟩ := h.at_ i k v e
  exact ⟨kd, vd, h1, h2, Rep.mono x s h3⟩⟩
theorem Cell.mono (x : Stp H r H' r') (s : SOk K H r S) (e : H' a = H a) (h : Cell K H r a ds) : Cell K H' r' a ds := by
  rcases h with ⟨xs, h1, h2⟩ | ⟨kvs, h1, h2⟩ | ⟨kvs, h1, h2⟩
  · exact .inl ⟨xs, by rw [e]; exact h1, Reps.mono x s h2⟩
  · exact .inr (.inl ⟨kvs, by rw [e]; exact h1, h2.mono x s⟩)
  · exact .inr (.inr ⟨kvs, by rw [e]; exact h1, h2.mono x s⟩)
theorem SOk.mono_of (s : SOk K H r S) (x : Stp H r H' r) (h : ∀ a ∈ r, H' a = H a) : SOk K H' r S :=
  ⟨s.len, fun n a ds e1 e2 => (s.cell n a ds e1 e2).mono x s (h a (List.mem_of_getElem? e1)), s.inj⟩
theorem SOk.ne_new (s : SOk K H r S) (h : H a = none) : ∀ b ∈ r, b ≠ a := fun b m z => by
  have q := s.kd m
  rw [z, h] at q
  exact q rfl
theorem SOk.new {o : HO} (s : SOk K H r S) (h : H a = none) : SOk K (upd H a o) r S :=
  s.mono_of (Stp.new h) fun b m => by rw [upd_ne (s.ne_new h b m)]
/-- a new list -/
theorem Stp.newL {xs : List V} (h : H a = none) : Stp H r (upd H a (.lst xs)) (r ++ [a]) :=
  ⟨⟨[a], rfl⟩, fun b o' e _ => by rw [upd_ne (ne_of_none e h)]; exact e, fun b m => by
    rcases List.mem_append.mp m with m | m
    · exact .inl m
    · rw [List.mem_singleton.mp m]; exact .inr h, fun b _ => kd_new h b⟩
theorem SOk.nin (s : SOk K H r S) (h : H a = none) : a ∉ r := fun m => s.ne_new h a m rfl
theorem Stp.newO {o : HO} (h : H a = none) : Stp H r (upd H a o) (r ++ [a]) :=
  ⟨⟨[a], rfl⟩, fun b o' e _ => by rw [upd_ne (ne_of_none e h)]; exact e, fun b m => by
    rcases List.mem_append.mp m with m | m
    · exact .inl m
    · rw [List.mem_singleton.mp m]; exact .inr h, fun b _ => kd_new h b⟩
theorem SOk.newO {o : HO} (s : SOk K H r S) (h : H a = none) (hc : Cell K (upd H a o) (r ++ [a]) a ds) : SOk K (upd H a o) (r ++ [a]) (S ++ [ds]) := by
  have st : Stp H r (upd H a o) (r ++ [a]) := Stp.newO h
  refine ⟨by simp [s.len], fun n b es e1 e2 => ?_, fun n m b e1 e2 => ?_⟩
  · by_cases hn : n < r.length
    · rw [List.getElem?_append_left hn] at e1
      rw [List.getElem?_append_left (by rw [← s.len]; exact hn)] at e2
      exact (s.cell n b es e1 e2).mono st s (by rw [upd_ne (s.ne_new h b (List.mem_of_getElem? e1))])
    · have e : n = r.length := by
        have := (List.getElem?_eq_some_iff.mp e1).1
        simp at this; omega
      subst e
      rw [List.getElem?_append_right (Nat.le_refl _)] at e1
      rw [List.getElem?_append_right (by rw [s.len]; exact Nat.le_refl _)] at e2
      simp [s.len] at e1 e2
      subst e1; subst e2
      exact hc
  · have nr := s.nin h
    by_cases hn : n < r.length
    · rw [List.getElem?_append_left hn] at e1
      by_cases hm : m < r.length
      · rw [List.getElem?_append_left hm] at e2
        exact s.inj n m b e1 e2
      · rw [List.getElem?_append_right (by omega)] at e2
        have q := List.mem_of_getElem? e2
        rw [List.mem_singleton.mp q] at e1
        exact absurd (List.mem_of_getElem? e1) nr
    · rw [List.getElem?_append_right (by omega)] at e1
      have q := List.mem_of_getElem? e1
      have en : n = r.length := by
        have := (List.getElem?_eq_some_iff.mp e1).1
        simp at this; omega
      by_cases hm : m < r.length
      · rw [List.getElem?_append_left hm] at e2
        rw [List.mem_singleton.mp q] at e2
        exact absurd (List.mem_of_getElem? e2) nr
      · rw [List.getElem?_append_right (by omega)] at e2
        have := (List.getElem?_eq_some_iff.mp e2).1
        simp at this; omega
theorem SOk.newL {xs : List V} (s : SOk K H r S) (h : H a = none) (hx : Reps K H r xs ds) : SOk K (upd H a (.lst xs)) (r ++ [a]) (S ++ [ds]) :=
  s.newO h (.inl ⟨xs, upd_same, Reps.mono (Stp.newO h) s hx⟩)
theorem IsL.new {xs : List V} (s : SOk K H r S) : IsL (upd H a (.lst xs)) (r ++ [a]) S.length a := ⟨by rw [← s.len, List.getElem?_append_right (Nat.le_refl _)]; simp, by rw [upd_same]; rfl⟩
/-- a list of the store is changed -/
theorem Stp.wrO {o : HO} (h : r[n]? = some a) (hk : kdO (H a) ≠ 0 → kdO (some o) = kdO (H a)) : Stp H r (upd H a o) r :=
  ⟨⟨[], by simp⟩, fun b o' e hb => by rw [upd_ne (fun z => hb (by rw [z]; exact List.mem_of_getElem? h))]; exact e, fun _ m => .inl m, fun b _ h0 => by
    by_cases e : b = a
    · subst e; rw [upd_same]; exact hk h0
    · rw [upd_ne e]⟩
theorem SOk.wrO {o : HO} (s : SOk K H r S) (h : r[n]? = some a) (hk : kdO (H a) ≠ 0 → kdO (some o) = kdO (H a)) (hc : Cell K (upd H a o) r a ds) : SOk K (upd H a o) r (S.set n ds) := by
  have st : Stp H r (upd H a o) r := Stp.wrO h hk
  refine ⟨by simp [s.len], fun m b es e1 e2 => ?_, s.inj⟩
  by_cases e : m = n
  · subst e
    rw [h] at e1; cases e1
    rw [List.getElem?_set_self (by rw [← s.len]; exact (List.getElem?_eq_some_iff.mp h).1)] at e2
    cases e2
    exact hc
  · rw [List.getElem?_set_ne (fun z => e z.symm)] at e2
    exact (s.cell m b es e1 e2).mono st s (by rw [upd_ne fun z => e (s.inj m n a (by rw [← z]; exact e1) h)])
theorem Stp.wr {xs : List V} (h : IsL H r n a) : Stp H r (upd H a (.lst xs)) r := Stp.wrO h.ix fun _ => h.kd.symm
theorem SOk.wr {xs : List V} (s : SOk K H r S) (h : IsL H r n a) (hx : Reps K H r xs ds) : SOk K (upd H a (.lst xs)) r (S.set n ds) :=
  s.wrO h.ix (fun _ => h.kd.symm) (.inl ⟨xs, upd_same, Reps.mono (Stp.wr h) s hx⟩)
end

/-! ### what an expression comes to -/
def Af (K : PySem.W.Frag) (H : Hp) (r : Rh) (m : Option (D × Sto)) (Q : VK) : Prop :=
  ∃ d S', m = some (d, S') ∧ ∀ v H' r', Stp H r H' r' → SOk K H' r' S' → Rep K H' r' v d → Q v H'
structure Ag (K : PySem.W.Frag) (H : Hp) (r : Rh) (S : Sto) (σ : L2.St) (G : Gm) : Prop where
  sok : SOk K H r S
  len : σ.length = G.length
  at_ : ∀ (i : Nat) (d : D), G[i]? = some (some d) → ∃ v, σ[i]? = some (some v) ∧ Rep K H r v d
theorem Ag.mono {K : PySem.W.Frag} {H H' : Hp} {r r' : Rh} {S S' : Sto} {σ : L2.St} {G : Gm} (g : Ag K H r S σ G) (x : Stp H r H' r') (s : SOk K H' r' S') : Ag K H' r' S' σ G :=
  ⟨s, g.len, fun i d e => let ⟨v, h1, h2⟩ := g.at_ i d e; ⟨v, h1, Rep.mono x g.sok h2⟩⟩
def T (K : PySem.W.Frag) (m : Gm → M D) : TE := fun σ H Q => ∃ G r S, Ag K H r S σ G ∧ Af K H r (m G S) Q
structure XE (X : Cx) (e : Expr) (m : Gm → M D) : Prop where
  o : PE X e (T X.K m)
/-- tests -/
def Tt (K : PySem.W.Frag) (m : Gm → M Bool) : TT := fun σ H Q => ∃ G r S, Ag K H r S σ G ∧ ∃ b S', m G S = some (b, S') ∧ ∀ H' r', Stp H r H' r' → SOk K H' r' S' → Q b H'
structure XT (X : Cx) (e : Expr) (m : Gm → M Bool) : Prop where
  o : PT X e (Tt X.K m)
structure XW (X : Cx) (e : Expr) (m : Gm → M Bool) : Prop where
  o : PW X e (Tt X.K m)
/-- argument lists -/
def Ta (K : PySem.W.Frag) (m : Gm → M (List D)) : TA := fun σ H Q => ∃ G r S, Ag K H r S σ G ∧ ∃ ds S', m G S = some (ds, S') ∧ ∀ vs H' r', Stp H r H' r' → SOk K H' r' S' → Reps K H' r' vs ds → Q vs H'
structure XA (X : Cx) (es : List Expr) (m : Gm → M (List D)) : Prop where
  o : PA X es (Ta X.K m)

section
variable {X : Cx} {K : PySem.W.Frag} {H : Hp} {r : Rh} {S S1 : Sto} {σ : L2.St} {G : Gm} {Q : VK}
theorem T.go {m : Gm → M D} {x : D} (g : Ag K H r S σ G) (e : m G S = some (x, S1)) (h : ∀ v H1 r1, Stp H r H1 r1 → Ag K H1 r1 S1 σ G → Rep K H1 r1 v x → Q v H1) : T K m σ H Q :=
  ⟨G, r, S, g, x, S1, e, fun v H' r' st so rp => h v H' r' st (g.mono st so) rp⟩
theorem Tt.go {m : Gm → M Bool} {b : Bool} {Q : Bool → Hp → Prop} (g : Ag K H r S σ G) (e : m G S = some (b, S1)) (h : ∀ H1 r1, Stp H r H1 r1 → Ag K H1 r1 S1 σ G → Q b H1) : Tt K m σ H Q :=
  ⟨G, r, S, g, b, S1, e, fun H' r' st so => h H' r' st (g.mono st so)⟩
theorem Ta.go {m : Gm → M (List D)} {ds : List D} {Q : List V → Hp → Prop} (g : Ag K H r S σ G) (e : m G S = some (ds, S1)) (h : ∀ vs H1 r1, Stp H r H1 r1 → Ag K H1 r1 S1 σ G → Reps K H1 r1 vs ds → Q vs H1) : Ta K m σ H Q :=
  ⟨G, r, S, g, ds, S1, e, fun v H' r' st so rp => h v H' r' st (g.mono st so) rp⟩
theorem XE.of {e : Expr} {t : TE} {m : Gm → M D} (h : PE X e t)
    (w : ∀ σ H Q G r S d S', Ag X.K H r S σ G → m G S = some (d, S') → (∀ v H' r', Stp H r H' r' → SOk X.K H' r' S' → Rep X.K H' r' v d → Q v H') → t σ H Q) : XE X e m :=
  ⟨fun pins s σ H Q I ⟨G, r, S, g, d, S', e, k⟩ => h pins s σ H Q I (w σ H Q G r S d S' g e k)⟩
theorem XT.of {e : Expr} {t : TT} {m : Gm → M Bool} (h : PT X e t)
    (w : ∀ σ H (Q : Bool → Hp → Prop) G r S d S', Ag X.K H r S σ G → m G S = some (d, S') → (∀ H' r', Stp H r H' r' → SOk X.K H' r' S' → Q d H') → t σ H Q) : XT X e m :=
  ⟨fun pins s σ H Q I ⟨G, r, S, g, d, S', e, k⟩ => h pins s σ H Q I (w σ H Q G r S d S' g e k)⟩
theorem XW.of {e : Expr} {t : TT} {m : Gm → M Bool} (h : PW X e t)
    (w : ∀ σ H (Q : Bool → Hp → Prop) G r S d S', Ag X.K H r S σ G → m G S = some (d, S') → (∀ H' r', Stp H r H' r' → SOk X.K H' r' S' → Q d H') → t σ H Q) : XW X e m :=
  ⟨fun wh pins s σ H Q I ⟨G, r, S, g, d, S', e, k⟩ => h wh pins s σ H Q I (w σ H Q G r S d S' g e k)⟩
theorem XW.xt {e : Expr} {m : Gm → M Bool} (h : XW X e m) : XT X e m := ⟨h.o.pt⟩

/-! ### names, constants -/
def getv (i : Nat) (G : Gm) : M D := fun S => match G[i]? with
  | some (some d) => some (d, S)
  | _ => none
theorem getv_some {i : Nat} {d : D} {S S' : Sto} (h : getv i G S = some (d, S')) : G[i]? = some (some d) ∧ S' = S := by
  unfold getv at h
  split at h
  · rename_i e; cases h; exact ⟨e, rfl⟩
  · cases h
theorem xe_var (i : Nat) {x : Str} {pos : Pos} (hN : X.N[i]? = some x := by rfl) (hv : Vis X.env.scope x := by first | exact Or.inl rfl | exact Or.inr (Or.inl rfl) | exact Or.inr (Or.inr rfl)) (hd : (x == ("__debug__" : Str)) = false := by decide)
    (hcd : (x == ("__classdict__" : Str)) = false := by decide) : XE X (.Name x pos) (getv i) :=
  XE.of (pe_var hN hv hd hcd) fun σ H Q G r S d S' g e k => by
    obtain ⟨e1, rfl⟩ := getv_some e
    obtain ⟨v, h1, h2⟩ := g.at_ i d e1
    exact ⟨v, h1, k v H r Stp.refl g.sok h2⟩
theorem xe_c {e : Expr} {v : V} {d : D} (h : PE X e (tC v)) (hr : ∀ H r, Rep X.K H r v d) : XE X e (fun _ => ret d) :=
  XE.of h fun σ H Q G r S d' S' g e k => by
    cases e
    exact k v H r Stp.refl g.sok (hr H r)
theorem xe_int {i : Int} {j pos} : XE X (.Constant (.int i) j pos) (fun _ => ret (.int i)) := xe_c pe_int fun _ _ => .int i
theorem xe_bl {b : Bool} {j pos} : XE X (.Constant (.bool b) j pos) (fun _ => ret (.bl b)) := xe_c pe_bl fun _ _ => .bl b
theorem xe_str {x : Str} {j pos} : XE X (.Constant (.str x) j pos) (fun _ => ret (.str x)) := xe_c pe_str fun _ _ => .str x
theorem xe_gstr {x : Str} {y : Str} {t : Tok} {pos : Pos} (hg : Gl X x) (hm : X.mg x = some (.str y t)) (hd : (x == ("__debug__" : Str)) = false := by decide) : XE X (.Name x pos) (fun _ => ret (.str y)) :=
  xe_c (pe_glob (v := .str y) hg hm ⟨t, rfl⟩ hd) fun _ _ => .str y

theorem xe_ty {x : Str} {n : String} {pos : Pos} (hg : Gl X x) (hm : X.mg x = none) (hv : bootBuiltins x = some (.type n)) (hn : x ≠ "__name__" := by decide) (hd : (x == ("__debug__" : Str)) = false := by decide) : XE X (.Name x pos) (fun _ => ret (.ty n)) :=
  xe_c (pe_bltn (v := .ty n) hg hm hv rfl hn hd) fun _ _ => .ty n

/-! ### argument lists, displays -/
def aNil : Gm → M (List D) := fun _ => ret []
def aCons (m : Gm → M D) (ms : Gm → M (List D)) : Gm → M (List D) := fun G => bnd (m G) fun d => bnd (ms G) fun ds => ret (d :: ds)
theorem xa_nil : XA X [] aNil := ⟨fun pos pins s σ H Q I ⟨G, r, S, g, ds, S', e, k⟩ => pa_nil pos pins s σ H Q I (by cases e; exact k [] H r Stp.refl g.sok .nil)⟩
theorem xa_cons {e : Expr} {es : List Expr} {m : Gm → M D} {ms : Gm → M (List D)} (h1 : XE X e m) (h2 : XA X es ms) (hs : starEach (e :: es) X.env = (false, eval e X.env) :: starEach es X.env := by rfl) : XA X (e :: es) (aCons m ms) :=
  ⟨fun pos pins s σ H Q I ⟨G, r, S, g, ds, S', e, k⟩ => pa_cons h1.o h2.o hs pos pins s σ H Q I (by
    obtain ⟨d, S1, e1, e⟩ := bnd_some e
    obtain ⟨es', S2, e2, e⟩ := bnd_some e
    cases e
    refine T.go g e1 fun v H1 r1 st1 g1 rp1 => Ta.go g1 e2 fun vs H2 r2 st2 g2 rp2 => ?_
    exact k (v :: vs) H2 r2 (st1.trans st2) g2.sok (.cons (Rep.mono st2 g1.sok rp1) rp2))⟩
def mkTup (ds : List D) : M D := if ds.length ≤ sizeLine then ret (.tup ds) else stuck
def alloc (ds : List D) : M D := fun S => if ds.length ≤ sizeLine then some (.ls S.length, S ++ [ds]) else none
theorem alloc_ok {K : PySem.W.Frag} {H : Hp} {r : Rh} {S S' : Sto} {d : D} {ds : List D} {vs : List V} {p : Addr} (s : SOk K H r S) (rp : Reps K H r vs ds) (e : alloc ds S = some (d, S')) (hp : H p = none) :
    vs.length ≤ sizeLine ∧ Stp H r (upd H p (.lst vs)) (r ++ [p]) ∧ SOk K (upd H p (.lst vs)) (r ++ [p]) S' ∧ Rep K (upd H p (.lst vs)) (r ++ [p]) (.ref p) d := by
  unfold alloc at e
  split at e
  · rename_i hl
    cases e
    refine ⟨by rw [rp.length]; exact hl, Stp.newL hp, s.newL hp rp, .ls (IsL.new s)⟩
  · cases e
theorem xe_lst {es : List Expr} {ms : Gm → M (List D)} {pos : Pos} (h : XA X es ms) : XE X (.List es pos) (fun G => bnd (ms G) alloc) :=
  XE.of (pe_lst h.o) fun σ H Q G r S d S' g e k => by
    obtain ⟨ds, S1, e1, e⟩ := bnd_some e
    refine Ta.go g e1 fun vs H1 r1 st1 g1 rp1 => ⟨?_, fun p hp => ?_⟩
    · unfold alloc at e
      split at e
      · rename_i hl; rw [rp1.length]; exact hl
      · cases e
    · obtain ⟨_, a, b, c⟩ := alloc_ok g1.sok rp1 e hp
      exact k _ _ _ (st1.trans a) b c
end
end PL

/-! PURE LAYER, part 2: operators, comparisons, tests, subscripts, slices, calls -/
namespace PL
open PySem PySem.Spec PyProof.Rows L2

/-! ### operators -/
def OpD (K : PySem.W.Frag) (r : R2) (f : D → D → M D) : Prop := ∀ (H : Hp) (q : Rh) (S : Sto) (x y : V) (dx dy d : D) (S' : Sto) (Q : VK), SOk K H q S → Rep K H q x dx → Rep K H q y dy → f dx dy S = some (d, S') →
  (∀ v H' q', Stp H q H' q' → SOk K H' q' S' → Rep K H' q' v d → Q v H') → r x y H Q
def b2 (f : D → D → M D) (ma mb : Gm → M D) : Gm → M D := fun G => bnd (ma G) fun x => bnd (mb G) fun y => f x y
theorem opR_or {X : Cx} {f : Value → Value → Sem Value} {r r' : R2} (h : OpR X f r) (h' : OpR X f r') : OpR X f (fun x y H Q => r x y H Q ∨ r' x y H Q) := by
  intro pins s σ H x y v u Q I rx ry q
  rcases q with q | q
  · exact h pins s σ H x y v u Q I rx ry q
  · exact h' pins s σ H x y v u Q I rx ry q
section
variable {X : Cx} {K : PySem.W.Frag} {a b c : Expr} {ma mb mc : Gm → M D} {pos : Pos}
theorem b2_go {r : R2} {f : D → D → M D} (hd : OpD K r f) {σ : L2.St} {H : Hp} {Q : VK} {G : Gm} {q : Rh} {S S' : Sto} {d : D} (g : Ag K H q S σ G) (e : b2 f ma mb G S = some (d, S')) (k : ∀ v H' q', Stp H q H' q' → SOk K H' q' S' → Rep K H' q' v d → Q v H') :
    tOp r (T K ma) (T K mb) σ H Q := by
  obtain ⟨x, S1, e1, e⟩ := bnd_some e
  obtain ⟨y, S2, e2, e⟩ := bnd_some e
  refine T.go g e1 fun v H1 q1 st1 g1 rp1 => T.go g1 e2 fun u H2 q2 st2 g2 rp2 => ?_
  exact hd H2 q2 S2 v u x y d S' Q g2.sok (Rep.mono st2 g1.sok rp1) rp2 e fun w H' q' st so rp => k w H' q' ((st1.trans st2).trans st) so rp
theorem xe_bin {op : Operator} {r : R2} {f : D → D → M D} (ho : OpR X (binaryOp op) r) (hd : OpD X.K r f) (ha : XE X a ma) (hb : XE X b mb) : XE X (.BinOp a op b pos) (b2 f ma mb) :=
  XE.of (pe_op ho ha.o hb.o) fun σ H Q G q S d S' g e k => b2_go hd g e k
theorem xe_cmp {op : CmpOp} {r : R2} {f : D → D → M D} (ho : OpR X (compareOp op) r) (hd : OpD X.K r f) (ha : XE X a ma) (hb : XE X b mb) (hm : behindInMarks op b = false) : XE X (.Compare a [op] [b] pos) (b2 f ma mb) :=
  XE.of (pe_cmpR ho ha.o hb.o hm) fun σ H Q G q S d S' g e k => b2_go hd g e k
def asB : D → M Bool
  | .bl b => ret b
  | _ => stuck
theorem asB_some {d : D} {b : Bool} {S S' : Sto} (h : asB d S = some (b, S')) : d = .bl b ∧ S' = S := by
  cases d <;> first | (cases h; exact ⟨rfl, rfl⟩) | cases h
def tst (m : Gm → M D) : Gm → M Bool := fun G => bnd (m G) asB
theorem xt_cmp {op : CmpOp} {r : R2} {f : D → D → M D} (ho : OpR X (compareOp op) r) (hd : OpD X.K r f) (ha : XE X a ma) (hb : XE X b mb) (hm : behindInMarks op b = false) : XT X (.Compare a [op] [b] pos) (tst (b2 f ma mb)) :=
  XT.of (pt_cmpR ho ha.o hb.o hm) fun σ H Q G q S d S' g e k => by
    obtain ⟨x, S1, e1, e⟩ := bnd_some e
    obtain ⟨rfl, rfl⟩ := asB_some e
    refine b2_go hd g e1 fun v H' q' st so rp => ?_
    cases rp
    exact ⟨_, rfl, k H' q' st so⟩
def tru : D → M Bool
  | .non => ret false
  | .bl b => ret b
  | .int i => ret (i != 0)
  | .str y => if y.length ≤ sizeLine then ret ((y.length : Int) != 0) else stuck
  | .tup ds => ret !ds.isEmpty
  | .ls n => fun S => match S[n]? with
    | some ds => some (!ds.isEmpty, S)
    | none => none
  | .ro ds => ret !ds.isEmpty
  | .ty _ => stuck
  | .cls _ => stuck
  | .exc _ => stuck
  | .dc _ _ => stuck
theorem isEmpty_reps {H : Hp} {q : Rh} {xs : List V} {ds : List D} (r : Reps K H q xs ds) : (!ds.isEmpty) = !xs.isEmpty := by cases r <;> rfl
theorem tru_v {H : Hp} {q : Rh} {S S' : Sto} {v : V} {d : D} {b : Bool} (s : SOk K H q S) (rp : Rep K H q v d) (e : tru d S = some (b, S')) : S' = S ∧ TruV K v H b := by
  cases rp with
  | non => cases e; exact ⟨rfl, rfl⟩
  | bl _ => cases e; exact ⟨rfl, rfl⟩
  | int _ => cases e; exact ⟨rfl, rfl⟩
  | str y =>
    by_cases h : y.length ≤ sizeLine
    · simp only [tru, if_pos h] at e; cases e; exact ⟨rfl, h, rfl⟩
    · simp only [tru, if_neg h] at e; cases e
  | tup h1 h2 => cases e; exact ⟨rfl, .inr (.inl ⟨_, h1, isEmpty_reps h2⟩)⟩
  | @ls a n h =>
    unfold tru at e
    dsimp only at e
    cases z : S[n]? with
    | none => rw [z] at e; cases e
    | some ds =>
      rw [z] at e
      cases e
      obtain ⟨xs, h1, h2⟩ := s.at_ n a ds h z
      exact ⟨rfl, .inl ⟨xs, SqL.of h1, isEmpty_reps h2⟩⟩
  | ro h1 h2 => cases e; exact ⟨rfl, .inl ⟨_, h1.sq, isEmpty_reps h2⟩⟩
  | ty _ => cases e
  | cls _ => cases e
  | exc _ _ _ => cases e
  | dc _ => cases e
def tru2 (m : Gm → M D) : Gm → M Bool := fun G => bnd (m G) tru
theorem xt_tru (h : XE X a ma) (he : ∀ whole, isTrue a X.env whole = (do let v ← whole; standAt a.pos; holding [v] (truthy v)) := by intro _; rfl) : XT X a (tru2 ma) :=
  XT.of (pt_truth h.o he) fun σ H Q G q S d S' g e k => by
    obtain ⟨x, S1, e1, e⟩ := bnd_some e
    refine T.go g e1 fun v H' q' st g' rp => ?_
    obtain ⟨rfl, h1⟩ := tru_v g'.sok rp e
    exact ⟨_, h1, k H' q' st g'.sok⟩
/-! and, or, not -/
def tand (m n : Gm → M Bool) : Gm → M Bool := fun G => bnd (m G) fun c => if c = true then n G else ret false
def tor (m n : Gm → M Bool) : Gm → M Bool := fun G => bnd (m G) fun c => if c = true then ret true else n G
def tnot (m : Gm → M Bool) : Gm → M Bool := fun G => bnd (m G) fun c => ret !c
variable {ta tb : Gm → M Bool} {rest : List Expr}
theorem xw_and1 (h : XT X a ta) : XW X (.BoolOp .And [a] pos) ta := ⟨pw_and1 h.o⟩
theorem xw_or1 (h : XT X a ta) : XW X (.BoolOp .Or [a] pos) ta := ⟨pw_or1 h.o⟩
theorem xw_and (ha : XT X a ta) (hb : XW X (.BoolOp .And (b :: rest) pos) tb) : XW X (.BoolOp .And (a :: b :: rest) pos) (tand ta tb) :=
  XW.of (pw_and ha.o hb.o) fun σ H Q G q S d S' g e k => by
    obtain ⟨x, S1, e1, e⟩ := bnd_some e
    refine Tt.go g e1 fun H1 q1 st1 g1 => ?_
    cases x with
    | true =>
      rw [if_pos rfl] at e ⊢
      exact Tt.go g1 e fun H2 q2 st2 g2 => k H2 q2 (st1.trans st2) g2.sok
    | false =>
      rw [if_neg Bool.false_ne_true] at e ⊢
      cases e
      exact k H1 q1 st1 g1.sok
theorem xw_or (ha : XT X a ta) (hb : XW X (.BoolOp .Or (b :: rest) pos) tb) : XW X (.BoolOp .Or (a :: b :: rest) pos) (tor ta tb) :=
  XW.of (pw_or ha.o hb.o) fun σ H Q G q S d S' g e k => by
    obtain ⟨x, S1, e1, e⟩ := bnd_some e
    refine Tt.go g e1 fun H1 q1 st1 g1 => ?_
    cases x with
    | true =>
      rw [if_pos rfl] at e ⊢
      cases e
      exact k H1 q1 st1 g1.sok
    | false =>
      rw [if_neg Bool.false_ne_true] at e ⊢
      exact Tt.go g1 e fun H2 q2 st2 g2 => k H2 q2 (st1.trans st2) g2.sok
theorem xt_not (ha : XT X a ta) : XT X (.UnaryOp .Not a pos) (tnot ta) :=
  XT.of (pt_not ha.o) fun σ H Q G q S d S' g e k => by
    obtain ⟨x, S1, e1, e⟩ := bnd_some e
    cases e
    exact Tt.go g e1 fun H1 q1 st1 g1 => k H1 q1 st1 g1.sok
/-! the same as values -/
def vand (m n : Gm → M D) : Gm → M D := fun G => bnd (m G) fun c => match c with
  | .bl true => n G
  | .bl false => ret (.bl false)
  | _ => stuck
def vor (m n : Gm → M D) : Gm → M D := fun G => bnd (m G) fun c => match c with
  | .bl true => ret (.bl true)
  | .bl false => n G
  | _ => stuck
def vnot (m : Gm → M D) : Gm → M D := fun G => bnd (m G) fun c => match c with
  | .bl b => ret (.bl !b)
  | _ => stuck
/-! a if t else b -/
def vif (t : Gm → M Bool) (m n : Gm → M D) : Gm → M D := fun G => bnd (t G) fun c => if c = true then m G else n G
theorem xe_if {t : Expr} (ht : XT X t ta) (ha : XE X a ma) (hb : XE X b mb) : XE X (.IfExp t a b pos) (vif ta ma mb) :=
  XE.of (pe_ifExp ht.o ha.o hb.o) fun σ H Q G q S d S' g e k => by
    obtain ⟨x, S1, e1, e⟩ := bnd_some e
    refine Tt.go g e1 fun H1 q1 st1 g1 => ?_
    cases x with
    | true => rw [if_pos rfl] at e ⊢; exact T.go g1 e fun v2 H2 q2 st2 g2 rp2 => k v2 H2 q2 (st1.trans st2) g2.sok rp2
    | false => rw [if_neg Bool.false_ne_true] at e ⊢; exact T.go g1 e fun v2 H2 q2 st2 g2 rp2 => k v2 H2 q2 (st1.trans st2) g2.sok rp2
end

/-! ### ints and their like -/
def mulOk (i j : Int) : Bool := decide (i.natAbs.log2 + j.natAbs.log2 < 100000000)
theorem intBits_log (i : Int) : Builtin.Int.intBits i ≤ i.natAbs.log2 + 1 := by
  unfold Builtin.Int.intBits
  split
  · exact Nat.zero_le _
  · omega
theorem mulOk_ok {i j : Int} (h : mulOk i j = true) : IntMulOk i j := by
  have h' := of_decide_eq_true h
  exact IntMulOk.of_le (intBits_log i) (intBits_log j) (by omega)
theorem mulOk_of {i j : Int} {m n : Nat} (hi : i.natAbs < 2 ^ m) (hj : j.natAbs < 2 ^ n) (h : m + n ≤ 100000000) : mulOk i j = true := by
  refine decide_eq_true ?_
  have l : ∀ (k p : Nat), k < 2 ^ p → k.log2 ≤ p := fun k p hk => by
    rcases Nat.eq_zero_or_pos k with h0 | h0
    · subst h0; exact Nat.zero_le _
    · exact Nat.le_of_lt ((Nat.log2_lt (Nat.ne_of_gt h0)).mpr hk)
  have l' : ∀ (k p : Nat), k < 2 ^ p → k.log2 < p ∨ p = 0 := fun k p hk => by
    rcases Nat.eq_zero_or_pos k with h0 | h0
    · subst h0
      rcases Nat.eq_zero_or_pos p with hp | hp
      · exact .inr hp
      · exact .inl (by simpa using hp)
    · exact .inl ((Nat.log2_lt (Nat.ne_of_gt h0)).mpr hk)
  have a1 := l _ _ hi
  have a2 := l _ _ hj
  rcases l' _ _ hi with b1 | b1
  · omega
  · rcases l' _ _ hj with b2 | b2 <;> omega
def addD : D → D → M D
  | .int i, .int j => ret (.int (i + j))
  | .str x, .str y => if x.length + y.length ≤ sizeLine then ret (.str (x ++ y)) else stuck
  | .tup xs, .tup ys => if xs.isEmpty = false ∧ xs.length + ys.length ≤ sizeLine then ret (.tup (xs ++ ys)) else stuck
  | .ls n, .ls m => fun S => match S[n]?, S[m]? with
    | some xs, some ys => alloc (xs ++ ys) S
    | _, _ => none
  | _, _ => stuck
def subD : D → D → M D
  | .int i, .int j => ret (.int (i - j))
  | _, _ => stuck
def mulD : D → D → M D
  | .int i, .int j => if mulOk i j = true then ret (.int (i * j)) else stuck
  | .ls n, .int k => fun S => match S[n]? with
    | some xs => if k < 1000000 ∧ xs.length * k.toNat ≤ sizeLine ∧ -1000000 < k then alloc (List.replicate k.toNat xs).flatten S else none
    | none => none
  | _, _ => stuck
def fdivD : D → D → M D
  | .int i, .int j => if j ≠ 0 ∧ j.natAbs.log2 < 9000 then ret (.int (i.fdiv j)) else stuck
  | _, _ => stuck
def modD : D → D → M D
  | .int i, .int j => if j ≠ 0 then ret (.int (i.fmod j)) else stuck
  | _, _ => stuck
def powD : D → D → M D
  | .int i, .int j => if 0 ≤ j ∧ j ≤ 1000000 ∧ i.natAbs < 2 ^ 64 then ret (.int (i ^ j.toNat)) else stuck
  | _, _ => stuck
def ltD : D → D → M D
  | .int i, .int j => ret (.bl (decide (i < j)))
  | _, _ => stuck
def leD : D → D → M D
  | .int i, .int j => ret (.bl (decide (i ≤ j)))
  | _, _ => stuck
def gtD : D → D → M D
  | .int i, .int j => ret (.bl (decide (j < i)))
  | _, _ => stuck
def geD : D → D → M D
  | .int i, .int j => ret (.bl (decide (j ≤ i)))
  | _, _ => stuck
section
variable {X : Cx} {K : PySem.W.Frag}
theorem reps_rep {H : Hp} {q : Rh} {xs : List V} {ds : List D} (r : Reps K H q xs ds) : ∀ k : Nat, Reps K H q (List.replicate k xs).flatten (List.replicate k ds).flatten
  | 0 => by simp; exact .nil
  | k + 1 => by
    rw [List.replicate_succ, List.replicate_succ, List.flatten_cons, List.flatten_cons]
    exact r.append (reps_rep r k)
theorem od_rI {C : Int → Int → Prop} {g : Int → Int → V} {f : D → D → M D} (hf : ∀ dx dy S d S', f dx dy S = some (d, S') → ∃ i j, dx = .int i ∧ dy = .int j ∧ C i j ∧ S' = S ∧ ∀ H q, Rep K H q (g i j) d) : OpD K (rI C g) f := by
  intro H q S x y dx dy d S' Q s rx ry e k
  obtain ⟨i, j, rfl, rfl, hc, rfl, hr⟩ := hf _ _ _ _ _ e
  cases rx
  cases ry
  exact ⟨i, j, rfl, rfl, hc, k _ H q Stp.refl s (hr H q)⟩
theorem od_rI0 {g : Int → Int → V} {f : D → D → M D} (hf : ∀ dx dy S d S', f dx dy S = some (d, S') → ∃ i j, dx = .int i ∧ dy = .int j ∧ S' = S ∧ ∀ H q, Rep K H q (g i j) d) : OpD K (rI0 g) f := by
  intro H q S x y dx dy d S' Q s rx ry e k
  obtain ⟨i, j, rfl, rfl, rfl, hr⟩ := hf _ _ _ _ _ e
  cases rx
  cases ry
  exact ⟨i, j, rfl, rfl, k _ H q Stp.refl s (hr H q)⟩
theorem od_sub : OpD K (rI0 fun i j => .int (i - j)) subD := od_rI0 fun dx dy S d S' e => by
  unfold subD at e
  split at e <;> first | (cases e; exact ⟨_, _, rfl, rfl, rfl, fun _ _ => .int _⟩) | cases e
theorem od_lt : OpD K (rI0 fun i j => .bl (decide (i < j))) ltD := od_rI0 fun dx dy S d S' e => by
  unfold ltD at e
  split at e <;> first | (cases e; exact ⟨_, _, rfl, rfl, rfl, fun _ _ => .bl _⟩) | cases e
theorem od_gt : OpD K (rI0 fun i j => .bl (decide (j < i))) gtD := od_rI0 fun dx dy S d S' e => by
  unfold gtD at e
  split at e <;> first | (cases e; exact ⟨_, _, rfl, rfl, rfl, fun _ _ => .bl _⟩) | cases e
theorem od_ge : OpD K (rI0 fun i j => .bl (decide (j ≤ i))) geD := od_rI0 fun dx dy S d S' e => by
  unfold geD at e
  split at e <;> first | (cases e; exact ⟨_, _, rfl, rfl, rfl, fun _ _ => .bl _⟩) | cases e
theorem od_fdiv : OpD K (rI (fun _ j => j ≠ 0 ∧ j.natAbs.log2 < 9000) fun i j => .int (i.fdiv j)) fdivD := od_rI fun dx dy S d S' e => by
  unfold fdivD at e
  split at e
  · split at e
    · cases e; exact ⟨_, _, rfl, rfl, by assumption, rfl, fun _ _ => .int _⟩
    · cases e
  · cases e
theorem od_mod : OpD K (rI (fun _ j => j ≠ 0) fun i j => .int (i.fmod j)) modD := od_rI fun dx dy S d S' e => by
  unfold modD at e
  split at e
  · split at e
    · cases e; exact ⟨_, _, rfl, rfl, by assumption, rfl, fun _ _ => .int _⟩
    · cases e
  · cases e
theorem od_pow : OpD K (rI CPow fun i j => .int (i ^ j.toNat)) powD := od_rI fun dx dy S d S' e => by
  unfold powD at e
  split at e
  · split at e
    · cases e; exact ⟨_, _, rfl, rfl, by assumption, rfl, fun _ _ => .int _⟩
    · cases e
  · cases e
theorem op_fdivG : OpR X (binaryOp .FloorDiv) (rI (fun _ j => j ≠ 0 ∧ j.natAbs.log2 < 9000) fun i j => .int (i.fdiv j)) := opI fun _ _ _ _ _ _ _ hc q => floordiv_int hc.1 q (.inl (PyProof.noPylong_of_log2 hc.2))
theorem op_mulG : OpR X (binaryOp .Mult) (rI (fun i j => mulOk i j = true) fun i j => .int (i * j)) := opI fun _ _ _ _ _ _ _ hc q => mul_int q (mulOk_ok hc)
def rMulG : R2 := fun x y H Q => rI (fun i j => mulOk i j = true) (fun i j => .int (i * j)) x y H Q ∨ rRep x y H Q
theorem op_mulA : OpR X (binaryOp .Mult) rMulG := opR_or op_mulG op_rep
theorem od_mul : OpD K rMulG mulD := by
  intro H q S x y dx dy d S' Q s rx ry e k
  unfold mulD at e
  split at e
  · split at e
    · cases e
      cases rx
      cases ry
      exact .inl ⟨_, _, rfl, rfl, by assumption, k _ H q Stp.refl s (.int _)⟩
    · cases e
  · split at e
    · rename_i hx
      split at e
      · rename_i hc
        cases rx with
        | ls h =>
          cases ry
          obtain ⟨ys, h1, h2⟩ := s.at_ _ _ _ h hx
          refine .inr ⟨_, _, ys, rfl, rfl, h1, by omega, by omega, by rw [h2.length]; exact hc.2.1, fun p hp => ?_⟩
          obtain ⟨_, a, b, c⟩ := alloc_ok s (reps_rep h2 _) e hp
          exact k _ _ _ a b c
      · cases e
    · cases e
  · cases e
def rAddG (K : PySem.W.Frag) : R2 := fun x y H Q => rI0 (fun i j => .int (i + j)) x y H Q ∨ (∃ i j, x = .str i ∧ y = .str j ∧ i.length + j.length ≤ sizeLine ∧ Q (.str (i ++ j)) H) ∨ rCatT K x y H Q ∨ rCat x y H Q
theorem op_addA : OpR X (binaryOp .Add) (rAddG X.K) := opR_or op_add (opR_or op_add_str (opR_or op_catT op_cat))
theorem od_add : OpD K (rAddG K) addD := by
  intro H q S x y dx dy d S' Q s rx ry e k
  unfold addD at e
  split at e
  · cases e
    cases rx
    cases ry
    exact .inl ⟨_, _, rfl, rfl, k _ H q Stp.refl s (.int _)⟩
  · split at e
    · cases e
      cases rx
      cases ry
      exact .inr (.inl ⟨_, _, rfl, rfl, by assumption, k _ H q Stp.refl s (.str _)⟩)
    · cases e
  · rename_i xs ys
    split at e
    · rename_i hc
      cases e
      cases rx with
      | @tup a us _ h1 h2 =>
        cases ry with
        | @tup b ws _ h3 h4 =>
          have ne : us ≠ [] := by
            intro z
            subst z
            have := h2.length
            rw [List.length_nil] at this
            have : xs = [] := List.eq_nil_of_length_eq_zero this.symm
            subst this
            exact absurd hc.1 (by simp)
          refine .inr (.inr (.inl ⟨a, b, us, ws, rfl, rfl, h1, h3, ne, by rw [h2.length, h4.length]; exact hc.2, fun z => ?_, fun _ p hp => ?_⟩))
          · subst z
            cases h4
            rw [List.append_nil] at k
            exact k _ H q Stp.refl s (.tup h1 h2)
          · exact k _ _ q (Stp.new hp) (s.new hp) (.tup (TupR.of upd_same) (Reps.mono (Stp.new hp) s (h2.append h4)))
    · cases e
  · rename_i n m
    split at e
    · rename_i xs ys hx hy
      cases rx with
      | ls h =>
        cases ry with
        | ls h' =>
          obtain ⟨us, h1, h2⟩ := s.at_ n _ xs h hx
          obtain ⟨ws, h3, h4⟩ := s.at_ m _ ys h' hy
          have hl : (xs ++ ys).length ≤ sizeLine := by
            unfold alloc at e
            split at e
            · assumption
            · cases e
          refine .inr (.inr (.inr ⟨_, _, us, ws, rfl, rfl, h1, h3, by rw [h2.length, h4.length, ← List.length_append]; exact hl, fun p hp => ?_⟩))
          obtain ⟨_, a, b, c⟩ := alloc_ok s (h2.append h4) e hp
          exact k _ _ _ a b c
    · cases e
  · cases e
variable {a b : Expr} {ma mb : Gm → M D} {pos : Pos}
theorem xe_add (ha : XE X a ma) (hb : XE X b mb) : XE X (.BinOp a .Add b pos) (b2 addD ma mb) := xe_bin op_addA od_add ha hb
theorem xe_sub (ha : XE X a ma) (hb : XE X b mb) : XE X (.BinOp a .Sub b pos) (b2 subD ma mb) := xe_bin op_sub od_sub ha hb
theorem xe_mul (ha : XE X a ma) (hb : XE X b mb) : XE X (.BinOp a .Mult b pos) (b2 mulD ma mb) := xe_bin op_mulA od_mul ha hb
theorem xe_fdiv (ha : XE X a ma) (hb : XE X b mb) : XE X (.BinOp a .FloorDiv b pos) (b2 fdivD ma mb) := xe_bin op_fdivG od_fdiv ha hb
theorem xe_mod (ha : XE X a ma) (hb : XE X b mb) : XE X (.BinOp a .Mod b pos) (b2 modD ma mb) := xe_bin op_modN od_mod ha hb
theorem xe_pow (ha : XE X a ma) (hb : XE X b mb) : XE X (.BinOp a .Pow b pos) (b2 powD ma mb) := xe_bin op_pow od_pow ha hb
theorem xe_gt (ha : XE X a ma) (hb : XE X b mb) : XE X (.Compare a [.Gt] [b] pos) (b2 gtD ma mb) := xe_cmp op_gt od_gt ha hb (nomark _)
theorem xe_ge (ha : XE X a ma) (hb : XE X b mb) : XE X (.Compare a [.GtE] [b] pos) (b2 geD ma mb) := xe_cmp op_ge od_ge ha hb (nomark _)
theorem xt_lt (ha : XE X a ma) (hb : XE X b mb) : XT X (.Compare a [.Lt] [b] pos) (tst (b2 ltD ma mb)) := xt_cmp op_lt od_lt ha hb (nomark _)
theorem xt_gt (ha : XE X a ma) (hb : XE X b mb) : XT X (.Compare a [.Gt] [b] pos) (tst (b2 gtD ma mb)) := xt_cmp op_gt od_gt ha hb (nomark _)
end
end PL

/-! PURE LAYER, part 3: == and !=, subscripts, slices, calls, methods -/
namespace PL
open PySem PySem.Spec PyProof.Rows L2

/-! ### == of data: None, truths, dints, texts, tuples (a truth is never held against an int) -/
mutual
def eqo : D → D → Option Bool
  | .non, .non => some true
  | .bl a, .bl b => some (a == b)
  | .int i, .int j => some (decide (i = j))
  | .str x, .str y => some (decide (x = y))
  | .tup xs, .tup ys => eqos xs ys
  | .non, .bl _ => some false | .non, .int _ => some false | .non, .str _ => some false | .non, .tup _ => some false
  | .bl _, .non => some false | .bl _, .str _ => some false | .bl _, .tup _ => some false
  | .int _, .non => some false | .int _, .str _ => some false | .int _, .tup _ => some false
  | .str _, .non => some false | .str _, .bl _ => some false | .str _, .int _ => some false | .str _, .tup _ => some false
  | .tup _, .non => some false | .tup _, .bl _ => some false | .tup _, .int _ => some false | .tup _, .str _ => some false
  | _, _ => none
def eqos : List D → List D → Option Bool
  | [], [] => some true
  | x :: xs, y :: ys => match eqo x y, eqos xs ys with
    | some a, some b => some (a && b)
    | _, _ => none
  | [], _ :: _ => some false
  | _ :: _, [] => some false
end
/-- data of at most n levels -/
def plain : Nat → D → Bool
  | _, .non => true
  | _, .bl _ => true
  | _, .int _ => true
  | _, .str x => PyData.strOk x
  | 0, _ => false
  | n + 1, .tup ds => ds.all (plain n)
  | _, _ => false
mutual
def pyd : D → PyData
  | .non => .none
  | .bl b => .bool b
  | .int i => .int i
  | .str x => .str x
  | .tup ds => .tuple (pyds ds)
  | .ls _ => .none
  | .ro _ => .none
  | .ty _ => .none
  | .cls _ => .none
  | .exc _ => .none
  | .dc _ _ => .none
def pyds : List D → List PyData
  | [] => []
  | d :: ds => pyd d :: pyds ds
end
section
variable {K : PySem.W.Frag} {H : Hp} {q : Rh}
theorem plain_tup {n : Nat} {ds : List D} (h : plain n (.tup ds) = true) : ∃ m, n = m + 1 ∧ ∀ d ∈ ds, plain m d = true := by
  cases n with
  | zero => simp [plain] at h
  | succ m => exact ⟨m, rfl, by simpa [plain] using h⟩
mutual
theorem rep_dp : ∀ (n : Nat) (v : V) (d : D), Rep K H q v d → plain n d = true → Dp K H v (pyd d)
  | _, _, .non, .non, _ => by rw [pyd]; exact .non
  | _, _, .bl b, .bl _, _ => by rw [pyd]; exact .bl b
  | _, _, .int b, .int _, _ => by rw [pyd]; exact .int b
  | _, _, .str b, .str _, _ => by rw [pyd]; exact .str b
  | n, _, .tup ds, .tup h1 h2, hp => by
    rw [pyd]
    obtain ⟨m, _, hm⟩ := plain_tup hp
    exact .tup h1 (reps_dp m _ ds h2 hm)
  | n, _, .ls _, _, hp => by cases n <;> simp [plain] at hp
  | n, _, .ro _, _, hp => by cases n <;> simp [plain] at hp
  | n, _, .ty _, _, hp => by cases n <;> simp [plain] at hp
  | n, _, .cls _, _, hp => by cases n <;> simp [plain] at hp
  | n, _, .exc _, _, hp => by cases n <;> simp [plain] at hp
  | n, _, .dc _ _, _, hp => by cases n <;> simp [plain] at hp
theorem reps_dp : ∀ (n : Nat) (vs : List V) (ds : List D), Reps K H q vs ds → (∀ d ∈ ds, plain n d = true) → DpAll K H vs (pyds ds)
  | _, _, [], .nil, _ => by rw [pyds]; exact .nil
  | n, _, d :: ds, .cons h1 h2, hp => by
    rw [pyds]
    exact .cons (rep_dp n _ d h1 (hp d (by simp))) (reps_dp n _ ds h2 fun e he => hp e (by simp [he]))
end
mutual
theorem plain_lay : ∀ (n : Nat) (d : D), plain n d = true → (pyd d).canLay0 = true ∧ (pyd d).depth ≤ n
  | n, .non, _ => by simp [pyd, PyData.canLay0, PyData.depth]
  | n, .bl _, _ => by simp [pyd, PyData.canLay0, PyData.depth]
  | n, .int _, _ => by simp [pyd, PyData.canLay0, PyData.depth]
  | n, .str x, h => by
    have h' : PyData.strOk x = true := by cases n <;> simpa [plain] using h
    simp [pyd, PyData.canLay0, PyData.depth, h']
  | n, .tup ds, h => by
    obtain ⟨m, rfl, hm⟩ := plain_tup h
    obtain ⟨h1, h2⟩ := plains_lay m ds hm
    rw [pyd, PyData.canLay0, PyData.depth]
    exact ⟨h1, by omega⟩
  | n, .ls _, h => by cases n <;> simp [plain] at h
  | n, .ro _, h => by cases n <;> simp [plain] at h
  | n, .ty _, h => by cases n <;> simp [plain] at h
  | n, .cls _, h => by cases n <;> simp [plain] at h
  | n, .exc _, h => by cases n <;> simp [plain] at h
  | n, .dc _ _, h => by cases n <;> simp [plain] at h
theorem plains_lay : ∀ (n : Nat) (ds : List D), (∀ d ∈ ds, plain n d = true) → PyData.canLayAll0 (pyds ds) = true ∧ PyData.depthAll (pyds ds) ≤ n
  | n, [], _ => by simp [pyds, PyData.canLayAll0, PyData.depthAll]
  | n, d :: ds, h => by
    obtain ⟨h1, h2⟩ := plain_lay n d (h d (by simp))
    obtain ⟨h3, h4⟩ := plains_lay n ds fun e he => h e (by simp [he])
    rw [pyds, PyData.canLayAll0, PyData.depthAll, h1, h3]
    exact ⟨rfl, by omega⟩
end
theorem plain_shaped {n : Nat} {d : D} (h : plain n d = true) (hn : n ≤ 64) : SeqAt.shaped (pyd d) = true := by
  obtain ⟨h1, h2⟩ := plain_lay n d h
  unfold SeqAt.shaped
  rw [h1, Bool.true_and]
  exact decide_eq_true (by omega)
mutual
theorem eqo_eqv : ∀ (x y : D) (b : Bool), eqo x y = some b → PyData.eqv (pyd x) (pyd y) = b
  | .non, .non, b, h => by simp [eqo] at h; subst h; simp [pyd, PyData.eqv]
  | .bl a, .bl c, b, h => by simp [eqo] at h; subst h; simp [pyd, PyData.eqv]
  | .int i, .int j, b, h => by
    simp only [eqo, Option.some.injEq] at h; subst h
    simp only [pyd, PyData.eqv]
    rw [Bool.eq_iff_iff]; simp
  | .str x, .str y, b, h => by
    simp only [eqo, Option.some.injEq] at h; subst h
    simp only [pyd, PyData.eqv]
    rw [Bool.eq_iff_iff]; simp
  | .tup xs, .tup ys, b, h => by
    rw [eqo] at h
    simp only [pyd, PyData.eqv]
    exact eqos_eqv xs ys b h
  | .non, .bl _, b, h => by simp [eqo] at h; subst h; simp [pyd, PyData.eqv]
  | .non, .int _, b, h => by simp [eqo] at h; subst h; simp [pyd, PyData.eqv]
  | .non, .str _, b, h => by simp [eqo] at h; subst h; simp [pyd, PyData.eqv]
  | .non, .tup _, b, h => by simp [eqo] at h; subst h; simp [pyd, PyData.eqv]
  | .bl _, .non, b, h => by simp [eqo] at h; subst h; simp [pyd, PyData.eqv]
  | .bl _, .str _, b, h => by simp [eqo] at h; subst h; simp [pyd, PyData.eqv]
  | .bl _, .tup _, b, h => by simp [eqo] at h; subst h; simp [pyd, PyData.eqv]
  | .int _, .non, b, h => by simp [eqo] at h; subst h; simp [pyd, PyData.eqv]
  | .int _, .str _, b, h => by simp [eqo] at h; subst h; simp [pyd, PyData.eqv]
  | .int _, .tup _, b, h => by simp [eqo] at h; subst h; simp [pyd, PyData.eqv]
  | .str _, .non, b, h => by simp [eqo] at h; subst h; simp [pyd, PyData.eqv]
  | .str _, .bl _, b, h => by simp [eqo] at h; subst h; simp [pyd, PyData.eqv]
  | .str _, .int _, b, h => by simp [eqo] at h; subst h; simp [pyd, PyData.eqv]
  | .str _, .tup _, b, h => by simp [eqo] at h; subst h; simp [pyd, PyData.eqv]
  | .tup _, .non, b, h => by simp [eqo] at h; subst h; simp [pyd, PyData.eqv]
  | .tup _, .bl _, b, h => by simp [eqo] at h; subst h; simp [pyd, PyData.eqv]
  | .tup _, .int _, b, h => by simp [eqo] at h; subst h; simp [pyd, PyData.eqv]
  | .tup _, .str _, b, h => by simp [eqo] at h; subst h; simp [pyd, PyData.eqv]
  | .bl _, .int _, b, h => by simp [eqo] at h
  | .int _, .bl _, b, h => by simp [eqo] at h
  | .ls _, y, b, h => by cases y <;> simp [eqo] at h
  | .ro _, y, b, h => by cases y <;> simp [eqo] at h
  | .ty _, y, b, h => by cases y <;> simp [eqo] at h
  | .non, .ls _, b, h => by simp [eqo] at h
  | .non, .ro _, b, h => by simp [eqo] at h
  | .non, .ty _, b, h => by simp [eqo] at h
  | .bl _, .ls _, b, h => by simp [eqo] at h
  | .bl _, .ro _, b, h => by simp [eqo] at h
  | .bl _, .ty _, b, h => by simp [eqo] at h
  | .int _, .ls _, b, h => by simp [eqo] at h
  | .int _, .ro _, b, h => by simp [eqo] at h
  | .int _, .ty _, b, h => by simp [eqo] at h
  | .str _, .ls _, b, h => by simp [eqo] at h
  | .str _, .ro _, b, h => by simp [eqo] at h
  | .str _, .ty _, b, h => by simp [eqo] at h
  | .tup _, .ls _, b, h => by simp [eqo] at h
  | .tup _, .ro _, b, h => by simp [eqo] at h
  | .tup _, .ty _, b, h => by simp [eqo] at h
theorem eqos_eqv : ∀ (x y : List D) (b : Bool), eqos x y = some b → PyData.eqvAll (pyds x) (pyds y) = b
  | [], [], b, h => by simp [eqos] at h; subst h; simp [pyds, PyData.eqvAll]
  | [], _ :: _, b, h => by simp [eqos] at h; subst h; simp [pyds, PyData.eqvAll]
  | _ :: _, [], b, h => by simp [eqos] at h; subst h; simp [pyds, PyData.eqvAll]
  | x :: xs, y :: ys, b, h => by
    rw [eqos] at h
    split at h
    · rename_i a c h1 h2
      cases h
      rw [pyds, pyds, PyData.eqvAll, eqo_eqv x y a h1, eqos_eqv xs ys c h2]
    · cases h
end
/-- data with the store's lists in it -/
def allP (f : D → Option PyData) : List D → Option (List PyData)
  | [] => some []
  | d :: ds => match f d, allP f ds with
    | some p, some ps => some (p :: ps)
    | _, _ => none
def pys : Nat → Sto → D → Option PyData
  | 0, _, d => match d with
    | .non => some .none
    | .bl b => some (.bool b)
    | .int i => some (.int i)
    | .str x => some (.str x)
    | _ => none
  | n + 1, S, d => match d with
    | .non => some .none
    | .bl b => some (.bool b)
    | .int i => some (.int i)
    | .str x => some (.str x)
    | .tup ds => (allP (pys n S) ds).map .tuple
    | .ro ds => (allP (pys n S) ds).map .list
    | .ls k => match S[k]? with
      | some ds => (allP (pys n S) ds).map .list
      | none => none
    | .ty _ => none
    | .cls _ => none
    | .exc _ => none
    | .dc _ _ => none
theorem optm_some {α β : Type} {f : α → β} {o : Option α} {b : β} (h : o.map f = some b) : ∃ a, o = some a ∧ f a = b := by
  cases o with
  | none => cases h
  | some a => exact ⟨a, rfl, Option.some.inj h⟩
theorem reps_pys {f : D → Option PyData} (hf : ∀ v d p, Rep K H q v d → f d = some p → Dp K H v p) : ∀ (vs : List V) (ds : List D) (ps : List PyData), Reps K H q vs ds → allP f ds = some ps → DpAll K H vs ps
  | _, [], ps, .nil, h => by cases h; exact .nil
  | _, d :: ds, ps, .cons h1 h2, h => by
    rw [allP] at h
    split at h
    · rename_i a b e1 e2
      cases h
      exact .cons (hf _ _ _ h1 e1) (reps_pys hf _ ds _ h2 e2)
    · cases h
theorem rep_pys {S : Sto} (so : SOk K H q S) : ∀ (n : Nat) (v : V) (d : D) (p : PyData), Rep K H q v d → pys n S d = some p → Dp K H v p
  | 0, v, d, p, r, h => by
    cases r <;> simp only [pys] at h <;> cases h
    · exact .non
    · exact .bl _
    · exact .int _
    · exact .str _
  | n + 1, v, d, p, r, h => by
    have ih := rep_pys so n
    cases r with
    | non => cases h; exact .non
    | bl => cases h; exact .bl _
    | int => cases h; exact .int _
    | str => cases h; exact .str _
    | ty => cases h
    | cls => cases h
    | exc => cases h
    | dc => cases h
    | tup h1 h2 =>
      simp only [pys] at h
      obtain ⟨ps, e, rfl⟩ := optm_some h
      exact .tup h1 (reps_pys (fun v d p => ih v d p) _ _ _ h2 e)
    | ro h1 h2 =>
      simp only [pys] at h
      obtain ⟨ps, e, rfl⟩ := optm_some h
      exact .lst h1.sq (reps_pys (fun v d p => ih v d p) _ _ _ h2 e)
    | ls h1 =>
      simp only [pys] at h
      split at h
      · rename_i ds e1
        obtain ⟨ps, e, rfl⟩ := optm_some h
        obtain ⟨xs, h3, h4⟩ := so.at_ _ _ _ h1 e1
        exact .lst (SqL.of h3) (reps_pys (fun v d p => ih v d p) _ _ _ h4 e)
      · cases h
/-- both as data, lists of the store too -/
def eqL (x y : D) (S : Sto) : Option Bool := match pys 8 S x, pys 8 S y with
  | some p, some r => if SeqAt.shaped p = true ∧ SeqAt.shaped r = true then some (PyData.eqv p r) else none
  | _, _ => none
theorem eqL_some {x y : D} {S : Sto} {b : Bool} (h : eqL x y S = some b) : ∃ p r, pys 8 S x = some p ∧ pys 8 S y = some r ∧ SeqAt.shaped p = true ∧ SeqAt.shaped r = true ∧ PyData.eqv p r = b := by
  unfold eqL at h
  split at h
  · rename_i p r e1 e2
    split at h
    · rename_i hc
      exact ⟨p, r, e1, e2, hc.1, hc.2, Option.some.inj h⟩
    · cases h
  · cases h
def eqD (x y : D) : M D := fun S => if plain 8 x = true ∧ plain 8 y = true then (eqo x y).map fun b => (.bl b, S) else (eqL x y S).map fun b => (.bl b, S)
def neD (x y : D) : M D := fun S => if plain 8 x = true ∧ plain 8 y = true then (eqo x y).map fun b => (.bl !b, S) else (eqL x y S).map fun b => (.bl !b, S)
theorem od_eq : OpD K (rEqD K) eqD := by
  intro H q S x y dx dy d S' Q s rx ry e k
  unfold eqD at e
  split at e
  · rename_i hp
    cases z : eqo dx dy with
    | none => rw [z] at e; cases e
    | some b =>
      rw [z] at e
      cases e
      refine ⟨_, _, rep_dp 8 x dx rx hp.1, rep_dp 8 y dy ry hp.2, plain_shaped hp.1 (by decide), plain_shaped hp.2 (by decide), ?_⟩
      rw [eqo_eqv dx dy b z]
      exact k _ H q Stp.refl s (.bl b)
  · obtain ⟨b, z, e⟩ := optm_some e
    cases e
    obtain ⟨p, r, e1, e2, h1, h2, rfl⟩ := eqL_some z
    exact ⟨p, r, rep_pys s 8 _ _ _ rx e1, rep_pys s 8 _ _ _ ry e2, h1, h2, k _ H q Stp.refl s (.bl _)⟩
theorem od_ne : OpD K (rNeD K) neD := by
  intro H q S x y dx dy d S' Q s rx ry e k
  unfold neD at e
  split at e
  · rename_i hp
    cases z : eqo dx dy with
    | none => rw [z] at e; cases e
    | some b =>
      rw [z] at e
      cases e
      refine ⟨_, _, rep_dp 8 x dx rx hp.1, rep_dp 8 y dy ry hp.2, plain_shaped hp.1 (by decide), plain_shaped hp.2 (by decide), ?_⟩
      rw [eqo_eqv dx dy b z]
      exact k _ H q Stp.refl s (.bl !b)
  · obtain ⟨b, z, e⟩ := optm_some e
    cases e
    obtain ⟨p, r, e1, e2, h1, h2, rfl⟩ := eqL_some z
    exact ⟨p, r, rep_pys s 8 _ _ _ rx e1, rep_pys s 8 _ _ _ ry e2, h1, h2, k _ H q Stp.refl s (.bl _)⟩
end
section
variable {X : Cx} {K : PySem.W.Frag} {a b c : Expr} {ma mb mc : Gm → M D} {pos : Pos}
theorem xt_eq (hu : X.A.units + 64 < cLine) (ha : XE X a ma) (hb : XE X b mb) : XT X (.Compare a [.Eq] [b] pos) (tst (b2 eqD ma mb)) := xt_cmp (op_eqD hu) od_eq ha hb (nomark _)
theorem xt_ne (hu : X.A.units + 64 < cLine) (ha : XE X a ma) (hb : XE X b mb) : XT X (.Compare a [.NotEq] [b] pos) (tst (b2 neD ma mb)) := xt_cmp (op_neD hu) od_ne ha hb (nomark _)
/-- a is None -/
def isNo : D → Bool
  | .non => true
  | _ => false
def isN (x : D) (_ : D) : M D := ret (.bl (isNo x))
def isNN (x : D) (_ : D) : M D := ret (.bl !(isNo x))
def isND : D → D → M D := fun x y => match y with | .non => isN x y | _ => stuck
def isNND : D → D → M D := fun x y => match y with | .non => isNN x y | _ => stuck
/-- a op b op' c -/
def chainD (f f' : D → D → M D) (ma mb mc : Gm → M D) : Gm → M D := fun G => bnd (ma G) fun x => bnd (mb G) fun y => bnd (f x y) fun z => match z with
  | .bl true => bnd (mc G) fun w => f' y w
  | .bl false => ret (.bl false)
  | _ => stuck
/-! ### subscripts -/
def ixD : D → D → M D
  | .tup ds, .int i => fun S => (atI ds i).map fun d => (d, S)
  | .ro ds, .int i => fun S => (atI ds i).map fun d => (d, S)
  | .ls n, .int i => fun S => match S[n]? with
    | some ds => (atI ds i).map fun d => (d, S)
    | none => none
  | .str z, .int i => fun S => if z.length ≤ sizeLine then (atI z.cps.toList i).map fun c => (.str ⟨#[c]⟩, S) else none
  | _, _ => stuck
theorem reps_atI {H : Hp} {q : Rh} {xs : List V} {ds : List D} {i : Int} {d : D} (r : Reps K H q xs ds) (h : atI ds i = some d) : ∃ v, atI xs i = some v ∧ Rep K H q v d := by
  unfold atI at h ⊢
  rw [r.length]
  cases e : ixN ds.length i with
  | none => rw [e] at h; cases h
  | some j =>
    rw [e] at h
    exact r.get h
theorem map_some {α β : Type} {f : α → β} {o : Option α} {y : β} (h : o.map f = some y) : ∃ a, o = some a ∧ f a = y := by
  cases o with
  | none => cases h
  | some a => exact ⟨a, rfl, Option.some.inj h⟩
theorem od_ix : OpD K (rIx K) ixD := by
  intro H q S x y dx dy d S' Q s rx ry e k
  unfold ixD at e
  split at e
  · obtain ⟨u, e1, e2⟩ := map_some e
    cases e2
    cases rx with
    | tup h1 h2 =>
      cases ry
      obtain ⟨v, h3, h4⟩ := reps_atI h2 e1
      exact .inr (.inl ⟨_, _, _, v, rfl, rfl, h1, h3, k _ H q Stp.refl s h4⟩)
  · obtain ⟨u, e1, e2⟩ := map_some e
    cases e2
    cases rx with
    | ro h1 h2 =>
      cases ry
      obtain ⟨v, h3, h4⟩ := reps_atI h2 e1
      exact .inl ⟨_, _, _, v, rfl, rfl, h1.sq, h3, k _ H q Stp.refl s h4⟩
  · split at e
    · rename_i hx
      obtain ⟨u, e1, e2⟩ := map_some e
      cases e2
      cases rx with
      | ls h =>
        cases ry
        obtain ⟨us, h1, h2⟩ := s.at_ _ _ _ h hx
        obtain ⟨v, h3, h4⟩ := reps_atI h2 e1
        exact .inl ⟨_, _, _, v, rfl, rfl, SqL.of h1, h3, k _ H q Stp.refl s h4⟩
    · cases e
  · split at e
    · obtain ⟨u, e1, e2⟩ := map_some e
      cases e2
      cases rx
      cases ry
      exact .inr (.inr ⟨_, _, _, rfl, rfl, by assumption, e1, k _ H q Stp.refl s (.str _)⟩)
    · cases e
  · cases e
theorem xe_ix (ha : XE X a ma) (hb : XE X b mb) (hs : PlainIx b := by intro _ _; rfl) : XE X (.Subscript a b pos) (b2 ixD ma mb) :=
  XE.of (pe_ix ix_seq ha.o hb.o hs) fun σ H Q G q S d S' g e k => b2_go od_ix g e k

/-! ### slices -/
def cut {α : Type} (xs : List α) (lo hi : Option Int) : List α := (xs.drop (HT.sIx xs.length 0 lo)).take (HT.sIx xs.length xs.length hi - HT.sIx xs.length 0 lo)
def slD (x : D) (lo hi : Option Int) : M D := match x with
  | .tup ds => if HT.sIx ds.length 0 lo = 0 ∧ HT.sIx ds.length ds.length hi = ds.length then stuck else ret (.tup (cut ds lo hi))
  | .ro ds => alloc (cut ds lo hi)
  | .ls n => fun S => match S[n]? with
    | some ds => alloc (cut ds lo hi) S
    | none => none
  | .str z => if z.length ≤ sizeLine then ret (.str (cutS z lo hi)) else stuck
  | _ => stuck
theorem reps_cut {H : Hp} {q : Rh} {xs : List V} {ds : List D} (r : Reps K H q xs ds) (lo hi : Option Int) : Reps K H q (cutV xs lo hi) (cut ds lo hi) := by
  unfold cutV cut
  rw [r.length]
  exact (r.drop _).take _
def rSlG (K : PySem.W.Frag) : V → Option Int → Option Int → Hp → VK → Prop := fun x lo hi H Q => rSlT K x lo hi H Q ∨ (rSlL K x lo hi H Q ∨ rSlS x lo hi H Q)
theorem slD_ok {H : Hp} {q : Rh} {S S' : Sto} {x : V} {dx d : D} {lo hi : Option Int} {Q : VK} (s : SOk K H q S) (rx : Rep K H q x dx) (e : slD dx lo hi S = some (d, S')) (k : ∀ v H' q', Stp H q H' q' → SOk K H' q' S' → Rep K H' q' v d → Q v H') : rSlG K x lo hi H Q := by
  unfold slD at e
  split at e
  · split at e
    · cases e
    · rename_i hw
      cases e
      cases rx with
      | tup h1 h2 =>
        refine .inl ⟨_, _, rfl, h1, by rw [h2.length]; exact hw, fun p hp => ?_⟩
        exact k _ _ q (Stp.new hp) (s.new hp) (.tup (TupR.of upd_same) (Reps.mono (Stp.new hp) s (reps_cut h2 lo hi)))
  · cases rx with
    | ro h1 h2 =>
      refine .inr (.inl ⟨_, _, rfl, h1.sq, fun p hp => ?_⟩)
      obtain ⟨_, a, b, c⟩ := alloc_ok s (reps_cut h2 lo hi) e hp
      exact k _ _ _ a b c
  · split at e
    · rename_i hx
      cases rx with
      | ls h =>
        obtain ⟨us, h1, h2⟩ := s.at_ _ _ _ h hx
        refine .inr (.inl ⟨_, _, rfl, SqL.of h1, fun p hp => ?_⟩)
        obtain ⟨_, a, b, c⟩ := alloc_ok s (reps_cut h2 lo hi) e hp
        exact k _ _ _ a b c
    · cases e
  · split at e
    · cases e
      cases rx
      exact .inr (.inr ⟨_, rfl, by assumption, k _ H q Stp.refl s (.str _)⟩)
    · cases e
  · cases e
/-- a part of a slice -/
def asI : D → M (Option Int)
  | .int i => ret (some i)
  | _ => stuck
def pNo : Gm → M (Option Int) := fun _ => ret none
def pIs (m : Gm → M D) : Gm → M (Option Int) := fun G => bnd (m G) asI
def To (K : PySem.W.Frag) (m : Gm → M (Option Int)) : TO := fun σ H Q => ∃ G q S, Ag K H q S σ G ∧ ∃ o S', m G S = some (o, S') ∧ ∀ H' q', Stp H q H' q' → SOk K H' q' S' → Q o H'
theorem To.go {H : Hp} {q : Rh} {S S1 : Sto} {σ : L2.St} {G : Gm} {m : Gm → M (Option Int)} {o : Option Int} {Q : Option Int → Hp → Prop} (g : Ag K H q S σ G) (e : m G S = some (o, S1)) (h : ∀ H1 q1, Stp H q H1 q1 → Ag K H1 q1 S1 σ G → Q o H1) : To K m σ H Q :=
  ⟨G, q, S, g, o, S1, e, fun H' q' st so => h H' q' st (g.mono st so)⟩
structure XO (X : Cx) (e : Option Expr) (m : Gm → M (Option Int)) : Prop where
  o : PO X e (To X.K m)
theorem xo_no : XO X none pNo := ⟨fun pins s σ H Q I ⟨G, q, S, g, o, S', e, k⟩ => po_none pins s σ H Q I (by cases e; exact k H q Stp.refl g.sok)⟩
theorem xo_is (h : XE X a ma) : XO X (some a) (pIs ma) := ⟨fun pins s σ H Q I ⟨G, q, S, g, o, S', e, k⟩ => po_some h.o pins s σ H Q I (by
  obtain ⟨x, S1, e1, e⟩ := bnd_some e
  refine T.go g e1 fun v H1 q1 st1 g1 rp => ?_
  cases rp with
  | int i => cases e; exact ⟨i, rfl, k H1 q1 st1 g1.sok⟩
  | _ => cases e)⟩
def vslice (m : Gm → M D) (ml mh : Gm → M (Option Int)) : Gm → M D := fun G => bnd (m G) fun x => bnd (ml G) fun lo => bnd (mh G) fun hi => slD x lo hi
/-! ### - a -/
def negD : D → M D
  | .int i => ret (.int (-i))
  | _ => stuck
theorem xe_neg (ha : XE X a ma) : XE X (.UnaryOp .USub a pos) (fun G => bnd (ma G) negD) :=
  XE.of (pe_un un_neg ha.o) fun σ H Q G q S d S' g e k => by
    obtain ⟨x, S1, e1, e⟩ := bnd_some e
    refine T.go g e1 fun v H1 q1 st1 g1 rp => ?_
    cases rp with
    | int i => cases e; exact ⟨i, rfl, k _ H1 q1 st1 g1.sok (.int _)⟩
    | _ => cases e

/-! ### calls of built-ins -/
def CaD (K : PySem.W.Frag) (r : List V → Hp → VK → Prop) (f : List D → M D) : Prop := ∀ (H : Hp) (q : Rh) (S : Sto) (xs : List V) (ds : List D) (d : D) (S' : Sto) (Q : VK), SOk K H q S → Reps K H q xs ds → f ds S = some (d, S') →
  (∀ v H' q', Stp H q H' q' → SOk K H' q' S' → Rep K H' q' v d → Q v H') → r xs H Q
def vcall (f : List D → M D) (ms : Gm → M (List D)) : Gm → M D := fun G => bnd (ms G) f
theorem vcall_go {r : List V → Hp → VK → Prop} {f : List D → M D} {ms : Gm → M (List D)} (hd : CaD K r f) {σ : L2.St} {H : Hp} {Q : VK} {G : Gm} {q : Rh} {S S' : Sto} {d : D} (g : Ag K H q S σ G) (e : vcall f ms G S = some (d, S')) (k : ∀ v H' q', Stp H q H' q' → SOk K H' q' S' → Rep K H' q' v d → Q v H') :
    tCB r (Ta K ms) σ H Q := by
  obtain ⟨ds, S1, e1, e⟩ := bnd_some e
  refine Ta.go g e1 fun vs H1 q1 st1 g1 rp1 => ?_
  exact hd H1 q1 S1 vs ds d S' Q g1.sok rp1 e fun w H' q' st so rp => k w H' q' (st1.trans st) so rp
theorem xe_callB {x : Str} {id : String} {p : Pos} {e : Expr} {es : List Expr} {r : List V → Hp → VK → Prop} {f : List D → M D} {ms : Gm → M (List D)} (hc : CallR X (.builtin id) r) (hd : CaD X.K r f) (hg : Gl X x) (hm : X.mg x = none) (hv : bootBuiltins x = some (.builtin id)) (ha : XA X (e :: es) ms) (hn : x ≠ "__name__" := by decide) (hdb : (x == ("__debug__" : Str)) = false := by decide)
    (he : starEach (e :: es) X.env = (false, eval e X.env) :: starEach es X.env := by rfl) (hpl : (backTo pos (starEach es X.env)).any (·.1) = false := by rfl) : XE X (.Call (.Name x p) (e :: es) [] pos) (vcall f ms) :=
  XE.of (pe_callB hc hg hm hv ha.o hn hdb he hpl) fun σ H Q G q S d S' g e k => vcall_go hd g e k
theorem xe_callT {x : Str} {T : String} {p : Pos} {e : Expr} {es : List Expr} {r : List V → Hp → VK → Prop} {f : List D → M D} {ms : Gm → M (List D)} (hc : CallR X (.type T) r) (hd : CaD X.K r f) (hg : Gl X x) (hm : X.mg x = none) (hv : bootBuiltins x = some (.type T)) (ha : XA X (e :: es) ms) (hn : x ≠ "__name__" := by decide) (hdb : (x == ("__debug__" : Str)) = false := by decide)
    (he : starEach (e :: es) X.env = (false, eval e X.env) :: starEach es X.env := by rfl) (hpl : (backTo pos (starEach es X.env)).any (·.1) = false := by rfl) : XE X (.Call (.Name x p) (e :: es) [] pos) (vcall f ms) :=
  XE.of (pe_callTy hc hg hm hv ha.o hn hdb he hpl) fun σ H Q G q S d S' g e k => vcall_go hd g e k
def lenD : List D → M D
  | [.tup ds] => ret (.int ds.length)
  | [.ro ds] => ret (.int ds.length)
  | [.ls n] => fun S => match S[n]? with
    | some ds => some (.int ds.length, S)
    | none => none
  | [.str z] => if z.length ≤ sizeLine then ret (.int z.length) else stuck
  | _ => stuck
theorem reps1 {H : Hp} {q : Rh} {xs : List V} {d : D} (r : Reps K H q xs [d]) : ∃ x, xs = [x] ∧ Rep K H q x d := by
  cases r with
  | cons h t => cases t; exact ⟨_, rfl, h⟩
theorem reps2 {H : Hp} {q : Rh} {xs : List V} {d e : D} (r : Reps K H q xs [d, e]) : ∃ x y, xs = [x, y] ∧ Rep K H q x d ∧ Rep K H q y e := by
  cases r with
  | cons h t =>
    obtain ⟨y, rfl, h2⟩ := reps1 t
    exact ⟨_, _, rfl, h, h2⟩
theorem cd_len : CaD K (fun xs H Q => ∃ x n, xs = [x] ∧ LenV K x H n ∧ Q (.int n) H) lenD := by
  intro H q S xs ds d S' Q s rx e k
  unfold lenD at e
  split at e
  · obtain ⟨x, rfl, h⟩ := reps1 rx
    cases e
    cases h with
    | tup h1 h2 => exact ⟨_, _, rfl, .inr ⟨_, h1, h2.length.symm⟩, k _ H q Stp.refl s (.int _)⟩
  · obtain ⟨x, rfl, h⟩ := reps1 rx
    cases e
    cases h with
    | ro h1 h2 => exact ⟨_, _, rfl, .inl ⟨_, h1.sq, h2.length.symm⟩, k _ H q Stp.refl s (.int _)⟩
  · obtain ⟨x, rfl, h⟩ := reps1 rx
    split at e
    · rename_i hx
      cases e
      cases h with
      | ls h =>
        obtain ⟨us, h1, h2⟩ := s.at_ _ _ _ h hx
        exact ⟨_, _, rfl, .inl ⟨_, SqL.of h1, h2.length.symm⟩, k _ H q Stp.refl s (.int _)⟩
    · cases e
  · obtain ⟨x, rfl, h⟩ := reps1 rx
    split at e
    · cases e
      cases h
      exact ⟨_, _, rfl, ⟨by assumption, rfl⟩, k _ H q Stp.refl s (.int _)⟩
    · cases e
  · cases e
def absD : List D → M D
  | [.int i] => ret (.int (if i < 0 then -i else i))
  | _ => stuck
def maxD : List D → M D
  | [.int i, .int j] => ret (.int (if j > i then j else i))
  | _ => stuck
def minD : List D → M D
  | [.int i, .int j] => ret (.int (if j < i then j else i))
  | _ => stuck
theorem cd_max : CaD K (fun xs H Q => ∃ i j, xs = [.int i, .int j] ∧ Q (.int (if j > i then j else i)) H) maxD := by
  intro H q S xs ds d S' Q s rx e k
  unfold maxD at e
  split at e
  · obtain ⟨x, y, rfl, h, h'⟩ := reps2 rx
    cases e
    cases h
    cases h'
    exact ⟨_, _, rfl, k _ H q Stp.refl s (.int _)⟩
  · cases e
theorem cd_min : CaD K (fun xs H Q => ∃ i j, xs = [.int i, .int j] ∧ Q (.int (if j < i then j else i)) H) minD := by
  intro H q S xs ds d S' Q s rx e k
  unfold minD at e
  split at e
  · obtain ⟨x, y, rfl, h, h'⟩ := reps2 rx
    cases e
    cases h
    cases h'
    exact ⟨_, _, rfl, k _ H q Stp.refl s (.int _)⟩
  · cases e
/-- the dints of a row -/
def dints : List D → Option (List Int)
  | [] => some []
  | .int i :: ds => (dints ds).map (i :: ·)
  | _ => none
def sumD : List D → M D
  | [.ro ds] => fun S => (dints ds).map fun ns => (.int ns.sum, S)
  | [.ls n] => fun S => match S[n]? with
    | some ds => (dints ds).map fun ns => (.int ns.sum, S)
    | none => none
  | _ => stuck
def intD : List D → M D
  | [.int i] => ret (.int i)
  | [.bl b] => ret (.int (if b then 1 else 0))
  | _ => stuck
theorem cd_int : CaD K (fun xs H Q => (∃ i, xs = [.int i] ∧ Q (.int i) H) ∨ ∃ k, xs = [.bl k] ∧ Q (.int (if k then 1 else 0)) H) intD := by
  intro H q S xs ds d S' Q s rx e k
  unfold intD at e
  split at e
  · obtain ⟨x, rfl, h⟩ := reps1 rx
    cases e
    cases h
    exact .inl ⟨_, rfl, k _ H q Stp.refl s (.int _)⟩
  · obtain ⟨x, rfl, h⟩ := reps1 rx
    cases e
    cases h
    exact .inr ⟨_, rfl, k _ H q Stp.refl s (.int _)⟩
  · cases e
def tupleD : List D → M D
  | [.tup ds] => ret (.tup ds)
  | [.ro ds] => ret (.tup ds)
  | [.ls n] => fun S => match S[n]? with
    | some ds => some (.tup ds, S)
    | none => none
  | _ => stuck
def listD : List D → M D
  | [.tup ds] => alloc ds
  | [.ro ds] => alloc ds
  | [.ls n] => fun S => match S[n]? with
    | some ds => alloc ds S
    | none => none
  | _ => stuck
/-! ### methods of lists -/
def MtD (K : PySem.W.Frag) (r : V → List V → Hp → VK → Prop) (f : D → List D → M D) : Prop := ∀ (H : Hp) (q : Rh) (S : Sto) (x : V) (dx : D) (xs : List V) (ds : List D) (d : D) (S' : Sto) (Q : VK), SOk K H q S → Rep K H q x dx → Reps K H q xs ds → f dx ds S = some (d, S') →
  (∀ v H' q', Stp H q H' q' → SOk K H' q' S' → Rep K H' q' v d → Q v H') → r x xs H Q
/-- the list's method: the receiver is a list of the store ahead of the arguments -/
def vmeth (f : D → List D → M D) (mo : Gm → M D) (ms : Gm → M (List D)) : Gm → M D := fun G => bnd (mo G) fun o => match o with
  | .ls n => fun S => match S[n]? with
    | some _ => bnd (ms G) (f (.ls n)) S
    | none => none
  | _ => stuck
def appD : D → List D → M D
  | .ls n, [y] => fun S => match S[n]? with
    | some ds => if ds.length < sizeLine then some (.non, S.set n (ds ++ [y])) else none
    | none => none
  | _, _ => stuck
def extD : D → List D → M D
  | .ls n, [.ls m] => fun S => match S[n]?, S[m]? with
    | some ds, some es => if ds.length + es.length ≤ sizeLine then some (.non, S.set n (ds ++ es)) else none
    | _, _ => none
  | _, _ => stuck
def revD : D → List D → M D
  | .ls n, [] => fun S => match S[n]? with
    | some ds => some (.non, S.set n ds.reverse)
    | none => none
  | _, _ => stuck
end
end PL

/-! PURE LAYER, part 4: statements, loops, comprehensions, defs -/
namespace PL
open PySem PySem.Spec PyProof.Rows L2

inductive Fl where
  | nx | rt (d : D) | bk | ct
abbrev MS := Gm → Sto → Option (Fl × Gm × Sto)
def Ts (K : PySem.W.Frag) (m : MS) : TS := fun E σ H => ∃ G q S, Ag K H q S σ G ∧ ∃ f G' S', m G S = some (f, G', S') ∧ match f with
  | .nx => ∀ σ' H' q', Stp H q H' q' → Ag K H' q' S' σ' G' → E.nx σ' H'
  | .rt d => ∀ v H' q', Stp H q H' q' → SOk K H' q' S' → Rep K H' q' v d → E.rt v H'
  | .bk => ∀ σ' H' q', Stp H q H' q' → Ag K H' q' S' σ' G' → E.bk σ' H'
  | .ct => ∀ σ' H' q', Stp H q H' q' → Ag K H' q' S' σ' G' → E.ct σ' H'
/-- what is wanted behind, by the flow -/
def Wn (K : PySem.W.Frag) (E : Ends) (H : Hp) (q : Rh) (S' : Sto) (G' : Gm) : Fl → Prop
  | .nx => ∀ σ' H' q', Stp H q H' q' → Ag K H' q' S' σ' G' → E.nx σ' H'
  | .rt d => ∀ v H' q', Stp H q H' q' → SOk K H' q' S' → Rep K H' q' v d → E.rt v H'
  | .bk => ∀ σ' H' q', Stp H q H' q' → Ag K H' q' S' σ' G' → E.bk σ' H'
  | .ct => ∀ σ' H' q', Stp H q H' q' → Ag K H' q' S' σ' G' → E.ct σ' H'
structure XS (X : Cx) (st : Stmt) (m : MS) : Prop where
  o : PS X st (Ts X.K m)
structure XSs (X : Cx) (sts : List Stmt) (m : MS) : Prop where
  o : PSs X sts (Ts X.K m)
section
variable {K : PySem.W.Frag} {E : Ends} {H H1 : Hp} {q q1 : Rh} {S S' : Sto} {σ : L2.St} {G G' : Gm} {f : Fl} {m : MS}
theorem Ts.mk (g : Ag K H q S σ G) (e : m G S = some (f, G', S')) (h : Wn K E H q S' G' f) : Ts K m E σ H := ⟨G, q, S, g, f, G', S', e, by cases f <;> exact h⟩
theorem Ts.get (h : Ts K m E σ H) : ∃ G q S f G' S', Ag K H q S σ G ∧ m G S = some (f, G', S') ∧ Wn K E H q S' G' f := by
  obtain ⟨G, q, S, g, f, G', S', e, h⟩ := h
  exact ⟨G, q, S, f, G', S', g, e, by cases f <;> exact h⟩
theorem Wn.back (st : Stp H q H1 q1) (h : Wn K E H q S' G' f) : Wn K E H1 q1 S' G' f := by
  cases f with
  | nx => exact fun σ' H' q' st' g => h σ' H' q' (st.trans st') g
  | rt d => exact fun v H' q' st' so rp => h v H' q' (st.trans st') so rp
  | bk => exact fun σ' H' q' st' g => h σ' H' q' (st.trans st') g
  | ct => exact fun σ' H' q' st' g => h σ' H' q' (st.trans st') g
end
section
variable {X : Cx} {st : Stmt} {rest : List Stmt} {m m2 : MS} {e : Expr} {me : Gm → M D} {pos : Pos}
theorem XS.of {t : TS} (h : PS X st t) (w : ∀ (D : Ends) σ H G q S f G' S', Ag X.K H q S σ G → m G S = some (f, G', S') → Wn X.K D H q S' G' f → t D σ H) : XS X st m :=
  ⟨fun pins s σ H D I hT => let ⟨G, q, S, f, G', S', g, e, k⟩ := hT.get; h pins s σ H D I (w D σ H G q S f G' S' g e k)⟩
theorem XSs.of {sts : List Stmt} {t : TS} (h : PSs X sts t) (w : ∀ (D : Ends) σ H G q S f G' S', Ag X.K H q S σ G → m G S = some (f, G', S') → Wn X.K D H q S' G' f → t D σ H) : XSs X sts m :=
  ⟨fun pins s σ H D I hT => let ⟨G, q, S, f, G', S', g, e, k⟩ := hT.get; h pins s σ H D I (w D σ H G q S f G' S' g e k)⟩
def sNext : MS := fun G S => some (.nx, G, S)
def sSeq (m1 m2 : MS) : MS := fun G S => match m1 G S with
  | some (.nx, G1, S1) => m2 G1 S1
  | some (f, G1, S1) => some (f, G1, S1)
  | none => none
theorem xss_nil : XSs X [] sNext := XSs.of pss_nil fun D σ H G q S f G' S' g e k => by cases e; exact k σ H q Stp.refl g
theorem xss_one (h : XS X st m) : XSs X [st] m := ⟨pss_one h.o⟩
theorem xss_cons (h1 : XS X st m) (h2 : XSs X rest m2) : XSs X (st :: rest) (sSeq m m2) :=
  XSs.of (pss_cons h1.o h2.o) fun D σ H G q S f G' S' g e k => by
    unfold sSeq at e
    split at e
    · rename_i G1 S1 e1
      refine Ts.mk g e1 fun σ1 H1 q1 st1 g1 => ?_
      exact Ts.mk g1 e (k.back st1)
    · rename_i e1
      cases e
      refine Ts.mk g e1 ?_
      cases f with
      | nx => rename_i hn; exact absurd rfl hn
      | rt d => exact k
      | bk => exact k
      | ct => exact k
    · cases e
def sPass : MS := sNext
def sDo (m : Gm → M D) : MS := fun G S => match m G S with
  | some (_, S1) => some (.nx, G, S1)
  | none => none
def sRet (m : Gm → M D) : MS := fun G S => match m G S with
  | some (d, S1) => some (.rt d, G, S1)
  | none => none
theorem xs_ret (h : XE X e me) : XS X (.Return (some e) pos) (sRet me) :=
  XS.of (ps_ret h.o) fun D σ H G q S f G' S' g e k => by
    unfold sRet at e
    split at e
    · rename_i e1
      cases e
      exact T.go g e1 fun v H1 q1 st1 g1 rp => k v H1 q1 st1 g1.sok rp
    · cases e
def sIf (c : Gm → M Bool) (a b : MS) : MS := fun G S => match c G S with
  | some (true, S1) => a G S1
  | some (false, S1) => b G S1
  | none => none
theorem xs_if {c : Expr} {as bs : List Stmt} {mc : Gm → M Bool} (hc : XT X c mc) (ha : XSs X as m) (hb : XSs X bs m2) : XS X (.If c as bs pos) (sIf mc m m2) :=
  XS.of (ps_if hc.o ha.o hb.o) fun D σ H G q S f G' S' g e k => by
    unfold sIf at e
    split at e
    · rename_i e1
      refine Tt.go g e1 fun H1 q1 st1 g1 => ?_
      rw [if_pos rfl]
      exact Ts.mk g1 e (k.back st1)
    · rename_i e1
      refine Tt.go g e1 fun H1 q1 st1 g1 => ?_
      rw [if_neg Bool.false_ne_true]
      exact Ts.mk g1 e (k.back st1)
    · cases e
/-- a statement that is never come to -/
def sNever : MS := fun _ _ => none
end

/-! ### targets -/
def wipeG (G : Gm) : List Nat → Gm
  | [] => G
  | v :: vs => (wipeG G vs).set v none
theorem wipe_get {σ : L2.St} {vs : List Nat} {j : Nat} : (wipe σ vs)[j]? = if j ∈ vs ∧ j < σ.length then some none else σ[j]? := by
  induction vs with
  | nil => simp [wipe]
  | cons v vs ih =>
    rw [wipe, List.getElem?_set, wipe_length, ih]
    by_cases h : v = j
    · subst h
      by_cases h2 : v < σ.length
      · simp [h2]
      · simp [h2]
    · have h' : ¬ j = v := fun z => h z.symm
      simp [h, h']
theorem wipe_ext {σ τ : L2.St} {vs : List Nat} (hl : σ.length = τ.length) (h : ∀ j, j ∉ vs → σ[j]? = τ[j]?) : wipe σ vs = wipe τ vs := by
  refine List.ext_getElem? fun j => ?_
  rw [wipe_get, wipe_get, hl]
  by_cases hj : j ∈ vs
  · by_cases h2 : j < τ.length
    · rw [if_pos ⟨hj, h2⟩, if_pos ⟨hj, h2⟩]
    · rw [if_neg (fun z => h2 z.2), if_neg (fun z => h2 z.2), List.getElem?_eq_none (by omega), List.getElem?_eq_none (by omega)]
  · rw [if_neg (fun z => hj z.1), if_neg (fun z => hj z.1), h j hj]
theorem wipeG_length (G : Gm) : ∀ vs : List Nat, (wipeG G vs).length = G.length
  | [] => rfl
  | v :: vs => by unfold wipeG; rw [List.length_set, wipeG_length G vs]
theorem wipeG_some {G : Gm} {i : Nat} {x : D} : ∀ {vs : List Nat}, (wipeG G vs)[i]? = some (some x) → G[i]? = some (some x) ∧ i ∉ vs
  | [], h => ⟨h, by simp⟩
  | v :: vs, h => by
    unfold wipeG at h
    by_cases hi : v = i
    · subst hi
      by_cases hv : v < (wipeG G vs).length
      · rw [List.getElem?_set_self hv] at h; cases h
      · rw [List.getElem?_eq_none (by simpa using hv)] at h; cases h
    · rw [List.getElem?_set_ne hi] at h
      obtain ⟨h1, h2⟩ := wipeG_some h
      exact ⟨h1, by simp only [List.mem_cons, not_or]; exact ⟨fun e => hi e.symm, h2⟩⟩
section
variable {K : PySem.W.Frag} {H : Hp} {q : Rh} {S : Sto} {σ : L2.St} {G : Gm}
theorem Ag.wipe (g : Ag K H q S σ G) (vs : List Nat) : Ag K H q S (L2.wipe σ vs) (wipeG G vs) :=
  ⟨g.sok, by rw [wipe_length, wipeG_length]; exact g.len, fun i d e => by
    obtain ⟨e1, e2⟩ := wipeG_some e
    obtain ⟨v, h1, h2⟩ := g.at_ i d e1
    exact ⟨v, by rw [wipe_get, if_neg (fun z => e2 z.1)]; exact h1, h2⟩⟩
theorem Ag.set (g : Ag K H q S σ G) (i : Nat) {v : V} {d : D} (r : Rep K H q v d) : Ag K H q S (σ.set i (some v)) (G.set i (some d)) :=
  ⟨g.sok, by rw [List.length_set, List.length_set]; exact g.len, fun j e h => by
    by_cases z : i = j
    · subst z
      by_cases hl : i < G.length
      · rw [List.getElem?_set_self hl] at h
        cases h
        exact ⟨v, by rw [List.getElem?_set_self (by rw [g.len]; exact hl)], r⟩
      · rw [List.getElem?_eq_none (by simpa using hl)] at h
        cases h
    · rw [List.getElem?_set_ne z] at h
      obtain ⟨u, h1, h2⟩ := g.at_ j e h
      exact ⟨u, by rw [List.getElem?_set_ne z]; exact h1, h2⟩⟩
end
/-- a target: how it stores a value into the names; vs: the slots that it touches -/
def GC (K : PySem.W.Frag) (gl : TG) (g : D → Gm → Option Gm) (vs : List Nat) : Prop := ∀ (v : V) (σ : L2.St) (H : Hp) (Q : L2.St → Hp → Prop) (d : D) (G : Gm) (q : Rh) (S : Sto) (G' : Gm), Ag K H q S σ G → Rep K H q v d → g d G = some G' →
  (∀ σ', (σ'.length = σ.length ∧ ∀ j, j ∉ vs → σ'[j]? = σ[j]?) → Ag K H q S σ' G' → Q σ' H) → gl v σ H Q
def GCs (K : PySem.W.Frag) (gl : TGs) (g : List D → Gm → Option Gm) (vs : List Nat) : Prop := ∀ (us : List V) (σ : L2.St) (H : Hp) (Q : L2.St → Hp → Prop) (ds : List D) (G : Gm) (q : Rh) (S : Sto) (G' : Gm), Ag K H q S σ G → Reps K H q us ds → g ds G = some G' →
  (∀ σ', (σ'.length = σ.length ∧ ∀ j, j ∉ vs → σ'[j]? = σ[j]?) → Ag K H q S σ' G' → Q σ' H) → gl us σ H Q
def tN (i : Nat) : D → Gm → Option Gm := fun d G => some (G.set i (some d))
def tNil : List D → Gm → Option Gm := fun ds G => match ds with
  | [] => some G
  | _ => none
def tCons (g : D → Gm → Option Gm) (gs : List D → Gm → Option Gm) : List D → Gm → Option Gm := fun ds G => match ds with
  | d :: r => (g d G).bind (gs r)
  | [] => none
def tT (n : Nat) (gs : List D → Gm → Option Gm) : D → Gm → Option Gm := fun d G => match d with
  | .tup ds => if ds.length = n then gs ds G else none
  | _ => none
section
variable {K : PySem.W.Frag}
theorem gc_name (i : Nat) : GC K (gName i) (tN i) [i] := by
  intro v σ H Q d G q S G' g r e k
  cases e
  refine k _ ⟨List.length_set, fun j hj => ?_⟩ (g.set i r)
  rw [List.getElem?_set_ne (fun z => hj (by simp [z]))]
theorem gcs_nil : GCs K gNil tNil [] := by
  intro us σ H Q ds G q S G' g r e k
  unfold tNil at e
  split at e
  · cases e
    cases r
    exact ⟨rfl, k σ ⟨rfl, fun _ _ => rfl⟩ g⟩
  · cases e
theorem gcs_cons {gl : TG} {g1 : D → Gm → Option Gm} {vs : List Nat} {gls : TGs} {gs : List D → Gm → Option Gm} {ws : List Nat} (h1 : GC K gl g1 vs) (h2 : GCs K gls gs ws) : GCs K (gCons gl gls) (tCons g1 gs) (vs ++ ws) := by
  intro us σ H Q ds G q S G' g r e k
  unfold tCons at e
  split at e
  · rename_i d ds'
    cases r with
    | @cons v vs' _ _ rv rr =>
      cases z : g1 d G with
      | none => rw [z] at e; cases e
      | some G1 =>
        rw [z] at e
        refine ⟨v, vs', rfl, h1 v σ H _ d G q S G1 g rv z fun σ1 hσ1 g1' => ?_⟩
        refine h2 vs' σ1 H Q ds' G1 q S G' g1' rr e fun σ2 hσ2 g2 => k σ2 ⟨by rw [hσ2.1, hσ1.1], fun j hj => ?_⟩ g2
        have hj' : j ∉ vs ∧ j ∉ ws := by simpa using hj
        rw [hσ2.2 j hj'.2, hσ1.2 j hj'.1]
  · cases e
theorem gc_tup {n : Nat} {gls : TGs} {gs : List D → Gm → Option Gm} {ws : List Nat} (h : GCs K gls gs ws) : GC K (gTup K n gls) (tT n gs) ws := by
  intro v σ H Q d G q S G' g r e k
  unfold tT at e
  split at e
  · split at e
    · rename_i hl
      cases r with
      | tup h1 h2 => exact ⟨_, _, rfl, h1.sq, by rw [h2.length]; exact hl, h _ σ H Q _ G q S G' g h2 e k⟩
    · cases e
  · cases e
end

/-! ### assignments -/
section
variable {X : Cx} {e : Expr} {me : Gm → M D} {pos : Pos}
def sAsg (m : Gm → M D) (g : D → Gm → Option Gm) : MS := fun G S => match m G S with
  | some (d, S1) => (g d G).map fun G1 => (.nx, G1, S1)
  | none => none
theorem sAsg_go {gl : TG} {g : D → Gm → Option Gm} {vs : List Nat} (hg : GC X.K gl g vs) {E : Ends} {σ : L2.St} {H : Hp} {G G' : Gm} {q : Rh} {S S' : Sto} {f : Fl} (ag : Ag X.K H q S σ G) (e : sAsg me g G S = some (f, G', S')) (k : Wn X.K E H q S' G' f) : tAsg (T X.K me) gl E σ H := by
  unfold sAsg at e
  split at e
  · rename_i e1
    obtain ⟨G1, e2, e3⟩ := map_some e
    cases e3
    refine T.go ag e1 fun v H1 q1 st1 g1 rp => ?_
    exact hg v σ H1 _ _ G q1 _ _ g1 rp e2 fun σ' _ g' => k σ' H1 q1 st1 g'
  · cases e
theorem xs_set {i : Nat} {x : Str} {pos' : Pos} (hN : X.N.Nodup) (hi : X.N[i]? = some x) (hx : Loc X.env.scope x) (he : XE X e me) (hs : swapsWith e (some (.Name x pos')) pos.line X.env = pure false := by rfl) (hf : X.fn x = true ∨ X.env.scope.names.lookup x = some .local := by first | exact .inl rfl | exact .inr rfl | assumption) :
    XS X (.Assign [.Name x pos'] e pos) (sAsg me (tN i)) :=
  XS.of (ps_set hN hi hx he.o hs hf) fun D σ H G q S f G' S' g e k => sAsg_go (gc_name i) g e k
def sPar (i j : Nat) (m : Gm → M (List D)) : MS := fun G S => match m G S with
  | some ([d, e], S1) => some (.nx, (G.set i (some d)).set j (some e), S1)
  | _ => none
/-- xs[i] = e -/
def setD (o i v : D) : Sto → Option Sto := fun S => match o, i with
  | .ls n, .int k => match S[n]? with
    | some ds => match ixN ds.length k with
      | some j => some (S.set n (ds.set j v))
      | none => none
    | none => none
  | _, _ => none
def sSub (mv mo mi : Gm → M D) : MS := fun G S => match mv G S with
  | some (v, S1) => match mo G S1 with
    | some (o, S2) => match mi G S2 with
      | some (i, S3) => (setD o i v S3).map fun S4 => (.nx, G, S4)
      | none => none
    | none => none
  | none => none
theorem xs_sub {o i : Expr} {mo mi : Gm → M D} {tpos : Pos} (he : XE X e me) (ho : XE X o mo) (hi : XE X i mi)
    (ha : ∀ v, assign (.Subscript o i tpos) X.env v = (do
      let ov ← holding [v] (eval o X.env)
      let iv ← holding [v, ov] (eval i X.env)
      standAt tpos
      holding [v, ov, iv] (setItem ov iv v)
      release [v, ov, iv] []) := by intro _; rfl)
    (hs : swapsWithSole [.Subscript o i tpos] e pos.line X.env = pure false := by rfl) (hw : swappedStores [.Subscript o i tpos] e X.env = pure none := by rfl)
    (h1 : (assignEach [.Subscript o i tpos] X.env).map (·.2) = [assign (.Subscript o i tpos) X.env] := by rfl) : XS X (.Assign [.Subscript o i tpos] e pos) (sSub me mo mi) :=
  XS.of (ps_asg he.o (pg_sub ho.o hi.o set_list ha) hs hw h1) fun D σ H G q S f G' S' g e k => by
    unfold sSub at e
    split at e
    · rename_i v S1 e1
      split at e
      · rename_i o' S2 e2
        split at e
        · rename_i i' S3 e3
          obtain ⟨S4, e4, e5⟩ := map_some e
          cases e5
          refine T.go g e1 fun x H1 q1 st1 g1 rp1 => T.go g1 e2 fun y H2 q2 st2 g2 rp2 => T.go g2 e3 fun z H3 q3 st3 g3 rp3 => ?_
          have rv := Rep.mono st3 g2.sok (Rep.mono st2 g1.sok rp1)
          have ro := Rep.mono st3 g2.sok rp2
          unfold setD at e4
          split at e4
          · split at e4
            · rename_i hx
              split at e4
              · rename_i hj
                cases e4
                cases ro with
                | ls h =>
                  cases rp3
                  obtain ⟨us, h1, h2⟩ := g3.sok.at_ _ _ _ h hx
                  refine ⟨_, us, _, _, rfl, rfl, h1, by rw [h2.length]; exact hj, ?_⟩
                  refine k σ _ q3 (((st1.trans st2).trans st3).trans (Stp.wr h)) ?_
                  exact g3.mono (Stp.wr h) (g3.sok.wr h (h2.set rv _))
              · cases e4
            · cases e4
          · cases e4
        · cases e
      · cases e
    · cases e
/-- x += e of ints -/
def sAug (i : Nat) (f : Int → Int → Int) (m : Gm → M D) : MS := fun G S => match G[i]? with
  | some (some (.int a)) => match m G S with
    | some (.int b, S1) => some (.nx, G.set i (some (.int (f a b))), S1)
    | _ => none
  | _ => none
end

/-! ### while -/
def itW (c : Gm → M Bool) (b : MS) : Nat → MS
  | 0 => fun _ _ => none
  | n + 1 => fun G S => match c G S with
    | some (false, S1) => some (.nx, G, S1)
    | some (true, S1) => match b G S1 with
      | some (.nx, G2, S2) => itW c b n G2 S2
      | some (.ct, G2, S2) => itW c b n G2 S2
      | some (.bk, G2, S2) => some (.nx, G2, S2)
      | some (.rt d, G2, S2) => some (.rt d, G2, S2)
      | none => none
    | none => none
open Classical in
noncomputable def sWhile (c : Gm → M Bool) (b : MS) : MS := fun G S => if h : ∃ r n, itW c b n G S = some r then some h.choose else none
section
variable {X : Cx} {pos : Pos}
end

/-! ### what a loop walks: its items, and the list of the store (if it is one) that must stay -/
abbrev Src := Option (List (Nat × List D)) × List D
/-- the lists of the store that are walked stand as they stood -/
def Stays (gd : Src) (S : Sto) : Prop := ∀ l, gd.1 = some l → ∀ p ∈ l, S[p.1]? = some p.2
def ItOk (K : PySem.W.Frag) (J : It) (H0 : Hp) (q0 : Rh) (gd : Src) : Prop := ∀ H q S, Stp H0 q0 H q → SOk K H q S → Stays gd S → ∀ i : Nat, (gd.2.length ≤ i → J.stop i H) ∧
  ∀ d, gd.2[i]? = some d → J.go i H ∧ ∀ x H', J.yld i H x H' → Stp H q H' q ∧ SOk K H' q S ∧ Rep K H' q x d
def Ti (K : PySem.W.Frag) (m : Gm → M Src) : TI := fun σ H R => ∃ G q S, Ag K H q S σ G ∧ ∃ gd S', m G S = some (gd, S') ∧ ∀ J H' q', Stp H q H' q' → SOk K H' q' S' → ItOk K J H' q' gd → R J H'
structure XI (X : Cx) (tg iter : Expr) (m : Gm → M Src) : Prop where
  o : PI X tg iter (Ti X.K m)
theorem Ti.go {K : PySem.W.Frag} {H : Hp} {q : Rh} {S S1 : Sto} {σ : L2.St} {G : Gm} {m : Gm → M Src} {gd : Src} {R : It → Hp → Prop} (g : Ag K H q S σ G) (e : m G S = some (gd, S1)) (h : ∀ J H1 q1, Stp H q H1 q1 → Ag K H1 q1 S1 σ G → ItOk K J H1 q1 gd → R J H1) : Ti K m σ H R :=
  ⟨G, q, S, g, gd, S1, e, fun J H' q' st so ok => h J H' q' st (g.mono st so) ok⟩
theorem XI.of {X : Cx} {tg iter : Expr} {m : Gm → M Src} {wi : TI} (h : PI X tg iter wi) (w : ∀ σ H (R : It → Hp → Prop) G q S gd S', Ag X.K H q S σ G → m G S = some (gd, S') → (∀ J H' q', Stp H q H' q' → SOk X.K H' q' S' → ItOk X.K J H' q' gd → R J H') → wi σ H R) : XI X tg iter m :=
  ⟨fun pins s σ H R I ⟨G, q, S, g, gd, S', e, k⟩ => h pins s σ H R I (w σ H R G q S gd S' g e k)⟩

open Classical in
noncomputable def forL (gd : Src) (g : D → Gm → Option Gm) (b : MS) : List D → MS
  | [] => fun G S => if Stays gd S then some (.nx, G, S) else none
  | d :: ds => fun G S => if Stays gd S then match g d G with
    | some G1 => match b G1 S with
      | some (.nx, G2, S2) => forL gd g b ds G2 S2
      | some (.ct, G2, S2) => forL gd g b ds G2 S2
      | some (.bk, G2, S2) => some (.nx, G2, S2)
      | some (.rt d, G2, S2) => some (.rt d, G2, S2)
      | none => none
    | none => none
    else none
noncomputable def sFor (mi : Gm → M Src) (g : D → Gm → Option Gm) (b : MS) : MS := fun G S => match mi G S with
  | some (gd, S1) => forL gd g b gd.2 G S1
  | none => none
theorem drop_step {α : Type} {l : List α} {i : Nat} {d : α} {ds : List α} (h : l.drop i = d :: ds) : l[i]? = some d ∧ l.drop (i + 1) = ds := by
  have h1 : l[i]? = some d := by
    have := List.getElem?_drop (xs := l) (i := i) (j := 0)
    rw [h] at this
    simpa using this.symm
  refine ⟨h1, ?_⟩
  rw [← List.drop_drop, h]
  rfl
section
variable {X : Cx} {pos : Pos}
theorem xs_for {tg iter : Expr} {body : List Stmt} {mi : Gm → M Src} {gl : TG} {g : D → Gm → Option Gm} {vs : List Nat} {mb : MS} (hp : PassesOwn (model X.prog X.w) X.A X.env X.xe) (hc : X.calm = true) (hi : XI X tg iter mi) (hg : PG X tg gl) (hgc : GC X.K gl g vs) (hb : XSs X body mb)
    (hs : ∀ x, foldedSetIterable iter X.env x = pure x := by intro _; rfl) : XS X (.For tg iter body [] pos) (sFor mi g mb) :=
  XS.of (ps_for hp hc hi.o hg hb.o hs) fun D σ H G q S f G' S' ag e k => by
    unfold sFor at e
    split at e
    · rename_i gd S1 e1
      refine Ti.go ag e1 fun J H1 q1 st1 g1 ok => ?_
      refine ⟨fun i m σ2 H2 => m = gd.2.length - i ∧ ∃ G2 q2 S2, Stp H1 q1 H2 q2 ∧ Ag X.K H2 q2 S2 σ2 G2 ∧ forL gd g mb (gd.2.drop i) G2 S2 = some (f, G', S'), ⟨gd.2.length, by simp, G, q1, S1, Stp.refl, g1, by simpa using e⟩, ?_⟩
      rintro i m σ2 H2 ⟨rfl, G2, q2, S2, st2, g2, e2⟩
      cases hd : gd.2.drop i with
      | nil =>
        rw [hd, forL] at e2
        dsimp only at e2
        split at e2
        · rename_i hst
          cases e2
          have hl : gd.2.length ≤ i := List.drop_eq_nil_iff.mp hd
          exact .inl ⟨(ok H2 q2 _ st2 g2.sok hst i).1 hl, k σ2 H2 q2 (st1.trans st2) g2⟩
        · cases e2
      | cons d ds =>
        rw [hd, forL] at e2
        dsimp only at e2
        split at e2
        · rename_i hst
          obtain ⟨h1, h2⟩ := drop_step hd
          have hlt : i < gd.2.length := (List.getElem?_eq_some_iff.mp h1).1
          obtain ⟨hgo, hy⟩ := (ok H2 q2 _ st2 g2.sok hst i).2 d h1
          refine .inr ⟨hgo, fun σ3 H3 => ∃ G3 q3 S3, Stp H1 q1 H3 q3 ∧ Ag X.K H3 q3 S3 σ3 G3 ∧ forL gd g mb ds G3 S3 = some (f, G', S'), fun σ3 H3 ⟨G3, q3, S3, st3, g3, e3⟩ => ⟨gd.2.length - (i + 1), by omega, rfl, G3, q3, S3, st3, g3, by rw [h2]; exact e3⟩, fun x H3 hyx => ?_⟩
          obtain ⟨st3, so3, rp3⟩ := hy x H3 hyx
          split at e2
          · rename_i G3 eg
            refine hgc x σ2 H3 _ d G2 q2 _ G3 (g2.mono st3 so3) rp3 eg fun σ4 _ g4 => ?_
            have stA := (st1.trans st2).trans st3
            split at e2
            · rename_i G5 S5 e5
              exact Ts.mk g4 e5 fun σ6 H6 q6 st6 g6 => ⟨G5, q6, S5, (st2.trans st3).trans st6, g6, e2⟩
            · rename_i G5 S5 e5
              exact Ts.mk g4 e5 fun σ6 H6 q6 st6 g6 => ⟨G5, q6, S5, (st2.trans st3).trans st6, g6, e2⟩
            · rename_i G5 S5 e5
              cases e2
              exact Ts.mk g4 e5 fun σ6 H6 q6 st6 g6 => k σ6 H6 q6 (stA.trans st6) g6
            · rename_i d5 G5 S5 e5
              cases e2
              exact Ts.mk g4 e5 fun v H6 q6 st6 so rp => k v H6 q6 (stA.trans st6) so rp
            · cases e2
          · cases e2
        · cases e2
    · cases e
end

/-! ### comprehensions -/
def tYesD : Gm → M Bool := fun _ => ret true
open Classical in
noncomputable def lcL (gd : Src) (n : Nat) (g : D → Gm → Option Gm) (tt : Gm → M Bool) (te : Gm → M D) (G : Gm) : List D → Sto → Option Sto
  | [] => fun S => if Stays gd S then some S else none
  | d :: ds => fun S => if Stays gd S then match g d G with
    | some G1 => match tt G1 S with
      | some (true, S2) => match te G1 S2 with
        | some (y, S3) => match S3[n]? with
          | some acc => if acc.length < sizeLine then lcL gd n g tt te G ds (S3.set n (acc ++ [y])) else none
          | none => none
        | none => none
      | some (false, S2) => lcL gd n g tt te G ds S2
      | none => none
    | none => none
    else none
noncomputable def vLc (mi : Gm → M Src) (g : D → Gm → Option Gm) (tt : Gm → M Bool) (te : Gm → M D) (vs : List Nat) : Gm → M D := fun G => bnd (mi G) fun gd S =>
  (lcL gd S.length g tt te (wipeG G vs) gd.2 (S ++ [[]])).map fun S' => (.ls S.length, S')
section
variable {X : Cx} {pos : Pos}
theorem lc_go {K : PySem.W.Frag} {mi : Gm → M Src} {gl : TG} {g : D → Gm → Option Gm} {ws vs : List Nat} {tt : Gm → M Bool} {te : Gm → M D} (hgc : GC K gl g ws) (hws : ∀ j ∈ ws, j ∈ vs) {σ : L2.St} {H : Hp} {Q : VK} {G : Gm} {q : Rh} {S S' : Sto} {d : D}
    (ag : Ag K H q S σ G) (e : vLc mi g tt te vs G S = some (d, S')) (k : ∀ v H' q', Stp H q H' q' → SOk K H' q' S' → Rep K H' q' v d → Q v H') : tLc (Ti K mi) gl (Tt K tt) (T K te) vs σ H Q := by
  obtain ⟨gd, S1, e1, e⟩ := bnd_some e
  obtain ⟨S2, e2, e3⟩ := map_some e
  cases e3
  refine Ti.go ag e1 fun J H1 q1 st1 g1 ok D hD => ?_
  have stD : Stp H1 q1 (upd H1 D (.lst [])) (q1 ++ [D]) := Stp.newL hD
  have soD : SOk K (upd H1 D (.lst [])) (q1 ++ [D]) (S1 ++ [[]]) := g1.sok.newL hD .nil
  have hlen : q1.length = S1.length := g1.sok.len
  refine ⟨fun i m H2 => m = gd.2.length - i ∧ ∃ q2 S2', Stp (upd H1 D (.lst [])) (q1 ++ [D]) H2 q2 ∧ SOk K H2 q2 S2' ∧ lcL gd S1.length g tt te (wipeG G vs) (gd.2.drop i) S2' = some S', ⟨gd.2.length, by simp, q1 ++ [D], S1 ++ [[]], Stp.refl, soD, by simpa using e2⟩, ?_⟩
  rintro i m H2 ⟨rfl, q2, S3, st2, so2, e4⟩
  have ix2 : IsL H2 q2 S1.length D := st2.ix (IsL.new g1.sok)
  cases hd : gd.2.drop i with
  | nil =>
    rw [hd, lcL] at e4
    dsimp only at e4
    split at e4
    · rename_i hst
      cases e4
      have hl : gd.2.length ≤ i := List.drop_eq_nil_iff.mp hd
      exact .inl ⟨(ok H2 q2 _ (stD.trans st2) so2 hst i).1 hl, k _ H2 q2 ((st1.trans stD).trans st2) so2 (.ls ix2)⟩
    · cases e4
  | cons d ds =>
    rw [hd, lcL] at e4
    dsimp only at e4
    split at e4
    · rename_i hst
      obtain ⟨h1, h2⟩ := drop_step hd
      have hlt : i < gd.2.length := (List.getElem?_eq_some_iff.mp h1).1
      obtain ⟨hgo, hy⟩ := (ok H2 q2 _ (stD.trans st2) so2 hst i).2 d h1
      refine .inr ⟨hgo, fun H3 => ∃ q3 S3, Stp (upd H1 D (.lst [])) (q1 ++ [D]) H3 q3 ∧ SOk K H3 q3 S3 ∧ lcL gd S1.length g tt te (wipeG G vs) ds S3 = some S', fun H3 ⟨q3, S3, st3, so3, e3⟩ => ⟨gd.2.length - (i + 1), by omega, rfl, q3, S3, st3, so3, by rw [h2]; exact e3⟩, fun x H3 hyx => ?_⟩
      obtain ⟨st3, so3, rp3⟩ := hy x H3 hyx
      have g3 : Ag K H3 q2 S3 (wipe σ vs) (wipeG G vs) := ((g1.mono stD soD).mono st2 so2 |>.mono st3 so3).wipe vs
      split at e4
      · rename_i G3 eg
        refine hgc x _ H3 _ d _ q2 _ G3 g3 rp3 eg fun σ4 hσ g4 => ⟨wipe_ext ?_ ?_, ?_⟩
        · rw [hσ.1, wipe_length]
        · intro j hj
          rw [hσ.2 j (fun z => hj (hws j z)), wipe_get, if_neg (fun z => hj z.1)]
        · split at e4
          · rename_i S4 e5
            refine Tt.go g4 e5 fun H5 q5 st5 g5 => ?_
            rw [if_pos rfl]
            split at e4
            · rename_i y S6 e6
              refine T.go g5 e6 fun v H6 q6 st6 g6 rp6 => ?_
              split at e4
              · rename_i acc hacc
                split at e4
                · rename_i hl
                  have ix6 : IsL H6 q6 S1.length D := st6.ix (st5.ix (st3.ix ix2))
                  obtain ⟨us, u1, u2⟩ := g6.sok.at_ _ _ _ ix6 hacc
                  refine ⟨us, u1, by rw [u2.length]; exact hl, q6, _, (((st2.trans st3).trans st5).trans st6).trans (Stp.wr ix6), g6.sok.wr ix6 (u2.append (.cons rp6 .nil)), e4⟩
                · cases e4
              · cases e4
            · cases e4
          · rename_i S4 e5
            refine Tt.go g4 e5 fun H5 q5 st5 g5 => ?_
            rw [if_neg Bool.false_ne_true]
            exact ⟨q5, _, (st2.trans st3).trans st5, g5.sok, e4⟩
          · cases e4
      · cases e4
    · cases e4
structure XTs (X : Cx) (ifs : List Expr) (m : Gm → M Bool) : Prop where
  o : PTs X ifs (Tt X.K m)
theorem xts_nil : XTs X [] tYesD := ⟨fun pins s σ H Q I ⟨G, q, S, g, b, S', e, k⟩ => pts_nil pins s σ H Q I (by cases e; exact k H q Stp.refl g.sok)⟩
theorem xe_lc {elt tg iter : Expr} {ifs : List Expr} {scope : Scope} {own : List (Str × Nat)} {mi : Gm → M Src} {gl : TG} {g : D → Gm → Option Gm} {ws : List Nat} {tt : Gm → M Bool} {te : Gm → M D} (hc : X.calm = true) (hN : X.N.Nodup) (hi : XI X tg iter mi) (ok : BlkOk X.N X.env.scope scope own) (hgc : GC X.K gl g ws) (hws : ∀ j ∈ ws, j ∈ own.map (·.2))
    (hg : ∀ (s : Shared) (H : Hp) (C : Addr) (cl : List (Str × Addr)) (fp : List Addr), PG (X.blk s H scope (compEnvC scope cl C X.env) fp) tg gl) (ht : ∀ (s : Shared) (H : Hp) (C : Addr) (cl : List (Str × Addr)) (fp : List Addr), XTs (X.blk s H scope (compEnvC scope cl C X.env) fp) ifs tt)
    (he : ∀ (s : Shared) (H : Hp) (C : Addr) (cl : List (Str × Addr)) (fp : List Addr), XE (X.blk s H scope (compEnvC scope cl C X.env) fp) elt te) (hs : ∀ x, foldedSetIterable iter X.env x = pure x := by intro _; rfl) :
    XE X (.ListComp elt [⟨tg, iter, ifs, 0⟩] scope pos) (vLc mi g tt te (own.map (·.2))) :=
  XE.of (pe_lc (tt := Tt X.K tt) (te := T X.K te) hc hN hi.o ok hg (fun s H C cl fp => (ht s H C cl fp).o) (fun s H C cl fp => (he s H C cl fp).o) hs) fun σ H Q G q S d S' g e k => lc_go hgc hws g e k
end
end PL

/-! PURE LAYER, part 5: what is walked; calls of defs; defs -/
namespace PL
open PySem PySem.Spec PyProof.Rows L2

section
variable {X : Cx} {K : PySem.W.Frag} {e : Expr} {me : Gm → M D} {tg : Expr} {pos : Pos}
theorem pi_or {iter : Expr} {wi wj : TI} (h : PI X tg iter wi) (h' : PI X tg iter wj) : PI X tg iter (fun σ H R => wi σ H R ∨ wj σ H R) := by
  intro pins s σ H R I q
  rcases q with q | q
  · exact h pins s σ H R I q
  · exact h' pins s σ H R I q
/-- a tuple, a list, itself -/
def seqI : D → M Src
  | .tup ds => ret (none, ds)
  | .ro ds => ret (none, ds)
  | .ls n => fun S => match S[n]? with
    | some ds => some ((some [(n, ds)], ds), S)
    | none => none
  | _ => stuck
theorem itl_ok {H0 : Hp} {q0 : Rh} {a : Addr} {gd : Src} (h : ∀ H q S, Stp H0 q0 H q → SOk K H q S → Stays gd S → ∃ us, SqL K H a us ∧ Reps K H q us gd.2) : ItOk K (Itl K a) H0 q0 gd := by
  intro H q S st so hst i
  obtain ⟨us, h1, h2⟩ := h H q S st so hst
  refine ⟨fun hl => ⟨us, h1, by rw [h2.length]; exact hl⟩, fun d hd => ?_⟩
  obtain ⟨v, e1, e2⟩ := h2.get hd
  refine ⟨⟨us, v, h1, e1⟩, fun x H' hy => ?_⟩
  obtain ⟨rfl, hy⟩ := hy
  have z := hy us h1
  rw [e1] at z
  cases z
  exact ⟨Stp.refl, so, e2⟩
theorem itt_ok {H0 : Hp} {q0 : Rh} {a : Addr} {gd : Src} (h : ∀ H q S, Stp H0 q0 H q → SOk K H q S → Stays gd S → ∃ us, SqT K H a us ∧ Reps K H q us gd.2) : ItOk K (Itt K a) H0 q0 gd := by
  intro H q S st so hst i
  obtain ⟨us, h1, h2⟩ := h H q S st so hst
  refine ⟨fun hl => ⟨us, h1, by rw [h2.length]; exact hl⟩, fun d hd => ?_⟩
  obtain ⟨v, e1, e2⟩ := h2.get hd
  refine ⟨⟨us, v, h1, e1⟩, fun x H' hy => ?_⟩
  obtain ⟨rfl, hy⟩ := hy
  have z := hy us h1
  rw [e1] at z
  cases z
  exact ⟨Stp.refl, so, e2⟩
theorem xi_seq (he : XE X e me) : XI X tg e (fun G => bnd (me G) seqI) :=
  XI.of (pi_or (pi_list he.o) (pi_tup he.o)) fun σ H R G q S gd S' g e k => by
    obtain ⟨x, S1, e1, e⟩ := bnd_some e
    unfold seqI at e
    split at e
    · cases e
      refine .inr (T.go g e1 fun v H1 q1 st1 g1 rp => ?_)
      cases rp with
      | tup h1 h2 => exact ⟨_, rfl, ⟨_, h1.sq⟩, k _ H1 q1 st1 g1.sok (itt_ok fun H q S st so _ => ⟨_, st.sqT g1.sok h1.sq, Reps.mono st g1.sok h2⟩)⟩
    · cases e
      refine .inl (T.go g e1 fun v H1 q1 st1 g1 rp => ?_)
      cases rp with
      | ro h1 h2 => exact ⟨_, rfl, ⟨_, h1.sq⟩, k _ H1 q1 st1 g1.sok (itl_ok fun H q S st so _ => ⟨_, (st.roL h1).sq, Reps.mono st g1.sok h2⟩)⟩
    · split at e
      · rename_i hx
        cases e
        refine .inl (T.go g e1 fun v H1 q1 st1 g1 rp => ?_)
        cases rp with
        | ls h =>
          obtain ⟨us, h1, h2⟩ := g1.sok.at_ _ _ _ h hx
          refine ⟨_, rfl, ⟨us, SqL.of h1⟩, k _ H1 q1 st1 g1.sok (itl_ok fun H q S st so hst => ?_)⟩
          obtain ⟨ws, h3, h4⟩ := so.at_ _ _ _ (st.ix h) (hst _ rfl (_, _) (List.mem_singleton.mpr rfl))
          exact ⟨ws, SqL.of h3, h4⟩
      · cases e
    · cases e
/-- range(n), range(a, b) -/
def rng (lo : Int) (n : Nat) : List D := (List.range n).map fun (i : Nat) => D.int (lo + (i : Int))
theorem rng_get {lo : Int} {n i : Nat} {d : D} (h : (rng lo n)[i]? = some d) : i < n ∧ d = .int (lo + i) := by
  unfold rng at h
  rw [List.getElem?_map] at h
  obtain ⟨j, h1, h2⟩ := map_some h
  obtain ⟨h3, h4⟩ := List.getElem?_eq_some_iff.mp h1
  rw [List.getElem_range] at h4
  subst h4
  exact ⟨by simpa using h3, h2.symm⟩
theorem itr_ok {H0 : Hp} {q0 : Rh} {lo : Int} {n : Nat} : ItOk K (Itr lo n) H0 q0 (none, rng lo n) := by
  intro H q S st so hst i
  refine ⟨fun hl => ?_, fun d hd => ?_⟩
  · have : (rng lo n).length = n := by simp [rng]
    show n ≤ i
    rw [← this]; exact hl
  · obtain ⟨h1, rfl⟩ := rng_get hd
    refine ⟨h1, fun x H' hy => ?_⟩
    obtain ⟨rfl, rfl⟩ := hy
    exact ⟨Stp.refl, so, .int _⟩
def rngD1 : List D → M Src
  | [.int j] => if -(2 ^ 62) ≤ j ∧ j < 2 ^ 62 then ret (none, rng 0 j.toNat) else stuck
  | _ => stuck
def rngD2 : List D → M Src
  | [.int i, .int j] => if -(2 ^ 62) ≤ i ∧ i < 2 ^ 62 ∧ -(2 ^ 62) ≤ j ∧ j < 2 ^ 62 then ret (none, rng i (j - i).toNat) else stuck
  | _ => stuck
theorem xi_range1 {a : Expr} {p : Pos} {ma : Gm → M (List D)} (hg : Gl X "range") (hm : X.mg "range" = none) (ha : XA X [a] ma) (hs : starEach [a] X.env = [(false, eval a X.env)] := by rfl) : XI X tg (.Call (.Name "range" p) [a] [] pos) (fun G => bnd (ma G) rngD1) :=
  XI.of (pi_range1 hg hm ha.o hs) fun σ H R G q S gd S' g e k => by
    obtain ⟨ds, S1, e1, e⟩ := bnd_some e
    refine Ta.go g e1 fun vs H1 q1 st1 g1 rp => ?_
    unfold rngD1 at e
    split at e
    · split at e
      · rename_i hc
        cases e
        obtain ⟨x, rfl, h⟩ := reps1 rp
        cases h
        exact ⟨_, rfl, hc.1, hc.2, k _ H1 q1 st1 g1.sok itr_ok⟩
      · cases e
    · cases e
end

/-! ### defs of the text -/
def spF (K : PySem.W.Frag) (n : Nat) (mf : List D → M D) : Sp := fun vs H Q _ => vs.length = n ∧ ∃ q S ds, SOk K H q S ∧ Reps K H q vs ds ∧ Af K H q (mf ds S) Q
structure PFn (P : Program) (w : World) (K : PySem.W.Frag) (mg : Str → Option Value) (base : Heap) (x : Str) (ps : List Str) (k : Nat) (mf : List D → M D) : Prop where
  ex : ∃ (f : Addr) (fd : FuncData), mg x = some (.ref f) ∧ PySem.W.keepIn K (.ref f) = true ∧ FnOk P w K mg base CX0 k f fd ps (spF K ps.length mf) ∧ (Binds K fd ps [] ∧ ∃ (oc : Value) (od : Option Addr) (osl : Array (Option Value)), K.lookup f = some ⟨oc, od, .func fd, osl⟩)
theorem PFn.mono {P : Program} {w : World} {K : PySem.W.Frag} {mg : Str → Option Value} {base : Heap} {x : Str} {ps : List Str} {j k : Nat} {mf : List D → M D} (F : PFn P w K mg base x ps j mf) (h : j ≤ k) : PFn P w K mg base x ps k mf := by
  obtain ⟨f, fd, h1, h2, h3, h4⟩ := F.ex
  exact ⟨f, fd, h1, h2, h3.mono h, h4⟩
/-- a weaker promise -/
theorem PFn.imp {P : Program} {w : World} {K : PySem.W.Frag} {mg : Str → Option Value} {base : Heap} {x : Str} {ps : List Str} {k : Nat} {mf mf' : List D → M D} (F : PFn P w K mg base x ps k mf) (h : ∀ ds S r, mf' ds S = some r → mf ds S = some r) : PFn P w K mg base x ps k mf' := by
  obtain ⟨f, fd, h1, h2, h3, h4⟩ := F.ex
  exact ⟨f, fd, h1, h2, h3.imp fun vs H Q E ⟨hl, q, S, ds, so, rp, d, S', e, kk⟩ => ⟨hl, q, S, ds, so, rp, d, S', h _ _ _ e, kk⟩, h4⟩
section
variable {X : Cx} {x : Str} {ps : List Str} {k : Nat} {mf : List D → M D} {e : Expr} {es : List Expr} {ms : Gm → M (List D)} {p pos : Pos}
theorem xe_call (F : PFn X.prog X.w X.K X.mg X.base x ps k mf) (hr : Room k X.A) (hg : Gl X x) (ha : XA X (e :: es) ms) (hl : (e :: es).length = ps.length := by rfl) (hdb : (x == ("__debug__" : Str)) = false := by decide)
    (he : starEach (e :: es) X.env = (false, eval e X.env) :: starEach es X.env := by rfl) (hpl : (backTo pos (starEach es X.env)).any (·.1) = false := by rfl)
    (hms : ∀ G S ds S', ms G S = some (ds, S') → ds.length = (e :: es).length) : XE X (.Call (.Name x p) (e :: es) [] pos) (vcall mf ms) := by
  obtain ⟨f, fd, h1, h2, h3, h4⟩ := F.ex
  refine XE.of (pe_call (E := E0) (dvs := []) (ds := []) h3 hr hg h1 h2 h4.1 .nil pass0 ha.o hdb he hpl) fun σ H Q G q S d S' g e' kk => ?_
  obtain ⟨ds, S1, e1, e2⟩ := bnd_some e'
  refine Ta.go g e1 fun vs H1 q1 st1 g1 rp => ?_
  show spF X.K ps.length mf (vs ++ []) H1 Q E0
  rw [List.append_nil]
  refine ⟨by rw [rp.length, hms _ _ _ _ e1, hl], q1, S1, ds, g1.sok, rp, d, S', e2, fun v H' q' st so r => kk v H' q' (st1.trans st) so r⟩
end
theorem len_nil : ∀ (G : Gm) (S : Sto) (ds : List D) (S' : Sto), aNil G S = some (ds, S') → ds.length = 0 := fun G S ds S' h => by cases h; rfl
theorem len_cons {m : Gm → M D} {ms : Gm → M (List D)} {n : Nat} (h : ∀ (G : Gm) (S : Sto) (ds : List D) (S' : Sto), ms G S = some (ds, S') → ds.length = n) : ∀ (G : Gm) (S : Sto) (ds : List D) (S' : Sto), aCons m ms G S = some (ds, S') → ds.length = n + 1 := fun G S ds S' e => by
  obtain ⟨d, S1, e1, e⟩ := bnd_some e
  obtain ⟨es, S2, e2, e⟩ := bnd_some e
  cases e
  rw [List.length_cons, h _ _ _ _ e2]
def startG (n : Nat) (ds : List D) : Gm := ds.map some ++ List.replicate (n - ds.length) none
def runB (n : Nat) (sm : MS) (ds : List D) : M D := fun S => match sm (startG n ds) S with
  | some (.rt d, _, S') => some (d, S')
  | some (.nx, _, S') => some (.non, S')
  | _ => none
theorem start_ag {K : PySem.W.Frag} {H : Hp} {q : Rh} {S : Sto} {vs : List V} {ds : List D} (N : List Str) (so : SOk K H q S) (rp : Reps K H q vs ds) : Ag K H q S (L2.start N vs) (startG N.length ds) := by
  refine ⟨so, ?_, fun i d h => ?_⟩
  · unfold L2.start startG
    simp [rp.length]
  · unfold startG at h
    by_cases hi : i < ds.length
    · rw [List.getElem?_append_left (by simpa using hi), List.getElem?_map] at h
      obtain ⟨d', h1, h2⟩ := map_some h
      cases h2
      obtain ⟨v, h3, h4⟩ := rp.get h1
      refine ⟨v, ?_, h4⟩
      unfold L2.start
      rw [List.getElem?_append_left (by simpa [rp.length] using hi), List.getElem?_map, h3]
      rfl
    · rw [List.getElem?_append_right (by simpa using hi), List.getElem?_replicate] at h
      split at h <;> cases h
theorem pfn_mk {P : Program} {w : World} {K : PySem.W.Frag} {mg : Str → Option Value} {base : Heap} {x qual : Str} {st : Stmt} {f : Addr} {fd : FuncData} {N ps : List Str} {k : Nat} {mf : List D → M D} {sm : MS} (F : Fun K x qual st f fd) (hm : mg x = some (.ref f)) (S : FnScope N ps (defScope st)) (bd : Binds K fd ps [])
    (hbody : ∀ (cdv : Value) (A : Around) (outer : List Env) (s : Shared) (H : Hp) (E : XK), Room k (A.deeper (envOfC qual (defScope st) s.heap.objs.size f cdv)) →
      XSs (cxOf CX0 P w K mg base N qual (defScope st) f cdv A outer s H E).nox (defBody st) sm)
    (hmf : ∀ ds S r, ds.length = ps.length → mf ds S = some r → runB N.length sm ds S = some r) : PFn P w K mg base x ps (k + 1) mf := by
  refine ⟨f, fd, hm, F.kp, F.ok S (fun vs H Q E h => h.1) fun cdv A outer s H vs Q E hr h => ?_, bd, let ⟨oc, od, _, _, _, _, _, _, osl, _, lk, _⟩ := F.ex; ⟨oc, od, osl, lk⟩⟩
  obtain ⟨hl, q, S0, ds, so, rp, d, S', e, kk⟩ := h
  refine ⟨_, (hbody cdv A outer s H E hr).o, ?_⟩
  have e2 := hmf ds S0 (d, S') (by rw [← rp.length]; exact hl) e
  unfold runB at e2
  split at e2
  · rename_i e3
    cases e2
    exact Ts.mk (start_ag N so rp) e3 fun v H' q' st so' r => kk v H' q' st so' r
  · rename_i e3
    cases e2
    exact Ts.mk (start_ag N so rp) e3 fun σ' H' q' st g => kk _ H' q' st g.sok .non
  · cases e2
end PL

/-! PURE LAYER, part 8: zip as a walk, the built-ins by name, isinstance -/
namespace PL
open PySem PySem.Spec PyProof.Rows L2

section
variable {X : Cx} {K : PySem.W.Frag} {pos : Pos}
def zipL2 : List D → List D → List D
  | x :: xs, y :: ys => .tup [x, y] :: zipL2 xs ys
  | _, _ => []
def zipL3 : List D → List D → List D → List D
  | x :: xs, y :: ys, z :: zs => .tup [x, y, z] :: zipL3 xs ys zs
  | _, _, _ => []
theorem zipL2_get : ∀ {xs ys : List D} {i : Nat} {d : D}, (zipL2 xs ys)[i]? = some d → ∃ x y, xs[i]? = some x ∧ ys[i]? = some y ∧ d = .tup [x, y]
  | [], _, _, _, h => by simp [zipL2] at h
  | _ :: _, [], _, _, h => by simp [zipL2] at h
  | x :: xs, y :: ys, 0, d, h => by simp [zipL2] at h; exact ⟨x, y, rfl, rfl, h.symm⟩
  | x :: xs, y :: ys, i + 1, d, h => by
    obtain ⟨a, b, h1, h2, h3⟩ := zipL2_get (xs := xs) (ys := ys) (i := i) (d := d) (by simpa [zipL2] using h)
    exact ⟨a, b, by simpa using h1, by simpa using h2, h3⟩
theorem zipL2_len : ∀ {xs ys : List D}, (zipL2 xs ys).length = min xs.length ys.length
  | [], _ => by simp [zipL2]
  | _ :: _, [] => by simp [zipL2]
  | x :: xs, y :: ys => by simp [zipL2, zipL2_len (xs := xs) (ys := ys)]
/-- two things that do not change: tuples, or lists that nobody changes -/
def roOf : D → Option (List D)
  | .tup ds => some ds
  | .ro ds => some ds
  | _ => none
/-- what is walked and which lists of the store must stand still for it -/
def zsrc (S : Sto) : D → Option (List (Nat × List D) × List D)
  | .tup ds => some ([], ds)
  | .ro ds => some ([], ds)
  | .ls n => match S[n]? with
    | some ds => some ([(n, ds)], ds)
    | none => none
  | _ => none
def zip2G (x y : D) : M Src := fun S => match zsrc S x, zsrc S y with
  | some (l, xs), some (m, ys) => some ((some (l ++ m), zipL2 xs ys), S)
  | _, _ => none
def zip3G (x y z : D) : M Src := fun S => match zsrc S x, zsrc S y, zsrc S z with
  | some (l, xs), some (m, ys), some (k, zs) => some ((some (l ++ m ++ k), zipL3 xs ys zs), S)
  | _, _, _ => none
def zip2D : List D → M Src
  | [x, y] => match roOf x, roOf y with
    | some xs, some ys => ret (none, zipL2 xs ys)
    | _, _ => zip2G x y
  | _ => stuck
def zip3D : List D → M Src
  | [x, y, z] => match roOf x, roOf y, roOf z with
    | some xs, some ys, some zs => ret (none, zipL3 xs ys zs)
    | _, _, _ => zip3G x y z
  | _ => stuck
def Z2ok (x y : D) (S S' : Sto) (gd : Src) : Prop := S' = S ∧ ∃ l m xs ys, zsrc S x = some (l, xs) ∧ zsrc S y = some (m, ys) ∧ gd.2 = zipL2 xs ys ∧ (∀ S2, Stays gd S2 → ∀ p ∈ l ++ m, S2[p.1]? = some p.2)
def Z3ok (x y z : D) (S S' : Sto) (gd : Src) : Prop := S' = S ∧ ∃ l m k xs ys zs, zsrc S x = some (l, xs) ∧ zsrc S y = some (m, ys) ∧ zsrc S z = some (k, zs) ∧ gd.2 = zipL3 xs ys zs ∧ (∀ S2, Stays gd S2 → ∀ p ∈ l ++ m ++ k, S2[p.1]? = some p.2)
end

/-! ### the built-ins' names are not the text's -/
structure BI (mg : Str → Option Value) : Prop where
  abs : mg "abs" = none
  len : mg "len" = none
  range : mg "range" = none
  zip : mg "zip" = none
  tuple : mg "tuple" = none
  list : mg "list" = none
  min : mg "min" = none
  max : mg "max" = none
  sum : mg "sum" = none
  int : mg "int" = none
  bool : mg "bool" = none
  str : mg "str" = none
  isinstance : mg "isinstance" = none
section
variable {X : Cx} {pos p : Pos} {a b : Expr} {ms : Gm → M (List D)}
theorem bt_len : bootBuiltins "len" = some (.builtin "len") := by kernel_rfl
theorem bt_min : bootBuiltins "min" = some (.builtin "min") := by kernel_rfl
theorem bt_max : bootBuiltins "max" = some (.builtin "max") := by kernel_rfl
theorem bt_isi : bootBuiltins "isinstance" = some (.builtin "isinstance") := by kernel_rfl
theorem bt_int : bootBuiltins "int" = some (.type "int") := by kernel_rfl
theorem bt_bool : bootBuiltins "bool" = some (.type "bool") := by kernel_rfl
theorem xe_len (B : BI X.mg) (ha : XA X [a] ms) (hg : Gl X "len" := by rfl) (he : starEach [a] X.env = (false, eval a X.env) :: starEach [] X.env := by rfl) : XE X (.Call (.Name "len" p) [a] [] pos) (vcall lenD ms) := xe_callB call_len cd_len hg B.len bt_len ha (by decide) (by decide) he rfl
theorem xe_max2 (B : BI X.mg) (hc : X.calm = true) (ha : XA X [a, b] ms) (hg : Gl X "max" := by rfl) (he : starEach [a, b] X.env = (false, eval a X.env) :: starEach [b] X.env := by rfl) (hpl : (backTo pos (starEach [b] X.env)).any (·.1) = false := by rfl) : XE X (.Call (.Name "max" p) [a, b] [] pos) (vcall maxD ms) := xe_callB (call_max2 hc) cd_max hg B.max bt_max ha (by decide) (by decide) he hpl
theorem xe_min2 (B : BI X.mg) (hc : X.calm = true) (ha : XA X [a, b] ms) (hg : Gl X "min" := by rfl) (he : starEach [a, b] X.env = (false, eval a X.env) :: starEach [b] X.env := by rfl) (hpl : (backTo pos (starEach [b] X.env)).any (·.1) = false := by rfl) : XE X (.Call (.Name "min" p) [a, b] [] pos) (vcall minD ms) := xe_callB (call_min2 hc) cd_min hg B.min bt_min ha (by decide) (by decide) he hpl
theorem xe_int1 (B : BI X.mg) (ha : XA X [a] ms) (hg : Gl X "int" := by rfl) (he : starEach [a] X.env = (false, eval a X.env) :: starEach [] X.env := by rfl) : XE X (.Call (.Name "int" p) [a] [] pos) (vcall intD ms) := xe_callT call_int1 cd_int hg B.int bt_int ha (by decide) (by decide) he rfl
end

/-! ### isinstance(x, T), T a built-in -/
def tyName : D → Option String
  | .non => some "NoneType"
  | .bl _ => some "bool"
  | .int _ => some "int"
  | .str _ => some "str"
  | .tup _ => some "tuple"
  | .ls _ => some "list"
  | .ro _ => some "list"
  | .ty _ => none
  | .cls _ => none
  | .exc _ => none
  | .dc _ _ => none
/-- of these types the answer is by the name, but that bool is under int -/
def isiA (t n : String) : Option Bool := if n ∈ ["int", "bool", "str", "tuple", "list"] then some (t == n || (t == "bool" && n == "int")) else none
def isiD : List D → M D
  | [x, .ty n] => fun S => match tyName x with
    | some t => (isiA t n).map fun b => (.bl b, S)
    | none => none
  | _ => stuck
theorem isi_kit {K : PySem.W.Frag} {t n : String} {b : Bool} (ht : t = "NoneType" ∨ t = "bool" ∨ t = "int" ∨ t = "str" ∨ t = "tuple" ∨ t = "list") (h : isiA t n = some b) : PySem.W.kitOne K (.type t) (.type n) = some b := by
  unfold isiA at h
  split at h
  · rename_i hn
    have hn' : n = "int" ∨ n = "bool" ∨ n = "str" ∨ n = "tuple" ∨ n = "list" := by simpa using hn
    rcases ht with rfl | rfl | rfl | rfl | rfl | rfl <;> rcases hn' with rfl | rfl | rfl | rfl | rfl <;> (simp at h; subst h; with_unfolding_all rfl)
  · cases h
theorem tyName_in {d : D} {t : String} (h : tyName d = some t) : t = "NoneType" ∨ t = "bool" ∨ t = "int" ∨ t = "str" ∨ t = "tuple" ∨ t = "list" := by
  cases d <;> simp [tyName] at h <;> subst h <;> simp
section
variable {X : Cx} {pos p : Pos} {a b : Expr} {ms : Gm → M (List D)}
def rIsi (K : PySem.W.Frag) : List V → Hp → VK → Prop := fun xs H Q => ∃ x n q S d t b, xs = [x, .ty n] ∧ SOk K H q S ∧ Rep K H q x d ∧ tyName d = some t ∧ isiA t n = some b ∧ Q (.bl b) H
theorem call_isi : CallR X (.builtin "isinstance") (rIsi X.K) := by
  intro pins s σ H xs us Q I r h
  obtain ⟨x, n, q, S, d, t, b, rfl, so, rp, ht, hb, hq⟩ := h
  obtain ⟨u, u2, rfl, rx, rn⟩ := Vals.two r
  cases (show u2 = Value.type n from rn)
  have e := isi_kit (K := X.K) (tyName_in ht) hb
  have fin : ∀ tk, EP X pins σ Q (.bool b) { s with toks := tk } := fun tk => ⟨.bl b, H, I.tok _, rfl, hq⟩
  cases rp with
  | non => cases ht; cases (show u = Value.none from rx); exact PySem.W.kia_one PySem.W.kitx_none I.kIn True.intro e (fun z => nomatch z) fin
  | bl y => cases ht; cases (show u = Value.bool y from rx); exact PySem.W.kia_one PySem.W.kitx_bool I.kIn True.intro e (fun z => nomatch z) fin
  | int i => cases ht; obtain ⟨t, q⟩ := (show ∃ t, u = Value.int i t from rx); cases q; exact PySem.W.kia_one PySem.W.kitx_int I.kIn True.intro e (fun z => nomatch z) fin
  | str y => cases ht; obtain ⟨t, q⟩ := (show ∃ t, u = Value.str y t from rx); cases q; exact PySem.W.kia_one PySem.W.kitx_str I.kIn True.intro e (fun z => nomatch z) fin
  | @tup a ys ds h1 h2 =>
    cases ht
    cases (show u = Value.ref a from rx)
    obtain ⟨its, _, ⟨o, g1, g2, _⟩, _⟩ := I.tuple h1.sq
    exact PySem.W.kia_one PySem.W.kitx_tuple I.kIn ⟨o, g1, g2⟩ e (fun z => nomatch z) fin
  | @ls a m hm =>
    cases ht
    cases (show u = Value.ref a from rx)
    obtain ⟨ys, hy⟩ := kd_is hm.kd
    obtain ⟨its, _, ⟨o, k, g1, g2, _⟩, _⟩ := I.list (SqL.of (K := X.K) hy)
    exact PySem.W.kia_one PySem.W.kitx_list I.kIn ⟨o, g1, g2⟩ e (fun z => nomatch z) fin
  | @ro a ys ds h1 h2 =>
    cases ht
    cases (show u = Value.ref a from rx)
    obtain ⟨its, _, ⟨o, k, g1, g2, _⟩, _⟩ := I.list h1.sq
    exact PySem.W.kia_one PySem.W.kitx_list I.kIn ⟨o, g1, g2⟩ e (fun z => nomatch z) fin
  | ty m => cases ht
  | cls _ => cases ht
  | exc _ _ _ => cases ht
  | dc _ => cases ht
theorem cd_isi {K : PySem.W.Frag} : CaD K (rIsi K) isiD := by
  intro H q S xs ds d S' Q s rx e k
  unfold isiD at e
  split at e
  · obtain ⟨x, y, rfl, h, h'⟩ := reps2 rx
    cases h'
    split at e
    · rename_i t ht
      obtain ⟨b, e1, e2⟩ := map_some e
      cases e2
      exact ⟨_, _, q, S, _, _, _, rfl, s, h, ht, e1, k _ H q Stp.refl s (.bl _)⟩
    · cases e
  · cases e
theorem xe_isi (B : BI X.mg) (ha : XA X [a, b] ms) (hg : Gl X "isinstance" := by rfl) (he : starEach [a, b] X.env = (false, eval a X.env) :: starEach [b] X.env := by rfl) (hpl : (backTo pos (starEach [b] X.env)).any (·.1) = false := by rfl) : XE X (.Call (.Name "isinstance" p) [a, b] [] pos) (vcall isiD ms) := xe_callB call_isi cd_isi hg B.isinstance bt_isi ha (by decide) (by decide) he hpl
theorem xe_tyInt (B : BI X.mg) (hg : Gl X "int" := by rfl) : XE X (.Name "int" pos) (fun _ => ret (.ty "int")) := xe_ty hg B.int bt_int
theorem xe_tyBool (B : BI X.mg) (hg : Gl X "bool" := by rfl) : XE X (.Name "bool" pos) (fun _ => ret (.ty "bool")) := xe_ty hg B.bool bt_bool
end
end PL

/-! PURE LAYER, part 9: short names for the generated meanings; max and min of a list -/
namespace PL
open PySem PySem.Spec PyProof.Rows L2
def cI (i : Int) : Gm → M D := fun _ => ret (.int i)
def cS (x : Str) : Gm → M D := fun _ => ret (.str x)
def cB (b : Bool) : Gm → M D := fun _ => ret (.bl b)
def cT (n : String) : Gm → M D := fun _ => ret (.ty n)
def cN : Gm → M D := fun _ => ret .non
def vneg (m : Gm → M D) : Gm → M D := fun G => bnd (m G) negD
def vtup (ms : Gm → M (List D)) : Gm → M D := fun G => bnd (ms G) mkTup
def vlst (ms : Gm → M (List D)) : Gm → M D := fun G => bnd (ms G) alloc
def iS (m : Gm → M D) : Gm → M Src := fun G => bnd (m G) seqI
def iR1 (m : Gm → M (List D)) : Gm → M Src := fun G => bnd (m G) rngD1
def iR2 (m : Gm → M (List D)) : Gm → M Src := fun G => bnd (m G) rngD2
def jZ2 (m : Gm → M (List D)) : Gm → M Src := fun G => bnd (m G) zip2D
def jZ3 (m : Gm → M (List D)) : Gm → M Src := fun G => bnd (m G) zip3D
def sRetN : MS := fun G S => some (.rt .non, G, S)
def sBrk : MS := fun G S => some (.bk, G, S)
def sCnt : MS := fun G S => some (.ct, G, S)
abbrev iAdd : Int → Int → Int := fun i j => i + j
abbrev iSub : Int → Int → Int := fun i j => i - j

def maxI : List Int → Option Int
  | [] => none
  | n :: ns => some (ns.foldl max n)
def minI : List Int → Option Int
  | [] => none
  | n :: ns => some (ns.foldl min n)
/-- the ints of a list -/
def lsInts : List D → Sto → Option (List Int)
  | [.ro ds], _ => dints ds
  | [.ls n], S => match S[n]? with
    | some ds => dints ds
    | none => none
  | _, _ => none
def max1D (ds : List D) : M D := fun S => ((lsInts ds S).bind maxI).map fun m => (.int m, S)
def min1D (ds : List D) : M D := fun S => ((lsInts ds S).bind minI).map fun m => (.int m, S)
section
variable {X : Cx} {pos p : Pos} {a : Expr} {ms : Gm → M (List D)}
end
/-! ### slices, the whole tuple too (it is itself) -/
section
variable {prog : Program} {w : World} {A : Around} {E : Value → Shared → Prop} {s : Shared}
theorem getItem_tuple_whole {t sl : Addr} {items : Array Value} {vl vu : Value} {lo hi : Option Int} {Q : Value → Shared → Prop} (ht : IsTup s.heap t items) (hs : s.heap.IsSliceOf sl vl vu .none) (pl : IsPart vl lo) (pu : IsPart vu hi)
    (hw : HT.sIx items.size 0 lo = 0 ∧ HT.sIx items.size items.size hi = items.size) (h : Q (.ref t) s) : wpAny (model prog w) A (getItem (.ref t) (.ref sl)) Q E s := by
  obtain ⟨os, hos, hcs, hds⟩ := id hs
  have hTs : s.TypeIs (.ref sl) "slice" := ⟨os, hos, hcs⟩
  unfold getItem
  try with_reducible refine wpAny_holding ?_
  first | refine wpAny_bind (wpAny_pure ?_) | skip
  refine wpAny_bind (wpAny_sequenceKey ht.typeIs (by decide) ?_)
  refine wpAny_bind (wpAny_callSpecial?_slot (name := Str.ofString "__getitem__") ht.typeIs PyProof.Rows.slot_tuple_getitem
    (wpAny_call_entry PyProof.Rows.slot_tuple_getitem ht.typeIs entry_tuple_getitem ?_ (args_tuple_getitem _ _)))
  show wpAny _ _ (Builtin.Tuple.tupleItemsOf (.ref t) >>= _) _ _ s
  refine wpAny_bind (tupleItemsOf_ ht ?_)
  refine wpAny_bind (wpAny_typeOf hTs ?_)
  rw [if_pos (by decide)]
  refine wpAny_bind (HT.sliceApplied_gen hs pl pu ?_)
  have hyes : (((HT.sIx items.size 0 lo : Nat) : Int) == 0 && (1 : Int) == 1 && (HT.sIx items.size items.size hi - HT.sIx items.size 0 lo) == items.size) = true := by
    rw [hw.1, hw.2]
    simp
  show wpAny _ _ (if (((HT.sIx items.size 0 lo : Nat) : Int) == 0 && (1 : Int) == 1 && (HT.sIx items.size items.size hi - HT.sIx items.size 0 lo) == items.size) = true then _ else _) _ _ s
  rw [if_pos hyes]
  refine wpAny_bind ?_
  unfold Builtin.Tuple.tupleIsExact
  refine wpAny_bind (wpAny_typeOf ht.typeIs (wpAny_pure ?_))
  rw [if_pos (by decide)]
  exact wpAny_bind (wpAny_rule (wpAny_pure ⟨_, rfl, wpAny_pure h⟩))
end
section
variable {X : Cx} {K : PySem.W.Frag} {a : Expr} {ma : Gm → M D} {pos : Pos}
def rSlW (K : PySem.W.Frag) : V → Option Int → Option Int → Hp → VK → Prop := fun x lo hi H Q => ∃ a xs, x = .ref a ∧ SqT K H a xs ∧ (HT.sIx xs.length 0 lo = 0 ∧ HT.sIx xs.length xs.length hi = xs.length) ∧ Q (.ref a) H
theorem sl_whole : SlR X (rSlW X.K) := by
  intro pins s σ H x v vl vu lo hi sl Q I rx hs pl pu h
  obtain ⟨a, xs, rfl, hx, hw, q⟩ := h
  cases rx
  obtain ⟨its, r, ht, hz⟩ := I.tuple hx
  have hlen : its.toArray.size = xs.length := by rw [List.size_toArray]; exact r.length.symm
  refine ⟨"tuple", _, PyProof.Rows.slot_tuple_getitem.lookup, ht.typeIs, ?_⟩
  exact getItem_tuple_whole ht hs pl pu (by rw [hlen]; exact hw) ⟨.ref a, H, I, rfl, q⟩
def slE (x : D) (lo hi : Option Int) : M D := match x with
  | .tup ds => PL.ret (.tup (cut ds lo hi))
  | x => slD x lo hi
theorem slE_ok {H : Hp} {q : Rh} {S S' : Sto} {x : V} {dx d : D} {lo hi : Option Int} {Q : VK} (s : SOk K H q S) (rx : Rep K H q x dx) (e : slE dx lo hi S = some (d, S')) (k : ∀ v H' q', Stp H q H' q' → SOk K H' q' S' → Rep K H' q' v d → Q v H') : rSlW K x lo hi H Q ∨ rSlG K x lo hi H Q := by
  cases rx with
  | @tup a xs ds h1 h2 =>
    by_cases hw : HT.sIx ds.length 0 lo = 0 ∧ HT.sIx ds.length ds.length hi = ds.length
    · have ec : cut ds lo hi = ds := by unfold cut; rw [hw.1, hw.2]; simp
      have e' : some (D.tup (cut ds lo hi), S) = some (d, S') := e
      rw [ec] at e'
      cases e'
      exact .inl ⟨a, xs, rfl, h1.sq, by rw [h2.length]; exact hw, k _ H q Stp.refl s (.tup h1 h2)⟩
    · refine .inr (slD_ok (dx := .tup ds) s (.tup h1 h2) (S' := S') (d := d) ?_ k)
      unfold slD
      dsimp only
      rw [if_neg hw]
      exact e
  | non => exact .inr (slD_ok s .non e k)
  | bl b => exact .inr (slD_ok s (.bl b) e k)
  | int b => exact .inr (slD_ok s (.int b) e k)
  | str b => exact .inr (slD_ok s (.str b) e k)
  | ls h => exact .inr (slD_ok s (.ls h) e k)
  | ro h1 h2 => exact .inr (slD_ok s (.ro h1 h2) e k)
  | ty b => exact .inr (slD_ok s (.ty b) e k)
  | cls b => exact .inr (slD_ok s (.cls b) e k)
  | exc a b c => exact .inr (slD_ok s (.exc a b c) e k)
  | dc h => exact .inr (slD_ok s (.dc h) e k)
def wslice (m : Gm → M D) (ml mh : Gm → M (Option Int)) : Gm → M D := fun G => bnd (m G) fun x => bnd (ml G) fun lo => bnd (mh G) fun hi => slE x lo hi
theorem xe_slw {lo hi : Option Expr} {ml mh : Gm → M (Option Int)} {p2 : Pos} (ha : XE X a ma) (hl : XO X lo ml) (hh : XO X hi mh) : XE X (.Subscript a (.Slice lo hi none p2) pos) (wslice ma ml mh) :=
  XE.of (pe_slice (sl_whole.or (sl_tup.or (sl_list.or sl_str))) ha.o hl.o hh.o) fun σ H Q G q S d S' g e k => by
    obtain ⟨x, S1, e1, e⟩ := bnd_some e
    obtain ⟨l, S2, e2, e⟩ := bnd_some e
    obtain ⟨h, S3, e3, e⟩ := bnd_some e
    refine T.go g e1 fun v H1 q1 st1 g1 rp1 => To.go g1 e2 fun H2 q2 st2 g2 => To.go g2 e3 fun H3 q3 st3 g3 => ?_
    exact slE_ok g3.sok (Rep.mono st3 g2.sok (Rep.mono st2 g1.sok rp1)) e fun w H' q' st so rp => k w H' q' (((st1.trans st2).trans st3).trans st) so rp
end
/-! ### an argument that is no starred one -/
section
variable {r : List Expr} {env : Env} {p : Pos}
theorem any_nil {pos : Pos} : (backTo pos (starEach [] env)).any (·.1) = false := rfl
theorem any_cons {pos : Pos} {e : Expr} {es : List Expr} (h : starEach (e :: es) env = (false, eval e env) :: starEach es env) (h2 : (backTo pos (starEach es env)).any (·.1) = false) : (backTo pos (starEach (e :: es) env)).any (·.1) = false := by
  rw [h]
  exact h2
end
/-- no starred argument -/
def NS (e : Expr) : Prop := ∀ (env : Env) (r : List Expr), starEach (e :: r) env = (false, eval e env) :: starEach r env
def NSL : List Expr → Prop
  | [] => True
  | e :: es => NS e ∧ NSL es
section
variable {p : Pos}
theorem ns_BinOp {a b : Expr} {op : Operator} : NS (.BinOp a op b p) := fun _ _ => rfl
theorem ns_Compare {a : Expr} {ops : List CmpOp} {bs : List Expr} : NS (.Compare a ops bs p) := fun _ _ => rfl
theorem ns_Call {a : Expr} {es : List Expr} {ks : List Keyword} : NS (.Call a es ks p) := fun _ _ => rfl
theorem ns_Constant {c : Const} {k : Nat} : NS (.Constant c k p) := fun _ _ => rfl
theorem ns_Subscript {a b : Expr} : NS (.Subscript a b p) := fun _ _ => rfl
theorem ns_Name {x : Str} : NS (.Name x p) := fun _ _ => rfl
end
theorem NSL.any {pos : Pos} {env : Env} : ∀ {es : List Expr}, NSL es → (backTo pos (starEach es env)).any (·.1) = false
  | [], _ => any_nil
  | _ :: _, h => any_cons (h.1 _ _) (NSL.any h.2)
section
variable {X : Cx} {x : Str} {ps : List Str} {k : Nat} {mf : List D → M D} {e a b : Expr} {es : List Expr} {m : Gm → M D} {ms : Gm → M (List D)} {p pos : Pos}
theorem xb_cons (hn : NS e) (h1 : XE X e m) (h2 : XA X es ms) : XA X (e :: es) (aCons m ms) := xa_cons h1 h2 (hn _ _)
theorem xf_call (F : PFn X.prog X.w X.K X.mg X.base x ps k mf) (hr : Room k X.A) (hg : Gl X x) (hn : NSL (e :: es)) (ha : XA X (e :: es) ms) (hms : ∀ G S ds S', ms G S = some (ds, S') → ds.length = (e :: es).length) (hl : (e :: es).length = ps.length := by rfl) (hdb : (x == ("__debug__" : Str)) = false := by decide) : XE X (.Call (.Name x p) (e :: es) [] pos) (vcall mf ms) :=
  xe_call F hr hg ha hl hdb (hn.1 _ _) (NSL.any hn.2) hms
theorem xf_len (B : BI X.mg) (hn : NS a) (ha : XA X [a] ms) (hg : Gl X "len" := by rfl) : XE X (.Call (.Name "len" p) [a] [] pos) (vcall lenD ms) := xe_len B ha hg (hn _ _)
theorem xf_int (B : BI X.mg) (hn : NS a) (ha : XA X [a] ms) (hg : Gl X "int" := by rfl) : XE X (.Call (.Name "int" p) [a] [] pos) (vcall intD ms) := xe_int1 B ha hg (hn _ _)
theorem xf_max2 (B : BI X.mg) (hn : NSL [a, b]) (hc : X.calm = true) (ha : XA X [a, b] ms) (hg : Gl X "max" := by rfl) : XE X (.Call (.Name "max" p) [a, b] [] pos) (vcall maxD ms) := xe_max2 B hc ha hg (hn.1 _ _) (NSL.any hn.2)
theorem xf_min2 (B : BI X.mg) (hn : NSL [a, b]) (hc : X.calm = true) (ha : XA X [a, b] ms) (hg : Gl X "min" := by rfl) : XE X (.Call (.Name "min" p) [a, b] [] pos) (vcall minD ms) := xe_min2 B hc ha hg (hn.1 _ _) (NSL.any hn.2)
theorem xf_isi (B : BI X.mg) (hn : NSL [a, b]) (ha : XA X [a, b] ms) (hg : Gl X "isinstance" := by rfl) : XE X (.Call (.Name "isinstance" p) [a, b] [] pos) (vcall isiD ms) := xe_isi B ha hg (hn.1 _ _) (NSL.any hn.2)
end
/-! ### the rules, each meaning with a head of its own -/
section
variable {X : Cx} {a tg : Expr} {es : List Expr} {ma : Gm → M D} {ms : Gm → M (List D)} {pos p : Pos}
theorem y_int {i : Int} {j} : XE X (.Constant (.int i) j pos) (cI i) := xe_int
theorem y_bl {b : Bool} {j} : XE X (.Constant (.bool b) j pos) (cB b) := xe_bl
theorem y_str {x : Str} {j} : XE X (.Constant (.str x) j pos) (cS x) := xe_str
theorem y_gstr {x : Str} {y : Str} {t : Tok} (hg : Gl X x) (hm : X.mg x = some (.str y t)) (hd : (x == ("__debug__" : Str)) = false := by decide) : XE X (.Name x pos) (cS y) := xe_gstr hg hm hd
theorem y_tyInt (B : BI X.mg) (hg : Gl X "int" := by rfl) : XE X (.Name "int" pos) (cT "int") := xe_tyInt B hg
theorem y_tyBool (B : BI X.mg) (hg : Gl X "bool" := by rfl) : XE X (.Name "bool" pos) (cT "bool") := xe_tyBool B hg
theorem y_neg (ha : XE X a ma) : XE X (.UnaryOp .USub a pos) (vneg ma) := xe_neg ha
theorem y_lst (h : XA X es ms) : XE X (.List es pos) (vlst ms) := xe_lst h
theorem y_seq (he : XE X a ma) : XI X tg a (iS ma) := xi_seq he
theorem y_range1 (hg : Gl X "range") (hm : X.mg "range" = none) (hn : NS a) (ha : XA X [a] ms) : XI X tg (.Call (.Name "range" p) [a] [] pos) (iR1 ms) := xi_range1 hg hm ha (hn _ _)
end
end PL

namespace BS
open PySem PySem.Spec PyProof.Rows L2 PL
noncomputable def b_common_divisor : MS :=
 (sSeq (sPar 0 1 (aCons (vcall absD (aCons (getv 0) aNil)) (aCons (vcall absD (aCons (getv 1) aNil)) aNil)))
 (sSeq (sWhile (tru2 (getv 1))
 (sPar 0 1 (aCons (getv 1) (aCons (b2 modD (getv 0) (getv 1)) aNil))))
 (sRet (getv 0))))
noncomputable def f_common_divisor : List D → M D := runB 2 b_common_divisor

noncomputable def b_fraction : MS :=
 (sSeq (sAsg (vcall f_common_divisor (aCons (getv 0) (aCons (getv 1) aNil))) (tN 2))
 (sSeq (sIf (tst (b2 ltD (getv 1) (cI 0)))
 (sAsg (vneg (getv 2)) (tN 2))
 sNext)
 (sRet (vtup (aCons (b2 fdivD (getv 0) (getv 2)) (aCons (b2 fdivD (getv 1) (getv 2)) aNil))))))
noncomputable def f_fraction : List D → M D := runB 3 b_fraction

noncomputable def b_minus : MS :=
 (sRet (vcall f_fraction (aCons (b2 subD (b2 mulD (b2 ixD (getv 0) (cI 0)) (b2 ixD (getv 1) (cI 1))) (b2 mulD (b2 ixD (getv 1) (cI 0)) (b2 ixD (getv 0) (cI 1)))) (aCons (b2 mulD (b2 ixD (getv 0) (cI 1)) (b2 ixD (getv 1) (cI 1))) aNil))))
noncomputable def f_minus : List D → M D := runB 2 b_minus

noncomputable def b_over : MS :=
 (sRet (vcall f_fraction (aCons (b2 mulD (b2 ixD (getv 0) (cI 0)) (b2 ixD (getv 1) (cI 1))) (aCons (b2 mulD (b2 ixD (getv 0) (cI 1)) (b2 ixD (getv 1) (cI 0))) aNil))))
noncomputable def f_over : List D → M D := runB 2 b_over

noncomputable def b_slope_between : MS :=
 (sRet (vcall f_over (aCons (vcall f_minus (aCons (b2 ixD (getv 1) (cI 1)) (aCons (b2 ixD (getv 0) (cI 1)) aNil))) (aCons (vcall f_minus (aCons (b2 ixD (getv 1) (cI 0)) (aCons (b2 ixD (getv 0) (cI 0)) aNil))) aNil))))
noncomputable def f_slope_between : List D → M D := runB 2 b_slope_between

noncomputable def b_least_knots : MS :=
 (sSeq (sAsg (vlst (aCons (b2 ixD (getv 0) (cI 0)) aNil)) (tN 1))
 (sSeq (sFor (jZ3 (aCons (getv 0) (aCons (wslice (getv 0) (pIs (cI 1)) pNo) (aCons (wslice (getv 0) (pIs (cI 2)) pNo) aNil)))) (tT 3 (PL.tCons (tN 2) (PL.tCons (tN 3) (PL.tCons (tN 4) PL.tNil))))
 (sIf (tst (b2 neD (vcall f_slope_between (aCons (getv 2) (aCons (getv 3) aNil))) (vcall f_slope_between (aCons (getv 3) (aCons (getv 4) aNil)))))
 (sDo (vmeth appD (getv 1) (aCons (getv 3) aNil)))
 sNext))
 (sSeq (sDo (vmeth appD (getv 1) (aCons (b2 ixD (getv 0) (vneg (cI 1))) aNil)))
 (sRet (vcall tupleD (aCons (getv 1) aNil))))))
noncomputable def f_least_knots : List D → M D := runB 5 b_least_knots

noncomputable def b__law_mix : MS :=
 (sSeq (sAsg (b2 addD (b2 modD (getv 0) (cI 2147483629)) (b2 mulD (b2 mulD (cI 1000003) (getv 1)) (getv 1))) (tN 2))
 (sSeq (sAsg (b2 modD (b2 addD (getv 2) (b2 mulD (cI 7919) (getv 1))) (cI 2147483629)) (tN 2))
 (sSeq (sAsg (b2 modD (b2 mulD (getv 2) (getv 2)) (cI 2147483587)) (tN 2))
 (sRet (b2 fdivD (b2 modD (b2 mulD (getv 2) (b2 addD (getv 2) (cI 40961))) (cI 2147483563)) (cI 4))))))
noncomputable def f__law_mix : List D → M D := runB 3 b__law_mix

noncomputable def b__law_deck : MS :=
 (sRet (vlst (aCons (wslice (getv 0) pNo (pIs (cI 63))) (aCons (cI 0) (aCons (cI 0) (aCons (cI 0) (aCons (vcall sumD (aCons (wslice (getv 0) pNo (pIs (cI 63))) aNil)) aNil)))))))
noncomputable def f__law_deck : List D → M D := runB 1 b__law_deck

noncomputable def b__law_next : MS :=
 (sSeq (sIf (tand (tst (b2 eqD (b2 ixD (getv 0) (cI 2)) (cI 0))) (tst (b2 ltD (b2 ixD (getv 0) (cI 1)) (vcall lenD (aCons (b2 ixD (getv 0) (cI 0)) aNil)))))
 (sSeq (sAsg (b2 ixD (b2 ixD (getv 0) (cI 0)) (b2 ixD (getv 0) (cI 1))) (tN 2))
 (sSeq (sSub (b2 addD (b2 ixD (getv 0) (cI 1)) (cI 1)) (getv 0) (cI 1))
 (sSeq (sIf (tst (b2 ltD (getv 2) (b2 powD (cI 10) (cI 18))))
 (sRet (b2 modD (vcall f__law_mix (aCons (getv 2) (aCons (b2 ixD (getv 0) (cI 1)) aNil))) (getv 1)))
 sNext)
 (sSub (getv 2) (getv 0) (cI 2)))))
 sNext)
 (sSeq (sIf (tst (b2 gtD (b2 ixD (getv 0) (cI 2)) (cI 0)))
 (sSeq (sAsg (b2 modD (b2 ixD (getv 0) (cI 2)) (getv 1)) (tN 3))
 (sSeq (sSub (b2 fdivD (b2 ixD (getv 0) (cI 2)) (getv 1)) (getv 0) (cI 2))
 (sRet (getv 3))))
 sNext)
 (sSeq (sSub (b2 addD (b2 ixD (getv 0) (cI 3)) (cI 1)) (getv 0) (cI 3))
 (sRet (b2 modD (vcall f__law_mix (aCons (b2 ixD (getv 0) (cI 4)) (aCons (b2 addD (b2 ixD (getv 0) (cI 3)) (cI 557)) aNil))) (getv 1))))))
noncomputable def f__law_next : List D → M D := runB 4 b__law_next

noncomputable def b__law_reduced : MS :=
 (sSeq (sAsg (vcall absD (aCons (getv 0) aNil)) (tN 2))
 (sSeq (sAsg (getv 1) (tN 3))
 (sSeq (sWhile (tst (b2 gtD (getv 3) (cI 0)))
 (sPar 2 3 (aCons (getv 3) (aCons (b2 modD (getv 2) (getv 3)) aNil))))
 (sRet (vtup (aCons (b2 fdivD (getv 0) (getv 2)) (aCons (b2 fdivD (getv 1) (getv 2)) aNil)))))))
noncomputable def f__law_reduced : List D → M D := runB 4 b__law_reduced

noncomputable def b__law_spots : MS :=
 (sSeq (sAsg (b2 addD (b2 subD (getv 1) (cI 1)) (vcall f__law_next (aCons (getv 0) (aCons (b2 ixD (vlst (aCons (cI 3) (aCons (cI 40) (aCons (cI 2000) (aCons (cI 8900) aNil))))) (vcall f__law_next (aCons (getv 0) (aCons (cI 4) aNil)))) aNil)))) (tN 2))
 (sSeq (sAsg (b2 ixD (vlst (aCons (cI 0) (aCons (cI 0) (aCons (b2 subD (vcall f__law_next (aCons (getv 0) (aCons (cI 2001) aNil))) (cI 1000)) (aCons (b2 subD (vcall f__law_next (aCons (getv 0) (aCons (b2 subD (cI 19999) (getv 2)) aNil))) (cI 9999)) aNil))))) (vcall f__law_next (aCons (getv 0) (aCons (cI 4) aNil)))) (tN 3))
 (sSeq (sAsg (b2 mulD (vlst (aCons (cI 1) aNil)) (b2 subD (getv 1) (cI 1))) (tN 4))
 (sSeq (sAsg (b2 subD (getv 2) (b2 subD (getv 1) (cI 1))) (tN 5))
 (sSeq (sFor (iR1 (aCons (b2 subD (getv 1) (cI 1)) aNil)) (tN 6)
 (sSeq (sAsg (b2 ixD (vlst (aCons (getv 5) (aCons (vcall f__law_next (aCons (getv 0) (aCons (b2 addD (getv 5) (cI 1)) aNil))) (aCons (cI 0) aNil)))) (vcall minD (aCons (vcall f__law_next (aCons (getv 0) (aCons (cI 3) aNil))) (aCons (b2 subD (b2 subD (getv 1) (cI 2)) (getv 6)) aNil)))) (tN 7))
 (sSeq (sSub (b2 addD (b2 ixD (getv 4) (getv 6)) (getv 7)) (getv 4) (getv 6))
 (sAsg (b2 subD (getv 5) (getv 7)) (tN 5)))))
 (sSeq (sAsg (vlst (aCons (getv 3) aNil)) (tN 8))
 (sSeq (sFor (iS (getv 4)) (tN 9)
 (sDo (vmeth appD (getv 8) (aCons (b2 addD (b2 ixD (getv 8) (vneg (cI 1))) (getv 9)) aNil))))
 (sRet (getv 8)))))))))
noncomputable def f__law_spots : List D → M D := runB 10 b__law_spots

noncomputable def b__law_map : MS :=
 (sSeq (sAsg (b2 addD (cI 2) (vcall f__law_next (aCons (getv 0) (aCons (b2 subD (getv 1) (cI 1)) aNil)))) (tN 2))
 (sSeq (sAsg (vcall f__law_spots (aCons (getv 0) (aCons (getv 2) aNil))) (tN 3))
 (sSeq (sAsg (b2 ixD (vlst (aCons (cI 1) (aCons (cI 1) (aCons (b2 addD (cI 1) (vcall f__law_next (aCons (getv 0) (aCons (cI 12) aNil)))) (aCons (b2 addD (cI 1) (vcall f__law_next (aCons (getv 0) (aCons (cI 9999) aNil)))) aNil))))) (vcall f__law_next (aCons (getv 0) (aCons (cI 4) aNil)))) (tN 4))
 (sSeq (sAsg (vlst aNil) (tN 5))
 (sSeq (sAsg (vlst (aCons (b2 addD (b2 ixD (getv 3) (cI 0)) (vcall f__law_next (aCons (getv 0) (aCons (b2 addD (b2 subD (b2 ixD (getv 3) (vneg (cI 1))) (b2 ixD (getv 3) (cI 0))) (cI 1)) aNil)))) aNil)) (tN 6))
 (sSeq (sFor (iR1 (aCons (getv 2) aNil)) (tN 7)
 (sSeq (sAsg (vcall f__law_next (aCons (getv 0) (aCons (cI 8) aNil))) (tN 8))
 (sSeq (sAsg (b2 ixD (getv 3) (vcall f__law_next (aCons (getv 0) (aCons (getv 2) aNil)))) (tN 9))
 (sSeq (sIf (tst (b2 eqD (getv 8) (cI 0)))
 (sAsg (b2 addD (b2 ixD (getv 3) (cI 0)) (vcall f__law_next (aCons (getv 0) (aCons (b2 addD (b2 subD (b2 ixD (getv 3) (vneg (cI 1))) (b2 ixD (getv 3) (cI 0))) (cI 1)) aNil)))) (tN 9))
 sNext)
 (sSeq (sIf (tst (b2 eqD (getv 8) (cI 1)))
 (sAsg (b2 ixD (vlst (aCons (b2 ixD (getv 3) (cI 0)) (aCons (b2 ixD (getv 3) (vneg (cI 1))) aNil))) (vcall f__law_next (aCons (getv 0) (aCons (cI 2) aNil)))) (tN 9))
 sNext)
 (sSeq (sIf (tst (b2 eqD (getv 8) (cI 2)))
 (sAsg (b2 ixD (getv 6) (vneg (cI 1))) (tN 9))
 sNext)
 (sSeq (sIf (tand (tst (b2 gtD (getv 8) (cI 4))) (tst (b2 gtD (getv 7) (cI 0))))
 (sAsg (b2 addD (b2 ixD (getv 6) (vneg (cI 1))) (b2 mulD (b2 subD (b2 ixD (getv 3) (getv 7)) (b2 ixD (getv 3) (b2 subD (getv 7) (cI 1)))) (b2 ixD (vlst (aCons (cI 1) (aCons (vneg (cI 1)) aNil))) (b2 modD (getv 8) (cI 2))))) (tN 9))
 sNext)
 (sSeq (sIf (tnot (tst (chainD leD leD (b2 ixD (getv 3) (cI 0)) (getv 9) (b2 ixD (getv 3) (vneg (cI 1))))))
 (sAsg (b2 ixD (getv 6) (vneg (cI 1))) (tN 9))
 sNext)
 (sSeq (sDo (vmeth appD (getv 6) (aCons (getv 9) aNil)))
 (sDo (vmeth appD (getv 5) (aCons (vtup (aCons (vcall f__law_reduced (aCons (b2 ixD (getv 3) (getv 7)) (aCons (getv 4) aNil))) (aCons (vcall f__law_reduced (aCons (getv 9) (aCons (getv 4) aNil))) aNil))) aNil))))))))))))
 (sRet (vcall tupleD (aCons (getv 5) aNil)))))))))
noncomputable def f__law_map : List D → M D := runB 10 b__law_map

noncomputable def b__law_plus : MS :=
 (sRet (vcall f__law_reduced (aCons (b2 addD (b2 mulD (b2 ixD (getv 0) (cI 0)) (b2 ixD (getv 1) (cI 1))) (b2 mulD (b2 ixD (getv 1) (cI 0)) (b2 ixD (getv 0) (cI 1)))) (aCons (b2 mulD (b2 ixD (getv 0) (cI 1)) (b2 ixD (getv 1) (cI 1))) aNil))))
noncomputable def f__law_plus : List D → M D := runB 2 b__law_plus

noncomputable def b__law_times : MS :=
 (sRet (vcall f__law_reduced (aCons (b2 mulD (b2 ixD (getv 0) (cI 0)) (b2 ixD (getv 1) (cI 0))) (aCons (b2 mulD (b2 ixD (getv 0) (cI 1)) (b2 ixD (getv 1) (cI 1))) aNil))))
noncomputable def f__law_times : List D → M D := runB 2 b__law_times

noncomputable def b__law_less : MS :=
 (sRet (vcall f__law_plus (aCons (getv 0) (aCons (vtup (aCons (b2 subD (cI 0) (b2 ixD (getv 1) (cI 0))) (aCons (b2 ixD (getv 1) (cI 1)) aNil))) aNil))))
noncomputable def f__law_less : List D → M D := runB 2 b__law_less

noncomputable def b__law_over : MS :=
 (sSeq (sAsg (b2 ixD (vlst (aCons (cI 1) (aCons (vneg (cI 1)) aNil))) (vcall intD (aCons (b2 ltD (b2 ixD (getv 1) (cI 0)) (cI 0)) aNil))) (tN 2))
 (sRet (vcall f__law_reduced (aCons (b2 mulD (b2 mulD (b2 ixD (getv 0) (cI 0)) (b2 ixD (getv 1) (cI 1))) (getv 2)) (aCons (b2 mulD (b2 mulD (b2 ixD (getv 0) (cI 1)) (b2 ixD (getv 1) (cI 0))) (getv 2)) aNil)))))
noncomputable def f__law_over : List D → M D := runB 3 b__law_over

noncomputable def b__law_below : MS :=
 (sRet (b2 ltD (b2 mulD (b2 ixD (getv 0) (cI 0)) (b2 ixD (getv 1) (cI 1))) (b2 mulD (b2 ixD (getv 1) (cI 0)) (b2 ixD (getv 0) (cI 1)))))
noncomputable def f__law_below : List D → M D := runB 2 b__law_below

noncomputable def b__law_value : MS :=
 (sSeq (sFor (jZ2 (aCons (getv 0) (aCons (wslice (getv 0) (pIs (cI 1)) pNo) aNil))) (tT 2 (PL.tCons (tN 2) (PL.tCons (tN 3) PL.tNil)))
 (sIf (tnot (tru2 (vcall f__law_below (aCons (b2 ixD (getv 3) (cI 0)) (aCons (getv 1) aNil)))))
 (sSeq (sAsg (vcall f__law_less (aCons (b2 ixD (getv 3) (cI 0)) (aCons (b2 ixD (getv 2) (cI 0)) aNil))) (tN 4))
 (sSeq (sAsg (vcall f__law_times (aCons (b2 ixD (getv 2) (cI 1)) (aCons (vcall f__law_less (aCons (b2 ixD (getv 3) (cI 0)) (aCons (getv 1) aNil))) aNil))) (tN 5))
 (sSeq (sAsg (vcall f__law_times (aCons (b2 ixD (getv 3) (cI 1)) (aCons (vcall f__law_less (aCons (getv 1) (aCons (b2 ixD (getv 2) (cI 0)) aNil))) aNil))) (tN 6))
 (sRet (vcall f__law_over (aCons (vcall f__law_plus (aCons (getv 5) (aCons (getv 6) aNil))) (aCons (getv 4) aNil)))))))
 sNext))
 (sRet (b2 ixD (b2 ixD (getv 0) (vneg (cI 1))) (cI 1))))
noncomputable def f__law_value : List D → M D := runB 7 b__law_value

noncomputable def b__law_least : MS :=
 (sSeq (sAsg (vcall listD (aCons (wslice (getv 0) pNo (pIs (cI 1))) aNil)) (tN 1))
 (sSeq (sFor (iR2 (aCons (cI 1) (aCons (b2 subD (vcall lenD (aCons (getv 0) aNil)) (cI 1)) aNil))) (tN 2)
 (sIf (tst (b2 neD (vcall f__law_value (aCons (vtup (aCons (b2 ixD (getv 1) (vneg (cI 1))) (aCons (b2 ixD (getv 0) (b2 addD (getv 2) (cI 1))) aNil))) (aCons (b2 ixD (b2 ixD (getv 0) (getv 2)) (cI 0)) aNil))) (b2 ixD (b2 ixD (getv 0) (getv 2)) (cI 1))))
 (sDo (vmeth appD (getv 1) (aCons (b2 ixD (getv 0) (getv 2)) aNil)))
 sNext))
 (sRet (vcall tupleD (aCons (b2 addD (getv 1) (vcall listD (aCons (wslice (getv 0) (pIs (vneg (cI 1))) pNo) aNil))) aNil)))))
noncomputable def f__law_least : List D → M D := runB 3 b__law_least

noncomputable def b__law_is_fraction : MS :=
 (sSeq (sIf (tor (tnot (tru2 (vcall isiD (aCons (getv 0) (aCons (cT "tuple") aNil))))) (tst (b2 neD (vcall lenD (aCons (getv 0) aNil)) (cI 2))))
 (sRet (cB false))
 sNext)
 (sSeq (sFor (iS (getv 0)) (tN 1)
 (sIf (tor (tru2 (vcall isiD (aCons (getv 1) (aCons (cT "bool") aNil)))) (tnot (tru2 (vcall isiD (aCons (getv 1) (aCons (cT "int") aNil))))))
 (sRet (cB false))
 sNext))
 (sSeq (sIf (tst (b2 ltD (b2 ixD (getv 0) (cI 1)) (cI 1)))
 (sRet (cB false))
 sNext)
 (sRet (b2 eqD (vcall f__law_reduced (aCons (b2 ixD (getv 0) (cI 0)) (aCons (b2 ixD (getv 0) (cI 1)) aNil))) (getv 0))))))
noncomputable def f__law_is_fraction : List D → M D := runB 2 b__law_is_fraction

noncomputable def b__law_is_map : MS :=
 (sSeq (sIf (tor (tnot (tru2 (vcall isiD (aCons (getv 0) (aCons (cT "tuple") aNil))))) (tst (b2 neD (getv 0) (getv 1))))
 (sRet (cB false))
 sNext)
 (sSeq (sFor (iS (getv 0)) (tN 2)
 (sIf (tor (tnot (tru2 (vcall isiD (aCons (getv 2) (aCons (cT "tuple") aNil))))) (tor (tnot (tru2 (vcall f__law_is_fraction (aCons (b2 ixD (getv 2) (cI 0)) aNil)))) (tnot (tru2 (vcall f__law_is_fraction (aCons (b2 ixD (getv 2) (cI 1)) aNil))))))
 (sRet (cB false))
 sNext))
 (sRet (cB true))))
noncomputable def f__law_is_map : List D → M D := runB 3 b__law_is_map

noncomputable def b__law_more : MS :=
 (sSeq (sAsg (vcall f__law_next (aCons (getv 0) (aCons (b2 subD (vcall lenD (aCons (getv 1) aNil)) (cI 1)) aNil))) (tN 2))
 (sSeq (sAsg (vcall f__law_reduced (aCons (b2 addD (cI 1) (vcall f__law_next (aCons (getv 0) (aCons (cI 3) aNil)))) (aCons (cI 4) aNil))) (tN 3))
 (sSeq (sAsg (wslice (getv 1) (pIs (getv 2)) (pIs (b2 addD (getv 2) (cI 2)))) (tT 2 (PL.tCons (tN 4) (PL.tCons (tN 5) PL.tNil))))
 (sSeq (sAsg (vcall f__law_plus (aCons (b2 ixD (getv 4) (cI 0)) (aCons (vcall f__law_times (aCons (getv 3) (aCons (vcall f__law_less (aCons (b2 ixD (getv 5) (cI 0)) (aCons (b2 ixD (getv 4) (cI 0)) aNil))) aNil))) aNil))) (tN 6))
 (sSeq (sAsg (vtup (aCons (getv 6) (aCons (vcall f__law_value (aCons (getv 1) (aCons (getv 6) aNil))) aNil))) (tN 7))
 (sSeq (sIf (tor (tst (b2 gtD (vcall max1D (aCons (vLc (iS (getv 7)) (tN 8) tYesD (vcall maxD (aCons (vcall absD (aCons (b2 ixD (getv 8) (cI 0)) aNil)) (aCons (b2 ixD (getv 8) (cI 1)) aNil))) [8]) aNil)) (cI 9999))) (tst (b2 gtD (vcall lenD (aCons (getv 1) aNil)) (cI 7))))
 (sRet (getv 1))
 sNext)
 (sRet (b2 addD (b2 addD (wslice (getv 1) pNo (pIs (b2 addD (getv 2) (cI 1)))) (vtup (aCons (getv 7) aNil))) (wslice (getv 1) (pIs (b2 addD (getv 2) (cI 1))) pNo)))))))))
noncomputable def f__law_more : List D → M D := runB 9 b__law_more

noncomputable def b_law : MS :=
 (sSeq (sAsg (vcall f__law_deck (aCons (getv 0) aNil)) (tN 1))
 (sSeq (sFor (iR1 (aCons (cI 4) aNil)) (tN 2)
 (sSeq (sAsg (vcall f__law_map (aCons (getv 1) (aCons (b2 ixD (vlst (aCons (cI 8) (aCons (cI 8) (aCons (cI 4) (aCons (cI 2) aNil))))) (getv 2)) aNil))) (tN 3))
 (sSeq (sAsg (vcall f__law_least (aCons (getv 3) aNil)) (tN 4))
 (sSeq (sAsg (vcall f_least_knots (aCons (getv 3) aNil)) (tN 5))
 (sSeq (sIf (tor (tnot (tru2 (vcall f__law_is_map (aCons (getv 5) (aCons (getv 4) aNil))))) (tor (tst (b2 neD (vcall f_least_knots (aCons (getv 5) aNil)) (getv 4))) (tst (b2 neD (vcall f_least_knots (aCons (getv 3) aNil)) (getv 4)))))
 (sRet (cB false))
 sNext)
 (sSeq (sAsg (getv 3) (tN 6))
 (sFor (iR1 (aCons (cI 3) aNil)) (tN 7)
 (sSeq (sAsg (vcall f__law_more (aCons (getv 1) (aCons (getv 6) aNil))) (tN 6))
 (sIf (tnot (tru2 (vcall f__law_is_map (aCons (vcall f_least_knots (aCons (getv 6) aNil)) (aCons (getv 4) aNil)))))
 (sRet (cB false))
 sNext)))))))))
 (sRet (b2 eqD (vcall f_least_knots (aCons (vtup (aCons (vtup (aCons (vtup (aCons (cI 0) (aCons (cI 1) aNil))) (aCons (vtup (aCons (cI 0) (aCons (cI 1) aNil))) aNil))) (aCons (vtup (aCons (vtup (aCons (cI 1) (aCons (cI 2) aNil))) (aCons (vtup (aCons (cI 0) (aCons (cI 1) aNil))) aNil))) (aCons (vtup (aCons (vtup (aCons (cI 1) (aCons (cI 1) aNil))) (aCons (vtup (aCons (cI 0) (aCons (cI 1) aNil))) aNil))) aNil)))) aNil)) (vtup (aCons (vtup (aCons (vtup (aCons (cI 0) (aCons (cI 1) aNil))) (aCons (vtup (aCons (cI 0) (aCons (cI 1) aNil))) aNil))) (aCons (vtup (aCons (vtup (aCons (cI 1) (aCons (cI 1) aNil))) (aCons (vtup (aCons (cI 0) (aCons (cI 1) aNil))) aNil))) aNil)))))))
noncomputable def f_law : List D → M D := runB 8 b_law

end BS

/-! PURE LAYER, part 10: the law's own head -/
namespace PL
open PySem PySem.Spec PyProof.Rows L2

theorem fn_mk {P : Program} {w : World} {K : PySem.W.Frag} {mg : Str → Option Value} {base : Heap} {x qual : Str} {st : Stmt} {f : Addr} {fd : FuncData} {N ps : List Str} {k : Nat} {mf : List D → M D} {sm : MS} (F : Fun K x qual st f fd) (S : FnScope N ps (defScope st))
    (hbody : ∀ (cdv : Value) (A : Around) (outer : List Env) (s : Shared) (H : Hp) (E : XK), Room k (A.deeper (envOfC qual (defScope st) s.heap.objs.size f cdv)) →
      XSs (cxOf CX0 P w K mg base N qual (defScope st) f cdv A outer s H E).nox (defBody st) sm)
    (hmf : ∀ ds S r, ds.length = ps.length → mf ds S = some r → runB N.length sm ds S = some r) : FnOk P w K mg base CX0 (k + 1) f fd ps (spF K ps.length mf) := by
  refine F.ok S (fun vs H Q E h => h.1) fun cdv A outer s H vs Q E hr h => ?_
  obtain ⟨hl, q, S0, ds, so, rp, d, S', e, kk⟩ := h
  refine ⟨_, (hbody cdv A outer s H E hr).o, ?_⟩
  have e2 := hmf ds S0 (d, S') (by rw [← rp.length]; exact hl) e
  unfold runB at e2
  split at e2
  · rename_i e3
    cases e2
    exact Ts.mk (start_ag N so rp) e3 fun v H' q' st so' r => kk v H' q' st so' r
  · rename_i e3
    cases e2
    exact Ts.mk (start_ag N so rp) e3 fun σ' H' q' st g => kk _ H' q' st g.sok .non
  · cases e2
theorem bi_mk {K : PySem.W.Frag} {h : Heap} {mg : Str → Option Value} (X : K.In h) (G : h.Ns mainGlobals mg)
    (z1 : PySem.W.nsIn K mainGlobals "abs" = some none) (z2 : PySem.W.nsIn K mainGlobals "len" = some none) (z3 : PySem.W.nsIn K mainGlobals "range" = some none) (z4 : PySem.W.nsIn K mainGlobals "zip" = some none)
    (z5 : PySem.W.nsIn K mainGlobals "tuple" = some none) (z6 : PySem.W.nsIn K mainGlobals "list" = some none) (z7 : PySem.W.nsIn K mainGlobals "min" = some none) (z8 : PySem.W.nsIn K mainGlobals "max" = some none)
    (z9 : PySem.W.nsIn K mainGlobals "sum" = some none) (z10 : PySem.W.nsIn K mainGlobals "int" = some none) (z11 : PySem.W.nsIn K mainGlobals "bool" = some none) (z12 : PySem.W.nsIn K mainGlobals "str" = some none)
    (z13 : PySem.W.nsIn K mainGlobals "isinstance" = some none) : BI mg :=
  ⟨PySem.W.mg_none_of X G z1, PySem.W.mg_none_of X G z2, PySem.W.mg_none_of X G z3, PySem.W.mg_none_of X G z4, PySem.W.mg_none_of X G z5, PySem.W.mg_none_of X G z6, PySem.W.mg_none_of X G z7, PySem.W.mg_none_of X G z8, PySem.W.mg_none_of X G z9, PySem.W.mg_none_of X G z10, PySem.W.mg_none_of X G z11, PySem.W.mg_none_of X G z12, PySem.W.mg_none_of X G z13⟩
theorem reps_ints {K : PySem.W.Frag} {H : Hp} {r : Rh} : ∀ ns : List Int, Reps K H r (ns.map V.int) (ns.map D.int)
  | [] => .nil
  | n :: ns => .cons (.int n) (reps_ints ns)
theorem sp_true {mf : List D → M D} (hm : ∀ ns : List Int, ns.length ≤ 63 → ∃ S', mf [.ro (ns.map D.int)] [] = some (.bl true, S')) (K : PySem.W.Frag) (H : Hp) (a : Addr) (ns : List Int) (hl : ns.length ≤ 63) (ho : Only H) (hs : SqL K H a (ns.map V.int)) : spF K 1 mf [.ref a] H (fun v _ => v = .bl true) fun _ _ _ => False := by
  obtain ⟨S', e⟩ := hm ns hl
  have ro : RoL K H [] a (ns.map V.int) := by
    rcases hs with h | h
    · exact .inl ⟨h, by simp⟩
    · exact .inr (.inr h)
  refine ⟨rfl, [], [], _, ⟨rfl, fun n a ds h => by simp at h, fun n m a h => by simp at h⟩, .cons (.ro ro (reps_ints ns)) .nil, _, S', e, fun v H' r' _ _ r => ?_⟩
  cases r
  rfl
end PL

/-! PURE LAYER, part 11: max of four -/
namespace PL
open PySem PySem.Spec PyProof.Rows L2
section
variable {prog : Program} {w : World} {A : Around} {E : Value → Shared → Prop} {s : Shared}
end
def rMax4 : List V → Hp → VK → Prop := fun xs H Q => ∃ i j k l, xs = [.int i, .int j, .int k, .int l] ∧ Q (.int (max (max i j) (max k l))) H
def max4D : List D → M D
  | [.int i, .int j, .int k, .int l] => ret (.int (max (max i j) (max k l)))
  | _ => stuck
end PL

namespace BS
open PySem PySem.Spec PyProof.Rows L2 PL
noncomputable def b_plus : MS :=
 (sRet (vcall f_fraction (aCons (b2 addD (b2 mulD (b2 ixD (getv 0) (cI 0)) (b2 ixD (getv 1) (cI 1))) (b2 mulD (b2 ixD (getv 1) (cI 0)) (b2 ixD (getv 0) (cI 1)))) (aCons (b2 mulD (b2 ixD (getv 0) (cI 1)) (b2 ixD (getv 1) (cI 1))) aNil))))
noncomputable def f_plus : List D → M D := runB 2 b_plus

noncomputable def b_times : MS :=
 (sRet (vcall f_fraction (aCons (b2 mulD (b2 ixD (getv 0) (cI 0)) (b2 ixD (getv 1) (cI 0))) (aCons (b2 mulD (b2 ixD (getv 0) (cI 1)) (b2 ixD (getv 1) (cI 1))) aNil))))
noncomputable def f_times : List D → M D := runB 2 b_times

noncomputable def b_lesser : MS :=
 (sRet (vif (tru2 (vcall f__law_below (aCons (getv 1) (aCons (getv 0) aNil)))) (getv 1) (getv 0)))
noncomputable def f_lesser : List D → M D := runB 2 b_lesser

noncomputable def b_greater : MS :=
 (sRet (vif (tru2 (vcall f__law_below (aCons (getv 0) (aCons (getv 1) aNil)))) (getv 1) (getv 0)))
noncomputable def f_greater : List D → M D := runB 2 b_greater

noncomputable def b_within : MS :=
 (sRet (vand (vnot (vcall f__law_below (aCons (getv 0) (aCons (getv 1) aNil)))) (vnot (vcall f__law_below (aCons (getv 2) (aCons (getv 0) aNil))))))
noncomputable def f_within : List D → M D := runB 3 b_within

noncomputable def b_on_line : MS :=
 (sRet (vcall f_plus (aCons (b2 ixD (getv 0) (cI 1)) (aCons (vcall f_times (aCons (vcall f_slope_between (aCons (getv 0) (aCons (getv 1) aNil))) (aCons (vcall f_minus (aCons (getv 2) (aCons (b2 ixD (getv 0) (cI 0)) aNil))) aNil))) aNil))))
noncomputable def f_on_line : List D → M D := runB 3 b_on_line

noncomputable def b_piece_into : MS :=
 (sSeq (sIf (tst (b2 eqD (b2 ixD (getv 0) (cI 1)) (b2 ixD (getv 1) (cI 1))))
 (sRet (vif (tru2 (vcall f_within (aCons (b2 ixD (getv 0) (cI 1)) (aCons (getv 2) (aCons (getv 3) aNil))))) (vtup (aCons (b2 ixD (getv 0) (cI 0)) (aCons (b2 ixD (getv 1) (cI 0)) aNil))) cN))
 sNext)
 (sSeq (sAsg (vcall f_greater (aCons (getv 2) (aCons (vcall f_lesser (aCons (b2 ixD (getv 0) (cI 1)) (aCons (b2 ixD (getv 1) (cI 1)) aNil))) aNil))) (tN 4))
 (sSeq (sAsg (vcall f_lesser (aCons (getv 3) (aCons (vcall f_greater (aCons (b2 ixD (getv 0) (cI 1)) (aCons (b2 ixD (getv 1) (cI 1)) aNil))) aNil))) (tN 5))
 (sSeq (sIf (tru2 (vcall f__law_below (aCons (getv 5) (aCons (getv 4) aNil))))
 (sRet cN)
 sNext)
 (sSeq (sPar 6 7 (aCons (vtup (aCons (b2 ixD (getv 0) (cI 1)) (aCons (b2 ixD (getv 0) (cI 0)) aNil))) (aCons (vtup (aCons (b2 ixD (getv 1) (cI 1)) (aCons (b2 ixD (getv 1) (cI 0)) aNil))) aNil)))
 (sSeq (sPar 8 9 (aCons (vcall f_on_line (aCons (getv 6) (aCons (getv 7) (aCons (getv 4) aNil)))) (aCons (vcall f_on_line (aCons (getv 6) (aCons (getv 7) (aCons (getv 5) aNil)))) aNil)))
 (sRet (vtup (aCons (vcall f_lesser (aCons (getv 8) (aCons (getv 9) aNil))) (aCons (vcall f_greater (aCons (getv 8) (aCons (getv 9) aNil))) aNil))))))))))
noncomputable def f_piece_into : List D → M D := runB 10 b_piece_into

noncomputable def b_all_into : MS :=
 (sSeq (sAsg (vlst aNil) (tN 3))
 (sSeq (sFor (jZ2 (aCons (getv 0) (aCons (wslice (getv 0) (pIs (cI 1)) pNo) aNil))) (tT 2 (PL.tCons (tN 4) (PL.tCons (tN 5) PL.tNil)))
 (sSeq (sAsg (vcall f_piece_into (aCons (getv 4) (aCons (getv 5) (aCons (getv 1) (aCons (getv 2) aNil))))) (tN 6))
 (sSeq (sIf (tst (b2 isND (getv 6) cN))
 sCnt
 sNext)
 (sIf (tand (tru2 (getv 3)) (tst (b2 eqD (b2 ixD (b2 ixD (getv 3) (vneg (cI 1))) (cI 1)) (b2 ixD (getv 6) (cI 0)))))
 (sSub (vtup (aCons (b2 ixD (b2 ixD (getv 3) (vneg (cI 1))) (cI 0)) (aCons (b2 ixD (getv 6) (cI 1)) aNil))) (getv 3) (vneg (cI 1)))
 (sDo (vmeth appD (getv 3) (aCons (getv 6) aNil)))))))
 (sRet (vcall tupleD (aCons (getv 3) aNil)))))
noncomputable def f_all_into : List D → M D := runB 7 b_all_into

noncomputable def b_stays_of : MS :=
 (sSeq (sAsg (vtup (aCons (cI 0) (aCons (cI 1) aNil))) (tN 1))
 (sRet (vcall f_all_into (aCons (vLc (iS (getv 0)) (tT 2 (PL.tCons (tN 2) (PL.tCons (tN 3) PL.tNil))) tYesD (vtup (aCons (getv 2) (aCons (vcall f_minus (aCons (getv 3) (aCons (getv 2) aNil))) aNil))) [2, 3]) (aCons (getv 1) (aCons (getv 1) aNil))))))
noncomputable def f_stays_of : List D → M D := runB 4 b_stays_of

noncomputable def b__law_folded : MS :=
 (sSeq (sAsg (vcall lenD (aCons (getv 0) aNil)) (tN 1))
 (sSeq (sFor (iS (getv 0)) (tN 2)
 (sAsg (b2 modD (b2 addD (b2 mulD (getv 1) (cI 48271)) (b2 modD (getv 2) (cI 2147483629))) (cI 2147483647)) (tN 1)))
 (sRet (getv 1))))
noncomputable def f__law_folded : List D → M D := runB 3 b__law_folded

noncomputable def b__law_seed : MS :=
 (sSeq (sAsg (vcall maxD (aCons (getv 0) (aCons (b2 subD (cI 0) (getv 0)) aNil))) (tN 1))
 (sRet (vlst (aCons (getv 1) (aCons (vcall intD (aCons (b2 geD (getv 1) (b2 powD (cI 10) (cI 18))) aNil)) (aCons (cI 0) (aCons (b2 modD (getv 0) (cI 1999999913)) aNil)))))))
noncomputable def f__law_seed : List D → M D := runB 2 b__law_seed

noncomputable def b__law_draw : MS :=
 (sSeq (sSub (b2 addD (b2 ixD (getv 0) (cI 2)) (cI 1)) (getv 0) (cI 2))
 (sSeq (sIf (tand (tst (b2 eqD (b2 ixD (getv 0) (cI 1)) (cI 1))) (tst (b2 gtD (b2 ixD (getv 0) (cI 0)) (cI 0))))
 (sSeq (sAsg (b2 modD (b2 ixD (getv 0) (cI 0)) (getv 1)) (tN 2))
 (sSeq (sSub (b2 fdivD (b2 ixD (getv 0) (cI 0)) (getv 1)) (getv 0) (cI 0))
 (sRet (getv 2))))
 sNext)
 (sSeq (sAsg (b2 modD (b2 mulD (b2 addD (b2 addD (b2 ixD (getv 0) (cI 3)) (b2 mulD (cI 6997) (b2 ixD (getv 0) (cI 2)))) (cI 11)) (cI 48271)) (cI 2147483647)) (tN 3))
 (sSeq (sAsg (b2 modD (b2 mulD (b2 modD (b2 mulD (getv 3) (getv 3)) (cI 2147483629)) (cI 40692)) (cI 2147483399)) (tN 3))
 (sRet (b2 modD (b2 fdivD (getv 3) (cI 7)) (getv 1)))))))
noncomputable def f__law_draw : List D → M D := runB 4 b__law_draw

noncomputable def b__law_fraction : MS :=
 (sSeq (sAsg (vcall maxD (aCons (getv 0) (aCons (b2 subD (cI 0) (getv 0)) aNil))) (tN 2))
 (sSeq (sAsg (getv 1) (tN 3))
 (sSeq (sWhile (tst (b2 gtD (getv 3) (cI 0)))
 (sPar 2 3 (aCons (getv 3) (aCons (b2 modD (getv 2) (getv 3)) aNil))))
 (sRet (vtup (aCons (b2 fdivD (getv 0) (getv 2)) (aCons (b2 fdivD (getv 1) (getv 2)) aNil)))))))
noncomputable def f__law_fraction : List D → M D := runB 4 b__law_fraction

noncomputable def b__law_plus_k12 : MS :=
 (sRet (vcall f__law_fraction (aCons (b2 addD (b2 mulD (b2 ixD (getv 0) (cI 0)) (b2 ixD (getv 1) (cI 1))) (b2 mulD (b2 ixD (getv 1) (cI 0)) (b2 ixD (getv 0) (cI 1)))) (aCons (b2 mulD (b2 ixD (getv 0) (cI 1)) (b2 ixD (getv 1) (cI 1))) aNil))))
noncomputable def f__law_plus_k12 : List D → M D := runB 2 b__law_plus_k12

noncomputable def b__law_times_k12 : MS :=
 (sRet (vcall f__law_fraction (aCons (b2 mulD (b2 ixD (getv 0) (cI 0)) (b2 ixD (getv 1) (cI 0))) (aCons (b2 mulD (b2 ixD (getv 0) (cI 1)) (b2 ixD (getv 1) (cI 1))) aNil))))
noncomputable def f__law_times_k12 : List D → M D := runB 2 b__law_times_k12

noncomputable def b__law_less_k12 : MS :=
 (sRet (vcall f__law_plus_k12 (aCons (getv 0) (aCons (vtup (aCons (b2 subD (cI 0) (b2 ixD (getv 1) (cI 0))) (aCons (b2 ixD (getv 1) (cI 1)) aNil))) aNil))))
noncomputable def f__law_less_k12 : List D → M D := runB 2 b__law_less_k12

noncomputable def b__law_over_k12 : MS :=
 (sSeq (sAsg (b2 ixD (vlst (aCons (cI 1) (aCons (vneg (cI 1)) aNil))) (vcall intD (aCons (b2 ltD (b2 ixD (getv 1) (cI 0)) (cI 0)) aNil))) (tN 2))
 (sRet (vcall f__law_fraction (aCons (b2 mulD (b2 mulD (b2 ixD (getv 0) (cI 0)) (b2 ixD (getv 1) (cI 1))) (getv 2)) (aCons (b2 mulD (b2 mulD (b2 ixD (getv 0) (cI 1)) (b2 ixD (getv 1) (cI 0))) (getv 2)) aNil)))))
noncomputable def f__law_over_k12 : List D → M D := runB 3 b__law_over_k12

noncomputable def b__law_side : MS :=
 (sSeq (sAsg (b2 subD (b2 mulD (b2 ixD (getv 0) (cI 0)) (b2 ixD (getv 1) (cI 1))) (b2 mulD (b2 ixD (getv 1) (cI 0)) (b2 ixD (getv 0) (cI 1)))) (tN 2))
 (sRet (b2 subD (vcall intD (aCons (b2 gtD (getv 2) (cI 0)) aNil)) (vcall intD (aCons (b2 ltD (getv 2) (cI 0)) aNil)))))
noncomputable def f__law_side : List D → M D := runB 3 b__law_side

noncomputable def b__law_at : MS :=
 (sSeq (sIf (tst (b2 eqD (getv 1) (cI 0)))
 (sRet (vtup (aCons (b2 subD (vcall f__law_draw (aCons (getv 0) (aCons (cI 13) aNil))) (cI 6)) (aCons (cI 1) aNil))))
 sNext)
 (sSeq (sIf (tst (b2 eqD (getv 1) (cI 1)))
 (sRet (vcall f__law_fraction (aCons (b2 subD (vcall f__law_draw (aCons (getv 0) (aCons (cI 25) aNil))) (cI 12)) (aCons (b2 addD (cI 1) (vcall f__law_draw (aCons (getv 0) (aCons (cI 6) aNil)))) aNil))))
 sNext)
 (sRet (vcall f__law_fraction (aCons (b2 subD (vcall f__law_draw (aCons (getv 0) (aCons (cI 19999) aNil))) (cI 9999)) (aCons (b2 addD (cI 1) (vcall f__law_draw (aCons (getv 0) (aCons (b2 ixD (vlst (aCons (cI 99) (aCons (cI 9999) aNil))) (vcall f__law_draw (aCons (getv 0) (aCons (cI 2) aNil)))) aNil)))) aNil))))))
noncomputable def f__law_at : List D → M D := runB 2 b__law_at

noncomputable def b__law_put_at : MS :=
 (sSeq (sFor (iR1 (aCons (vcall lenD (aCons (getv 0) aNil)) aNil)) (tN 2)
 (sSeq (sAsg (vcall f__law_side (aCons (getv 1) (aCons (b2 ixD (getv 0) (getv 2)) aNil))) (tN 3))
 (sIf (tst (b2 leD (getv 3) (cI 0)))
 (sRet (b2 addD (b2 addD (wslice (getv 0) pNo (pIs (getv 2))) (b2 mulD (vlst (aCons (getv 1) aNil)) (vcall intD (aCons (b2 neD (getv 3) (cI 0)) aNil)))) (wslice (getv 0) (pIs (getv 2)) pNo)))
 sNext)))
 (sRet (b2 addD (getv 0) (vlst (aCons (getv 1) aNil)))))
noncomputable def f__law_put_at : List D → M D := runB 4 b__law_put_at

noncomputable def b__law_map_k12 : MS :=
 (sSeq (sAsg (vcall f__law_draw (aCons (getv 0) (aCons (cI 3) aNil))) (tN 2))
 (sSeq (sAsg (vlst aNil) (tN 3))
 (sSeq (sFor (iR1 (aCons (b2 addD (cI 2) (vcall f__law_draw (aCons (getv 0) (aCons (b2 addD (getv 1) (cI 3)) aNil)))) aNil)) (tN 4)
 (sAsg (vcall f__law_put_at (aCons (getv 3) (aCons (vcall f__law_at (aCons (getv 0) (aCons (getv 2) aNil))) aNil))) (tN 3)))
 (sSeq (sAsg (wslice (getv 3) pNo (pIs (getv 1))) (tN 3))
 (sSeq (sIf (tst (b2 ltD (vcall lenD (aCons (getv 3) aNil)) (cI 2)))
 (sAsg (vlst (aCons (vtup (aCons (vneg (cI 3)) (aCons (cI 1) aNil))) (aCons (vtup (aCons (cI 5) (aCons (cI 1) aNil))) aNil))) (tN 3))
 sNext)
 (sSeq (sAsg (vcall f__law_draw (aCons (getv 0) (aCons (cI 5) aNil))) (tN 5))
 (sSeq (sAsg (vlst aNil) (tN 6))
 (sSeq (sFor (iS (getv 3)) (tN 7)
 (sSeq (sAsg (b2 ixD (b2 ixD (b2 addD (getv 6) (vlst (aCons (vtup (aCons (getv 7) (aCons (getv 7) aNil))) aNil))) (b2 subD (vneg (cI 1)) (vcall intD (aCons (b2 neD (getv 6) (vlst aNil)) aNil)))) (cI 1)) (tN 8))
 (sSeq (sAsg (vlst (aCons (b2 ixD (getv 3) (vcall f__law_draw (aCons (getv 0) (aCons (vcall lenD (aCons (getv 3) aNil)) aNil)))) (aCons (getv 7) (aCons (getv 8) (aCons (b2 ixD (getv 3) (cI 0)) (aCons (b2 ixD (getv 3) (vneg (cI 1))) (aCons (vcall f__law_at (aCons (getv 0) (aCons (getv 2) aNil))) aNil))))))) (tN 9))
 (sSeq (sAsg (b2 ixD (vlst (aCons (cI 0) (aCons (b2 addD (cI 3) (b2 modD (vcall lenD (aCons (getv 6) aNil)) (cI 2))) (aCons (vcall intD (aCons (b2 gtD (vcall f__law_draw (aCons (getv 0) (aCons (cI 4) aNil))) (cI 0)) aNil)) (aCons (vcall f__law_draw (aCons (getv 0) (aCons (cI 6) aNil))) (aCons (vcall f__law_draw (aCons (getv 0) (aCons (cI 6) aNil))) aNil)))))) (getv 5)) (tN 10))
 (sSeq (sAsg (b2 ixD (getv 9) (getv 10)) (tN 11))
 (sSeq (sIf (tand (tst (b2 eqD (getv 5) (cI 3))) (tand (tst (b2 ltD (getv 2) (cI 2))) (tst (b2 gtD (vcall f__law_draw (aCons (getv 0) (aCons (cI 3) aNil))) (cI 0)))))
 (sAsg (vcall f__law_less_k12 (aCons (vcall f__law_plus_k12 (aCons (b2 ixD (getv 3) (cI 0)) (aCons (b2 ixD (getv 3) (vneg (cI 1))) aNil))) (aCons (getv 7) aNil))) (tN 11))
 sNext)
 (sSeq (sIf (tor (tst (b2 ltD (vcall f__law_side (aCons (getv 11) (aCons (b2 ixD (getv 3) (cI 0)) aNil))) (cI 0))) (tst (b2 gtD (vcall f__law_side (aCons (getv 11) (aCons (b2 ixD (getv 3) (vneg (cI 1))) aNil))) (cI 0))))
 (sAsg (b2 ixD (getv 3) (vcall f__law_draw (aCons (getv 0) (aCons (vcall lenD (aCons (getv 3) aNil)) aNil)))) (tN 11))
 sNext)
 (sDo (vmeth appD (getv 6) (aCons (vtup (aCons (getv 7) (aCons (getv 11) aNil))) aNil))))))))))
 (sRet (vcall tupleD (aCons (getv 6) aNil)))))))))))
noncomputable def f__law_map_k12 : List D → M D := runB 12 b__law_map_k12

noncomputable def b__law_met : MS :=
 (sSeq (sAsg (vcall f__law_over_k12 (aCons (vcall f__law_less_k12 (aCons (getv 2) (aCons (b2 ixD (getv 0) (cI 1)) aNil))) (aCons (vcall f__law_less_k12 (aCons (b2 ixD (getv 1) (cI 1)) (aCons (b2 ixD (getv 0) (cI 1)) aNil))) aNil))) (tN 3))
 (sRet (vcall f__law_plus_k12 (aCons (b2 ixD (getv 0) (cI 0)) (aCons (vcall f__law_times_k12 (aCons (getv 3) (aCons (vcall f__law_less_k12 (aCons (b2 ixD (getv 1) (cI 0)) (aCons (b2 ixD (getv 0) (cI 0)) aNil))) aNil))) aNil)))))
noncomputable def f__law_met : List D → M D := runB 4 b__law_met

noncomputable def b__law_value_k12 : MS :=
 (sSeq (sAsg (b2 ixD (b2 ixD (getv 0) (cI 0)) (cI 1)) (tN 2))
 (sSeq (sFor (jZ2 (aCons (getv 0) (aCons (wslice (getv 0) (pIs (cI 1)) pNo) aNil))) (tT 2 (PL.tCons (tN 3) (PL.tCons (tN 4) PL.tNil)))
 (sIf (tand (tst (b2 ltD (vcall f__law_side (aCons (b2 ixD (getv 3) (cI 0)) (aCons (getv 1) aNil))) (cI 0))) (tst (b2 leD (vcall f__law_side (aCons (getv 1) (aCons (b2 ixD (getv 4) (cI 0)) aNil))) (cI 0))))
 (sSeq (sAsg (vcall f__law_over_k12 (aCons (vcall f__law_less_k12 (aCons (getv 1) (aCons (b2 ixD (getv 3) (cI 0)) aNil))) (aCons (vcall f__law_less_k12 (aCons (b2 ixD (getv 4) (cI 0)) (aCons (b2 ixD (getv 3) (cI 0)) aNil))) aNil))) (tN 5))
 (sAsg (vcall f__law_plus_k12 (aCons (b2 ixD (getv 3) (cI 1)) (aCons (vcall f__law_times_k12 (aCons (getv 5) (aCons (vcall f__law_less_k12 (aCons (b2 ixD (getv 4) (cI 1)) (aCons (b2 ixD (getv 3) (cI 1)) aNil))) aNil))) aNil))) (tN 2)))
 sNext))
 (sRet (getv 2))))
noncomputable def f__law_value_k12 : List D → M D := runB 6 b__law_value_k12

noncomputable def b__law_joined : MS :=
 (sSeq (sAsg (vlst aNil) (tN 1))
 (sSeq (sFor (iS (getv 0)) (tT 2 (PL.tCons (tN 2) (PL.tCons (tN 3) PL.tNil)))
 (sIf (tand (tst (b2 neD (getv 1) (vlst aNil))) (tst (b2 geD (vcall f__law_side (aCons (b2 ixD (b2 ixD (getv 1) (vneg (cI 1))) (cI 1)) (aCons (getv 2) aNil))) (cI 0))))
 (sSub (vtup (aCons (b2 ixD (b2 ixD (getv 1) (vneg (cI 1))) (cI 0)) (aCons (getv 3) aNil))) (getv 1) (vneg (cI 1)))
 (sDo (vmeth appD (getv 1) (aCons (vtup (aCons (getv 2) (aCons (getv 3) aNil))) aNil)))))
 (sRet (vcall tupleD (aCons (getv 1) aNil)))))
noncomputable def f__law_joined : List D → M D := runB 4 b__law_joined

noncomputable def b__law_noughts : MS :=
 (sSeq (sAsg (vlst aNil) (tN 1))
 (sSeq (sFor (jZ2 (aCons (getv 0) (aCons (wslice (getv 0) (pIs (cI 1)) pNo) aNil))) (tT 2 (PL.tCons (tN 2) (PL.tCons (tN 3) PL.tNil)))
 (sSeq (sAsg (vcall f__law_side (aCons (b2 ixD (getv 2) (cI 1)) (aCons (vtup (aCons (cI 0) (aCons (cI 1) aNil))) aNil))) (tN 4))
 (sSeq (sAsg (vcall f__law_side (aCons (b2 ixD (getv 3) (cI 1)) (aCons (vtup (aCons (cI 0) (aCons (cI 1) aNil))) aNil))) (tN 5))
 (sIf (tand (tst (b2 eqD (getv 4) (cI 0))) (tst (b2 eqD (getv 5) (cI 0))))
 (sDo (vmeth appD (getv 1) (aCons (vtup (aCons (b2 ixD (getv 2) (cI 0)) (aCons (b2 ixD (getv 3) (cI 0)) aNil))) aNil)))
 (sIf (tst (b2 leD (b2 mulD (getv 4) (getv 5)) (cI 0)))
 (sSeq (sAsg (vcall f__law_met (aCons (getv 2) (aCons (getv 3) (aCons (vtup (aCons (cI 0) (aCons (cI 1) aNil))) aNil)))) (tN 6))
 (sDo (vmeth appD (getv 1) (aCons (vtup (aCons (getv 6) (aCons (getv 6) aNil))) aNil))))
 sNext)))))
 (sRet (vcall f__law_joined (aCons (getv 1) aNil)))))
noncomputable def f__law_noughts : List D → M D := runB 7 b__law_noughts

noncomputable def b__law_is_fraction_k12 : MS :=
 (sSeq (sIf (tor (tnot (tru2 (vcall isiD (aCons (getv 0) (aCons (cT "tuple") aNil))))) (tst (b2 neD (vcall lenD (aCons (getv 0) aNil)) (cI 2))))
 (sRet (cB false))
 sNext)
 (sSeq (sIf (tst (b2 neD (vLc (iS (getv 0)) (tN 1) (tor (tru2 (vcall isiD (aCons (getv 1) (aCons (cT "bool") aNil)))) (tnot (tru2 (vcall isiD (aCons (getv 1) (aCons (cT "int") aNil)))))) (cI 1) [1]) (vlst aNil)))
 (sRet (cB false))
 sNext)
 (sRet (vand (b2 gtD (b2 ixD (getv 0) (cI 1)) (cI 0)) (b2 eqD (vcall f__law_fraction (aCons (b2 ixD (getv 0) (cI 0)) (aCons (b2 ixD (getv 0) (cI 1)) aNil))) (getv 0))))))
noncomputable def f__law_is_fraction_k12 : List D → M D := runB 2 b__law_is_fraction_k12

noncomputable def b__law_are_pairs : MS :=
 (sSeq (sIf (tor (tnot (tru2 (vcall isiD (aCons (getv 0) (aCons (cT "tuple") aNil))))) (tst (b2 neD (vcall lenD (aCons (getv 0) aNil)) (vcall lenD (aCons (getv 1) aNil)))))
 (sRet (cB false))
 sNext)
 (sSeq (sFor (iS (getv 0)) (tN 2)
 (sSeq (sIf (tor (tnot (tru2 (vcall isiD (aCons (getv 2) (aCons (cT "tuple") aNil))))) (tst (b2 neD (vcall lenD (aCons (getv 2) aNil)) (cI 2))))
 (sRet (cB false))
 sNext)
 (sIf (tor (tnot (tru2 (vcall f__law_is_fraction_k12 (aCons (b2 ixD (getv 2) (cI 0)) aNil)))) (tnot (tru2 (vcall f__law_is_fraction_k12 (aCons (b2 ixD (getv 2) (cI 1)) aNil)))))
 (sRet (cB false))
 sNext)))
 (sRet (b2 eqD (getv 0) (vcall tupleD (aCons (getv 1) aNil))))))
noncomputable def f__law_are_pairs : List D → M D := runB 3 b__law_are_pairs

noncomputable def b__law_with_knot : MS :=
 (sSeq (sAsg (vcall f__law_draw (aCons (getv 0) (aCons (b2 subD (vcall lenD (aCons (getv 1) aNil)) (cI 1)) aNil))) (tN 2))
 (sSeq (sAsg (vcall f__law_over_k12 (aCons (vcall f__law_plus_k12 (aCons (b2 ixD (b2 ixD (getv 1) (getv 2)) (cI 0)) (aCons (b2 ixD (b2 ixD (getv 1) (b2 addD (getv 2) (cI 1))) (cI 0)) aNil))) (aCons (vtup (aCons (cI 2) (aCons (cI 1) aNil))) aNil))) (tN 3))
 (sSeq (sAsg (vcall f__law_value_k12 (aCons (getv 1) (aCons (getv 3) aNil))) (tN 4))
 (sSeq (sIf (tor (tst (b2 gtD (vcall lenD (aCons (getv 1) aNil)) (cI 7))) (tst (b2 gtD (vcall max4D (aCons (vcall absD (aCons (b2 ixD (getv 3) (cI 0)) aNil)) (aCons (b2 ixD (getv 3) (cI 1)) (aCons (vcall absD (aCons (b2 ixD (getv 4) (cI 0)) aNil)) (aCons (b2 ixD (getv 4) (cI 1)) aNil))))) (cI 9999))))
 (sRet (getv 1))
 sNext)
 (sRet (b2 addD (b2 addD (wslice (getv 1) pNo (pIs (b2 addD (getv 2) (cI 1)))) (vtup (aCons (vtup (aCons (getv 3) (aCons (getv 4) aNil))) aNil))) (wslice (getv 1) (pIs (b2 addD (getv 2) (cI 1))) pNo)))))))
noncomputable def f__law_with_knot : List D → M D := runB 5 b__law_with_knot

noncomputable def b_law_k12 : MS :=
 (sSeq (sFor (iS (b2 addD (wslice (getv 0) pNo (pIs (cI 6))) (vlst (aCons (vcall f__law_folded (aCons (getv 0) aNil)) aNil)))) (tN 1)
 (sSeq (sAsg (vcall f__law_seed (aCons (getv 1) aNil)) (tN 2))
 (sSeq (sAsg (vcall f__law_map_k12 (aCons (getv 2) (aCons (cI 8) aNil))) (tN 3))
 (sSeq (sAsg (vcall f__law_noughts (aCons (vLc (iS (getv 3)) (tT 2 (PL.tCons (tN 5) (PL.tCons (tN 6) PL.tNil))) tYesD (vtup (aCons (getv 5) (aCons (vcall f__law_less_k12 (aCons (getv 6) (aCons (getv 5) aNil))) aNil))) [5, 6]) aNil)) (tN 4))
 (sSeq (sIf (tor (tst (b2 eqD (getv 4) (vtup aNil))) (tnot (tru2 (vcall f__law_are_pairs (aCons (vcall f_stays_of (aCons (getv 3) aNil)) (aCons (getv 4) aNil))))))
 (sRet (cB false))
 sNext)
 (sIf (tst (b2 neD (vcall f_stays_of (aCons (vcall f__law_with_knot (aCons (getv 2) (aCons (getv 3) aNil))) aNil)) (getv 4)))
 (sRet (cB false))
 sNext))))))
 (sRet (cB true)))
noncomputable def f_law_k12 : List D → M D := runB 7 b_law_k12

end BS

/-! EXCEPTIONS, part 2: an exception on its way from frame to frame -/
namespace PX
open PySem PySem.Spec PyProof.Rows L2 PL

/-- behind a call that ended by the exception at ea, of the class at C -/
structure Fly (P : Program) (w : World) (outer : List Env) (H H' : Hp) (s s' : Shared) (ea C : Addr) : Prop where
  os : s'.os = s.os
  bare : AllBare s'.gens
  un : Un (frs outer) [] H H' s.heap s'.heap
  hok : HOk P w H' s'.heap
  new : H' ea = none
  way : ∃ B a0, Heap.FlyingW B outer ea (.ref C) a0 s'.heap ∧ (∀ a o, H' a ≠ none → s'.heap.get? a = some o → B.get? a = some o) ∧
    (∀ b o, s.heap.get? b = some o → H b = none → b ∉ frs outer → B.get? b = some o) ∧ ∀ b o, s.heap.get? b = some o → b ∉ frs outer → ∃ o', B.get? b = some o'

section
variable {X : Cx} {pins : List (Addr × Obj)} {σ : L2.St} {H H' : Hp} {s s' : Shared} {ea C : Addr}
end
end PX

/-! EXCEPTIONS, part 3: code that ends by an exception -/
namespace PX
open PySem PySem.Spec PyProof.Rows L2 PL

/-- what raises: the class's name, and the store behind it -/
abbrev MX := Gm → M Str
/-- behind code that raised: made here (where mk lets), or come out of a call -/
def XP (X : Cx) (mk : Prop) (pins : List (Addr × Obj)) (σ : L2.St) (q : Rh) (H : Hp) (c : Str) (S' : Sto) (e : Value) (s' : Shared) : Prop :=
  ∃ ea C H' q', e = .ref ea ∧ PySem.W.nsIn X.K mainGlobals c = some (some (.ref C)) ∧ Stp H q H' q' ∧ SOk X.K H' q' S' ∧
    ((mk ∧ ∃ σ' s1 h1 args, Inv X pins σ' H' s1 ∧ s' = { s1 with heap := h1 } ∧ Heap.MadeExcOf s1.heap h1 ea (.ref C) args) ∨ ∃ σ1 H1 s1, (mk ∨ σ1 = σ) ∧ Inv X pins σ1 H1 s1 ∧ Fly X.prog X.w X.stack H1 H' s1 s' ea C)
structure XX (X : Cx) (mk : Prop) (sts : List Stmt) (mx : MX) : Prop where
  o : ∀ (pins : List (Addr × Obj)) (s : Shared) (σ : L2.St) (H : Hp) (G : Gm) (q : Rh) (S : Sto) (c : Str) (S' : Sto), Inv X pins σ H s → Ag X.K H q S σ G → mx G S = some (c, S') →
    wpAny (model X.prog X.w) X.A (execs sts X.env) (fun _ _ => False) (XP X mk pins σ q H c S') s
structure XX1 (X : Cx) (mk : Prop) (st : Stmt) (mx : MX) : Prop where
  o : ∀ (pins : List (Addr × Obj)) (s : Shared) (σ : L2.St) (H : Hp) (G : Gm) (q : Rh) (S : Sto) (c : Str) (S' : Sto), Inv X pins σ H s → Ag X.K H q S σ G → mx G S = some (c, S') →
    wpAny (model X.prog X.w) X.A (exec st X.env) (fun _ _ => False) (XP X mk pins σ q H c S') s
structure XXE (X : Cx) (e : Expr) (mx : MX) : Prop where
  o : ∀ (pins : List (Addr × Obj)) (s : Shared) (σ : L2.St) (H : Hp) (G : Gm) (q : Rh) (S : Sto) (c : Str) (S' : Sto), Inv X pins σ H s → Ag X.K H q S σ G → mx G S = some (c, S') →
    wpAny (model X.prog X.w) X.A (eval e X.env) (fun _ _ => False) (XP X False pins σ q H c S') s
abbrev Nox (X : Cx) : Prop := ∀ e s, X.xe e s → False

theorem XP.mono {X : Cx} {mk : Prop} {pins : List (Addr × Obj)} {σ σ1 : L2.St} {q q1 : Rh} {H H1 : Hp} {c : Str} {S' : Sto} {e : Value} {s' : Shared} (st : Stp H q H1 q1) (h : XP X mk pins σ1 q1 H1 c S' e s') (hs : mk ∨ σ1 = σ) : XP X mk pins σ q H c S' e s' := by
  obtain ⟨ea, C, H', q', h1, h2, h3, h4, h5⟩ := h
  refine ⟨ea, C, H', q', h1, h2, st.trans h3, h4, ?_⟩
  rcases h5 with h5 | ⟨a, b, d, h6, h7⟩
  · exact .inl h5
  · refine .inr ⟨a, b, d, ?_, h7⟩
    rcases h6 with z | z
    · exact .inl z
    · rcases hs with y | y
      · exact .inl y
      · exact .inr (z.trans y)
theorem XP.any {X : Cx} {mk : Prop} {pins : List (Addr × Obj)} {σ : L2.St} {q : Rh} {H : Hp} {c : Str} {S' : Sto} {e : Value} {s' : Shared} (h : XP X False pins σ q H c S' e s') : XP X mk pins σ q H c S' e s' := by
  obtain ⟨ea, C, H', q', h1, h2, h3, h4, h5⟩ := h
  refine ⟨ea, C, H', q', h1, h2, h3, h4, ?_⟩
  rcases h5 with ⟨z, _⟩ | ⟨a, b, d, h6, h7⟩
  · exact z.elim
  · exact .inr ⟨a, b, d, h6.elim (fun z => z.elim) .inr, h7⟩

section
variable {X : Cx} {mk : Prop} {st : Stmt} {rest sts : List Stmt} {m : MS} {mx my : MX} {e : Expr} {pos : Pos}
def xNo : MX := fun _ _ => none
def xOr (a b : MX) : MX := fun G S => match a G S with
  | some r => some r
  | none => b G S
def xR (m : MS) (mx : MX) : MX := fun G S => match m G S with
  | some (.nx, G1, S1) => mx G1 S1
  | _ => none
def xIf (c : Gm → M Bool) (a b : MX) : MX := fun G S => match c G S with
  | some (true, S1) => a G S1
  | some (false, S1) => b G S1
  | none => none
end

/-! ### defs that raise -/
def CXE (P : Program) (w : World) : CXT := fun outer H s E e s' => ∃ ea C H', e = .ref ea ∧ Fly P w outer H H' s s' ea C ∧ E (.ref C) none H'
def spX (K : PySem.W.Frag) (n : Nat) (gx : List D → M Str) : Sp := fun vs H _ E => vs.length = n ∧ ∃ q S ds c S', SOk K H q S ∧ Reps K H q vs ds ∧ gx ds S = some (c, S') ∧
  ∀ C H' q', PySem.W.nsIn K mainGlobals c = some (some (.ref C)) → Stp H q H' q' → SOk K H' q' S' → E (.ref C) none H'
structure PFnX (P : Program) (w : World) (K : PySem.W.Frag) (mg : Str → Option Value) (base : Heap) (x : Str) (ps : List Str) (k : Nat) (gx : List D → M Str) : Prop where
  ex : ∃ (f : Addr) (fd : FuncData), mg x = some (.ref f) ∧ PySem.W.keepIn K (.ref f) = true ∧ FnOk P w K mg base (CXE P w) k f fd ps (spX K ps.length gx) ∧ Binds K fd ps []
theorem PFnX.mono {P : Program} {w : World} {K : PySem.W.Frag} {mg : Str → Option Value} {base : Heap} {x : Str} {ps : List Str} {j k : Nat} {gx : List D → M Str} (F : PFnX P w K mg base x ps j gx) (h : j ≤ k) : PFnX P w K mg base x ps k gx := by
  obtain ⟨f, fd, h1, h2, h3, h4⟩ := F.ex
  exact ⟨f, fd, h1, h2, h3.mono h, h4⟩
def runX (n : Nat) (mx : MX) (ds : List D) : M Str := fun S => mx (startG n ds) S
section
variable {X : Cx} {x : Str} {ps : List Str} {k : Nat} {gx : List D → M Str} {e : Expr} {es : List Expr} {ms : Gm → M (List D)} {p pos : Pos}
def xCall (gx : List D → M Str) (ms : Gm → M (List D)) : MX := fun G => bnd (ms G) gx
end
end PX

/-! PURE LAYER, part 13: list(range(n)), pop at a place, shifts, the place of an int -/
namespace PL
open PySem PySem.Spec PyProof.Rows L2
section
variable {X : Cx} {K : PySem.W.Frag} {a : Expr} {p p2 pos pos2 : Pos}
def tLR (ta : TA) : TE := fun σ H Q => ta σ H fun vs H1 => ∃ j : Int, vs = [.int j] ∧ 0 ≤ j ∧ j ≤ 1000000 ∧ ∀ l, H1 l = none → Q (.ref l) (upd H1 l (.lst ((List.range j.toNat).map fun (i : Nat) => V.int (i : Int))))
def lrD : List D → M D
  | [.int j] => if 0 ≤ j ∧ j ≤ 1000000 then alloc (rng 0 j.toNat) else stuck
  | _ => stuck
/-- how a block's scope is seen from a block within it -/
def rl (sc so : Scope) : Scope := { sc with names := sc.names.map fun (n, k) => if (k == .free && so.kind == .function && so.names.lookup n == some .cell) then (n, .cell) else (n, k) }
/-! pop at a place -/
def popD : D → List D → M D
  | .ls n, [.int i] => fun S => match S[n]? with
    | some ds => if 0 ≤ i ∧ i < ds.length ∧ ds.length < 1000000 then (ds[i.toNat]?).map fun d => (d, S.set n (ds.eraseIdx i.toNat)) else none
    | none => none
  | _, _ => stuck
end
end PL

/-! PURE LAYER, part 16: (a, b, ..) = a list -/
namespace PL
open PySem PySem.Spec PyProof.Rows L2
section
variable {X : Cx} {pos : Pos}
/-- (a, b, ..) = a list of that length -/
def gLst (K : PySem.W.Frag) (n : Nat) (t : TGs) : TG := fun v σ H Q => ∃ a xs, v = .ref a ∧ SqL K H a xs ∧ xs.length = n ∧ t xs σ H Q
theorem pg_lst {es : List Expr} {k : Nat} {t : TGs} {n : Nat} (hc : X.calm = true) (h : PGs X es t)
    (hn : (assignEach es X.env).length = n := by rfl) (hst : (assignEach es X.env).findIdx? (·.1) = none := by rfl) : PG X (.Tuple es k pos) (gLst X.K n t) := by
  intro pins s σ H v u Q I r hw
  obtain ⟨a, xs, e1, hq, hl, hw⟩ := hw
  subst e1
  cases r
  obtain ⟨its, rv, ht, hz⟩ := I.list hq
  rw [assign_Tuple]
  refine wpAny_bind (wpAny_standAt ?_)
  unfold unpack
  have hs : (assignEach es X.env).length = its.toArray.size := by simp [hn, ← hl, rv.length]
  rw [hs, hst]
  refine wpAny_bind (wpAny_holding (PySem.W.kun_itemsOf (I.ok.hd hc) ht.isList fun h' hx => ?_))
  have I1 : Inv X pins σ H { s with heap := h' } := I.kept (t' := s.toks) fun b o e => hx b o (Nat.ne_of_lt (Heap.lt_size e)) e
  exact h pins _ σ H xs _ Q I1 (by simpa using rv) hw
variable {e : Expr} {me : Gm → M D}
def sAsgL (n : Nat) (m : Gm → M D) (gs : List D → Gm → Option Gm) : MS := fun G S => match m G S with
  | some (.ls k, S1) => match S1[k]? with
    | some ds => if ds.length = n then (gs ds G).map fun G1 => (.nx, G1, S1) else none
    | none => none
  | _ => none
theorem xs_asgL {es : List Expr} {kk : Nat} {tpos : Pos} {gls : TGs} {gs : List D → Gm → Option Gm} {ws : List Nat} {n : Nat} (hc : X.calm = true) (he : XE X e me) (h : PGs X es gls) (hcs : GCs X.K gls gs ws)
    (hn : (assignEach es X.env).length = n := by rfl) (hst : (assignEach es X.env).findIdx? (·.1) = none := by rfl)
    (hs : swapsWithSole [.Tuple es kk tpos] e pos.line X.env = pure false := by rfl) (hw : swappedStores [.Tuple es kk tpos] e X.env = pure none := by rfl)
    (h1 : (assignEach [.Tuple es kk tpos] X.env).map (·.2) = [assign (.Tuple es kk tpos) X.env] := by rfl) : XS X (.Assign [.Tuple es kk tpos] e pos) (sAsgL n me gs) :=
  XS.of (ps_asg he.o (pg_lst hc h hn hst) hs hw h1) fun D σ H G q S f G' S' g e k => by
    unfold sAsgL at e
    split at e
    · rename_i e1
      split at e
      · rename_i ds e2
        split at e
        · rename_i hl
          obtain ⟨G1, e3, e4⟩ := map_some e
          cases e4
          refine T.go g e1 fun v H1 q1 st1 g1 rp => ?_
          cases rp with
          | ls ha =>
            obtain ⟨xs, h1, h2⟩ := g1.sok.at_ _ _ _ ha e2
            exact ⟨_, xs, rfl, SqL.of h1, by rw [h2.length]; exact hl, hcs _ σ H1 _ _ G q1 _ _ g1 h2 e3 fun σ' _ g' => k σ' H1 q1 st1 g'⟩
        · cases e
      · cases e
    · cases e
end
end PL

/-! GENERATORS, part 1: the table of generators never shrinks -/
namespace L2
open PySem PySem.Spec PyProof.Rows
/-- the wish with the size -/
abbrev gw {α : Type} (n : Nat) (Q : α → Pos → Shared → Prop) : α → Pos → Shared → Prop := fun x p s => n ≤ s.gens.size ∧ Q x p s
end L2

set_option maxHeartbeats 4000000
/-! GENERATORS, part 2: a generator's block, its start, its turns -/
namespace L2
open PySem PySem.Spec PyProof.Rows
abbrev gA (A : Around) (ce : Env) : Around := A.in1.in1.deeper ce
theorem Room.gen {k : Nat} {A : Around} (r : Room (k + 1) A) (ce : Env) : Room k (gA A ce) :=
  ⟨r.hd, by have := r.dp; show A.depth + 1 + 3 * k + 5 < _; omega, by have := r.un; show A.units + 1 + 1 + 3 + 16 * k + 200 < _; omega⟩
abbrev Cx.gblk (X : Cx) (s : Shared) (H : Hp) (scope : Scope) (ce : Env) (fp : List Addr) : Cx :=
  { X with s_0 := s, H_0 := H, A := gA X.A ce, env := ce, outer := X.stack, stack := ce :: X.stack, ex := fp, fn := fun x => scope.names.lookup x == some .cell, pn := [], xe := fun _ _ => False }
abbrev gEnv (X : Cx) (scope : Scope) (cl : List (Str × Addr)) (C : Addr) (code : Value) : Env := genEnv scope cl C code builtinsNs X.env
section
variable {X : Cx} {pins : List (Addr × Obj)} {σ : St} {H : Hp} {s : Shared}
end
end L2

/-! GENERATORS, part 3: the turns; all and any -/
namespace L2
open PySem PySem.Spec PyProof.Rows
/-- all(.. for target in iter if ..) (st = false), any (st = true): it stops at the first st -/
def tAA (st : Bool) (wi : TI) (g : TG) (tt : TT) (te : TE) (vs : List Nat) : TE := fun σ H Q => wi σ H fun J H1 => ∃ W : Nat → Nat → Hp → Prop, (∃ m, W 0 m H1) ∧ ∀ i m H, W i m H →
  (J.stop i H ∧ Q (.bl (!st)) H) ∨ (J.go i H ∧ ∃ Nx : Hp → Prop, (∀ H', Nx H' → ∃ m', m' < m ∧ W (i + 1) m' H') ∧ ∀ x H', J.yld i H x H' → g x (wipe σ vs) H' fun σ2 H2 => wipe σ2 vs = wipe σ vs ∧ tt σ2 H2 fun b H3 =>
    if b = true then te σ2 H3 fun y H4 => ∃ c, y = .bl c ∧ if c = st then Q (.bl st) H4 else Nx H4 else Nx H3)
abbrev gEnd (Y : Cx) (gp : List (Addr × Obj)) (σ : St) (g : Nat) (st : Bool) (Q : VK) : GenEnd := fun _ _ r s1 => r = .ok .next ∧ ∃ H, Inv Y gp σ H s1 ∧ Q (.bl (!st)) H ∧ g < s1.gens.size
abbrev gYld (Y : Cx) (gp : List (Addr × Obj)) (σ : St) (g : Nat) (st : Bool) (Q : VK) : Protocol := fun _ _ v s kap => ∃ c H, v = .bool c ∧ Inv Y gp σ H s ∧ g < s.gens.size ∧
  ((c = st ∧ Q (.bl st) H) ∨ (c ≠ st ∧ ∀ s2 : Shared, s2.heap = s.heap → s2.os = s.os → AllBare s2.gens → g < s2.gens.size → kap (.send .none) s2))
section
variable {X Y : Cx} {a : Addr} {go : Obj} {σ : St} {fp : List Addr} {it : Addr} {tn : Nat → Heap → Prop} {J : It} {elt tg iter : Expr} {ifs : List Expr} {scope : Scope} {pos : Pos} {g : TG} {tt : TT} {te : TE} {vs : List Nat} {W : Nat → Nat → Hp → Prop} {Q : VK} {st : Bool} {gi : Nat} {A : Around}
end
section
variable {prog : Program} {w : World} {A : Around} {R : Result → Shared → Prop} {I : Addr} {W : Nat → Shared → Prop}
/-- what a turn of the loop of all (st = false), any (st = true) is to give -/
abbrev AAT (st : Bool) (R : Result → Shared → Prop) (W : Nat → Shared → Prop) (n : Nat) : Option Value → Shared → Prop := fun r s1 => match r with
  | none => R (.ok (.ret (.bool (!st)))) s1
  | some v => ∃ c, v = .bool c ∧ if c = st then R (.ok (.ret (.bool st))) s1 else ∃ m, m < n ∧ W m s1
end
end L2

/-! GENERATORS, part 4: all(..), any(..) over a generator, in a def whose code's table is tracked -/
namespace L2
open PySem PySem.Spec PyProof.Rows
/-- the code at cd is written in K, its table is one of the tracked ones -/
structure GCode (K : PySem.W.Frag) (cd : Value) : Prop where
  ex : ∃ (c : Addr) (o : Obj) (vs : Array Value) (P : Addr) (file : Str) (tf : Tok) (flags : Int) (tg : Tok) (inF : Bool) (text : Int) (tt : Tok), cd = .ref c ∧ K.lookup c = some o ∧ o.cls = .type "code" ∧ o.data = .fields vs ∧ vs[11]? = some (.ref P) ∧
    vs.getD 18 .none = .str file tf ∧ vs.getD 7 .none = .int flags tg ∧ vs.getD 9 .none = .bool inF ∧ vs.getD 10 .none = .int text tt ∧ P ∈ tabs K
section
variable {X : Cx} {pins : List (Addr × Obj)} {σ : St} {H : Hp} {s : Shared}
end
section
variable {X : Cx} {p pos gpos : Pos}
/-- the built-in's own head: all, any -/
def AAHead (X : Cx) (st : Bool) (nm : String) : Prop := ∀ (x : Addr) (s : Shared) (Q : Value → Shared → Prop) (E : Value → Shared → Prop) (g : Nat) (W : Nat → Shared → Prop) (n : Nat), s.heap.IsGen x g → W n s →
  (∀ n s, W n s → wpAny (model X.prog X.w) X.A.in1 (pyNext (.ref x)) (AAT st (fun r s' => match r with | .ok (.ret v) => Q v s' | _ => False) W n) (fun _ _ => False) s) → wpAny (model X.prog X.w) X.A (call (.builtin nm) [.ref x]) Q E s
end
end L2

/-! GENERATORS, part 5: all(..), any(..) in the pure layer; a def whose code's table is tracked; the part of K without the tables -/
namespace PL
open PySem PySem.Spec PyProof.Rows L2
open Classical in
noncomputable def aaL (st : Bool) (gd : Src) (g : D → Gm → Option Gm) (tt : Gm → M Bool) (te : Gm → M D) (G : Gm) : List D → Sto → Option (Bool × Sto)
  | [] => fun S => if Stays gd S then some (!st, S) else none
  | d :: ds => fun S => if Stays gd S then match g d G with
    | some G1 => match tt G1 S with
      | some (true, S2) => match te G1 S2 with
        | some (.bl c, S3) => if c = st then some (st, S3) else aaL st gd g tt te G ds S3
        | _ => none
      | some (false, S2) => aaL st gd g tt te G ds S2
      | none => none
    | none => none
    else none
noncomputable def vAA (st : Bool) (mi : Gm → M Src) (g : D → Gm → Option Gm) (tt : Gm → M Bool) (te : Gm → M D) (vs : List Nat) : Gm → M D := fun G => bnd (mi G) fun gd S =>
  (aaL st gd g tt te (wipeG G vs) gd.2 S).map fun r => (.bl r.1, r.2)
section
variable {X : Cx} {p pos gpos : Pos}
end
/-- K without the objects at Ps, and the mark that names them -/
def cutT (K : PySem.W.Frag) (Ps : List Addr) : PySem.W.Frag := K.filter (fun p => !Ps.contains p.1) ++ [(mainGlobals, tabMark (Ps.map .ref))]
section
variable {K : PySem.W.Frag} {Ps : List Addr} {a : Addr} {o : Obj}
theorem refs_map : ∀ Ps : List Addr, refsOf (Ps.map .ref) = Ps
  | [] => rfl
  | a :: r => by rw [List.map_cons, refsOf, List.filterMap_cons]; show a :: refsOf (r.map .ref) = _; rw [refs_map r]
theorem tabs_cut : tabs (cutT K Ps) = Ps := by
  unfold tabs cutT
  rw [List.getLast?_append]
  show tabsO (tabMark (Ps.map .ref)) = Ps
  show refsOf (Ps.map Value.ref).toArray.toList = Ps
  rw [List.toList_toArray]
  exact refs_map Ps
theorem lookup_filter : ∀ {K : PySem.W.Frag}, a ∉ Ps → (K.filter (fun p => !Ps.contains p.1)).lookup a = K.lookup a
  | [], _ => rfl
  | (b, x) :: r, h => by
    rw [List.filter_cons]
    by_cases hb : Ps.contains b = true
    · rw [if_neg (by rw [hb]; decide), lookup_filter h, List.lookup_cons]
      have : (a == b) = false := by
        have : b ∈ Ps := by simpa using hb
        rcases hq : a == b with _ | _
        · rfl
        · exact absurd ((beq_iff_eq.mp hq) ▸ this) h
      rw [this]
    · rw [if_pos (by simpa using hb), List.lookup_cons, List.lookup_cons, lookup_filter h]
theorem lookup_gone : ∀ {K : PySem.W.Frag}, a ∈ Ps → (K.filter (fun p => !Ps.contains p.1)).lookup a = none
  | [], _ => rfl
  | (b, x) :: r, h => by
    rw [List.filter_cons]
    by_cases hb : Ps.contains b = true
    · rw [if_neg (by rw [hb]; decide)]; exact lookup_gone h
    · rw [if_pos (by simpa using hb), List.lookup_cons]
      have : (a == b) = false := by
        rcases hq : a == b with _ | _
        · rfl
        · exact absurd (by simpa using (beq_iff_eq.mp hq) ▸ h) hb
      rw [this]; exact lookup_gone h
theorem cut_lookup (hm : ∃ om, K.lookup mainGlobals = some om) (hmP : mainGlobals ∉ Ps) (h : a ∉ Ps) : (cutT K Ps).lookup a = K.lookup a := by
  unfold cutT
  rw [List.lookup_append, lookup_filter h]
  cases e : K.lookup a with
  | some o => rfl
  | none =>
    rw [Option.none_or, List.lookup_cons]
    have : (a == mainGlobals) = false := by
      rcases hq : a == mainGlobals with _ | _
      · rfl
      · obtain ⟨om, q⟩ := hm
        rw [beq_iff_eq.mp hq, q] at e; cases e
    simp [List.lookup_cons, this]
theorem cut_gone (hmP : mainGlobals ∉ Ps) (h : a ∈ Ps) : (cutT K Ps).lookup a = none := by
  unfold cutT
  rw [List.lookup_append, lookup_gone h]
  have : (a == mainGlobals) = false := by
    rcases hq : a == mainGlobals with _ | _
    · rfl
    · exact absurd ((beq_iff_eq.mp hq) ▸ h) hmP
  simp [List.lookup_cons, this]
theorem cut_in {h : Heap} (X : K.In h) (hm : ∃ om, K.lookup mainGlobals = some om) (hmP : mainGlobals ∉ Ps) : (cutT K Ps).In h := fun b o e => by
  by_cases hb : b ∈ Ps
  · rw [cut_gone hmP hb] at e; cases e
  · rw [cut_lookup hm hmP hb] at e; exact X b o e
end
/-- the tables stand outside K -/
structure CutOk (K : PySem.W.Frag) (Ps : List Addr) : Prop where
  mg : ∃ om, K.lookup mainGlobals = some om
  nm : mainGlobals ∉ Ps
  tab : ∀ P ∈ Ps, K.lookup P = none
section
variable {K : PySem.W.Frag} {Ps : List Addr} {P : Addr}
theorem CutOk.lk (c : CutOk K Ps) {a : Addr} {o : Obj} (h : K.lookup a = some o) : (cutT K Ps).lookup a = some o := (cut_lookup c.mg c.nm fun z => by rw [c.tab a z] at h; cases h).trans h
theorem CutOk.ns (c : CutOk K Ps) {x : Str} {r : Option (Option Value)} (h : PySem.W.nsIn K mainGlobals x = r) : PySem.W.nsIn (cutT K Ps) mainGlobals x = r := by
  unfold PySem.W.nsIn at h ⊢
  rw [cut_lookup c.mg c.nm c.nm]; exact h
theorem CutOk.fn (c : CutOk K Ps) {f : Addr} {oc : Value} {od : Option Addr} {fd : FuncData} {sl : Array (Option Value)} (h : K.lookup f = some ⟨oc, od, .func fd, sl⟩) : (cutT K Ps).lookup f = some ⟨oc, od, .func fd, sl⟩ := c.lk h
theorem CutOk.cd (c : CutOk K Ps) {cd : Value} {q : Str} (h : PySem.W.codeIn K cd q = true) : PySem.W.codeIn (cutT K Ps) cd q = true := by
  cases cd <;> try exact h
  rename_i a
  unfold PySem.W.codeIn at h ⊢
  dsimp only at h ⊢
  by_cases ha : a ∈ Ps
  · rw [c.tab a ha] at h
    cases h
  · rw [show (cutT K Ps).lookup a = K.lookup a from cut_lookup c.mg c.nm ha]; exact h
theorem CutOk.kp (c : CutOk K Ps) {f : Addr} {oc : Value} {od : Option Addr} {fd : FuncData} {sl : Array (Option Value)} (h : K.lookup f = some ⟨oc, od, .func fd, sl⟩) : PySem.W.keepIn (cutT K Ps) (.ref f) = true := by
  unfold PySem.W.keepIn
  dsimp only
  rw [c.fn h]
/-- P is the table of the code of the def x -/
def CodeOf (K : PySem.W.Frag) (q : Program) (P : Addr) : Prop := ∃ (x : Str) (f ca : Addr) (oc : Value) (od dc : Option Addr) (fd : FuncData) (sl sc : Array (Option Value)) (vs : Array Value), PySem.W.nsIn K mainGlobals x = some (some (.ref f)) ∧ K.lookup f = some ⟨oc, od, .func fd, sl⟩ ∧ fd.code = .ref ca ∧
  K.lookup ca = some ⟨.type "code", dc, .fields vs, sc⟩ ∧ vs[11]? = some (.ref P) ∧ ∃ d ∈ recsOf q, d.name = x
theorem CutOk.hT (c : CutOk K Ps) {h : Heap} {q : Program} {loose : List Str} {mean : ExcName → Option Value} {mg mb : Str → Option Value} (T : Top q loose mean mg mb h) (X : K.In h) (hD : ∀ P ∈ Ps, CodeOf K q P) :
    ∀ P ∈ tabs (cutT K Ps), (cutT K Ps).lookup P = none ∧ ∃ c ps, h.TableAt c P ps ∧ TriplesOk ps.toList := fun P hP => by
  rw [tabs_cut] at hP
  obtain ⟨x, f, ca, oc, od, dc, fd, sl, sc, vs, h1, h2, h3, h4, h5, d, hd, hx⟩ := hD P hP
  obtain ⟨a, o, fd', c', P', t1, t2, t3, t4, _, t6⟩ := T.tab d hd
  have e1 := (PySem.W.mg_of X T.g h1)
  rw [← hx, t1] at e1
  cases e1
  have e2 := X _ _ h2
  rw [t2] at e2
  cases e2
  have t3 : Data.func fd = Data.func fd' := t3
  cases t3
  rw [h3] at t4
  cases t4
  obtain ⟨⟨oc', vs', u1, u2, u3, u4⟩, u5⟩ := id t6
  have e3 := X _ _ h4
  rw [u1] at e3
  cases e3
  have u3 : Data.fields vs = Data.fields vs' := u3
  cases u3
  rw [h5] at u4
  cases u4
  exact ⟨cut_gone c.nm hP, ca, #[], t6, trivial⟩
end
end PL

/-! GENERATORS, part 6: the law's head over the part of K without the tables -/
namespace PL
open PySem PySem.Spec PyProof.Rows L2
theorem codes_nil {K : PySem.W.Frag} {q : Program} : ∀ P ∈ ([] : List Addr), CodeOf K q P := fun _ h => nomatch h
theorem tabs_nil {K : PySem.W.Frag} : ∀ P ∈ ([] : List Addr), K.lookup P = none := fun _ h => nomatch h
theorem cutOk_mk {K : PySem.W.Frag} {Ps : List Addr} {om : Obj} (m : K.lookup mainGlobals = some om) (t : ∀ P ∈ Ps, K.lookup P = none) (n : mainGlobals ∉ Ps) : CutOk K Ps := ⟨⟨om, m⟩, n, t⟩
theorem walk_plT {l : PySem.W.OpenLaw} {k : Nat} {q : Program} {loose : List Str} {XP : (Str → Option Value) → Heap → Prop} {YP : World → Heap → Prop} {d : DefRec} {K : Params → PySem.W.Frag} {Ps : List Addr} {mf : List D → M D}
    (hm : ∀ ns : List Int, ns.length ≤ 63 → ∃ S', mf [.ro (ns.map D.int)] [] = some (.bl true, S'))
    (hn : l.most = some 63) (hdf : d.params.defaults = []) (hr : Room k callerA)
    (hY : ∀ (w : World) (h : Heap), YP w h → (K w.params).In h) (hC : ∀ w : World, CutOk (K w.params) Ps) (hD : ∀ w : World, ∀ P ∈ Ps, CodeOf (K w.params) q P)
    (F : ∀ (w : World) (mg : Str → Option Value) (fa : Addr) (h : Heap), CutOk (K w.params) Ps → (K w.params).In h → h.Ns mainGlobals mg → mg d.name = some (.ref fa) →
      ∃ fd : FuncData, (∀ (s : Shared) (u : Value), BindsTo s fd ⟨[u], []⟩ [("script", u)]) ∧
        ∀ base : Heap, (cutT (K w.params) Ps).In base → base.Ns mainGlobals mg → FnOk l.prog w (cutT (K w.params) Ps) mg base CX0 k fa fd ["script"] (spF (cutT (K w.params) Ps) 1 mf)) :
    PySem.W.WalkO q loose XP YP l.row.toRowW d [] (fun f vs => PySem.call f vs) := by
  refine Att.attach_call hn hdf fun w s₀ s₁ mg mb fa o pm cd doc a vs ns G Y ho hd hcd hmg hobj hints hlen hg => ?_
  have KX := hY w _ Y
  obtain ⟨fd, hb, hF⟩ := F w mg fa _ (hC w) KX G.T.g hmg
  exact law_call (cut_in KX (hC w).mg (hC w).nm) G.T.g G.T.b G.T.builtins G.T.nolimit hg hobj hints (Nat.le_trans hlen (by decide)) hr hF hb (fun H hO hS => sp_true hm _ H a ns hlen hO hS) (fun H e s' z => z)
    ((hC w).hT G.T KX (hD w)) G.T.bmain
end PL

set_option maxHeartbeats 2000000
/-! What is read of K is read of K without its tables as well -/
namespace PL
open PySem PySem.Spec PyProof.Rows L2
section
variable {K K' : PySem.W.Frag}
theorem ns_same (h : ∀ a : Addr, K'.lookup a = K.lookup a) (a : Addr) (x : Str) : PySem.W.nsIn K' a x = PySem.W.nsIn K a x := by unfold PySem.W.nsIn; rw [h]
theorem type_same (h : ∀ a : Addr, K'.lookup a = K.lookup a) (v : Value) : PySem.W.typeIn K' v = PySem.W.typeIn K v := by
  unfold PySem.W.typeIn
  cases v <;> simp only [h]
theorem cls_same (h : ∀ a : Addr, K'.lookup a = K.lookup a) (a : Addr) : PySem.W.clsIn K' a = PySem.W.clsIn K a := by unfold PySem.W.clsIn; rw [h]
theorem nsOk_same (h : ∀ a : Addr, K'.lookup a = K.lookup a) (a : Addr) : PySem.W.nsOkIn K' a = PySem.W.nsOkIn K a := by unfold PySem.W.nsOkIn; rw [h]
theorem tail_same (h : ∀ a : Addr, K'.lookup a = K.lookup a) (b : List Value) : ∀ l : List Value, PySem.W.tailIn K' b l = PySem.W.tailIn K b l
  | [] => rfl
  | v :: l => by
    unfold PySem.W.tailIn
    cases v <;> simp only [h, nsOk_same h, ns_same h, tail_same h b l]
theorem exc_same (h : ∀ a : Addr, K'.lookup a = K.lookup a) (C : Addr) (b : List Value) (n : String) : PySem.W.excIn K' C b n = PySem.W.excIn K C b n := by
  unfold PySem.W.excIn
  simp only [h, tail_same h, nsOk_same h, ns_same h]
end
section
variable {K : PySem.W.Frag} {Ps : List Addr}
theorem CutOk.same (c : CutOk K Ps) (a : Addr) : (cutT K Ps).lookup a = K.lookup a := by
  by_cases h : a ∈ Ps
  · rw [c.tab a h]
    unfold cutT
    rw [List.lookup_append]
    have e1 : (K.filter fun p => !Ps.contains p.1).lookup a = none := by
      rw [List.lookup_eq_none_iff]
      intro p hp
      have := (List.mem_filter.mp hp).2
      simp only [Bool.not_eq_true', List.contains_eq_mem, decide_eq_false_iff_not] at this
      exact bne_iff_ne.mpr fun (z : a = p.1) => this (by rw [← z]; exact h)
    have e2 : (a == mainGlobals) = false := beq_eq_false_iff_ne.mpr fun z => c.nm (z ▸ h)
    rw [e1, Option.none_or, List.lookup_cons, e2]
    rfl
  · exact cut_lookup c.mg c.nm h
theorem CutOk.type (c : CutOk K Ps) {v : Value} {r : Option Value} (h : PySem.W.typeIn K v = r) : PySem.W.typeIn (cutT K Ps) v = r := (type_same c.same v).trans h
theorem CutOk.cls (c : CutOk K Ps) {a : Addr} {r : Option ClassData} (h : PySem.W.clsIn K a = r) : PySem.W.clsIn (cutT K Ps) a = r := (cls_same c.same a).trans h
theorem CutOk.exc (c : CutOk K Ps) {a : Addr} {b : List Value} {n : String} {r : Bool} (h : PySem.W.excIn K a b n = r) : PySem.W.excIn (cutT K Ps) a b n = r := (exc_same c.same a b n).trans h
end
end PL

/-! PURE LAYER, part 23: reversed of a tuple -/
namespace PL
open PySem PySem.Spec PyProof.Rows L2
/-! what the model's tables say of the type -/
def rvO (t : Addr) (i : Int) : Obj := { cls := .type "reversed", data := .fields #[.ref t, rawInt i] }
def IsRv (h : Heap) (it t : Addr) (i : Int) : Prop := ∃ o, h.get? it = some o ∧ o.cls = .type "reversed" ∧ o.data = .fields #[.ref t, rawInt i]
section
variable {prog : Program} {w : World} {A : Around} {E : Value → Shared → Prop} {s : Shared}
end
end PL

/-! PURE LAYER, part 24: a walk over reversed of a tuple -/
namespace PL
open PySem PySem.Spec PyProof.Rows L2
/-- what reversed of the tuple at a (n items) gives -/
def ItV (K : PySem.W.Frag) (a : Addr) (n : Nat) : It where
  go i H := i < n ∧ ∃ vs v, SqT K H a vs ∧ vs[n - 1 - i]? = some v
  yld i H y H' := H' = H ∧ ∀ vs, SqT K H a vs → vs[n - 1 - i]? = some y
  stop i _ := n ≤ i
theorem IsRv.at_ {h h' : Heap} {e a : Addr} {i : Int} (g : IsRv h e a i) (k : ∀ o, h.get? e = some o → h'.get? e = some o) : IsRv h' e a i := let ⟨o, q, r⟩ := g; ⟨o, k o q, r⟩
def iRvT (K : PySem.W.Frag) (ta : TA) : TI := fun σ H R => ta σ H fun vs H1 => ∃ a us, vs = [.ref a] ∧ SqT K H1 a us ∧ us.length ≤ sizeLine ∧ R (ItV K a us.length) H1
def rvTD : List D → M Src
  | [.tup ds] => if ds.length ≤ sizeLine then ret (none, ds.reverse) else stuck
  | _ => stuck
def jRT (ms : Gm → M (List D)) : Gm → M Src := fun G => bnd (ms G) rvTD
end PL

/-! PURE LAYER, part 28: dicts in the store -/
namespace PL
open PySem PySem.Spec PyProof.Rows L2
/-- the key that a thing is: of a tuple of two its two, else itself -/
def keyT : Bool → D → Option (List Key)
  | true, d => keysD d
  | false, d => (keyD d).map fun k => [k]
def findD (t : Bool) (k : List Key) : List D → Option D
  | [] => none
  | .tup [a, b] :: r => if keyT t a = some k then some b else findD t k r
  | _ :: r => findD t k r
def rplD (t : Bool) (k : List Key) (v : D) : D → D
  | .tup [a, b] => if keyT t a = some k then .tup [a, v] else .tup [a, b]
  | e => e
def putD (t : Bool) (k : List Key) (kd v : D) (ds : List D) : List D :=
  if (findD t k ds).isSome then ds.map (rplD t k v) else ds ++ [.tup [kd, v]]
section
variable {K : PySem.W.Frag} {H : Hp} {r : Rh} {S : Sto} {a : Addr} {n : Nat} {t : Bool} {ds : List D}
theorem find_rel {κ : Type} [DecidableEq κ] {key : D → Option κ} {f : κ → List Key} (hf : ∀ d, keyT t d = (key d).map f) (inj : ∀ x y, f x = f y → x = y) : ∀ {kvs : List (κ × V)} {ds : List D}, DRep key K H r kvs ds → ∀ k,
    (∃ v vd, valV kvs k = some v ∧ findD t (f k) ds = some vd ∧ Rep K H r v vd) ∨ (valV kvs k = none ∧ findD t (f k) ds = none)
  | [], ds, h, k => by
    have := h.len
    cases ds with
    | nil => exact .inr ⟨rfl, rfl⟩
    | cons _ _ => cases this
  | (k0, v0) :: kvs, [], h, k => by have := h.len; cases this
  | (k0, v0) :: kvs, d :: ds, h, k => by
    obtain ⟨kd, vd, e1, e2, e3⟩ := h.at_ 0 k0 v0 rfl
    cases e1
    have ht : DRep key K H r kvs ds := ⟨by have := h.len; simpa using this, fun i k v e => h.at_ (i + 1) k v (by simpa using e)⟩
    have ek : keyT t kd = some (f k0) := by rw [hf, e2]; rfl
    by_cases e : k0 = k
    · subst e
      refine .inl ⟨v0, vd, valV_pos rfl, ?_, e3⟩
      show (if keyT t kd = some (f k0) then some vd else _) = _
      rw [if_pos ek]
    · have hne : ¬ keyT t kd = some (f k) := fun z => e (inj _ _ (by rw [ek] at z; exact Option.some.inj z))
      have q : findD t (f k) (.tup [kd, vd] :: ds) = findD t (f k) ds := by
        show (if keyT t kd = some (f k) then some vd else _) = _
        rw [if_neg hne]
      rw [q, valV_neg (p := (k0, v0)) e]
      exact find_rel hf inj ht k
theorem DRep.put {κ : Type} [DecidableEq κ] {key : D → Option κ} {f : κ → List Key} (hf : ∀ d, keyT t d = (key d).map f) (inj : ∀ x y, f x = f y → x = y) {kvs : List (κ × V)} (h : DRep key K H r kvs ds) {k : κ} {kd vd : D} {v : V}
    (hk : key kd = some k) (rv : Rep K H r v vd) : DRep key K H r (putK kvs k v) (putD t (f k) kd vd ds) := by
  unfold putK putD
  rw [valV_any]
  rcases find_rel hf inj h k with ⟨v', vd', e1, e2, _⟩ | ⟨e1, e2⟩
  · rw [e1, e2]
    simp only [Option.isSome_some, if_true]
    refine ⟨by simp [h.len], fun i k' w e => ?_⟩
    rw [List.getElem?_map] at e
    obtain ⟨⟨k0, v0⟩, g1, g2⟩ := map_some e
    obtain ⟨kd0, vd0, h1, h2, h3⟩ := h.at_ i k0 v0 g1
    rw [List.getElem?_map, h1, Option.map_some]
    have ek : keyT t kd0 = some (f k0) := by rw [hf, h2]; rfl
    dsimp only at g2
    by_cases ee : k0 = k
    · subst ee
      rw [if_pos rfl] at g2
      cases g2
      refine ⟨kd0, vd, ?_, h2, rv⟩
      show some (rplD t _ vd (.tup [kd0, vd0])) = _
      unfold rplD
      dsimp only
      rw [if_pos ek]
    · rw [if_neg ee] at g2
      cases g2
      refine ⟨kd0, vd0, ?_, h2, h3⟩
      show some (if keyT t kd0 = some (f k) then D.tup [kd0, vd] else _) = _
      rw [if_neg fun z => ee (inj _ _ (by rw [ek] at z; exact Option.some.inj z))]
  · rw [e1, e2]
    simp only [Option.isSome_none, if_neg (show ¬ (false = true) by decide)]
    refine ⟨by simp [h.len], fun i k' w e => ?_⟩
    by_cases hi : i < kvs.length
    · rw [List.getElem?_append_left hi] at e
      rw [List.getElem?_append_left (by rw [← h.len]; exact hi)]
      exact h.at_ i k' w e
    · rw [List.getElem?_append_right (by omega)] at e
      have hlt := (List.getElem?_eq_some_iff.mp e).1
      have ei : i = kvs.length := by simp at hlt; omega
      subst ei
      rw [Nat.sub_self] at e
      cases e
      rw [List.getElem?_append_right (by rw [h.len]; exact Nat.le_refl _), ← h.len, Nat.sub_self]
      exact ⟨kd, vd, rfl, hk, rv⟩
theorem SOk.dt (s : SOk K H r S) (h : IsDc H r true n a) (hx : S[n]? = some ds) : ∃ kvs, H a = some (.dT kvs) ∧ DRep keysD K H r kvs ds := by
  have hk := h.kd
  rcases s.cell n a ds h.ix hx with ⟨_, e, _⟩ | ⟨_, e, _⟩ | q
  · rw [e] at hk; cases hk
  · rw [e] at hk; cases hk
  · exact q
theorem SOk.dk (s : SOk K H r S) (h : IsDc H r false n a) (hx : S[n]? = some ds) : ∃ kvs, H a = some (.dK kvs) ∧ DRep keyD K H r kvs ds := by
  have hk := h.kd
  rcases s.cell n a ds h.ix hx with ⟨_, e, _⟩ | q | ⟨_, e, _⟩
  · rw [e] at hk; cases hk
  · exact q
  · rw [e] at hk; cases hk
end
/-! the key in the dict -/
def inDcD (x y : D) : M D := match y with
  | .dc t n => fun S => match S[n]?, keyT t x with
    | some ds, some k => some (.bl (findD t k ds).isSome, S)
    | _, _ => none
  | _ => stuck
def niDcD (x y : D) : M D := match y with
  | .dc t n => fun S => match S[n]?, keyT t x with
    | some ds, some k => some (.bl (!(findD t k ds).isSome), S)
    | _, _ => none
  | _ => stuck
def getDcD (y x : D) : M D := match y with
  | .dc t n => fun S => match S[n]?, keyT t x with
    | some ds, some k => (findD t k ds).map fun d => (d, S)
    | _, _ => none
  | _ => stuck
def setDc (y x v : D) (S : Sto) : Option Sto := match y with
  | .dc t n => match S[n]?, keyT t x with
    | some ds, some k => if ds.length < 1000000 then some (S.set n (putD t k x v ds)) else none
    | _, _ => none
  | _ => none
def rDIn (K : PySem.W.Frag) : R2 := fun y x H Q => ∃ a o, x = .ref a ∧ DGet H a y o ∧ Q (.bl o.isSome) H
def rDNi (K : PySem.W.Frag) : R2 := fun y x H Q => ∃ a o, x = .ref a ∧ DGet H a y o ∧ Q (.bl (!o.isSome)) H
section
variable {X : Cx} {K : PySem.W.Frag}
variable {a b : Expr} {ma mb : Gm → M D} {pos : Pos}
def sSubDc (mv mo mi : Gm → M D) : MS := fun G S => match mv G S with
  | some (v, S1) => match mo G S1 with
    | some (o, S2) => match mi G S2 with
      | some (i, S3) => (setDc o i v S3).map fun S4 => (.nx, G, S4)
      | none => none
    | none => none
  | none => none
end
/-! displays: {}, {k: v} -/
/-- {k: v} with a tuple as key; the new dict stands empty while the pair is made -/
def tDisp1T (tk tv : TE) : TE := fun σ H Q => ∀ p, H p = none → tk σ (upd H p (.dT [])) fun x H1 => tv σ H1 fun y H2 => H2 p = some (.dT []) ∧ ∃ b k, x = .ref b ∧ H2 b = some (.tup (k.map kV)) ∧ Q (.ref p) (upd H2 p (.dT [(k, y)]))
section
variable {X : Cx} {K : PySem.W.Frag} {pos : Pos}
def dispD (t : Bool) (mk mv : Gm → M D) : Gm → M D := fun G S => match mk G (S ++ [[]]) with
  | some (k, S1) => match mv G S1 with
    | some (v, S2) => match S2[S.length]?, keyT t k with
      | some [], some _ => some (.dc t S.length, S2.set S.length [.tup [k, v]])
      | _, _ => none
    | none => none
  | none => none
def dNewD (t : Bool) : Gm → M D := fun _ S => some (.dc t S.length, S ++ [[]])
end
end PL

/-! list.extend with a tuple; range(i, j, 2) -/
namespace PL
open PySem PySem.Spec PyProof.Rows L2
section
variable {X : Cx}
def rExtendT (K : PySem.W.Frag) : V → List V → Hp → VK → Prop := fun x vs H Q => ∃ l b xs zs, x = .ref l ∧ vs = [.ref b] ∧ H l = some (.lst xs) ∧ SqT K H b zs ∧ xs.length + zs.length ≤ sizeLine ∧ Q .non (upd H l (.lst (xs ++ zs)))
variable {K : PySem.W.Frag}
def extTD : D → List D → M D
  | .ls n, [.tup es] => fun S => match S[n]? with
    | some ds => if ds.length + es.length ≤ sizeLine then some (.non, S.set n (ds ++ es)) else none
    | _ => none
  | _, _ => stuck
end
/-! range(i, j, 2) -/
def up2 (i : Int) (n : Nat) : List D := (List.range n).map fun k : Nat => .int (i + (k : Int) * 2)
theorem size2 (a b : Int) : Builtin.Range.rangeSize a b 2 = if a < b then (b - a - 1) / 2 + 1 else 0 := by
  unfold Builtin.Range.rangeSize
  simp only [show ((2 : Int) > 0) by decide, if_true]
theorem RgC.two {i j : Int} (ha : 0 ≤ i) (ha' : i < 2 ^ 30) (hb : i ≤ j) (hb' : j < 2 ^ 30) : RgC i j 2 ((j - i + 1) / 2).toNat := by
  refine ⟨by decide, by decide, ?_, ?_⟩
  · unfold Builtin.Range.small
    rw [size2]
    simp only [Builtin.Range.rangeFitsLong, Bool.and_eq_true, Bool.or_eq_true, decide_eq_true_eq, beq_iff_eq, show ((2 : Int) > 0) by decide, if_true]
    split <;> omega
  · rw [size2]
    split <;> omega
def rngD32 : List D → M Src
  | [.int i, .int j, .int c] => if c = 2 ∧ 0 ≤ i ∧ i < 2 ^ 30 ∧ i ≤ j ∧ j < 2 ^ 30 then ret (none, up2 i ((j - i + 1) / 2).toNat) else stuck
  | _ => stuck
def iR32 (ms : Gm → M (List D)) : Gm → M Src := fun G => bnd (ms G) rngD32
end PL

/-! a zip of two things of any kind: each is told by how its iterator stands at a place, and what it gives there -/
namespace PL
open PySem PySem.Spec PyProof.Rows L2
/-- what a zip draws from -/
structure Feed (P : Program) (w : World) where
  it : Addr
  rd : List Addr
  st : Nat → Heap → Prop
  has : Nat → Prop
  val : Nat → Value → Prop
  keep : ∀ {i : Nat} {h h' : Heap}, st i h → (∀ c o, (c = it ∨ c ∈ rd) → h.get? c = some o → h'.get? c = some o) → st i h'
  obj : ∀ {i : Nat} {h : Heap}, st i h → ∃ o, h.get? it = some o ∧ ∀ v, o.data ≠ .cell v
  give : ∀ {A : Around} {E : Value → Shared → Prop} {s : Shared} {i : Nat} {Q : Value → Shared → Prop}, st i s.heap → has i →
    (∀ h' tk v, val i v → st (i + 1) h' → Heap.SameBut it s.heap h' → Q v { s with heap := h', toks := tk }) → wpAny (model P w) A (Builtin.SmallTypes.nextOf (.ref it)) Q E s
  stop : ∀ {A : Around} {E : Value → Shared → Prop} {s : Shared} {i : Nat} {Q : Value → Shared → Prop}, A.handled = none → st i s.heap → ¬ has i →
    (∀ h' e, Heap.ExtBut it s.heap h' → (∃ o, h'.get? e = some o ∧ o.cls = .type "StopIteration") → E (.ref e) { s with heap := h' }) → wpAny (model P w) A (Builtin.SmallTypes.nextOf (.ref it)) Q E s
def ofList (P : Program) (w : World) (it l : Addr) (xs : Array Value) (n : l ≠ it) : Feed P w where
  it := it
  rd := [l]
  st := fun i h => h.IsListIter it l i ∧ h.IsList l xs
  has := fun i => i < xs.size
  val := fun i v => xs[i]? = some v
  keep := fun st k => ⟨st.1.at fun o => k _ o (.inl rfl), st.2.at fun o => k _ o (.inr (by simp))⟩
  obj := fun st => by obtain ⟨o, e, _, d⟩ := st.1; exact ⟨o, e, fun v q => by rw [d] at q; cases q⟩
  give := fun st hi k => wpAny_nextOf_list_item st.1 st.2 (Array.getElem?_eq_getElem hi) fun h' a b => k h' _ _ (Array.getElem?_eq_getElem hi) ⟨a, st.2.extBut b.extBut n⟩ b
  stop := fun hh st hi k => wpAny_nextOf_list_end hh st.1 st.2 (Array.getElem?_eq_none (Nat.le_of_not_lt hi)) k
abbrev asc : String := "str_ascii_iterator"
def ofText (P : Program) (w : World) (it : Addr) (x : Str) (t : Tok) : Feed P w where
  it := it
  rd := []
  st := fun i h => h.IsStrIter it asc x t i
  has := fun i => i < x.cps.size
  val := fun i v => ∃ c tk, x.cps[i]? = some c ∧ v = .str ⟨#[c]⟩ tk
  keep := fun st k => by obtain ⟨o, e, r⟩ := st; exact ⟨o, k _ o (.inl rfl) e, r⟩
  obj := fun st => by obtain ⟨o, e, _, d⟩ := st; exact ⟨o, e, fun v q => by rw [d] at q; cases q⟩
  give := fun st hi k => wpAny_nextOf_ascii_item st (Array.getElem?_eq_getElem hi) fun h' a b => k h' _ _ ⟨_, _, Array.getElem?_eq_getElem hi, rfl⟩ a b
  stop := fun hh st hi k => wpAny_nextOf_ascii_end hh st (Array.getElem?_eq_none (Nat.le_of_not_lt hi)) k
section
variable {P : Program} {w : World} {A : Around} {E : Value → Shared → Prop} {s : Shared}
theorem loop2 {α σ : Type} {body : α → σ → Sem (ForInStep σ)} {a b : α} {st : σ} {Q : σ → Shared → Prop} (h : wpAny (model P w) A (body a st) (fun r s1 => ∃ st1, r = .yield st1 ∧ wpAny (model P w) A (body b st1) (fun r s2 => ∃ st2, r = .yield st2 ∧ Q st2 s2) E s1) E s) :
    wpAny (model P w) A (forIn [a, b] st body) Q E s := by
  rw [List.forIn_cons]
  refine wpAny_bind (wpAny_mono h (fun r s1 q => ?_) fun _ _ e => e)
  obtain ⟨st1, rfl, q⟩ := q
  show wpAny _ _ (forIn [b] st1 body) _ _ _
  rw [List.forIn_cons]
  refine wpAny_bind (wpAny_mono q (fun r s2 q => ?_) fun _ _ e => e)
  obtain ⟨st2, rfl, q⟩ := q
  show wpAny _ _ (forIn [] st2 body) _ _ _
  rw [List.forIn_nil]
  exact wpAny_pure q
theorem loop2A {α σ : Type} {body : α → σ → Sem (ForInStep σ)} {a b : α} {st : σ} {Q : σ → Shared → Prop} (h : wpAny (model P w) A (body a st) (fun r s1 => ∃ st1, r = .yield st1 ∧ wpAny (model P w) A (body b st1) (fun r s2 => ∃ st2, r = .yield st2 ∧ Q st2 s2) E s1) E s) :
    wpAny (model P w) A (forIn #[a, b] st body) Q E s := by
  have := loop2 h
  rwa [← Array.forIn_toList]
/-- a zip's mark: none, or the pair given last, still in use -/
abbrev IsZk (h : Heap) (z TI TO T : Addr) (f : Bool) : Prop :=
  h.get? z = some { cls := .type "zip", dict := none, data := .fields #[rawInt T, .bool f, .bool false, .ref TI, .ref TO], slots := #[] }
theorem busy {α : Type} {z TI TO T : Addr} {f : Bool} {o : Obj} {F : Bool → Sem α} {Q : α → Shared → Prop} (hz : IsZk s.heap z TI TO T f) (hT : s.heap.get? T = some o)
    (k : ∀ h', IsZk h' z TI TO T true → Heap.SameBut z s.heap h' → wpAny (model P w) A (F false) Q E { s with heap := h' }) : wpAny (model P w) A (Builtin.SmallTypes.ownedTupleIsFree (.ref z) >>= F) Q E s := by
  unfold Builtin.SmallTypes.ownedTupleIsFree
  refine wpAny_bind (fld hz rfl (v := rawInt T) rfl (wpAny_bind (?_ : wpAny _ _ (loadIfAlive ((T : Int).toNat)) _ _ _)))
  rw [Int.toNat_natCast]
  refine PySem.W.kdx_alive hT (fld hz rfl (v := .bool f) rfl ?_)
  cases f
  · exact wpAny_bind (wpAny_setField_rec hz (Nat.succ_lt_succ (Nat.zero_lt_succ _)) fun h' a b => wpAny_pure (k h' a b))
  · exact wpAny_pure (k s.heap hz (Heap.SameBut.refl _ _))
variable {f g : Feed P w} {z TI TO : Addr}
/-- none of a zip's parts is another -/
structure Ap (f g : Feed P w) (z TI TO : Addr) : Prop where
  nd : [z, TI, TO, f.it, g.it].Nodup
  rd : ∀ c, c ∈ f.rd ∨ c ∈ g.rd → c ∉ [z, TO, f.it, g.it]
/-- a zip that has given i pairs -/
structure Zf (f g : Feed P w) (z TI TO : Addr) (X : Addr → Prop) (i : Nat) (h : Heap) : Prop where
  mkz : IsZip h z TI TO .none ∨ ∃ T b o, IsZk h z TI TO T b ∧ h.get? T = some o ∧ T ∉ [z, TO, f.it, g.it] ∧ ¬ X T
  ti : h.get? TI = some (tob [.ref f.it, .ref g.it])
  to : ∃ a b, h.get? TO = some (tob [a, b])
  fs : f.st i h
  gs : g.st i h
/-- what a turn leaves as it is -/
def Qt (f g : Feed P w) (z TO : Addr) (h h' : Heap) : Prop := ∀ c o, c ∉ [z, TO, f.it, g.it] → h.get? c = some o → h'.get? c = some o
theorem Qt.one {c0 : Addr} {h h' : Heap} (hc : c0 ∈ [z, TO, f.it, g.it]) (e : Heap.ExtBut c0 h h') : Qt f g z TO h h' := fun c o n q => e c o (fun z => n (z ▸ hc)) q
theorem Qt.trans {h1 h2 h3 : Heap} (a : Qt f g z TO h1 h2) (b : Qt f g z TO h2 h3) : Qt f g z TO h1 h3 := fun c o n q => b c o n (a c o n q)
theorem Feed.kp {f : Feed P w} {c0 : Addr} {i : Nat} {h h' : Heap} (st : f.st i h) (e : Heap.ExtBut c0 h h') (n1 : c0 ≠ f.it) (n2 : c0 ∉ f.rd) : f.st i h' :=
  f.keep st fun c o hc => e c o (by rcases hc with rfl | hc; exact n1.symm; exact fun z => n2 (z ▸ hc))
theorem Ap.ne (a : Ap f g z TI TO) : z ≠ TI ∧ z ≠ TO ∧ z ≠ f.it ∧ z ≠ g.it ∧ TI ≠ TO ∧ TI ≠ f.it ∧ TI ≠ g.it ∧ TO ≠ f.it ∧ TO ≠ g.it ∧ f.it ≠ g.it := by
  have := a.nd
  simp only [List.nodup_cons, List.mem_cons, List.not_mem_nil, or_false, not_or, List.nodup_nil, and_true] at this
  obtain ⟨⟨a1, a2, a3, a4⟩, ⟨b1, b2, b3⟩, ⟨c1, c2⟩, d1, _⟩ := this
  exact ⟨a1, a2, a3, a4, b1, b2, b3, c1, c2, d1⟩
theorem Ap.off (a : Ap f g z TI TO) {c : Addr} (hc : c ∈ [z, TO, f.it, g.it]) : c ∉ f.rd ∧ c ∉ g.rd := ⟨fun q => a.rd c (.inl q) hc, fun q => a.rd c (.inr q) hc⟩
/-- a zip's pair, and how all stands behind it -/
def Gave (f g : Feed P w) (z TI TO : Addr) (i : Nat) (X : Addr → Prop) (h : Heap) (Q : Value → Shared → Prop) (s : Shared) : Prop :=
  ∀ h' tk a b, f.val i a → g.val i b → Zf f g z TI TO X (i + 1) h' → (IsZip h z TI TO .none → IsZip h' z TI TO (rawInt h.objs.size)) → h'.get? h.objs.size = some (tob [a, b]) → h'.objs.size = h.objs.size + 1 → Qt f g z TO h h' → Q (.ref h.objs.size) { s with heap := h', toks := tk }
theorem zf_give {X : Addr → Prop} {i : Nat} {Q : Value → Shared → Prop} (ap : Ap f g z TI TO) (Z : Zf f g z TI TO X i s.heap) (hX : ¬ X s.heap.objs.size) (hf : f.has i) (hg : g.has i) (hQ : Gave f g z TI TO i X s.heap Q s) :
    wpAny (model P w) A (Builtin.«zip.__next__» ⟨[.ref z], []⟩) (fun fin s' => ∃ v, fin = .done (.ret v) ∧ Q v s') E s := by
  obtain ⟨n1, n2, n3, n4, n5, n6, n7, n8, n9, n10⟩ := ap.ne
  have oz := ap.off (c := z) (by simp)
  have oT := ap.off (c := TO) (by simp)
  have o1 := ap.off (c := f.it) (by simp)
  have o2 := ap.off (c := g.it) (by simp)
  have m1 : z ∈ [z, TO, f.it, g.it] := by simp
  have m2 : TO ∈ [z, TO, f.it, g.it] := by simp
  have m3 : f.it ∈ [z, TO, f.it, g.it] := by simp
  have m4 : g.it ∈ [z, TO, f.it, g.it] := by simp
  obtain ⟨a0, b0, hto⟩ := Z.to
  have hsz : z < s.heap.objs.size ∧ TO < s.heap.objs.size ∧ f.it < s.heap.objs.size ∧ g.it < s.heap.objs.size := by
    obtain ⟨_, e1, _⟩ := f.obj Z.fs
    obtain ⟨_, e2, _⟩ := g.obj Z.gs
    refine ⟨?_, Heap.lt_size hto, Heap.lt_size e1, Heap.lt_size e2⟩
    rcases Z.mkz with q | ⟨_, _, _, q, _⟩ <;> exact Heap.lt_size q
  have new : s.heap.objs.size ∉ [z, TO, f.it, g.it] := by
    simp only [List.mem_cons, List.not_mem_nil, or_false, not_or]
    exact ⟨Nat.ne_of_gt hsz.1, Nat.ne_of_gt hsz.2.1, Nat.ne_of_gt hsz.2.2.1, Nat.ne_of_gt hsz.2.2.2⟩
  rcases Z.mkz with hz | ⟨T, b, ot, hz, hT, nT, xT⟩
  · refine fld (j := 2) hz rfl rfl (fld (j := 3) hz rfl rfl (sqi Z.ti rfl (freeNow hz (wpAny_bind (wpAny_rule (fld (j := 4) hz rfl rfl (mark hz fun h1 z1 s1 => wpAny_bind (loop2 ?_))))))))
    refine wpAny_bind (wpAny_onRaise (wpAny_bind (f.give (f.kp Z.fs s1.extBut n3 oz.1) hf fun h2 t2 a va f2 s2 => wpAny_pure ?_)))
    refine sqi (s2.extBut _ _ n8 (s1.extBut _ _ n2.symm hto)) rfl (putAt (s2.extBut _ _ n8 (s1.extBut _ _ n2.symm hto)) (by simp) fun h3 T3 s3 => wpAny_bind (wpAny_letGo (wpAny_pure ⟨_, rfl, ?_⟩)))
    refine wpAny_bind (wpAny_onRaise (wpAny_bind (g.give (g.kp (g.kp (g.kp Z.gs s1.extBut n4 oz.2) s2.extBut n10 o1.2) s3.extBut n9 oT.2) hg fun h4 t4 b vb g4 s4 => wpAny_pure ?_)))
    refine sqi (s4.extBut _ _ n9 T3) rfl (putAt (s4.extBut _ _ n9 T3) (by simp) fun h5 T5 s5 => wpAny_bind (wpAny_letGo (wpAny_pure ⟨_, rfl, ?_⟩)))
    have z5 : IsZip h5 z TI TO .ellipsis := s5.extBut _ _ n2 (s4.extBut _ _ n4 (s3.extBut _ _ n2 (s2.extBut _ _ n3 z1)))
    have sz : h5.objs.size = s.heap.objs.size := ((((s5.1.trans s4.1).trans s3.1).trans s2.1).trans s1.1)
    have q5 : Qt f g z TO s.heap h5 := ((((Qt.one m1 s1.extBut).trans (Qt.one m3 s2.extBut)).trans (Qt.one m2 s3.extBut)).trans (Qt.one m4 s4.extBut)).trans (Qt.one m2 s5.extBut)
    refine sqi T5 rfl (wpAny_bind (wpAny_newTuple (hsz := by show 2 ≤ sizeLine; decide) (handOut (Heap.get?_push_of_some _ z5) fun h6 z6 s6 => wpAny_pure ⟨_, rfl, ?_⟩)))
    have e6 : ∀ c o, c ≠ z → h5.get? c = some o → h6.get? c = some o := fun c o hc q => s6.extBut _ _ hc (Heap.get?_push_of_some _ q)
    have p6 : h6.get? s.heap.objs.size = some (tob [a, b]) := by
      rw [← sz]
      exact s6.extBut _ _ (by rw [sz]; exact Nat.ne_of_gt hsz.1) (Heap.get?_push_size _ rfl)
    have z7 : IsZk h6 z TI TO s.heap.objs.size false := by rw [← sz]; exact z6
    show Q (.ref h5.objs.size) _
    rw [sz]
    refine hQ h6 _ a b va vb ⟨.inr ⟨_, _, _, z7, p6, new, hX⟩, e6 _ _ n1.symm (q5 _ _ (by simp [n1.symm, n5, n6, n7]) Z.ti), ⟨a, b, e6 _ _ n2.symm T5⟩, ?_, ?_⟩ (fun _ => z7) p6 (by rw [s6.1, Heap.size_push, sz]) fun c o hc q => e6 c o (fun e => hc (by simp [e])) (q5 c o hc q)
    · exact f.kp (f.kp (f.kp (f.kp f2 s3.extBut n8 oT.1) s4.extBut n10.symm o2.1) s5.extBut n8 oT.1) (fun c o hc q => e6 c o hc q) n3 oz.1
    · exact g.kp (g.kp g4 s5.extBut n9 oT.2) (fun c o hc q => e6 c o hc q) n4 oz.2
  · refine fld (j := 2) hz rfl rfl (fld (j := 3) hz rfl rfl (sqi Z.ti rfl (busy hz hT fun h1 z1 s1 => wpAny_bind (loop2A ?_))))
    refine wpAny_bind (wpAny_holding (wpAny_bind (f.give (f.kp Z.fs s1.extBut n3 oz.1) hf fun h2 t2 a va f2 s2 => wpAny_pure (wpAny_pure ⟨_, rfl, ?_⟩))))
    refine wpAny_bind (wpAny_holding (wpAny_bind (g.give (g.kp (g.kp Z.gs s1.extBut n4 oz.2) s2.extBut n10 o1.2) hg fun h3 t3 b vb g3 s3 => wpAny_pure (wpAny_pure ⟨_, rfl, ?_⟩))))
    have sz : h3.objs.size = s.heap.objs.size := ((s3.1.trans s2.1).trans s1.1)
    have q3 : Qt f g z TO s.heap h3 := ((Qt.one m1 s1.extBut).trans (Qt.one m3 s2.extBut)).trans (Qt.one m4 s3.extBut)
    refine wpAny_bind (wpAny_newTuple (hsz := by show 2 ≤ sizeLine; decide) (wpAny_pure ⟨_, rfl, ?_⟩))
    have z3 : IsZk (h3.push (tob [a, b])) z TI TO T true := Heap.get?_push_of_some _ (s3.extBut _ _ n4 (s2.extBut _ _ n3 z1))
    have p3 : (h3.push (tob [a, b])).get? s.heap.objs.size = some (tob [a, b]) := by rw [← sz]; exact Heap.get?_push_size _ rfl
    show Q (.ref h3.objs.size) _
    rw [sz]
    have up : ∀ c o, h3.get? c = some o → (h3.push (tob [a, b])).get? c = some o := fun c o q => Heap.get?_push_of_some _ q
    exact hQ _ _ a b va vb ⟨.inr ⟨T, _, _, z3, up _ _ (q3 _ _ nT hT), nT, xT⟩, up _ _ (q3 _ _ (by simp [n1.symm, n5, n6, n7]) Z.ti), ⟨a0, b0, up _ _ (s3.extBut _ _ n9 (s2.extBut _ _ n8 (s1.extBut _ _ n2.symm hto)))⟩,
      f.keep (f.kp f2 s3.extBut n10.symm o2.1) (fun c o _ => up c o), g.keep g3 (fun c o _ => up c o)⟩ (fun q => absurd (q.symm.trans hz) (by simp [rawInt])) p3 (by rw [Heap.size_push, sz]) fun c o hc q => up c o (q3 c o hc q)
/-- one of the two is at its end -/
theorem zf_stop {X : Addr → Prop} {i : Nat} {Q : Fin → Shared → Prop} (hh : A.handled = none) (ap : Ap f g z TI TO) (Z : Zf f g z TI TO X i s.heap) (hd : ¬ f.has i ∨ f.has i ∧ ¬ g.has i)
    (hE : ∀ h' e tk, Qt f g z TO s.heap h' → (∃ o, h'.get? e = some o ∧ o.cls = .type "StopIteration") → E (.ref e) { s with heap := h', toks := tk }) : wpAny (model P w) A (Builtin.«zip.__next__» ⟨[.ref z], []⟩) Q E s := by
  obtain ⟨n1, n2, n3, n4, n5, n6, n7, n8, n9, n10⟩ := ap.ne
  have oz := ap.off (c := z) (by simp)
  have oT := ap.off (c := TO) (by simp)
  have o1 := ap.off (c := f.it) (by simp)
  have m1 : z ∈ [z, TO, f.it, g.it] := by simp
  have m2 : TO ∈ [z, TO, f.it, g.it] := by simp
  have m3 : f.it ∈ [z, TO, f.it, g.it] := by simp
  have m4 : g.it ∈ [z, TO, f.it, g.it] := by simp
  obtain ⟨a0, b0, hto⟩ := Z.to
  have free : ∀ (h : Heap) (tk : Nat) (e : Addr), IsZip h z TI TO .ellipsis → Qt f g z TO s.heap h → (∃ o, h.get? e = some o ∧ o.cls = .type "StopIteration") →
      wpAny (model P w) A (setField (.ref z) 0 .none) (fun _ s' => E (.ref e) s') E { s with heap := h, toks := tk } := fun h tk e hz q ⟨o, ho, hc⟩ => by
    have ne : e ≠ z := fun y => by subst y; rw [hz] at ho; cases ho; simp at hc
    exact wpAny_setField_rec hz (Nat.zero_lt_succ _) fun h' _ s' => hE h' e tk (q.trans (Qt.one m1 s'.extBut)) ⟨o, s'.extBut _ _ ne ho, hc⟩
  rcases Z.mkz with hz | ⟨T, b, ot, hz, hT, nT, xT⟩
  · refine fld (j := 2) hz rfl rfl (fld (j := 3) hz rfl rfl (sqi Z.ti rfl (freeNow hz (wpAny_bind (wpAny_rule (fld (j := 4) hz rfl rfl (mark hz fun h1 z1 s1 => wpAny_bind (loop2 ?_))))))))
    rcases hd with hd | ⟨hf, hd⟩
    · exact wpAny_bind (wpAny_onRaise (wpAny_bind (f.stop hh (f.kp Z.fs s1.extBut n3 oz.1) hd fun h2 e s2 he => free h2 _ e (s2 _ _ n3 z1) ((Qt.one m1 s1.extBut).trans (Qt.one m3 s2)) he)))
    · refine wpAny_bind (wpAny_onRaise (wpAny_bind (f.give (f.kp Z.fs s1.extBut n3 oz.1) hf fun h2 t2 a va f2 s2 => wpAny_pure ?_)))
      refine sqi (s2.extBut _ _ n8 (s1.extBut _ _ n2.symm hto)) rfl (putAt (s2.extBut _ _ n8 (s1.extBut _ _ n2.symm hto)) (by simp) fun h3 T3 s3 => wpAny_bind (wpAny_letGo (wpAny_pure ⟨_, rfl, ?_⟩)))
      exact wpAny_bind (wpAny_onRaise (wpAny_bind (g.stop hh (g.kp (g.kp (g.kp Z.gs s1.extBut n4 oz.2) s2.extBut n10 o1.2) s3.extBut n9 oT.2) hd fun h4 e s4 he =>
        free h4 _ e (s4 _ _ n4 (s3.extBut _ _ n2 (s2.extBut _ _ n3 z1))) ((((Qt.one m1 s1.extBut).trans (Qt.one m3 s2.extBut)).trans (Qt.one m2 s3.extBut)).trans (Qt.one m4 s4)) he)))
  · refine fld (j := 2) hz rfl rfl (fld (j := 3) hz rfl rfl (sqi Z.ti rfl (busy hz hT fun h1 z1 s1 => wpAny_bind (loop2A ?_))))
    rcases hd with hd | ⟨hf, hd⟩
    · exact wpAny_bind (wpAny_holding (wpAny_bind (f.stop hh (f.kp Z.fs s1.extBut n3 oz.1) hd fun h2 e s2 he => hE h2 e _ ((Qt.one m1 s1.extBut).trans (Qt.one m3 s2)) he)))
    · refine wpAny_bind (wpAny_holding (wpAny_bind (f.give (f.kp Z.fs s1.extBut n3 oz.1) hf fun h2 t2 a va f2 s2 => wpAny_pure (wpAny_pure ⟨_, rfl, ?_⟩))))
      exact wpAny_bind (wpAny_holding (wpAny_bind (g.stop hh (g.kp (g.kp Z.gs s1.extBut n4 oz.2) s2.extBut n10 o1.2) hd fun h3 e s3 he => hE h3 e _ (((Qt.one m1 s1.extBut).trans (Qt.one m3 s2.extBut)).trans (Qt.one m4 s3)) he)))
/-- next(zip) -/
theorem zf_next {X : Addr → Prop} {i : Nat} {Q : Option Value → Shared → Prop} (hh : A.handled = none) (ap : Ap f g z TI TO) (Z : Zf f g z TI TO X i s.heap) (hX : ¬ X s.heap.objs.size)
    (hQ : f.has i → g.has i → Gave f g z TI TO i X s.heap (fun v s' => Q (some v) s') s) (hN : ¬ (f.has i ∧ g.has i) → ∀ h' tk, Qt f g z TO s.heap h' → Q none { s with heap := h', toks := tk }) : wpAny (model P w) A (pyNext (.ref z)) Q E s := by
  have ty : s.TypeIs (.ref z) "zip" := by rcases Z.mkz with q | ⟨_, _, _, q, _⟩ <;> exact ⟨_, q, rfl⟩
  unfold pyNext
  refine wpAny_bind (wpAny_attempt (wpAny_callSpecial?_slot ty F.slot_zip_next (wpAny_call_entry F.slot_zip_next ty F.entry_zip_next ?_ (F.args_zip_next_1 _))))
  by_cases hf : f.has i
  · by_cases hg : g.has i
    · exact zf_give ap Z hX hf hg fun h' tk a b v1 v2 v3 v4 v5 v6 v7 => wpAny_pure (hQ hf hg h' tk a b v1 v2 v3 v4 v5 v6 v7)
    · exact zf_stop hh ap Z (.inr ⟨hf, hg⟩) fun h' e tk q ⟨o, ho, hc⟩ => wpAny_bind (wpAny_isInstance (b := true) (T := "StopIteration") ⟨o, ho, hc⟩ isSubtype_stop (wpAny_pure (hN (fun y => hg y.2) h' tk q)))
  · exact zf_stop hh ap Z (.inl hf) fun h' e tk q ⟨o, ho, hc⟩ => wpAny_bind (wpAny_isInstance (b := true) (T := "StopIteration") ⟨o, ho, hc⟩ isSubtype_stop (wpAny_pure (hN (fun y => hf y.1) h' tk q)))
end
end PL

set_option maxHeartbeats 1000000
/-! zip of two texts, in a for -/
namespace PL
open PySem PySem.Spec PyProof.Rows L2
def txObj (x : Str) (t : Tok) : Obj := { cls := .type "str_ascii_iterator", data := .fields #[.str x t, .int 0 0] }
/-- what making a zip of two texts lays down -/
def laidS (x y : Str) (t u : Tok) (n : Nat) : List Obj :=
  [txObj x t, txObj y u, tob [.ref n, .ref (n + 1)], tob [.none, .none], { cls := .type "zip", data := .fields #[.none, .bool false, .bool false, .ref (n + 2), .ref (n + 3)] }]
theorem apS {P : Program} {w : World} (x y : Str) (t u : Tok) (n : Nat) : Ap (ofText P w n x t) (ofText P w (n + 1) y u) (n + 4) (n + 2) (n + 3) where
  nd := by
    show [n + 4, n + 2, n + 3, n, n + 1].Nodup
    simp
  rd := fun c hc => by rcases hc with hc | hc <;> cases hc
theorem zfS {P : Program} {w : World} (x y : Str) (t u : Tok) (h : Heap) (X : Addr → Prop) :
    Zf (ofText P w h.objs.size x t) (ofText P w (h.objs.size + 1) y u) (h.objs.size + 4) (h.objs.size + 2) (h.objs.size + 3) X 0 (behind h (laidS x y t u h.objs.size)) ∧ IsZip (behind h (laidS x y t u h.objs.size)) (h.objs.size + 4) (h.objs.size + 2) (h.objs.size + 3) .none := by
  have z : IsZip (behind h (laidS x y t u h.objs.size)) (h.objs.size + 4) (h.objs.size + 2) (h.objs.size + 3) .none := behind_get (laidS x y t u h.objs.size) h 4 _ rfl rfl
  refine ⟨⟨.inl z, behind_get (laidS x y t u h.objs.size) h 2 _ rfl rfl, ⟨_, _, behind_get (laidS x y t u h.objs.size) h 3 _ rfl rfl⟩, ⟨txObj x t, ?_, rfl, rfl⟩, ⟨txObj y u, ?_, rfl, rfl⟩⟩, z⟩
  · exact behind_get (laidS x y t u h.objs.size) h 0 _ rfl rfl
  · exact behind_get (laidS x y t u h.objs.size) h 1 _ rfl rfl
theorem meetsS (x y : Str) (t u : Tok) (hx : x.cps.all (· < 128) = true) (hy : y.cps.all (· < 128) = true) :
    Meets (Builtin.«zip.__new__» ⟨[.type "zip", .str x t, .str y u], []⟩) (fun _ R s => R (.ok (.ret (.ref (s.heap.objs.size + 4)))) { s with heap := behind s.heap (laidS x y t u s.heap.objs.size) }) :=
  .of_wp fun prog w A R s h => by
    obtain ⟨heap, gg, dd, tk, os⟩ := s
    have sb := sub_zip
    wp_walk using wpAny_pyIter_ascii hx, wpAny_pyIter_ascii hy
    refine ⟨_, rfl, ?_⟩
    simp only [Heap.size_push]
    exact h
theorem mkZipS {prog : Program} {w : World} {A : Around} {E : Value → Shared → Prop} {s : Shared} {x y : Str} {t u : Tok} {Q : Value → Shared → Prop} (hx : x.cps.all (· < 128) = true) (hy : y.cps.all (· < 128) = true)
    (h : Q (.ref (s.heap.objs.size + 4)) { s with heap := behind s.heap (laidS x y t u s.heap.objs.size) }) : wpAny (model prog w) A (call (.type "zip") [.str x t, .str y u]) Q E s :=
  callType_new F.called_zip (by decide) (F.typeCall_zip_2 _ _) (F.newCall_zip_2 _ _) (fun obj => F.args_object_init_3 obj _ _) F.entry_zip_new (meetsS x y t u hx hy) ⟨⟨_, (zfS (P := prog) (w := w) x y t u s.heap fun _ => False).2, rfl⟩, h⟩
/-- two texts, letter by letter -/
def Itzs (x y : Str) : It :=
  ⟨fun i _ => i < x.cps.size ∧ i < y.cps.size,
    fun i H v H' => ∃ T c d, v = .ref T ∧ H T = none ∧ H' = upd H T (.tup [.str ⟨#[c]⟩, .str ⟨#[d]⟩]) ∧ x.cps[i]? = some c ∧ y.cps[i]? = some d,
    fun i _ => x.cps.size ≤ i ∨ y.cps.size ≤ i⟩

theorem in5 {n c : Nat} (h : c ∈ [n + 4, n + 2, n + 3, n, n + 1]) : n ≤ c ∧ c < n + 5 := by
  simp only [List.mem_cons, List.not_mem_nil, or_false] at h
  omega
theorem four5 {n b : Addr} (h : b ∈ [n + 4, n + 3, n, n + 1]) : b ∈ [n + 4, n + 2, n + 3, n, n + 1] := by
  simp only [List.mem_cons, List.not_mem_nil, or_false] at h ⊢
  rcases h with e | e | e | e
  · exact .inl e
  · exact .inr (.inr (.inl e))
  · exact .inr (.inr (.inr (.inl e)))
  · exact .inr (.inr (.inr (.inr e)))
theorem turnS {P : Program} {w : World} {K : PySem.W.Frag} {elts : List Expr} {kk : Nat} {tpos : Pos} {x y : Str} {t u : Tok} {n : Nat} :
    Turn P w K (.Tuple elts kk tpos) (Itzs x y) [n + 4, n + 2, n + 3, n, n + 1] (n + 4) (fun i h => Zf (ofText P w n x t) (ofText P w (n + 1) y u) (n + 4) (n + 2) (n + 3) (fun _ => False) i h ∧ IsZip h (n + 4) (n + 2) (n + 3) .none) where
  mem := List.mem_cons_self
  obj := fun i h st c hc => by
    obtain ⟨Z, z⟩ := st
    obtain ⟨a, b, q⟩ := Z.to
    simp only [List.mem_cons, List.not_mem_nil, or_false] at hc
    rcases hc with e | e | e | e | e <;> rw [e]
    · exact ⟨_, z, fun _ q => nomatch q⟩
    · exact ⟨_, Z.ti, fun _ q => nomatch q⟩
    · exact ⟨_, q, fun _ q => nomatch q⟩
    · exact (ofText P w n x t).obj Z.fs
    · exact (ofText P w (n + 1) y u).obj Z.gs
  keep := fun i h h' st k => by
    obtain ⟨Z, z⟩ := st
    obtain ⟨a, b, q⟩ := Z.to
    have z' := k _ (by simp) _ z
    refine ⟨⟨.inl z', k _ (by simp) _ Z.ti, ⟨a, b, k _ (by simp) _ q⟩, (ofText P w n x t).keep Z.fs fun c o hc => ?_, (ofText P w (n + 1) y u).keep Z.gs fun c o hc => ?_⟩, z'⟩
    · rcases hc with hc | hc
      · exact k c (by rw [hc]; show n ∈ [n + 4, n + 2, n + 3, n, n + 1]; simp) o
      · cases hc
    · rcases hc with hc | hc
      · exact k c (by rw [hc]; show n + 1 ∈ [n + 4, n + 2, n + 3, n, n + 1]; simp) o
      · cases hc
  item := by
    intro X hP hw hK hc i pins s σ H E I hf st hg
    subst hP hw hK
    obtain ⟨Z, z⟩ := st
    have zl : n + 4 < s.heap.objs.size := Heap.lt_size z
    refine zf_next (I.ok.hd hc) (apS x y t u n) Z (fun q => q) (fun _ _ h' tk a b va vb Z' mk pr sz q => ?_) fun q => absurd ⟨hg.1, hg.2⟩ q
    refine ⟨_, rfl, wpAny_letOwnedTupleGo_zip (s := { s with heap := h', toks := tk }) (mk z) fun h2 z2 sb => ?_⟩
    have up : ∀ c o, c ≠ n + 4 → h'.get? c = some o → h2.get? c = some o := fun c o hc e => (sb.2 c hc).trans e
    have pr2 : h2.get? s.heap.objs.size = some (tob [a, b]) := up _ _ (nea (Nat.ne_of_gt zl)) pr
    obtain ⟨c, tc, hc1, rfl⟩ := va
    obtain ⟨d, td, hd1, rfl⟩ := vb
    have nw : ObjOk X.prog X.w (upd H s.heap.objs.size (.tup [.str ⟨#[c]⟩, .str ⟨#[d]⟩])) h2 s.heap.objs.size (.tup [.str ⟨#[c]⟩, .str ⟨#[d]⟩]) :=
      ⟨⟨show 2 ≤ sizeLine by decide, _, pr2, rfl⟩, [.str ⟨#[c]⟩ tc, .str ⟨#[d]⟩ td], .cons ⟨_, rfl⟩ (.cons ⟨_, rfl⟩ .nil), ⟨_, pr2, rfl, _, rfl⟩⟩
    have I1 : Inv X pins σ (upd H s.heap.objs.size (.tup [.str ⟨#[c]⟩, .str ⟨#[d]⟩])) { s with heap := h2, toks := tk } :=
      I.turnedNew (t' := tk) (ch := [n + 4, n + 2, n + 3, n, n + 1]) (fun b o hb e => up b o (fun e2 => hb (by simp [e2])) (q b o (fun hm => hb (four5 hm)) e)) hf (Nat.le_refl _) nw
    obtain ⟨a', b', qT⟩ := Z'.to
    refine ⟨.ref s.heap.objs.size, _, I1, rfl, ⟨_, c, d, rfl, I.hok.fresh (Nat.le_refl _), rfl, hc1, hd1⟩, ⟨⟨.inl z2, up _ _ (nea (by omega)) Z'.ti, ⟨a', b', up _ _ (nea (by omega)) qT⟩, ?_, ?_⟩, z2⟩, fun b hb => ?_⟩
    · exact (ofText X.prog X.w n x t).kp Z'.fs (fun c o hc e => up c o hc e) (show n + 4 ≠ n by omega) (fun q => by cases q)
    · exact (ofText X.prog X.w (n + 1) y u).kp Z'.gs (fun c o hc e => up c o hc e) (show n + 4 ≠ n + 1 by omega) (fun q => by cases q)
    · have := in5 hb
      rw [upd_ne (Nat.ne_of_lt (Nat.lt_of_le_of_lt (Nat.le_of_lt_succ this.2) zl))]
      exact (hf b hb).1
  done := by
    intro X hP hw hK hc i pins s σ H E I hf st hg
    subst hP hw hK
    obtain ⟨Z, z⟩ := st
    have no : ¬ ((ofText X.prog X.w n x t).has i ∧ (ofText X.prog X.w (n + 1) y u).has i) := fun ⟨h1, h2⟩ => by
      have g1 : i < x.cps.size := h1
      have g2 : i < y.cps.size := h2
      rcases hg with g | g
      · exact absurd g1 (Nat.not_lt.mpr g)
      · exact absurd g2 (Nat.not_lt.mpr g)
    exact zf_next (I.ok.hd hc) (apS x y t u n) Z (fun q => q) (fun h1 h2 => absurd ⟨h1, h2⟩ no) fun _ h' tk q => ⟨rfl, I.turnedL (t' := tk) (ch := [n + 4, n + 2, n + 3, n, n + 1]) (fun b o hb e => q b o (fun hm => hb (four5 hm)) e) hf⟩
  self := fun A i s Q E st h => wpAny_pyIter_zip st.2 h
def iZipS (ta : TA) : TI := fun σ H R => ta σ H fun vs H1 => ∃ x y : Str, vs = [.str x, .str y] ∧ x.cps.all (· < 128) = true ∧ y.cps.all (· < 128) = true ∧ R (Itzs x y) H1
theorem pi_zipS {X : Cx} {e e2 : Expr} {ta : TA} {p pos tpos : Pos} {elts : List Expr} {kk : Nat} (hg : Gl X "zip") (hm : X.mg "zip" = none) (ha : PA X [e, e2] ta)
    (hs : starEach [e, e2] X.env = (false, eval e X.env) :: starEach [e2] X.env := by rfl) (hpl : (backTo pos (starEach [e2] X.env)).any (·.1) = false := by rfl) :
    PI X (.Tuple elts kk tpos) (.Call (.Name "zip" p) [e, e2] [] pos) (iZipS ta) := by
  intro pins s σ H R I h
  refine Call_ (ld_blt I hg hm boot_zip5 (PyProof.Rows.callWith_type1 (thn (ha pos pins s σ H _ I h) fun us s1 ⟨vs, H1, I1, rr, q1⟩ => ?_) hs hpl))
  obtain ⟨x, y, ev, hx, hy, q⟩ := q1
  subst ev
  cases rr with
  | cons r1 rr =>
    cases rr with
    | cons r2 rr =>
    cases rr
    obtain ⟨t, rfl⟩ := r1
    obtain ⟨u, rfl⟩ := r2
    refine mkZipS hx hy ?_
    obtain ⟨Z, z⟩ := zfS (P := X.prog) (w := X.w) x y t u s1.heap fun _ => False
    refine wpAny_pyIter_zip z ⟨_, _, _, _, H1, rfl, I1.kept (t' := s1.toks) fun c o e => behind_old _ _ c o e, turnS (t := t) (u := u) (n := s1.heap.objs.size), ⟨Z, z⟩, fun b hb => ?_, q⟩
    have hle : s1.heap.objs.size ≤ b := (in5 hb).1
    exact I1.fpOk hle (I1.hok.fresh hle)
/-- a text's letters -/
def chD (x : Str) : List D := x.cps.toList.map fun c => D.str ⟨#[c]⟩
def zipSD : List D → M Src
  | [.str x, .str y] => if x.cps.all (· < 128) = true ∧ y.cps.all (· < 128) = true then ret (none, zipL2 (chD x) (chD y)) else stuck
  | _ => stuck
def jZS (m : Gm → M (List D)) : Gm → M Src := fun G => bnd (m G) zipSD
theorem chD_get {x : Str} {i : Nat} {d : D} (h : (chD x)[i]? = some d) : ∃ c, x.cps[i]? = some c ∧ d = .str ⟨#[c]⟩ := by
  unfold chD at h
  rw [List.getElem?_map, Array.getElem?_toList] at h
  cases e : x.cps[i]? with
  | none => rw [e] at h; cases h
  | some c => rw [e] at h; cases h; exact ⟨c, rfl, rfl⟩
theorem y_zipS {X : Cx} {e e2 : Expr} {ms : Gm → M (List D)} {p pos tpos : Pos} {elts : List Expr} {kk : Nat} (hm : X.mg "zip" = none) (hn : NSL [e, e2]) (ha : XA X [e, e2] ms) (hg : Gl X "zip" := by rfl) :
    XI X (.Tuple elts kk tpos) (.Call (.Name "zip" p) [e, e2] [] pos) (jZS ms) :=
  XI.of (pi_zipS hg hm ha.o (by rw [hn.1]) (NSL.any hn.2)) fun σ H R G q S gd S' g e k => by
    obtain ⟨ds, S1, e1, e⟩ := bnd_some e
    refine Ta.go g e1 fun vs H1 q1 st1 g1 rp => ?_
    unfold zipSD at e
    split at e
    · split at e
      · rename_i x y hc
        cases e
        obtain ⟨a, b, rfl, r1, r2⟩ := reps2 rp
        cases r1
        cases r2
        refine ⟨x, y, rfl, hc.1, hc.2, k _ H1 q1 st1 g1.sok fun H' q' S'' st so hS i => ⟨fun hl => ?_, fun d hd => ?_⟩⟩
        · have hl' : (zipL2 (chD x) (chD y)).length ≤ i := hl
          rw [zipL2_len] at hl'
          have a1 : (chD x).length = x.cps.size := by simp [chD]
          have a2 : (chD y).length = y.cps.size := by simp [chD]
          show x.cps.size ≤ i ∨ y.cps.size ≤ i
          omega
        · obtain ⟨a, b, ha', hb', rfl⟩ := zipL2_get hd
          obtain ⟨c, hc1, rfl⟩ := chD_get ha'
          obtain ⟨c', hc2, rfl⟩ := chD_get hb'
          refine ⟨⟨(Array.getElem?_eq_some_iff.mp hc1).1, (Array.getElem?_eq_some_iff.mp hc2).1⟩, fun z H2 hyl => ?_⟩
          obtain ⟨T, u, u', rfl, hT, rfl, hu, hu'⟩ := hyl
          rw [hc1] at hu
          rw [hc2] at hu'
          cases hu
          cases hu'
          exact ⟨Stp.new hT, so.new hT, .tup (TupR.of upd_same) (.cons (.str _) (.cons (.str _) .nil))⟩
      · cases e
    · cases e
end PL

/-! methods of a str: count, index, join -/
namespace PL
open PySem PySem.Spec PyProof.Rows L2
section
variable {X : Cx}
theorem mt_sindex : MtR X "str.index" (fun x xs H Q => ∃ a b, ∃ i : Nat, ∃ rest, x = .str a ∧ xs = [.str b] ∧ Builtin.Str.occurrences a b 0 a.length 1 = i :: rest ∧ Q (.int (i : Int)) H) := by
  intro pins s σ H x xs v us Q I rx rs h
  obtain ⟨a, b, i, rest, rfl, rfl, ho, h⟩ := h
  obtain ⟨t, rfl⟩ := rx
  cases rs with
  | cons r1 rs =>
    cases rs
    obtain ⟨u, rfl⟩ := r1
    exact PySem.SC.index ho ⟨.int i, H, I.tok _, ⟨_, rfl⟩, h⟩
def cntD : D → D → M D
  | .str x, .str y => ret (.int (Txt.count x y))
  | _, _ => stuck
def sixD : D → D → M D
  | .str x, .str y => fun S => match Builtin.Str.occurrences x y 0 x.length 1 with
    | i :: _ => some (.int (i : Int), S)
    | [] => none
  | _, _ => stuck
def strsOf : List D → Option (List Str)
  | [] => some []
  | .str x :: r => (strsOf r).map (x :: ·)
  | _ => none
def joinD : D → D → M D
  | .str x, .ls n => fun S => match S[n]? with
    | some ds => match strsOf ds with
      | some ys => if (ys.map (·.length)).sum + ys.length * x.length ≤ 16777216 then some (.str (Txt.join x ys), S) else none
      | none => none
    | none => none
  | _, _ => stuck
theorem strsOf_reps {K : PySem.W.Frag} {H : Hp} {q : Rh} : ∀ {us : List V} {ds : List D} {ys : List Str}, Reps K H q us ds → strsOf ds = some ys → us = ys.map V.str
  | _, _, ys, .nil, h => by cases h; rfl
  | _, _, ys, .cons (d := d) r1 rs, h => by
    cases r1 with
    | str x =>
      unfold strsOf at h
      obtain ⟨zs, hz, rfl⟩ := Option.map_eq_some_iff.mp h
      rw [strsOf_reps rs hz]
      rfl
    | _ => cases h
variable {o e : Expr} {mo me : Gm → M D} {apos pos : Pos}
theorem y_gstrE {x : Str} {y : Str} (hg : Gl X x) (hm : ∃ tk, X.mg x = some (.str y tk)) (hd : (x == ("__debug__" : Str)) = false := by decide) : XE X (.Name x pos) (cS y) := match hm with
  | ⟨_, h⟩ => y_gstr hg h hd
theorem xe_count (ho : XE X o mo) (he : XE X e me) (hs : starEach [e] X.env = [(false, eval e X.env)] := by rfl) (hbase : attributeBase o "count" X.env (eval o X.env) = eval o X.env := by rfl) (hline : (apos.endLine == pos.line) = true := by rfl) :
    XE X (.Call (.Attribute o "count" apos) [e] [] pos) (b2 cntD mo me) :=
  XE.of (pe_m1 PySem.F.slot_str_count PySem.F.type_str_count mt_count ho.o he.o hs hbase hline) fun σ H Q G q S d S' g e k => by
    obtain ⟨x, S1, e1, e⟩ := bnd_some e
    obtain ⟨y, S2, e2, e⟩ := bnd_some e
    refine T.go g e1 fun v H1 q1 st1 g1 rp1 => ?_
    unfold cntD at e
    split at e
    · cases e
      cases rp1
      refine ⟨⟨_, rfl⟩, T.go g1 e2 fun u H2 q2 st2 g2 rp2 => ?_⟩
      cases rp2
      exact ⟨_, _, rfl, rfl, k _ _ _ (st1.trans st2) g2.sok (.int _)⟩
    · cases e
theorem xe_sindex (ho : XE X o mo) (he : XE X e me) (hs : starEach [e] X.env = [(false, eval e X.env)] := by rfl) (hbase : attributeBase o "index" X.env (eval o X.env) = eval o X.env := by rfl) (hline : (apos.endLine == pos.line) = true := by rfl) :
    XE X (.Call (.Attribute o "index" apos) [e] [] pos) (b2 sixD mo me) :=
  XE.of (pe_m1 PySem.F.slot_str_index PySem.F.type_str_index mt_sindex ho.o he.o hs hbase hline) fun σ H Q G q S d S' g e k => by
    obtain ⟨x, S1, e1, e⟩ := bnd_some e
    obtain ⟨y, S2, e2, e⟩ := bnd_some e
    refine T.go g e1 fun v H1 q1 st1 g1 rp1 => ?_
    unfold sixD at e
    split at e
    · split at e
      · rename_i i rest hi
        cases e
        cases rp1
        refine ⟨⟨_, rfl⟩, T.go g1 e2 fun u H2 q2 st2 g2 rp2 => ?_⟩
        cases rp2
        exact ⟨_, _, _, _, rfl, rfl, hi, k _ _ _ (st1.trans st2) g2.sok (.int _)⟩
      · cases e
    · cases e
theorem xe_join (ho : XE X o mo) (he : XE X e me) (hs : starEach [e] X.env = [(false, eval e X.env)] := by rfl) (hbase : attributeBase o "join" X.env (eval o X.env) = eval o X.env := by rfl) (hline : (apos.endLine == pos.line) = true := by rfl) :
    XE X (.Call (.Attribute o "join" apos) [e] [] pos) (b2 joinD mo me) :=
  XE.of (pe_join ho.o he.o hs hbase hline) fun σ H Q G q S d S' g e k => by
    obtain ⟨x, S1, e1, e⟩ := bnd_some e
    obtain ⟨y, S2, e2, e⟩ := bnd_some e
    refine T.go g e1 fun v H1 q1 st1 g1 rp1 => ?_
    unfold joinD at e
    split at e
    · split at e
      · rename_i ds hds
        split at e
        · rename_i ys hys
          split at e
          · rename_i hsz
            cases e
            cases rp1
            refine ⟨⟨_, rfl⟩, T.go g1 e2 fun u H2 q2 st2 g2 rp2 => ?_⟩
            cases rp2 with
            | ls h =>
              obtain ⟨us, h1, h2⟩ := g2.sok.at_ _ _ _ h hds
              have := strsOf_reps h2 hys
              subst this
              exact ⟨_, _, ys, rfl, rfl, .inl (SqL.of h1), hsz, k _ _ _ (st1.trans st2) g2.sok (.str _)⟩
          · cases e
        · cases e
      · cases e
    · cases e
end
end PL

namespace BS
open PySem PySem.Spec PyProof.Rows L2 PL PX
noncomputable def b_words_compared : MS :=
 (sSeq (sAsg (cI 1) (tN 2))
 (sSeq (sFor (jZS (aCons (getv 0) (aCons (getv 1) aNil))) (tT 2 (PL.tCons (tN 3) (PL.tCons (tN 4) PL.tNil)))
 (sSeq (sIf (tst (b2 neD (getv 3) (getv 4)))
 (sRet (vif (tst (b2 ltD (b2 sixD (cS "lcr") (getv 3)) (b2 sixD (cS "lcr") (getv 4)))) (vneg (getv 2)) (getv 2)))
 sNext)
 (sIf (tst (b2 eqD (getv 3) (cS "r")))
 (sAsg (vneg (getv 2)) (tN 2))
 sNext)))
 (sRet (cI 0))))
noncomputable def f_words_compared : List D → M D := runB 5 b_words_compared

noncomputable def b__law_compared : MS :=
 (sSeq (sFor (iR1 (aCons (vcall minD (aCons (vcall lenD (aCons (getv 0) aNil)) (aCons (vcall lenD (aCons (getv 1) aNil)) aNil))) aNil)) (tN 2)
 (sIf (tst (b2 neD (b2 ixD (getv 0) (getv 2)) (b2 ixD (getv 1) (getv 2))))
 (sSeq (sAsg (b2 subD (b2 mulD (vcall intD (aCons (b2 gtD (b2 sixD (cS "lcr") (b2 ixD (getv 0) (getv 2))) (b2 sixD (cS "lcr") (b2 ixD (getv 1) (getv 2)))) aNil)) (cI 2)) (cI 1)) (tN 3))
 (sRet (b2 mulD (getv 3) (b2 subD (cI 1) (b2 mulD (cI 2) (b2 modD (b2 cntD (wslice (getv 0) pNo (pIs (getv 2))) (cS "r")) (cI 2)))))))
 sNext))
 (sRet (cI 0)))
noncomputable def f__law_compared : List D → M D := runB 4 b__law_compared

noncomputable def b__law_letters : MS :=
 (sSeq (sAsg (b2 ixD (vlst (aCons (cS "lcr") (aCons (cS "lr") (aCons (cS "r") (aCons (cS "rrc") aNil))))) (vcall f__law_draw (aCons (getv 0) (aCons (cI 4) aNil)))) (tN 2))
 (sRet (b2 joinD (cS "") (vLc (iR1 (aCons (getv 1) aNil)) (tN 3) tYesD (b2 ixD (getv 2) (vcall f__law_draw (aCons (getv 0) (aCons (vcall lenD (aCons (getv 2) aNil)) aNil)))) [3]))))
noncomputable def f__law_letters : List D → M D := runB 4 b__law_letters

noncomputable def b__law_words : MS :=
 (sSeq (sAsg (vcall f__law_letters (aCons (getv 0) (aCons (vcall f__law_draw (aCons (getv 0) (aCons (cI 13) aNil))) aNil))) (tN 1))
 (sSeq (sAsg (vcall f__law_draw (aCons (getv 0) (aCons (b2 addD (vcall lenD (aCons (getv 1) aNil)) (cI 1)) aNil))) (tN 2))
 (sSeq (sAsg (vcall f__law_draw (aCons (getv 0) (aCons (cI 4) aNil))) (tN 3))
 (sSeq (sIf (tst (b2 eqD (getv 3) (cI 0)))
 (sRet (vlst (aCons (getv 1) (aCons (wslice (getv 1) pNo (pIs (getv 2))) aNil))))
 sNext)
 (sSeq (sIf (tst (b2 eqD (getv 3) (cI 1)))
 (sRet (vlst (aCons (getv 1) (aCons (wslice (b2 addD (b2 addD (wslice (getv 1) pNo (pIs (getv 2))) (b2 ixD (cS "lcr") (vcall f__law_draw (aCons (getv 0) (aCons (cI 3) aNil))))) (wslice (getv 1) (pIs (b2 addD (getv 2) (cI 1))) pNo)) pNo (pIs (cI 12))) aNil))))
 sNext)
 (sSeq (sIf (tst (b2 eqD (getv 3) (cI 2)))
 (sRet (vlst (aCons (getv 1) (aCons (wslice (b2 addD (wslice (getv 1) pNo (pIs (getv 2))) (vcall f__law_letters (aCons (getv 0) (aCons (vcall f__law_draw (aCons (getv 0) (aCons (cI 12) aNil))) aNil)))) pNo (pIs (cI 12))) aNil))))
 sNext)
 (sRet (vlst (aCons (getv 1) (aCons (vcall f__law_letters (aCons (getv 0) (aCons (vcall f__law_draw (aCons (getv 0) (aCons (cI 13) aNil))) aNil))) aNil))))))))))
noncomputable def f__law_words : List D → M D := runB 4 b__law_words

noncomputable def b_law_k50 : MS :=
 (sSeq (sFor (iS (b2 addD (wslice (getv 0) pNo (pIs (cI 6))) (vlst (aCons (vcall f__law_folded (aCons (getv 0) aNil)) aNil)))) (tN 1)
 (sSeq (sAsg (vcall f__law_seed (aCons (getv 1) aNil)) (tN 2))
 (sFor (iR1 (aCons (cI 4) aNil)) (tN 3)
 (sSeq (sAsgL 2 (vcall f__law_words (aCons (getv 2) aNil)) (PL.tCons (tN 4) (PL.tCons (tN 5) PL.tNil)))
 (sSeq (sAsg (vcall f_words_compared (aCons (getv 4) (aCons (getv 5) aNil))) (tN 6))
 (sSeq (sIf (tor (tru2 (vcall isiD (aCons (getv 6) (aCons (cT "bool") aNil)))) (tor (tnot (tru2 (vcall isiD (aCons (getv 6) (aCons (cT "int") aNil))))) (tst (b2 neD (getv 6) (vcall f__law_compared (aCons (getv 4) (aCons (getv 5) aNil)))))))
 (sRet (cB false))
 sNext)
 (sIf (tst (b2 neD (vcall f_words_compared (aCons (getv 5) (aCons (getv 4) aNil))) (b2 subD (cI 0) (getv 6))))
 (sRet (cB false))
 sNext)))))))
 (sRet (cB true)))
noncomputable def f_law_k50 : List D → M D := runB 7 b_law_k50

end BS

namespace BS
open PySem PySem.Spec PyProof.Rows L2 PL PX
def top (i : Nat) : Stmt := PySem.Challenge.pw_bentstretch_k50_words_compared.main.body.getD i (.Pass ⟨0, 0, 0, 0⟩)

structure CO (mg : Str → Option Value) : Prop where
  LETTERS : ∃ tk, mg "LETTERS" = some (.str "lcr" tk)

abbrev s_words_compared : Stmt := top 2
theorem sc_words_compared : FnScope ["one", "other", "sign", "first", "second"] ["one", "other"] (defScope s_words_compared) := ⟨rfl, rfl, rfl, by decide +kernel, rfl, by decide +kernel, by decide +kernel⟩
theorem ok_words_compared {P : Program} {w : World} {K : PySem.W.Frag} {mg : Str → Option Value} {base : Heap} (B : BI mg) (C : CO mg) {f : Addr} {fd : FuncData} (F : Fun K "words_compared" "words_compared" s_words_compared f fd) (hm : mg "words_compared" = some (.ref f)) : PFn P w K mg base "words_compared" ["one", "other"] 1 f_words_compared :=
  pfn_mk (k := 0) (sm := b_words_compared) F hm sc_words_compared (F.binds (ps := ["one", "other"]) fun _ _ _ _ _ _ us hl => match us, hl with | [_, _], _ => rfl) (fun cdv A outer s H E hr =>
 (xss_cons (xs_set (i := 2) sc_words_compared.nd rfl (by first | exact Or.inl rfl | exact Or.inr rfl) y_int)
 (xss_cons (xs_for PassesOwn.never rfl (y_zipS B.zip ⟨ns_Name, ns_Name, trivial⟩ (xb_cons ns_Name (xe_var 0) (xb_cons ns_Name (xe_var 1) xa_nil))) (pg_tup rfl (pgs_cons (pg_name (i := 3) sc_words_compared.nd rfl (by first | exact Or.inl rfl | exact Or.inr rfl)) (pgs_cons (pg_name (i := 4) sc_words_compared.nd rfl (by first | exact Or.inl rfl | exact Or.inr rfl)) pgs_nil))) (gc_tup (n := 2) (gcs_cons (gc_name 3) (gcs_cons (gc_name 4) gcs_nil)))
 (xss_cons (xs_if (xt_ne hr.units (xe_var 3) (xe_var 4))
 (xss_one (xs_ret (xe_if (xt_lt (xe_sindex (y_gstrE rfl C.LETTERS) (xe_var 3)) (xe_sindex (y_gstrE rfl C.LETTERS) (xe_var 4))) (y_neg (xe_var 2)) (xe_var 2))))
 xss_nil)
 (xss_one (xs_if (xt_eq hr.units (xe_var 3) y_str)
 (xss_one (xs_set (i := 2) sc_words_compared.nd rfl (by first | exact Or.inl rfl | exact Or.inr rfl) (y_neg (xe_var 2))))
 xss_nil))))
 (xss_one (xs_ret y_int))))) (fun _ _ _ _ h => h)

abbrev s__law_folded : Stmt := top 4
theorem sc__law_folded : FnScope ["script", "found", "cell"] ["script"] (defScope s__law_folded) := ⟨rfl, rfl, rfl, by decide +kernel, rfl, by decide +kernel, by decide +kernel⟩
theorem ok__law_folded {P : Program} {w : World} {K : PySem.W.Frag} {mg : Str → Option Value} {base : Heap} (B : BI mg) (C : CO mg) {f : Addr} {fd : FuncData} (F : Fun K "_law_folded" "_law_folded" s__law_folded f fd) (hm : mg "_law_folded" = some (.ref f)) : PFn P w K mg base "_law_folded" ["script"] 1 f__law_folded :=
  pfn_mk (k := 0) (sm := b__law_folded) F hm sc__law_folded (F.binds (ps := ["script"]) fun _ _ _ _ _ _ us hl => match us, hl with | [_], _ => rfl) (fun cdv A outer s H E hr =>
 (xss_cons (xs_set (i := 1) sc__law_folded.nd rfl (by first | exact Or.inl rfl | exact Or.inr rfl) (xf_len B ns_Name (xb_cons ns_Name (xe_var 0) xa_nil)))
 (xss_cons (xs_for PassesOwn.never rfl (y_seq (xe_var 0)) (pg_name (i := 2) sc__law_folded.nd rfl (by first | exact Or.inl rfl | exact Or.inr rfl)) (gc_name 2)
 (xss_one (xs_set (i := 1) sc__law_folded.nd rfl (by first | exact Or.inl rfl | exact Or.inr rfl) (xe_mod (xe_add (xe_mul (xe_var 1) y_int) (xe_mod (xe_var 2) y_int)) y_int))))
 (xss_one (xs_ret (xe_var 1)))))) (fun _ _ _ _ h => h)

abbrev s__law_seed : Stmt := top 5
theorem sc__law_seed : FnScope ["cell", "number"] ["cell"] (defScope s__law_seed) := ⟨rfl, rfl, rfl, by decide +kernel, rfl, by decide +kernel, by decide +kernel⟩
theorem ok__law_seed {P : Program} {w : World} {K : PySem.W.Frag} {mg : Str → Option Value} {base : Heap} (B : BI mg) (C : CO mg) {f : Addr} {fd : FuncData} (F : Fun K "_law_seed" "_law_seed" s__law_seed f fd) (hm : mg "_law_seed" = some (.ref f)) : PFn P w K mg base "_law_seed" ["cell"] 1 f__law_seed :=
  pfn_mk (k := 0) (sm := b__law_seed) F hm sc__law_seed (F.binds (ps := ["cell"]) fun _ _ _ _ _ _ us hl => match us, hl with | [_], _ => rfl) (fun cdv A outer s H E hr =>
 (xss_cons (xs_set (i := 1) sc__law_seed.nd rfl (by first | exact Or.inl rfl | exact Or.inr rfl) (xf_max2 B ⟨ns_Name, ns_BinOp, trivial⟩ rfl (xb_cons ns_Name (xe_var 0) (xb_cons ns_BinOp (xe_sub y_int (xe_var 0)) xa_nil))))
 (xss_one (xs_ret (y_lst (xb_cons ns_Name (xe_var 1) (xb_cons ns_Call (xf_int B ns_Compare (xb_cons ns_Compare (xe_ge (xe_var 1) (xe_pow y_int y_int)) xa_nil)) (xb_cons ns_Constant y_int (xb_cons ns_BinOp (xe_mod (xe_var 0) y_int) xa_nil))))))))) (fun _ _ _ _ h => h)

abbrev s__law_draw : Stmt := top 6
theorem sc__law_draw : FnScope ["seed", "most", "found", "number"] ["seed", "most"] (defScope s__law_draw) := ⟨rfl, rfl, rfl, by decide +kernel, rfl, by decide +kernel, by decide +kernel⟩
theorem ok__law_draw {P : Program} {w : World} {K : PySem.W.Frag} {mg : Str → Option Value} {base : Heap} (B : BI mg) (C : CO mg) {f : Addr} {fd : FuncData} (F : Fun K "_law_draw" "_law_draw" s__law_draw f fd) (hm : mg "_law_draw" = some (.ref f)) : PFn P w K mg base "_law_draw" ["seed", "most"] 1 f__law_draw :=
  pfn_mk (k := 0) (sm := b__law_draw) F hm sc__law_draw (F.binds (ps := ["seed", "most"]) fun _ _ _ _ _ _ us hl => match us, hl with | [_, _], _ => rfl) (fun cdv A outer s H E hr =>
 (xss_cons (xs_sub (xe_add (xe_ix (xe_var 0) y_int) y_int) (xe_var 0) y_int)
 (xss_cons (xs_if (XW.xt (xw_and (xt_eq hr.units (xe_ix (xe_var 0) y_int) y_int) (xw_and1 (xt_gt (xe_ix (xe_var 0) y_int) y_int))))
 (xss_cons (xs_set (i := 2) sc__law_draw.nd rfl (by first | exact Or.inl rfl | exact Or.inr rfl) (xe_mod (xe_ix (xe_var 0) y_int) (xe_var 1)))
 (xss_cons (xs_sub (xe_fdiv (xe_ix (xe_var 0) y_int) (xe_var 1)) (xe_var 0) y_int)
 (xss_one (xs_ret (xe_var 2)))))
 xss_nil)
 (xss_cons (xs_set (i := 3) sc__law_draw.nd rfl (by first | exact Or.inl rfl | exact Or.inr rfl) (xe_mod (xe_mul (xe_add (xe_add (xe_ix (xe_var 0) y_int) (xe_mul y_int (xe_ix (xe_var 0) y_int))) y_int) y_int) y_int))
 (xss_cons (xs_set (i := 3) sc__law_draw.nd rfl (by first | exact Or.inl rfl | exact Or.inr rfl) (xe_mod (xe_mul (xe_mod (xe_mul (xe_var 3) (xe_var 3)) y_int) y_int) y_int))
 (xss_one (xs_ret (xe_mod (xe_fdiv (xe_var 3) y_int) (xe_var 1))))))))) (fun _ _ _ _ h => h)

abbrev s__law_compared : Stmt := top 7
theorem sc__law_compared : FnScope ["one", "other", "k", "side"] ["one", "other"] (defScope s__law_compared) := ⟨rfl, rfl, rfl, by decide +kernel, rfl, by decide +kernel, by decide +kernel⟩
theorem ok__law_compared {P : Program} {w : World} {K : PySem.W.Frag} {mg : Str → Option Value} {base : Heap} (B : BI mg) (C : CO mg) {f : Addr} {fd : FuncData} (F : Fun K "_law_compared" "_law_compared" s__law_compared f fd) (hm : mg "_law_compared" = some (.ref f)) : PFn P w K mg base "_law_compared" ["one", "other"] 1 f__law_compared :=
  pfn_mk (k := 0) (sm := b__law_compared) F hm sc__law_compared (F.binds (ps := ["one", "other"]) fun _ _ _ _ _ _ us hl => match us, hl with | [_, _], _ => rfl) (fun cdv A outer s H E hr =>
 (xss_cons (xs_for PassesOwn.never rfl (y_range1 rfl B.range ns_Call (xb_cons ns_Call (xf_min2 B ⟨ns_Call, ns_Call, trivial⟩ rfl (xb_cons ns_Call (xf_len B ns_Name (xb_cons ns_Name (xe_var 0) xa_nil)) (xb_cons ns_Call (xf_len B ns_Name (xb_cons ns_Name (xe_var 1) xa_nil)) xa_nil))) xa_nil)) (pg_name (i := 2) sc__law_compared.nd rfl (by first | exact Or.inl rfl | exact Or.inr rfl)) (gc_name 2)
 (xss_one (xs_if (xt_ne hr.units (xe_ix (xe_var 0) (xe_var 2)) (xe_ix (xe_var 1) (xe_var 2)))
 (xss_cons (xs_set (i := 3) sc__law_compared.nd rfl (by first | exact Or.inl rfl | exact Or.inr rfl) (xe_sub (xe_mul (xf_int B ns_Compare (xb_cons ns_Compare (xe_gt (xe_sindex y_str (xe_ix (xe_var 0) (xe_var 2))) (xe_sindex y_str (xe_ix (xe_var 1) (xe_var 2)))) xa_nil)) y_int) y_int))
 (xss_one (xs_ret (xe_mul (xe_var 3) (xe_sub y_int (xe_mul y_int (xe_mod (xe_count (xe_slw (xe_var 0) xo_no (xo_is (xe_var 2))) y_str) y_int)))))))
 xss_nil)))
 (xss_one (xs_ret y_int)))) (fun _ _ _ _ h => h)

abbrev s__law_letters : Stmt := top 8
theorem sc__law_letters : FnScope ["seed", "many", "some", "k"] ["seed", "many"] (defScope s__law_letters) := ⟨rfl, rfl, rfl, by decide +kernel, rfl, by decide +kernel, by decide +kernel⟩
theorem ok__law_letters {P : Program} {w : World} {K : PySem.W.Frag} {mg : Str → Option Value} {base : Heap} (B : BI mg) (C : CO mg) (F__law_draw : PFn P w K mg base "_law_draw" ["seed", "most"] 1 f__law_draw) {f : Addr} {fd : FuncData} (F : Fun K "_law_letters" "_law_letters" s__law_letters f fd) (hm : mg "_law_letters" = some (.ref f)) : PFn P w K mg base "_law_letters" ["seed", "many"] 2 f__law_letters :=
  pfn_mk (k := 1) (sm := b__law_letters) F hm sc__law_letters (F.binds (ps := ["seed", "many"]) fun _ _ _ _ _ _ us hl => match us, hl with | [_, _], _ => rfl) (fun cdv A outer s H E hr =>
 (xss_cons (xs_set (i := 2) sc__law_letters.nd rfl (by first | exact Or.inl rfl | exact Or.inr rfl) (xe_ix (y_lst (xb_cons ns_Constant y_str (xb_cons ns_Constant y_str (xb_cons ns_Constant y_str (xb_cons ns_Constant y_str xa_nil))))) (xf_call F__law_draw (hr.mono (by decide)) rfl ⟨ns_Name, ns_Constant, trivial⟩ (xb_cons ns_Name (xe_var 0) (xb_cons ns_Constant y_int xa_nil)) (len_cons (len_cons len_nil)))))
 (xss_one (xs_ret (xe_join y_str (xe_lc (own := [("k", 3)]) rfl sc__law_letters.nd (y_range1 rfl B.range ns_Name (xb_cons ns_Name (xe_var 1) xa_nil)) (blkOk_by (own := [("k", 3)]) (N := ["seed", "many", "some", "k"]) (sc := defScope s__law_letters) (by decide +kernel)) (gc_name 3) (by decide) (fun _ _ _ _ _ => (pg_name (i := 3) sc__law_letters.nd rfl (by first | exact Or.inl rfl | exact Or.inr rfl))) (fun _ _ _ _ _ => xts_nil) (fun _ _ _ _ _ => (xe_ix (xe_var 2) (xf_call F__law_draw (hr.mono (by decide)) rfl ⟨ns_Name, ns_Call, trivial⟩ (xb_cons ns_Name (xe_var 0) (xb_cons ns_Call (xf_len B ns_Name (xb_cons ns_Name (xe_var 2) xa_nil)) xa_nil)) (len_cons (len_cons len_nil))))))))))) (fun _ _ _ _ h => h)

abbrev s__law_words : Stmt := top 9
theorem sc__law_words : FnScope ["seed", "one", "at", "way"] ["seed"] (defScope s__law_words) := ⟨rfl, rfl, rfl, by decide +kernel, rfl, by decide +kernel, by decide +kernel⟩
theorem ok__law_words {P : Program} {w : World} {K : PySem.W.Frag} {mg : Str → Option Value} {base : Heap} (B : BI mg) (C : CO mg) (F__law_draw : PFn P w K mg base "_law_draw" ["seed", "most"] 1 f__law_draw) (F__law_letters : PFn P w K mg base "_law_letters" ["seed", "many"] 2 f__law_letters) {f : Addr} {fd : FuncData} (F : Fun K "_law_words" "_law_words" s__law_words f fd) (hm : mg "_law_words" = some (.ref f)) : PFn P w K mg base "_law_words" ["seed"] 3 f__law_words :=
  pfn_mk (k := 2) (sm := b__law_words) F hm sc__law_words (F.binds (ps := ["seed"]) fun _ _ _ _ _ _ us hl => match us, hl with | [_], _ => rfl) (fun cdv A outer s H E hr =>
 (xss_cons (xs_set (i := 1) sc__law_words.nd rfl (by first | exact Or.inl rfl | exact Or.inr rfl) (xf_call F__law_letters (hr.mono (by decide)) rfl ⟨ns_Name, ns_Call, trivial⟩ (xb_cons ns_Name (xe_var 0) (xb_cons ns_Call (xf_call F__law_draw (hr.mono (by decide)) rfl ⟨ns_Name, ns_Constant, trivial⟩ (xb_cons ns_Name (xe_var 0) (xb_cons ns_Constant y_int xa_nil)) (len_cons (len_cons len_nil))) xa_nil)) (len_cons (len_cons len_nil))))
 (xss_cons (xs_set (i := 2) sc__law_words.nd rfl (by first | exact Or.inl rfl | exact Or.inr rfl) (xf_call F__law_draw (hr.mono (by decide)) rfl ⟨ns_Name, ns_BinOp, trivial⟩ (xb_cons ns_Name (xe_var 0) (xb_cons ns_BinOp (xe_add (xf_len B ns_Name (xb_cons ns_Name (xe_var 1) xa_nil)) y_int) xa_nil)) (len_cons (len_cons len_nil))))
 (xss_cons (xs_set (i := 3) sc__law_words.nd rfl (by first | exact Or.inl rfl | exact Or.inr rfl) (xf_call F__law_draw (hr.mono (by decide)) rfl ⟨ns_Name, ns_Constant, trivial⟩ (xb_cons ns_Name (xe_var 0) (xb_cons ns_Constant y_int xa_nil)) (len_cons (len_cons len_nil))))
 (xss_cons (xs_if (xt_eq hr.units (xe_var 3) y_int)
 (xss_one (xs_ret (y_lst (xb_cons ns_Name (xe_var 1) (xb_cons ns_Subscript (xe_slw (xe_var 1) xo_no (xo_is (xe_var 2))) xa_nil)))))
 xss_nil)
 (xss_cons (xs_if (xt_eq hr.units (xe_var 3) y_int)
 (xss_one (xs_ret (y_lst (xb_cons ns_Name (xe_var 1) (xb_cons ns_Subscript (xe_slw (xe_add (xe_add (xe_slw (xe_var 1) xo_no (xo_is (xe_var 2))) (xe_ix y_str (xf_call F__law_draw (hr.mono (by decide)) rfl ⟨ns_Name, ns_Constant, trivial⟩ (xb_cons ns_Name (xe_var 0) (xb_cons ns_Constant y_int xa_nil)) (len_cons (len_cons len_nil))))) (xe_slw (xe_var 1) (xo_is (xe_add (xe_var 2) y_int)) xo_no)) xo_no (xo_is y_int)) xa_nil)))))
 xss_nil)
 (xss_cons (xs_if (xt_eq hr.units (xe_var 3) y_int)
 (xss_one (xs_ret (y_lst (xb_cons ns_Name (xe_var 1) (xb_cons ns_Subscript (xe_slw (xe_add (xe_slw (xe_var 1) xo_no (xo_is (xe_var 2))) (xf_call F__law_letters (hr.mono (by decide)) rfl ⟨ns_Name, ns_Call, trivial⟩ (xb_cons ns_Name (xe_var 0) (xb_cons ns_Call (xf_call F__law_draw (hr.mono (by decide)) rfl ⟨ns_Name, ns_Constant, trivial⟩ (xb_cons ns_Name (xe_var 0) (xb_cons ns_Constant y_int xa_nil)) (len_cons (len_cons len_nil))) xa_nil)) (len_cons (len_cons len_nil)))) xo_no (xo_is y_int)) xa_nil)))))
 xss_nil)
 (xss_one (xs_ret (y_lst (xb_cons ns_Name (xe_var 1) (xb_cons ns_Call (xf_call F__law_letters (hr.mono (by decide)) rfl ⟨ns_Name, ns_Call, trivial⟩ (xb_cons ns_Name (xe_var 0) (xb_cons ns_Call (xf_call F__law_draw (hr.mono (by decide)) rfl ⟨ns_Name, ns_Constant, trivial⟩ (xb_cons ns_Name (xe_var 0) (xb_cons ns_Constant y_int xa_nil)) (len_cons (len_cons len_nil))) xa_nil)) (len_cons (len_cons len_nil))) xa_nil)))))))))))) (fun _ _ _ _ h => h)

abbrev s_law : Stmt := top 10
theorem sc_law : FnScope ["script", "cell", "seed", "turn", "one", "other", "found"] ["script"] (defScope s_law) := ⟨rfl, rfl, rfl, by decide +kernel, rfl, by decide +kernel, by decide +kernel⟩
theorem ok_law {P : Program} {w : World} {K : PySem.W.Frag} {mg : Str → Option Value} {base : Heap} (B : BI mg) (C : CO mg) (F__law_compared : PFn P w K mg base "_law_compared" ["one", "other"] 1 f__law_compared) (F__law_folded : PFn P w K mg base "_law_folded" ["script"] 1 f__law_folded) (F__law_seed : PFn P w K mg base "_law_seed" ["cell"] 1 f__law_seed) (F__law_words : PFn P w K mg base "_law_words" ["seed"] 3 f__law_words) (F_words_compared : PFn P w K mg base "words_compared" ["one", "other"] 1 f_words_compared) {f : Addr} {fd : FuncData} (F : Fun K "law" "law" s_law f fd) : FnOk P w K mg base CX0 4 f fd ["script"] (spF K 1 f_law_k50) :=
  fn_mk (k := 3) (sm := b_law_k50) F sc_law (fun cdv A outer s H E hr =>
 (xss_cons (xs_for PassesOwn.never rfl (y_seq (xe_add (xe_slw (xe_var 0) xo_no (xo_is y_int)) (y_lst (xb_cons ns_Call (xf_call F__law_folded (hr.mono (by decide)) rfl ⟨ns_Name, trivial⟩ (xb_cons ns_Name (xe_var 0) xa_nil) (len_cons len_nil)) xa_nil)))) (pg_name (i := 1) sc_law.nd rfl (by first | exact Or.inl rfl | exact Or.inr rfl)) (gc_name 1)
 (xss_cons (xs_set (i := 2) sc_law.nd rfl (by first | exact Or.inl rfl | exact Or.inr rfl) (xf_call F__law_seed (hr.mono (by decide)) rfl ⟨ns_Name, trivial⟩ (xb_cons ns_Name (xe_var 1) xa_nil) (len_cons len_nil)))
 (xss_one (xs_for PassesOwn.never rfl (y_range1 rfl B.range ns_Constant (xb_cons ns_Constant y_int xa_nil)) (pg_name (i := 3) sc_law.nd rfl (by first | exact Or.inl rfl | exact Or.inr rfl)) (gc_name 3)
 (xss_cons (xs_asgL rfl (xf_call F__law_words (hr.mono (by decide)) rfl ⟨ns_Name, trivial⟩ (xb_cons ns_Name (xe_var 2) xa_nil) (len_cons len_nil)) (pgs_cons (pg_name (i := 4) sc_law.nd rfl (by first | exact Or.inl rfl | exact Or.inr rfl)) (pgs_cons (pg_name (i := 5) sc_law.nd rfl (by first | exact Or.inl rfl | exact Or.inr rfl)) pgs_nil)) (gcs_cons (gc_name 4) (gcs_cons (gc_name 5) gcs_nil)))
 (xss_cons (xs_set (i := 6) sc_law.nd rfl (by first | exact Or.inl rfl | exact Or.inr rfl) (xf_call F_words_compared (hr.mono (by decide)) rfl ⟨ns_Name, ns_Name, trivial⟩ (xb_cons ns_Name (xe_var 4) (xb_cons ns_Name (xe_var 5) xa_nil)) (len_cons (len_cons len_nil))))
 (xss_cons (xs_if (XW.xt (xw_or (xt_tru (xf_isi B ⟨ns_Name, ns_Name, trivial⟩ (xb_cons ns_Name (xe_var 6) (xb_cons ns_Name (y_tyBool B) xa_nil)))) (xw_or (xt_not (xt_tru (xf_isi B ⟨ns_Name, ns_Name, trivial⟩ (xb_cons ns_Name (xe_var 6) (xb_cons ns_Name (y_tyInt B) xa_nil))))) (xw_or1 (xt_ne hr.units (xe_var 6) (xf_call F__law_compared (hr.mono (by decide)) rfl ⟨ns_Name, ns_Name, trivial⟩ (xb_cons ns_Name (xe_var 4) (xb_cons ns_Name (xe_var 5) xa_nil)) (len_cons (len_cons len_nil))))))))
 (xss_one (xs_ret y_bl))
 xss_nil)
 (xss_one (xs_if (xt_ne hr.units (xf_call F_words_compared (hr.mono (by decide)) rfl ⟨ns_Name, ns_Name, trivial⟩ (xb_cons ns_Name (xe_var 5) (xb_cons ns_Name (xe_var 4) xa_nil)) (len_cons (len_cons len_nil))) (xe_sub y_int (xe_var 6)))
 (xss_one (xs_ret y_bl))
 xss_nil)))))))))
 (xss_one (xs_ret y_bl)))) (fun _ _ _ _ h => h)

theorem all_mk {l : PySem.W.OpenLaw} {w : World} {K : PySem.W.Frag} {h : Heap} {mg : Str → Option Value} {fa : Addr} (X : K.In h) (G : h.Ns mainGlobals mg) (hfa : mg "law" = some (.ref fa))
    {f0 f1 f2 f3 f4 f5 f6 f7 : Addr} {od0 an0 od1 an1 od2 an2 od3 an3 od4 an4 od5 an5 od6 an6 od7 an7 : Option Addr} {sl0 sl1 sl2 sl3 sl4 sl5 sl6 sl7 : Array (Option Value)} {oc0 kV0 dc0 pm0 cd0 ct0 oc1 kV1 dc1 pm1 cd1 ct1 oc2 kV2 dc2 pm2 cd2 ct2 oc3 kV3 dc3 pm3 cd3 ct3 oc4 kV4 dc4 pm4 cd4 ct4 oc5 kV5 dc5 pm5 cd5 ct5 oc6 kV6 dc6 pm6 cd6 ct6 oc7 kV7 dc7 pm7 cd7 ct7 : Value}
    (a0 : PySem.W.nsIn K mainGlobals "words_compared" = some (some (.ref f0))) (l0 : K.lookup f0 = some ⟨oc0, od0, .func (PySem.W.fnOf "words_compared" "words_compared" (defArgs s_words_compared) (defBody s_words_compared) (defScope s_words_compared) .none kV0 dc0 pm0 an0 cd0 ct0), sl0⟩) (c0 : PySem.W.codeIn K cd0 "words_compared" = true) (k0 : PySem.W.keepIn K (.ref f0) = true)
    (a1 : PySem.W.nsIn K mainGlobals "_law_folded" = some (some (.ref f1))) (l1 : K.lookup f1 = some ⟨oc1, od1, .func (PySem.W.fnOf "_law_folded" "_law_folded" (defArgs s__law_folded) (defBody s__law_folded) (defScope s__law_folded) .none kV1 dc1 pm1 an1 cd1 ct1), sl1⟩) (c1 : PySem.W.codeIn K cd1 "_law_folded" = true) (k1 : PySem.W.keepIn K (.ref f1) = true)
    (a2 : PySem.W.nsIn K mainGlobals "_law_seed" = some (some (.ref f2))) (l2 : K.lookup f2 = some ⟨oc2, od2, .func (PySem.W.fnOf "_law_seed" "_law_seed" (defArgs s__law_seed) (defBody s__law_seed) (defScope s__law_seed) .none kV2 dc2 pm2 an2 cd2 ct2), sl2⟩) (c2 : PySem.W.codeIn K cd2 "_law_seed" = true) (k2 : PySem.W.keepIn K (.ref f2) = true)
    (a3 : PySem.W.nsIn K mainGlobals "_law_draw" = some (some (.ref f3))) (l3 : K.lookup f3 = some ⟨oc3, od3, .func (PySem.W.fnOf "_law_draw" "_law_draw" (defArgs s__law_draw) (defBody s__law_draw) (defScope s__law_draw) .none kV3 dc3 pm3 an3 cd3 ct3), sl3⟩) (c3 : PySem.W.codeIn K cd3 "_law_draw" = true) (k3 : PySem.W.keepIn K (.ref f3) = true)
    (a4 : PySem.W.nsIn K mainGlobals "_law_compared" = some (some (.ref f4))) (l4 : K.lookup f4 = some ⟨oc4, od4, .func (PySem.W.fnOf "_law_compared" "_law_compared" (defArgs s__law_compared) (defBody s__law_compared) (defScope s__law_compared) .none kV4 dc4 pm4 an4 cd4 ct4), sl4⟩) (c4 : PySem.W.codeIn K cd4 "_law_compared" = true) (k4 : PySem.W.keepIn K (.ref f4) = true)
    (a5 : PySem.W.nsIn K mainGlobals "_law_letters" = some (some (.ref f5))) (l5 : K.lookup f5 = some ⟨oc5, od5, .func (PySem.W.fnOf "_law_letters" "_law_letters" (defArgs s__law_letters) (defBody s__law_letters) (defScope s__law_letters) .none kV5 dc5 pm5 an5 cd5 ct5), sl5⟩) (c5 : PySem.W.codeIn K cd5 "_law_letters" = true) (k5 : PySem.W.keepIn K (.ref f5) = true)
    (a6 : PySem.W.nsIn K mainGlobals "_law_words" = some (some (.ref f6))) (l6 : K.lookup f6 = some ⟨oc6, od6, .func (PySem.W.fnOf "_law_words" "_law_words" (defArgs s__law_words) (defBody s__law_words) (defScope s__law_words) .none kV6 dc6 pm6 an6 cd6 ct6), sl6⟩) (c6 : PySem.W.codeIn K cd6 "_law_words" = true) (k6 : PySem.W.keepIn K (.ref f6) = true)
    (a7 : PySem.W.nsIn K mainGlobals "law" = some (some (.ref f7))) (l7 : K.lookup f7 = some ⟨oc7, od7, .func (PySem.W.fnOf "law" "law" (defArgs s_law) (defBody s_law) (defScope s_law) .none kV7 dc7 pm7 an7 cd7 ct7), sl7⟩) (c7 : PySem.W.codeIn K cd7 "law" = true) (k7 : PySem.W.keepIn K (.ref f7) = true)
    (z0 : PySem.W.nsIn K mainGlobals "abs" = some none) (z1 : PySem.W.nsIn K mainGlobals "len" = some none) (z2 : PySem.W.nsIn K mainGlobals "range" = some none) (z3 : PySem.W.nsIn K mainGlobals "zip" = some none) (z4 : PySem.W.nsIn K mainGlobals "tuple" = some none) (z5 : PySem.W.nsIn K mainGlobals "list" = some none) (z6 : PySem.W.nsIn K mainGlobals "min" = some none) (z7 : PySem.W.nsIn K mainGlobals "max" = some none) (z8 : PySem.W.nsIn K mainGlobals "sum" = some none) (z9 : PySem.W.nsIn K mainGlobals "int" = some none) (z10 : PySem.W.nsIn K mainGlobals "bool" = some none) (z11 : PySem.W.nsIn K mainGlobals "str" = some none) (z12 : PySem.W.nsIn K mainGlobals "isinstance" = some none)
    {tk0 : Tok} (y0 : PySem.W.nsIn K mainGlobals "LETTERS" = some (some (.str "lcr" tk0)))
    : ∃ fd : FuncData, (∀ (s : Shared) (v : Value), BindsTo s fd ⟨[v], []⟩ [("script", v)]) ∧ ∀ base : Heap, K.In base → base.Ns mainGlobals mg → FnOk l.prog w K mg base CX0 4 fa fd ["script"] (spF K 1 f_law_k50) := by
  have e := hfa.symm.trans (PySem.W.mg_of X G a7)
  cases e
  have B : BI mg := bi_mk X G z0 z1 z2 z3 z4 z5 z6 z7 z8 z9 z10 z11 z12
  have C : CO mg := ⟨⟨_, PySem.W.mg_of X G y0⟩⟩
  refine ⟨PySem.W.fnOf "law" "law" (defArgs s_law) (defBody s_law) (defScope s_law) .none kV7 dc7 pm7 an7 cd7 ct7, fun s v => .of_eq rfl, fun base _ _ => ?_⟩
  have F_words_compared := ok_words_compared (P := l.prog) (w := w) (base := base) B C (fun_mk (st := s_words_compared) l0 c0 k0) (PySem.W.mg_of X G a0)
  have F__law_folded := ok__law_folded (P := l.prog) (w := w) (base := base) B C (fun_mk (st := s__law_folded) l1 c1 k1) (PySem.W.mg_of X G a1)
  have F__law_seed := ok__law_seed (P := l.prog) (w := w) (base := base) B C (fun_mk (st := s__law_seed) l2 c2 k2) (PySem.W.mg_of X G a2)
  have F__law_draw := ok__law_draw (P := l.prog) (w := w) (base := base) B C (fun_mk (st := s__law_draw) l3 c3 k3) (PySem.W.mg_of X G a3)
  have F__law_compared := ok__law_compared (P := l.prog) (w := w) (base := base) B C (fun_mk (st := s__law_compared) l4 c4 k4) (PySem.W.mg_of X G a4)
  have F__law_letters := ok__law_letters (P := l.prog) (w := w) (base := base) B C F__law_draw (fun_mk (st := s__law_letters) l5 c5 k5) (PySem.W.mg_of X G a5)
  have F__law_words := ok__law_words (P := l.prog) (w := w) (base := base) B C F__law_draw F__law_letters (fun_mk (st := s__law_words) l6 c6 k6) (PySem.W.mg_of X G a6)
  exact ok_law B C F__law_compared F__law_folded F__law_seed F__law_words F_words_compared (fun_mk (st := s_law) l7 c7 k7)
theorem all_mkT {l : PySem.W.OpenLaw} {w : World} {K : PySem.W.Frag} {h : Heap} {mg : Str → Option Value} {fa : Addr} (CK : CutOk K []) (X : K.In h) (G : h.Ns mainGlobals mg) (hfa : mg "law" = some (.ref fa))
    {f0 f1 f2 f3 f4 f5 f6 f7 : Addr} {od0 an0 od1 an1 od2 an2 od3 an3 od4 an4 od5 an5 od6 an6 od7 an7 : Option Addr} {sl0 sl1 sl2 sl3 sl4 sl5 sl6 sl7 : Array (Option Value)} {oc0 kV0 dc0 pm0 cd0 ct0 oc1 kV1 dc1 pm1 cd1 ct1 oc2 kV2 dc2 pm2 cd2 ct2 oc3 kV3 dc3 pm3 cd3 ct3 oc4 kV4 dc4 pm4 cd4 ct4 oc5 kV5 dc5 pm5 cd5 ct5 oc6 kV6 dc6 pm6 cd6 ct6 oc7 kV7 dc7 pm7 cd7 ct7 : Value}
    
    (a0 : PySem.W.nsIn K mainGlobals "words_compared" = some (some (.ref f0))) (l0 : K.lookup f0 = some ⟨oc0, od0, .func (PySem.W.fnOf "words_compared" "words_compared" (defArgs s_words_compared) (defBody s_words_compared) (defScope s_words_compared) .none kV0 dc0 pm0 an0 cd0 ct0), sl0⟩) (c0 : PySem.W.codeIn K cd0 "words_compared" = true)
    (a1 : PySem.W.nsIn K mainGlobals "_law_folded" = some (some (.ref f1))) (l1 : K.lookup f1 = some ⟨oc1, od1, .func (PySem.W.fnOf "_law_folded" "_law_folded" (defArgs s__law_folded) (defBody s__law_folded) (defScope s__law_folded) .none kV1 dc1 pm1 an1 cd1 ct1), sl1⟩) (c1 : PySem.W.codeIn K cd1 "_law_folded" = true)
    (a2 : PySem.W.nsIn K mainGlobals "_law_seed" = some (some (.ref f2))) (l2 : K.lookup f2 = some ⟨oc2, od2, .func (PySem.W.fnOf "_law_seed" "_law_seed" (defArgs s__law_seed) (defBody s__law_seed) (defScope s__law_seed) .none kV2 dc2 pm2 an2 cd2 ct2), sl2⟩) (c2 : PySem.W.codeIn K cd2 "_law_seed" = true)
    (a3 : PySem.W.nsIn K mainGlobals "_law_draw" = some (some (.ref f3))) (l3 : K.lookup f3 = some ⟨oc3, od3, .func (PySem.W.fnOf "_law_draw" "_law_draw" (defArgs s__law_draw) (defBody s__law_draw) (defScope s__law_draw) .none kV3 dc3 pm3 an3 cd3 ct3), sl3⟩) (c3 : PySem.W.codeIn K cd3 "_law_draw" = true)
    (a4 : PySem.W.nsIn K mainGlobals "_law_compared" = some (some (.ref f4))) (l4 : K.lookup f4 = some ⟨oc4, od4, .func (PySem.W.fnOf "_law_compared" "_law_compared" (defArgs s__law_compared) (defBody s__law_compared) (defScope s__law_compared) .none kV4 dc4 pm4 an4 cd4 ct4), sl4⟩) (c4 : PySem.W.codeIn K cd4 "_law_compared" = true)
    (a5 : PySem.W.nsIn K mainGlobals "_law_letters" = some (some (.ref f5))) (l5 : K.lookup f5 = some ⟨oc5, od5, .func (PySem.W.fnOf "_law_letters" "_law_letters" (defArgs s__law_letters) (defBody s__law_letters) (defScope s__law_letters) .none kV5 dc5 pm5 an5 cd5 ct5), sl5⟩) (c5 : PySem.W.codeIn K cd5 "_law_letters" = true)
    (a6 : PySem.W.nsIn K mainGlobals "_law_words" = some (some (.ref f6))) (l6 : K.lookup f6 = some ⟨oc6, od6, .func (PySem.W.fnOf "_law_words" "_law_words" (defArgs s__law_words) (defBody s__law_words) (defScope s__law_words) .none kV6 dc6 pm6 an6 cd6 ct6), sl6⟩) (c6 : PySem.W.codeIn K cd6 "_law_words" = true)
    (a7 : PySem.W.nsIn K mainGlobals "law" = some (some (.ref f7))) (l7 : K.lookup f7 = some ⟨oc7, od7, .func (PySem.W.fnOf "law" "law" (defArgs s_law) (defBody s_law) (defScope s_law) .none kV7 dc7 pm7 an7 cd7 ct7), sl7⟩) (c7 : PySem.W.codeIn K cd7 "law" = true)
    (z0 : PySem.W.nsIn K mainGlobals "abs" = some none) (z1 : PySem.W.nsIn K mainGlobals "len" = some none) (z2 : PySem.W.nsIn K mainGlobals "range" = some none) (z3 : PySem.W.nsIn K mainGlobals "zip" = some none) (z4 : PySem.W.nsIn K mainGlobals "tuple" = some none) (z5 : PySem.W.nsIn K mainGlobals "list" = some none) (z6 : PySem.W.nsIn K mainGlobals "min" = some none) (z7 : PySem.W.nsIn K mainGlobals "max" = some none) (z8 : PySem.W.nsIn K mainGlobals "sum" = some none) (z9 : PySem.W.nsIn K mainGlobals "int" = some none) (z10 : PySem.W.nsIn K mainGlobals "bool" = some none) (z11 : PySem.W.nsIn K mainGlobals "str" = some none) (z12 : PySem.W.nsIn K mainGlobals "isinstance" = some none)
    {tk0 : Tok} (y0 : PySem.W.nsIn K mainGlobals "LETTERS" = some (some (.str "lcr" tk0)))
    : ∃ fd : FuncData, (∀ (s : Shared) (v : Value), BindsTo s fd ⟨[v], []⟩ [("script", v)]) ∧ ∀ base : Heap, (cutT K []).In base → base.Ns mainGlobals mg → FnOk l.prog w (cutT K []) mg base CX0 4 fa fd ["script"] (spF (cutT K []) 1 f_law_k50) :=
  all_mk (cut_in X CK.mg CK.nm) G hfa (CK.ns a0) (CK.fn l0) (CK.cd c0) (CK.kp l0) (CK.ns a1) (CK.fn l1) (CK.cd c1) (CK.kp l1) (CK.ns a2) (CK.fn l2) (CK.cd c2) (CK.kp l2) (CK.ns a3) (CK.fn l3) (CK.cd c3) (CK.kp l3) (CK.ns a4) (CK.fn l4) (CK.cd c4) (CK.kp l4) (CK.ns a5) (CK.fn l5) (CK.cd c5) (CK.kp l5) (CK.ns a6) (CK.fn l6) (CK.cd c6) (CK.kp l6) (CK.ns a7) (CK.fn l7) (CK.cd c7) (CK.kp l7)  (CK.ns z0) (CK.ns z1) (CK.ns z2) (CK.ns z3) (CK.ns z4) (CK.ns z5) (CK.ns z6) (CK.ns z7) (CK.ns z8) (CK.ns z9) (CK.ns z10) (CK.ns z11) (CK.ns z12)  (CK.ns y0)
end BS

/-! EVALUATION: the rules by which meanings are reckoned -/
namespace PL
open PySem PySem.Spec PyProof.Rows L2
section
variable {α β γ : Type}
@[simp] theorem bnd_ret (a : α) (f : α → M β) : bnd (PL.ret a) f = f a := rfl
@[simp] theorem ret_ap (a : α) (S : Sto) : PL.ret a S = some (a, S) := rfl
@[simp] theorem bnd_assoc (m : M α) (f : α → M β) (g : β → M γ) : bnd (bnd m f) g = bnd m fun a => bnd (f a) g := by
  funext S
  unfold bnd
  cases m S <;> rfl
@[simp] theorem bnd_stuck (f : α → M β) : bnd stuck f = stuck := rfl
end
@[simp] theorem getv_z (d : D) (G : Gm) : getv 0 (some d :: G) = PL.ret d := rfl
@[simp] theorem getv_s (i : Nat) (o : Option D) (G : Gm) : getv (i + 1) (o :: G) = getv i G := rfl
@[simp] theorem b2_ev (f : D → D → M D) (ma mb : Gm → M D) (G : Gm) : b2 f ma mb G = bnd (ma G) fun x => bnd (mb G) fun y => f x y := rfl
@[simp] theorem aNil_ev (G : Gm) : aNil G = PL.ret [] := rfl
@[simp] theorem aCons_ev (m : Gm → M D) (ms : Gm → M (List D)) (G : Gm) : aCons m ms G = bnd (m G) fun d => bnd (ms G) fun ds => PL.ret (d :: ds) := rfl
@[simp] theorem vcall_ev (f : List D → M D) (ms : Gm → M (List D)) (G : Gm) : vcall f ms G = bnd (ms G) f := rfl
@[simp] theorem tst_ev (m : Gm → M D) (G : Gm) : tst m G = bnd (m G) asB := rfl
@[simp] theorem asB_ev (b : Bool) : asB (.bl b) = PL.ret b := rfl
@[simp] theorem tru2_ev (m : Gm → M D) (G : Gm) : tru2 m G = bnd (m G) tru := rfl
@[simp] theorem tru_bl (b : Bool) : tru (.bl b) = PL.ret b := rfl
@[simp] theorem tru_int (i : Int) : tru (.int i) = PL.ret (i != 0) := rfl
@[simp] theorem tru_tup (ds : List D) : tru (.tup ds) = PL.ret !ds.isEmpty := rfl
@[simp] theorem tand_ev (m n : Gm → M Bool) (G : Gm) : tand m n G = bnd (m G) fun c => if c = true then n G else PL.ret false := rfl
@[simp] theorem tor_ev (m n : Gm → M Bool) (G : Gm) : tor m n G = bnd (m G) fun c => if c = true then PL.ret true else n G := rfl
@[simp] theorem tnot_ev (m : Gm → M Bool) (G : Gm) : tnot m G = bnd (m G) fun c => PL.ret !c := rfl
@[simp] theorem vif_ev (t : Gm → M Bool) (m n : Gm → M D) (G : Gm) : vif t m n G = bnd (t G) fun c => if c = true then m G else n G := rfl
@[simp] theorem cI_ev (i : Int) (G : Gm) : cI i G = PL.ret (.int i) := rfl
@[simp] theorem cS_ev (i : Str) (G : Gm) : cS i G = PL.ret (.str i) := rfl
@[simp] theorem cB_ev (i : Bool) (G : Gm) : cB i G = PL.ret (.bl i) := rfl
@[simp] theorem cT_ev (i : String) (G : Gm) : cT i G = PL.ret (.ty i) := rfl
@[simp] theorem cN_ev (G : Gm) : cN G = PL.ret .non := rfl
@[simp] theorem vneg_ev (m : Gm → M D) (G : Gm) : vneg m G = bnd (m G) negD := rfl
@[simp] theorem negD_ev (i : Int) : negD (.int i) = PL.ret (.int (-i)) := rfl
@[simp] theorem vtup_ev (m : Gm → M (List D)) (G : Gm) : vtup m G = bnd (m G) mkTup := rfl
@[simp] theorem vlst_ev (m : Gm → M (List D)) (G : Gm) : vlst m G = bnd (m G) alloc := rfl
@[simp] theorem mkTup2 (a b : D) : mkTup [a, b] = PL.ret (.tup [a, b]) := by unfold mkTup; rw [if_pos (by show 2 ≤ sizeLine; decide)]
@[simp] theorem mkTup1 (a : D) : mkTup [a] = PL.ret (.tup [a]) := by unfold mkTup; rw [if_pos (by show 1 ≤ sizeLine; decide)]
@[simp] theorem mkTup3 (a b c : D) : mkTup [a, b, c] = PL.ret (.tup [a, b, c]) := by unfold mkTup; rw [if_pos (by show 3 ≤ sizeLine; decide)]
@[simp] theorem addD_int (i j : Int) : addD (.int i) (.int j) = PL.ret (.int (i + j)) := rfl
@[simp] theorem subD_int (i j : Int) : subD (.int i) (.int j) = PL.ret (.int (i - j)) := rfl
@[simp] theorem ltD_int (i j : Int) : ltD (.int i) (.int j) = PL.ret (.bl (decide (i < j))) := rfl
@[simp] theorem leD_int (i j : Int) : leD (.int i) (.int j) = PL.ret (.bl (decide (i ≤ j))) := rfl
@[simp] theorem gtD_int (i j : Int) : gtD (.int i) (.int j) = PL.ret (.bl (decide (j < i))) := rfl
@[simp] theorem geD_int (i j : Int) : geD (.int i) (.int j) = PL.ret (.bl (decide (j ≤ i))) := rfl
theorem mulD_int {i j : Int} (h : mulOk i j = true) : mulD (.int i) (.int j) = PL.ret (.int (i * j)) := by
  show (if mulOk i j = true then PL.ret (D.int (i * j)) else stuck) = _
  rw [if_pos h]
theorem fdivD_int {i j : Int} (h : j ≠ 0) (h2 : j.natAbs.log2 < 9000) : fdivD (.int i) (.int j) = PL.ret (.int (i.fdiv j)) := by
  show (if j ≠ 0 ∧ j.natAbs.log2 < 9000 then PL.ret (D.int (i.fdiv j)) else stuck) = _
  rw [if_pos ⟨h, h2⟩]
theorem modD_int {i j : Int} (h : j ≠ 0) : modD (.int i) (.int j) = PL.ret (.int (i.fmod j)) := by
  show (if j ≠ 0 then PL.ret (D.int (i.fmod j)) else stuck) = _
  rw [if_pos h]
@[simp] theorem absD_ev (i : Int) : absD [.int i] = PL.ret (.int (i.natAbs : Int)) := by
  show PL.ret (D.int (if i < 0 then -i else i)) = _
  congr 2
  split <;> omega
@[simp] theorem intD_bl (b : Bool) : intD [.bl b] = PL.ret (.int (if b then 1 else 0)) := rfl
@[simp] theorem lenD_tup (ds : List D) : lenD [.tup ds] = PL.ret (.int ds.length) := rfl
@[simp] theorem lenD_ro (ds : List D) : lenD [.ro ds] = PL.ret (.int ds.length) := rfl
theorem lenD_ls {n : Nat} {S : Sto} {ds : List D} (h : S[n]? = some ds) : lenD [.ls n] S = some (.int ds.length, S) := by
  simp only [lenD, h]
@[simp] theorem tupleD_tup (ds : List D) : tupleD [.tup ds] = PL.ret (.tup ds) := rfl
theorem tupleD_ls {n : Nat} {S : Sto} {ds : List D} (h : S[n]? = some ds) : tupleD [.ls n] S = some (.tup ds, S) := by
  simp only [tupleD, h]
theorem atI_zero (a : D) (ds : List D) : atI (a :: ds) 0 = some a := atI_nat (j := 0) rfl
theorem atI_one (a b : D) (ds : List D) : atI (a :: b :: ds) 1 = some b := atI_nat (j := 1) rfl
theorem atI_two (a b c : D) (ds : List D) : atI (a :: b :: c :: ds) 2 = some c := atI_nat (j := 2) rfl
theorem ixD_tup {ds : List D} {i : Int} {d : D} (h : atI ds i = some d) : ixD (.tup ds) (.int i) = PL.ret d := by
  funext S
  simp only [ixD, h, Option.map_some, ret_ap]
theorem ixD_ls {n : Nat} {S : Sto} {ds : List D} {i : Int} {d : D} (hn : S[n]? = some ds) (h : atI ds i = some d) : ixD (.ls n) (.int i) S = some (d, S) := by
  simp only [ixD, hn, h, Option.map_some]
@[simp] theorem ix0 (a : D) (ds : List D) : ixD (.tup (a :: ds)) (.int 0) = PL.ret a := ixD_tup (atI_zero a ds)
@[simp] theorem ix1 (a b : D) (ds : List D) : ixD (.tup (a :: b :: ds)) (.int 1) = PL.ret b := ixD_tup (atI_one a b ds)
@[simp] theorem ix2 (a b c : D) (ds : List D) : ixD (.tup (a :: b :: c :: ds)) (.int 2) = PL.ret c := ixD_tup (atI_two a b c ds)
theorem seq_of {m1 m2 : MS} {G G1 : Gm} {S S1 : Sto} (h : m1 G S = some (.nx, G1, S1)) : sSeq m1 m2 G S = m2 G1 S1 := by
  unfold sSeq
  rw [h]
theorem seq_rt {m1 m2 : MS} {G G1 : Gm} {S S1 : Sto} {d : D} (h : m1 G S = some (.rt d, G1, S1)) : sSeq m1 m2 G S = some (.rt d, G1, S1) := by
  unfold sSeq
  rw [h]
theorem run_of {n : Nat} {sm : MS} {ds : List D} {S S' : Sto} {G : Gm} {d : D} (h : sm (startG n ds) S = some (.rt d, G, S')) : runB n sm ds S = some (d, S') := by
  unfold runB
  rw [h]
theorem asg_of {m : Gm → M D} {g : D → Gm → Option Gm} {G G1 : Gm} {S S1 : Sto} {d : D} (h : m G S = some (d, S1)) (hg : g d G = some G1) : sAsg m g G S = some (.nx, G1, S1) := by
  unfold sAsg
  rw [h]
  simp only [hg, Option.map_some]
theorem set_of {m : Gm → M D} {i : Nat} {G : Gm} {S S1 : Sto} {d : D} (h : m G S = some (d, S1)) : sAsg m (tN i) G S = some (.nx, G.set i (some d), S1) := asg_of h rfl
theorem sRet_of {m : Gm → M D} {G : Gm} {S S1 : Sto} {d : D} (h : m G S = some (d, S1)) : sRet m G S = some (.rt d, G, S1) := by
  unfold sRet
  rw [h]
theorem sDo_of {m : Gm → M D} {G : Gm} {S S1 : Sto} {d : D} (h : m G S = some (d, S1)) : sDo m G S = some (.nx, G, S1) := by
  unfold sDo
  rw [h]
theorem if_t {c : Gm → M Bool} {a b : MS} {G : Gm} {S S1 : Sto} (h : c G S = some (true, S1)) : sIf c a b G S = a G S1 := by
  unfold sIf
  rw [h]
theorem if_f {c : Gm → M Bool} {a b : MS} {G : Gm} {S S1 : Sto} (h : c G S = some (false, S1)) : sIf c a b G S = b G S1 := by
  unfold sIf
  rw [h]
theorem par_of {i j : Nat} {m : Gm → M (List D)} {G : Gm} {S S1 : Sto} {d e : D} (h : m G S = some ([d, e], S1)) : sPar i j m G S = some (.nx, (G.set i (some d)).set j (some e), S1) := by
  unfold sPar
  rw [h]
/-! ### fractions: a rational is its pair -/
def dq (x : Rat) : D := .tup [.int x.num, .int x.den]
@[simp] theorem dq_0 (x : Rat) : ixD (dq x) (.int 0) = PL.ret (.int x.num) := ix0 _ _
@[simp] theorem dq_1 (x : Rat) : ixD (dq x) (.int 1) = PL.ret (.int x.den) := ix1 _ _ _
/-- both numbers below 2 ^ n -/
def sz (n : Nat) (x : Rat) : Prop := x.num.natAbs < 2 ^ n ∧ x.den < 2 ^ n
theorem sz.mono {m n : Nat} {x : Rat} (h : sz m x) (hm : m ≤ n) : sz n x :=
  ⟨Nat.lt_of_lt_of_le h.1 (Nat.pow_le_pow_right (by decide) hm), Nat.lt_of_lt_of_le h.2 (Nat.pow_le_pow_right (by decide) hm)⟩
theorem log2_lt {k n : Nat} (h : k < 2 ^ n) : k.log2 ≤ n := by
  rcases Nat.eq_zero_or_pos k with h0 | h0
  · subst h0; exact Nat.zero_le _
  · exact Nat.le_of_lt ((Nat.log2_lt (Nat.ne_of_gt h0)).mpr h)
theorem sz_divInt {a b : Int} {m n : Nat} (ha : a.natAbs < 2 ^ m) (hb : b.natAbs < 2 ^ m) (h0 : b ≠ 0) (hm : m ≤ n) : sz n (Rat.divInt a b) := by
  refine sz.mono (m := m) ⟨?_, ?_⟩ hm
  · rw [Rat.num_divInt]
    have hd : ((b.gcd a : Nat) : Int) ∣ b.sign * a := Int.dvd_trans (Int.gcd_dvd_right b a) (Int.dvd_mul_left _ _)
    rw [Int.natAbs_ediv_of_dvd hd, Int.natAbs_mul, Int.natAbs_sign_of_ne_zero h0, Nat.one_mul]
    exact Nat.lt_of_le_of_lt (Nat.div_le_self _ _) ha
  · rw [Rat.den_divInt, if_neg h0]
    exact Nat.lt_of_le_of_lt (Nat.div_le_self _ _) hb
theorem mul_lt {a b m n : Nat} (ha : a < 2 ^ m) (hb : b < 2 ^ n) : a * b < 2 ^ (m + n) := by
  rw [Nat.pow_add]
  exact Nat.mul_lt_mul'' ha hb
theorem mulOk_sz {i j : Int} {m n : Nat} (hi : i.natAbs < 2 ^ m) (hj : j.natAbs < 2 ^ n) (h : m + n ≤ 100000000 := by omega) : mulOk i j = true := mulOk_of hi hj h
theorem add_parts (x y : Rat) : x + y = Rat.divInt (x.num * y.den + y.num * x.den) (x.den * y.den) := by
  rw [Rat.add_def, Rat.normalize_eq_mkRat, ← Rat.divInt_ofNat]
  congr 1
theorem mul_parts (x y : Rat) : x * y = Rat.divInt (x.num * y.num) (x.den * y.den) := by
  rw [Rat.mul_def, Rat.normalize_eq_mkRat, ← Rat.divInt_ofNat]
  congr 1
theorem div_parts (x y : Rat) : x / y = Rat.divInt (x.num * y.den) (x.den * y.num) := by
  rw [Rat.div_def]
  conv => lhs; rw [← Rat.num_divInt_den x, ← Rat.num_divInt_den y, Rat.inv_divInt, Rat.divInt_mul_divInt]
theorem sz_add {x y : Rat} {m n k : Nat} (hx : sz m x) (hy : sz n y) (h : m + n + 1 ≤ k := by omega) : sz k (x + y) := by
  rw [add_parts]
  have h1 := mul_lt hx.1 hy.2
  have h2 := mul_lt hy.1 hx.2
  have h3 := mul_lt hx.2 hy.2
  have e : 2 ^ (n + m) = 2 ^ (m + n) := by rw [Nat.add_comm]
  refine sz_divInt (m := m + n + 1) ?_ ?_ ?_ h
  · rw [Nat.pow_succ]
    have a1 : (x.num * (y.den : Int)).natAbs = x.num.natAbs * y.den := by rw [Int.natAbs_mul]; simp
    have a2 : (y.num * (x.den : Int)).natAbs = y.num.natAbs * x.den := by rw [Int.natAbs_mul]; simp
    omega
  · rw [Nat.pow_succ]
    have a3 : ((x.den : Int) * (y.den : Int)).natAbs = x.den * y.den := by rw [Int.natAbs_mul]; simp
    omega
  · have := x.den_pos; have := y.den_pos
    have : 0 < x.den * y.den := Nat.mul_pos ‹_› ‹_›
    omega
theorem sz_neg {x : Rat} {m : Nat} (hx : sz m x) : sz m (-x) := ⟨by show (-x.num).natAbs < 2 ^ m; rw [Int.natAbs_neg]; exact hx.1, hx.2⟩
theorem sz_sub {x y : Rat} {m n k : Nat} (hx : sz m x) (hy : sz n y) (h : m + n + 1 ≤ k := by omega) : sz k (x - y) := by
  rw [Rat.sub_eq_add_neg]
  exact sz_add hx (sz_neg hy) h
theorem sz_mul {x y : Rat} {m n k : Nat} (hx : sz m x) (hy : sz n y) (h : m + n ≤ k := by omega) : sz k (x * y) := by
  rw [mul_parts]
  refine sz_divInt (m := m + n) ?_ ?_ ?_ h
  · rw [Int.natAbs_mul]
    exact mul_lt hx.1 hy.1
  · have a3 : ((x.den : Int) * (y.den : Int)).natAbs = x.den * y.den := by rw [Int.natAbs_mul]; simp
    rw [a3]
    exact mul_lt hx.2 hy.2
  · have := x.den_pos; have := y.den_pos
    have : 0 < x.den * y.den := Nat.mul_pos ‹_› ‹_›
    omega
theorem num_ne {y : Rat} (h : y ≠ 0) : y.num ≠ 0 := fun z => h (Rat.num_eq_zero.mp z)
theorem sz_div {x y : Rat} {m n k : Nat} (hx : sz m x) (hy : sz n y) (h0 : y ≠ 0) (h : m + n ≤ k := by omega) : sz k (x / y) := by
  rw [div_parts]
  refine sz_divInt (m := m + n) ?_ ?_ ?_ h
  · rw [Int.natAbs_mul]
    exact mul_lt hx.1 (by simpa using hy.2)
  · rw [Int.natAbs_mul]
    exact mul_lt (by simpa using hx.2) hy.1
  · have := x.den_pos
    exact Int.mul_ne_zero (by omega) (num_ne h0)
end PL

namespace BS
open PySem PySem.Spec PyProof.Rows L2 PL
end BS

/-! EVALUATION, part 2: what holds behind a meaning, step by step -/
namespace PL
open PySem PySem.Spec PyProof.Rows L2
def Ee {α : Type} (m : M α) (S : Sto) (P : α → Sto → Prop) : Prop := ∃ a S', m S = some (a, S') ∧ P a S'
/-- a statement: how it goes on -/
def Es (m : MS) (G : Gm) (S : Sto) (P : Fl → Gm → Sto → Prop) : Prop := ∃ f G' S', m G S = some (f, G', S') ∧ P f G' S'
section
variable {α β : Type} {S : Sto} {G : Gm}
theorem ee_ret {a : α} {P : α → Sto → Prop} (h : P a S) : Ee (PL.ret a) S P := ⟨a, S, rfl, h⟩
theorem ee_bnd {m : M α} {f : α → M β} {P : β → Sto → Prop} (h : Ee m S fun a S1 => Ee (f a) S1 P) : Ee (bnd m f) S P := by
  obtain ⟨a, S1, e1, b, S2, e2, p⟩ := h
  exact ⟨b, S2, by rw [bnd_of e1]; exact e2, p⟩
theorem ee_mono {m : M α} {P P' : α → Sto → Prop} (h : Ee m S P) (k : ∀ a S1, P a S1 → P' a S1) : Ee m S P' := by
  obtain ⟨a, S1, e, p⟩ := h
  exact ⟨a, S1, e, k _ _ p⟩
theorem es_mono {m : MS} {P P' : Fl → Gm → Sto → Prop} (h : Es m G S P) (k : ∀ f G1 S1, P f G1 S1 → P' f G1 S1) : Es m G S P' := by
  obtain ⟨f, G1, S1, e, p⟩ := h
  exact ⟨f, G1, S1, e, k _ _ _ p⟩
theorem es_seq {m1 m2 : MS} {P : Fl → Gm → Sto → Prop} (h : Es m1 G S fun f G1 S1 => match f with
    | .nx => Es m2 G1 S1 P
    | f => P f G1 S1) : Es (sSeq m1 m2) G S P := by
  obtain ⟨f, G1, S1, e, p⟩ := h
  cases f with
  | nx =>
    obtain ⟨f2, G2, S2, e2, p2⟩ := p
    exact ⟨f2, G2, S2, by rw [seq_of e]; exact e2, p2⟩
  | rt d => exact ⟨_, _, _, by unfold sSeq; rw [e], p⟩
  | bk => exact ⟨_, _, _, by unfold sSeq; rw [e], p⟩
  | ct => exact ⟨_, _, _, by unfold sSeq; rw [e], p⟩
theorem es_next {P : Fl → Gm → Sto → Prop} (h : P .nx G S) : Es sNext G S P := ⟨_, _, _, rfl, h⟩
theorem es_set {m : Gm → M D} {i : Nat} {P : Fl → Gm → Sto → Prop} (h : Ee (m G) S fun d S1 => P .nx (G.set i (some d)) S1) : Es (sAsg m (tN i)) G S P := by
  obtain ⟨d, S1, e, p⟩ := h
  exact ⟨_, _, _, set_of e, p⟩
theorem es_ret {m : Gm → M D} {P : Fl → Gm → Sto → Prop} (h : Ee (m G) S fun d S1 => P (.rt d) G S1) : Es (sRet m) G S P := by
  obtain ⟨d, S1, e, p⟩ := h
  exact ⟨_, _, _, sRet_of e, p⟩
theorem es_do {m : Gm → M D} {P : Fl → Gm → Sto → Prop} (h : Ee (m G) S fun _ S1 => P .nx G S1) : Es (sDo m) G S P := by
  obtain ⟨d, S1, e, p⟩ := h
  exact ⟨_, _, _, sDo_of e, p⟩
theorem es_if {c : Gm → M Bool} {a b : MS} {P : Fl → Gm → Sto → Prop} (h : Ee (c G) S fun k S1 => if k = true then Es a G S1 P else Es b G S1 P) : Es (sIf c a b) G S P := by
  obtain ⟨k, S1, e, p⟩ := h
  cases k with
  | true =>
    rw [if_pos rfl] at p
    obtain ⟨f, G2, S2, e2, p2⟩ := p
    exact ⟨f, G2, S2, by rw [if_t e]; exact e2, p2⟩
  | false =>
    rw [if_neg Bool.false_ne_true] at p
    obtain ⟨f, G2, S2, e2, p2⟩ := p
    exact ⟨f, G2, S2, by rw [if_f e]; exact e2, p2⟩
theorem es_sub {mv mo mi : Gm → M D} {P : Fl → Gm → Sto → Prop} (h : Ee (mv G) S fun v S1 => Ee (mo G) S1 fun o S2 => Ee (mi G) S2 fun i S3 => ∃ S4, setD o i v S3 = some S4 ∧ P .nx G S4) : Es (sSub mv mo mi) G S P := by
  obtain ⟨v, S1, e1, o, S2, e2, i, S3, e3, S4, e4, p⟩ := h
  refine ⟨.nx, G, S4, ?_, p⟩
  unfold sSub
  simp only [e1, e2, e3, e4, Option.map_some]
theorem ee_run {n : Nat} {sm : MS} {ds : List D} {P : D → Sto → Prop} (h : Es sm (startG n ds) S fun f _ S1 => ∃ d, f = .rt d ∧ P d S1) : Ee (runB n sm ds) S P := by
  obtain ⟨f, G1, S1, e, d, rfl, p⟩ := h
  exact ⟨d, S1, run_of e, p⟩
theorem ee_alloc {ds : List D} {P : D → Sto → Prop} (hl : ds.length ≤ 1000) (h : P (.ls S.length) (S ++ [ds])) : Ee (alloc ds) S P := by
  refine ⟨_, _, ?_, h⟩
  unfold alloc
  rw [if_pos (Nat.le_trans hl (by decide))]
/-! loops -/
theorem stays_none {L : List D} : Stays (none, L) S := fun _ h => nomatch h
theorem stays_one {n : Nat} {ds L : List D} (h : S[n]? = some ds) : Stays (some [(n, ds)], L) S := fun l e p hp => by
  cases e
  cases List.mem_singleton.mp hp
  exact h
/-- a for loop by its invariant: what holds ahead of item i -/
theorem es_forL {gd : Src} {g : D → Gm → Option Gm} {b : MS} {P : Fl → Gm → Sto → Prop} (Pv : Nat → Gm → Sto → Prop) :
    ∀ (ds : List D) (i : Nat) (G : Gm) (S : Sto), Pv i G S → (∀ j G S, Pv j G S → Stays gd S) → (∀ j d G S, ds[j]? = some d → Pv (i + j) G S → ∃ G1, g d G = some G1 ∧ Es b G1 S fun f G2 S2 => match f with
      | .nx => Pv (i + j + 1) G2 S2
      | .ct => Pv (i + j + 1) G2 S2
      | .bk => P .nx G2 S2
      | .rt d => P (.rt d) G2 S2) → (∀ G S, Pv (i + ds.length) G S → P .nx G S) → Es (forL gd g b ds) G S P := by
  intro ds
  induction ds with
  | nil =>
    intro i G S h0 hs _ hd
    refine ⟨.nx, G, S, ?_, hd G S (by simpa using h0)⟩
    rw [forL]
    dsimp only
    rw [if_pos (hs _ _ _ h0)]
  | cons d ds ih =>
    intro i G S h0 hs ht hd
    obtain ⟨G1, e1, f, G2, S2, e2, p⟩ := ht 0 d G S (by simp) (by simpa using h0)
    have rest : Pv (i + 1) G2 S2 → Es (forL gd g b ds) G2 S2 P := fun q =>
      ih (i + 1) G2 S2 q hs (fun j d' G S hj hp => by
        have := ht (j + 1) d' G S (by simpa using hj) (by rw [show i + (j + 1) = i + 1 + j by omega]; exact hp)
        rw [show i + (j + 1) + 1 = i + 1 + j + 1 by omega] at this
        exact this) fun G S q' => hd G S (by rw [show i + (d :: ds).length = i + 1 + ds.length by simp; omega]; exact q')
    have un : forL gd g b (d :: ds) G S = match b G1 S with
        | some (.nx, G2, S2) => forL gd g b ds G2 S2
        | some (.ct, G2, S2) => forL gd g b ds G2 S2
        | some (.bk, G2, S2) => some (.nx, G2, S2)
        | some (.rt d, G2, S2) => some (.rt d, G2, S2)
        | none => none := by
      rw [forL]
      dsimp only
      rw [if_pos (hs _ _ _ h0), e1]
      all_goals rfl
    cases f with
    | nx =>
      obtain ⟨f3, G3, S3, e3, p3⟩ := rest p
      exact ⟨f3, G3, S3, by rw [un, e2]; exact e3, p3⟩
    | ct =>
      obtain ⟨f3, G3, S3, e3, p3⟩ := rest p
      exact ⟨f3, G3, S3, by rw [un, e2]; exact e3, p3⟩
    | bk => exact ⟨_, _, _, by rw [un, e2], p⟩
    | rt d' => exact ⟨_, _, _, by rw [un, e2], p⟩
theorem es_for {mi : Gm → M Src} {g : D → Gm → Option Gm} {b : MS} {P : Fl → Gm → Sto → Prop} (h : Ee (mi G) S fun gd S1 => Es (forL gd g b gd.2) G S1 P) : Es (sFor mi g b) G S P := by
  obtain ⟨gd, S1, e1, f, G2, S2, e2, p⟩ := h
  refine ⟨f, G2, S2, ?_, p⟩
  unfold sFor
  rw [e1]
  exact e2
end
@[simp] theorem iS_ev (m : Gm → M D) (G : Gm) : iS m G = bnd (m G) seqI := rfl
@[simp] theorem iR1_ev (m : Gm → M (List D)) (G : Gm) : iR1 m G = bnd (m G) rngD1 := rfl
@[simp] theorem iR2_ev (m : Gm → M (List D)) (G : Gm) : iR2 m G = bnd (m G) rngD2 := rfl
@[simp] theorem jZ2_ev (m : Gm → M (List D)) (G : Gm) : jZ2 m G = bnd (m G) zip2D := rfl
@[simp] theorem jZ3_ev (m : Gm → M (List D)) (G : Gm) : jZ3 m G = bnd (m G) zip3D := rfl
@[simp] theorem seqI_tup (ds : List D) : seqI (.tup ds) = PL.ret (none, ds) := rfl
theorem seqI_ls {n : Nat} {S : Sto} {ds : List D} (h : S[n]? = some ds) : seqI (.ls n) S = some ((some [(n, ds)], ds), S) := by
  simp only [seqI, h]
theorem rngD1_ev {j : Int} (h0 : 0 ≤ j) (h : j < 1000000) : rngD1 [.int j] = PL.ret (none, rng 0 j.toNat) := by
  show (if -(2 ^ 62) ≤ j ∧ j < 2 ^ 62 then PL.ret (none, rng 0 j.toNat) else stuck) = _
  rw [if_pos (by omega)]
theorem rng_len (lo : Int) (n : Nat) : (rng lo n).length = n := by simp [rng]
@[simp] theorem pNo_ev (G : Gm) : pNo G = PL.ret none := rfl
@[simp] theorem pIs_ev (m : Gm → M D) (G : Gm) : pIs m G = bnd (m G) asI := rfl
@[simp] theorem asI_ev (i : Int) : asI (.int i) = PL.ret (some i) := rfl
@[simp] theorem wslice_ev (m : Gm → M D) (ml mh : Gm → M (Option Int)) (G : Gm) : wslice m ml mh G = bnd (m G) fun x => bnd (ml G) fun lo => bnd (mh G) fun hi => slE x lo hi := rfl
@[simp] theorem slE_tup (ds : List D) (lo hi : Option Int) : slE (.tup ds) lo hi = PL.ret (.tup (cut ds lo hi)) := rfl
@[simp] theorem slE_ro (ds : List D) (lo hi : Option Int) : slE (.ro ds) lo hi = alloc (cut ds lo hi) := rfl
/-- a list of the store at its place -/
theorem ee_ixls {n : Nat} {S : Sto} {ds : List D} {i : Int} {d : D} {P : D → Sto → Prop} (hn : S[n]? = some ds) (h : atI ds i = some d) (p : P d S) : Ee (ixD (.ls n) (.int i)) S P := ⟨d, S, ixD_ls hn h, p⟩
/-! equality of fractions, knots, maps -/
theorem dq_plain (x : Rat) (n : Nat) : plain (n + 1) (dq x) = true := by simp [dq, plain]
theorem dq_eqo (x y : Rat) : eqo (dq x) (dq y) = some (decide (x = y)) := by
  have h : (x = y) ↔ (x.num = y.num ∧ (x.den : Int) = y.den) := ⟨fun h => by subst h; exact ⟨rfl, rfl⟩, fun ⟨h1, h2⟩ => Rat.ext h1 (by exact_mod_cast h2)⟩
  simp only [dq, eqo, eqos, Bool.and_true]
  congr 1
  rw [Bool.eq_iff_iff, Bool.and_eq_true, decide_eq_true_iff, decide_eq_true_iff, decide_eq_true_iff]
  exact h.symm
@[simp] theorem neD_dq (x y : Rat) : neD (dq x) (dq y) = PL.ret (.bl !(decide (x = y))) := by
  funext S
  unfold neD
  rw [if_pos ⟨dq_plain x 7, dq_plain y 7⟩, dq_eqo]
  rfl
@[simp] theorem eqD_dq (x y : Rat) : eqD (dq x) (dq y) = PL.ret (.bl (decide (x = y))) := by
  funext S
  unfold eqD
  rw [if_pos ⟨dq_plain x 7, dq_plain y 7⟩, dq_eqo]
  rfl
@[simp] theorem eqD_int (i j : Int) : eqD (.int i) (.int j) = PL.ret (.bl (decide (i = j))) := rfl
@[simp] theorem neD_int (i j : Int) : neD (.int i) (.int j) = PL.ret (.bl !(decide (i = j))) := rfl
abbrev Kn := Rat × Rat
def dk (k : Kn) : D := .tup [dq k.1, dq k.2]
def dm (ks : List Kn) : D := .tup (ks.map dk)
@[simp] theorem dk_0 (k : Kn) : ixD (dk k) (.int 0) = PL.ret (dq k.1) := ix0 _ _
@[simp] theorem dk_1 (k : Kn) : ixD (dk k) (.int 1) = PL.ret (dq k.2) := ix1 _ _ _
theorem dk_plain (k : Kn) (n : Nat) : plain (n + 2) (dk k) = true := by simp [dk, plain, dq_plain]
theorem dk_eqo (a b : Kn) : eqo (dk a) (dk b) = some (decide (a = b)) := by
  simp only [dk, eqo, eqos, dq_eqo, Bool.and_true]
  congr 1
  rw [Bool.eq_iff_iff, Bool.and_eq_true, decide_eq_true_iff, decide_eq_true_iff, decide_eq_true_iff]
  exact Prod.ext_iff.symm
theorem dm_eqos : ∀ (a b : List Kn), eqos (a.map dk) (b.map dk) = some (decide (a = b))
  | [], [] => by simp [eqos]
  | [], _ :: _ => by simp [eqos]
  | _ :: _, [] => by simp [eqos]
  | x :: a, y :: b => by
    simp only [List.map_cons, eqos, dk_eqo, dm_eqos a b]
    congr 1
    rw [Bool.eq_iff_iff, Bool.and_eq_true, decide_eq_true_iff, decide_eq_true_iff, decide_eq_true_iff]
    exact (List.cons_eq_cons).symm
theorem dm_plain (ks : List Kn) (n : Nat) : plain (n + 3) (dm ks) = true := by
  simp only [dm, plain, List.all_eq_true, List.mem_map]
  rintro d ⟨k, _, rfl⟩
  exact dk_plain k n
@[simp] theorem neD_dm (a b : List Kn) : neD (dm a) (dm b) = PL.ret (.bl !(decide (a = b))) := by
  funext S
  unfold neD
  rw [if_pos ⟨dm_plain a 5, dm_plain b 5⟩]
  simp only [dm, eqo, dm_eqos]
  rfl
@[simp] theorem eqD_dm (a b : List Kn) : eqD (dm a) (dm b) = PL.ret (.bl (decide (a = b))) := by
  funext S
  unfold eqD
  rw [if_pos ⟨dm_plain a 5, dm_plain b 5⟩]
  simp only [dm, eqo, dm_eqos]
  rfl
end PL

namespace BS
open PySem PySem.Spec PyProof.Rows L2 PL
def Grow (S S' : Sto) : Prop := ∃ q, S' = S ++ q
theorem Grow.refl (S : Sto) : Grow S S := ⟨[], by simp⟩
theorem Grow.trans {S S1 S2 : Sto} (a : Grow S S1) (b : Grow S1 S2) : Grow S S2 := by
  obtain ⟨q, rfl⟩ := a
  obtain ⟨r, rfl⟩ := b
  exact ⟨q ++ r, by simp⟩
theorem Grow.at_ {S S1 : Sto} {n : Nat} {ds : List D} (a : Grow S S1) (h : S[n]? = some ds) : S1[n]? = some ds := by
  obtain ⟨q, rfl⟩ := a
  rw [List.getElem?_append_left (List.getElem?_eq_some_iff.mp h).1]
  exact h
/-- a function that keeps all lists and answers y -/
def Pu (f : M D) (y : D) : Prop := ∀ S, ∃ S', f S = some (y, S') ∧ Grow S S'
theorem Pu.ee {f : M D} {y : D} (h : Pu f y) {S : Sto} {P : D → Sto → Prop} (k : ∀ S', Grow S S' → P y S') : Ee f S P := by
  obtain ⟨S', e, g⟩ := h S
  exact ⟨y, S', e, k S' g⟩
theorem Pu.ret {y : D} : Pu (PL.ret y) y := fun S => ⟨S, rfl, Grow.refl S⟩
theorem Pu.of {f : M D} {y : D} (h : f = PL.ret y) : Pu f y := by rw [h]; exact Pu.ret
end BS

namespace BS
open PySem PySem.Spec PyProof.Rows L2 PL
@[simp] theorem isi_tt (ds : List D) : isiD [.tup ds, .ty "tuple"] = PL.ret (.bl true) := by funext S; simp [isiD, tyName, isiA]
@[simp] theorem isi_ib (i : Int) : isiD [.int i, .ty "bool"] = PL.ret (.bl false) := by funext S; simp [isiD, tyName, isiA]
@[simp] theorem isi_ii (i : Int) : isiD [.int i, .ty "int"] = PL.ret (.bl true) := by funext S; simp [isiD, tyName, isiA]
@[simp] theorem isi_dq (x : Rat) : isiD [dq x, .ty "tuple"] = PL.ret (.bl true) := isi_tt _
@[simp] theorem isi_dk (x : Kn) : isiD [dk x, .ty "tuple"] = PL.ret (.bl true) := isi_tt _
@[simp] theorem isi_dm (x : List Kn) : isiD [dm x, .ty "tuple"] = PL.ret (.bl true) := isi_tt _
theorem forL_n {gd : Src} {g : D → Gm → Option Gm} {b : MS} {G : Gm} {S : Sto} (hs : Stays gd S) : forL gd g b [] G S = some (.nx, G, S) := by
  rw [forL]
  dsimp only
  rw [if_pos hs]
/-- every knot's numbers below 2 ^ n -/
def szm (n : Nat) (ks : List Kn) : Prop := ∀ k ∈ ks, sz n k.1 ∧ sz n k.2
/-! ### the value of a map, as the law reckons it -/
def val (a b : Kn) (p : Rat) : Rat := (a.2 * (b.1 - p) + b.2 * (p - a.1)) / (b.1 - a.1)
def vl : List Kn → Rat → Rat
  | a :: b :: r, p => if b.1 < p then vl (b :: r) p else val a b p
  | [a], _ => a.2
  | [], _ => 0
def Rising : List Kn → Prop
  | a :: b :: r => a.1 < b.1 ∧ Rising (b :: r)
  | _ => True
noncomputable abbrev vbody : MS := (sIf (tnot (tru2 (vcall f__law_below (aCons (b2 ixD (getv 3) (cI 0)) (aCons (getv 1) aNil)))))
 (sSeq (sAsg (vcall f__law_less (aCons (b2 ixD (getv 3) (cI 0)) (aCons (b2 ixD (getv 2) (cI 0)) aNil))) (tN 4))
 (sSeq (sAsg (vcall f__law_times (aCons (b2 ixD (getv 2) (cI 1)) (aCons (vcall f__law_less (aCons (b2 ixD (getv 3) (cI 0)) (aCons (getv 1) aNil))) aNil))) (tN 5))
 (sSeq (sAsg (vcall f__law_times (aCons (b2 ixD (getv 3) (cI 1)) (aCons (vcall f__law_less (aCons (getv 1) (aCons (b2 ixD (getv 2) (cI 0)) aNil))) aNil))) (tN 6))
 (sRet (vcall f__law_over (aCons (vcall f__law_plus (aCons (getv 5) (aCons (getv 6) aNil))) (aCons (getv 4) aNil)))))))
 sNext)
abbrev vtg : D → Gm → Option Gm := (tT 2 (PL.tCons (tN 2) (PL.tCons (tN 3) PL.tNil)))
end BS

namespace BS
open PySem PySem.Spec PyProof.Rows L2 PL
def sl (a b : Kn) : Rat := (b.2 - a.2) / (b.1 - a.1)
/-- the knots amid that stay: the one behind, the one asked, the rest -/
def inner : Kn → Kn → List Kn → List Kn
  | _, _, [] => []
  | b, k, a :: r => if sl b k = sl k a then inner k a r else k :: inner k a r
def lastK (k : Kn) : List Kn → Kn
  | [] => k
  | a :: r => lastK a r
def least : List Kn → List Kn
  | b :: k :: r => b :: (inner b k r ++ [lastK k r])
  | ks => ks
noncomputable abbrev lbody : MS := (sIf (tst (b2 neD (vcall f_slope_between (aCons (getv 2) (aCons (getv 3) aNil))) (vcall f_slope_between (aCons (getv 3) (aCons (getv 4) aNil)))))
 (sDo (vmeth appD (getv 1) (aCons (getv 3) aNil)))
 sNext)
abbrev ltg : D → Gm → Option Gm := (tT 3 (PL.tCons (tN 2) (PL.tCons (tN 3) (PL.tCons (tN 4) PL.tNil))))
end BS

namespace BS
open PySem PySem.Spec PyProof.Rows L2 PL
/-- all lists but the one at m stay -/
def Ext (m : Nat) (S S' : Sto) : Prop := S.length ≤ S'.length ∧ ∀ n, n < S.length → n ≠ m → S'[n]? = S[n]?
theorem Ext.refl (m : Nat) (S : Sto) : Ext m S S := ⟨Nat.le_refl _, fun _ _ _ => rfl⟩
theorem Ext.trans {m : Nat} {S S1 S2 : Sto} (a : Ext m S S1) (b : Ext m S1 S2) : Ext m S S2 :=
  ⟨Nat.le_trans a.1 b.1, fun n h1 h2 => (b.2 n (Nat.lt_of_lt_of_le h1 a.1) h2).trans (a.2 n h1 h2)⟩
theorem Grow.ext {S S' : Sto} (g : Grow S S') (m : Nat) : Ext m S S' := by
  obtain ⟨q, rfl⟩ := g
  exact ⟨by simp, fun n h _ => List.getElem?_append_left h⟩
theorem Ext.set {m : Nat} {S : Sto} (xs : List D) : Ext m S (S.set m xs) := ⟨by simp, fun n _ h => List.getElem?_set_ne (fun z => h z.symm)⟩
theorem Ext.at_ {m n : Nat} {S S' : Sto} {ds : List D} (a : Ext m S S') (h : S[n]? = some ds) (hn : n ≠ m) : S'[n]? = some ds := by
  rw [a.2 n (List.getElem?_eq_some_iff.mp h).1 hn]
  exact h
theorem Ext.grow {S S' : Sto} {xs : List D} (a : Ext S.length (S ++ [xs]) S') : Grow S S' := by
  have hl : S.length + 1 ≤ S'.length := by simpa using a.1
  refine ⟨S'.drop S.length, ?_⟩
  have : S'.take S.length = S := by
    refine List.ext_getElem? fun n => ?_
    by_cases hn : n < S.length
    · rw [List.getElem?_take_of_lt hn, a.2 n (by simp; omega) (by omega), List.getElem?_append_left hn]
    · rw [List.getElem?_eq_none (by simp; omega), List.getElem?_eq_none (by omega)]
  calc S' = S'.take S.length ++ S'.drop S.length := (List.take_append_drop _ _).symm
    _ = S ++ S'.drop S.length := by rw [this]
def ll : Kn → Kn → List Kn → List Kn
  | _, _, [] => []
  | L, b, c :: r => if val L c b.1 = b.2 then ll L c r else b :: ll b c r
noncomputable abbrev mbody : MS := (sIf (tst (b2 neD (vcall f__law_value (aCons (vtup (aCons (b2 ixD (getv 1) (vneg (cI 1))) (aCons (b2 ixD (getv 0) (b2 addD (getv 2) (cI 1))) aNil))) (aCons (b2 ixD (b2 ixD (getv 0) (getv 2)) (cI 0)) aNil))) (b2 ixD (b2 ixD (getv 0) (getv 2)) (cI 1))))
 (sDo (vmeth appD (getv 1) (aCons (b2 ixD (getv 0) (getv 2)) aNil)))
 sNext)
end BS

namespace BS
open PySem PySem.Spec PyProof.Rows L2 PL
def lleast : List Kn → List Kn
  | b :: k :: r => b :: (ll b k r ++ [lastK k r])
  | ks => ks
/-! ### both are the same -/
end BS

namespace BS
open PySem PySem.Spec PyProof.Rows L2 PL
theorem fmod_bd (a : Int) {m : Int} (h : 0 < m) : 0 ≤ a.fmod m ∧ a.fmod m < m := ⟨Int.fmod_nonneg_of_pos a h, Int.fmod_lt_of_pos a h⟩
theorem mix_fn (c k : Int) (h0 : 0 ≤ k) (h1 : k < 2 ^ 40) : ∃ v, f__law_mix [.int c, .int k] = PL.ret (.int v) := by
  obtain ⟨a0, a1⟩ := fmod_bd c (m := 2147483629) (by decide)
  generalize e1 : c.fmod 2147483629 = m1 at a0 a1
  obtain ⟨b0, b1⟩ := fmod_bd (m1 + 1000003 * k * k + 7919 * k) (m := 2147483629) (by decide)
  generalize e2 : (m1 + 1000003 * k * k + 7919 * k).fmod 2147483629 = m2 at b0 b1
  obtain ⟨c0, c1⟩ := fmod_bd (m2 * m2) (m := 2147483587) (by decide)
  generalize e3 : (m2 * m2).fmod 2147483587 = m3 at c0 c1
  refine ⟨((m3 * (m3 + 40961)).fmod 2147483563).fdiv 4, funext fun S => ?_⟩
  have k40 : k.natAbs < 2 ^ 40 := by omega
  have z1 : (1000003 : Int).natAbs < 2 ^ 20 := by decide
  have z2 : ((1000003 : Int) * k).natAbs < 2 ^ 60 := by rw [Int.natAbs_mul]; exact mul_lt z1 k40
  have z3 : (7919 : Int).natAbs < 2 ^ 13 := by decide
  have z4 : m2.natAbs < 2 ^ 31 := by omega
  have z5 : m3.natAbs < 2 ^ 31 := by omega
  have z6 : (m3 + 40961).natAbs < 2 ^ 32 := by omega
  refine run_of (G := [some (.int c), some (.int k), some (.int m3)]) ?_
  unfold b__law_mix
  rw [seq_of (G1 := [some (.int c), some (.int k), some (.int (m1 + 1000003 * k * k))]) (S1 := S) (by simp [startG, sAsg, tN, modD_int, e1, mulD_int (mulOk_sz z1 k40), mulD_int (mulOk_sz z2 k40)])]
  rw [seq_of (G1 := [some (.int c), some (.int k), some (.int m2)]) (S1 := S) (by simp [sAsg, tN, mulD_int (mulOk_sz z3 k40), modD_int, e2])]
  rw [seq_of (G1 := [some (.int c), some (.int k), some (.int m3)]) (S1 := S) (by simp [sAsg, tN, mulD_int (mulOk_sz z4 z4), modD_int, e3])]
  have l4 : (4 : Int).natAbs.log2 < 9000 := by decide
  simp [sRet, mulD_int (mulOk_sz z5 z6), modD_int, fdivD_int (j := 4) (by decide) l4]
/-- the deck at nd, its cells at nl; c: how often it has drawn beyond them, at most -/
def Deck (nd nl : Nat) (S : Sto) (c : Nat) : Prop := ∃ (is : List Int) (i : Nat) (c2 k s : Int), S[nd]? = some [.ls nl, .int i, .int c2, .int k, .int s] ∧ S[nl]? = some (is.map D.int) ∧ nl ≠ nd ∧ i ≤ is.length ∧ is.length ≤ 63 ∧ 0 ≤ c2 ∧ 0 ≤ k ∧ k ≤ c
theorem Deck.keep {nd nl : Nat} {S S' : Sto} {c c' : Nat} (d : Deck nd nl S c) (h1 : S'[nd]? = S[nd]?) (h2 : S'[nl]? = S[nl]?) (hc : c ≤ c') : Deck nd nl S' c' := by
  obtain ⟨is, i, c2, k, s, a1, a2, a3, a4, a5, a6, a7, a8⟩ := d
  exact ⟨is, i, c2, k, s, by rw [h1]; exact a1, by rw [h2]; exact a2, a3, a4, a5, a6, a7, by omega⟩
theorem Deck.lt {nd nl : Nat} {S : Sto} {c : Nat} (d : Deck nd nl S c) : nd < S.length ∧ nl < S.length := by
  obtain ⟨is, i, c2, k, s, a1, a2, _⟩ := d
  exact ⟨(List.getElem?_eq_some_iff.mp a1).1, (List.getElem?_eq_some_iff.mp a2).1⟩
theorem Deck.grow {nd nl : Nat} {S S' : Sto} {c : Nat} (d : Deck nd nl S c) (g : Grow S S') : Deck nd nl S' c := by
  obtain ⟨q, rfl⟩ := g
  exact d.keep (List.getElem?_append_left d.lt.1) (List.getElem?_append_left d.lt.2) (Nat.le_refl _)
theorem Deck.set {nd nl m : Nat} {S : Sto} {c : Nat} {xs : List D} (d : Deck nd nl S c) (h1 : m ≠ nd) (h2 : m ≠ nl) : Deck nd nl (S.set m xs) c :=
  d.keep (List.getElem?_set_ne h1) (List.getElem?_set_ne h2) (Nat.le_refl _)
theorem Deck.mono {nd nl : Nat} {S : Sto} {c c' : Nat} (d : Deck nd nl S c) (h : c ≤ c') : Deck nd nl S c' := d.keep rfl rfl h
theorem set5 {n : Nat} {S : Sto} {row : List D} {j : Nat} (h : S[n]? = some row) (hj : j < row.length) (v : D) : setD (.ls n) (.int j) v S = some (S.set n (row.set j v)) := by
  have : ixN row.length (j : Int) = some j := by
    unfold ixN
    rw [if_pos (by omega), if_pos (by omega)]
    simp
  simp only [setD, h, this]
theorem sub_of {mv mo mi : Gm → M D} {G : Gm} {S S1 S2 S3 S4 : Sto} {v o i : D} (h1 : mv G S = some (v, S1)) (h2 : mo G S1 = some (o, S2)) (h3 : mi G S2 = some (i, S3)) (h4 : setD o i v S3 = some S4) : sSub mv mo mi G S = some (.nx, G, S4) := by
  unfold sSub
  simp only [h1, h2, h3, h4, Option.map_some]
theorem next_ee {nd nl c : Nat} {S : Sto} {many : Int} {P : D → Sto → Prop} (d : Deck nd nl S c) (h1 : 1 ≤ many) (h2 : many < 2 ^ 60) (hc : c ≤ 1000000000)
    (hP : ∀ v S', 0 ≤ v → v < many → Ext nd S S' → S'.length = S.length → Deck nd nl S' (c + 1) → P (.int v) S') : Ee (f__law_next [.ls nd, .int many]) S P := by
  obtain ⟨is, i, c2, k, s, a1, a2, a3, a4, a5, a6, a7, a8⟩ := d
  have hlt : nd < S.length := (List.getElem?_eq_some_iff.mp a1).1
  have hm0 : many ≠ 0 := by omega
  have hml : many.natAbs.log2 < 9000 := by
    have := log2_lt (k := many.natAbs) (n := 60) (by omega)
    omega
  -- the row as it stands
  have rd : ∀ (S : Sto) (a b c d e : D), S[nd]? = some [a, b, c, d, e] → ixD (.ls nd) (.int 0) S = some (a, S) ∧ ixD (.ls nd) (.int 1) S = some (b, S) ∧ ixD (.ls nd) (.int 2) S = some (c, S) ∧ ixD (.ls nd) (.int 3) S = some (d, S) ∧ ixD (.ls nd) (.int 4) S = some (e, S) :=
    fun S a b c d e h => ⟨ixD_ls h rfl, ixD_ls h rfl, ixD_ls h rfl, ixD_ls h rfl, ixD_ls h rfl⟩
  have wr : ∀ (S : Sto) (row : List D), nd < S.length → (S.set nd row)[nd]? = some row := fun S row h => by rw [List.getElem?_set_self h]
  -- the last way: a number beyond the cells
  have last : ∀ (S0 : Sto) (i0 : Nat) (o2 o3 : Option D), S0[nd]? = some [.ls nl, .int i0, .int 0, .int k, .int s] → S0[nl]? = some (is.map D.int) → i0 ≤ is.length → Ext nd S S0 → S0.length = S.length →
      Es (sSeq (sSub (b2 addD (b2 ixD (getv 0) (cI 3)) (cI 1)) (getv 0) (cI 3))
 (sRet (b2 modD (vcall f__law_mix (aCons (b2 ixD (getv 0) (cI 4)) (aCons (b2 addD (b2 ixD (getv 0) (cI 3)) (cI 557)) aNil))) (getv 1)))) [some (.ls nd), some (.int many), o2, o3] S0 (fun f _ S1 => ∃ d, f = .rt d ∧ P d S1) := by
    intro S0 i0 o2 o3 q1 q2 q3 q4 q5
    obtain ⟨r0, r1, r2, r3, r4⟩ := rd S0 _ _ _ _ _ q1
    have w1 := wr S0 [.ls nl, .int i0, .int 0, .int (k + 1), .int s] (by omega)
    have st : sSub (b2 addD (b2 ixD (getv 0) (cI 3)) (cI 1)) (getv 0) (cI 3) [some (.ls nd), some (.int many), o2, o3] S0 = some (.nx, [some (.ls nd), some (.int many), o2, o3], S0.set nd [.ls nl, .int i0, .int 0, .int (k + 1), .int s]) :=
      sub_of (v := .int (k + 1)) (S1 := S0) (by simp [bnd_of r3]) (o := .ls nd) (S2 := S0) (by simp) (i := .int 3) (S3 := S0) (by simp) (set5 (j := 3) q1 (by simp) (.int (k + 1)))
    obtain ⟨v, hv⟩ := mix_fn s (k + 1 + 557) (by omega) (by omega)
    obtain ⟨t0, t1, t2, t3, t4⟩ := rd _ _ _ _ _ _ w1
    obtain ⟨m0, m1⟩ := fmod_bd v (m := many) (by omega)
    refine ⟨.rt (.int (v.fmod many)), [some (.ls nd), some (.int many), o2, o3], S0.set nd [.ls nl, .int i0, .int 0, .int (k + 1), .int s], ?_, _, rfl, hP _ _ m0 m1 (q4.trans (Ext.set _)) (by simpa using q5) ⟨is, i0, 0, k + 1, s, w1, by rw [List.getElem?_set_ne (fun z => a3 z.symm)]; exact q2, a3, q3, a5, by omega, by omega, by omega⟩⟩
    rw [seq_of st]
    refine sRet_of ?_
    simp only [b2_ev, vcall_ev, aCons_ev, getv_z, getv_s, cI_ev, bnd_ret, bnd_assoc, aNil_ev]
    rw [bnd_of t4, bnd_of t3]
    simp [hv, modD_int hm0]
  -- the way by the number kept
  have kept : ∀ (S0 : Sto) (i0 : Nat) (x : Int) (o2 o3 : Option D), 0 ≤ x → S0[nd]? = some [.ls nl, .int i0, .int x, .int k, .int s] → S0[nl]? = some (is.map D.int) → i0 ≤ is.length → Ext nd S S0 → S0.length = S.length →
      Es (sSeq (sIf (tst (b2 gtD (b2 ixD (getv 0) (cI 2)) (cI 0)))
 (sSeq (sAsg (b2 modD (b2 ixD (getv 0) (cI 2)) (getv 1)) (tN 3))
 (sSeq (sSub (b2 fdivD (b2 ixD (getv 0) (cI 2)) (getv 1)) (getv 0) (cI 2))
 (sRet (getv 3))))
 sNext)
 (sSeq (sSub (b2 addD (b2 ixD (getv 0) (cI 3)) (cI 1)) (getv 0) (cI 3))
 (sRet (b2 modD (vcall f__law_mix (aCons (b2 ixD (getv 0) (cI 4)) (aCons (b2 addD (b2 ixD (getv 0) (cI 3)) (cI 557)) aNil))) (getv 1))))) [some (.ls nd), some (.int many), o2, o3] S0 (fun f _ S1 => ∃ d, f = .rt d ∧ P d S1) := by
    intro S0 i0 x o2 o3 hx q1 q2 q3 q4 q5
    obtain ⟨r0, r1, r2, r3, r4⟩ := rd S0 _ _ _ _ _ q1
    by_cases hx0 : 0 < x
    · obtain ⟨m0, m1⟩ := fmod_bd x (m := many) (by omega)
      have w1 := wr S0 [.ls nl, .int i0, .int (x.fdiv many), .int k, .int s] (by omega)
      have hd0 : 0 ≤ x.fdiv many := Int.fdiv_nonneg (by omega) (by omega)
      refine ⟨.rt (.int (x.fmod many)), [some (.ls nd), some (.int many), o2, some (.int (x.fmod many))], S0.set nd [.ls nl, .int i0, .int (x.fdiv many), .int k, .int s], ?_, _, rfl, hP _ _ m0 m1 (q4.trans (Ext.set _)) (by simpa using q5) ⟨is, i0, x.fdiv many, k, s, w1, by rw [List.getElem?_set_ne (fun z => a3 z.symm)]; exact q2, a3, q3, a5, hd0, a7, by omega⟩⟩
      refine seq_rt ?_
      rw [if_t (S1 := S0) (by simp [bnd_of r2, hx0])]
      rw [seq_of (G1 := [some (.ls nd), some (.int many), o2, some (.int (x.fmod many))]) (S1 := S0) (set_of (d := .int (x.fmod many)) (by simp [bnd_of r2, modD_int hm0]))]
      rw [seq_of (sub_of (v := .int (x.fdiv many)) (S1 := S0) (by simp [bnd_of r2, fdivD_int hm0 hml]) (o := .ls nd) (S2 := S0) (by simp) (i := .int 2) (S3 := S0) (by simp) (set5 (j := 2) q1 (by simp) (.int (x.fdiv many))))]
      exact sRet_of (by simp)
    · have hx' : x = 0 := by omega
      subst hx'
      refine es_seq ⟨.nx, [some (.ls nd), some (.int many), o2, o3], S0, ?_, last S0 i0 o2 o3 q1 q2 q3 q4 q5⟩
      rw [if_f (S1 := S0) (by simp [bnd_of r2])]
      rfl
  refine ee_run ?_
  unfold b__law_next
  obtain ⟨r0, r1, r2, r3, r4⟩ := rd S _ _ _ _ _ a1
  have hlen : lenD [.ls nl] S = some (.int is.length, S) := by rw [lenD_ls a2]; simp
  have hst : startG 4 [D.ls nd, .int many] = [some (.ls nd), some (.int many), none, none] := rfl
  rw [hst]
  by_cases hcond : c2 = 0 ∧ (i : Int) < is.length
  · obtain ⟨hc2, hi⟩ := hcond
    subst hc2
    have hil : i < is.length := by omega
    have cell : ixD (.ls nl) (.int i) S = some (.int is[i], S) := ixD_ls a2 (atI_nat (by simp [hil]))
    have w1 := wr S [.ls nl, .int ((i + 1 : Nat) : Int), .int 0, .int k, .int s] hlt
    obtain ⟨t0, t1, t2, t3, t4⟩ := rd _ _ _ _ _ _ w1
    have q2 : (S.set nd [.ls nl, .int ((i + 1 : Nat) : Int), .int 0, .int k, .int s])[nl]? = some (is.map D.int) := by rw [List.getElem?_set_ne (fun z => a3 z.symm)]; exact a2
    have cond : tand (tst (b2 eqD (b2 ixD (getv 0) (cI 2)) (cI 0))) (tst (b2 ltD (b2 ixD (getv 0) (cI 1)) (vcall lenD (aCons (b2 ixD (getv 0) (cI 0)) aNil)))) [some (.ls nd), some (.int many), none, none] S = some (true, S) := by
      simp only [tand_ev, tst_ev, b2_ev, getv_z, cI_ev, bnd_ret, bnd_assoc, vcall_ev, aCons_ev, aNil_ev]
      rw [bnd_of r2]
      simp
      rw [bnd_of r1, bnd_of r0, bnd_of hlen]
      simp [hil]
    have sub1 : sSub (b2 addD (b2 ixD (getv 0) (cI 1)) (cI 1)) (getv 0) (cI 1) [some (.ls nd), some (.int many), some (.int is[i]), none] S = some (.nx, [some (.ls nd), some (.int many), some (.int is[i]), none], S.set nd [.ls nl, .int ((i + 1 : Nat) : Int), .int 0, .int k, .int s]) :=
      sub_of (v := .int ((i + 1 : Nat) : Int)) (S1 := S) (by simp [bnd_of r1]) (o := .ls nd) (S2 := S) (by simp) (i := .int 1) (S3 := S) (by simp) (set5 (j := 1) a1 (by simp) (.int ((i + 1 : Nat) : Int)))
    have set1 : sAsg (b2 ixD (b2 ixD (getv 0) (cI 0)) (b2 ixD (getv 0) (cI 1))) (tN 2) [some (.ls nd), some (.int many), none, none] S = some (.nx, [some (.ls nd), some (.int many), some (.int is[i]), none], S) :=
      set_of (d := .int is[i]) (by
        simp only [b2_ev, getv_z, cI_ev, bnd_ret, bnd_assoc]
        rw [bnd_of r0, bnd_of r1]
        exact cell)
    have p18 : powD (.int 10) (.int 18) = PL.ret (.int 1000000000000000000) := by
      show (if (0 : Int) ≤ 18 ∧ (18 : Int) ≤ 1000000 ∧ (10 : Int).natAbs < 2 ^ 64 then PL.ret (D.int (10 ^ (18 : Int).toNat)) else stuck) = _
      rw [if_pos (by decide)]
      rfl
    by_cases hcell : is[i] < 1000000000000000000
    · obtain ⟨v, hv⟩ := mix_fn is[i] ((i + 1 : Nat) : Int) (by omega) (by omega)
      obtain ⟨m0, m1⟩ := fmod_bd v (m := many) (by omega)
      refine es_seq ⟨.rt (.int (v.fmod many)), [some (.ls nd), some (.int many), some (.int is[i]), none], S.set nd [.ls nl, .int ((i + 1 : Nat) : Int), .int 0, .int k, .int s], ?_, _, rfl, hP _ _ m0 m1 (Ext.set _) (by simp) ⟨is, i + 1, 0, k, s, w1, q2, a3, hil, a5, by omega, a7, by omega⟩⟩
      rw [if_t cond, seq_of set1, seq_of sub1]
      refine seq_rt ?_
      rw [if_t (S1 := S.set nd [.ls nl, .int ((i + 1 : Nat) : Int), .int 0, .int k, .int s]) (by simp [p18, hcell])]
      refine sRet_of ?_
      simp only [b2_ev, vcall_ev, aCons_ev, getv_z, getv_s, cI_ev, bnd_ret, bnd_assoc, aNil_ev]
      rw [bnd_of t1]
      simp only [bnd_ret, hv, modD_int hm0, ret_ap]
    · have w2 : ((S.set nd [.ls nl, .int ((i + 1 : Nat) : Int), .int 0, .int k, .int s]).set nd [.ls nl, .int ((i + 1 : Nat) : Int), .int is[i], .int k, .int s])[nd]? = some [.ls nl, .int ((i + 1 : Nat) : Int), .int is[i], .int k, .int s] := wr _ _ (by simpa using hlt)
      have q3 : ((S.set nd [.ls nl, .int ((i + 1 : Nat) : Int), .int 0, .int k, .int s]).set nd [.ls nl, .int ((i + 1 : Nat) : Int), .int is[i], .int k, .int s])[nl]? = some (is.map D.int) := by
        rw [List.getElem?_set_ne (fun z => a3 z.symm)]; exact q2
      refine es_seq ⟨.nx, [some (.ls nd), some (.int many), some (.int is[i]), none], (S.set nd [.ls nl, .int ((i + 1 : Nat) : Int), .int 0, .int k, .int s]).set nd [.ls nl, .int ((i + 1 : Nat) : Int), .int is[i], .int k, .int s], ?_, ?_⟩
      · rw [if_t cond, seq_of set1, seq_of sub1]
        rw [seq_of (G1 := [some (.ls nd), some (.int many), some (.int is[i]), none]) (S1 := S.set nd [.ls nl, .int ((i + 1 : Nat) : Int), .int 0, .int k, .int s]) (by rw [if_f (S1 := S.set nd [.ls nl, .int ((i + 1 : Nat) : Int), .int 0, .int k, .int s]) (by simp [p18, hcell])]; rfl)]
        exact sub_of (v := .int is[i]) rfl (o := .ls nd) rfl (i := .int 2) rfl (set5 (j := 2) w1 (by simp) (.int is[i]))
      · exact kept _ (i + 1) is[i] _ _ (by omega) w2 q3 hil ((Ext.set _).trans (Ext.set _)) (by simp)
  · refine es_seq ⟨.nx, [some (.ls nd), some (.int many), none, none], S, ?_, kept S i c2 none none a6 a1 a2 a4 (Ext.refl _ _) rfl⟩
    have cond : tand (tst (b2 eqD (b2 ixD (getv 0) (cI 2)) (cI 0))) (tst (b2 ltD (b2 ixD (getv 0) (cI 1)) (vcall lenD (aCons (b2 ixD (getv 0) (cI 0)) aNil)))) [some (.ls nd), some (.int many), none, none] S = some (false, S) := by
      simp only [tand_ev, tst_ev, b2_ev, getv_z, cI_ev, bnd_ret, bnd_assoc, vcall_ev, aCons_ev, aNil_ev]
      rw [bnd_of r2]
      by_cases hc2 : c2 = 0
      · subst hc2
        simp
        rw [bnd_of r1, bnd_of r0, bnd_of hlen]
        simp at hcond
        simp
        omega
      · simp [hc2]
    rw [if_f cond]
    rfl
end BS

namespace BS
open PySem PySem.Spec PyProof.Rows L2 PL
theorem nx {β : Type} {nd nl c : Nat} {S : Sto} {many : Int} {f : D → M β} {P : β → Sto → Prop} (d : Deck nd nl S c) (h1 : 1 ≤ many) (h2 : many < 2 ^ 60) (hc : c ≤ 1000000000)
    (hP : ∀ v S', 0 ≤ v → v < many → Ext nd S S' → S'.length = S.length → Deck nd nl S' (c + 1) → Ee (f (.int v)) S' P) : Ee (bnd (f__law_next [.ls nd, .int many]) f) S P := ee_bnd (next_ee d h1 h2 hc hP)
theorem grow1 (S : Sto) (x : List D) : Grow S (S ++ [x]) := ⟨[x], rfl⟩
def SortedI (xs : List Int) : Prop := xs.Pairwise (· < ·)
@[simp] theorem minD_ev (i j : Int) : minD [.int i, .int j] = PL.ret (.int (if j < i then j else i)) := rfl
@[simp] theorem maxD_ev (i j : Int) : maxD [.int i, .int j] = PL.ret (.int (if j > i then j else i)) := rfl
noncomputable abbrev sbody1 : MS := (sSeq (sAsg (b2 ixD (vlst (aCons (getv 5) (aCons (vcall f__law_next (aCons (getv 0) (aCons (b2 addD (getv 5) (cI 1)) aNil))) (aCons (cI 0) aNil)))) (vcall minD (aCons (vcall f__law_next (aCons (getv 0) (aCons (cI 3) aNil))) (aCons (b2 subD (b2 subD (getv 1) (cI 2)) (getv 6)) aNil)))) (tN 7))
 (sSeq (sSub (b2 addD (b2 ixD (getv 4) (getv 6)) (getv 7)) (getv 4) (getv 6))
 (sAsg (b2 subD (getv 5) (getv 7)) (tN 5))))
noncomputable abbrev sbody2 : MS := (sDo (vmeth appD (getv 8) (aCons (b2 addD (b2 ixD (getv 8) (vneg (cI 1))) (getv 9)) aNil)))
/-- what holds in the loop over the gaps -/
structure GapI (nd nl c ng : Nat) (S0 : Sto) (many span low : Int) (j : Nat) (G : Gm) (S : Sto) : Prop where
  ex : ∃ (gs : List Int) (left : Int) (o6 o7 : Option D), G = [some (.ls nd), some (.int many), some (.int span), some (.int low), some (.ls ng), some (.int left), o6, o7, none, none] ∧ S[ng]? = some (gs.map D.int) ∧ (gs.length : Int) = many - 1 ∧ (∀ g ∈ gs, 1 ≤ g) ∧ 0 ≤ left ∧ gs.sum + left = span
  ext : Ext nd S0 S
  dk : Deck nd nl S (c + 2 * j)
/-- the points, one behind the other -/
structure SpotI (nd nl c ng nf : Nat) (S0 : Sto) (gs : List Int) (low : Int) (G0 : List (Option D)) (j : Nat) (G : Gm) (S : Sto) : Prop where
  g : ∃ o, G = G0 ++ [some (.ls nf), o]
  hg : S[ng]? = some (gs.map D.int)
  ex : ∃ ys, S[nf]? = some ((ys ++ [low + (gs.take j).sum]).map D.int) ∧ ys.length = j ∧ SortedI (ys ++ [low + (gs.take j).sum]) ∧ ∀ y ∈ ys, low ≤ y
  ext : Ext nd S0 S
  dk : Deck nd nl S c
end BS

namespace BS
open PySem PySem.Spec PyProof.Rows L2 PL
structure Mid (nd nl c ns nt nk : Nat) (S0 : Sto) (xs ws : List Int) (w : Int) (kn : List Kn) (S : Sto) : Prop where
  hs : S[ns]? = some (xs.map D.int)
  ht : S[nt]? = some ((ws ++ [w]).map D.int)
  hk : S[nk]? = some (kn.map dk)
  ext : Ext nd S0 S
  dk : Deck nd nl S c
theorem Mid.step {nd nl c c' ns nt nk : Nat} {S0 S S' : Sto} {xs ws : List Int} {w : Int} {kn : List Kn} (m : Mid nd nl c ns nt nk S0 xs ws w kn S) (e : Ext nd S S') (d : Deck nd nl S' c') (n1 : ns ≠ nd) (n2 : nt ≠ nd) (n3 : nk ≠ nd) : Mid nd nl c' ns nt nk S0 xs ws w kn S' :=
  ⟨e.at_ m.hs n1, e.at_ m.ht n2, e.at_ m.hk n3, m.ext.trans e, d⟩
theorem Mid.mono {nd nl c c' ns nt nk : Nat} {S0 S : Sto} {xs ws : List Int} {w : Int} {kn : List Kn} (m : Mid nd nl c ns nt nk S0 xs ws w kn S) (h : c ≤ c') : Mid nd nl c' ns nt nk S0 xs ws w kn S := ⟨m.hs, m.ht, m.hk, m.ext, m.dk.mono h⟩
/-- what is fixed through the loop of a map -/
structure Fix (nd nl ns nt nk : Nat) (xs : List Int) (x0 xl many below : Int) : Prop where
  n1 : ns ≠ nd
  n2 : nt ≠ nd
  n3 : nk ≠ nd
  n4 : nt ≠ nl
  n5 : nk ≠ nl
  n6 : nt ≠ nk
  n7 : nt ≠ ns
  n8 : nk ≠ ns
  a0 : atI (xs.map D.int) 0 = some (.int x0)
  al : atI (xs.map D.int) (-1) = some (.int xl)
  le : x0 ≤ xl
  bd : -9999 ≤ x0 ∧ xl ≤ 9999
  len : (xs.length : Int) = many
  m2 : 2 ≤ many ∧ many ≤ 8
  mem : ∀ x ∈ xs, x0 ≤ x ∧ x ≤ xl
  b1 : 1 ≤ below ∧ below ≤ 9999
section
variable {nd nl c ns nt nk : Nat} {S0 S : Sto} {xs ws : List Int} {w x0 xl many below most k way to : Int} {kn : List Kn}
abbrev gm (nd ns nk nt : Nat) (most many below k way to : Int) : Gm := [some (.ls nd), some (.int most), some (.int many), some (.ls ns), some (.int below), some (.ls nk), some (.ls nt), some (.int k), some (.int way), some (.int to)]
def Aft (nd nl c ns nt nk : Nat) (S0 : Sto) (xs ws : List Int) (w : Int) (kn : List Kn) (most many below k way : Int) : Fl → Gm → Sto → Prop := fun f G2 S2 => f = .nx ∧ ∃ to', -100000 ≤ to' ∧ to' ≤ 100000 ∧ G2 = gm nd ns nk nt most many below k way to' ∧ Mid nd nl (c + 1) ns nt nk S0 xs ws w kn S2
end
end BS

namespace BS
open PySem PySem.Spec PyProof.Rows L2 PL
def kns (b : Int) (xs ts : List Int) : List Kn := List.zipWith (fun x t => (Rat.divInt x b, Rat.divInt t b)) xs ts
/-- a map as the law draws it -/
structure MapOk (ks : List Kn) : Prop where
  l2 : 2 ≤ ks.length
  l8 : ks.length ≤ 8
  rise : Rising ks
  sz : szm 15 ks
  ins : ∃ a z, (∃ r, ks = a :: r) ∧ (∃ q, ks = q ++ [z]) ∧ ∀ k ∈ ks, a.1 ≤ k.2 ∧ k.2 ≤ z.1
  one : ∃ b : Nat, 0 < b ∧ b < 2 ^ 14 ∧ ∀ k ∈ ks, ∃ x y : Int, k.1 * b = x ∧ k.2 * b = y ∧ x.natAbs ≤ 10000 ∧ y.natAbs ≤ 10000
noncomputable abbrev pbody : MS := (sSeq (sAsg (vcall f__law_next (aCons (getv 0) (aCons (cI 8) aNil))) (tN 8))
 (sSeq (sAsg (b2 ixD (getv 3) (vcall f__law_next (aCons (getv 0) (aCons (getv 2) aNil)))) (tN 9))
 (sSeq (sIf (tst (b2 eqD (getv 8) (cI 0)))
 (sAsg (b2 addD (b2 ixD (getv 3) (cI 0)) (vcall f__law_next (aCons (getv 0) (aCons (b2 addD (b2 subD (b2 ixD (getv 3) (vneg (cI 1))) (b2 ixD (getv 3) (cI 0))) (cI 1)) aNil)))) (tN 9))
 sNext)
 (sSeq (sIf (tst (b2 eqD (getv 8) (cI 1)))
 (sAsg (b2 ixD (vlst (aCons (b2 ixD (getv 3) (cI 0)) (aCons (b2 ixD (getv 3) (vneg (cI 1))) aNil))) (vcall f__law_next (aCons (getv 0) (aCons (cI 2) aNil)))) (tN 9))
 sNext)
 (sSeq (sIf (tst (b2 eqD (getv 8) (cI 2)))
 (sAsg (b2 ixD (getv 6) (vneg (cI 1))) (tN 9))
 sNext)
 (sSeq (sIf (tand (tst (b2 gtD (getv 8) (cI 4))) (tst (b2 gtD (getv 7) (cI 0))))
 (sAsg (b2 addD (b2 ixD (getv 6) (vneg (cI 1))) (b2 mulD (b2 subD (b2 ixD (getv 3) (getv 7)) (b2 ixD (getv 3) (b2 subD (getv 7) (cI 1)))) (b2 ixD (vlst (aCons (cI 1) (aCons (vneg (cI 1)) aNil))) (b2 modD (getv 8) (cI 2))))) (tN 9))
 sNext)
 (sSeq (sIf (tnot (tst (chainD leD leD (b2 ixD (getv 3) (cI 0)) (getv 9) (b2 ixD (getv 3) (vneg (cI 1))))))
 (sAsg (b2 ixD (getv 6) (vneg (cI 1))) (tN 9))
 sNext)
 (sSeq (sDo (vmeth appD (getv 6) (aCons (getv 9) aNil)))
 (sDo (vmeth appD (getv 5) (aCons (vtup (aCons (vcall f__law_reduced (aCons (b2 ixD (getv 3) (getv 7)) (aCons (getv 4) aNil))) (aCons (vcall f__law_reduced (aCons (getv 9) (aCons (getv 4) aNil))) aNil))) aNil)))))))))))
structure MapI (nd nl c ns nt nk : Nat) (S0 : Sto) (xs : List Int) (x0 xl most many below : Int) (j : Nat) (G : Gm) (S : Sto) : Prop where
  ex : ∃ (ws ts : List Int) (w : Int) (o7 o8 o9 : Option D), G = [some (.ls nd), some (.int most), some (.int many), some (.ls ns), some (.int below), some (.ls nk), some (.ls nt), o7, o8, o9] ∧ Mid nd nl (c + 10 * j) ns nt nk S0 xs ws w (kns below xs ts) S ∧ (x0 ≤ w ∧ w ≤ xl) ∧ ts.length = j ∧ (∀ t ∈ ts, x0 ≤ t ∧ t ≤ xl) ∧ ws.length = j
end BS

namespace BS
open PySem PySem.Spec PyProof.Rows L2 PL
theorem dints_map (ns : List Int) : dints (ns.map D.int) = some ns := by
  induction ns with
  | nil => rfl
  | cons n ns ih => rw [List.map_cons, dints, ih]; rfl
end BS

namespace BS
open PySem PySem.Spec PyProof.Rows L2 PL
def NF : List Kn → Prop
  | a :: b :: c :: r => sl a b ≠ sl b c ∧ NF (b :: c :: r)
  | _ => True
end BS

namespace BS
open PySem PySem.Spec PyProof.Rows L2 PL
structure Mp (ks : List Kn) : Prop where
  l2 : 2 ≤ ks.length
  l8 : ks.length ≤ 8
  rise : Rising ks
  sz : szm 15 ks
theorem sIx_n (n d k : Nat) (h : k ≤ n) : HT.sIx n d (some (k : Int)) = k := by rw [HT.sIx_nat, Nat.min_eq_left h]
def mx (x : Rat) : Int := if (x.den : Int) > (x.num.natAbs : Int) then x.den else x.num.natAbs
/-! ### the law -/
end BS

namespace BS
open PySem PySem.Spec PyProof.Rows L2 PL
/-! ### comprehensions whose parts change no list -/
theorem Grow.len {S S1 : Sto} (g : Grow S S1) : S.length ≤ S1.length := by
  obtain ⟨q, rfl⟩ := g
  simp
/-- what a turn of a comprehension does -/
def Turn (g : D → Gm → Option Gm) (tt : Gm → M Bool) (te : Gm → M D) (G : Gm) (d : D) (o : Option D) : Prop :=
  ∃ G1, g d G = some G1 ∧ ∀ S, ∃ S1, Grow S S1 ∧ match o with
    | some y => tt G1 S = some (true, S1) ∧ Pu (te G1) y
    | none => tt G1 S = some (false, S1)
inductive Turns (g : D → Gm → Option Gm) (tt : Gm → M Bool) (te : Gm → M D) (G : Gm) : List D → List (Option D) → Prop
  | nil : Turns g tt te G [] []
  | cons {d : D} {o : Option D} {ds : List D} {os : List (Option D)} : Turn g tt te G d o → Turns g tt te G ds os → Turns g tt te G (d :: ds) (o :: os)
/-! ### equality of a value with itself -/
mutual
theorem eqo_refl : ∀ (n : Nat) (d : D), plain n d = true → eqo d d = some true
  | _, .non, _ => by simp [eqo]
  | _, .bl b, _ => by simp [eqo]
  | _, .int i, _ => by simp [eqo]
  | _, .str x, _ => by simp [eqo]
  | n, .tup ds, h => by
    obtain ⟨m, _, hm⟩ := plain_tup h
    rw [eqo]
    exact eqos_refl m ds hm
  | n, .ls _, h => by cases n <;> simp [PL.plain] at h
  | n, .ro _, h => by cases n <;> simp [PL.plain] at h
  | n, .ty _, h => by cases n <;> simp [PL.plain] at h
  | n, .cls _, h => by cases n <;> simp [PL.plain] at h
  | n, .exc _, h => by cases n <;> simp [PL.plain] at h
  | n, .dc _ _, h => by cases n <;> simp [PL.plain] at h
theorem eqos_refl : ∀ (n : Nat) (ds : List D), (∀ d ∈ ds, plain n d = true) → eqos ds ds = some true
  | _, [], _ => by simp [eqos]
  | n, d :: ds, h => by
    rw [eqos, eqo_refl n d (h d (by simp)), eqos_refl n ds fun e he => h e (by simp [he])]
    rfl
end
end BS

/-! EVALUATION, part 3: a step for each construct, to be taken by its head -/
namespace PL
open PySem PySem.Spec PyProof.Rows L2 BS
/-- how a statement goes on to the next -/
def Kn2 (A : Gm → Sto → Prop) (P : Fl → Gm → Sto → Prop) : Fl → Gm → Sto → Prop := fun f G S => match f with
  | .nx => A G S
  | f => P f G S
/-- a def's end -/
def Rn (P : D → Sto → Prop) : Fl → Gm → Sto → Prop := fun f _ S => match f with
  | .rt d => P d S
  | .nx => P .non S
  | _ => False
/-- a loop's turn -/
def Ln (I : Gm → Sto → Prop) (P : Fl → Gm → Sto → Prop) : Fl → Gm → Sto → Prop := fun f G S => match f with
  | .nx => I G S
  | .ct => I G S
  | .bk => P .nx G S
  | .rt d => P (.rt d) G S
section
variable {α β : Type} {S : Sto} {G : Gm} {d : D} {A : Gm → Sto → Prop} {P : Fl → Gm → Sto → Prop} {Q : D → Sto → Prop} {R : Bool → Sto → Prop}
theorem kn_nx (h : A G S) : Kn2 A P .nx G S := h
theorem kn_rt (h : P (.rt d) G S) : Kn2 A P (.rt d) G S := h
theorem kn_bk (h : P .bk G S) : Kn2 A P .bk G S := h
theorem kn_ct (h : P .ct G S) : Kn2 A P .ct G S := h
theorem rn_rt (h : Q d S) : Rn Q (.rt d) G S := h
theorem rn_nx (h : Q .non S) : Rn Q .nx G S := h
theorem ln_nx (h : A G S) : Ln A P .nx G S := h
theorem ln_ct (h : A G S) : Ln A P .ct G S := h
theorem ln_bk (h : P .nx G S) : Ln A P .bk G S := h
theorem ln_rt (h : P (.rt d) G S) : Ln A P (.rt d) G S := h
theorem s_seq {m1 m2 : MS} (h : Es m1 G S (Kn2 (fun G1 S1 => Es m2 G1 S1 P) P)) : Es (sSeq m1 m2) G S P := by
  refine es_seq (es_mono h fun f G1 S1 p => ?_)
  cases f <;> exact p
theorem s_run {n : Nat} {sm : MS} {ds : List D} (h : Es sm (startG n ds) S (Rn Q)) : Ee (runB n sm ds) S Q := by
  obtain ⟨f, G1, S1, e, p⟩ := h
  cases f with
  | rt d => exact ⟨d, S1, run_of e, p⟩
  | nx => exact ⟨.non, S1, by unfold runB; rw [e], p⟩
  | bk => exact p.elim
  | ct => exact p.elim
theorem s_set {m : Gm → M D} {i : Nat} (h : Ee (m G) S fun d S1 => P .nx (G.set i (some d)) S1) : Es (sAsg m (tN i)) G S P := es_set h
theorem s_if {c : Gm → M Bool} {a b : MS} (h : Ee (c G) S fun k S1 => (k = true → Es a G S1 P) ∧ (k = false → Es b G S1 P)) : Es (sIf c a b) G S P :=
  es_if (ee_mono h fun k S1 ⟨p, q⟩ => by
    cases k with
    | true => rw [if_pos rfl]; exact p rfl
    | false => rw [if_neg Bool.false_ne_true]; exact q rfl)
theorem s_next (h : P .nx G S) : Es sNext G S P := es_next h
theorem s_cnt (h : P .ct G S) : Es sCnt G S P := ⟨_, _, _, rfl, h⟩
theorem s_brk (h : P .bk G S) : Es sBrk G S P := ⟨_, _, _, rfl, h⟩
theorem s_ret {m : Gm → M D} (h : Ee (m G) S fun d S1 => P (.rt d) G S1) : Es (sRet m) G S P := es_ret h
theorem s_do {m : Gm → M D} (h : Ee (m G) S fun _ S1 => P .nx G S1) : Es (sDo m) G S P := es_do h
theorem s_par {i j : Nat} {m : Gm → M (List D)} (h : Ee (m G) S fun ds S1 => ∃ d e, ds = [d, e] ∧ P .nx ((G.set i (some d)).set j (some e)) S1) : Es (sPar i j m) G S P := by
  obtain ⟨ds, S1, e, d, e', rfl, p⟩ := h
  exact ⟨_, _, _, par_of e, p⟩
theorem s_sub {mv mo mi : Gm → M D} (h : Ee (mv G) S fun v S1 => Ee (mo G) S1 fun o S2 => Ee (mi G) S2 fun i S3 => ∃ S4, setD o i v S3 = some S4 ∧ P .nx G S4) : Es (sSub mv mo mi) G S P := es_sub h
theorem s_for {mi : Gm → M Src} {g : D → Gm → Option Gm} {b : MS} (h : Ee (mi G) S fun gd S1 => Es (forL gd g b gd.2) G S1 P) : Es (sFor mi g b) G S P := es_for h
/-- a loop by what holds ahead of item j -/
theorem s_loop {gd : Src} {g : D → Gm → Option Gm} {b : MS} (I : Nat → Gm → Sto → Prop) {ds : List D} (h0 : I 0 G S) (hs : ∀ j G S, I j G S → Stays gd S)
    (ht : ∀ j d G S, ds[j]? = some d → I j G S → ∃ G1, g d G = some G1 ∧ Es b G1 S (Ln (I (j + 1)) P)) (hd : ∀ G S, I ds.length G S → P .nx G S) : Es (forL gd g b ds) G S P := by
  refine es_forL I ds 0 G S h0 hs (fun j d G S hj hi => ?_) fun G S hi => hd G S (by rw [Nat.zero_add] at hi; exact hi)
  rw [Nat.zero_add] at hi ⊢
  obtain ⟨G1, e, p⟩ := ht j d G S hj hi
  exact ⟨G1, e, es_mono p fun f G2 S2 q => by cases f <;> exact q⟩
theorem br_t {X Y : Prop} (h : X) : (true = true → X) ∧ (true = false → Y) := ⟨fun _ => h, fun z => (nomatch z)⟩
theorem br_f {X Y : Prop} (h : Y) : (false = true → X) ∧ (false = false → Y) := ⟨fun z => (nomatch z), fun _ => h⟩
theorem br_Nt {X Y : Prop} (h : Y) : ((!true) = true → X) ∧ ((!true) = false → Y) := br_f h
theorem br_Nf {X Y : Prop} (h : X) : ((!false) = true → X) ∧ ((!false) = false → Y) := br_t h
theorem br_nt {p X Y : Prop} [Decidable p] (hp : p) (h : Y) : ((!decide p) = true → X) ∧ ((!decide p) = false → Y) := by
  rw [decide_eq_true hp]
  exact br_f h
theorem br_nf {p X Y : Prop} [Decidable p] (hp : ¬ p) (h : X) : ((!decide p) = true → X) ∧ ((!decide p) = false → Y) := by
  rw [decide_eq_false hp]
  exact br_t h
theorem br_by {p X Y : Prop} [Decidable p] (h1 : p → X) (h2 : ¬ p → Y) : (decide p = true → X) ∧ (decide p = false → Y) := ⟨fun z => h1 (of_decide_eq_true z), fun z => h2 (of_decide_eq_false z)⟩
theorem br_nby {p X Y : Prop} [Decidable p] (h1 : ¬ p → X) (h2 : p → Y) : ((!decide p) = true → X) ∧ ((!decide p) = false → Y) := by
  by_cases h : p
  · exact br_nt h (h2 h)
  · exact br_nf h (h1 h)
/-! expressions -/
theorem e_ret {a : α} {Q : α → Sto → Prop} (h : Q a S) : Ee (PL.ret a) S Q := ee_ret h
theorem e_eq {m : M α} {a : α} {Q : α → Sto → Prop} (e : m = PL.ret a) (h : Q a S) : Ee m S Q := by rw [e]; exact ee_ret h
theorem e_getz (h : Q d S) : Ee (getv 0 (some d :: G)) S Q := ee_ret h
theorem e_gets {i : Nat} {o : Option D} (h : Ee (getv i G) S Q) : Ee (getv (i + 1) (o :: G)) S Q := h
theorem e_cI {i : Int} (h : Q (.int i) S) : Ee (cI i G) S Q := ee_ret h
theorem e_cS {i : Str} (h : Q (.str i) S) : Ee (cS i G) S Q := ee_ret h
theorem e_cB {i : Bool} (h : Q (.bl i) S) : Ee (cB i G) S Q := ee_ret h
theorem e_cT {i : String} (h : Q (.ty i) S) : Ee (cT i G) S Q := ee_ret h
theorem e_cN (h : Q .non S) : Ee (cN G) S Q := ee_ret h
theorem e_b2 {f : D → D → M D} {ma mb : Gm → M D} (h : Ee (ma G) S fun x S1 => Ee (mb G) S1 fun y S2 => Ee (f x y) S2 Q) : Ee (b2 f ma mb G) S Q := ee_bnd (ee_mono h fun _ _ p => ee_bnd p)
theorem e_neg {m : Gm → M D} (h : Ee (m G) S fun x S1 => Ee (negD x) S1 Q) : Ee (vneg m G) S Q := ee_bnd h
theorem e_negI {i : Int} (h : Q (.int (-i)) S) : Ee (negD (.int i)) S Q := ee_ret h
theorem e_tup {ms : Gm → M (List D)} (h : Ee (ms G) S fun ds S1 => Ee (mkTup ds) S1 Q) : Ee (vtup ms G) S Q := ee_bnd h
theorem e_lst {ms : Gm → M (List D)} (h : Ee (ms G) S fun ds S1 => Ee (PL.alloc ds) S1 Q) : Ee (vlst ms G) S Q := ee_bnd h
theorem e_call {f : List D → M D} {ms : Gm → M (List D)} (h : Ee (ms G) S fun ds S1 => Ee (f ds) S1 Q) : Ee (vcall f ms G) S Q := ee_bnd h
theorem a_nil {Q : List D → Sto → Prop} (h : Q [] S) : Ee (aNil G) S Q := ee_ret h
theorem a_cons {m : Gm → M D} {ms : Gm → M (List D)} {Q : List D → Sto → Prop} (h : Ee (m G) S fun x S1 => Ee (ms G) S1 fun ds S2 => Q (x :: ds) S2) : Ee (aCons m ms G) S Q :=
  ee_bnd (ee_mono h fun _ _ p => ee_bnd (ee_mono p fun _ _ q => ee_ret q))
theorem e_tst {m : Gm → M D} (h : Ee (m G) S fun x S1 => Ee (asB x) S1 R) : Ee (tst m G) S R := ee_bnd h
theorem e_asB {b : Bool} (h : R b S) : Ee (asB (.bl b)) S R := ee_ret h
theorem e_tru2 {m : Gm → M D} (h : Ee (m G) S fun x S1 => Ee (tru x) S1 R) : Ee (tru2 m G) S R := ee_bnd h
theorem e_trubl {b : Bool} (h : R b S) : Ee (tru (.bl b)) S R := ee_ret h
theorem e_truint {i : Int} (h : R (i != 0) S) : Ee (tru (.int i)) S R := ee_ret h
theorem e_tand {m n : Gm → M Bool} (h : Ee (m G) S fun c S1 => (c = true → Ee (n G) S1 R) ∧ (c = false → R false S1)) : Ee (tand m n G) S R :=
  ee_bnd (ee_mono h fun c S1 ⟨p, q⟩ => by
    cases c with
    | true => rw [if_pos rfl]; exact p rfl
    | false => rw [if_neg Bool.false_ne_true]; exact ee_ret (q rfl))
theorem e_tor {m n : Gm → M Bool} (h : Ee (m G) S fun c S1 => (c = true → R true S1) ∧ (c = false → Ee (n G) S1 R)) : Ee (tor m n G) S R :=
  ee_bnd (ee_mono h fun c S1 ⟨p, q⟩ => by
    cases c with
    | true => rw [if_pos rfl]; exact ee_ret (p rfl)
    | false => rw [if_neg Bool.false_ne_true]; exact q rfl)
theorem e_tnot {m : Gm → M Bool} (h : Ee (m G) S fun c S1 => R (!c) S1) : Ee (tnot m G) S R := ee_bnd (ee_mono h fun _ _ p => ee_ret p)
theorem e_vnot {m : Gm → M D} (h : Ee (m G) S fun x S1 => Ee (asB x) S1 fun b S2 => Q (.bl !b) S2) : Ee (vnot m G) S Q := by
  obtain ⟨x, S1, e, b, S2, e2, q⟩ := h
  obtain ⟨rfl, rfl⟩ := asB_some e2
  exact ee_bnd ⟨_, _, e, ee_ret q⟩
theorem e_vand {m n : Gm → M D} (h : Ee (m G) S fun x S1 => Ee (asB x) S1 fun b S2 => (b = true → Ee (n G) S2 Q) ∧ (b = false → Q (.bl false) S2)) : Ee (vand m n G) S Q := by
  obtain ⟨x, S1, e, b, S2, e2, q⟩ := h
  obtain ⟨rfl, rfl⟩ := asB_some e2
  refine ee_bnd ⟨_, _, e, ?_⟩
  cases b with
  | true => exact q.1 rfl
  | false => exact ee_ret (q.2 rfl)
theorem e_vor {m n : Gm → M D} (h : Ee (m G) S fun x S1 => Ee (asB x) S1 fun b S2 => (b = true → Q (.bl true) S2) ∧ (b = false → Ee (n G) S2 Q)) : Ee (vor m n G) S Q := by
  obtain ⟨x, S1, e, b, S2, e2, q⟩ := h
  obtain ⟨rfl, rfl⟩ := asB_some e2
  refine ee_bnd ⟨_, _, e, ?_⟩
  cases b with
  | true => exact ee_ret (q.1 rfl)
  | false => exact q.2 rfl
theorem e_vif {t : Gm → M Bool} {m n : Gm → M D} (h : Ee (t G) S fun c S1 => (c = true → Ee (m G) S1 Q) ∧ (c = false → Ee (n G) S1 Q)) : Ee (vif t m n G) S Q :=
  ee_bnd (ee_mono h fun c S1 ⟨p, q⟩ => by
    cases c with
    | true => rw [if_pos rfl]; exact p rfl
    | false => rw [if_neg Bool.false_ne_true]; exact q rfl)
theorem e_iS {m : Gm → M D} {Q : Src → Sto → Prop} (h : Ee (m G) S fun x S1 => Ee (seqI x) S1 Q) : Ee (iS m G) S Q := ee_bnd h
theorem e_seqT {ds : List D} {Q : Src → Sto → Prop} (h : Q (none, ds) S) : Ee (seqI (.tup ds)) S Q := ee_ret h
theorem e_seqM {ks : List Kn} {Q : Src → Sto → Prop} (h : Q (none, ks.map dk) S) : Ee (seqI (dm ks)) S Q := ee_ret h
theorem e_seqR {ds : List D} {Q : Src → Sto → Prop} (h : Q (none, ds) S) : Ee (seqI (.ro ds)) S Q := ee_ret h
theorem e_seqL {n : Nat} {ds : List D} {Q : Src → Sto → Prop} (hn : S[n]? = some ds) (h : Q (some [(n, ds)], ds) S) : Ee (seqI (.ls n)) S Q := ⟨_, _, seqI_ls hn, h⟩
theorem e_iR1 {ms : Gm → M (List D)} {Q : Src → Sto → Prop} (h : Ee (ms G) S fun ds S1 => Ee (rngD1 ds) S1 Q) : Ee (iR1 ms G) S Q := ee_bnd h
theorem e_iR2 {ms : Gm → M (List D)} {Q : Src → Sto → Prop} (h : Ee (ms G) S fun ds S1 => Ee (rngD2 ds) S1 Q) : Ee (iR2 ms G) S Q := ee_bnd h
theorem e_rng1 {j : Int} {Q : Src → Sto → Prop} (h0 : 0 ≤ j) (h1 : j < 1000000) (h : Q (none, rng 0 j.toNat) S) : Ee (rngD1 [.int j]) S Q := e_eq (rngD1_ev h0 h1) h
theorem e_jZ2 {ms : Gm → M (List D)} {Q : Src → Sto → Prop} (h : Ee (ms G) S fun ds S1 => Ee (zip2D ds) S1 Q) : Ee (jZ2 ms G) S Q := ee_bnd h
theorem e_zipT {xs ys : List D} {Q : Src → Sto → Prop} (h : Q (none, zipL2 xs ys) S) : Ee (zip2D [.tup xs, .tup ys]) S Q := ⟨_, S, rfl, h⟩
theorem e_pNo {Q : Option Int → Sto → Prop} (h : Q none S) : Ee (pNo G) S Q := ee_ret h
theorem e_pIs {m : Gm → M D} {Q : Option Int → Sto → Prop} (h : Ee (m G) S fun x S1 => Ee (asI x) S1 Q) : Ee (pIs m G) S Q := ee_bnd h
theorem e_asI {i : Int} {Q : Option Int → Sto → Prop} (h : Q (some i) S) : Ee (asI (.int i)) S Q := ee_ret h
theorem e_slice {m : Gm → M D} {ml mh : Gm → M (Option Int)} (h : Ee (m G) S fun x S1 => Ee (ml G) S1 fun lo S2 => Ee (mh G) S2 fun hi S3 => Ee (slE x lo hi) S3 Q) : Ee (wslice m ml mh G) S Q :=
  ee_bnd (ee_mono h fun _ _ p => ee_bnd (ee_mono p fun _ _ q => ee_bnd q))
theorem e_slT {ds : List D} {lo hi : Option Int} (h : Q (.tup (cut ds lo hi)) S) : Ee (slE (.tup ds) lo hi) S Q := ee_ret h
theorem cut_map {α β : Type} (f : α → β) (xs : List α) (lo hi : Option Int) : cut (xs.map f) lo hi = (cut xs lo hi).map f := by
  unfold cut
  rw [List.length_map, ← List.map_drop, ← List.map_take]
theorem e_slM {ks : List Kn} {lo hi : Option Int} (h : Q (dm (cut ks lo hi)) S) : Ee (slE (dm ks) lo hi) S Q := by
  refine e_slT (ds := ks.map dk) ?_
  rw [cut_map]
  exact h
theorem cut_len {α : Type} (xs : List α) (lo hi : Option Int) : (cut xs lo hi).length ≤ xs.length := by
  unfold cut
  rw [List.length_take, List.length_drop]
  omega
theorem e_slR {ds : List D} {lo hi : Option Int} (hl : ds.length ≤ 1000) (h : Q (.ls S.length) (S ++ [cut ds lo hi])) : Ee (slE (.ro ds) lo hi) S Q :=
  ee_alloc (Nat.le_trans (cut_len _ _ _) hl) h
theorem e_al {ds : List D} (hl : ds.length ≤ 1000) (h : Q (.ls S.length) (S ++ [ds])) : Ee (PL.alloc ds) S Q := ee_alloc hl h
/-! ints -/
theorem e_add {i j : Int} (h : Q (.int (i + j)) S) : Ee (addD (.int i) (.int j)) S Q := ee_ret h
theorem e_sub {i j : Int} (h : Q (.int (i - j)) S) : Ee (subD (.int i) (.int j)) S Q := ee_ret h
theorem e_lt {i j : Int} (h : Q (.bl (decide (i < j))) S) : Ee (ltD (.int i) (.int j)) S Q := ee_ret h
theorem e_le {i j : Int} (h : Q (.bl (decide (i ≤ j))) S) : Ee (leD (.int i) (.int j)) S Q := ee_ret h
theorem e_gt {i j : Int} (h : Q (.bl (decide (j < i))) S) : Ee (gtD (.int i) (.int j)) S Q := ee_ret h
theorem e_ge {i j : Int} (h : Q (.bl (decide (j ≤ i))) S) : Ee (geD (.int i) (.int j)) S Q := ee_ret h
theorem e_eqI {i j : Int} (h : Q (.bl (decide (i = j))) S) : Ee (eqD (.int i) (.int j)) S Q := ee_ret h
theorem e_neI {i j : Int} (h : Q (.bl (!decide (i = j))) S) : Ee (neD (.int i) (.int j)) S Q := ee_ret h
theorem e_eqQ {x y : Rat} (h : Q (.bl (decide (x = y))) S) : Ee (eqD (dq x) (dq y)) S Q := e_eq (eqD_dq x y) h
theorem e_neQ {x y : Rat} (h : Q (.bl (!decide (x = y))) S) : Ee (neD (dq x) (dq y)) S Q := e_eq (neD_dq x y) h
theorem e_eqM {x y : List Kn} (h : Q (.bl (decide (x = y))) S) : Ee (eqD (dm x) (dm y)) S Q := e_eq (eqD_dm x y) h
theorem e_neM {x y : List Kn} (h : Q (.bl (!decide (x = y))) S) : Ee (neD (dm x) (dm y)) S Q := e_eq (neD_dm x y) h
theorem e_mul {i j : Int} (hm : mulOk i j = true) (h : Q (.int (i * j)) S) : Ee (mulD (.int i) (.int j)) S Q := e_eq (mulD_int hm) h
theorem e_mod {i j : Int} (h0 : j ≠ 0) (h : Q (.int (i.fmod j)) S) : Ee (modD (.int i) (.int j)) S Q := e_eq (modD_int h0) h
theorem e_fdiv {i j : Int} (h0 : j ≠ 0) (h1 : j.natAbs.log2 < 9000) (h : Q (.int (i.fdiv j)) S) : Ee (fdivD (.int i) (.int j)) S Q := e_eq (fdivD_int h0 h1) h
theorem e_abs {i : Int} (h : Q (.int (i.natAbs : Int)) S) : Ee (absD [.int i]) S Q := e_eq (absD_ev i) h
theorem e_max {i j : Int} (h : Q (.int (if j > i then j else i)) S) : Ee (maxD [.int i, .int j]) S Q := ee_ret h
theorem e_min {i j : Int} (h : Q (.int (if j < i then j else i)) S) : Ee (minD [.int i, .int j]) S Q := ee_ret h
theorem e_intb {b : Bool} (h : Q (.int (if b then 1 else 0)) S) : Ee (intD [.bl b]) S Q := ee_ret h
theorem e_inti {i : Int} (h : Q (.int i) S) : Ee (intD [.int i]) S Q := ee_ret h
theorem e_lenT {ds : List D} (h : Q (.int ds.length) S) : Ee (lenD [.tup ds]) S Q := ee_ret h
theorem e_lenM {ks : List Kn} (h : Q (.int ks.length) S) : Ee (lenD [dm ks]) S Q := by
  refine e_lenT (ds := ks.map dk) ?_
  rw [List.length_map]
  exact h
theorem e_lenR {ds : List D} (h : Q (.int ds.length) S) : Ee (lenD [.ro ds]) S Q := ee_ret h
theorem e_tupT {ds : List D} (h : Q (.tup ds) S) : Ee (tupleD [.tup ds]) S Q := ee_ret h
theorem e_tupM {ks : List Kn} (h : Q (dm ks) S) : Ee (tupleD [dm ks]) S Q := ee_ret h
/-! tuples, items -/
theorem e_mk1 {a : D} (h : Q (.tup [a]) S) : Ee (mkTup [a]) S Q := e_eq (mkTup1 a) h
theorem e_mk2 {a b : D} (h : Q (.tup [a, b]) S) : Ee (mkTup [a, b]) S Q := e_eq (mkTup2 a b) h
theorem e_mk3 {a b c : D} (h : Q (.tup [a, b, c]) S) : Ee (mkTup [a, b, c]) S Q := e_eq (mkTup3 a b c) h
theorem e_mkK {a b : Rat} (h : Q (dk (a, b)) S) : Ee (mkTup [dq a, dq b]) S Q := e_eq (mkTup2 _ _) h
theorem e_mkM1 {a : Kn} (h : Q (dm [a]) S) : Ee (mkTup [dk a]) S Q := e_eq (mkTup1 _) h
theorem e_mkM2 {a b : Kn} (h : Q (dm [a, b]) S) : Ee (mkTup [dk a, dk b]) S Q := e_eq (mkTup2 _ _) h
theorem e_mkQ {i : Int} (h : Q (dq (i : Rat)) S) : Ee (mkTup [.int i, .int 1]) S Q := e_eq (mkTup2 _ _) h
theorem e_mkZ (h : Q (dq 0) S) : Ee (mkTup [.int 0, .int 1]) S Q := e_eq (mkTup2 _ _) h
theorem e_dq0 {x : Rat} (h : Q (.int x.num) S) : Ee (ixD (dq x) (.int 0)) S Q := e_eq (dq_0 x) h
theorem e_dq1 {x : Rat} (h : Q (.int x.den) S) : Ee (ixD (dq x) (.int 1)) S Q := e_eq (dq_1 x) h
theorem e_dk0 {k : Kn} (h : Q (dq k.1) S) : Ee (ixD (dk k) (.int 0)) S Q := e_eq (dk_0 k) h
theorem e_dk1 {k : Kn} (h : Q (dq k.2) S) : Ee (ixD (dk k) (.int 1)) S Q := e_eq (dk_1 k) h
theorem e_ix0 {a : D} {ds : List D} (h : Q a S) : Ee (ixD (.tup (a :: ds)) (.int 0)) S Q := e_eq (ix0 a ds) h
theorem e_ix1 {a b : D} {ds : List D} (h : Q b S) : Ee (ixD (.tup (a :: b :: ds)) (.int 1)) S Q := e_eq (ix1 a b ds) h
theorem e_ix2 {a b c : D} {ds : List D} (h : Q c S) : Ee (ixD (.tup (a :: b :: c :: ds)) (.int 2)) S Q := e_eq (ix2 a b c ds) h
theorem e_ixT {ds : List D} {i : Int} (ha : atI ds i = some d) (h : Q d S) : Ee (ixD (.tup ds) (.int i)) S Q := e_eq (ixD_tup ha) h
theorem e_ixL {n : Nat} {ds : List D} {i : Int} (hn : S[n]? = some ds) (ha : atI ds i = some d) (h : Q d S) : Ee (ixD (.ls n) (.int i)) S Q := ee_ixls hn ha h
theorem e_ixM0 {a : Kn} {r : List Kn} (h : Q (dk a) S) : Ee (ixD (dm (a :: r)) (.int 0)) S Q := e_ixT (ds := dk a :: r.map dk) (atI_zero _ _) h
/-! lists of the store -/
theorem e_isN {x : D} (h : Q (.bl (isNo x)) S) : Ee (isND x .non) S Q := ee_ret h
theorem e_isiT {ds : List D} (h : Q (.bl true) S) : Ee (isiD [.tup ds, .ty "tuple"]) S Q := e_eq (isi_tt ds) h
theorem e_isiQ {x : Rat} (h : Q (.bl true) S) : Ee (isiD [dq x, .ty "tuple"]) S Q := e_eq (isi_tt _) h
theorem e_isiK {x : Kn} (h : Q (.bl true) S) : Ee (isiD [dk x, .ty "tuple"]) S Q := e_eq (isi_tt _) h
theorem e_isiM {x : List Kn} (h : Q (.bl true) S) : Ee (isiD [dm x, .ty "tuple"]) S Q := e_eq (isi_tt _) h
theorem e_isiIB {i : Int} (h : Q (.bl false) S) : Ee (isiD [.int i, .ty "bool"]) S Q := e_eq (isi_ib i) h
theorem e_isiII {i : Int} (h : Q (.bl true) S) : Ee (isiD [.int i, .ty "int"]) S Q := e_eq (isi_ii i) h
end
/-! sizes: exact -/
theorem z_add {x y : Rat} {m n : Nat} (hx : sz m x) (hy : sz n y) : sz (m + n + 1) (x + y) := sz_add hx hy (Nat.le_refl _)
theorem z_sub {x y : Rat} {m n : Nat} (hx : sz m x) (hy : sz n y) : sz (m + n + 1) (x - y) := sz_sub hx hy (Nat.le_refl _)
theorem z_mul {x y : Rat} {m n : Nat} (hx : sz m x) (hy : sz n y) : sz (m + n) (x * y) := sz_mul hx hy (Nat.le_refl _)
theorem z_div {x y : Rat} {m n : Nat} (hx : sz m x) (hy : sz n y) : sz (m + n + 1) (x / y) := by
  by_cases h : y = 0
  · subst h
    rw [Rat.div_def, Rat.inv_zero, Rat.mul_zero]
    exact ⟨by show (0 : Int).natAbs < _; exact Nat.two_pow_pos _, by show (1 : Nat) < _; exact Nat.one_lt_two_pow (by omega)⟩
  · exact sz_div hx hy h (by omega)
theorem z_neg {x : Rat} {m : Nat} (hx : sz m x) : sz m (-x) := sz_neg hx
theorem z_0 : sz 1 (0 : Rat) := ⟨by decide, by decide⟩
theorem z_1 : sz 2 (1 : Rat) := ⟨by decide, by decide⟩
theorem z_2 : sz 2 (2 : Rat) := ⟨by decide, by decide⟩
end PL

/-! TABLES, part 1: what of a store is kept; comprehensions by what holds ahead of each item -/
namespace PL
open PySem PySem.Spec PyProof.Rows L2 BS
/-- all but what stands at W is kept -/
def Kp (W : Nat → Prop) (S S' : Sto) : Prop := S.length ≤ S'.length ∧ ∀ i, i < S.length → ¬ W i → S'[i]? = S[i]?
def Wn0 : Nat → Prop := fun _ => False
section
variable {W W' : Nat → Prop} {S S' S1 S2 : Sto} {n : Nat} {ds : List D}
theorem Kp.refl (W : Nat → Prop) (S : Sto) : Kp W S S := ⟨Nat.le_refl _, fun _ _ _ => rfl⟩
theorem Kp.trans (h : Kp W S S1) (k : Kp W S1 S2) : Kp W S S2 := ⟨Nat.le_trans h.1 k.1, fun i hi hw => by rw [k.2 i (Nat.lt_of_lt_of_le hi h.1) hw, h.2 i hi hw]⟩
theorem Kp.mono (h : Kp W S S') (k : ∀ i, i < S.length → W i → W' i) : Kp W' S S' := ⟨h.1, fun i hi hw => h.2 i hi fun z => hw (k i hi z)⟩
theorem Kp.up (h : Kp Wn0 S S') : Kp W S S' := h.mono fun _ _ z => z.elim
theorem Kp.new (W : Nat → Prop) (S : Sto) (ds : List D) : Kp W S (S ++ [ds]) := ⟨by simp, fun i hi _ => List.getElem?_append_left hi⟩
theorem Kp.set (hw : W n) : Kp W S (S.set n ds) := ⟨by simp, fun i hi h => List.getElem?_set_ne (fun e : n = i => h (by rw [← e]; exact hw))⟩
theorem Kp.at_ (h : Kp W S S') (hw : ¬ W n) (e : S[n]? = some ds) : S'[n]? = some ds := by
  rw [h.2 n (List.getElem?_eq_some_iff.mp e).1 hw]
  exact e
theorem lt_of_get (e : S[n]? = some ds) : n < S.length := (List.getElem?_eq_some_iff.mp e).1
end
section
variable {S : Sto} {G : Gm} {d : D} {Q : D → Sto → Prop}
/-- a comprehension without a test -/
theorem lcL_kp {gd : Src} {n : Nat} {g : D → Gm → Option Gm} {te : Gm → M D} {W : Nat → Prop} {S0 : Sto} (hn : n = S0.length) (hW : ∀ i, W i → i < S0.length) (hs : ∀ S1, Kp W S0 S1 → Stays gd S1) (J : Nat → Sto → Prop) (R : Nat → D → Sto → Prop)
    (jst : ∀ j S1 S2, J j S1 → Kp (fun i => S0.length ≤ i) S1 S2 → J j S2) (rst : ∀ j y S1 S2, R j y S1 → Kp (fun i => W i ∨ i = S0.length) S1 S2 → R j y S2) :
    ∀ (L : List D) (o : Nat) (S : Sto) (acc : List D), acc.length = o → o + L.length < sizeLine → Kp W S0 S → S[n]? = some acc → J o S → (∀ j y, acc[j]? = some y → R j y S) →
      (∀ j d S1, L[j]? = some d → J (o + j) S1 → Kp W S0 S1 → ∃ G1, g d G = some G1 ∧ Ee (te G1) S1 fun y S2 => Kp W S1 S2 ∧ J (o + j + 1) S2 ∧ R (o + j) y S2) →
      ∃ S' ys, lcL gd n g tYesD te G L S = some S' ∧ Kp W S0 S' ∧ J (o + L.length) S' ∧ ys.length = o + L.length ∧ (∀ j y, ys[j]? = some y → R j y S') ∧ S'[n]? = some ys := by
  intro L
  induction L with
  | nil =>
    intro o S acc hl _ hk hg hj hr _
    refine ⟨S, acc, ?_, hk, by simpa using hj, by simpa using hl, hr, hg⟩
    unfold lcL
    rw [if_pos (hs S hk)]
  | cons d L ih =>
    intro o S acc hl hz hk hg hj hr step
    obtain ⟨G1, e1, y, S2, e2, k2, j2, r2⟩ := step 0 d S rfl hj hk
    rw [Nat.add_zero] at j2 r2
    have hnW : ¬ W n := fun z => by have := hW n z; omega
    have hg2 : S2[n]? = some acc := k2.at_ hnW hg
    have hlt : n < S2.length := lt_of_get hg2
    have ka : Kp (fun i => S0.length ≤ i) S2 (S2.set n (acc ++ [y])) := Kp.set (by omega)
    have kb : Kp (fun i => W i ∨ i = S0.length) S2 (S2.set n (acc ++ [y])) := Kp.set (Or.inr hn)
    have k3 : Kp W S0 (S2.set n (acc ++ [y])) := by
      refine ⟨by have := hk.1; have := k2.1; simp; omega, fun i hi hw => ?_⟩
      rw [List.getElem?_set_ne (by omega)]
      rw [k2.2 i (Nat.lt_of_lt_of_le hi hk.1) hw, hk.2 i hi hw]
    obtain ⟨S', ys, e, a1, a2, a3, a4, a5⟩ := ih (o + 1) (S2.set n (acc ++ [y])) (acc ++ [y]) (by simp [hl]) (by simp at hz ⊢; omega) k3 (by rw [List.getElem?_set_self hlt]) (jst _ _ _ j2 ka) (fun j z hz => by
        by_cases h : j < acc.length
        · rw [List.getElem?_append_left h] at hz
          exact rst _ _ _ _ (rst _ _ _ _ (hr j z hz) (k2.mono fun i _ w => Or.inl w)) kb
        · have : j = acc.length := by
            have := (List.getElem?_eq_some_iff.mp hz).1
            simp at this; omega
          subst this
          simp at hz
          subst hz
          rw [hl]
          exact rst _ _ _ _ r2 kb) (fun j d S1 h1 h2 h3 => by
        have := step (j + 1) d S1 (by simpa using h1) (by rw [show o + (j + 1) = o + 1 + j by omega]; exact h2) h3
        rw [show o + (j + 1) = o + 1 + j by omega] at this
        exact this)
    refine ⟨S', ys, ?_, a1, by rw [List.length_cons, show o + (L.length + 1) = o + 1 + L.length by omega]; exact a2, by rw [List.length_cons]; omega, a4, a5⟩
    rw [lcL]
    dsimp only
    rw [if_pos (hs S hk), e1]
    dsimp only [tYesD, PL.ret]
    rw [e2]
    dsimp only
    rw [hg2]
    dsimp only
    rw [if_pos (by rw [hl]; simp at hz; omega)]
    exact e
theorem e_lc {mi : Gm → M Src} {g : D → Gm → Option Gm} {te : Gm → M D} {vs : List Nat} {gd : Src} (W : Nat → Prop) (J : Nat → Sto → Prop) (R : Nat → D → Sto → Prop) (hi : mi G S = some (gd, S)) (hl : gd.2.length < 100000) (hW : ∀ i, W i → i < S.length) (hs : ∀ S1, Kp W S S1 → Stays gd S1)
    (jst : ∀ j S1 S2, J j S1 → Kp (fun i => S.length ≤ i) S1 S2 → J j S2) (rst : ∀ j y S1 S2, R j y S1 → Kp (fun i => W i ∨ i = S.length) S1 S2 → R j y S2) (j0 : J 0 S)
    (step : ∀ j d S1, gd.2[j]? = some d → J j S1 → Kp W S S1 → S.length < S1.length → ∃ G1, g d (wipeG G vs) = some G1 ∧ Ee (te G1) S1 fun y S2 => Kp W S1 S2 ∧ J (j + 1) S2 ∧ R j y S2)
    (k : ∀ ys S', Kp W S S' → J gd.2.length S' → ys.length = gd.2.length → (∀ j y, ys[j]? = some y → R j y S') → S'[S.length]? = some ys → Q (.ls S.length) S') : Ee (vLc mi g tYesD te vs G) S Q := by
  have hz := sizeLine_eq
  have kn : Kp (fun i => S.length ≤ i) S (S ++ [[]]) := Kp.new _ _ _
  obtain ⟨S', ys, e, a1, a2, a3, a4, a5⟩ := lcL_kp (gd := gd) (n := S.length) (g := g) (te := te) (G := wipeG G vs) (W := W) rfl hW hs (fun j S1 => J j S1 ∧ S.length < S1.length) R
    (fun j S1 S2 h q => ⟨jst j S1 S2 h.1 q, Nat.lt_of_lt_of_le h.2 q.1⟩) rst gd.2 0 (S ++ [[]]) [] rfl (by omega) (Kp.new _ _ _) (by simp) ⟨jst 0 S _ j0 kn, by simp⟩ (by simp) (fun j d S1 h1 h2 h3 => by
      rw [Nat.zero_add] at h2 ⊢
      obtain ⟨G1, e1, y, S2, e2, b1, b2, b3⟩ := step j d S1 h1 h2.1 h3 h2.2
      exact ⟨G1, e1, y, S2, e2, b1, ⟨b2, Nat.lt_of_lt_of_le h2.2 b1.1⟩, b3⟩)
  rw [Nat.zero_add] at a2 a3
  refine ⟨.ls S.length, S', ?_, k ys S' a1 a2.1 a3 a4 a5⟩
  unfold vLc
  rw [bnd_of hi]
  rw [e]
  rfl
theorem dints_map : ∀ (is : List Int), dints (is.map D.int) = some is
  | [] => rfl
  | i :: is => by rw [List.map_cons, dints, dints_map is]; rfl
theorem e_al' {ds : List D} (hl : ds.length < 1000000) (h : Q (.ls S.length) (S ++ [ds])) : Ee (PL.alloc ds) S Q := by
  refine ⟨_, _, ?_, h⟩
  unfold PL.alloc
  rw [if_pos (by have := sizeLine_eq; omega)]
end
end PL

/-! k50: words as lists of numbers of signs -/
namespace BS
open PySem PySem.Spec PyProof.Rows L2 PL
def sw (w : List Nat) : Str := ⟨w.toArray⟩
theorem sw_len (w : List Nat) : (sw w).length = w.length := by simp [sw, Str.length]
theorem sw_app (a b : List Nat) : sw a ++ sw b = sw (a ++ b) := by
  show Str.mk (a.toArray ++ b.toArray) = _
  simp [sw]
theorem sw_cut (w : List Nat) (lo hi : Option Int) : cutS (sw w) lo hi = sw (cut w lo hi) := by
  unfold cutS cut
  rw [sw_len]
  rfl
theorem sw_inj {a b : List Nat} (h : sw a = sw b) : a = b := by
  unfold sw at h
  simpa using h
theorem glue0 : ∀ (cs : List Nat) (acc : Array Nat), (cs.map fun c => sw [c]).foldl (fun acc p => acc ++ (#[] : Array Nat) ++ p.cps) acc = acc ++ cs.toArray
  | [], acc => by simp
  | c :: cs, acc => by
    rw [List.map_cons, List.foldl_cons, glue0 cs]
    simp [sw]
theorem sw_join (cs : List Nat) : Txt.join (sw []) (cs.map fun c => sw [c]) = sw cs := by
  unfold Txt.join Builtin.Str.glued
  cases cs with
  | nil => rfl
  | cons c cs =>
    rw [List.map_cons, List.drop_one, List.tail_cons, List.headD_cons]
    show Str.mk (List.foldl (fun acc p => acc ++ (#[] : Array Nat) ++ p.cps) (sw [c]).cps (cs.map fun c => sw [c])) = _
    rw [glue0]
    simp [sw]
theorem sw_strs : ∀ cs : List Nat, strsOf (cs.map fun c => D.str (sw [c])) = some (cs.map fun c => sw [c])
  | [] => rfl
  | c :: cs => by
    rw [List.map_cons]
    unfold strsOf
    rw [sw_strs cs]
    rfl
theorem sub_at (w : List Nat) (c i : Nat) (hi : i < w.length) : Builtin.Str.subAt (sw w) (sw [c]) i = decide (w[i] = c) := by
  unfold Builtin.Str.subAt
  have e : (sw w).cps.extract i (i + (sw [c]).length) = #[w[i]] := by
    rw [sw_len]
    show (w.toArray).extract i (i + 1) = _
    rw [List.extract_toArray, List.extract_eq_take_drop, Nat.add_sub_cancel_left, List.drop_eq_getElem_cons hi]
    rfl
  rw [e]
  show ((#[w[i]] : Array Nat) == #[c]) = _
  by_cases h : w[i] = c
  · subst h; simp
  · simp [h]
def occF (w : List Nat) (c limit : Nat) (s : Array Nat × Nat) (i : Nat) : Array Nat × Nat :=
  if (decide (s.1.size < limit) && decide (s.2 ≤ i) && decide (i + (sw [c]).length ≤ (sw w).length) && Builtin.Str.subAt (sw w) (sw [c]) i) = true then (s.1.push i, i + (sw [c]).length) else s
theorem occ_eq (w : List Nat) (c limit : Nat) : Builtin.Str.occurrences (sw w) (sw [c]) 0 (sw w).length limit = ((List.range' 0 (w.length + 1)).foldl (occF w c limit) (#[], 0)).1.toList := by
  unfold Builtin.Str.occurrences
  simp only [Std.Legacy.Range.forIn_eq_forIn_range', Std.Legacy.Range.size, Nat.sub_zero, Nat.add_sub_cancel, Nat.div_one]
  have h : (fun (i : Nat) (s : Array Nat × Nat) => (if (decide (s.1.size < limit) && decide (s.2 ≤ i) && decide (i + (sw [c]).length ≤ (sw w).length) && Builtin.Str.subAt (sw w) (sw [c]) i) = true then
      pure (ForInStep.yield (s.1.push i, i + (sw [c]).length)) else pure (ForInStep.yield (s.1, s.2)) : Id (ForInStep (Array Nat × Nat)))) = fun i s => pure (ForInStep.yield (occF w c limit s i)) := by
    funext i s
    unfold occF
    split <;> rfl
  rw [h, List.forIn_pure_yield_eq_foldl]
  rw [sw_len]
  rfl
theorem occF_at (w : List Nat) (c limit i : Nat) (s : Array Nat × Nat) (hi : i < w.length) (hl : s.1.size < limit) (hf : s.2 ≤ i) : occF w c limit s i = if w[i] = c then (s.1.push i, i + 1) else s := by
  unfold occF
  rw [sub_at w c i hi, sw_len, sw_len]
  have e : (decide (s.1.size < limit) && decide (s.2 ≤ i) && decide (i + [c].length ≤ w.length) && decide (w[i] = c)) = decide (w[i] = c) := by
    rw [decide_eq_true hl, decide_eq_true hf, decide_eq_true (show i + [c].length ≤ w.length from hi)]
    simp
  rw [e]
  by_cases h : w[i] = c
  · rw [if_pos (by simpa using h), if_pos h]
    rfl
  · rw [if_neg (by simpa using h), if_neg h]
theorem occF_end (w : List Nat) (c limit : Nat) (s : Array Nat × Nat) : occF w c limit s w.length = s := by
  unfold occF
  rw [if_neg]
  rw [sw_len, sw_len]
  simp
  intros
  omega
theorem occ_count (w : List Nat) (c : Nat) : ∀ (n : Nat), n ≤ w.length → (((List.range' 0 n).foldl (occF w c (w.length + 1)) (#[], 0)).1.size = (w.take n).count c) ∧ ((List.range' 0 n).foldl (occF w c (w.length + 1)) (#[], 0)).2 ≤ n
  | 0, _ => by simp
  | n + 1, h => by
    obtain ⟨h1, h2⟩ := occ_count w c n (by omega)
    rw [List.range'_concat, List.foldl_append]
    have hc : (w.take n).count c ≤ n := Nat.le_trans List.count_le_length (by simp; omega)
    simp only [List.foldl_cons, List.foldl_nil, Nat.zero_add, Nat.one_mul]
    rw [occF_at w c _ n _ (by omega) (by omega) (by omega)]
    rw [List.take_succ_eq_append_getElem (by omega), List.count_append]
    split
    · rename_i hw
      rw [hw]
      simp [h1]
    · rename_i hw
      rw [List.count_singleton]
      simp [h1, hw]
      omega
theorem sw_count (w : List Nat) (c : Nat) : Txt.count (sw w) (sw [c]) = ((w.count c : Nat) : Int) := by
  unfold Txt.count
  rw [sw_len, ← sw_len w, occ_eq, sw_len, List.range'_concat, List.foldl_append]
  simp only [List.foldl_cons, List.foldl_nil, Nat.zero_add, Nat.one_mul]
  rw [occF_end, Array.length_toList, (occ_count w c w.length (Nat.le_refl _)).1, List.take_length]
end BS

namespace BS
open PySem PySem.Spec PyProof.Rows L2 PL
local macro_rules | `(tactic| walk_at "ev1") => `(tactic| with_reducible (first
  | (refine kn_nx ?_; try dsimp only [List.set_cons_succ, List.set_cons_zero]) | refine kn_rt ?_ | refine kn_bk ?_ | refine kn_ct ?_ | refine rn_rt ?_ | refine rn_nx ?_ | (refine ln_nx ?_; try dsimp only [List.set_cons_succ, List.set_cons_zero]) | refine ln_ct ?_ | refine ln_bk ?_ | refine ln_rt ?_
  | refine s_seq ?_ | (refine s_set ?_) | refine s_if ?_ | refine s_next ?_ | refine s_cnt ?_ | refine s_brk ?_ | refine s_ret ?_ | refine s_do ?_ | refine s_for ?_ | refine s_sub ?_ | refine s_par ?_
  | refine e_getz ?_ | refine e_gets ?_ | refine e_cI ?_ | refine e_cS ?_ | refine e_cB ?_ | refine e_cT ?_ | refine e_cN ?_ | refine e_b2 ?_ | refine e_neg ?_ | refine e_negI ?_ | refine e_tup ?_ | refine e_lst ?_ | refine e_call ?_ | refine a_nil ?_ | refine a_cons ?_
  | refine e_tst ?_ | refine e_asB ?_ | refine e_tru2 ?_ | refine e_trubl ?_ | refine e_truint ?_ | refine e_tand ?_ | refine e_tor ?_ | refine e_tnot ?_ | refine e_vnot ?_ | refine e_vand ?_ | refine e_vor ?_ | refine e_vif ?_
  | refine e_iS ?_ | refine e_seqM ?_ | refine e_seqT ?_ | refine e_seqR ?_ | refine e_iR1 ?_ | refine e_iR2 ?_ | refine e_jZ2 ?_ | refine e_zipT ?_ | refine e_pNo ?_ | refine e_pIs ?_ | refine e_asI ?_ | refine e_slice ?_ | refine e_slM ?_ | refine e_slT ?_
  | refine e_add ?_ | refine e_sub ?_ | refine e_lt ?_ | refine e_le ?_ | refine e_gt ?_ | refine e_ge ?_ | refine e_eqI ?_ | refine e_neI ?_ | refine e_eqQ ?_ | refine e_neQ ?_ | refine e_eqM ?_ | refine e_neM ?_ | refine e_abs ?_ | refine e_max ?_ | refine e_min ?_ | refine e_intb ?_ | refine e_inti ?_ | refine e_lenM ?_ | refine e_lenT ?_ | refine e_lenR ?_ | refine e_tupM ?_ | refine e_tupT ?_
  | refine e_mkZ ?_ | refine e_mkQ ?_ | refine e_mkK ?_ | refine e_mkM1 ?_ | refine e_mkM2 ?_ | refine e_mk1 ?_ | refine e_mk2 ?_ | refine e_mk3 ?_ | refine e_dq0 ?_ | refine e_dq1 ?_ | refine e_dk0 ?_ | refine e_dk1 ?_ | refine e_ixM0 ?_ | refine e_ix0 ?_ | refine e_ix1 ?_ | refine e_ix2 ?_
  | refine e_isN ?_ | refine e_isiQ ?_ | refine e_isiK ?_ | refine e_isiM ?_ | refine e_isiT ?_ | refine e_isiIB ?_ | refine e_isiII ?_
  | refine br_t ?_ | refine br_f ?_ | refine br_Nt ?_ | refine br_Nf ?_
  | refine e_ret ?_))
local macro_rules | `(tactic| walk_at "ev") => `(tactic| (repeat walk_at "ev1"))
local macro_rules | `(tactic| walk_at "sz") => `(tactic| (first | assumption | with_reducible exact z_add (by walk_at "sz") (by walk_at "sz") | with_reducible exact z_sub (by walk_at "sz") (by walk_at "sz") | with_reducible exact z_mul (by walk_at "sz") (by walk_at "sz") | with_reducible exact z_div (by walk_at "sz") (by walk_at "sz") | with_reducible exact z_neg (by walk_at "sz") | with_reducible exact z_0 | with_reducible exact z_1 | with_reducible exact z_2))
local macro_rules | `(tactic| walk_at "st") => `(tactic| (simp only [startG, List.map_cons, List.map_nil, List.length_cons, List.length_nil, Nat.reduceAdd, Nat.reduceSub, List.replicate, List.cons_append, List.nil_append]))
/-! the program's fractions -/
theorem fn_of {f : List D → M D} {n : Nat} {b : MS} {ds : List D} {d : D} (hf : f = runB n b) (h : ∀ S, Es b (startG n ds) S (Rn fun d' S' => d' = d ∧ S' = S)) : f ds = PL.ret d := by
  funext S
  subst hf
  obtain ⟨d', S', e, rfl, rfl⟩ := s_run (h S)
  exact e
end BS

namespace BS
open PySem PySem.Spec PyProof.Rows L2 PL
local macro_rules | `(tactic| walk_at "ev1") => `(tactic| with_reducible (first
  | (refine kn_nx ?_; try dsimp only [List.set_cons_succ, List.set_cons_zero]) | refine kn_rt ?_ | refine kn_bk ?_ | refine kn_ct ?_ | refine rn_rt ?_ | refine rn_nx ?_ | (refine ln_nx ?_; try dsimp only [List.set_cons_succ, List.set_cons_zero]) | refine ln_ct ?_ | refine ln_bk ?_ | refine ln_rt ?_
  | refine s_seq ?_ | (refine s_set ?_) | refine s_if ?_ | refine s_next ?_ | refine s_cnt ?_ | refine s_brk ?_ | refine s_ret ?_ | refine s_do ?_ | refine s_for ?_ | refine s_sub ?_ | refine s_par ?_
  | refine e_getz ?_ | refine e_gets ?_ | refine e_cI ?_ | refine e_cS ?_ | refine e_cB ?_ | refine e_cT ?_ | refine e_cN ?_ | refine e_b2 ?_ | refine e_neg ?_ | refine e_negI ?_ | refine e_tup ?_ | refine e_lst ?_ | refine e_call ?_ | refine a_nil ?_ | refine a_cons ?_
  | refine e_tst ?_ | refine e_asB ?_ | refine e_tru2 ?_ | refine e_trubl ?_ | refine e_truint ?_ | refine e_tand ?_ | refine e_tor ?_ | refine e_tnot ?_ | refine e_vnot ?_ | refine e_vand ?_ | refine e_vor ?_ | refine e_vif ?_
  | refine e_iS ?_ | refine e_seqM ?_ | refine e_seqT ?_ | refine e_seqR ?_ | refine e_iR1 ?_ | refine e_iR2 ?_ | refine e_jZ2 ?_ | refine e_zipT ?_ | refine e_pNo ?_ | refine e_pIs ?_ | refine e_asI ?_ | refine e_slice ?_ | refine e_slM ?_ | refine e_slT ?_
  | refine e_add ?_ | refine e_sub ?_ | refine e_lt ?_ | refine e_le ?_ | refine e_gt ?_ | refine e_ge ?_ | refine e_eqI ?_ | refine e_neI ?_ | refine e_eqQ ?_ | refine e_neQ ?_ | refine e_eqM ?_ | refine e_neM ?_ | refine e_abs ?_ | refine e_max ?_ | refine e_min ?_ | refine e_intb ?_ | refine e_inti ?_ | refine e_lenM ?_ | refine e_lenT ?_ | refine e_lenR ?_ | refine e_tupM ?_ | refine e_tupT ?_
  | refine e_mkZ ?_ | refine e_mkQ ?_ | refine e_mkK ?_ | refine e_mkM1 ?_ | refine e_mkM2 ?_ | refine e_mk1 ?_ | refine e_mk2 ?_ | refine e_mk3 ?_ | refine e_dq0 ?_ | refine e_dq1 ?_ | refine e_dk0 ?_ | refine e_dk1 ?_ | refine e_ixM0 ?_ | refine e_ix0 ?_ | refine e_ix1 ?_ | refine e_ix2 ?_
  | refine e_isN ?_ | refine e_isiQ ?_ | refine e_isiK ?_ | refine e_isiM ?_ | refine e_isiT ?_ | refine e_isiIB ?_ | refine e_isiII ?_
  | refine br_t ?_ | refine br_f ?_ | refine br_Nt ?_ | refine br_Nf ?_
  | refine e_ret ?_))
local macro_rules | `(tactic| walk_at "ev") => `(tactic| (repeat walk_at "ev1"))
local macro_rules | `(tactic| walk_at "sz") => `(tactic| (first | assumption | with_reducible exact z_add (by walk_at "sz") (by walk_at "sz") | with_reducible exact z_sub (by walk_at "sz") (by walk_at "sz") | with_reducible exact z_mul (by walk_at "sz") (by walk_at "sz") | with_reducible exact z_div (by walk_at "sz") (by walk_at "sz") | with_reducible exact z_neg (by walk_at "sz") | with_reducible exact z_0 | with_reducible exact z_1 | with_reducible exact z_2))
local macro_rules | `(tactic| walk_at "st") => `(tactic| (simp only [startG, List.map_cons, List.map_nil, List.length_cons, List.length_nil, Nat.reduceAdd, Nat.reduceSub, List.replicate, List.cons_append, List.nil_append]))
/-! the law's fractions, second kind -/
/-- on which side x lies of y -/
def sg (x y : Rat) : Int := (if y < x then 1 else 0) - (if x < y then 1 else 0)
end BS

namespace BS
open PySem PySem.Spec PyProof.Rows L2 PL
local macro_rules | `(tactic| walk_at "ev1") => `(tactic| with_reducible (first
  | (refine kn_nx ?_; try dsimp only [List.set_cons_succ, List.set_cons_zero]) | refine kn_rt ?_ | refine kn_bk ?_ | refine kn_ct ?_ | refine rn_rt ?_ | refine rn_nx ?_ | (refine ln_nx ?_; try dsimp only [List.set_cons_succ, List.set_cons_zero]) | refine ln_ct ?_ | refine ln_bk ?_ | refine ln_rt ?_
  | refine s_seq ?_ | (refine s_set ?_) | refine s_if ?_ | refine s_next ?_ | refine s_cnt ?_ | refine s_brk ?_ | refine s_ret ?_ | refine s_do ?_ | refine s_for ?_ | refine s_sub ?_ | refine s_par ?_
  | refine e_getz ?_ | refine e_gets ?_ | refine e_cI ?_ | refine e_cS ?_ | refine e_cB ?_ | refine e_cT ?_ | refine e_cN ?_ | refine e_b2 ?_ | refine e_neg ?_ | refine e_negI ?_ | refine e_tup ?_ | refine e_lst ?_ | refine e_call ?_ | refine a_nil ?_ | refine a_cons ?_
  | refine e_tst ?_ | refine e_asB ?_ | refine e_tru2 ?_ | refine e_trubl ?_ | refine e_truint ?_ | refine e_tand ?_ | refine e_tor ?_ | refine e_tnot ?_ | refine e_vnot ?_ | refine e_vand ?_ | refine e_vor ?_ | refine e_vif ?_
  | refine e_iS ?_ | refine e_seqM ?_ | refine e_seqT ?_ | refine e_seqR ?_ | refine e_iR1 ?_ | refine e_iR2 ?_ | refine e_jZ2 ?_ | refine e_zipT ?_ | refine e_pNo ?_ | refine e_pIs ?_ | refine e_asI ?_ | refine e_slice ?_ | refine e_slM ?_ | refine e_slT ?_
  | refine e_add ?_ | refine e_sub ?_ | refine e_lt ?_ | refine e_le ?_ | refine e_gt ?_ | refine e_ge ?_ | refine e_eqI ?_ | refine e_neI ?_ | refine e_eqQ ?_ | refine e_neQ ?_ | refine e_eqM ?_ | refine e_neM ?_ | refine e_abs ?_ | refine e_max ?_ | refine e_min ?_ | refine e_intb ?_ | refine e_inti ?_ | refine e_lenM ?_ | refine e_lenT ?_ | refine e_lenR ?_ | refine e_tupM ?_ | refine e_tupT ?_
  | refine e_mkZ ?_ | refine e_mkQ ?_ | refine e_mkK ?_ | refine e_mkM1 ?_ | refine e_mkM2 ?_ | refine e_mk1 ?_ | refine e_mk2 ?_ | refine e_mk3 ?_ | refine e_dq0 ?_ | refine e_dq1 ?_ | refine e_dk0 ?_ | refine e_dk1 ?_ | refine e_ixM0 ?_ | refine e_ix0 ?_ | refine e_ix1 ?_ | refine e_ix2 ?_
  | refine e_isN ?_ | refine e_isiQ ?_ | refine e_isiK ?_ | refine e_isiM ?_ | refine e_isiT ?_ | refine e_isiIB ?_ | refine e_isiII ?_
  | refine br_t ?_ | refine br_f ?_ | refine br_Nt ?_ | refine br_Nf ?_
  | refine e_ret ?_))
local macro_rules | `(tactic| walk_at "ev") => `(tactic| (repeat walk_at "ev1"))
local macro_rules | `(tactic| walk_at "sz") => `(tactic| (first | assumption | with_reducible exact z_add (by walk_at "sz") (by walk_at "sz") | with_reducible exact z_sub (by walk_at "sz") (by walk_at "sz") | with_reducible exact z_mul (by walk_at "sz") (by walk_at "sz") | with_reducible exact z_div (by walk_at "sz") (by walk_at "sz") | with_reducible exact z_neg (by walk_at "sz") | with_reducible exact z_0 | with_reducible exact z_1 | with_reducible exact z_2))
local macro_rules | `(tactic| walk_at "st") => `(tactic| (simp only [startG, List.map_cons, List.map_nil, List.length_cons, List.length_nil, Nat.reduceAdd, Nat.reduceSub, List.replicate, List.cons_append, List.nil_append]))
/-! the second kind of draws: a seed of four numbers at nd, drawn c times at most -/
def Seed (nd : Nat) (S : Sto) (c : Nat) : Prop := ∃ a b k d : Int, S[nd]? = some [.int a, .int b, .int k, .int d] ∧ 0 ≤ a ∧ 0 ≤ k ∧ k ≤ c ∧ 0 ≤ d ∧ d < 2 ^ 31
theorem Seed.keep {nd : Nat} {S S' : Sto} {c c' : Nat} (d : Seed nd S c) (h1 : S'[nd]? = S[nd]?) (hc : c ≤ c') : Seed nd S' c' := by
  obtain ⟨a, b, k, e, a1, a2, a3, a4, a5, a6⟩ := d
  exact ⟨a, b, k, e, by rw [h1]; exact a1, a2, a3, by omega, a5, a6⟩
theorem Seed.lt {nd : Nat} {S : Sto} {c : Nat} (d : Seed nd S c) : nd < S.length := by
  obtain ⟨a, b, k, e, a1, _⟩ := d
  exact (List.getElem?_eq_some_iff.mp a1).1
theorem Seed.grow {nd : Nat} {S S' : Sto} {c : Nat} (d : Seed nd S c) (g : Grow S S') : Seed nd S' c := by
  obtain ⟨q, rfl⟩ := g
  exact d.keep (List.getElem?_append_left d.lt) (Nat.le_refl _)
theorem Seed.set {nd m : Nat} {S : Sto} {c : Nat} {xs : List D} (d : Seed nd S c) (h1 : m ≠ nd) : Seed nd (S.set m xs) c := d.keep (List.getElem?_set_ne h1) (Nat.le_refl _)
theorem Seed.mono {nd : Nat} {S : Sto} {c c' : Nat} (d : Seed nd S c) (h : c ≤ c') : Seed nd S c' := d.keep rfl h
theorem mulOk_b {i j : Int} (hi : -2 ^ 80 < i ∧ i < 2 ^ 80) (hj : -2 ^ 80 < j ∧ j < 2 ^ 80) : mulOk i j = true := mulOk_sz (m := 80) (n := 80) (by omega) (by omega)
theorem log_b {j : Int} (h : -2 ^ 80 < j ∧ j < 2 ^ 80) : j.natAbs.log2 < 9000 := by
  have := log2_lt (k := j.natAbs) (n := 80) (by omega)
  omega
theorem draw_ee {nd c : Nat} {S : Sto} {many : Int} {P : D → Sto → Prop} (d : Seed nd S c) (h1 : 1 ≤ many) (h2 : many < 2 ^ 60) (hc : c ≤ 1000000000)
    (hP : ∀ v S', 0 ≤ v → v < many → Ext nd S S' → S'.length = S.length → Seed nd S' (c + 1) → P (.int v) S') : Ee (f__law_draw [.ls nd, .int many]) S P := by
  obtain ⟨a, b, k, e, a1, a2, a3, a4, a5, a6⟩ := d
  have hlt : nd < S.length := (List.getElem?_eq_some_iff.mp a1).1
  refine s_run ?_
  walk_at "st"
  unfold b__law_draw
  walk_at "ev"
  refine e_ixL a1 (d := .int k) rfl ?_
  walk_at "ev"
  refine ⟨_, set5 (j := 2) a1 (by simp) _, ?_⟩
  simp only [List.set_cons_succ, List.set_cons_zero]
  have b1 : (S.set nd [D.int a, .int b, .int (k + 1), .int e])[nd]? = some [D.int a, .int b, .int (k + 1), .int e] := by rw [List.getElem?_set_self hlt]
  have x1 : Ext nd S (S.set nd [D.int a, .int b, .int (k + 1), .int e]) := Ext.set _
  have l1 : (S.set nd [D.int a, .int b, .int (k + 1), .int e]).length = S.length := by simp
  generalize S.set nd [D.int a, .int b, .int (k + 1), .int e] = S1 at b1 x1 l1 ⊢
  walk_at "ev"
  refine e_ixL b1 (d := .int b) rfl ?_
  walk_at "ev"
  have last : Es (sSeq (sAsg (b2 modD (b2 mulD (b2 addD (b2 addD (b2 ixD (getv 0) (cI 3)) (b2 mulD (cI 6997) (b2 ixD (getv 0) (cI 2)))) (cI 11)) (cI 48271)) (cI 2147483647)) (tN 3))
 (sSeq (sAsg (b2 modD (b2 mulD (b2 modD (b2 mulD (getv 3) (getv 3)) (cI 2147483629)) (cI 40692)) (cI 2147483399)) (tN 3))
 (sRet (b2 modD (b2 fdivD (getv 3) (cI 7)) (getv 1))))) [some (D.ls nd), some (.int many), none, none] S1 (Rn P) := by
    walk_at "ev"
    refine e_ixL b1 (d := .int e) rfl ?_
    walk_at "ev"
    refine e_ixL b1 (d := .int (k + 1)) rfl ?_
    refine e_mul (mulOk_b (by omega) (by omega)) ?_
    walk_at "ev"
    refine e_mul (mulOk_b (by omega) (by omega)) ?_
    walk_at "ev"
    refine e_mod (by decide) ?_
    obtain ⟨q1, q2⟩ := fmod_bd ((e + 6997 * (k + 1) + 11) * 48271) (m := 2147483647) (by decide)
    generalize ((e + 6997 * (k + 1) + 11) * 48271).fmod 2147483647 = u at q1 q2
    walk_at "ev"
    refine e_mul (mulOk_b (by omega) (by omega)) ?_
    walk_at "ev"
    refine e_mod (by decide) ?_
    obtain ⟨q3, q4⟩ := fmod_bd (u * u) (m := 2147483629) (by decide)
    generalize (u * u).fmod 2147483629 = w at q3 q4
    walk_at "ev"
    refine e_mul (mulOk_b (by omega) (by omega)) ?_
    walk_at "ev"
    refine e_mod (by decide) ?_
    walk_at "ev"
    refine e_fdiv (by decide) (log_b (by decide)) ?_
    walk_at "ev"
    refine e_mod (by omega) ?_
    obtain ⟨q5, q6⟩ := fmod_bd ((w * 40692).fmod 2147483399 |>.fdiv 7) (m := many) (by omega)
    walk_at "ev"
    exact hP _ _ q5 q6 x1 l1 ⟨a, b, k + 1, e, b1, a2, by omega, by omega, a5, a6⟩
  refine br_by (fun hb => ?_) fun hb => ?_
  · walk_at "ev"
    refine e_ixL b1 (d := .int a) rfl ?_
    walk_at "ev"
    refine br_by (fun ha => ?_) fun ha => ?_
    · walk_at "ev"
      refine e_ixL b1 (d := .int a) rfl ?_
      walk_at "ev"
      refine e_mod (by omega) ?_
      walk_at "ev"
      refine e_ixL b1 (d := .int a) rfl ?_
      walk_at "ev"
      refine e_fdiv (by omega) (log_b (by omega)) ?_
      walk_at "ev"
      refine ⟨_, set5 (j := 0) b1 (by simp) _, ?_⟩
      walk_at "ev"
      obtain ⟨q5, q6⟩ := fmod_bd a (m := many) (by omega)
      refine hP _ _ q5 q6 (x1.trans (Ext.set _)) (by simp [l1]) ⟨a.fdiv many, b, k + 1, e, ?_, Int.fdiv_nonneg (by omega) (by omega), by omega, by omega, a5, a6⟩
      rw [List.getElem?_set_self (by omega)]
    · exact s_next (kn_nx last)
  · exact br_f (s_next (kn_nx last))
theorem folded_ee {ns : List Int} (h : ns.length ≤ 63) {S : Sto} {P : D → Sto → Prop} (hP : ∀ v, P (.int v) S) : Ee (f__law_folded [.ro (ns.map D.int)]) S P := by
  refine s_run ?_
  walk_at "st"
  unfold b__law_folded
  walk_at "ev"
  refine s_loop (fun _ G S' => S' = S ∧ ∃ v o, G = [some (.ro (ns.map D.int)), some (.int v), o] ∧ 0 ≤ v ∧ v < 2 ^ 40) ⟨rfl, _, _, rfl, by omega, by simp; omega⟩ (fun _ _ _ _ => stays_none) ?_ ?_
  · rintro j d G S' hj ⟨rfl, v, o, rfl, v0, v1⟩
    obtain ⟨c, -, rfl⟩ := List.mem_map.mp (List.mem_of_getElem? hj)
    refine ⟨_, rfl, ?_⟩
    dsimp only [List.set_cons_succ, List.set_cons_zero]
    walk_at "ev"
    refine e_mul (mulOk_b (by omega) (by omega)) ?_
    walk_at "ev"
    refine e_mod (by decide) ?_
    walk_at "ev"
    refine e_mod (by decide) ?_
    walk_at "ev"
    obtain ⟨q5, q6⟩ := fmod_bd (v * 48271 + c.fmod 2147483629) (m := 2147483647) (by decide)
    exact ⟨rfl, _, _, rfl, q5, by omega⟩
  · rintro G S' ⟨rfl, v, o, rfl, _, _⟩
    walk_at "ev"
    exact hP v
theorem seed_ee {i : Int} {S : Sto} {P : D → Sto → Prop} (hP : ∀ S', Grow S S' → S'.length = S.length + 1 → Seed S.length S' 0 → P (.ls S.length) S') : Ee (f__law_seed [.int i]) S P := by
  refine s_run ?_
  walk_at "st"
  unfold b__law_seed
  walk_at "ev"
  have p18 : powD (.int 10) (.int 18) = PL.ret (.int 1000000000000000000) := by
    show (if (0 : Int) ≤ 18 ∧ (18 : Int) ≤ 1000000 ∧ (10 : Int).natAbs < 2 ^ 64 then PL.ret (D.int (10 ^ (18 : Int).toNat)) else stuck) = _
    rw [if_pos (by decide)]
    rfl
  refine e_eq p18 ?_
  walk_at "ev"
  refine e_mod (by decide) ?_
  walk_at "ev"
  refine e_al (by simp) ?_
  walk_at "ev"
  obtain ⟨q5, q6⟩ := fmod_bd i (m := 1999999913) (by decide)
  refine hP _ (grow1 _ _) (by simp) ⟨_, _, 0, _, List.getElem?_concat_length, ?_, by decide, by decide, q5, by omega⟩
  split <;> omega
end BS

namespace BS
open PySem PySem.Spec PyProof.Rows L2 PL
local macro_rules | `(tactic| walk_at "ev1") => `(tactic| with_reducible (first
  | (refine kn_nx ?_; try dsimp only [List.set_cons_succ, List.set_cons_zero]) | refine kn_rt ?_ | refine kn_bk ?_ | refine kn_ct ?_ | refine rn_rt ?_ | refine rn_nx ?_ | (refine ln_nx ?_; try dsimp only [List.set_cons_succ, List.set_cons_zero]) | refine ln_ct ?_ | refine ln_bk ?_ | refine ln_rt ?_
  | refine s_seq ?_ | (refine s_set ?_) | refine s_if ?_ | refine s_next ?_ | refine s_cnt ?_ | refine s_brk ?_ | refine s_ret ?_ | refine s_do ?_ | refine s_for ?_ | refine s_sub ?_ | refine s_par ?_
  | refine e_getz ?_ | refine e_gets ?_ | refine e_cI ?_ | refine e_cS ?_ | refine e_cB ?_ | refine e_cT ?_ | refine e_cN ?_ | refine e_b2 ?_ | refine e_neg ?_ | refine e_negI ?_ | refine e_tup ?_ | refine e_lst ?_ | refine e_call ?_ | refine a_nil ?_ | refine a_cons ?_
  | refine e_tst ?_ | refine e_asB ?_ | refine e_tru2 ?_ | refine e_trubl ?_ | refine e_truint ?_ | refine e_tand ?_ | refine e_tor ?_ | refine e_tnot ?_ | refine e_vnot ?_ | refine e_vand ?_ | refine e_vor ?_ | refine e_vif ?_
  | refine e_iS ?_ | refine e_seqM ?_ | refine e_seqT ?_ | refine e_seqR ?_ | refine e_iR1 ?_ | refine e_iR2 ?_ | refine e_jZ2 ?_ | refine e_zipT ?_ | refine e_pNo ?_ | refine e_pIs ?_ | refine e_asI ?_ | refine e_slice ?_ | refine e_slM ?_ | refine e_slT ?_
  | refine e_add ?_ | refine e_sub ?_ | refine e_lt ?_ | refine e_le ?_ | refine e_gt ?_ | refine e_ge ?_ | refine e_eqI ?_ | refine e_neI ?_ | refine e_eqQ ?_ | refine e_neQ ?_ | refine e_eqM ?_ | refine e_neM ?_ | refine e_abs ?_ | refine e_max ?_ | refine e_min ?_ | refine e_intb ?_ | refine e_inti ?_ | refine e_lenM ?_ | refine e_lenT ?_ | refine e_lenR ?_ | refine e_tupM ?_ | refine e_tupT ?_
  | refine e_mkZ ?_ | refine e_mkQ ?_ | refine e_mkK ?_ | refine e_mkM1 ?_ | refine e_mkM2 ?_ | refine e_mk1 ?_ | refine e_mk2 ?_ | refine e_mk3 ?_ | refine e_dq0 ?_ | refine e_dq1 ?_ | refine e_dk0 ?_ | refine e_dk1 ?_ | refine e_ixM0 ?_ | refine e_ix0 ?_ | refine e_ix1 ?_ | refine e_ix2 ?_
  | refine e_isN ?_ | refine e_isiQ ?_ | refine e_isiK ?_ | refine e_isiM ?_ | refine e_isiT ?_ | refine e_isiIB ?_ | refine e_isiII ?_
  | refine br_t ?_ | refine br_f ?_ | refine br_Nt ?_ | refine br_Nf ?_
  | refine e_ret ?_))
local macro_rules | `(tactic| walk_at "ev") => `(tactic| (repeat walk_at "ev1"))
local macro_rules | `(tactic| walk_at "sz") => `(tactic| (first | assumption | with_reducible exact z_add (by walk_at "sz") (by walk_at "sz") | with_reducible exact z_sub (by walk_at "sz") (by walk_at "sz") | with_reducible exact z_mul (by walk_at "sz") (by walk_at "sz") | with_reducible exact z_div (by walk_at "sz") (by walk_at "sz") | with_reducible exact z_neg (by walk_at "sz") | with_reducible exact z_0 | with_reducible exact z_1 | with_reducible exact z_2))
local macro_rules | `(tactic| walk_at "st") => `(tactic| (simp only [startG, List.map_cons, List.map_nil, List.length_cons, List.length_nil, Nat.reduceAdd, Nat.reduceSub, List.replicate, List.cons_append, List.nil_append]))
/-! new lists, each at a place of its own -/
section
variable {S : Sto} {Q : D → Sto → Prop}
theorem f_al {ds : List D} (hl : ds.length ≤ 1000) (h : ∀ n S', n = S.length → S'[n]? = some ds → Grow S S' → S'.length = S.length + 1 → Q (.ls n) S') : Ee (PL.alloc ds) S Q :=
  e_al hl (h _ _ rfl List.getElem?_concat_length (grow1 _ _) (by simp))
theorem f_slR {ds : List D} {lo hi : Option Int} (hl : ds.length ≤ 1000) (h : ∀ m S', m = S.length → S'[m]? = some (cut ds lo hi) → Grow S S' → S'.length = S.length + 1 → Q (.ls m) S') : Ee (slE (.ro ds) lo hi) S Q :=
  e_slR hl (h _ _ rfl List.getElem?_concat_length (grow1 _ _) (by simp))
theorem f_addL {n m : Nat} {xs ys : List D} (hn : S[n]? = some xs) (hm : S[m]? = some ys) (hl : xs.length + ys.length ≤ 1000) (h : ∀ n S', n = S.length → S'[n]? = some (xs ++ ys) → Grow S S' → S'.length = S.length + 1 → Q (.ls n) S') : Ee (addD (.ls n) (.ls m)) S Q := by
  obtain ⟨d, S1, e, q⟩ := f_al (S := S) (Q := Q) (ds := xs ++ ys) (by simpa using hl) h
  exact ⟨d, S1, by show (match S[n]?, S[m]? with | some xs, some ys => PL.alloc (xs ++ ys) S | _, _ => none) = _; rw [hn, hm]; exact e, q⟩
end
/-! the second kind of maps -/
theorem cut_to {α : Type} (xs : List α) (k : Nat) (h : k ≤ xs.length) : cut xs none (some (k : Int)) = xs.take k := by
  unfold cut
  rw [sIx_n _ _ _ h]
  simp [HT.sIx]
def SortQ (xs : List Rat) : Prop := xs.Pairwise (· < ·)
end BS

/-! small steps over what is kept -/
namespace KP
open PySem PySem.Spec PyProof.Rows L2 PL BS
section
variable {S : Sto} {G : Gm} {Q : D → Sto → Prop}
theorem e_alk {ds : List D} (hl : ds.length < 1000000) (h : ∀ n S', S.length = n → S'.length = n + 1 → Kp Wn0 S S' → S'[n]? = some ds → Q (.ls n) S') : Ee (PL.alloc ds) S Q :=
  e_al' hl (h _ _ rfl (by simp) (Kp.new _ _ _) (by simp))
theorem hi_rng {ms : Gm → M (List D)} {n : Nat} (e : ms G = PL.ret [.int (n : Int)]) (h : n < 1000000) : iR1 ms G S = some ((none, rng 0 n), S) := by
  show bnd (ms G) rngD1 S = _
  rw [e, bnd_ret, rngD1_ev (by omega) (by omega)]
  rfl
theorem rg {n j : Nat} {d : D} (h : (rng 0 n)[j]? = some d) : j < n ∧ d = .int (j : Int) := by
  unfold rng at h
  rw [List.getElem?_map] at h
  cases e : (List.range n)[j]? with
  | none => rw [e] at h; cases h
  | some k =>
    rw [e] at h
    cases h
    obtain ⟨h2, h3⟩ := List.getElem?_eq_some_iff.mp e
    rw [List.getElem_range] at h3
    subst h3
    exact ⟨by simpa using h2, by simp⟩
theorem e_rngN {n : Nat} {Q : Src → Sto → Prop} (h : n < 1000000) (q : Q (none, rng 0 n) S) : Ee (rngD1 [.int (n : Int)]) S Q := by
  refine e_rng1 (by omega) (by omega) ?_
  rw [Int.toNat_natCast]
  exact q
end
theorem nat_ix {n : Nat} {v : Int} (h0 : 0 ≤ v) (h1 : v < n) : ∃ j : Nat, v = (j : Int) ∧ j < n := ⟨v.toNat, by omega, by omega⟩
theorem map_get {α : Type} {f : α → D} {xs : List α} {i : Nat} {d : D} (h : (xs.map f)[i]? = some d) : ∃ x, xs[i]? = some x ∧ d = f x := by
  rw [List.getElem?_map] at h
  cases e : xs[i]? with
  | none => rw [e] at h; cases h
  | some x => rw [e] at h; cases h; exact ⟨x, rfl, rfl⟩
end KP

/-! k50: words compared, the program's and the law's -/
namespace BS
open PySem PySem.Spec PyProof.Rows L2 PL PX KP
local macro_rules | `(tactic| walk_at "ev1") => `(tactic| with_reducible (first
  | (refine kn_nx ?_; try dsimp only [List.set_cons_succ, List.set_cons_zero]) | refine kn_rt ?_ | refine kn_bk ?_ | refine kn_ct ?_ | refine rn_rt ?_ | refine rn_nx ?_ | (refine ln_nx ?_; try dsimp only [List.set_cons_succ, List.set_cons_zero]) | refine ln_ct ?_ | refine ln_bk ?_ | refine ln_rt ?_
  | refine s_seq ?_ | (refine s_set ?_) | refine s_if ?_ | refine s_next ?_ | refine s_cnt ?_ | refine s_brk ?_ | refine s_ret ?_ | refine s_do ?_ | refine s_for ?_ | refine s_sub ?_ | refine s_par ?_
  | refine e_getz ?_ | refine e_gets ?_ | refine e_cI ?_ | refine e_cS ?_ | refine e_cB ?_ | refine e_cT ?_ | refine e_cN ?_ | refine e_b2 ?_ | refine e_neg ?_ | refine e_negI ?_ | refine e_tup ?_ | refine e_lst ?_ | refine e_call ?_ | refine a_nil ?_ | refine a_cons ?_
  | refine e_tst ?_ | refine e_asB ?_ | refine e_tru2 ?_ | refine e_trubl ?_ | refine e_truint ?_ | refine e_tand ?_ | refine e_tor ?_ | refine e_tnot ?_ | refine e_vnot ?_ | refine e_vand ?_ | refine e_vor ?_ | refine e_vif ?_
  | refine e_iS ?_ | refine e_seqM ?_ | refine e_seqT ?_ | refine e_seqR ?_ | refine e_iR1 ?_ | refine e_iR2 ?_ | refine e_jZ2 ?_ | refine e_zipT ?_ | refine e_pNo ?_ | refine e_pIs ?_ | refine e_asI ?_ | refine e_slice ?_ | refine e_slM ?_ | refine e_slT ?_
  | refine e_add ?_ | refine e_sub ?_ | refine e_lt ?_ | refine e_le ?_ | refine e_gt ?_ | refine e_ge ?_ | refine e_eqI ?_ | refine e_neI ?_ | refine e_eqQ ?_ | refine e_neQ ?_ | refine e_eqM ?_ | refine e_neM ?_ | refine e_abs ?_ | refine e_max ?_ | refine e_min ?_ | refine e_intb ?_ | refine e_inti ?_ | refine e_lenM ?_ | refine e_lenT ?_ | refine e_lenR ?_ | refine e_tupM ?_ | refine e_tupT ?_
  | refine e_mkZ ?_ | refine e_mkQ ?_ | refine e_mkK ?_ | refine e_mkM1 ?_ | refine e_mkM2 ?_ | refine e_mk1 ?_ | refine e_mk2 ?_ | refine e_mk3 ?_ | refine e_dq0 ?_ | refine e_dq1 ?_ | refine e_dk0 ?_ | refine e_dk1 ?_ | refine e_ixM0 ?_ | refine e_ix0 ?_ | refine e_ix1 ?_ | refine e_ix2 ?_
  | refine e_isN ?_ | refine e_isiQ ?_ | refine e_isiK ?_ | refine e_isiM ?_ | refine e_isiT ?_ | refine e_isiIB ?_ | refine e_isiII ?_
  | refine br_t ?_ | refine br_f ?_ | refine br_Nt ?_ | refine br_Nf ?_
  | refine e_cCl ?_ | refine x_if ?_ | refine x_call ?_ | refine x_raise ?_ | refine e_mk4 ?_
  | refine e_ret ?_))
local macro_rules | `(tactic| walk_at "ev") => `(tactic| (repeat walk_at "ev1"))
local macro_rules | `(tactic| walk_at "sz") => `(tactic| (first | assumption | with_reducible exact z_add (by walk_at "sz") (by walk_at "sz") | with_reducible exact z_sub (by walk_at "sz") (by walk_at "sz") | with_reducible exact z_mul (by walk_at "sz") (by walk_at "sz") | with_reducible exact z_div (by walk_at "sz") (by walk_at "sz") | with_reducible exact z_neg (by walk_at "sz") | with_reducible exact z_0 | with_reducible exact z_1 | with_reducible exact z_2))
local macro_rules | `(tactic| walk_at "st") => `(tactic| (simp only [startG, List.map_cons, List.map_nil, List.length_cons, List.length_nil, Nat.reduceAdd, Nat.reduceSub, List.replicate, List.cons_append, List.nil_append]))
section
variable {S : Sto} {G : Gm} {Q : D → Sto → Prop}
def L3 (c : Nat) : Prop := c = 108 ∨ c = 99 ∨ c = 114
def Wd3 (w : List Nat) : Prop := (∀ c ∈ w, L3 c) ∧ w.length ≤ 12
def ix3 (c : Nat) : Int := if c = 108 then 0 else if c = 99 then 1 else 2
def cmp3 : Int → List Nat → List Nat → Int
  | _, [], _ => 0
  | _, _ :: _, [] => 0
  | s, a :: x, b :: y => if a = b then cmp3 (if a = 114 then -s else s) x y else if ix3 a < ix3 b then -s else s
theorem cmp3_cons (s : Int) (a b : Nat) (x y : List Nat) : cmp3 s (a :: x) (b :: y) = if a = b then cmp3 (if a = 114 then -s else s) x y else if ix3 a < ix3 b then -s else s := by rw [cmp3]
theorem ix3_ne {a b : Nat} (ha : L3 a) (hb : L3 b) (h : a ≠ b) : ix3 a ≠ ix3 b := by
  rcases ha with rfl | rfl | rfl <;> rcases hb with rfl | rfl | rfl <;> first | exact absurd rfl h | decide
theorem cmp3_neg : ∀ (x y : List Nat) (s : Int), (∀ c ∈ x, L3 c) → (∀ c ∈ y, L3 c) → cmp3 s y x = - cmp3 s x y
  | [], [], s, _, _ => rfl
  | [], _ :: _, s, _, _ => rfl
  | _ :: _, [], s, _, _ => rfl
  | a :: x, b :: y, s, hx, hy => by
    unfold cmp3
    by_cases h : a = b
    · subst h
      rw [if_pos rfl, if_pos rfl]
      exact cmp3_neg x y _ (fun c hc => hx c (by simp [hc])) fun c hc => hy c (by simp [hc])
    · rw [if_neg h, if_neg (fun e => h e.symm)]
      have := ix3_ne (hx a (by simp)) (hy b (by simp)) h
      split <;> split <;> omega
theorem lcr : (Str.ofString "lcr") = sw [108, 99, 114] := by decide +kernel
theorem s_r : (Str.ofString "r") = sw [114] := by decide +kernel
theorem e_six {c : Nat} (hc : L3 c) (h : Q (.int (ix3 c)) S) : Ee (sixD (.str (Str.ofString "lcr")) (.str (sw [c]))) S Q := by
  rw [lcr]
  have : sixD (.str (sw [108, 99, 114])) (.str (sw [c])) S = some (.int (ix3 c), S) := by
    have k : ∃ r, Builtin.Str.occurrences (sw [108, 99, 114]) (sw [c]) 0 (sw [108, 99, 114]).length 1 = (ix3 c).toNat :: r := by
      rw [occ_eq]
      rcases hc with rfl | rfl | rfl <;> exact ⟨_, rfl⟩
    obtain ⟨r, k⟩ := k
    unfold sixD
    dsimp only
    rw [k]
    rcases hc with rfl | rfl | rfl <;> rfl
  exact ⟨_, _, this, h⟩
theorem ok3 {c : Nat} (h : L3 c) : plain 8 (.str (sw [c])) = true := by rcases h with rfl | rfl | rfl <;> simp [PL.plain, PyData.strOk, sw]
theorem sw1 {a b : Nat} : (sw [a] = sw [b]) ↔ a = b := ⟨fun h => by have := sw_inj h; simpa using this, fun h => by rw [h]⟩
theorem e_neS {a b : Nat} (ha : L3 a) (hb : L3 b) (h : Q (.bl (!decide (a = b))) S) : Ee (neD (.str (sw [a])) (.str (sw [b]))) S Q := by
  refine ⟨_, S, ?_, h⟩
  unfold neD
  rw [if_pos ⟨ok3 ha, ok3 hb⟩]
  unfold eqo
  rw [decide_eq_decide.mpr (@sw1 a b)]
  rfl
theorem e_eqS {a b : Nat} (ha : L3 a) (hb : L3 b) (h : Q (.bl (decide (a = b))) S) : Ee (eqD (.str (sw [a])) (.str (sw [b]))) S Q := by
  refine ⟨_, S, ?_, h⟩
  unfold eqD
  rw [if_pos ⟨ok3 ha, ok3 hb⟩]
  unfold eqo
  rw [decide_eq_decide.mpr (@sw1 a b)]
  rfl
theorem e_jZS {ms : Gm → M (List D)} {Q : Src → Sto → Prop} (h : Ee (ms G) S fun ds S1 => Ee (zipSD ds) S1 Q) : Ee (jZS ms G) S Q := ee_bnd h
theorem asc3 {w : List Nat} (h : ∀ c ∈ w, L3 c) : (sw w).cps.all (· < 128) = true := by
  unfold sw
  rw [Array.all_eq_true]
  intro i hi
  have := h (w[i]'(by simpa using hi)) (List.getElem_mem _)
  simp only [List.getElem_toArray, decide_eq_true_eq]
  rcases this with e | e | e <;> omega
theorem e_zipSD {x y : List Nat} {Q : Src → Sto → Prop} (hx : ∀ c ∈ x, L3 c) (hy : ∀ c ∈ y, L3 c) (h : Q (none, zipL2 (x.map fun c => D.str (sw [c])) (y.map fun c => D.str (sw [c]))) S) : Ee (zipSD [.str (sw x), .str (sw y)]) S Q := by
  refine ⟨_, S, ?_, h⟩
  unfold zipSD
  dsimp only
  rw [if_pos ⟨asc3 hx, asc3 hy⟩]
  rfl
theorem drop3 {w : List Nat} {j : Nat} {a : Nat} (h : w[j]? = some a) : w.drop j = a :: w.drop (j + 1) := by
  obtain ⟨hj, rfl⟩ := List.getElem?_eq_some_iff.mp h
  exact List.drop_eq_getElem_cons hj
theorem cmp3_nil (s : Int) (x : List Nat) : cmp3 s x [] = 0 := by cases x <;> rfl
theorem words_compared_ee {x y : List Nat} (hx : ∀ c ∈ x, L3 c) (hy : ∀ c ∈ y, L3 c) (hQ : Q (.int (cmp3 1 x y)) S) : Ee (f_words_compared [.str (sw x), .str (sw y)]) S Q := by
  refine s_run ?_
  walk_at "st"
  unfold b_words_compared
  walk_at "ev"
  refine e_jZS ?_
  walk_at "ev"
  refine e_zipSD hx hy ?_
  refine s_loop (fun j G S' => S' = S ∧ ∃ s o1 o2, G = [some (.str (sw x)), some (.str (sw y)), some (.int s), o1, o2] ∧ cmp3 1 x y = cmp3 s (x.drop j) (y.drop j)) ⟨rfl, _, _, _, rfl, rfl⟩ (fun _ _ _ _ => stays_none) ?_ ?_
  · rintro j d G S' hj ⟨rfl, s, o1, o2, rfl, hc⟩
    obtain ⟨a', b', ha', hb', rfl⟩ := zipL2_get hj
    obtain ⟨a, ha, rfl⟩ := map_get (f := fun c => D.str (sw [c])) ha'
    obtain ⟨b, hb, rfl⟩ := map_get (f := fun c => D.str (sw [c])) hb'
    have la := hx a (List.mem_of_getElem? ha)
    have lb := hy b (List.mem_of_getElem? hb)
    rw [drop3 ha, drop3 hb, cmp3_cons] at hc
    refine ⟨_, rfl, ?_⟩
    dsimp only [List.set_cons_succ, List.set_cons_zero]
    walk_at "ev"
    refine e_neS la lb ?_
    walk_at "ev"
    refine br_nby (fun hab => ?_) fun hab => ?_
    · rw [if_neg hab] at hc
      walk_at "ev"
      refine e_six la ?_
      walk_at "ev"
      refine e_six lb ?_
      walk_at "ev"
      refine br_by (fun hl => ?_) fun hl => ?_
      · rw [if_pos hl] at hc
        walk_at "ev"
        rw [← hc]
        exact hQ
      · rw [if_neg hl] at hc
        walk_at "ev"
        rw [← hc]
        exact hQ
    · rw [if_pos hab] at hc
      walk_at "ev"
      rw [s_r]
      refine e_eqS la (.inr (.inr rfl)) ?_
      walk_at "ev"
      refine br_by (fun hr => ?_) fun hr => ?_
      · rw [if_pos hr] at hc
        walk_at "ev"
        exact ⟨rfl, _, _, _, rfl, hc⟩
      · rw [if_neg hr] at hc
        walk_at "ev"
        exact ⟨rfl, _, _, _, rfl, hc⟩
  · rintro G S' ⟨rfl, s, o1, o2, rfl, hc⟩
    walk_at "ev"
    have : cmp3 1 x y = 0 := by
      rw [hc, zipL2_len, List.length_map, List.length_map]
      rcases Nat.le_total x.length y.length with h | h
      · rw [Nat.min_eq_left h, List.drop_eq_nil_of_le (Nat.le_refl x.length)]
        rfl
      · rw [Nat.min_eq_right h, List.drop_eq_nil_of_le (Nat.le_refl y.length)]
        exact cmp3_nil _ _
    rw [← this]
    exact hQ
def sg3 (w : List Nat) : Int := 1 - 2 * ((w.count 114 : Nat) : Int).fmod 2
theorem sg3_next {w : List Nat} {j a : Nat} (h : w[j]? = some a) : sg3 (w.take (j + 1)) = if a = 114 then - sg3 (w.take j) else sg3 (w.take j) := by
  obtain ⟨hj, rfl⟩ := List.getElem?_eq_some_iff.mp h
  unfold sg3
  rw [List.take_succ_eq_append_getElem hj, List.count_append, List.count_singleton, Int.fmod_eq_emod_of_nonneg _ (by decide), Int.fmod_eq_emod_of_nonneg _ (by decide)]
  by_cases h : w[j] = 114
  · rw [if_pos h, if_pos (by simpa using h)]
    omega
  · rw [if_neg h, if_neg (by simpa using h)]
    omega
theorem e_ixS {w : List Nat} {j : Nat} {a : Nat} (h : w[j]? = some a) (hl : w.length ≤ 1000) (q : Q (.str (sw [a])) S) : Ee (ixD (.str (sw w)) (.int (j : Int))) S Q := by
  refine ⟨_, S, ?_, q⟩
  unfold ixD
  dsimp only
  rw [if_pos (by rw [sw_len]; have := sizeLine_eq; omega)]
  have : atI (sw w).cps.toList (j : Int) = some a := by
    show atI w (j : Int) = some a
    exact atI_nat h
  rw [this]
  rfl
theorem e_slS {w : List Nat} {lo hi : Option Int} (hl : w.length ≤ 1000) (q : Q (.str (sw (cut w lo hi))) S) : Ee (slE (.str (sw w)) lo hi) S Q := by
  refine e_eq ?_ q
  unfold slE
  dsimp only
  unfold slD
  dsimp only
  rw [if_pos (by rw [sw_len]; have := sizeLine_eq; omega), sw_cut]
theorem e_cnt {w : List Nat} {c : Nat} (q : Q (.int ((w.count c : Nat) : Int)) S) : Ee (cntD (.str (sw w)) (.str (sw [c]))) S Q := by
  refine e_eq ?_ q
  unfold cntD
  dsimp only
  rw [sw_count]
theorem e_lenS {w : List Nat} (hl : w.length ≤ 1000) (q : Q (.int (w.length : Int)) S) : Ee (lenD [.str (sw w)]) S Q := by
  refine e_eq ?_ q
  unfold lenD
  dsimp only
  rw [if_pos (by rw [sw_len]; have := sizeLine_eq; omega), sw_len]
theorem law_compared_ee {x y : List Nat} (hx : Wd3 x) (hy : Wd3 y) (hQ : Q (.int (cmp3 1 x y)) S) : Ee (f__law_compared [.str (sw x), .str (sw y)]) S Q := by
  have lx := hx.2
  have ly := hy.2
  refine s_run ?_
  walk_at "st"
  unfold b__law_compared
  walk_at "ev"
  refine e_lenS (by omega) ?_
  walk_at "ev"
  refine e_lenS (by omega) ?_
  walk_at "ev"
  have em : (if (y.length : Int) < x.length then (y.length : Int) else x.length) = ((min x.length y.length : Nat) : Int) := by split <;> omega
  rw [em]
  refine e_rngN (by omega) ?_
  refine s_loop (fun j G S' => S' = S ∧ ∃ o1 o2, G = [some (.str (sw x)), some (.str (sw y)), o1, o2] ∧ cmp3 1 x y = cmp3 (sg3 (x.take j)) (x.drop j) (y.drop j)) ⟨rfl, _, _, rfl, rfl⟩ (fun _ _ _ _ => stays_none) ?_ ?_
  · rintro j d G S' hj ⟨rfl, o1, o2, rfl, hc⟩
    obtain ⟨jl, rfl⟩ := rg hj
    obtain ⟨a, ha⟩ : ∃ a, x[j]? = some a := ⟨_, List.getElem?_eq_getElem (by omega)⟩
    obtain ⟨b, hb⟩ : ∃ b, y[j]? = some b := ⟨_, List.getElem?_eq_getElem (by omega)⟩
    have la := hx.1 a (List.mem_of_getElem? ha)
    have lb := hy.1 b (List.mem_of_getElem? hb)
    rw [drop3 ha, drop3 hb, cmp3_cons] at hc
    refine ⟨_, rfl, ?_⟩
    dsimp only [tN, List.set_cons_succ, List.set_cons_zero]
    walk_at "ev"
    refine e_ixS ha (by omega) ?_
    walk_at "ev"
    refine e_ixS hb (by omega) ?_
    refine e_neS la lb ?_
    walk_at "ev"
    refine br_nby (fun hab => ?_) fun hab => ?_
    · rw [if_neg hab] at hc
      walk_at "ev"
      refine e_ixS ha (by omega) ?_
      refine e_six la ?_
      walk_at "ev"
      refine e_ixS hb (by omega) ?_
      refine e_six lb ?_
      walk_at "ev"
      have sgb : sg3 (x.take j) = 1 ∨ sg3 (x.take j) = -1 := by
        unfold sg3
        rw [Int.fmod_eq_emod_of_nonneg _ (by decide)]
        omega
      have hne := ix3_ne la lb hab
      refine e_mul (mulOk_b (by split <;> omega) (by omega)) ?_
      walk_at "ev"
      rw [s_r]
      refine e_slS (by omega) ?_
      rw [cut_to _ _ (by omega)]
      walk_at "ev"
      refine e_cnt ?_
      walk_at "ev"
      refine e_mod (by decide) ?_
      have f1 : 0 ≤ (((x.take j).count 114 : Nat) : Int).fmod 2 ∧ (((x.take j).count 114 : Nat) : Int).fmod 2 < 2 := fmod_bd _ (by decide)
      refine e_mul (mulOk_b (by omega) (by omega)) ?_
      walk_at "ev"
      refine e_mul (mulOk_b (by split <;> omega) (by omega)) ?_
      walk_at "ev"
      have : ((if decide (ix3 b < ix3 a) = true then 1 else 0) * 2 - 1) * (1 - 2 * (((x.take j).count 114 : Nat) : Int).fmod 2) = cmp3 1 x y := by
        rw [hc]
        show _ * sg3 (x.take j) = _
        by_cases hl : ix3 a < ix3 b
        · rw [if_pos hl, decide_eq_false (by omega)]
          simp
        · rw [if_neg hl, decide_eq_true (by omega)]
          simp
      rw [this]
      exact hQ
    · rw [if_pos hab] at hc
      walk_at "ev"
      refine ⟨rfl, _, _, rfl, ?_⟩
      rw [hc, sg3_next ha]
  · rintro G S' ⟨rfl, o1, o2, rfl, hc⟩
    walk_at "ev"
    have : cmp3 1 x y = 0 := by
      rw [hc, rng_len]
      rcases Nat.le_total x.length y.length with h | h
      · rw [Nat.min_eq_left h, List.drop_eq_nil_of_le (Nat.le_refl x.length)]
        rfl
      · rw [Nat.min_eq_right h, List.drop_eq_nil_of_le (Nat.le_refl y.length)]
        exact cmp3_nil _ _
    rw [← this]
    exact hQ
end
end BS

/-! k50: the words drawn, the law -/
namespace BS
open PySem PySem.Spec PyProof.Rows L2 PL PX KP
local macro_rules | `(tactic| walk_at "ev1") => `(tactic| with_reducible (first
  | (refine kn_nx ?_; try dsimp only [List.set_cons_succ, List.set_cons_zero]) | refine kn_rt ?_ | refine kn_bk ?_ | refine kn_ct ?_ | refine rn_rt ?_ | refine rn_nx ?_ | (refine ln_nx ?_; try dsimp only [List.set_cons_succ, List.set_cons_zero]) | refine ln_ct ?_ | refine ln_bk ?_ | refine ln_rt ?_
  | refine s_seq ?_ | (refine s_set ?_) | refine s_if ?_ | refine s_next ?_ | refine s_cnt ?_ | refine s_brk ?_ | refine s_ret ?_ | refine s_do ?_ | refine s_for ?_ | refine s_sub ?_ | refine s_par ?_
  | refine e_getz ?_ | refine e_gets ?_ | refine e_cI ?_ | refine e_cS ?_ | refine e_cB ?_ | refine e_cT ?_ | refine e_cN ?_ | refine e_b2 ?_ | refine e_neg ?_ | refine e_negI ?_ | refine e_tup ?_ | refine e_lst ?_ | refine e_call ?_ | refine a_nil ?_ | refine a_cons ?_
  | refine e_tst ?_ | refine e_asB ?_ | refine e_tru2 ?_ | refine e_trubl ?_ | refine e_truint ?_ | refine e_tand ?_ | refine e_tor ?_ | refine e_tnot ?_ | refine e_vnot ?_ | refine e_vand ?_ | refine e_vor ?_ | refine e_vif ?_
  | refine e_iS ?_ | refine e_seqM ?_ | refine e_seqT ?_ | refine e_seqR ?_ | refine e_iR1 ?_ | refine e_iR2 ?_ | refine e_jZ2 ?_ | refine e_zipT ?_ | refine e_pNo ?_ | refine e_pIs ?_ | refine e_asI ?_ | refine e_slice ?_ | refine e_slM ?_ | refine e_slT ?_
  | refine e_add ?_ | refine e_sub ?_ | refine e_lt ?_ | refine e_le ?_ | refine e_gt ?_ | refine e_ge ?_ | refine e_eqI ?_ | refine e_neI ?_ | refine e_eqQ ?_ | refine e_neQ ?_ | refine e_eqM ?_ | refine e_neM ?_ | refine e_abs ?_ | refine e_max ?_ | refine e_min ?_ | refine e_intb ?_ | refine e_inti ?_ | refine e_lenM ?_ | refine e_lenT ?_ | refine e_lenR ?_ | refine e_tupM ?_ | refine e_tupT ?_
  | refine e_mkZ ?_ | refine e_mkQ ?_ | refine e_mkK ?_ | refine e_mkM1 ?_ | refine e_mkM2 ?_ | refine e_mk1 ?_ | refine e_mk2 ?_ | refine e_mk3 ?_ | refine e_dq0 ?_ | refine e_dq1 ?_ | refine e_dk0 ?_ | refine e_dk1 ?_ | refine e_ixM0 ?_ | refine e_ix0 ?_ | refine e_ix1 ?_ | refine e_ix2 ?_
  | refine e_isN ?_ | refine e_isiQ ?_ | refine e_isiK ?_ | refine e_isiM ?_ | refine e_isiT ?_ | refine e_isiIB ?_ | refine e_isiII ?_
  | refine br_t ?_ | refine br_f ?_ | refine br_Nt ?_ | refine br_Nf ?_
  | refine e_cCl ?_ | refine x_if ?_ | refine x_call ?_ | refine x_raise ?_ | refine e_mk4 ?_
  | refine e_ret ?_))
local macro_rules | `(tactic| walk_at "ev") => `(tactic| (repeat walk_at "ev1"))
local macro_rules | `(tactic| walk_at "sz") => `(tactic| (first | assumption | with_reducible exact z_add (by walk_at "sz") (by walk_at "sz") | with_reducible exact z_sub (by walk_at "sz") (by walk_at "sz") | with_reducible exact z_mul (by walk_at "sz") (by walk_at "sz") | with_reducible exact z_div (by walk_at "sz") (by walk_at "sz") | with_reducible exact z_neg (by walk_at "sz") | with_reducible exact z_0 | with_reducible exact z_1 | with_reducible exact z_2))
local macro_rules | `(tactic| walk_at "st") => `(tactic| (simp only [startG, List.map_cons, List.map_nil, List.length_cons, List.length_nil, Nat.reduceAdd, Nat.reduceSub, List.replicate, List.cons_append, List.nil_append]))
section
variable {S : Sto} {G : Gm} {Q : D → Sto → Prop} {nd c : Nat}
theorem s_asgL50 {G : Gm} {S : Sto} {P : Fl → Gm → Sto → Prop} {n : Nat} {m : Gm → M D} {gs : List D → Gm → Option Gm} (h : Ee (m G) S fun d S1 => ∃ k ds G1, d = .ls k ∧ S1[k]? = some ds ∧ ds.length = n ∧ gs ds G = some G1 ∧ P .nx G1 S1) : Es (sAsgL n m gs) G S P := by
  obtain ⟨d, S1, e, k, ds, G1, rfl, h1, h2, h3, p⟩ := h
  refine ⟨.nx, G1, S1, ?_, p⟩
  unfold sAsgL
  rw [e]
  dsimp only
  rw [h1]
  dsimp only
  rw [if_pos h2, h3]
  rfl
theorem Ext.kp50 {S S' : Sto} (h : Ext nd S S') : Kp (· = nd) S S' := ⟨h.1, fun i hi hw => h.2 i hi hw⟩
theorem ls3 : ∀ ys : List D, (∀ y ∈ ys, ∃ a, L3 a ∧ y = D.str (sw [a])) → ∃ cs : List Nat, (∀ a ∈ cs, L3 a) ∧ ys = cs.map fun a => D.str (sw [a])
  | [], _ => ⟨[], by simp, rfl⟩
  | y :: ys, h => by
    obtain ⟨a, ha, rfl⟩ := h y (by simp)
    obtain ⟨cs, h1, rfl⟩ := ls3 ys fun y hy => h y (by simp [hy])
    exact ⟨a :: cs, by simpa [ha] using h1, rfl⟩
theorem e_join50 {n : Nat} {cs : List Nat} (hn : S[n]? = some (cs.map fun a => D.str (sw [a]))) (hl : cs.length ≤ 1000) (h : Q (.str (sw cs)) S) : Ee (joinD (.str (Str.ofString "")) (.ls n)) S Q := by
  have e0 : Str.ofString "" = sw [] := by decide +kernel
  rw [e0]
  refine ⟨_, S, ?_, h⟩
  unfold joinD
  dsimp only
  rw [hn]
  dsimp only
  rw [sw_strs]
  dsimp only
  have : ((cs.map fun c => sw [c]).map (·.length)).sum = cs.length := by
    clear hn hl h
    induction cs with
    | nil => rfl
    | cons c cs ih =>
      rw [List.map_cons, List.map_cons, List.sum_cons, ih, sw_len, List.length_singleton, List.length_cons]
      omega
  rw [this, if_pos (by rw [sw_len, List.length_nil]; omega), sw_join]
theorem e_addS {a b : List Nat} (hl : a.length + b.length ≤ 1000) (h : Q (.str (sw (a ++ b))) S) : Ee (addD (.str (sw a)) (.str (sw b))) S Q := by
  refine e_eq ?_ h
  unfold addD
  dsimp only
  rw [if_pos (by rw [sw_len, sw_len]; have := sizeLine_eq; omega), sw_app]
theorem four_at {v : Int} (h0 : 0 ≤ v) (h1 : v < 4) : ∃ t, (∀ a ∈ t, L3 a) ∧ t ≠ [] ∧ t.length ≤ 3 ∧ atI [D.str (Str.ofString "lcr"), .str (Str.ofString "lr"), .str (Str.ofString "r"), .str (Str.ofString "rrc")] v = some (.str (sw t)) := by
  have e1 : Str.ofString "lr" = sw [108, 114] := by decide +kernel
  have e2 : Str.ofString "rrc" = sw [114, 114, 99] := by decide +kernel
  rw [lcr, s_r, e1, e2]
  have : v = 0 ∨ v = 1 ∨ v = 2 ∨ v = 3 := by omega
  rcases this with rfl | rfl | rfl | rfl
  · exact ⟨_, by simp [L3], by simp, by simp, atI_nat (j := 0) rfl⟩
  · exact ⟨_, by simp [L3], by simp, by simp, atI_nat (j := 1) rfl⟩
  · exact ⟨_, by simp [L3], by simp, by simp, atI_nat (j := 2) rfl⟩
  · exact ⟨_, by simp [L3], by simp, by simp, atI_nat (j := 3) rfl⟩
theorem letters_ee {m : Nat} (d : Seed nd S c) (hm : m ≤ 12) (hc : c ≤ 100000) (hP : ∀ w S', Wd3 w → Kp (· = nd) S S' → Seed nd S' (c + 13) → Q (.str (sw w)) S') : Ee (f__law_letters [.ls nd, .int (m : Int)]) S Q := by
  refine s_run ?_
  walk_at "st"
  unfold b__law_letters
  walk_at "ev"
  refine e_alk (by simp) fun n1 S1 a1 a2 k1 a4 => ?_
  have d1 : Seed nd S1 c := d.keep (k1.2 nd d.lt (fun z => z)) (Nat.le_refl _)
  have dl := d.lt
  walk_at "ev"
  refine draw_ee d1 (by decide) (by decide) (by omega) fun v S2 v0 v1 x2 l2 d2 => ?_
  obtain ⟨t, t1, t2, t3, ht⟩ := four_at v0 v1
  refine e_ixL (x2.at_ a4 (by omega)) ht ?_
  walk_at "ev"
  have tl : 1 ≤ t.length := by cases t with | nil => exact absurd rfl t2 | cons => simp
  refine e_lc (gd := (none, rng 0 m)) (· = nd) (fun j S' => Seed nd S' (c + 1 + j)) (fun j y _ => ∃ a, L3 a ∧ y = D.str (sw [a])) (hi_rng rfl (by omega)) (by rw [rng_len]; omega) (fun i hi => by subst hi; exact d2.lt) (fun _ _ => stays_none)
    (fun j S3 S4 h k => h.keep (k.2 nd h.lt (by have := d2.lt; omega)) (Nat.le_refl _)) (fun _ _ _ _ h _ => h) d2 (fun j dj S3 hj h k lt => ?_) fun ys S3 k3 h3 y1 y2 y3 => ?_
  · obtain ⟨jl, rfl⟩ := rg hj
    refine ⟨_, rfl, ?_⟩
    dsimp only [tN, wipeG, List.set_cons_succ, List.set_cons_zero]
    walk_at "ev"
    refine e_lenS (by omega) ?_
    walk_at "ev"
    refine draw_ee h (by omega) (by omega) (by omega) fun v S4 v0 v1 x4 l4 d4 => ?_
    obtain ⟨i, rfl, hi⟩ := nat_ix v0 v1
    refine e_ixS (List.getElem?_eq_getElem hi) (by omega) ?_
    exact ⟨x4.kp50, d4, _, t1 _ (List.getElem_mem _), rfl⟩
  · obtain ⟨cs, c1, rfl⟩ := ls3 ys fun y hy => by
      obtain ⟨j, hj⟩ := List.mem_iff_getElem?.mp hy
      exact y2 j y hj
    have cl : cs.length = m := by
      rw [List.length_map, rng_len] at y1
      exact y1
    refine e_join50 y3 (by omega) ?_
    walk_at "ev"
    rw [rng_len] at h3
    exact hP cs S3 ⟨c1, by omega⟩ ((k1.up.trans x2.kp50).trans k3) (h3.mono (by omega))
theorem wd_take {w : List Nat} (h : Wd3 w) (k : Nat) : Wd3 (w.take k) := ⟨fun c hc => h.1 c (List.mem_of_mem_take hc), by have := h.2; rw [List.length_take]; omega⟩
theorem wd_cut {w : List Nat} (h : ∀ c ∈ w, L3 c) : Wd3 (cut w none (some 12)) := by
  have e : cut w none (some 12) = w.take 12 := by
    rcases Nat.le_total 12 w.length with hl | hl
    · exact cut_to w 12 hl
    · unfold cut
      rw [show (some (12 : Int)) = some ((12 : Nat) : Int) from rfl, HT.sIx_nat, HT.sIx_none, Nat.min_eq_right hl, List.drop_zero, Nat.sub_zero, List.take_length, List.take_of_length_le hl]
  rw [e]
  exact ⟨fun c hc => h c (List.mem_of_mem_take hc), by rw [List.length_take]; omega⟩
theorem words_ee (d : Seed nd S c) (hc : c ≤ 10000) (hP : ∀ x y n S', Wd3 x → Wd3 y → Kp (· = nd) S S' → S'[n]? = some [.str (sw x), .str (sw y)] → Seed nd S' (c + 50) → Q (.ls n) S') : Ee (f__law_words [.ls nd]) S Q := by
  refine s_run ?_
  walk_at "st"
  unfold b__law_words
  walk_at "ev"
  refine draw_ee d (by decide) (by decide) (by omega) fun v S1 v0 v1 x1 l1 d1 => ?_
  obtain ⟨m, rfl, hm⟩ := nat_ix v0 (n := 13) v1
  walk_at "ev"
  refine letters_ee (m := m) d1 (by omega) (by omega) fun x S2 hx k2 d2 => ?_
  have lx := hx.2
  walk_at "ev"
  refine e_lenS (by omega) ?_
  walk_at "ev"
  refine draw_ee d2 (by omega) (by omega) (by omega) fun v S3 v0 v1 x3 l3 d3 => ?_
  obtain ⟨at', rfl, hat⟩ := nat_ix v0 (n := x.length + 1) (by omega)
  walk_at "ev"
  refine draw_ee d3 (by omega) (by omega) (by omega) fun v S4 v0 v1 x4 l4 d4 => ?_
  have k4 := ((x1.kp50.trans k2).trans x3.kp50).trans x4.kp50
  walk_at "ev"
  refine br_by (fun h0 => ?_) fun h0 => ?_
  · walk_at "ev"
    refine e_slS (by omega) ?_
    rw [cut_to _ _ (by omega)]
    walk_at "ev"
    refine e_alk (by simp) fun n5 S5 a1 a2 k5 a4 => ?_
    walk_at "ev"
    exact hP x _ n5 S5 hx (wd_take hx _) (k4.trans k5.up) a4 ((d4.keep (k5.2 nd d4.lt (fun z => z)) (Nat.le_refl _)).mono (by omega))
  walk_at "ev"
  refine br_by (fun h1 => ?_) fun h1 => ?_
  · walk_at "ev"
    refine e_slS (by omega) ?_
    rw [cut_to _ _ (by omega)]
    walk_at "ev"
    refine draw_ee d4 (by omega) (by omega) (by omega) fun v S5 v0 v1 x5 l5 d5 => ?_
    rw [lcr]
    obtain ⟨i, rfl, hi⟩ := nat_ix v0 (n := 3) v1
    obtain ⟨b, hb⟩ : ∃ b, [108, 99, 114][i]? = some b := ⟨_, List.getElem?_eq_getElem hi⟩
    have lb : L3 b := by
      have := List.mem_of_getElem? hb
      unfold L3
      simpa using this
    refine e_ixS hb (by simp) ?_
    have tl := List.length_take_le at' x
    refine e_addS (by simp; omega) ?_
    walk_at "ev"
    refine e_slS (by omega) ?_
    have cl := cut_len x (some ((at' : Int) + 1)) none
    refine e_addS (by simp; omega) ?_
    walk_at "ev"
    refine e_slS (by simp; omega) ?_
    walk_at "ev"
    refine e_alk (by simp) fun n6 S6 a1 a2 k6 a4 => ?_
    walk_at "ev"
    refine hP x _ n6 S6 hx (wd_cut fun c hc => ?_) ((k4.trans x5.kp50).trans k6.up) a4 ((d5.keep (k6.2 nd d5.lt (fun z => z)) (Nat.le_refl _)).mono (by omega))
    rcases List.mem_append.mp hc with hc | hc
    · rcases List.mem_append.mp hc with hc | hc
      · exact hx.1 c (List.mem_of_mem_take hc)
      · rw [List.mem_singleton.mp hc]
        exact lb
    · unfold cut at hc
      exact hx.1 c (List.mem_of_mem_drop (List.mem_of_mem_take hc))
  walk_at "ev"
  refine br_by (fun h2 => ?_) fun h2 => ?_
  · walk_at "ev"
    refine e_slS (by omega) ?_
    rw [cut_to _ _ (by omega)]
    walk_at "ev"
    refine draw_ee d4 (by omega) (by omega) (by omega) fun v S5 v0 v1 x5 l5 d5 => ?_
    obtain ⟨i, rfl, hi⟩ := nat_ix v0 (n := 12) v1
    walk_at "ev"
    refine letters_ee (m := i) d5 (by omega) (by omega) fun y S6 hy k6 d6 => ?_
    have ly := hy.2
    have tl := List.length_take_le at' x
    refine e_addS (by omega) ?_
    walk_at "ev"
    refine e_slS (by simp; omega) ?_
    walk_at "ev"
    refine e_alk (by simp) fun n6 S7 a1 a2 k7 a4 => ?_
    walk_at "ev"
    refine hP x _ n6 S7 hx (wd_cut fun c hc => ?_) (((k4.trans x5.kp50).trans k6).trans k7.up) a4 ((d6.keep (k7.2 nd d6.lt (fun z => z)) (Nat.le_refl _)).mono (by omega))
    rcases List.mem_append.mp hc with hc | hc
    · exact hx.1 c (List.mem_of_mem_take hc)
    · exact hy.1 c hc
  walk_at "ev"
  refine draw_ee d4 (by omega) (by omega) (by omega) fun v S5 v0 v1 x5 l5 d5 => ?_
  obtain ⟨i, rfl, hi⟩ := nat_ix v0 (n := 13) v1
  walk_at "ev"
  refine letters_ee (m := i) d5 (by omega) (by omega) fun y S6 hy k6 d6 => ?_
  walk_at "ev"
  refine e_alk (by simp) fun n6 S7 a1 a2 k7 a4 => ?_
  walk_at "ev"
  exact hP x _ n6 S7 hx hy (((k4.trans x5.kp50).trans k6).trans k7.up) a4 ((d6.keep (k7.2 nd d6.lt (fun z => z)) (Nat.le_refl _)).mono (by omega))
end
theorem law_k50_true (ns : List Int) (h : ns.length ≤ 63) : ∃ S', f_law_k50 [.ro (ns.map D.int)] [] = some (.bl true, S') := by
  have key : Ee (f_law_k50 [.ro (ns.map D.int)]) [] (fun d _ => d = .bl true) := by
    refine s_run ?_
    walk_at "st"
    unfold b_law_k50
    walk_at "ev"
    refine f_slR (by simp; omega) fun n1 S1 e1 h1 g1 l1 => ?_
    rw [cut_map] at h1
    walk_at "ev"
    refine folded_ee h fun v => ?_
    walk_at "ev"
    refine f_al (by simp) fun n2 S2 e2 h2 g2 l2 => ?_
    have cl := cut_len ns none (some 6)
    refine f_addL (g2.at_ h1) h2 (by simp; omega) fun n3 S3 e3 h3 g3 l3 => ?_
    have h3' : S3[n3]? = some ((cut ns none (some 6) ++ [v]).map D.int) := by rw [h3]; simp
    generalize cut ns none (some 6) ++ [v] = cells at h3'
    refine e_seqL h3' ?_
    refine s_loop (fun j G S => (∃ o1 o2 o3 o4 o5 o6, G = [some (.ro (ns.map D.int)), o1, o2, o3, o4, o5, o6]) ∧ S[n3]? = some (cells.map D.int)) ⟨⟨_, _, _, _, _, _, rfl⟩, h3'⟩ ?_ ?_ ?_
    · rintro j G S ⟨_, hs⟩
      exact stays_one hs
    · rintro j d G S hj ⟨⟨o1, o2, o3, o4, o5, o6, rfl⟩, hs⟩
      obtain ⟨i, -, rfl⟩ := List.mem_map.mp (List.mem_of_getElem? hj)
      have hsl : n3 < S.length := (List.getElem?_eq_some_iff.mp hs).1
      refine ⟨_, rfl, ?_⟩
      dsimp only [List.set_cons_succ, List.set_cons_zero]
      walk_at "ev"
      refine seed_ee fun S4 g4 l4 d4 => ?_
      walk_at "ev"
      refine e_rngN (n := 4) (by decide) ?_
      have hs4 := g4.at_ hs
      generalize S.length = nd at d4 hsl
      refine s_loop (fun t G S' => (∃ p3 p4 p5 p6, G = [some (.ro (ns.map D.int)), some (.int i), some (.ls nd), p3, p4, p5, p6]) ∧ S'[n3]? = some (cells.map D.int) ∧ Seed nd S' (50 * t)) ⟨⟨_, _, _, _, rfl⟩, hs4, d4⟩ (fun _ _ _ _ => stays_none) ?_ ?_
      · rintro t dt G S5 ht ⟨⟨p3, p4, p5, p6, rfl⟩, hs5, d5⟩
        obtain ⟨tl, rfl⟩ := rg ht
        refine ⟨_, rfl, ?_⟩
        dsimp only [tN, List.set_cons_succ, List.set_cons_zero]
        walk_at "ev"
        refine s_asgL50 ?_
        walk_at "ev"
        refine words_ee d5 (by omega) fun x y n6 S6 hx hy k6 e6 d6 => ?_
        refine ⟨_, _, _, rfl, e6, rfl, rfl, ?_⟩
        walk_at "ev"
        refine words_compared_ee hx.1 hy.1 ?_
        walk_at "ev"
        refine law_compared_ee hx hy ?_
        refine e_neI ?_
        walk_at "ev"
        refine br_nt rfl ?_
        walk_at "ev"
        refine words_compared_ee hy.1 hx.1 ?_
        walk_at "ev"
        refine br_nt (by rw [cmp3_neg x y 1 hx.1 hy.1]; omega) ?_
        walk_at "ev"
        exact ⟨⟨_, _, _, _, rfl⟩, k6.at_ (by omega) hs5, d6⟩
      · rintro G S5 ⟨⟨p3, p4, p5, p6, rfl⟩, hs5, d5⟩
        exact ⟨⟨_, _, _, _, _, _, rfl⟩, hs5⟩
    · rintro G S ⟨⟨o1, o2, o3, o4, o5, o6, rfl⟩, hs⟩
      walk_at "ev"
      rfl
  obtain ⟨d, S', e, rfl⟩ := key
  exact ⟨S', e⟩
end BS

open PySem PySem.W PyProof.Rows
set_option maxRecDepth 100000 in
set_option maxHeartbeats 0 in
theorem PySem.Challenge.cw_bentstretch_k50_words_compared_holds : PySem.Challenge.rw_bentstretch_k50_words_compared.Holds := by
  w_on; o_law; k_head; (case hw => w_witness2)
  k_fill
  refine PL.walk_plT (l := PySem.Challenge.rw_bentstretch_k50_words_compared) (Ps := []) (k := 4) (mf := BS.f_law_k50) BS.law_k50_true rfl rfl ⟨rfl, by decide, by decide⟩ (fun w h Y => PySem.W.kIn_of Y) ?C ?D ?F
  case C =>
    intro w
    refine' PL.cutOk_mk ?m PL.tabs_nil (by decide)
    case m => k_is
  case D =>
    intro w
    refine' PL.codes_nil
  case F =>
    intro w mg fa h CK KX G hmg
    refine' BS.all_mkT CK KX G hmg ?a0 ?l0 ?c0 ?a1 ?l1 ?c1 ?a2 ?l2 ?c2 ?a3 ?l3 ?c3 ?a4 ?l4 ?c4 ?a5 ?l5 ?c5 ?a6 ?l6 ?c6 ?a7 ?l7 ?c7 ?z0 ?z1 ?z2 ?z3 ?z4 ?z5 ?z6 ?z7 ?z8 ?z9 ?z10 ?z11 ?z12 ?y0
    case a0 => k_is
    case l0 => k_is
    case c0 => k_is
    case a1 => k_is
    case l1 => k_is
    case c1 => k_is
    case a2 => k_is
    case l2 => k_is
    case c2 => k_is
    case a3 => k_is
    case l3 => k_is
    case c3 => k_is
    case a4 => k_is
    case l4 => k_is
    case c4 => k_is
    case a5 => k_is
    case l5 => k_is
    case c5 => k_is
    case a6 => k_is
    case l6 => k_is
    case c6 => k_is
    case a7 => k_is
    case l7 => k_is
    case c7 => k_is
    case z0 => k_is
    case z1 => k_is
    case z2 => k_is
    case z3 => k_is
    case z4 => k_is
    case z5 => k_is
    case z6 => k_is
    case z7 => k_is
    case z8 => k_is
    case z9 => k_is
    case z10 => k_is
    case z11 => k_is
    case z12 => k_is
    case y0 => k_is
#print axioms PySem.Challenge.cw_bentstretch_k50_words_compared_holds

