import PyProof.Rows.All
import Wide.All
import OpenK.AllK
import Wide.FinOn
import PyProof.EqAt
import PyProof.EqKinds
import PyProof.TupleCall
import KE.BitLaws
import Open.SpecLaws
import KE.OsHead
import KE.OsGo
import PyVbsoaj
import PySem.Challenge.RW_sealedorders_s01_answers
set_option Elab.async false
set_option linter.all false
set_option maxRecDepth 100000
/-! THE HAND LAYER, for ints, bools, texts, own classes, lists, tuples, dicts, comprehensions, walks over dicts, enumerate, zip, reversed, texts, calls, loops. Paste it whole ahead of your own text; what your proof does not reach may be deleted. -/
namespace L2
open PySem PySem.Spec PyProof.Rows

/-- a key: an int or a str -/
abbrev Key := Sum Int Str
def keyIs : Key → Value → Bool
  | .inl k, v => Value.isInt k v
  | .inr x, v => Value.isStrOf x v
def keyH (w : World) : Key → Int
  | .inl k => hashInt k
  | .inr x => hashStr w x
theorem keyIs_shape : ∀ {k : Key} {v : Value}, keyIs k v = true → (∃ i t, k = Sum.inl i ∧ v = Value.int i t) ∨ (∃ x t, k = Sum.inr x ∧ v = Value.str x t)
  | .inl i, v, h => by
    obtain ⟨t, e⟩ := Value.isInt_shape (k := i) (v := v) h
    exact .inl ⟨i, t, rfl, e⟩
  | .inr x, v, h => by
    obtain ⟨t, e⟩ := Value.isStrOf_shape (x := x) (v := v) h
    exact .inr ⟨x, t, rfl, e⟩
theorem key_ll (a b : Int) : decide ((Sum.inl a : Key) = Sum.inl b) = (a == b) := by
  by_cases e : a = b
  · subst e; simp
  · have h : ¬ (Sum.inl a : Key) = Sum.inl b := fun q => e (Sum.inl.inj q)
    rw [decide_eq_false h]
    exact (beq_eq_false_iff_ne.mpr e).symm
theorem key_rr (a b : Str) : decide ((Sum.inr a : Key) = Sum.inr b) = decide (a = b) := by
  by_cases e : a = b
  · subst e; simp
  · have h : ¬ (Sum.inr a : Key) = Sum.inr b := fun q => e (Sum.inr.inj q)
    rw [decide_eq_false h, decide_eq_false e]
theorem key_lr (a : Int) (b : Str) : decide ((Sum.inl a : Key) = Sum.inr b) = false := decide_eq_false (fun q => nomatch q)
theorem key_rl (a : Str) (b : Int) : decide ((Sum.inr a : Key) = Sum.inl b) = false := decide_eq_false (fun q => nomatch q)

def mixKind (prog : Program) (w : World) : PySem.KeyKind prog w Key where
  is := keyIs
  hash := keyH w
  inj := fun v a b ha hb => by
    rcases keyIs_shape ha with ⟨i, t, rfl, rfl⟩ | ⟨x, t, rfl, rfl⟩
    · rcases keyIs_shape hb with ⟨j, u, rfl, e⟩ | ⟨y, u, rfl, e⟩
      · injection e with e1 _; rw [e1]
      · exact nomatch e
    · rcases keyIs_shape hb with ⟨j, u, rfl, e⟩ | ⟨y, u, rfl, e⟩
      · exact nomatch e
      · injection e with e1 _; rw [e1]
  byValue := fun k v h => by
    rcases keyIs_shape h with ⟨i, t, rfl, rfl⟩ | ⟨x, t, rfl, rfl⟩ <;> rfl
  pyHash := fun hv h => by
    rcases keyIs_shape hv with ⟨i, t, rfl, rfl⟩ | ⟨x, t, rfl, rfl⟩
    · exact wpAny_pyHash_int h
    · exact wpAny_pyHash_str h
  eqBool := fun hu hv h => by
    rcases keyIs_shape hu with ⟨i, t, rfl, rfl⟩ | ⟨x, t, rfl, rfl⟩
    · rcases keyIs_shape hv with ⟨j, u, rfl, rfl⟩ | ⟨y, u, rfl, rfl⟩
      · rw [key_ll] at h; exact wpAny_eqBool_int h
      · rw [key_lr] at h; exact SeqAt.EqAt.int_str i t y u _ _ _ _ h
    · rcases keyIs_shape hv with ⟨j, u, rfl, rfl⟩ | ⟨y, u, rfl, rfl⟩
      · rw [key_rl] at h; exact SeqAt.EqAt.str_int x t j u _ _ _ _ h
      · rw [key_rr] at h; exact wpAny_eqBool_str h
  «strs» := fun k x t v h => by
    rcases keyIs_shape h with ⟨i, u, rfl, e⟩ | ⟨y, u, rfl, e⟩
    · exact nomatch e
    · injection e with e1 _
      subst e1
      cases v <;> rfl

end L2

namespace L2
open PySem PySem.Spec PyProof.Rows

/-- a value, without the heap -/
inductive V where
  | non | bl (b : Bool) | int (i : Int) | str (x : Str) | byt (b : Array UInt8) | flt (b : UInt64) | ref (a : Addr) | ty (n : String)
  deriving DecidableEq

def RelV : V → Value → Prop
  | .non, u => u = Value.none
  | .bl b, u => u = Value.bool b
  | .int i, u => ∃ t, u = Value.int i t
  | .str x, u => ∃ t, u = Value.str x t
  | .byt b, u => ∃ t, u = Value.bytes b t
  | .flt b, u => ∃ t, u = Value.float b t
  | .ref a, u => u = Value.ref a
  | .ty n, u => u = Value.type n

abbrev Vals : List V → List Value → Prop := Paired RelV
theorem Vals.length {xs : List V} {us : List Value} (r : Vals xs us) : xs.length = us.length := Paired.length r
theorem Vals.get : ∀ {xs : List V} {us : List Value} {i : Nat} {x : V}, Vals xs us → xs[i]? = some x → ∃ u, us[i]? = some u ∧ RelV x u
  | _, _, _, _, .nil, e => by simp at e
  | _, _, 0, _, .cons r _, e => by simp at e; subst e; exact ⟨_, rfl, r⟩
  | _, _, i + 1, x, .cons _ t, e => by
    obtain ⟨u, h1, h2⟩ := Vals.get (i := i) (x := x) t (by simpa using e)
    exact ⟨u, by simpa using h1, h2⟩
theorem Vals.append : ∀ {xs ys : List V} {us ws : List Value}, Vals xs us → Vals ys ws → Vals (xs ++ ys) (us ++ ws)
  | _, _, _, _, .nil, s => s
  | _, _, _, _, .cons r t, s => .cons r (Vals.append t s)
theorem Vals.take : ∀ {xs : List V} {us : List Value} (n : Nat), Vals xs us → Vals (xs.take n) (us.take n)
  | _, _, 0, _ => .nil
  | _, _, _ + 1, .nil => .nil
  | _, _, n + 1, .cons r t => .cons r (Vals.take n t)
theorem Vals.drop : ∀ {xs : List V} {us : List Value} (n : Nat), Vals xs us → Vals (xs.drop n) (us.drop n)
  | _, _, 0, r => r
  | _, _, _ + 1, .nil => .nil
  | _, _, n + 1, .cons _ t => Vals.drop n t

def RelO : Option V → Option Value → Prop
  | some v, some u => RelV v u
  | none, none => True
  | _, _ => False
def KV {κ : Type} : List (κ × V) → List (κ × Value) → Prop := Paired fun (p : κ × V) (q : κ × Value) => p.1 = q.1 ∧ RelV p.2 q.2

/-- a key of a dict (00_mix): an int or a text -/
def kV : Key → V
  | .inl i => .int i
  | .inr x => .str x

/-- what stands at a tracked address -/
inductive HO where
  /-- a list -/
  | lst (xs : List V)
  /-- a tuple (never changes) -/
  | tup (xs : List V)
  /-- a dict whose keys are ints and texts; one whose keys are tuples of ints and texts (the empty one is both) -/
  | dK (kvs : List (Key × V)) | dT (kvs : List (List Key × V))
  /-- a set of ints: its members, its size -/
  | set (S : Int → Bool) (n : Nat)
  /-- an instance of the class at C, its dict at dx, its attributes -/
  | ins (C dx : Addr) (fs : List (Str × V))
  /-- the dict of the instance at x -/
  | own (x : Addr)
  /-- the dict of an exception -/
  | xd (fs : List (Str × V))
  /-- a bound method, f of x -/
  | met (f x : Addr)
  /-- a range object lo, lo + 1, .. below hi -/
  | rng (lo hi : Int)
  /-- a thing that is known to the object (the script; a dict while a loop walks it): read, never written while it is so -/
  | frz (o : Obj) (u : HO)
  /-- a code object's table -/
  | tbl (ps : Array Value)
  /-- any other thing, by what is true of its one object (a def of one's own: SetO a S n := HO.ext fun h => ..) -/
  | ext (φ : Heap → Prop)

abbrev Hp := Addr → Option HO
def upd (H : Hp) (a : Addr) (o : HO) : Hp := fun b => if b = a then some o else H b
theorem upd_same {H : Hp} {a : Addr} {o : HO} : upd H a o a = some o := by unfold upd; rw [if_pos rfl]
theorem upd_ne {H : Hp} {a b : Addr} {o : HO} (h : b ≠ a) : upd H a o b = H b := by unfold upd; rw [if_neg h]
theorem ne_of_none {H : Hp} {a b : Addr} {o : HO} (h : H a = some o) (h' : H b = none) : a ≠ b := by
  intro e; subst e; rw [h] at h'; cases h'

section
variable (P : Program) (w : World)
def ObjOk (H : Hp) (h : Heap) (a : Addr) : HO → Prop
  | .lst xs => xs.length ≤ sizeLine ∧ ∃ (its : List Value) (n : Nat), Vals xs its ∧ h.get? a = some { cls := .type "list", data := .seq its.toArray n }
  | .tup xs => xs.length ≤ sizeLine ∧ ∃ its : List Value, Vals xs its ∧ IsTup h a its.toArray
  | .dK kvs => kvs.length ≤ sizeLine ∧ (a == sysModules) = false ∧ ∃ vs, KV kvs vs ∧ h.DictOf (mixKind P w) a vs
  | .dT kvs => kvs.length ≤ sizeLine ∧ (a == sysModules) = false ∧ ∃ xs : List (List Key × Addr × Value),
      Paired (fun (p : List Key × V) (q : List Key × Addr × Value) => p.1 = q.1 ∧ H q.2.1 = some (.tup (p.1.map kV)) ∧ RelV p.2 q.2.2) kvs xs ∧
      ∃ o es ep, h.get? a = some o ∧ o.ExactDict ∧ o.data = .dict es ep ∧ es.toList = xs.map (entryOfKey (tupleKind (mixKind P w))) ∧ (xs.map (·.1)).Nodup
  | .set S n => h.SetOf (intKind P w) a S n
  | .ins C dx fs => H dx = some (.own a) ∧ fs.length ≤ 1000 ∧ dx ≠ a ∧ h.get? a = some (PySem.W.instObj C dx) ∧
      ∃ mA, h.Ns1 dx mA ∧ (∀ f, RelO (fs.lookup f) (mA f)) ∧ PySem.Within mA (fs.map (·.1))
  | .own _ => ∃ o, h.get? a = some o
  | .xd fs => ∃ mA, h.Ns1 a mA ∧ ∀ f, RelO (fs.lookup f) (mA f)
  | .rng lo hi => ∃ t u v, h.get? a = some { cls := .type "range", data := .fields #[.int lo t, .int hi u, .int 1 v] }
  | .frz o u => h.get? a = some o ∧ ObjOk H h a u
  | .tbl ps => h.get? a = some { cls := .none, data := .fields ps }
  | .met f x => h.get? a = some (PySem.W.methodObj (.ref f) (.ref x))
  | .ext φ => φ h ∧ (∃ o, h.get? a = some o) ∧ ∀ h1 h2 : Heap, φ h1 → (∀ o, h1.get? a = some o → h2.get? a = some o) → φ h2
/-- the abstract heap is held -/
def HOk (H : Hp) (h : Heap) : Prop := ∀ a o, H a = some o → ObjOk P w H h a o
end

section
variable {P : Program} {w : World} {H H' : Hp} {h h' : Heap} {a : Addr} {o : HO}
theorem ObjOk.lt (x : ObjOk P w H h a o) : a < h.objs.size := by
  cases o with
  | lst xs => obtain ⟨_, _, _, _, e⟩ := x; exact Heap.lt_size e
  | tup xs => obtain ⟨_, _, _, p⟩ := x; exact p.lt
  | dK kvs => obtain ⟨_, _, _, _, o, _, _, e, _⟩ := x; exact Heap.lt_size e
  | dT kvs => obtain ⟨_, _, _, _, o, _, _, e, _⟩ := x; exact Heap.lt_size e
  | set S n => obtain ⟨o, _, _, _, e, _⟩ := x; exact Heap.lt_size e
  | ins C dx fs => obtain ⟨_, _, _, e, _⟩ := x; exact Heap.lt_size e
  | own y => obtain ⟨_, e⟩ := x; exact Heap.lt_size e
  | xd fs => obtain ⟨_, ⟨_, _, _, e, _⟩, _⟩ := x; exact Heap.lt_size e
  | rng lo hi => obtain ⟨_, _, _, e⟩ := x; exact Heap.lt_size e
  | frz ob u => obtain ⟨e, _⟩ := x; exact Heap.lt_size e
  | tbl ps => exact Heap.lt_size (show h.get? a = some _ from x)
  | met f y => exact Heap.lt_size (show h.get? a = some _ from x)
  | ext φ => obtain ⟨_, ⟨_, e⟩, _⟩ := x; exact Heap.lt_size e
theorem Paired.mapP {α β : Type} {F G : α → β → Prop} : ∀ {l₁ : List α} {l₂ : List β}, Paired F l₁ l₂ → (∀ a b, F a b → G a b) → Paired G l₁ l₂
  | _, _, .nil, _ => .nil
  | _, _, .cons r t, f => .cons (f _ _ r) (Paired.mapP t f)
/-- what an object's description leans on: its own object, its own dict, the tuples -/
theorem ObjOk.stay (x : ObjOk P w H h a o) (k : ∀ b u, (b = a ∨ H b = some (.own a)) → h.get? b = some u → h'.get? b = some u)
    (ho : ∀ b, H b = some (.own a) → H' b = some (.own a)) (ht : ∀ b xs, H b = some (.tup xs) → H' b = some (.tup xs)) : ObjOk P w H' h' a o := by
  induction o with
  | lst xs => obtain ⟨z, its, n, r, e⟩ := x; exact ⟨z, its, n, r, k _ _ (.inl rfl) e⟩
  | tup xs => obtain ⟨z, its, r, ob, e, c⟩ := x; exact ⟨z, its, r, ob, k _ _ (.inl rfl) e, c⟩
  | dK kvs => obtain ⟨z, y, vs, r, ob, es, ep, e, c⟩ := x; exact ⟨z, y, vs, r, ob, es, ep, k _ _ (.inl rfl) e, c⟩
  | dT kvs =>
    obtain ⟨z, y, xs, r, ob, es, ep, e, c⟩ := x
    exact ⟨z, y, xs, Paired.mapP r fun p q z => ⟨z.1, ht _ _ z.2.1, z.2.2⟩, ob, es, ep, k _ _ (.inl rfl) e, c⟩
  | set S n => obtain ⟨ob, es, ep, t, e, c⟩ := x; exact ⟨ob, es, ep, t, k _ _ (.inl rfl) e, c⟩
  | ins C dx fs =>
    obtain ⟨d, z, ne, e, mA, ⟨od, es, ep, e2, c⟩, r⟩ := x
    exact ⟨ho _ d, z, ne, k _ _ (.inl rfl) e, mA, ⟨od, es, ep, k _ _ (.inr d) e2, c⟩, r⟩
  | own y => obtain ⟨ob, e⟩ := x; exact ⟨ob, k _ _ (.inl rfl) e⟩
  | xd fs => obtain ⟨mA, ⟨od, es, ep, e, c⟩, r⟩ := x; exact ⟨mA, ⟨od, es, ep, k _ _ (.inl rfl) e, c⟩, r⟩
  | rng lo hi => obtain ⟨t, u, v, e⟩ := x; exact ⟨t, u, v, k _ _ (.inl rfl) e⟩
  | frz ob u ih => obtain ⟨e, q⟩ := x; exact ⟨k _ _ (.inl rfl) e, ih q⟩
  | tbl ps =>
    have e : h.get? a = some { cls := .none, data := .fields ps } := x
    show h'.get? a = some { cls := .none, data := .fields ps }
    exact k a _ (.inl rfl) e
  | met f y =>
    have e : h.get? a = some (PySem.W.methodObj (.ref f) (.ref y)) := x
    show h'.get? a = some (PySem.W.methodObj (.ref f) (.ref y))
    exact k a _ (.inl rfl) e
  | ext φ => obtain ⟨p, ⟨o, e⟩, st⟩ := x; exact ⟨st _ _ p fun o q => k _ _ (.inl rfl) q, ⟨o, k _ _ (.inl rfl) e⟩, st⟩
theorem HOk.lt (x : HOk P w H h) (e : H a = some o) : a < h.objs.size := (x a o e).lt
theorem HOk.fresh (x : HOk P w H h) (e : h.objs.size ≤ a) : H a = none := by
  cases q : H a with
  | none => rfl
  | some u => exact absurd (Nat.lt_of_lt_of_le (x.lt q) e) (Nat.lt_irrefl _)
/-- every object of the heap is kept -/
theorem HOk.kept (x : HOk P w H h) (k : ∀ b u, h.get? b = some u → h'.get? b = some u) : HOk P w H h' := fun a o e =>
  (x a o e).stay (fun b u _ q => k b u q) (fun _ q => q) fun _ _ q => q
/-- a new object is laid and tracked -/
theorem HOk.laid (x : HOk P w H h) (k : ∀ b u, h.get? b = some u → h'.get? b = some u) (hp : h.objs.size ≤ a) (new : ObjOk P w (upd H a o) h' a o) : HOk P w (upd H a o) h' := fun b u e => by
  have hn := x.fresh hp
  by_cases hb : b = a
  · subst hb; rw [upd_same] at e; cases e; exact new
  · rw [upd_ne hb] at e
    exact (x b u e).stay (fun c v _ q => k c v q) (fun c q => by rw [upd_ne (ne_of_none q hn)]; exact q) fun c xs q => by rw [upd_ne (ne_of_none q hn)]; exact q
end

/-- what may be read as u: it is u, or a known u -/
def Rd (H : Hp) (a : Addr) (u : HO) : Prop := H a = some u ∨ ∃ o, H a = some (.frz o u)
theorem Rd.ok {P : Program} {w : World} {H : Hp} {h : Heap} {a : Addr} {u : HO} (r : Rd H a u) (x : HOk P w H h) : ObjOk P w H h a u := by
  rcases r with r | ⟨o, r⟩
  · exact x a u r
  · obtain ⟨_, q⟩ := x a _ r
    exact q
/-- what may be written -/
def Mut : Option HO → Prop
  | some (.lst _) => True
  | some (.dK _) => True
  | some (.dT _) => True
  | some (.set _ _) => True
  | some (.ins _ _ _) => True
  | some (.ext _) => True
  | _ => False
section
variable {P : Program} {w : World} {H : Hp} {h h' : Heap} {x e : Addr} {o' : HO}
/-- the object at e is changed: x itself, or the dict of the instance x -/
theorem HOk.write (ok : HOk P w H h) (mu : Mut (H x)) (he : e = x ∨ H e = some (.own x)) (k : ∀ b u, b ≠ e → h.get? b = some u → h'.get? b = some u) (heo : ∃ u, h'.get? e = some u)
    (new : ObjOk P w (upd H x o') h' x o') : HOk P w (upd H x o') h' := fun b u q => by
  have nown : ∀ c y, H c = some (.own y) → c ≠ x := fun c y r z => by subst z; rw [r] at mu; exact mu
  have ntup : ∀ c xs, H c = some (.tup xs) → c ≠ x := fun c xs r z => by subst z; rw [r] at mu; exact mu
  by_cases hb : b = x
  · subst hb; rw [upd_same] at q; cases q; exact new
  · rw [upd_ne hb] at q
    by_cases hbe : b = e
    · have q' : H b = some (.own x) := by
        rcases he with z | z
        · exact absurd (hbe.trans z) hb
        · rw [hbe]; exact z
      rw [q] at q'; cases q'
      obtain ⟨v, hv⟩ := heo
      exact ⟨v, by rw [hbe]; exact hv⟩
    · refine (ok b u q).stay (fun c v hc r => k c v ?_ r) (fun c r => by rw [upd_ne (nown c b r)]; exact r) fun c xs r => by rw [upd_ne (ntup c xs r)]; exact r
      rcases hc with rfl | hc
      · exact hbe
      · rintro rfl
        rcases he with z | z
        · exact nown c b hc z
        · rw [hc] at z; cases z; exact hb rfl
end

/-! ### kept unless tracked; of the frames at fs (the callers') the slots may change (an exception that passes writes there); of the records at ex (iterators) nothing is said -/
structure Un (fs ex : List Addr) (H H' : Hp) (h h' : Heap) : Prop where
  keep : ∀ b o, h.get? b = some o → H b = none → b ∉ fs → b ∉ ex → h'.get? b = some o
  slot : ∀ b o, h.get? b = some o → H b = none → b ∈ fs → b ∉ ex → ∃ sl, h'.get? b = some { o with slots := sl }
  free : ∀ b o, h.get? b = some o → H b = none → b ∉ ex → H' b = none
  there : ∀ b o, h.get? b = some o → b ∉ ex → ∃ o', h'.get? b = some o'
  tups : ∀ b xs, H b = some (.tup xs) → H' b = some (.tup xs)
  frzs : ∀ b o u, H b = some (.frz o u) → H' b = some (.frz o u)
  tbls : ∀ b ps, H b = some (.tbl ps) → ∃ more, H' b = some (.tbl (ps ++ more))
section
variable {fs fs' ex ex' : List Addr} {H H1 H2 : Hp} {h h1 h2 h' : Heap} {a x e : Addr} {o : HO}
theorem Un.any (u : Un fs ex H H1 h h1) {b : Addr} {ob : Obj} (q : h.get? b = some ob) (n : H b = none) (hx : b ∉ ex) : ∃ sl, h1.get? b = some { ob with slots := sl } := by
  by_cases hb : b ∈ fs
  · exact u.slot b ob q n hb hx
  · exact ⟨ob.slots, u.keep b ob q n hb hx⟩
theorem Un.kept (k : ∀ b u, h.get? b = some u → h'.get? b = some u) : Un fs ex H H h h' :=
  ⟨fun b ob q _ _ _ => k b ob q, fun b ob q _ _ _ => ⟨ob.slots, k b ob q⟩, fun _ _ _ n _ => n, fun b ob q _ => ⟨ob, k b ob q⟩, fun _ _ q => q, fun _ _ _ q => q, fun _ ps q => ⟨#[], by rw [q]; simp⟩⟩
theorem Un.refl : Un fs ex H H h h := Un.kept fun _ _ q => q
theorem Un.laid (k : ∀ b u, h.get? b = some u → h'.get? b = some u) (hp : h.objs.size ≤ a) (hn : H a = none) : Un fs ex H (upd H a o) h h' where
  keep := fun b u q _ _ _ => k b u q
  slot := fun b u q _ _ _ => ⟨u.slots, k b u q⟩
  free := fun b u q n _ => by rw [upd_ne (Nat.ne_of_lt (Nat.lt_of_lt_of_le (Heap.lt_size q) hp))]; exact n
  there := fun b u q _ => ⟨u, k b u q⟩
  tups := fun b xs q => by rw [upd_ne (ne_of_none q hn)]; exact q
  frzs := fun b u xs q => by rw [upd_ne (ne_of_none q hn)]; exact q
  tbls := fun b ps q => ⟨#[], by rw [upd_ne (ne_of_none q hn), q]; simp⟩
theorem Un.write (mu : Mut (H x)) (he : e = x ∨ H e = some (.own x)) (k : ∀ b u, b ≠ e → h.get? b = some u → h'.get? b = some u) (heo : ∃ u, h'.get? e = some u) : Un fs ex H (upd H x o) h h' := by
  have hx : ∀ b, H b = none → b ≠ x := fun b n z => by subst z; rw [n] at mu; exact mu
  have hb : ∀ b, H b = none → b ≠ e := fun b n z => by
    subst z
    rcases he with r | r
    · exact hx b n r
    · rw [n] at r; cases r
  have hm : ∀ b u, H b = some u → ¬ Mut (some u) → b ≠ x := fun b u q nm z => by subst z; rw [q] at mu; exact nm mu
  refine ⟨fun b u q n _ _ => k b u (hb b n) q, fun b u q n _ _ => ⟨u.slots, k b u (hb b n) q⟩, fun b u q n _ => by rw [upd_ne (hx b n)]; exact n, fun b u q _ => ?_,
    fun b xs q => by rw [upd_ne (hm b _ q fun z => z)]; exact q, fun b u xs q => by rw [upd_ne (hm b _ q fun z => z)]; exact q, fun b ps q => ⟨#[], by rw [upd_ne (hm b _ q fun z => z), q]; simp⟩⟩
  by_cases hbe : b = e
  · subst hbe; exact heo
  · exact ⟨u, k b u hbe q⟩
end

/-! ### the heap without what is tracked -/
def trk (h : Heap) (H : Hp) : List Addr := (List.range h.objs.size).filter fun a => (H a).isSome
def hidT (h : Heap) (H : Hp) : Heap := PySem.W.hideAll h (trk h H)
theorem hidT_size (h : Heap) (H : Hp) : (hidT h H).objs.size = h.objs.size := PySem.W.hideAll_size _ _
theorem hidT_get {h : Heap} {H : Hp} {b : Addr} {o : Obj} (e : h.get? b = some o) (n : H b = none) : (hidT h H).get? b = some o :=
  PySem.W.hideAll_get _ e fun hm => by
    have q : (H b).isSome = true := (List.mem_filter.mp hm).2
    rw [n] at q; simp at q
theorem of_hidT {h : Heap} {H : Hp} {b : Addr} {o : Obj} (e : (hidT h H).get? b = some o) : h.get? b = some o ∧ H b = none := by
  have e' : h.get? b = some o := PySem.W.of_hideAll (trk h H) e
  refine ⟨e', ?_⟩
  cases q : H b with
  | none => rfl
  | some x =>
    have hm : b ∈ trk h H := List.mem_filter.mpr ⟨List.mem_range.mpr (Heap.lt_size e'), by simp [q]⟩
    have z : (hidT h H).get? b = none := PySem.W.hideAll_none (trk h H) hm
    rw [z] at e; cases e

/-! ### OpenK's ledger, filled with every new object but one -/
end L2

namespace L2
open PySem PySem.Spec PyProof.Rows

/-- the module's facts, over the base: the heap at the law's entry without what is tracked there -/
structure Mod (K : PySem.W.Frag) (mg : Str → Option Value) (base : Heap) : Prop where
  kin : K.In base
  glob : base.Ns mainGlobals mg
  blt : ∃ mb, base.Ns builtinsNs mb ∧ ∀ x : Str, x ≠ "__name__" → mb x = bootBuiltins x
  nolimit : base.NoLimit

/-- the context: a def's body (or a comprehension's block) running. base: fixed through the whole law; s₀, H₀: the entry; outer: the frames whose slots others may change (a def's callers); stack: all frames that run;
   ex: iterators that were made ahead of the entry and are walked here (a comprehension's); fn: the names whose cells were made at the entry (a def: all; a comprehension's block: its own); calm: not within an except suite; pn: pins that every state bears; xe: what is wanted of an exception that leaves the code -/
structure Cx where
  prog : Program
  w : World
  K : PySem.W.Frag
  mg : Str → Option Value
  base : Heap
  A : Around
  N : List Str
  s_0 : Shared
  H_0 : Hp
  env : Env
  outer : List Env
  stack : List Env
  ex : List Addr
  fn : Str → Bool
  calm : Bool
  pn : List (Addr × Obj)
  xe : Value → Shared → Prop
/-- the callers' frames -/
def frs (l : List Env) : List Addr := l.filterMap (·.frame)
abbrev Cx.fs (X : Cx) : List Addr := frs X.outer

def Vis (sc : Scope) (x : Str) : Prop := sc.names.lookup x = some .local ∨ sc.names.lookup x = some .cell ∨ sc.names.lookup x = some .free
def Loc (sc : Scope) (x : Str) : Prop := sc.names.lookup x = some .local ∨ sc.names.lookup x = some .cell
def Look (env : Env) (h : Heap) (m : Str → Option Value) (x : Str) (u : Value) : Prop :=
  (env.kindOf x = some .local ∧ m x = some u) ∨ ((env.kindOf x = some .cell ∨ env.kindOf x = some .free) ∧ ∃ c, env.cells.lookup x = some c ∧ h.IsCell c (some u))

structure Cx.Ok (X : Cx) : Prop where
  mod : Mod X.K X.mg X.base
  kind : X.env.scope.kind = .function
  glob : X.env.globals = mainGlobals
  blt : X.env.builtins = builtinsNs
  above : X.s_0.heap.objs.size ≤ X.env.locals
  inj : ∀ x y c, X.env.cells.lookup x = some c → X.env.cells.lookup y = some c → x = y
  has : ∀ x, (X.env.kindOf x = some .cell ∨ X.env.kindOf x = some .free) → ∃ c, X.env.cells.lookup x = some c
  cab : ∀ x c, X.fn x = true → X.env.cells.lookup x = some c → X.s_0.heap.objs.size ≤ c
  hd : X.calm = true → X.A.handled = none
  frames : X.A.frames = some X.stack
  stk : X.stack = X.outer ∨ (X.stack = X.env :: X.outer ∧ X.env.frame = some X.env.locals)
  exf : ∀ b ∈ X.ex, b ≠ X.env.locals ∧ ∀ x c, X.env.cells.lookup x = some c → c ≠ b
  bs : ∀ b o, X.base.get? b = some o → X.s_0.heap.get? b = some o ∧ X.H_0 b = none
  bsz : X.base.objs.size ≤ X.s_0.heap.objs.size
  noex : ∀ b o, X.base.get? b = some o → b ∉ X.ex
  exfs : ∀ b ∈ X.ex, b ∉ X.fs
  funs : X.s_0.heap.FunFrames X.base X.outer
  frf : ∀ b ∈ X.fs, X.H_0 b = none

structure Inv (X : Cx) (pins : List (Addr × Obj)) (σ : List (Option V)) (H : Hp) (s : Shared) : Prop where
  ok : X.Ok
  os : s.os = X.s_0.os
  bare : AllBare s.gens
  base : Un X.fs X.ex X.H_0 H X.s_0.heap s.heap
  loc : ∃ m, s.heap.Ns X.env.locals m ∧ ∀ (i : Nat) (x : Str) (v : V), X.N[i]? = some x → σ[i]? = some (some v) → Vis X.env.scope x → ∃ u, RelV v u ∧ Look X.env s.heap m x u
  cell : ∀ x c, X.env.cells.lookup x = some c → ∃ v, s.heap.IsCell c v
  free : H X.env.locals = none
  freeC : ∀ x c, X.env.cells.lookup x = some c → H c = none
  pin : ∀ p ∈ X.pn ++ pins, s.heap.get? p.1 = some p.2 ∧ H p.1 = none ∧ p.1 ≠ X.env.locals ∧ p.1 ∉ X.fs ∧ ∀ v, p.2.data ≠ .cell v
  hok : HOk X.prog X.w H s.heap
  len : σ.length = X.N.length

section
variable {X : Cx} {pins : List (Addr × Obj)} {σ : List (Option V)} {H H' : Hp} {s : Shared} {h' : Heap}

theorem Cx.Ok.nofr (ok : X.Ok) {b : Addr} {o : Obj} (e : X.base.get? b = some o) : b ∉ X.fs := fun hb => by
  have := (ok.funs.mem hb).1
  rw [e] at this; cases this
theorem Inv.bs (I : Inv X pins σ H s) : ∀ b o, X.base.get? b = some o → s.heap.get? b = some o ∧ H b = none := fun b o e =>
  ⟨I.base.keep b o (I.ok.bs b o e).1 (I.ok.bs b o e).2 (I.ok.nofr e) (I.ok.noex b o e), I.base.free b o (I.ok.bs b o e).1 (I.ok.bs b o e).2 (I.ok.noex b o e)⟩
theorem Inv.bk (I : Inv X pins σ H s) : ∀ b o, X.base.get? b = some o → s.heap.get? b = some o := fun b o e => (I.bs b o e).1
theorem Inv.mod (I : Inv X pins σ H s) : Mod X.K X.mg X.base := I.ok.mod
theorem Inv.kIn (I : Inv X pins σ H s) : X.K.In s.heap := I.ok.mod.kin.keeps I.bk
theorem Inv.lt (I : Inv X pins σ H s) : X.env.locals < s.heap.objs.size := let ⟨_, hn, _⟩ := I.loc; hn.lt
theorem Inv.sz (I : Inv X pins σ H s) : X.s_0.heap.objs.size ≤ s.heap.objs.size := Nat.le_trans I.ok.above (Nat.le_of_lt I.lt)
theorem Inv.nofs (I : Inv X pins σ H s) {a : Addr} (h : s.heap.objs.size ≤ a) : a ∉ X.fs := fun hb => by
  obtain ⟨_, o, ho, _⟩ := I.ok.funs.mem hb
  exact absurd (Nat.lt_of_lt_of_le (Heap.lt_size ho) (Nat.le_trans I.sz h)) (Nat.lt_irrefl _)
theorem Inv.cne (I : Inv X pins σ H s) : ∀ x c, X.env.cells.lookup x = some c → c ≠ X.env.locals := fun x c e z => by
  obtain ⟨v, o, ho, hd⟩ := I.cell x c e
  obtain ⟨m, ⟨o', es, ep, ho', hd', _⟩, _⟩ := I.loc
  rw [z, ho'] at ho; cases ho; rw [hd'] at hd; cases hd
theorem Inv.funs (I : Inv X pins σ H s) : s.heap.FunFrames X.base X.outer := by
  have all : ∀ (l : List Env), (∀ b ∈ frs l, b ∈ X.fs) → X.s_0.heap.FunFrames X.base l → s.heap.FunFrames X.base l := by
    intro l
    induction l with
    | nil => intro _ _; trivial
    | cons env r ih =>
      intro hs hl
      obtain ⟨hk, ⟨L, o, hf, hn, ho, hd⟩, hr⟩ := hl
      have hL : L ∈ X.fs := hs L (by unfold frs; rw [List.filterMap_cons, hf]; exact List.mem_cons_self)
      obtain ⟨sl, e⟩ := I.base.slot L o ho (I.ok.frf L hL) hL fun z => I.ok.exfs L z hL
      exact ⟨hk, ⟨L, _, hf, hn, e, hd⟩, ih (fun b hb => hs b (by unfold frs; rw [List.filterMap_cons, hf]; exact List.mem_cons_of_mem _ hb)) hr⟩
  exact all X.outer (fun _ hb => hb) I.ok.funs

/-- the frames that run, for a call -/
theorem Inv.stack (I : Inv X pins σ H s) : s.heap.FunFrames X.base X.stack := by
  rcases I.ok.stk with e | ⟨e, hf⟩
  · rw [e]; exact I.funs
  · rw [e]
    obtain ⟨m, hn, _⟩ := I.loc
    refine .cons (by rw [I.ok.kind]; decide) hf hn ?_ I.funs
    exact Heap.get?_none_of_le (Nat.le_trans I.ok.bsz I.ok.above)
theorem Inv.stkSub (I : Inv X pins σ H s) : ∀ b ∈ frs X.stack, b ∈ X.env.locals :: X.fs := fun b hb => by
  rcases I.ok.stk with e | ⟨e, hf⟩
  · rw [e] at hb; exact List.mem_cons_of_mem _ hb
  · rw [e] at hb
    unfold frs at hb
    rw [List.filterMap_cons, hf] at hb
    exact hb
theorem Inv.stkFree (I : Inv X pins σ H s) : ∀ b ∈ frs X.stack, H b = none := fun b hb => by
  rcases List.mem_cons.mp (I.stkSub b hb) with e | hb
  · rw [e]; exact I.free
  · obtain ⟨_, o, ho, _⟩ := I.ok.funs.mem hb
    exact I.base.free b o ho (I.ok.frf b hb) fun z => I.ok.exfs b z hb

/-- THE STEP: the untracked objects but the frame and the records at ch are kept (the callers' frames up to slots), the frame's map is kept, the new abstract heap is held -/
theorem Inv.step {g' : Array GenState} {t' : Nat} {d' : Drawn} {ch : List Addr} (I : Inv X pins σ H s)
    (hch : ∀ b ∈ ch, (b ∈ X.ex ∨ X.s_0.heap.objs.size ≤ b) ∧ b ≠ X.env.locals ∧ (∀ x c, X.env.cells.lookup x = some c → c ≠ b) ∧ ∀ p ∈ X.pn ++ pins, p.1 ≠ b)
    (keep : ∀ b o, b ≠ X.env.locals → b ∉ X.fs → b ∉ ch → s.heap.get? b = some o → H b = none → h'.get? b = some o)
    (slot : ∀ b o, b ≠ X.env.locals → b ∈ X.fs → b ∉ ch → s.heap.get? b = some o → H b = none → ∃ sl, h'.get? b = some { o with slots := sl }) (free : ∀ b o, b ∉ ch → s.heap.get? b = some o → H b = none → H' b = none)
    (there : ∀ b o, b ∉ ch → s.heap.get? b = some o → ∃ o', h'.get? b = some o')
    (tups : ∀ b xs, H b = some (.tup xs) → H' b = some (.tup xs)) (frzs : ∀ b o u, H b = some (.frz o u) → H' b = some (.frz o u)) (tbls : ∀ b ps, H b = some (.tbl ps) → ∃ more, H' b = some (.tbl (ps ++ more)))
    (ns : ∀ m, s.heap.Ns X.env.locals m → h'.Ns X.env.locals m) (hok : HOk X.prog X.w H' h') (hg : AllBare g') :
    Inv X pins σ H' { s with heap := h', gens := g', drawn := d', toks := t' } := by
  have neL : ∀ b o, X.s_0.heap.get? b = some o → b ≠ X.env.locals := fun b o e => Nat.ne_of_lt (Nat.lt_of_lt_of_le (Heap.lt_size e) I.ok.above)
  have neC : ∀ b o, X.s_0.heap.get? b = some o → b ∉ X.ex → b ∉ ch := fun b o e hx hb => by
    rcases (hch b hb).1 with z | z
    · exact hx z
    · exact absurd (Nat.lt_of_lt_of_le (Heap.lt_size e) z) (Nat.lt_irrefl _)
  have cellK : ∀ x c, X.env.cells.lookup x = some c → ∀ v, s.heap.IsCell c v → h'.IsCell c v := fun x c e v ⟨o, ho, hd⟩ => by
    have nch : c ∉ ch := fun z => (hch c z).2.2.1 x c e rfl
    by_cases hc : c ∈ X.fs
    · obtain ⟨sl, q⟩ := slot c o (I.cne x c e) hc nch ho (I.freeC x c e)
      exact ⟨_, q, hd⟩
    · exact ⟨o, keep c o (I.cne x c e) hc nch ho (I.freeC x c e), hd⟩
  refine ⟨I.ok, I.os, hg, ⟨fun b o e n hb hx => ?_, fun b o e n hb hx => ?_, fun b o e n hx => ?_, fun b o e hx => ?_, fun b xs e => tups b xs (I.base.tups b xs e), fun b o xs e => frzs b o xs (I.base.frzs b o xs e), fun b ps e => ?_⟩, ?_, fun x c e => ?_, ?_, fun x c e => ?_, fun p hp => ?_, hok, I.len⟩
  · exact keep b o (neL b o e) hb (neC b o e hx) (I.base.keep b o e n hb hx) (I.base.free b o e n hx)
  · obtain ⟨sl, e1⟩ := I.base.slot b o e n hb hx
    obtain ⟨sl', e2⟩ := slot b _ (neL b o e) hb (neC b o e hx) e1 (I.base.free b o e n hx)
    exact ⟨sl', e2⟩
  · obtain ⟨o', e1⟩ := I.base.there b o e hx
    exact free b o' (neC b o e hx) e1 (I.base.free b o e n hx)
  · obtain ⟨o', e1⟩ := I.base.there b o e hx
    exact there b o' (neC b o e hx) e1
  · obtain ⟨m1, e1⟩ := I.base.tbls b ps e
    obtain ⟨m2, e2⟩ := tbls b _ e1
    exact ⟨m1 ++ m2, by rw [e2, Array.append_assoc]⟩
  · obtain ⟨m, hn, hl⟩ := I.loc
    refine ⟨m, ns m hn, fun i x v e1 e2 e3 => ?_⟩
    obtain ⟨u, r, l⟩ := hl i x v e1 e2 e3
    refine ⟨u, r, ?_⟩
    rcases l with l | ⟨k, c, e, z⟩
    · exact .inl l
    · exact .inr ⟨k, c, e, cellK x c e _ z⟩
  · obtain ⟨v, z⟩ := I.cell x c e
    exact ⟨v, cellK x c e v z⟩
  · obtain ⟨m, ⟨o, _, _, ho, _⟩, _⟩ := I.loc
    exact free _ o (fun z => (hch _ z).2.1 rfl) ho I.free
  · obtain ⟨v, o, ho, hd⟩ := I.cell x c e
    exact free c o (fun z => (hch c z).2.2.1 x c e rfl) ho (I.freeC x c e)
  · obtain ⟨e, n, ne, nf, d⟩ := I.pin p hp
    have nch : p.1 ∉ ch := fun z => (hch p.1 z).2.2.2 p hp rfl
    exact ⟨keep p.1 p.2 ne nf nch e n, free p.1 p.2 nch e n, ne, nf, d⟩
/-- .. where the frame's own object is kept too -/
theorem Inv.un {t' : Nat} (I : Inv X pins σ H s) (u : Un X.fs [] H H' s.heap h') (hok : HOk X.prog X.w H' h') : Inv X pins σ H' { s with heap := h', toks := t' } := by
  obtain ⟨m, ⟨o, es, ep, ho, r⟩, _⟩ := id I.loc
  obtain ⟨sl, hL⟩ := u.any ho I.free (by simp)
  exact I.step (g' := s.gens) (d' := s.drawn) (ch := []) (fun _ z => nomatch z) (fun b o _ hb _ e n => u.keep b o e n hb (by simp)) (fun b o _ hb _ e n => u.slot b o e n hb (by simp)) (fun b o _ e n => u.free b o e n (by simp)) (fun b o _ e => u.there b o e (by simp)) u.tups u.frzs u.tbls (fun m' hm => by
    obtain ⟨o', es', ep', ho', r'⟩ := hm
    rw [ho] at ho'; cases ho'
    exact ⟨_, es', ep', hL, r'⟩) hok I.bare
/-- behind a call (or a comprehension's block): the slots of this frame may have changed too, the records at ch may have turned -/
theorem Inv.call {g' : Array GenState} {t' : Nat} {d' : Drawn} {ch : List Addr} (I : Inv X pins σ H s) (u : Un (frs X.stack) ch H H' s.heap h') (hok : HOk X.prog X.w H' h') (hg : AllBare g')
    (hch : ∀ b ∈ ch, (b ∈ X.ex ∨ X.s_0.heap.objs.size ≤ b) ∧ b ≠ X.env.locals ∧ (∀ x c, X.env.cells.lookup x = some c → c ≠ b) ∧ ∀ p ∈ X.pn ++ pins, p.1 ≠ b) :
    Inv X pins σ H' { s with heap := h', gens := g', drawn := d', toks := t' } := by
  obtain ⟨m, ⟨o, es, ep, ho, r⟩, _⟩ := id I.loc
  obtain ⟨sl, hL⟩ := u.any ho I.free fun z => (hch _ z).2.1 rfl
  exact I.step (ch := ch) hch (fun b o hL hb hc e n => u.keep b o e n (fun z => (List.mem_cons.mp (I.stkSub b z)).elim hL hb) hc) (fun b o _ _ hc e n => u.any e n hc) (fun b o hc e n => u.free b o e n hc) (fun b o hc e => u.there b o e hc) u.tups u.frzs u.tbls (fun m' hm => by
    obtain ⟨o', es', ep', ho', r'⟩ := hm
    rw [ho] at ho'; cases ho'
    exact ⟨_, es', ep', hL, r'⟩) hok hg
/-- an untracked record of ours (an iterator) has turned -/
theorem Inv.turned {t' : Nat} {it : Addr} (I : Inv X pins σ H s) (k : ∀ b o, b ≠ it → s.heap.get? b = some o → h'.get? b = some o) (hn : H it = none) (hL : it ≠ X.env.locals)
    (h1 : it ∈ X.ex ∨ X.s_0.heap.objs.size ≤ it) (h2 : ∀ x c, X.env.cells.lookup x = some c → c ≠ it) (h3 : ∀ p ∈ X.pn ++ pins, p.1 ≠ it) : Inv X pins σ H { s with heap := h', toks := t' } := by
  have nit : ∀ b u, H b = some u → b ≠ it := fun b u e z => by rw [z, hn] at e; cases e
  refine I.step (g' := s.gens) (d' := s.drawn) (ch := [it]) (fun b hb => ?_) (fun b o _ _ hc e _ => k b o (fun z => hc (by simp [z])) e) (fun b o _ _ hc e _ => ⟨o.slots, k b o (fun z => hc (by simp [z])) e⟩) (fun _ _ _ _ n => n)
    (fun b o hc e => ⟨o, k b o (fun z => hc (by simp [z])) e⟩) (fun _ _ e => e) (fun _ _ _ e => e) (fun b ps e => ⟨#[], by rw [e]; simp⟩) (fun m hm => ?_) (fun b u e => ?_) I.bare
  · have e : b = it := by simpa using hb
    subst e
    exact ⟨h1, hL, h2, h3⟩
  · obtain ⟨o, es, ep, ho, r⟩ := hm
    exact ⟨o, es, ep, k _ o (Ne.symm hL) ho, r⟩
  · refine (I.hok b u e).stay (fun c v hc q => k c v ?_ q) (fun _ q => q) fun _ _ q => q
    rcases hc with z | z
    · rw [z]; exact nit b u e
    · exact nit c _ z
theorem Inv.tok (I : Inv X pins σ H s) (t : Nat) : Inv X pins σ H { s with toks := t } := I.un (h' := s.heap) (t' := t) Un.refl I.hok
/-- all objects kept -/
theorem Inv.kept {t' : Nat} (I : Inv X pins σ H s) (k : ∀ b u, s.heap.get? b = some u → h'.get? b = some u) : Inv X pins σ H { s with heap := h', toks := t' } := I.un (Un.kept k) (I.hok.kept k)
/-- a new object laid and tracked -/
theorem Inv.laid {a : Addr} {o : HO} {t' : Nat} (I : Inv X pins σ H s) (k : ∀ b u, s.heap.get? b = some u → h'.get? b = some u) (hp : s.heap.objs.size ≤ a) (new : ObjOk X.prog X.w (upd H a o) h' a o) :
    Inv X pins σ (upd H a o) { s with heap := h', toks := t' } := I.un (Un.laid k hp (I.hok.fresh hp)) (I.hok.laid k hp new)
/-- an object written -/
theorem Inv.write {x e : Addr} {o : HO} {t' : Nat} (I : Inv X pins σ H s) (mu : Mut (H x)) (he : e = x ∨ H e = some (.own x)) (k : ∀ b u, b ≠ e → s.heap.get? b = some u → h'.get? b = some u) (heo : ∃ u, h'.get? e = some u)
    (new : ObjOk X.prog X.w (upd H x o) h' x o) : Inv X pins σ (upd H x o) { s with heap := h', toks := t' } := I.un (Un.write mu he k heo) (I.hok.write mu he k heo new)
/-- forgetting slots, pins -/
theorem Inv.weak {σ' : List (Option V)} (I : Inv X pins σ H s) (hl : σ'.length = σ.length) (w : ∀ (i : Nat) v, σ'[i]? = some (some v) → σ[i]? = some (some v)) : Inv X pins σ' H s :=
  ⟨I.ok, I.os, I.bare, I.base, let ⟨m, hn, hl'⟩ := I.loc; ⟨m, hn, fun i x v e1 e2 e3 => hl' i x v e1 (w i v e2) e3⟩, I.cell, I.free, I.freeC, I.pin, I.hok, hl.trans I.len⟩
theorem Inv.pins_of {pins' : List (Addr × Obj)} (I : Inv X pins σ H s) (h : ∀ p ∈ pins', s.heap.get? p.1 = some p.2 ∧ H p.1 = none ∧ p.1 ≠ X.env.locals ∧ p.1 ∉ X.fs ∧ ∀ v, p.2.data ≠ .cell v) : Inv X pins' σ H s :=
  ⟨I.ok, I.os, I.bare, I.base, I.loc, I.cell, I.free, I.freeC, fun p hp => (List.mem_append.mp hp).elim (fun z => I.pin p (List.mem_append_left _ z)) (h p), I.hok, I.len⟩

theorem nodup_ix {N : List Str} (hN : N.Nodup) {i j : Nat} {x : Str} (a : N[i]? = some x) (b : N[j]? = some x) : i = j := by
  obtain ⟨h1, e1⟩ := List.getElem?_eq_some_iff.mp a
  obtain ⟨h2, e2⟩ := List.getElem?_eq_some_iff.mp b
  exact (List.getElem_inj hN).mp (e1.trans e2.symm)

/-- a name is stored; what changed -/
theorem store_ok2 {M : Model} {A : Around} {E : Value → Shared → Prop} {i : Nat} {x : Str} {v : V} {u : Value} {Q : Unit → Shared → Prop} (I : Inv X pins σ H s) (hN : X.N.Nodup) (hi : X.N[i]? = some x) (hx : Loc X.env.scope x) (r : RelV v u)
    (h : ∀ s', Inv X pins (σ.set i (some v)) H s' → (∃ a, Heap.SameBut a s.heap s'.heap ∧ (a = X.env.locals ∨ X.env.cells.lookup x = some a)) → Q () s') (hf : X.fn x = true ∨ X.env.scope.names.lookup x = some .local := by first | exact .inl rfl | exact .inr rfl | assumption) : wpAny M A (storeName X.env x u) Q E s := by
  obtain ⟨m, hn, hl⟩ := id I.loc
  have hcls : (X.env.scope.kind == .class || (X.env.scope.kind == .module && X.env.locals != X.env.globals)) = false := by rw [I.ok.kind]; rfl
  have hiσ : i < σ.length := by rw [I.len]; exact (List.getElem?_eq_some_iff.mp hi).1
  have cne := I.cne
  have tracked : ∀ {a : Addr} {h' : Heap}, (∃ o, s.heap.get? a = some o ∧ H a = none) → Heap.SameBut a s.heap h' → HOk X.prog X.w H h' := fun {a h'} ha hs b ob e => by
    obtain ⟨_, _, hfree⟩ := ha
    refine (I.hok b ob e).stay (fun c w' hc q => (hs.2 c ?_).trans q) (fun _ q => q) fun _ _ q => q
    rintro rfl
    rcases hc with rfl | hc
    · rw [hfree] at e; cases e
    · rw [hfree] at hc; cases hc
  rcases hx with hk | hk
  · refine wpAny_storeName_local hk hn (fun h' hn' hs => ?_) hcls
    obtain ⟨oL, _, _, hoL, _⟩ := id hn
    refine h _ ⟨I.ok, I.os, I.bare, ⟨fun b o e n hb hx => ?_, fun b o e n hb hx => ?_, I.base.free, fun b o e hx => ?_, I.base.tups, I.base.frzs, I.base.tbls⟩, ⟨_, hn', fun j y v' e1 e2 e3 => ?_⟩, fun y c e => ?_, I.free, I.freeC, fun p hp => ?_, tracked ⟨oL, hoL, I.free⟩ hs, by simpa using I.len⟩ ⟨_, hs, .inl rfl⟩
    · exact (hs.2 b (Nat.ne_of_lt (Nat.lt_of_lt_of_le (Heap.lt_size e) I.ok.above))).trans (I.base.keep b o e n hb hx)
    · obtain ⟨sl, e1⟩ := I.base.slot b o e n hb hx
      exact ⟨sl, (hs.2 b (Nat.ne_of_lt (Nat.lt_of_lt_of_le (Heap.lt_size e) I.ok.above))).trans e1⟩
    · obtain ⟨o', e1⟩ := I.base.there b o e hx
      exact ⟨o', (hs.2 b (Nat.ne_of_lt (Nat.lt_of_lt_of_le (Heap.lt_size e) I.ok.above))).trans e1⟩
    · by_cases hj : j = i
      · subst hj
        rw [hi] at e1; cases e1
        rw [List.getElem?_set_self hiσ] at e2
        cases e2
        exact ⟨u, r, .inl ⟨hk, by simp⟩⟩
      · rw [List.getElem?_set_ne (Ne.symm hj)] at e2
        obtain ⟨u', r', q⟩ := hl j y v' e1 e2 e3
        refine ⟨u', r', ?_⟩
        rcases q with ⟨k, e⟩ | ⟨k, c, e, z⟩
        · refine .inl ⟨k, ?_⟩
          have : y ≠ x := fun e => hj (nodup_ix hN e1 (e ▸ hi))
          simp [this, e]
        · exact .inr ⟨k, c, e, z.sameBut hs (cne y c e)⟩
    · obtain ⟨w', z⟩ := I.cell y c e
      exact ⟨w', z.sameBut hs (cne y c e)⟩
    · obtain ⟨e, n, ne, nf, d⟩ := I.pin p hp
      exact ⟨(hs.2 p.1 ne).trans e, n, ne, nf, d⟩
  · have hfn : X.fn x = true := by
      rcases hf with z | z
      · exact z
      · rw [z] at hk; cases hk
    obtain ⟨c, hc⟩ := I.ok.has x (.inl hk)
    obtain ⟨w', z⟩ := I.cell x c hc
    refine wpAny_storeName_cell I.ok.kind hk hc z (fun h' hc' hs => ?_)
    obtain ⟨oc, hoc, hocd⟩ := id z
    refine h { s with heap := h' } ⟨I.ok, I.os, I.bare, ⟨fun b o e n hb hx => ?_, fun b o e n hb hx => ?_, I.base.free, fun b o e hx => ?_, I.base.tups, I.base.frzs, I.base.tbls⟩, ⟨m, hn.sameBut hs (Ne.symm (cne x c hc)), fun j y v' e1 e2 e3 => ?_⟩, fun y c' e => ?_, I.free, I.freeC, fun p hp => ?_, tracked ⟨oc, hoc, I.freeC x c hc⟩ hs, by simpa using I.len⟩ ⟨c, hs, .inr hc⟩
    · exact (hs.2 b (Nat.ne_of_lt (Nat.lt_of_lt_of_le (Heap.lt_size e) (I.ok.cab x c hfn hc)))).trans (I.base.keep b o e n hb hx)
    · obtain ⟨sl, e1⟩ := I.base.slot b o e n hb hx
      exact ⟨sl, (hs.2 b (Nat.ne_of_lt (Nat.lt_of_lt_of_le (Heap.lt_size e) (I.ok.cab x c hfn hc)))).trans e1⟩
    · obtain ⟨o', e1⟩ := I.base.there b o e hx
      exact ⟨o', (hs.2 b (Nat.ne_of_lt (Nat.lt_of_lt_of_le (Heap.lt_size e) (I.ok.cab x c hfn hc)))).trans e1⟩
    · by_cases hj : j = i
      · subst hj
        rw [hi] at e1; cases e1
        rw [List.getElem?_set_self hiσ] at e2
        cases e2
        exact ⟨u, r, .inr ⟨.inl hk, c, hc, hc'⟩⟩
      · rw [List.getElem?_set_ne (Ne.symm hj)] at e2
        obtain ⟨u', r', q⟩ := hl j y v' e1 e2 e3
        refine ⟨u', r', ?_⟩
        rcases q with q | ⟨k, c', e, z'⟩
        · exact .inl q
        · refine .inr ⟨k, c', e, z'.sameBut hs ?_⟩
          rintro rfl
          exact hj (nodup_ix hN e1 (I.ok.inj _ _ _ e hc ▸ hi))
    · by_cases hcc : c' = c
      · subst hcc; exact ⟨_, hc'⟩
      · obtain ⟨w2, z2⟩ := I.cell y c' e
        exact ⟨w2, z2.sameBut hs hcc⟩
    · obtain ⟨e, n, ne, nf, d⟩ := I.pin p hp
      refine ⟨(hs.2 p.1 ?_).trans e, n, ne, nf, d⟩
      intro q
      rw [q, hoc] at e
      have q' : oc = p.2 := Option.some.inj e
      exact d w' (by rw [← q']; exact hocd)
theorem store_ok {M : Model} {A : Around} {E : Value → Shared → Prop} {i : Nat} {x : Str} {v : V} {u : Value} {Q : Unit → Shared → Prop} (I : Inv X pins σ H s) (hN : X.N.Nodup) (hi : X.N[i]? = some x) (hx : Loc X.env.scope x) (r : RelV v u)
    (h : ∀ s', Inv X pins (σ.set i (some v)) H s' → Q () s') (hf : X.fn x = true ∨ X.env.scope.names.lookup x = some .local := by first | exact .inl rfl | exact .inr rfl | assumption) : wpAny M A (storeName X.env x u) Q E s :=
  store_ok2 I hN hi hx r (fun s' I' _ => h s' I') hf
/-- behind a call or a block, the state as it is -/
theorem Inv.call' {s' : Shared} {ch : List Addr} (I : Inv X pins σ H s) (ho : s'.os = s.os) (u : Un (frs X.stack) ch H H' s.heap s'.heap) (hok : HOk X.prog X.w H' s'.heap) (hg : AllBare s'.gens)
    (hch : ∀ b ∈ ch, (b ∈ X.ex ∨ X.s_0.heap.objs.size ≤ b) ∧ b ≠ X.env.locals ∧ (∀ x c, X.env.cells.lookup x = some c → c ≠ b) ∧ ∀ p ∈ X.pn ++ pins, p.1 ≠ b) : Inv X pins σ H' s' := by
  obtain ⟨h', g', d', t', o'⟩ := s'
  have e : o' = s.os := ho
  subst e
  exact I.call (g' := g') (t' := t') (d' := d') u hok hg hch
end

/-! ### the judgements -/
/-- an exception: its class, its own dict's address (where it has one), the abstract heap behind it -/
abbrev XK := Value → Option Addr → Hp → Prop
abbrev St := List (Option V)
abbrev VK := V → Hp → Prop
/-- an expression's reading; a test's; an argument list's -/
abbrev TE := St → Hp → VK → Prop
abbrev TT := St → Hp → (Bool → Hp → Prop) → Prop
abbrev TA := St → Hp → (List V → Hp → Prop) → Prop
/-- what is wanted behind a statement -/
structure Ends where
  nx : St → Hp → Prop
  rt : VK
  bk : St → Hp → Prop := fun _ _ => False
  ct : St → Hp → Prop := fun _ _ => False
abbrev TS := Ends → St → Hp → Prop

def EP (X : Cx) (pins : List (Addr × Obj)) (σ : St) (Q : VK) (u : Value) (s' : Shared) : Prop := ∃ v H', Inv X pins σ H' s' ∧ RelV v u ∧ Q v H'
def TP (X : Cx) (pins : List (Addr × Obj)) (σ : St) (Q : Bool → Hp → Prop) (b : Bool) (s' : Shared) : Prop := ∃ H', Inv X pins σ H' s' ∧ Q b H'
def AP (X : Cx) (pins : List (Addr × Obj)) (σ : St) (Q : List V → Hp → Prop) (us : List Value) (s' : Shared) : Prop := ∃ vs H', Inv X pins σ H' s' ∧ Vals vs us ∧ Q vs H'
def SP (X : Cx) (pins : List (Addr × Obj)) (D : Ends) (f : Flow) (s' : Shared) : Prop :=
  match f with
  | .next => ∃ σ' H', Inv X pins σ' H' s' ∧ D.nx σ' H'
  | .brk => ∃ σ' H', Inv X pins σ' H' s' ∧ D.bk σ' H'
  | .cont => ∃ σ' H', Inv X pins σ' H' s' ∧ D.ct σ' H'
  | .ret u => ∃ v σ' H', Inv X pins σ' H' s' ∧ RelV v u ∧ D.rt v H'

def PE (X : Cx) (e : Expr) (t : TE) : Prop :=
  ∀ (pins : List (Addr × Obj)) (s : Shared) (σ : St) (H : Hp) (Q : VK), Inv X pins σ H s → t σ H Q → wpAny (model X.prog X.w) X.A (eval e X.env) (EP X pins σ Q) X.xe s
def PT (X : Cx) (e : Expr) (t : TT) : Prop :=
  ∀ (pins : List (Addr × Obj)) (s : Shared) (σ : St) (H : Hp) (Q : Bool → Hp → Prop), Inv X pins σ H s → t σ H Q → wpAny (model X.prog X.w) X.A (isTrue e X.env (eval e X.env)) (TP X pins σ Q) X.xe s
/-- a test whatever its 'whole' is (and, or) -/
def PW (X : Cx) (e : Expr) (t : TT) : Prop :=
  ∀ (whole : Sem Value) (pins : List (Addr × Obj)) (s : Shared) (σ : St) (H : Hp) (Q : Bool → Hp → Prop), Inv X pins σ H s → t σ H Q → wpAny (model X.prog X.w) X.A (isTrue e X.env whole) (TP X pins σ Q) X.xe s
theorem PW.pt {X : Cx} {e : Expr} {t : TT} (h : PW X e t) : PT X e t := h _
/-- an argument list (no star), from the left -/
def PA (X : Cx) (es : List Expr) (t : TA) : Prop :=
  ∀ (pos : Pos) (pins : List (Addr × Obj)) (s : Shared) (σ : St) (H : Hp) (Q : List V → Hp → Prop), Inv X pins σ H s → t σ H Q → wpAny (model X.prog X.w) X.A (spliced (backTo pos (starEach es X.env))) (AP X pins σ Q) X.xe s
def PS (X : Cx) (st : Stmt) (t : TS) : Prop :=
  ∀ (pins : List (Addr × Obj)) (s : Shared) (σ : St) (H : Hp) (D : Ends), Inv X pins σ H s → t D σ H → wpAny (model X.prog X.w) X.A (exec st X.env) (SP X pins D) X.xe s
def PSs (X : Cx) (st : List Stmt) (t : TS) : Prop :=
  ∀ (pins : List (Addr × Obj)) (s : Shared) (σ : St) (H : Hp) (D : Ends), Inv X pins σ H s → t D σ H → wpAny (model X.prog X.w) X.A (execs st X.env) (SP X pins D) X.xe s
/-- weaken the end -/
theorem thn {α : Type} {t : Sem α} {Q Q' : α → Shared → Prop} {M : Model} {A : Around} {E : Value → Shared → Prop} {s : Shared} (h : wpAny M A t Q E s) (hQ : ∀ a s, Q a s → Q' a s) : wpAny M A t Q' E s := wpAny_mono h hQ fun _ _ x => x
end L2

namespace L2
open PySem PySem.Spec PyProof.Rows
section
variable {X : Cx}


/-! ### names and constants -/
def tVar (i : Nat) : TE := fun σ H Q => ∃ v, σ[i]? = some (some v) ∧ Q v H
def tC (v : V) : TE := fun _ H Q => Q v H
theorem pe_var {i : Nat} {x : Str} {pos : Pos} (hN : X.N[i]? = some x) (hv : Vis X.env.scope x) (hd : (x == ("__debug__" : Str)) = false := by decide) (hcd : (x == ("__classdict__" : Str)) = false := by decide) : PE X (.Name x pos) (tVar i) := by
  intro pins s σ H Q I h
  obtain ⟨v, e, h⟩ := h
  obtain ⟨m, hn, hl⟩ := I.loc
  obtain ⟨u, r, l⟩ := hl i x v hN e hv
  have fin : EP X pins σ Q u s := ⟨v, H, I, r, h⟩
  rcases l with ⟨hk, hm⟩ | ⟨hk, c, hc, hcell⟩
  · exact wpAny_Name (wpAny_loadName_local I.ok.kind hk hn hm fin) hd
  · rcases hk with hk | hk
    · exact wpAny_Name (wpAny_loadName_cell I.ok.kind hk hc hcell fin) hd
    · exact wpAny_Name (wpAny_loadName_free I.ok.kind hk hc hcell fin hcd) hd
theorem pe_int {i j pos} : PE X (.Constant (.int i) j pos) (tC (.int i)) := fun _ _ _ H _ I h => wpAny_Constant_int ⟨.int i, H, I.tok _, ⟨_, rfl⟩, h⟩
theorem pe_bl {b j pos} : PE X (.Constant (.bool b) j pos) (tC (.bl b)) := fun _ _ _ H _ I h => Constant_bool ⟨.bl b, H, I, rfl, h⟩
theorem pe_non {j pos} : PE X (.Constant .none j pos) (tC .non) := fun _ _ _ H _ I h => Constant_none ⟨.non, H, I, rfl, h⟩

/-- a global name of the def -/
def Gl (X : Cx) (x : Str) : Prop := X.env.kindOf x = some .globalImplicit
theorem ld_glob {E : Value → Shared → Prop} {pins : List (Addr × Obj)} {s : Shared} {σ : St} {H : Hp} {x : Str} {u : Value} {pos : Pos} {Q : Value → Shared → Prop} (I : Inv X pins σ H s) (hg : Gl X x) (hm : X.mg x = some u) (h : Q u s)
    (hd : (x == ("__debug__" : Str)) = false := by decide) : wpAny (model X.prog X.w) X.A (eval (.Name x pos) X.env) Q E s :=
  Calls.Name_function_global I.ok.kind hg (Calls.loadGlobal_global (by rw [I.ok.glob]; exact I.mod.glob.keeps I.bk) hm h) hd
theorem ld_blt {E : Value → Shared → Prop} {pins : List (Addr × Obj)} {s : Shared} {σ : St} {H : Hp} {x : Str} {u : Value} {pos : Pos} {Q : Value → Shared → Prop} (I : Inv X pins σ H s) (hg : Gl X x) (hm : X.mg x = none) (hv : bootBuiltins x = some u) (h : Q u s)
    (hn : x ≠ "__name__" := by decide) (hd : (x == ("__debug__" : Str)) = false := by decide) : wpAny (model X.prog X.w) X.A (eval (.Name x pos) X.env) Q E s := by
  obtain ⟨mb, h1, h2⟩ := I.mod.blt
  exact Calls.Name_function_global I.ok.kind hg (Calls.loadGlobal_builtin (by rw [I.ok.glob]; exact I.mod.glob.keeps I.bk) hm (by rw [I.ok.blt]; exact h1.keeps I.bk) ((h2 x hn).trans hv) h) hd
/-- a module's constant, a class, a function, as a value -/
theorem pe_glob {x : Str} {v : V} {u : Value} {pos : Pos} (hg : Gl X x) (hm : X.mg x = some u) (r : RelV v u) (hd : (x == ("__debug__" : Str)) = false := by decide) : PE X (.Name x pos) (tC v) :=
  fun _ _ _ H _ I h => ld_glob I hg hm ⟨v, H, I, r, h⟩ hd

/-! ### arithmetic -/
variable {a b : Expr} {ta tb : TE} {pos : Pos}

/-! ### comparisons -/
/-- a comparison as a value, as a test -/
def tB (t : TE) : TT := fun σ H Q => t σ H fun x H1 => ∃ c, x = .bl c ∧ Q c H1
/-- an expression whose value is a bool, as a test -/
theorem pt_val {e : Expr} {t : TE} (h : PE X e t) (he : ∀ whole, isTrue e X.env whole = (do let v ← whole; standAt e.pos; holding [v] (truthy v)) := by intro _; rfl) : PT X e (tB t) := by
  intro pins s σ H Q I hw
  refine isTrue_plain (thn (h pins s σ H _ I hw) fun v s1 ⟨x, H1, I1, r1, q1⟩ => ?_) (he _)
  obtain ⟨d, rfl, q⟩ := q1
  cases r1
  exact wpAny_truthy_bool ⟨H1, I1, q⟩

/-! ### and, or, not -/
variable {tA tB' : TT} {rest : List Expr}
def tAnd (t u : TT) : TT := fun σ H Q => t σ H fun c H1 => if c = true then u σ H1 Q else Q false H1
def tNot (t : TT) : TT := fun σ H Q => t σ H fun c H1 => Q (!c) H1
theorem pw_and1 (ha : PT X a tA) : PW X (.BoolOp .And [a] pos) tA := by
  intro wh pins s σ H Q I h
  refine isTrue_and (thn (ha pins s σ H Q I h) fun c s1 e => ?_)
  cases c with
  | true => exact isTrue_and_nil e
  | false => exact e
theorem pw_and (ha : PT X a tA) (hb : PW X (.BoolOp .And (b :: rest) pos) tB') : PW X (.BoolOp .And (a :: b :: rest) pos) (tAnd tA tB') := by
  intro wh pins s σ H Q I h
  refine isTrue_and (thn (ha pins s σ H _ I h) fun c s1 ⟨H1, I1, q1⟩ => ?_)
  cases c with
  | true => exact hb wh pins s1 σ H1 Q I1 q1
  | false => exact ⟨H1, I1, q1⟩
theorem pt_not (ha : PT X a tA) : PT X (.UnaryOp .Not a pos) (tNot tA) := by
  intro pins s σ H Q I h
  exact isTrue_not (ha pins s σ H (fun c H1 => Q (!c) H1) I h)
/-- .. as values (bools) -/
def tAndV (ta tb : TE) : TE := fun σ H Q => ta σ H fun x H1 => ∃ c, x = .bl c ∧ if c = true then tb σ H1 Q else Q (.bl false) H1
theorem pe_one {op} {t : TE} (h : PE X a t) : PE X (.BoolOp op [a] pos) t := fun pins s σ H Q I hw => BoolOp_one (h pins s σ H Q I hw)
theorem pe_and (ha : PE X a ta) (hb : PE X (.BoolOp .And (b :: rest) pos) tb) : PE X (.BoolOp .And (a :: b :: rest) pos) (tAndV ta tb) := by
  intro pins s σ H Q I h
  refine BoolOp_and (thn (ha pins s σ H _ I h) fun v s1 ⟨x, H1, I1, r1, q1⟩ => ?_)
  obtain ⟨c, rfl, q1⟩ := q1
  cases r1
  refine wpAny_truthy_bool ?_
  cases c with
  | true => exact hb pins s1 σ H1 Q I1 q1
  | false => exact ⟨.bl false, H1, I1, rfl, q1⟩
/-- a if t else b -/
def tIf (t : TT) (ta tb : TE) : TE := fun σ H Q => t σ H fun c H1 => if c = true then ta σ H1 Q else tb σ H1 Q
theorem pe_ifExp {c : Expr} (hc : PT X c tA) (ha : PE X a ta) (hb : PE X b tb) : PE X (.IfExp c a b pos) (tIf tA ta tb) := by
  intro pins s σ H Q I h
  refine wpAny_IfExp (thn (hc pins s σ H _ I h) fun d s1 ⟨H1, I1, q1⟩ => ?_)
  cases d with
  | true => exact ha pins s1 σ H1 Q I1 q1
  | false => exact hb pins s1 σ H1 Q I1 q1
end
end L2

namespace L2
open PySem PySem.Spec PyProof.Rows

/-! ### a list, a tuple that is read: tracked, frozen, or an object of the module -/
def SqL (K : PySem.W.Frag) (H : Hp) (a : Addr) (xs : List V) : Prop :=
  Rd H a (.lst xs) ∨
    ∃ (o : Obj) (its : Array Value) (n : Nat), K.lookup a = some o ∧ o.cls = .type "list" ∧ o.dict = none ∧ o.data = .seq its n ∧ its.size ≤ sizeLine ∧ Vals xs its.toList
def SqT (K : PySem.W.Frag) (H : Hp) (a : Addr) (xs : List V) : Prop :=
  Rd H a (.tup xs) ∨
    ∃ (o : Obj) (its : Array Value) (n : Nat), K.lookup a = some o ∧ o.cls = .type "tuple" ∧ o.data = .seq its n ∧ its.size ≤ sizeLine ∧ Vals xs its.toList
def absV : Value → Option V
  | .none => some .non
  | .bool b => some (.bl b)
  | .int i _ => some (.int i)
  | .str x _ => some (.str x)
  | .bytes b _ => some (.byt b)
  | .float b _ => some (.flt b)
  | .ref a => some (.ref a)
  | .type n => some (.ty n)
  | _ => none
theorem RelV.abs {x : V} {u : Value} (r : RelV x u) : absV u = some x := by
  cases x with
  | non => cases r; rfl
  | bl _ => cases r; rfl
  | int _ => obtain ⟨t, rfl⟩ := r; rfl
  | str _ => obtain ⟨t, rfl⟩ := r; rfl
  | byt _ => obtain ⟨t, rfl⟩ := r; rfl
  | flt _ => obtain ⟨t, rfl⟩ := r; rfl
  | ref _ => cases r; rfl
  | ty _ => cases r; rfl
theorem RelV.inj {x y : V} {u : Value} (r : RelV x u) (q : RelV y u) : x = y := Option.some.inj (r.abs.symm.trans q.abs)
theorem Vals.inj : ∀ {xs ys : List V} {us : List Value}, Vals xs us → Vals ys us → xs = ys
  | _, _, _, .nil, .nil => rfl
  | _, _, _, .cons r t, .cons r' t' => by rw [r.inj r', Vals.inj t t']
section
variable {X : Cx} {pins : List (Addr × Obj)} {σ : St} {H : Hp} {s : Shared} {a : Addr} {xs ys : List V}
theorem SqL.of {K : PySem.W.Frag} (h : H a = some (.lst xs)) : SqL K H a xs := .inl (.inl h)
theorem SqT.of {K : PySem.W.Frag} (h : H a = some (.tup xs)) : SqT K H a xs := .inl (.inl h)
theorem Inv.list (I : Inv X pins σ H s) (h : SqL X.K H a xs) : ∃ its : List Value, Vals xs its ∧ PlainL s.heap a its.toArray ∧ xs.length ≤ sizeLine := by
  rcases h with h | ⟨o, its, n, hk, hc, hd, hs, hz, r⟩
  · obtain ⟨z, its, n, r, e⟩ := h.ok I.hok
    exact ⟨its, r, ⟨_, n, e, rfl, rfl, rfl⟩, z⟩
  · refine ⟨its.toList, r, ⟨o, n, I.kIn a o hk, hc, hd, by simpa using hs⟩, ?_⟩
    have e := r.length
    simp only [Array.length_toList] at e
    omega
theorem Inv.tuple (I : Inv X pins σ H s) (h : SqT X.K H a xs) : ∃ its : List Value, Vals xs its ∧ IsTup s.heap a its.toArray ∧ xs.length ≤ sizeLine := by
  rcases h with h | ⟨o, its, n, hk, hc, hs, hz, r⟩
  · obtain ⟨z, its, r, p⟩ := h.ok I.hok
    exact ⟨its, r, p, z⟩
  · refine ⟨its.toList, r, ⟨o, I.kIn a o hk, hc, n, by simpa using hs⟩, ?_⟩
    have e := r.length
    simp only [Array.length_toList] at e
    omega
theorem Inv.list_inj (I : Inv X pins σ H s) (h : SqL X.K H a xs) (h' : SqL X.K H a ys) : xs = ys := by
  obtain ⟨its, r, ⟨o, n, e, _, _, d⟩, _⟩ := I.list h
  obtain ⟨its', r', ⟨o', n', e', _, _, d'⟩, _⟩ := I.list h'
  rw [e] at e'; cases e'
  rw [d] at d'
  injection d' with d1 _
  have : its = its' := by simpa using congrArg Array.toList d1
  subst this
  exact r.inj r'
theorem Inv.tuple_inj (I : Inv X pins σ H s) (h : SqT X.K H a xs) (h' : SqT X.K H a ys) : xs = ys := by
  obtain ⟨its, r, ⟨o, e, _, n, d⟩, _⟩ := I.tuple h
  obtain ⟨its', r', ⟨o', e', _, n', d'⟩, _⟩ := I.tuple h'
  rw [e] at e'; cases e'
  rw [d] at d'
  injection d' with d1 _
  have : its = its' := by simpa using congrArg Array.toList d1
  subst this
  exact r.inj r'
end

/-! ### another wish about exceptions -/
abbrev Cx.wish (X : Cx) (E : Value → Shared → Prop) : Cx := { X with xe := E }
/-- no exception leaves -/
abbrev Cx.nox (X : Cx) : Cx := X.wish fun _ _ => False
theorem Cx.Ok.wish {X : Cx} (ok : X.Ok) (E : Value → Shared → Prop) : (X.wish E).Ok :=
  ⟨ok.mod, ok.kind, ok.glob, ok.blt, ok.above, ok.inj, ok.has, ok.cab, ok.hd, ok.frames, ok.stk, ok.exf, ok.bs, ok.bsz, ok.noex, ok.exfs, ok.funs, ok.frf⟩
theorem Cx.Ok.unwish {X : Cx} {E : Value → Shared → Prop} (ok : (X.wish E).Ok) : X.Ok :=
  ⟨ok.mod, ok.kind, ok.glob, ok.blt, ok.above, ok.inj, ok.has, ok.cab, ok.hd, ok.frames, ok.stk, ok.exf, ok.bs, ok.bsz, ok.noex, ok.exfs, ok.funs, ok.frf⟩
section
variable {X : Cx} {pins : List (Addr × Obj)} {σ : St} {H : Hp} {s : Shared} {E : Value → Shared → Prop}
theorem Inv.wish (I : Inv X pins σ H s) (E : Value → Shared → Prop) : Inv (X.wish E) pins σ H s := ⟨I.ok.wish E, I.os, I.bare, I.base, I.loc, I.cell, I.free, I.freeC, I.pin, I.hok, I.len⟩
theorem Inv.unwish (I : Inv (X.wish E) pins σ H s) : Inv X pins σ H s := ⟨I.ok.unwish, I.os, I.bare, I.base, I.loc, I.cell, I.free, I.freeC, I.pin, I.hok, I.len⟩
theorem SP.unwish {D : Ends} {f : Flow} {s' : Shared} (h : SP (X.wish E) pins D f s') : SP X pins D f s' := by
  cases f with
  | next => obtain ⟨σ', H', I, q⟩ := h; exact ⟨σ', H', I.unwish, q⟩
  | brk => obtain ⟨σ', H', I, q⟩ := h; exact ⟨σ', H', I.unwish, q⟩
  | cont => obtain ⟨σ', H', I, q⟩ := h; exact ⟨σ', H', I.unwish, q⟩
  | ret u => obtain ⟨v, σ', H', I, r, q⟩ := h; exact ⟨v, σ', H', I.unwish, r, q⟩
theorem PSs.nox {st : List Stmt} {t : TS} (h : PSs X.nox st t) : PSs X st t := fun pins s σ H D I hw =>
  wpAny_mono (h pins s σ H D (I.wish _) hw) (fun _ _ q => q.unwish) fun _ _ z => False.elim z
end

/-! ### blocks and small statements -/
section
variable {X : Cx} {st : Stmt} {rest : List Stmt} {t u : TS} {e : Expr} {te : TE} {pos : Pos}
def tNext : TS := fun D σ H => D.nx σ H
def tSeq (t u : TS) : TS := fun D σ H => t { D with nx := u D } σ H
theorem pss_nil : PSs X [] tNext := fun _ _ σ H _ I h => wpAny_execs_nil ⟨σ, H, I, h⟩
theorem pss_cons (h1 : PS X st t) (h2 : PSs X rest u) : PSs X (st :: rest) (tSeq t u) := by
  intro pins s σ H D I h
  refine wpAny_execs_cons (thn (h1 pins s σ H { D with nx := u D } I h) fun f s1 q => ?_)
  cases f with
  | next =>
    obtain ⟨σ', H', I', q⟩ := q
    exact h2 pins s1 σ' H' D I' q
  | ret v => exact q
  | brk => exact q
  | cont => exact q
theorem pss_one (h1 : PS X st t) : PSs X [st] t := by
  intro pins s σ H D I h
  refine wpAny_execs_cons (thn (h1 pins s σ H D I h) fun f s1 q => ?_)
  cases f with
  | next => exact wpAny_execs_nil q
  | ret v => exact q
  | brk => exact q
  | cont => exact q
/-- in a def's body nothing is shown -/
theorem Inv.quiet {pins : List (Addr × Obj)} {σ : St} {H : Hp} {s : Shared} (I : Inv X pins σ H s) : interactive X.env = false := by simp [interactive, I.ok.kind]
/-- an expression whose value is dropped -/
def tDrop (te : TE) : TS := fun D σ H => te σ H fun _ H1 => D.nx σ H1
theorem ps_expr (he : PE X e te) (hs : swapsWith e none pos.line X.env = pure false := by rfl) : PS X (.Expr e pos) (tDrop te) := by
  intro pins s σ H D I h
  exact wpAny_Expr_any (thn (he pins s σ H _ I h) fun v s1 ⟨x, H1, I1, r1, q1⟩ => ⟨σ, H1, I1, q1⟩) I.quiet hs
def tRet (te : TE) : TS := fun D σ H => te σ H D.rt
theorem ps_ret (he : PE X e te) : PS X (.Return (some e) pos) (tRet te) := by
  intro pins s σ H D I h
  exact wpAny_Return_some (thn (he pins s σ H _ I h) fun v s1 ⟨x, H1, I1, r1, q1⟩ => ⟨x, σ, H1, I1, r1, q1⟩)
def tRetN : TS := fun D _ H => D.rt .non H
theorem ps_retN : PS X (.Return none pos) tRetN := fun _ _ σ H _ I h => wpAny_Return_none ⟨.non, σ, H, I, rfl, h⟩
def tIfS (c : TT) (t u : TS) : TS := fun D σ H => c σ H fun b H1 => if b = true then t D σ H1 else u D σ H1
theorem ps_if {c : Expr} {a b : List Stmt} {tc : TT} (hc : PT X c tc) (ha : PSs X a t) (hb : PSs X b u) : PS X (.If c a b pos) (tIfS tc t u) := by
  intro pins s σ H D I h
  refine wpAny_If (thn (hc pins s σ H _ I h) fun d s1 ⟨H1, I1, q1⟩ => ?_)
  cases d with
  | true => exact ha pins s1 σ H1 D I1 q1
  | false => exact hb pins s1 σ H1 D I1 q1
end

/-! ### targets -/
abbrev TG := V → St → Hp → (St → Hp → Prop) → Prop
def PG (X : Cx) (target : Expr) (t : TG) : Prop :=
  ∀ (pins : List (Addr × Obj)) (s : Shared) (σ : St) (H : Hp) (v : V) (u : Value) (Q : St → Hp → Prop), Inv X pins σ H s → RelV v u → t v σ H Q →
    wpAny (model X.prog X.w) X.A (assign target X.env u) (fun _ s' => ∃ σ' H', Inv X pins σ' H' s' ∧ Q σ' H') X.xe s
section
variable {X : Cx} {pos : Pos}
def gName (i : Nat) : TG := fun v σ H Q => Q (σ.set i (some v)) H
theorem pg_name {i : Nat} {x : Str} (hN : X.N.Nodup) (hi : X.N[i]? = some x) (hx : Loc X.env.scope x) (hf : X.fn x = true ∨ X.env.scope.names.lookup x = some .local := by first | exact .inl rfl | exact .inr rfl | assumption) : PG X (.Name x pos) (gName i) := by
  intro pins s σ H v u Q I r h
  exact wpAny_assign_Name (store_ok I hN hi hx r (fun s' I' => ⟨_, H, I', h⟩) hf)
/-- target = value -/
def tAsg (te : TE) (g : TG) : TS := fun D σ H => te σ H fun x H1 => g x σ H1 D.nx
/-- name = value -/
theorem ps_set {i : Nat} {x : Str} {e : Expr} {te : TE} {pos' : Pos} (hN : X.N.Nodup) (hi : X.N[i]? = some x) (hx : Loc X.env.scope x) (he : PE X e te) (hs : swapsWith e (some (.Name x pos')) pos.line X.env = pure false := by rfl) (hf : X.fn x = true ∨ X.env.scope.names.lookup x = some .local := by first | exact .inl rfl | exact .inr rfl | assumption) :
    PS X (.Assign [.Name x pos'] e pos) (tAsg te (gName i)) := by
  intro pins s σ H D I h
  refine wpAny_Assign_Name (thn (he pins s σ H _ I h) fun v s1 ⟨y, H1, I1, r1, q1⟩ => ?_) hs
  exact store_ok I1 hN hi hx r1 (fun s2 I2 => ⟨_, H1, I2, q1⟩) hf
end

/-! ### while -/
section
variable {X : Cx} {pos : Pos}
/-- the invariant W with its measure -/
def tWhile (c : TT) (tb : TS) : TS := fun D σ H => ∃ W : Nat → St → Hp → Prop, (∃ m, W m σ H) ∧ ∀ m σ H, W m σ H →
  c σ H fun b H1 => if b = true then ∃ N : St → Hp → Prop, (∀ σ' H', N σ' H' → ∃ m', m' < m ∧ W m' σ' H') ∧ tb { D with nx := N, ct := N, bk := D.nx } σ H1 else D.nx σ H1
theorem ps_while {c : Expr} {body : List Stmt} {tc : TT} {tb : TS} (hp : PassesOwn (model X.prog X.w) X.A X.env X.xe) (hc : PT X c tc) (hb : PSs X body tb) : PS X (.While c body [] pos) (tWhile tc tb) := by
  intro pins s σ H D I h
  obtain ⟨W, ⟨m0, w0⟩, turn⟩ := h
  refine wpAny_While (codeAny_whileLoop (fun n s' => ∃ σ' H', Inv X pins σ' H' s' ∧ W n σ' H') ?_ m0 ⟨σ, H, I, w0⟩)
  rintro n s1 ⟨σ1, H1, I1, w1⟩
  refine wpAny_passesOwn hp (thn (hc pins s1 σ1 H1 _ I1 (turn n σ1 H1 w1)) fun b s2 ⟨H2, I2, q2⟩ => ?_)
  cases b with
  | true =>
    obtain ⟨N, hN, q2⟩ := q2
    rw [if_pos rfl]
    refine wpAny_passesOwn hp (thn (hb pins s2 σ1 H2 _ I2 q2) fun f s3 q3 => ?_)
    cases f with
    | next =>
      obtain ⟨σ3, H3, I3, n3⟩ := q3
      obtain ⟨m', hm, w3⟩ := hN σ3 H3 n3
      exact ⟨m', hm, σ3, H3, I3, w3⟩
    | cont =>
      obtain ⟨σ3, H3, I3, n3⟩ := q3
      obtain ⟨m', hm, w3⟩ := hN σ3 H3 n3
      exact ⟨m', hm, σ3, H3, I3, w3⟩
    | brk => exact q3
    | ret v => exact q3
  | false =>
    rw [if_neg Bool.false_ne_true]
    exact wpAny_execs_nil ⟨σ1, H2, I2, q2⟩
end

/-! ### what a loop or a comprehension walks -/
/-- at turn i: it yields x (the heap may grow), or it stops -/
structure It where
  go : Nat → Hp → Prop
  yld : Nat → Hp → V → Hp → Prop
  stop : Nat → Hp → Prop
/-- the iterator's own objects may turn: they are not the frame's, not pinned, younger than the entry (or a comprehension's own) -/
def FpOk (X : Cx) (pins : List (Addr × Obj)) (H : Hp) (b : Addr) : Prop :=
  H b = none ∧ b ≠ X.env.locals ∧ b ∉ X.fs ∧ (b ∈ X.ex ∨ X.s_0.heap.objs.size ≤ b) ∧ (∀ x c, X.env.cells.lookup x = some c → c ≠ b) ∧ ∀ p ∈ X.pn ++ pins, p.1 ≠ b
theorem Inv.fpOk {X : Cx} {pins : List (Addr × Obj)} {σ : St} {H H' : Hp} {s : Shared} {b : Addr} (I : Inv X pins σ H s) (hb : s.heap.objs.size ≤ b) (hn : H' b = none) : FpOk X pins H' b := by
  refine ⟨hn, Nat.ne_of_gt (Nat.lt_of_lt_of_le I.lt hb), I.nofs hb, .inr (Nat.le_trans I.sz hb), fun x c e z => ?_, fun p hp z => ?_⟩
  · obtain ⟨v, q⟩ := I.cell x c e
    exact absurd (Nat.lt_of_lt_of_le q.lt (by rw [z]; exact hb)) (Nat.lt_irrefl _)
  · exact absurd (Nat.lt_of_lt_of_le (Heap.lt_size (I.pin p hp).1) (by rw [z]; exact hb)) (Nat.lt_irrefl _)
structure Turn (P : Program) (w : World) (K : PySem.W.Frag) (tg : Expr) (J : It) (fp : List Addr) (it : Addr) (tn : Nat → Heap → Prop) : Prop where
  mem : it ∈ fp
  obj : ∀ i h, tn i h → ∀ b ∈ fp, ∃ o, h.get? b = some o ∧ ∀ v, o.data ≠ .cell v
  keep : ∀ i h h', tn i h → (∀ b ∈ fp, ∀ o, h.get? b = some o → h'.get? b = some o) → tn i h'
  item : ∀ (X : Cx), X.prog = P → X.w = w → X.K = K → X.calm = true → ∀ (i : Nat) (pins : List (Addr × Obj)) (s : Shared) (σ : St) (H : Hp) (E : Value → Shared → Prop), Inv X pins σ H s → (∀ b ∈ fp, FpOk X pins H b) → tn i s.heap → J.go i H →
    wpAny (model P w) X.A (pyNext (.ref it)) (fun r s1 => ∃ u, r = some u ∧
      wpAny (model P w) X.A (letOwnedTupleGo tg (.ref it) u) (fun _ s2 => ∃ x H', Inv X pins σ H' s2 ∧ RelV x u ∧ J.yld i H x H' ∧ tn (i + 1) s2.heap ∧ ∀ b ∈ fp, H' b = none) E s1) E s
  done : ∀ (X : Cx), X.prog = P → X.w = w → X.K = K → X.calm = true → ∀ (i : Nat) (pins : List (Addr × Obj)) (s : Shared) (σ : St) (H : Hp) (E : Value → Shared → Prop), Inv X pins σ H s → (∀ b ∈ fp, FpOk X pins H b) → tn i s.heap → J.stop i H →
    wpAny (model P w) X.A (pyNext (.ref it)) (fun r s1 => r = none ∧ Inv X pins σ H s1) E s
  self : ∀ (A : Around) (i : Nat) (s : Shared) (Q : Value → Shared → Prop) (E : Value → Shared → Prop), tn i s.heap → Q (.ref it) s → wpAny (model P w) A (pyIter (.ref it)) Q E s
abbrev TI := St → Hp → (It → Hp → Prop) → Prop
/-- an iterator has come -/
def PIE (X : Cx) (pins : List (Addr × Obj)) (σ : St) (tg : Expr) (R : It → Hp → Prop) (itv : Value) (s2 : Shared) : Prop :=
  ∃ (it : Addr) (fp : List Addr) (tn : Nat → Heap → Prop) (J : It) (H' : Hp), itv = .ref it ∧ Inv X pins σ H' s2 ∧ Turn X.prog X.w X.K tg J fp it tn ∧ tn 0 s2.heap ∧ (∀ b ∈ fp, FpOk X pins H' b) ∧ R J H'
def PI (X : Cx) (tg iter : Expr) (wi : TI) : Prop :=
  ∀ (pins : List (Addr × Obj)) (s : Shared) (σ : St) (H : Hp) (R : It → Hp → Prop), Inv X pins σ H s → wi σ H R →
    wpAny (model X.prog X.w) X.A (eval iter X.env) (fun v s1 => wpAny (model X.prog X.w) X.A (pyIter v) (PIE X pins σ tg R) X.xe s1) X.xe s

/-- the step ahead of the store is nothing for an iterator that keeps no tuple -/
theorem go_of {M : Model} {A : Around} {E : Value → Shared → Prop} {s : Shared} {tg : Expr} {it : Addr} {u : Value} {o : Obj} {n : String} {vs : Array Value} {Q : Unit → Shared → Prop} (ho : s.heap.get? it = some o) (hc : o.cls = .type n) (hd : o.data = .fields vs)
    (hn : ["enumerate", "zip", "dict_itemiterator", "dict_reverseitemiterator", "odict_iterator", "itertools.zip_longest", "itertools.pairwise"].contains n = false) (hQ : Q () s) : wpAny M A (letOwnedTupleGo tg (.ref it) u) Q E s := by
  unfold letOwnedTupleGo
  cases tg <;> first
    | exact wpAny_pure hQ
    | (cases u <;> first
        | exact wpAny_pure hQ
        | (refine wpAny_bind (wpAny_load ho ?_)
           rw [hc, hd]
           show wpAny M A (if (["enumerate", "zip", "dict_itemiterator", "dict_reverseitemiterator", "odict_iterator", "itertools.zip_longest", "itertools.pairwise"].contains n && vs[0]? == some (rawInt _)) = true then _ else _) Q E s
           rw [if_neg (by intro h; rw [hn, Bool.false_and] at h; cases h)]
           exact wpAny_pure hQ))

/-- the list at a, as it stands at each turn (a loop may append to it) -/
def Itl (K : PySem.W.Frag) (a : Addr) : It :=
  ⟨fun i H => ∃ xs x, SqL K H a xs ∧ xs[i]? = some x, fun i H x H' => H' = H ∧ ∀ xs, SqL K H a xs → xs[i]? = some x, fun i H => ∃ xs, SqL K H a xs ∧ xs.length ≤ i⟩
def Itt (K : PySem.W.Frag) (a : Addr) : It :=
  ⟨fun i H => ∃ xs x, SqT K H a xs ∧ xs[i]? = some x, fun i H x H' => H' = H ∧ ∀ xs, SqT K H a xs → xs[i]? = some x, fun i H => ∃ xs, SqT K H a xs ∧ xs.length ≤ i⟩
/-- lo, lo + 1, .. (n of them) -/
def Itr (lo : Int) (n : Nat) : It := ⟨fun i _ => i < n, fun i H x H' => H' = H ∧ x = .int (lo + i), fun i _ => n ≤ i⟩
theorem turn_list {P : Program} {w : World} {K : PySem.W.Frag} {tg : Expr} (a it : Addr) : Turn P w K tg (Itl K a) [it] it (fun i h => h.IsListIter it a i) where
  mem := by simp
  obj := fun i h st b hb => by
    have e : b = it := by simpa using hb
    subst e
    obtain ⟨o, e, c, d⟩ := st
    exact ⟨o, e, fun v z => by rw [d] at z; cases z⟩
  keep := fun i h h' st k => st.at fun o e => k it (by simp) o e
  item := by
    intro X hP hw hK hc i pins s σ H E I hf st hg
    subst hP hw hK
    obtain ⟨xs, x, hq, hx⟩ := hg
    obtain ⟨its, rv, p, hz⟩ := I.list hq
    obtain ⟨u, hu, ru⟩ := rv.get hx
    obtain ⟨f0, f1, f2, f3, f4, f5⟩ := hf it (by simp)
    refine wpAny_pyNext_list_item st p.isList (x := u) (by simpa using hu) fun h' st' sb => ?_
    have I1 : Inv X pins σ H { s with heap := h' } := I.turned (t' := s.toks) (fun b o hb e => (sb.2 b hb).trans e) f0 f1 f3 f4 f5
    obtain ⟨o, e, c, d⟩ := id st'
    exact ⟨u, rfl, go_of (s := { s with heap := h' }) e c d (by decide) ⟨x, H, I1, ru, ⟨rfl, fun ys hy => by rw [I.list_inj hy hq]; exact hx⟩, st', fun b hb => (hf b hb).1⟩⟩
  done := by
    intro X hP hw hK hc i pins s σ H E I hf st hg
    subst hP hw hK
    obtain ⟨xs, hq, hx⟩ := hg
    obtain ⟨its, rv, p, hz⟩ := I.list hq
    obtain ⟨f0, f1, f2, f3, f4, f5⟩ := hf it (by simp)
    have hl := rv.length
    exact wpAny_pyNext_list_end (I.ok.hd hc) st p.isList (by simp; omega) fun h' eb => ⟨rfl, I.turned (t' := s.toks) (fun b o hb e => eb b o hb e) f0 f1 f3 f4 f5⟩
  self := fun _ _ _ _ _ st h => wpAny_pyIter_listiter st h
theorem turn_tuple {P : Program} {w : World} {K : PySem.W.Frag} {tg : Expr} (a it : Addr) : Turn P w K tg (Itt K a) [it] it (fun i h => h.IsTupleIter it a i) where
  mem := by simp
  obj := fun i h st b hb => by
    have e : b = it := by simpa using hb
    subst e
    obtain ⟨o, e, c, d⟩ := st
    exact ⟨o, e, fun v z => by rw [d] at z; cases z⟩
  keep := fun i h h' st k => st.at fun o e => k it (by simp) o e
  item := by
    intro X hP hw hK hc i pins s σ H E I hf st hg
    subst hP hw hK
    obtain ⟨xs, x, hq, hx⟩ := hg
    obtain ⟨its, rv, p, hz⟩ := I.tuple hq
    obtain ⟨u, hu, ru⟩ := rv.get hx
    obtain ⟨f0, f1, f2, f3, f4, f5⟩ := hf it (by simp)
    refine wpAny_pyNext_tuple_item st (show s.heap.IsTuple a its.toArray from p) (x := u) (by simpa using hu) fun h' st' sb => ?_
    have I1 : Inv X pins σ H { s with heap := h' } := I.turned (t' := s.toks) (fun b o hb e => (sb.2 b hb).trans e) f0 f1 f3 f4 f5
    obtain ⟨o, e, c, d⟩ := id st'
    exact ⟨u, rfl, go_of (s := { s with heap := h' }) e c d (by decide) ⟨x, H, I1, ru, ⟨rfl, fun ys hy => by rw [I.tuple_inj hy hq]; exact hx⟩, st', fun b hb => (hf b hb).1⟩⟩
  done := by
    intro X hP hw hK hc i pins s σ H E I hf st hg
    subst hP hw hK
    obtain ⟨xs, hq, hx⟩ := hg
    obtain ⟨its, rv, p, hz⟩ := I.tuple hq
    obtain ⟨f0, f1, f2, f3, f4, f5⟩ := hf it (by simp)
    have hl := rv.length
    exact wpAny_pyNext_tuple_end (I.ok.hd hc) st (show s.heap.IsTuple a its.toArray from p) (by simp; omega) fun h' eb => ⟨rfl, I.turned (t' := s.toks) (fun b o hb e => eb b o hb e) f0 f1 f3 f4 f5⟩
  self := fun _ _ _ _ _ st h => wpAny_pyIter_tupleiter st h
theorem turn_range {P : Program} {w : World} {K : PySem.W.Frag} {tg : Expr} (it : Addr) (lo : Int) (n : Nat) : Turn P w K tg (Itr lo n) [it] it (fun i h => IsRangeIter h it (lo + (i : Nat) * 1) ((n : Int) - (i : Nat)) 1) where
  mem := by simp
  obj := fun i h st b hb => by
    have e : b = it := by simpa using hb
    subst e
    exact ⟨_, st, fun v z => by
      have z' : Data.fields _ = Data.cell v := z
      cases z'⟩
  keep := fun i h h' st k => k it (by simp) _ st
  item := by
    intro X hP hw hK hc i pins s σ H E I hf st hg
    subst hP hw hK
    obtain ⟨f0, f1, f2, f3, f4, f5⟩ := hf it (by simp)
    have W := Walks.range (prog := X.prog) (w := X.w) (I.ok.hd hc) it lo 1 n
    refine W.item i s _ _ hg st fun v h' tk hv st' kk => ?_
    obtain ⟨t, rfl⟩ := hv
    have I1 : Inv X pins σ H { s with heap := h', toks := tk } := I.turned (fun b o hb e => kk b o (by simpa using hb) e) f0 f1 f3 f4 f5
    refine ⟨_, rfl, go_of (s := { s with heap := h', toks := tk }) (n := "range_iterator") st' rfl rfl (by decide) ⟨.int (lo + i), H, I1, ⟨t, ?_⟩, ⟨rfl, rfl⟩, st', fun b hb => (hf b hb).1⟩⟩
    rw [Int.mul_one]
  done := by
    intro X hP hw hK hc i pins s σ H E I hf st hg
    subst hP hw hK
    obtain ⟨f0, f1, f2, f3, f4, f5⟩ := hf it (by simp)
    exact wpAny_pyNext_range_end (I.ok.hd hc) st (by have : n ≤ i := hg; omega) fun h' eb => ⟨rfl, I.turned (t' := s.toks) (fun b o hb e => eb b o hb e) f0 f1 f3 f4 f5⟩
  self := fun _ _ _ _ _ st h => wpAny_pyIter_rangeiter st h
end L2

namespace L2
open PySem PySem.Spec PyProof.Rows
section
variable {X : Cx} {tg : Expr}
def iList (K : PySem.W.Frag) (tl : TE) : TI := fun σ H R => tl σ H fun x H1 => ∃ a, x = .ref a ∧ (∃ xs, SqL K H1 a xs) ∧ R (Itl K a) H1
def iTup (K : PySem.W.Frag) (tl : TE) : TI := fun σ H R => tl σ H fun x H1 => ∃ a, x = .ref a ∧ (∃ xs, SqT K H1 a xs) ∧ R (Itt K a) H1
theorem pi_list {l : Expr} {tl : TE} (hl : PE X l tl) : PI X tg l (iList X.K tl) := by
  intro pins s σ H R I h
  refine thn (hl pins s σ H _ I h) fun v s1 ⟨x, H1, I1, r1, q1⟩ => ?_
  obtain ⟨a, e, ⟨xs, hq⟩, q⟩ := q1
  subst e
  cases r1
  obtain ⟨its, rv, p, hz⟩ := I1.list hq
  refine wpAny_pyIter_list p.isList ?_
  refine ⟨s1.heap.objs.size, [s1.heap.objs.size], _, _, H1, rfl, I1.kept (t' := s1.toks) fun b o e => Heap.get?_push_of_some _ e, turn_list a _, ⟨_, Heap.get?_push_size _ rfl, rfl, rfl⟩, fun b hb => ?_, q⟩
  have e : b = s1.heap.objs.size := by simpa using hb
  subst e
  exact I1.fpOk (Nat.le_refl _) (I1.hok.fresh (Nat.le_refl _))
theorem pi_tup {l : Expr} {tl : TE} (hl : PE X l tl) : PI X tg l (iTup X.K tl) := by
  intro pins s σ H R I h
  refine thn (hl pins s σ H _ I h) fun v s1 ⟨x, H1, I1, r1, q1⟩ => ?_
  obtain ⟨a, e, ⟨xs, hq⟩, q⟩ := q1
  subst e
  cases r1
  obtain ⟨its, rv, p, hz⟩ := I1.tuple hq
  refine wpAny_pyIter_tuple (show s1.heap.IsTuple a its.toArray from p) ?_
  refine ⟨s1.heap.objs.size, [s1.heap.objs.size], _, _, H1, rfl, I1.kept (t' := s1.toks) fun b o e => Heap.get?_push_of_some _ e, turn_tuple a _, ⟨_, Heap.get?_push_size _ rfl, rfl, rfl⟩, fun b hb => ?_, q⟩
  have e : b = s1.heap.objs.size := by simpa using hb
  subst e
  exact I1.fpOk (Nat.le_refl _) (I1.hok.fresh (Nat.le_refl _))
/-- a range object just made, walked -/
theorem range_it {pins : List (Addr × Obj)} {σ : St} {H : Hp} {s : Shared} {R : It → Hp → Prop} {E : Value → Shared → Prop} {lo hi : Int} {t u v : Tok} {tk : Nat} (I : Inv X pins σ H s) (h1 : -(2 ^ 62) ≤ lo) (h2 : lo < 2 ^ 62) (h3 : -(2 ^ 62) ≤ hi) (h4 : hi < 2 ^ 62)
    (q : R (Itr lo (hi - lo).toNat) H) : wpAny (model X.prog X.w) X.A (pyIter (.ref s.heap.objs.size)) (PIE X pins σ tg R) E { s with heap := s.heap.push { cls := .type "range", data := .fields #[.int lo t, .int hi u, .int 1 v] }, toks := tk } := by
  refine wpAny_pyIter_range (IsRange.new ..) (small_one h1 h2 h3 h4) ?_
  have I1 : Inv X pins σ H { s with heap := s.heap.push { cls := .type "range", data := .fields #[.int lo t, .int hi u, .int 1 v] }, toks := tk } := I.kept fun b o e => Heap.get?_push_of_some _ e
  refine ⟨(s.heap.push { cls := .type "range", data := .fields #[.int lo t, .int hi u, .int 1 v] }).objs.size, [(s.heap.push { cls := .type "range", data := .fields #[.int lo t, .int hi u, .int 1 v] }).objs.size], _, _, H, rfl,
    I1.kept (t' := tk) fun b o e => Heap.get?_push_of_some _ e, turn_range _ lo (hi - lo).toNat, ?_, fun b hb => ?_, q⟩
  · have e1 : lo + ((0 : Nat) : Int) * 1 = lo := by simp
    have e2 : (((hi - lo).toNat : Nat) : Int) - ((0 : Nat) : Int) = Builtin.Range.rangeSize lo hi 1 := by rw [rangeSize_one]; split <;> omega
    show IsRangeIter _ _ (lo + ((0 : Nat) : Int) * 1) ((((hi - lo).toNat : Nat) : Int) - ((0 : Nat) : Int)) 1
    rw [e1, e2]
    exact Heap.get?_push_size _ rfl
  · have e : b = (s.heap.push { cls := .type "range", data := .fields #[.int lo t, .int hi u, .int 1 v] }).objs.size := by simpa using hb
    subst e
    exact I1.fpOk (Nat.le_refl _) (I1.hok.fresh (Nat.le_refl _))
def iRng1 (ta : TA) : TI := fun σ H R => ta σ H fun vs H1 => ∃ j : Int, vs = [.int j] ∧ -(2 ^ 62) ≤ j ∧ j < 2 ^ 62 ∧ R (Itr 0 j.toNat) H1
theorem pi_range1 {a : Expr} {ta : TA} {p pos : Pos} (hg : Gl X "range") (hm : X.mg "range" = none) (ha : PA X [a] ta) (hs : starEach [a] X.env = [(false, eval a X.env)] := by rfl) : PI X tg (.Call (.Name "range" p) [a] [] pos) (iRng1 ta) := by
  intro pins s σ H R I h
  refine Call_ (ld_blt I hg hm boot_range (PyProof.Rows.callWith_type1 (thn (ha pos pins s σ H _ I h) fun us s1 ⟨vs, H1, I1, r1, q1⟩ => ?_) hs rfl))
  obtain ⟨j, e, q1, q2, q⟩ := q1
  subst e
  cases r1 with
  | cons r rr =>
    cases rr
    obtain ⟨t, rfl⟩ := r
    exact call_range_1 (range_it I1 (by omega) (by omega) q1 q2 (by simpa using q))

/-! ### for -/
/-- W: the invariant by the turn and a measure; N: what the body is to reach -/
def tFor (wi : TI) (g : TG) (tb : TS) : TS := fun D σ H => wi σ H fun J H1 => ∃ W : Nat → Nat → St → Hp → Prop, (∃ m, W 0 m σ H1) ∧ ∀ i m σ H, W i m σ H →
  (J.stop i H ∧ D.nx σ H) ∨ (J.go i H ∧ ∃ N : St → Hp → Prop, (∀ σ' H', N σ' H' → ∃ m', m' < m ∧ W (i + 1) m' σ' H') ∧ ∀ x H', J.yld i H x H' → g x σ H' fun σ2 H2 => tb { D with nx := N, ct := N, bk := D.nx } σ2 H2)
/-- the records at fp as they stand -/
def pinsAt (fp : List Addr) (h : Heap) : List (Addr × Obj) := fp.filterMap fun b => (h.get? b).map fun o => (b, o)
theorem mem_pinsAt {fp : List Addr} {h : Heap} {b : Addr} {o : Obj} (hb : b ∈ fp) (e : h.get? b = some o) : (b, o) ∈ pinsAt fp h := List.mem_filterMap.mpr ⟨b, hb, by rw [e]; rfl⟩
theorem of_pinsAt {fp : List Addr} {h : Heap} {p : Addr × Obj} (hp : p ∈ pinsAt fp h) : p.1 ∈ fp ∧ h.get? p.1 = some p.2 := by
  obtain ⟨b, hb, e⟩ := List.mem_filterMap.mp hp
  cases q : h.get? b with
  | none => rw [q] at e; cases e
  | some o =>
    rw [q] at e
    have e' : (b, o) = p := Option.some.inj e
    subst e'
    exact ⟨hb, q⟩
theorem Inv.pinned {pins : List (Addr × Obj)} {σ : St} {H : Hp} {s : Shared} {fp : List Addr} (I : Inv X pins σ H s) (hf : ∀ b ∈ fp, FpOk X pins H b) (ho : ∀ b ∈ fp, ∃ o, s.heap.get? b = some o ∧ ∀ v, o.data ≠ .cell v) : Inv X (pins ++ pinsAt fp s.heap) σ H s :=
  I.pins_of fun p hp => (List.mem_append.mp hp).elim (fun z => I.pin p (List.mem_append_right _ z)) fun z => by
    obtain ⟨hb, e⟩ := of_pinsAt z
    obtain ⟨f0, f1, f2, _⟩ := hf p.1 hb
    obtain ⟨o, e', d⟩ := ho p.1 hb
    rw [e] at e'; cases e'
    exact ⟨e, f0, f1, f2, d⟩
theorem Inv.unpinned {pins pl : List (Addr × Obj)} {σ : St} {H : Hp} {s : Shared} (I : Inv X (pins ++ pl) σ H s) : Inv X pins σ H s := I.pins_of fun p hp => I.pin p (List.mem_append_right _ (List.mem_append_left _ hp))
theorem ps_for {iter : Expr} {body : List Stmt} {wi : TI} {g : TG} {tb : TS} {pos : Pos} (hp : PassesOwn (model X.prog X.w) X.A X.env X.xe) (hc : X.calm = true) (hi : PI X tg iter wi) (hg : PG X tg g) (hb : PSs X body tb)
    (hs : ∀ x, foldedSetIterable iter X.env x = pure x := by intro _; rfl) : PS X (.For tg iter body [] pos) (tFor wi g tb) := by
  intro pins s σ H D I h
  refine wpAny_For (thn (hi pins s σ H _ I h) fun v s1 h1 => thn h1 fun itv s2 h2 => ?_) hs
  obtain ⟨it, fp, tn, J, H2, e, I2, T, st2, f2, W, ⟨m0, w0⟩, turn⟩ := h2
  subst e
  -- what stays true of the iterator's objects through the loop
  have stat : ∀ {H' : Hp}, (∀ b ∈ fp, H' b = none) → ∀ b ∈ fp, FpOk X pins H' b := fun hn b hb => ⟨hn b hb, (f2 b hb).2⟩
  refine codeAny_forLoop_any (fun n s' => ∃ i σ' H', Inv X pins σ' H' s' ∧ tn i s'.heap ∧ (∀ b ∈ fp, H' b = none) ∧ W i n σ' H') ?_ m0 ⟨0, σ, H2, I2, st2, fun b hb => (f2 b hb).1, w0⟩
  rintro n s3 ⟨i, σ3, H3, I3, st3, fr3, w3⟩
  rcases turn i n σ3 H3 w3 with ⟨stop, qn⟩ | ⟨go, N, hN, step⟩
  · refine wpAny_passesOwn hp (thn (T.done X rfl rfl rfl hc i pins s3 σ3 H3 X.xe I3 (stat fr3) st3 stop) fun r s4 ⟨hr, I4⟩ => ?_)
    subst hr
    exact wpAny_execs_nil ⟨σ3, H3, I4, qn⟩
  · refine wpAny_passesOwn hp (thn (T.item X rfl rfl rfl hc i pins s3 σ3 H3 X.xe I3 (stat fr3) st3 go) fun r s4 ⟨u, hr, h4⟩ => ?_)
    subst hr
    refine wpAny_passesOwn hp (thn h4 fun _ s5 ⟨x, H5, I5, r5, y5, st5, fr5⟩ => ?_)
    have I5' := I5.pinned (stat fr5) (T.obj _ _ st5)
    refine wpAny_passesOwn hp (thn (hg _ s5 σ3 H5 x u _ I5' r5 (step x H5 y5)) fun _ s6 ⟨σ6, H6, I6, q6⟩ => ?_)
    refine wpAny_passesOwn hp (thn (hb _ s6 σ6 H6 _ I6 q6) fun f s7 q7 => ?_)
    have again : ∀ {σ7 : St} {H7 : Hp}, Inv X (pins ++ pinsAt fp s5.heap) σ7 H7 s7 → N σ7 H7 → ∃ m, m < n ∧ ∃ i σ' H', Inv X pins σ' H' s7 ∧ tn i s7.heap ∧ (∀ b ∈ fp, H' b = none) ∧ W i m σ' H' := fun {σ7 H7} I7 n7 => by
      obtain ⟨m', hm, w7⟩ := hN σ7 H7 n7
      refine ⟨m', hm, i + 1, σ7, H7, I7.unpinned, T.keep _ _ _ st5 fun b hb o e => (I7.pin (b, o) (List.mem_append_right _ (List.mem_append_right _ (mem_pinsAt hb e)))).1, fun b hb => ?_, w7⟩
      obtain ⟨o, e, d⟩ := T.obj _ _ st5 b hb
      exact (I7.pin (b, o) (List.mem_append_right _ (List.mem_append_right _ (mem_pinsAt hb e)))).2.1
    cases f with
    | next => obtain ⟨σ7, H7, I7, n7⟩ := q7; exact again I7 n7
    | cont => obtain ⟨σ7, H7, I7, n7⟩ := q7; exact again I7 n7
    | brk => obtain ⟨σ7, H7, I7, q7⟩ := q7; exact ⟨σ7, H7, I7.unpinned, q7⟩
    | ret v => obtain ⟨x7, σ7, H7, I7, r7, q7⟩ := q7; exact ⟨x7, σ7, H7, I7.unpinned, r7, q7⟩
end

/-! ### the forms one uses -/
/-- over a list that the body leaves as it is -/
theorem for_list {K : PySem.W.Frag} {a : Addr} {xs : List V} {g : TG} {tb : TS} {D : Ends} {σ : St} {H : Hp} (Pv : Nat → St → Hp → Prop) (h0 : Pv 0 σ H) (hl : ∀ i σ H, i ≤ xs.length → Pv i σ H → SqL K H a xs)
    (hs : ∀ i x σ H, xs[i]? = some x → Pv i σ H → g x σ H fun σ2 H2 => tb { D with nx := Pv (i + 1), ct := Pv (i + 1), bk := D.nx } σ2 H2) (hd : ∀ σ H, Pv xs.length σ H → D.nx σ H) :
    ∃ W : Nat → Nat → St → Hp → Prop, (∃ m, W 0 m σ H) ∧ ∀ i m σ H, W i m σ H →
      ((Itl K a).stop i H ∧ D.nx σ H) ∨ ((Itl K a).go i H ∧ ∃ N : St → Hp → Prop, (∀ σ' H', N σ' H' → ∃ m', m' < m ∧ W (i + 1) m' σ' H') ∧ ∀ x H', (Itl K a).yld i H x H' → g x σ H' fun σ2 H2 => tb { D with nx := N, ct := N, bk := D.nx } σ2 H2) := by
  refine ⟨fun i m σ H => m = xs.length - i ∧ i ≤ xs.length ∧ Pv i σ H, ⟨xs.length, by simp, Nat.zero_le _, h0⟩, ?_⟩
  rintro i m σ H ⟨rfl, hi, p⟩
  have q := hl i σ H hi p
  by_cases hlt : i < xs.length
  · refine .inr ⟨⟨xs, xs[i], q, by simp [hlt]⟩, Pv (i + 1), fun σ' H' p' => ⟨xs.length - (i + 1), by omega, rfl, hlt, p'⟩, fun x H' y => ?_⟩
    obtain ⟨e, y⟩ := y
    subst e
    exact hs i x σ _ (y xs q) p
  · have e : i = xs.length := by omega
    subst e
    exact .inl ⟨⟨xs, q, Nat.le_refl _⟩, hd σ H p⟩
theorem for_tup {K : PySem.W.Frag} {a : Addr} {xs : List V} {g : TG} {tb : TS} {D : Ends} {σ : St} {H : Hp} (Pv : Nat → St → Hp → Prop) (h0 : Pv 0 σ H) (hl : ∀ i σ H, i ≤ xs.length → Pv i σ H → SqT K H a xs)
    (hs : ∀ i x σ H, xs[i]? = some x → Pv i σ H → g x σ H fun σ2 H2 => tb { D with nx := Pv (i + 1), ct := Pv (i + 1), bk := D.nx } σ2 H2) (hd : ∀ σ H, Pv xs.length σ H → D.nx σ H) :
    ∃ W : Nat → Nat → St → Hp → Prop, (∃ m, W 0 m σ H) ∧ ∀ i m σ H, W i m σ H →
      ((Itt K a).stop i H ∧ D.nx σ H) ∨ ((Itt K a).go i H ∧ ∃ N : St → Hp → Prop, (∀ σ' H', N σ' H' → ∃ m', m' < m ∧ W (i + 1) m' σ' H') ∧ ∀ x H', (Itt K a).yld i H x H' → g x σ H' fun σ2 H2 => tb { D with nx := N, ct := N, bk := D.nx } σ2 H2) := by
  refine ⟨fun i m σ H => m = xs.length - i ∧ i ≤ xs.length ∧ Pv i σ H, ⟨xs.length, by simp, Nat.zero_le _, h0⟩, ?_⟩
  rintro i m σ H ⟨rfl, hi, p⟩
  have q := hl i σ H hi p
  by_cases hlt : i < xs.length
  · refine .inr ⟨⟨xs, xs[i], q, by simp [hlt]⟩, Pv (i + 1), fun σ' H' p' => ⟨xs.length - (i + 1), by omega, rfl, hlt, p'⟩, fun x H' y => ?_⟩
    obtain ⟨e, y⟩ := y
    subst e
    exact hs i x σ _ (y xs q) p
  · have e : i = xs.length := by omega
    subst e
    exact .inl ⟨⟨xs, q, Nat.le_refl _⟩, hd σ H p⟩
theorem for_range {lo : Int} {n : Nat} {g : TG} {tb : TS} {D : Ends} {σ : St} {H : Hp} (Pv : Nat → St → Hp → Prop) (h0 : Pv 0 σ H)
    (hs : ∀ i σ H, i < n → Pv i σ H → g (.int (lo + i)) σ H fun σ2 H2 => tb { D with nx := Pv (i + 1), ct := Pv (i + 1), bk := D.nx } σ2 H2) (hd : ∀ σ H, Pv n σ H → D.nx σ H) :
    ∃ W : Nat → Nat → St → Hp → Prop, (∃ m, W 0 m σ H) ∧ ∀ i m σ H, W i m σ H →
      ((Itr lo n).stop i H ∧ D.nx σ H) ∨ ((Itr lo n).go i H ∧ ∃ N : St → Hp → Prop, (∀ σ' H', N σ' H' → ∃ m', m' < m ∧ W (i + 1) m' σ' H') ∧ ∀ x H', (Itr lo n).yld i H x H' → g x σ H' fun σ2 H2 => tb { D with nx := N, ct := N, bk := D.nx } σ2 H2) := by
  refine ⟨fun i m σ H => m = n - i ∧ i ≤ n ∧ Pv i σ H, ⟨n, by simp, Nat.zero_le _, h0⟩, ?_⟩
  rintro i m σ H ⟨rfl, hi, p⟩
  by_cases hlt : i < n
  · refine .inr ⟨hlt, Pv (i + 1), fun σ' H' p' => ⟨n - (i + 1), by omega, rfl, hlt, p'⟩, fun x H' y => ?_⟩
    obtain ⟨e, y⟩ := y
    subst e y
    exact hs i σ _ hlt p
  · have e : i = n := by omega
    subst e
    exact .inl ⟨Nat.le_refl _, hd σ H p⟩
/-- while, by a word and a measure of the state -/
theorem while_by {c : TT} {tb : TS} {D : Ends} {σ : St} {H : Hp} (Pv : St → Hp → Prop) (μ : St → Hp → Nat) (h0 : Pv σ H)
    (hs : ∀ σ H, Pv σ H → c σ H fun b H1 => if b = true then tb { D with nx := fun σ' H' => Pv σ' H' ∧ μ σ' H' < μ σ H, ct := fun σ' H' => Pv σ' H' ∧ μ σ' H' < μ σ H, bk := D.nx } σ H1 else D.nx σ H1)
    (mono : ∀ σ H Q Q', (∀ b H1, Q b H1 → Q' b H1) → c σ H Q → c σ H Q') : tWhile c tb D σ H := by
  refine ⟨fun m σ H => m = μ σ H ∧ Pv σ H, ⟨_, rfl, h0⟩, ?_⟩
  rintro m σ H ⟨rfl, p⟩
  refine mono σ H _ _ (fun b H1 q => ?_) (hs σ H p)
  cases b with
  | true => exact ⟨_, fun σ' H' ⟨p', l⟩ => ⟨_, l, rfl, p'⟩, q⟩
  | false => exact q
end L2

namespace L2
open PySem PySem.Spec PyProof.Rows

abbrev R2 := V → V → Hp → VK → Prop
/-- a two-place operation on values: f is binaryOp op, inplaceOp op or compareOp op -/
def OpR (X : Cx) (f : Value → Value → Sem Value) (r : R2) : Prop :=
  ∀ (pins : List (Addr × Obj)) (s : Shared) (σ : St) (H : Hp) (x y : V) (v u : Value) (Q : VK), Inv X pins σ H s → RelV x v → RelV y u → r x y H Q →
    wpAny (model X.prog X.w) X.A (f v u) (EP X pins σ Q) X.xe s
/-- a call of a value that is known (a builtin, a type) with values -/
def CallR (X : Cx) (f : Value) (r : List V → Hp → VK → Prop) : Prop :=
  ∀ (pins : List (Addr × Obj)) (s : Shared) (σ : St) (H : Hp) (xs : List V) (us : List Value) (Q : VK), Inv X pins σ H s → Vals xs us → r xs H Q →
    wpAny (model X.prog X.w) X.A (call f us) (EP X pins σ Q) X.xe s

def tOp (r : R2) (ta tb : TE) : TE := fun σ H Q => ta σ H fun x H1 => tb σ H1 fun y H2 => r x y H2 Q
def rI0 (g : Int → Int → V) : R2 := fun x y H Q => ∃ i j, x = .int i ∧ y = .int j ∧ Q (g i j) H

section
variable {X : Cx} {a b c : Expr} {ta tb tc : TE} {pos : Pos}

theorem binT (ha : PE X a ta) (hb : PE X b tb) {pins : List (Addr × Obj)} {s : Shared} {σ : St} {H : Hp} {R : V → V → Hp → Prop} (I : Inv X pins σ H s)
    (h : ta σ H fun x H1 => tb σ H1 fun y H2 => R x y H2) {Q : Value → Shared → Prop} {f : Value → Value → Sem Value}
    (hf : ∀ v u s2 x y H2, Inv X pins σ H2 s2 → RelV x v → RelV y u → R x y H2 → wpAny (model X.prog X.w) X.A (f v u) Q X.xe s2) :
    wpAny (model X.prog X.w) X.A (eval a X.env) (fun v s₁ => wpAny (model X.prog X.w) X.A (eval b X.env) (fun u s₂ => wpAny (model X.prog X.w) X.A (f v u) Q X.xe s₂) X.xe s₁) X.xe s := by
  refine thn (ha pins s σ H _ I h) fun v s1 ⟨x, H1, I1, r1, q1⟩ => ?_
  refine thn (hb pins s1 σ H1 _ I1 q1) fun u s2 ⟨y, H2, I2, r2, q2⟩ => ?_
  exact hf v u s2 x y H2 I2 r1 r2 q2

theorem pe_op {op : Operator} {r : R2} (ho : OpR X (binaryOp op) r) (ha : PE X a ta) (hb : PE X b tb) : PE X (.BinOp a op b pos) (tOp r ta tb) := by
  intro pins s σ H Q I h
  exact wpAny_BinOp (binT ha hb I h fun v u s2 x y H2 I2 rx ry q => ho pins s2 σ H2 x y v u Q I2 rx ry q)

/-! ### ints -/
theorem opI0 {f : Value → Value → Sem Value} {g : Int → Int → Int}
    (rule : ∀ (i j : Int) (t u : Tok) (s : Shared) (Q : Value → Shared → Prop) (E : Value → Shared → Prop), Q (.int (g i j) s.toks) { s with toks := s.toks + 1 } → wpAny (model X.prog X.w) X.A (f (.int i t) (.int j u)) Q E s) :
    OpR X f (rI0 fun i j => .int (g i j)) := by
  intro pins s σ H x y v u Q I rx ry h
  obtain ⟨i, j, rfl, rfl, q⟩ := h
  obtain ⟨t, rfl⟩ := rx
  obtain ⟨t', rfl⟩ := ry
  exact rule i j t t' s _ _ ⟨.int (g i j), H, I.tok _, ⟨_, rfl⟩, q⟩
theorem opB0 {f : Value → Value → Sem Value} {g : Int → Int → Bool}
    (rule : ∀ (i j : Int) (t u : Tok) (s : Shared) (Q : Value → Shared → Prop) (E : Value → Shared → Prop), Q (.bool (g i j)) s → wpAny (model X.prog X.w) X.A (f (.int i t) (.int j u)) Q E s) :
    OpR X f (rI0 fun i j => .bl (g i j)) := by
  intro pins s σ H x y v u Q I rx ry h
  obtain ⟨i, j, rfl, rfl, q⟩ := h
  obtain ⟨t, rfl⟩ := rx
  obtain ⟨t', rfl⟩ := ry
  exact rule i j t t' s _ _ ⟨.bl (g i j), H, I, rfl, q⟩


theorem op_add : OpR X (binaryOp .Add) (rI0 fun i j => .int (i + j)) := opI0 fun _ _ _ _ _ _ _ q => add_int q
theorem op_sub : OpR X (binaryOp .Sub) (rI0 fun i j => .int (i - j)) := opI0 fun _ _ _ _ _ _ _ q => sub_int q



/-! ### bools among ints: n += (a < b) -/
end

/-! ### comparisons -/
/-- the scalars that == tells apart as data does -/
def scal : V → V → Bool
  | .non, .non => true | .non, .int _ => true | .int _, .non => true | .non, .bl _ => true | .bl _, .non => true | .non, .str _ => true | .str _, .non => true
  | .int _, .int _ => true | .bl _, .bl _ => true | .str _, .str _ => true | .byt _, .byt _ => true
  | .int _, .str _ => true | .str _, .int _ => true | .bl _, .str _ => true | .str _, .bl _ => true
  | _, _ => false
def rEq : R2 := fun x y H Q => scal x y = true ∧ Q (.bl (decide (x = y))) H
def rNe : R2 := fun x y H Q => scal x y = true ∧ Q (.bl (!decide (x = y))) H

theorem dec_int {i j : Int} : decide (V.int i = V.int j) = (i == j) := by
  rw [Bool.eq_iff_iff]
  simp
theorem dec_bl {i j : Bool} : decide (V.bl i = V.bl j) = (i == j) := by
  rw [Bool.eq_iff_iff]
  simp
theorem dec_str {i j : Str} : decide (V.str i = V.str j) = (i == j) := by
  rw [Bool.eq_iff_iff]
  simp
theorem dec_byt {i j : Array UInt8} : decide (V.byt i = V.byt j) = (i.toList == j.toList) := by
  rw [Bool.eq_iff_iff]
  cases i
  cases j
  simp

section
variable {X : Cx} {a b c : Expr} {ta tb tc : TE} {pos : Pos}
theorem fin_bl {pins : List (Addr × Obj)} {σ : St} {H : Hp} {s : Shared} {Q : VK} {k k' : Bool} (I : Inv X pins σ H s) (q : Q (.bl k) H) (e : k = k') : EP X pins σ Q (.bool k') s := by
  subst e
  exact ⟨.bl k, H, I, rfl, q⟩
theorem op_eq : OpR X (compareOp .Eq) rEq := by
  intro pins s σ H x y v u Q I rx ry h
  obtain ⟨hs, q⟩ := h
  cases x with
  | non =>
    cases rx
    cases y with
    | non => cases ry; exact PySem.EqNone.eq_none_none (fin_bl I q (by simp))
    | bl j => cases ry; exact PySem.EqNone.eq_none_bool (fin_bl I q (by simp))
    | int j => obtain ⟨t', rfl⟩ := ry; exact PySem.EqNone.eq_none_int (fin_bl I q (by simp))
    | str j => obtain ⟨t', rfl⟩ := ry; exact PySem.EqNone.eq_none_str (fin_bl I q (by simp))
    | _ => exact absurd (show false = true from hs) Bool.false_ne_true
  | bl i =>
    cases rx
    cases y with
    | non => cases ry; exact PySem.EqNone.eq_bool_none (fin_bl I q (by simp))
    | bl j => cases ry; exact eq_bool (fin_bl I q dec_bl)
    | str j => obtain ⟨t', rfl⟩ := ry; exact PySem.EqMixed.eq_bool_str (fin_bl I q (by simp))
    | _ => exact absurd (show false = true from hs) Bool.false_ne_true
  | int i =>
    obtain ⟨t, rfl⟩ := rx
    cases y with
    | non => cases ry; exact PySem.EqNone.eq_int_none (fin_bl I q (by simp))
    | int j => obtain ⟨t', rfl⟩ := ry; exact eq_int (fin_bl I q dec_int)
    | str j => obtain ⟨t', rfl⟩ := ry; exact PySem.EqMixed.eq_int_str (fin_bl I q (by simp))
    | _ => exact absurd (show false = true from hs) Bool.false_ne_true
  | str i =>
    obtain ⟨t, rfl⟩ := rx
    cases y with
    | non => cases ry; exact PySem.EqNone.eq_str_none (fin_bl I q (by simp))
    | bl j => cases ry; exact PySem.EqMixed.eq_str_bool (fin_bl I q (by simp))
    | int j => obtain ⟨t', rfl⟩ := ry; exact PySem.EqMixed.eq_str_int (fin_bl I q (by simp))
    | str j => obtain ⟨t', rfl⟩ := ry; exact eq_str (fin_bl I q dec_str)
    | _ => exact absurd (show false = true from hs) Bool.false_ne_true
  | byt i =>
    obtain ⟨t, rfl⟩ := rx
    cases y with
    | byt j => obtain ⟨t', rfl⟩ := ry; exact PySem.W.eq_bytes (fin_bl I q dec_byt)
    | _ => exact absurd (show false = true from hs) Bool.false_ne_true
  | _ => cases y <;> exact absurd (show false = true from hs) Bool.false_ne_true
theorem op_ne : OpR X (compareOp .NotEq) rNe := by
  intro pins s σ H x y v u Q I rx ry h
  obtain ⟨hs, q⟩ := h
  cases x with
  | non =>
    cases rx
    cases y with
    | non => cases ry; exact PySem.EqNone.ne_none_none (fin_bl I q (by simp))
    | bl j => cases ry; exact PySem.EqNone.ne_none_bool (fin_bl I q (by simp))
    | int j => obtain ⟨t', rfl⟩ := ry; exact PySem.EqNone.ne_none_int (fin_bl I q (by simp))
    | str j => obtain ⟨t', rfl⟩ := ry; exact PySem.EqNone.ne_none_str (fin_bl I q (by simp))
    | _ => exact absurd (show false = true from hs) Bool.false_ne_true
  | bl i =>
    cases rx
    cases y with
    | non => cases ry; exact PySem.EqNone.ne_bool_none (fin_bl I q (by simp))
    | bl j => cases ry; exact ne_bool (fin_bl I q (congrArg not dec_bl))
    | str j => obtain ⟨t', rfl⟩ := ry; exact PySem.EqMixed.ne_bool_str (fin_bl I q (by simp))
    | _ => exact absurd (show false = true from hs) Bool.false_ne_true
  | int i =>
    obtain ⟨t, rfl⟩ := rx
    cases y with
    | non => cases ry; exact PySem.EqNone.ne_int_none (fin_bl I q (by simp))
    | int j => obtain ⟨t', rfl⟩ := ry; exact ne_int (fin_bl I q (congrArg not dec_int))
    | str j => obtain ⟨t', rfl⟩ := ry; exact PySem.EqMixed.ne_int_str (fin_bl I q (by simp))
    | _ => exact absurd (show false = true from hs) Bool.false_ne_true
  | str i =>
    obtain ⟨t, rfl⟩ := rx
    cases y with
    | non => cases ry; exact PySem.EqNone.ne_str_none (fin_bl I q (by simp))
    | bl j => cases ry; exact PySem.EqMixed.ne_str_bool (fin_bl I q (by simp))
    | int j => obtain ⟨t', rfl⟩ := ry; exact PySem.EqMixed.ne_str_int (fin_bl I q (by simp))
    | str j => obtain ⟨t', rfl⟩ := ry; exact ne_str (fin_bl I q (congrArg not dec_str))
    | _ => exact absurd (show false = true from hs) Bool.false_ne_true
  | byt i =>
    obtain ⟨t, rfl⟩ := rx
    cases y with
    | byt j => obtain ⟨t', rfl⟩ := ry; exact PySem.W.ne_bytes (fin_bl I q (congrArg not dec_byt))
    | _ => exact absurd (show false = true from hs) Bool.false_ne_true
  | _ => cases y <;> exact absurd (show false = true from hs) Bool.false_ne_true

theorem op_lt : OpR X (compareOp .Lt) (rI0 fun i j => .bl (decide (i < j))) := opB0 fun _ _ _ _ _ _ _ q => lt_int q
theorem op_le : OpR X (compareOp .LtE) (rI0 fun i j => .bl (decide (i ≤ j))) := opB0 fun _ _ _ _ _ _ _ q => le_int q
theorem op_gt : OpR X (compareOp .Gt) (rI0 fun i j => .bl (decide (j < i))) := opB0 fun _ _ _ _ _ _ _ q => gt_int q
theorem op_ge : OpR X (compareOp .GtE) (rI0 fun i j => .bl (decide (j ≤ i))) := opB0 fun _ _ _ _ _ _ _ q => ge_int q

/-- is None, is not None: the right side a value none -/
theorem op_isN : OpR X (compareOp .Is) (fun x y H Q => y = .non ∧ Q (.bl (decide (x = .non))) H) := by
  intro pins s σ H x y v u Q I rx ry h
  obtain ⟨rfl, q⟩ := h
  cases ry
  refine is_none_gen (fin_bl I q ?_)
  cases x <;> first
    | (cases rx; rfl)
    | (obtain ⟨t, rfl⟩ := rx; rfl)



theorem nomark (b : Expr) {op : CmpOp} (h : op ≠ .In := by decide) (h2 : op ≠ .NotIn := by decide) : behindInMarks op b = false := by
  have e1 : (op == CmpOp.In) = false := by cases op <;> first | rfl | exact absurd rfl h
  have e2 : (op == CmpOp.NotIn) = false := by cases op <;> first | rfl | exact absurd rfl h2
  cases b <;> simp [behindInMarks, e1, e2]
/-- a comparison as a value; hm: nomark b, or (for in, not in) by with_unfolding_all rfl -/
theorem pe_cmpR {op : CmpOp} {r : R2} (ho : OpR X (compareOp op) r) (ha : PE X a ta) (hb : PE X b tb) (hm : behindInMarks op b = false) : PE X (.Compare a [op] [b] pos) (tOp r ta tb) := by
  intro pins s σ H Q I h
  exact wpAny_Compare1 (binT ha hb I h fun v u s2 x y H2 I2 rx ry q => ho pins s2 σ H2 x y v u Q I2 rx ry q) hm
/-- a reading of a value as a test -/
def tTest (t : TE) : TT := fun σ H Q => t σ H fun x H' => ∃ k, x = .bl k ∧ Q k H'
theorem pt_cmpR {op : CmpOp} {r : R2} (ho : OpR X (compareOp op) r) (ha : PE X a ta) (hb : PE X b tb) (hm : behindInMarks op b = false) : PT X (.Compare a [op] [b] pos) (tTest (tOp r ta tb)) := by
  intro pins s σ H Q I h
  refine wpAny_isTrue_Compare1 (thn (ha pins s σ H _ I h) fun v s1 ⟨x, H1, I1, r1, q1⟩ => thn (hb pins s1 σ H1 _ I1 q1) fun u s2 ⟨y, H2, I2, r2, q2⟩ =>
    thn (ho pins s2 σ H2 x y v u _ I2 r1 r2 q2) fun c s3 ⟨z, H3, I3, r3, k, e, q3⟩ => ?_) hm
  subst e
  cases r3
  exact wpAny_truthy_bool ⟨H3, I3, q3⟩

/-! ### truth -/
theorem line63 : (sizeLine : Nat) < 2 ^ 63 := by rw [sizeLine_eq]; decide

/-! ### strs and bytes -/


/-! ### scalar builtins, by CallR -/
theorem vals1 {x : V} {us : List Value} (r : Vals [x] us) : ∃ u, us = [u] ∧ RelV x u := by
  cases r with
  | cons r1 r2 => cases r2; exact ⟨_, rfl, r1⟩
end
end L2

namespace L2
open PySem PySem.Spec PyProof.Rows

/-! ### an instance, its attributes a map -/
structure ObjM (h : Heap) (x dx C : Addr) (mA : Str → Option Value) : Prop where
  obj : h.get? x = some (PySem.W.instObj C dx)
  ns : h.Ns1 dx mA
  ne : dx ≠ x

theorem lookIn_ns {h : Heap} {dx : Addr} {mA : Str → Option Value} (n : h.Ns1 dx mA) : ∃ od, h.get? dx = some od ∧ ∀ name, PySem.W.lookIn name od = some (mA name) := by
  obtain ⟨o, es, ep, ho, hd, hk, _, hm⟩ := n
  refine ⟨o, ho, fun name => ?_⟩
  have e := hm name
  unfold nsFind findBy at e
  rw [← Array.find?_toList] at e
  unfold PySem.W.lookIn
  rw [hd]
  dsimp only
  split
  · rename_i y q
    rw [q] at e
    exact congrArg some e
  · rename_i q
    rw [q] at e
    have a : es.toList.any (·.refKey) = false := by
      rw [List.any_eq_false]
      intro y hy
      obtain ⟨z, t, hkey⟩ := hk y (Array.mem_toList_iff.mp hy)
      simp [DictEntry.refKey, hkey]
    have a' : ¬ es.toList.any (·.refKey) = true := by rw [a]; exact Bool.false_ne_true
    rw [if_neg a']
    exact congrArg some e

theorem ObjM.look {h : Heap} {x dx C : Addr} {mA : Str → Option Value} (I : ObjM h x dx C mA) : ∃ od, PySem.W.InstAt h x (PySem.W.instObj C dx) C (some od) ∧ ∀ name, PySem.W.lookIn name od = some (mA name) :=
  let ⟨od, ho, hl⟩ := lookIn_ns I.ns
  ⟨od, ⟨I.obj, rfl, rfl, ho⟩, hl⟩

section
variable {prog : Program} {w : World} {A : Around} {E : Value → Shared → Prop} {s : Shared} {K : PySem.W.Frag} {x dx C f : Addr} {mA : Str → Option Value} {name : Str} {v : Value}

theorem get_map {expr : Bool} {Q : Value → Shared → Prop} (X : K.In s.heap) (I : ObjM s.heap x dx C mA) (hg : PySem.W.plainGet K C name = true) (hh : PySem.W.hasDictIn K C = true)
    (ha : PySem.W.findIn K (.ref C) name = some none) (hv : mA name = some v) (hv' : PySem.W.handedIn v = true) (h : Q v { s with toks := s.toks + 1 }) :
    wpAny (model prog w) A (getAttr (.ref x) name expr) Q E s := by
  obtain ⟨od, J, hl⟩ := I.look
  exact PySem.W.get_value X J (PySem.W.plainGet_of hg).1 (PySem.W.findObj_own hh ha rfl (by rw [hl, hv])) hv' h


theorem get_meth {pl : Sem Bool} {Q : Value × List Value → Shared → Prop} (X : K.In s.heap) (I : ObjM s.heap x dx C mA) (hg : PySem.W.plainGet K C name = true)
    (hf : PySem.W.findIn K (.ref C) name = some (some (.ref f))) (ht : PySem.W.isFn K (.ref f) = true) (hv : mA name = none) (h : Q (.ref f, [.ref x]) s) :
    wpAny (model prog w) A (getMethod (.ref x) name pl) Q E s := by
  obtain ⟨od, J, hl⟩ := I.look
  exact PySem.W.method_fn X J (PySem.W.plainGet_of hg).1 (PySem.W.plainGet_of hg).2 hf (beq_iff_eq.mp ht) (by show (PySem.W.lookIn name od).map (·.isSome) = some false; rw [hl, hv]; rfl) h

theorem set_map {ns : List Str} {Q : Unit → Shared → Prop} (X : K.In s.heap) (I : ObjM s.heap x dx C mA)
    (hs : PySem.W.findIn K (.ref C) "__setattr__" = some (some (.builtin "object.__setattr__"))) (hp : PySem.W.plainOver K C = true) (ht : PySem.W.takerIn K C name = some none) (hh : PySem.W.hasDictIn K C = true)
    (hw : PySem.Within mA ns) (hsz : ns.length ≤ sizeLine)
    (h : ∀ h', ObjM h' x dx C (fun y => if y = name then some v else mA y) → Heap.SameBut dx s.heap h' → Q () { s with heap := h', toks := s.toks + 2 }) :
    wpAny (model prog w) A (setAttr (.ref x) name v) Q E s := by
  obtain ⟨od, J, hl⟩ := I.look
  refine PySem.W.set_plain X J hs (PySem.W.osa_open (s := { s with toks := s.toks + 1 }) (r := none) X J hp ht fun b => ?_)
  obtain ⟨cd, hc, hd'⟩ := PySem.W.any_some hh
  have hx : s.heap.get? x = some ⟨.ref C, some dx, .plain, #[]⟩ := I.obj
  refine wpAny_bind (wpAny_pure (wpAny_bind (wpAny_bind (wpAny_loadPart hx (wpAny_bind (PySem.W.Looks.here (s := { s with toks := s.toks + 1 }) (PySem.W.looks_clsIn X hc) ?_))))))
  rw [hd']
  refine wpAny_pure (a := some dx) (wpAny_bind (wpAny_pure (wpAny_bind ?_)))
  refine wpAny_nsSet1 (s := { s with toks := s.toks + 1 }) I.ns fun h' hn2 hs2 => ?_
  obtain ⟨oD, esD, epD, hoD, hdD, hcD⟩ := hn2.count (PySem.Within.cons name v hw)
  refine wpAny_bind (wpAny_lookBehind hoD (by rw [hdD]; exact pastItsLine_dict (Nat.le_trans hcD (by rw [List.length_cons]; omega))) ?_)
  exact wpAny_pure (h _ ⟨(hs2.2 _ (Ne.symm I.ne)).trans I.obj, hn2, I.ne⟩ hs2)

/-- C(..): the dict at the heap's end, the instance behind it; then its __init__ -/
theorem make_map {R : Result → Shared → Prop} {vs : List Value} {kw : List (Str × Value)} (X : K.In s.heap) (hm : PySem.W.makesIn K C = true)
    (hi : PySem.W.findIn K (.ref C) "__init__" = some (some (.ref f))) (hf : PySem.W.typeIn K (.ref f) = some (.type "function"))
    (h : codeAny (model prog w) (A.under (.builtin "type.__call__" ⟨.ref C :: vs, kw⟩)) (.call (.ref f) ⟨.ref (s.heap.objs.size + 1) :: vs, kw⟩) (PySem.W.InitBack (s.heap.objs.size + 1) R)
      { s with heap := (s.heap.push PySem.W.emptyDict).push (PySem.W.instObj C s.heap.objs.size) }) :
    codeAny (model prog w) A (.call (.ref C) ⟨vs, kw⟩) R s := by
  obtain ⟨hh, g, d, t, os⟩ := s
  exact PySem.W.make_core (PySem.W.makes_of X hm) (PySem.W.looks_findIn X hi) (fun self => PySem.W.bind_fn X self hf) (.inl rfl) h
end

/-! ### the attributes as a list of pairs -/
def putF (f : Str) (v : V) : List (Str × V) → List (Str × V)
  | [] => [(f, v)]
  | (g, x) :: r => if g = f then (g, v) :: r else (g, x) :: putF f v r
theorem lookup_putF (f g : Str) (v : V) : ∀ fs : List (Str × V), (putF f v fs).lookup g = if g = f then some v else fs.lookup g
  | [] => by
    show List.lookup g [(f, v)] = _
    by_cases h : g = f
    · have hb : (g == f) = true := beq_iff_eq.mpr h
      simp only [List.lookup, hb, if_pos h]
    · have hb : (g == f) = false := beq_eq_false_iff_ne.mpr h
      simp only [List.lookup, hb, if_neg h]
  | (k, x) :: r => by
    have ih := lookup_putF f g v r
    rw [show putF f v ((k, x) :: r) = (if k = f then (k, v) :: r else (k, x) :: putF f v r) from rfl]
    by_cases hk : k = f
    · rw [if_pos hk]
      by_cases h : g = k
      · have hb : (g == k) = true := beq_iff_eq.mpr h
        simp only [List.lookup, hb, if_pos (h.trans hk)]
      · have hb : (g == k) = false := beq_eq_false_iff_ne.mpr h
        simp only [List.lookup, hb, if_neg (fun e : g = f => h (e.trans hk.symm))]
    · rw [if_neg hk]
      by_cases h : g = k
      · have hb : (g == k) = true := beq_iff_eq.mpr h
        simp only [List.lookup, hb, if_neg (fun e : g = f => hk (h.symm.trans e))]
      · have hb : (g == k) = false := beq_eq_false_iff_ne.mpr h
        simp only [List.lookup, hb]
        exact ih
theorem keys_putF (f : Str) (v : V) : ∀ fs : List (Str × V), f ∈ (putF f v fs).map (·.1) ∧ ∀ g, g ∈ fs.map (·.1) → g ∈ (putF f v fs).map (·.1)
  | [] => ⟨by simp [putF], fun g h => by simp at h⟩
  | (k, x) :: r => by
    obtain ⟨i1, i2⟩ := keys_putF f v r
    rw [show putF f v ((k, x) :: r) = (if k = f then (k, v) :: r else (k, x) :: putF f v r) from rfl]
    by_cases hk : k = f
    · rw [if_pos hk]
      subst hk
      exact ⟨by simp, fun g h => by simpa using h⟩
    · rw [if_neg hk]
      refine ⟨?_, fun g h => ?_⟩
      · rw [List.map_cons]
        exact List.mem_cons_of_mem _ i1
      · rw [List.map_cons] at h ⊢
        rcases List.mem_cons.mp h with e | e
        · exact List.mem_cons.mpr (.inl e)
        · exact List.mem_cons_of_mem _ (i2 g e)
theorem length_putF (f : Str) (v : V) : ∀ fs : List (Str × V), (putF f v fs).length ≤ fs.length + 1
  | [] => by simp [putF]
  | (k, x) :: r => by
    have ih := length_putF f v r
    rw [show putF f v ((k, x) :: r) = (if k = f then (k, v) :: r else (k, x) :: putF f v r) from rfl]
    by_cases hk : k = f
    · rw [if_pos hk, List.length_cons, List.length_cons]; omega
    · rw [if_neg hk, List.length_cons, List.length_cons]; omega

theorem RelO.some_of {v : V} {o : Option Value} (r : RelO (some v) o) : ∃ u, o = some u ∧ RelV v u := by
  cases o with
  | none => exact (show False from r).elim
  | some u => exact ⟨u, rfl, r⟩
theorem RelO.none_of {o : Option Value} (r : RelO none o) : o = none := by
  cases o with
  | none => rfl
  | some u => exact (show False from r).elim
theorem handed_of {v : V} {u : Value} (r : RelV v u) : PySem.W.handedIn u = true := by
  cases v with
  | non => cases (show u = Value.none from r); rfl
  | bl b => cases (show u = Value.bool b from r); rfl
  | int i => obtain ⟨t, e⟩ := (show ∃ t, u = Value.int i t from r); cases e; rfl
  | str x => obtain ⟨t, e⟩ := (show ∃ t, u = Value.str x t from r); cases e; rfl
  | byt b => obtain ⟨t, e⟩ := (show ∃ t, u = Value.bytes b t from r); cases e; rfl
  | flt b => obtain ⟨t, e⟩ := (show ∃ t, u = Value.float b t from r); cases e; rfl
  | ref a => cases (show u = Value.ref a from r); rfl
  | ty n => cases (show u = Value.type n from r); rfl

section
variable {P : Program} {w : World} {H H' : Hp} {h h' : Heap} {a C dx : Addr} {fs fs' : List (Str × V)}
theorem ins_get (hok : HOk P w H h) (e : H a = some (.ins C dx fs)) : ∃ mA, ObjM h a dx C mA ∧ (∀ f, RelO (fs.lookup f) (mA f)) ∧ PySem.Within mA (fs.map (·.1)) ∧ fs.length ≤ 1000 ∧ H dx = some (.own a) := by
  obtain ⟨d, z, ne, ob, mA, n, r, q⟩ := (show ObjOk P w H h a (.ins C dx fs) from hok a _ e)
  exact ⟨mA, ⟨ob, n, ne⟩, r, q, z, d⟩
end

/-! ### what of the text a class must have -/
structure Cls (K : PySem.W.Frag) (C : Addr) : Prop where
  pg : PySem.W.plainGet K C Str.empty = true
  hd : PySem.W.hasDictIn K C = true
  po : PySem.W.plainOver K C = true
  sa : PySem.W.findIn K (.ref C) "__setattr__" = some (some (.builtin "object.__setattr__"))
theorem Cls.get {K : PySem.W.Frag} {C : Addr} (c : Cls K C) (f : Str) : PySem.W.plainGet K C f = true := c.pg
/-- no class of it has the name -/
def NoAttr (K : PySem.W.Frag) (C : Addr) (f : Str) : Prop := PySem.W.findIn K (.ref C) f = some none
theorem NoAttr.taker {K : PySem.W.Frag} {C : Addr} {f : Str} (n : NoAttr K C f) : PySem.W.takerIn K C f = some none := by
  unfold PySem.W.takerIn
  rw [show PySem.W.findIn K (.ref C) f = some none from n]
  rfl
/-- a method: a plain def of the class or of one above it -/
structure Meth (K : PySem.W.Frag) (C : Addr) (m : Str) (f : Addr) : Prop where
  at_ : PySem.W.findIn K (.ref C) m = some (some (.ref f))
  fn : PySem.W.isFn K (.ref f) = true
  kp : PySem.W.keepIn K (.ref f) = true

section
variable {X : Cx} {pins : List (Addr × Obj)} {σ : St} {H : Hp} {s : Shared} {a C dx : Addr} {fs : List (Str × V)} {f : Str} {v : V} {A : Around} {E : Value → Shared → Prop}

theorem getattr_ok {b : Bool} {Q : Value → Shared → Prop} (I : Inv X pins σ H s) (e : H a = some (.ins C dx fs)) (c : Cls X.K C) (n : NoAttr X.K C f) (l : fs.lookup f = some v)
    (h : ∀ u s', Inv X pins σ H s' → RelV v u → Q u s') : wpAny (model X.prog X.w) A (getAttr (.ref a) f b) Q E s := by
  obtain ⟨mA, O, r, _, _, _⟩ := ins_get I.hok e
  obtain ⟨u, hu, ru⟩ := RelO.some_of (v := v) (o := mA f) (by rw [← l]; exact r f)
  exact get_map I.kIn O (c.get f) c.hd n hu (handed_of ru) (h u _ (I.tok _) ru)


theorem getmeth_ok {m : Str} {g : Addr} {pl : Sem Bool} {Q : Value × List Value → Shared → Prop} (I : Inv X pins σ H s) (e : H a = some (.ins C dx fs)) (c : Cls X.K C) (k : Meth X.K C m g) (l : fs.lookup m = none)
    (h : Q (.ref g, [.ref a]) s) : wpAny (model X.prog X.w) A (getMethod (.ref a) m pl) Q E s := by
  obtain ⟨mA, O, r, _, _, _⟩ := ins_get I.hok e
  have hn : mA m = none := RelO.none_of (by rw [← l]; exact r m)
  exact get_meth I.kIn O (c.get m) k.at_ k.fn hn h

theorem setattr_ok {y : V} {u : Value} {Q : Unit → Shared → Prop} (I : Inv X pins σ H s) (e : H a = some (.ins C dx fs)) (c : Cls X.K C) (n : NoAttr X.K C f) (hl : fs.length < 1000) (ry : RelV y u)
    (h : ∀ s', Inv X pins σ (upd H a (.ins C dx (putF f y fs))) s' → Q () s') : wpAny (model X.prog X.w) A (setAttr (.ref a) f u) Q E s := by
  obtain ⟨mA, O, r, wi, _, ho⟩ := ins_get I.hok e
  have hz : (fs.map (·.1)).length ≤ sizeLine := by rw [List.length_map, sizeLine_eq]; omega
  refine set_map I.kIn O c.sa c.po n.taker c.hd wi hz fun h' O' sb => h _ ?_
  have hd : ∃ o, h'.get? dx = some o := let ⟨o, _, _, e', _⟩ := O'.ns; ⟨o, e'⟩
  refine I.write (x := a) (e := dx) (by rw [e]; exact True.intro) (.inr ho) (fun b q hb z => (sb.2 b hb).trans z) hd ?_
  refine ⟨by rw [upd_ne O.ne]; exact ho, ?_, O.ne, O'.obj, _, O'.ns, fun g => ?_, fun g hg => ?_⟩
  · have := length_putF f y fs; omega
  · show RelO ((putF f y fs).lookup g) (if g = f then some u else mA g)
    rw [lookup_putF]
    by_cases q : g = f
    · rw [if_pos q, if_pos q]; exact ry
    · rw [if_neg q, if_neg q]; exact r g
  · by_cases q : g = f
    · rw [q]; exact (keys_putF f y fs).1
    · refine (keys_putF f y fs).2 g (wi g fun z => hg ?_)
      show (if g = f then some u else mA g) = none
      rw [if_neg q]; exact z

/-- a new instance, tracked, without attributes -/
theorem Inv.made (I : Inv X pins σ H s) : Inv X pins σ (upd (upd H s.heap.objs.size (.own (s.heap.objs.size + 1))) (s.heap.objs.size + 1) (.ins C s.heap.objs.size []))
    { s with heap := (s.heap.push PySem.W.emptyDict).push (PySem.W.instObj C s.heap.objs.size) } := by
  have e1 : (s.heap.push PySem.W.emptyDict).get? s.heap.objs.size = some PySem.W.emptyDict := Heap.get?_push_size s.heap rfl
  have e2 : ((s.heap.push PySem.W.emptyDict).push (PySem.W.instObj C s.heap.objs.size)).get? (s.heap.objs.size + 1) = some (PySem.W.instObj C s.heap.objs.size) := by
    have := Heap.get?_push_size (s.heap.push PySem.W.emptyDict) (o := PySem.W.instObj C s.heap.objs.size) rfl
    rwa [Heap.size_push] at this
  have e3 : (s.heap.push PySem.W.emptyDict).Ns s.heap.objs.size (fun _ => none) := ⟨PySem.W.emptyDict, #[], _, e1, rfl, (fun e he => absurd he (by simp)), fun _ => rfl⟩
  have I1 := I.laid (a := s.heap.objs.size) (o := .own (s.heap.objs.size + 1)) (h' := s.heap.push PySem.W.emptyDict) (t' := s.toks) (fun b u q => Heap.get?_push_of_some _ q) (Nat.le_refl _) ⟨_, e1⟩
  refine I1.laid (a := s.heap.objs.size + 1) (o := .ins C s.heap.objs.size []) (t' := s.toks) (fun b u q => Heap.get?_push_of_some _ q) (Nat.le_of_eq (Heap.size_push _ _)) ?_
  have ne : s.heap.objs.size ≠ s.heap.objs.size + 1 := Nat.ne_of_lt (Nat.lt_succ_self _)
  refine ⟨by rw [upd_ne ne, upd_same], Nat.zero_le _, ne, e2, fun _ => none, (Heap.Ns1.of_empty e3).at fun o q => Heap.get?_push_of_some _ q, fun _ => True.intro, fun y hy => absurd rfl hy⟩

/-- e.f where nothing but the object is asked: through attributeBase (super) and the last hold -/
theorem attr_of {prog : Program} {w : World} {env : Env} {e : Expr} {f : Str} {pos : Pos} {s : Shared} {Q : Value → Shared → Prop} (hb : attributeBase e f env (eval e env) = eval e env)
    (h : wpAny (model prog w) A (eval e env) (fun o s₁ => wpAny (model prog w) A (getAttr o f true) Q E s₁) E s) : wpAny (model prog w) A (eval (.Attribute e f pos) env) Q E s :=
  Attribute_any_ h (by rw [arm_eval_Attribute, hb])
end

/-! ### readings and rules -/
/-- e.f, an attribute of the instance -/
def tFld (K : PySem.W.Frag) (ta : TE) (f : Str) : TE := fun σ H Q => ta σ H fun x H1 => ∃ a C dx fs v, x = .ref a ∧ H1 a = some (.ins C dx fs) ∧ Cls K C ∧ NoAttr K C f ∧ fs.lookup f = some v ∧ Q v H1
/-- e.f = value -/
def sFld (K : PySem.W.Frag) (ta tv : TE) (f : Str) : TS := fun D σ H => tv σ H fun y H1 => ta σ H1 fun x H2 => ∃ a C dx fs, x = .ref a ∧ H2 a = some (.ins C dx fs) ∧ Cls K C ∧ NoAttr K C f ∧ fs.length < 1000 ∧
  D.nx σ (upd H2 a (.ins C dx (putF f y fs)))

section
variable {X : Cx} {o e value : Expr} {f : Str} {pos pos' tpos : Pos} {ta tv : TE}
theorem pe_fld (he : PE X e ta) (hb : attributeBase e f X.env (eval e X.env) = eval e X.env) : PE X (.Attribute e f pos) (tFld X.K ta f) := by
  intro pins s σ H Q I h
  refine attr_of hb (thn (he pins s σ H _ I h) fun u s1 ⟨x, H1, I1, rx, a, C, dx, fs, v, ex, ea, c, n, l, q⟩ => ?_)
  subst ex
  obtain rfl : u = Value.ref a := rx
  exact getattr_ok I1 ea c n l fun u' s2 I2 ru => ⟨v, H1, I2, ru, q⟩
theorem ps_fld (ha : PE X o ta) (hv : PE X value tv) (hs : swapsWith value (some (.Attribute o f pos')) pos.line X.env = pure false) : PS X (.Assign [.Attribute o f pos'] value pos) (sFld X.K ta tv f) := by
  intro pins s σ H D I h
  refine plainObj_wpAny_Assign_Attribute (thn (hv pins s σ H _ I h) fun u s1 ⟨y, H1, I1, ry, q⟩ => thn (ha pins s1 σ H1 _ I1 q) fun ov s2 ⟨x, H2, I2, rx, a, C, dx, fs, ex, ea, c, n, l, q2⟩ => ?_) hs
  subst ex
  obtain rfl : ov = Value.ref a := rx
  exact setattr_ok I2 ea c n l ry fun s3 I3 => ⟨σ, _, I3, q2⟩

end

/-! ### isinstance -/
section
variable {X : Cx} {pins : List (Addr × Obj)} {σ : St} {H : Hp} {s : Shared} {A : Around} {E : Value → Shared → Prop} {Q : Value → Shared → Prop} {c : Value} {b : Bool}
end
end L2

namespace L2
open PySem PySem.Spec PyProof.Rows

/-! ### room -/
structure Room (k : Nat) (A : Around) : Prop where
  hd : A.handled = none
  dp : A.depth + 3 * k + 5 < recursionLimit
  un : A.units + 16 * k + 200 < cLine
theorem Room.mono {j k : Nat} {A : Around} (r : Room k A) (h : j ≤ k) : Room j A := ⟨r.hd, by have := r.dp; omega, by have := r.un; omega⟩
theorem Room.deeper {k : Nat} {A : Around} (r : Room (k + 1) A) (env : Env) : Room k (A.deeper env) :=
  ⟨r.hd, by have := r.dp; show A.depth + 1 + 3 * k + 5 < _; omega, by have := r.un; show A.units + 3 + 16 * k + 200 < _; omega⟩
theorem make_depth {A : Around} {C : Addr} {us : List Value} {kw : List (Str × Value)} : (A.under (.builtin "type.__call__" ⟨.ref C :: us, kw⟩)).depth = A.depth + 1 := by
  first | rfl | simp [Around.under, Code.weight, Code.isCreation, Code.isGuard, Code.isCaller, Code.frames, Code.isFrame, guardIds]
theorem make_units {A : Around} {C : Addr} {us : List Value} {kw : List (Str × Value)} : (A.under (.builtin "type.__call__" ⟨.ref C :: us, kw⟩)).units = A.units + 1 := by
  first | rfl | simp [Around.under, Code.cUnits, Code.frames, Code.isFrame]
theorem Room.make {k : Nat} {A : Around} (r : Room (k + 1) A) (C : Addr) (us : List Value) (kw : List (Str × Value)) : Room k (A.under (.builtin "type.__call__" ⟨.ref C :: us, kw⟩)) :=
  ⟨r.hd, by have := r.dp; rw [make_depth]; omega, by have := r.un; rw [make_units]; omega⟩
theorem Room.depth {k : Nat} {A : Around} (r : Room k A) : A.depth < recursionLimit := by have := r.dp; omega

/-! ### argument lists and displays -/
def tNil : TA := fun _ H Q => Q [] H
def tCons (ta : TE) (tr : TA) : TA := fun σ H Q => ta σ H fun x H1 => tr σ H1 fun xs H2 => Q (x :: xs) H2
section
variable {X : Cx} {e : Expr} {es : List Expr} {te : TE} {t : TA} {pos : Pos}
theorem pa_nil : PA X [] tNil := fun _ _ _ _ H Q I h => Calls.spliced_nil ⟨[], H, I, .nil, h⟩
theorem pa_cons (ha : PE X e te) (hr : PA X es t) (hs : starEach (e :: es) X.env = (false, eval e X.env) :: starEach es X.env := by rfl) : PA X (e :: es) (tCons te t) := by
  intro pos pins s σ H Q I h
  rw [hs]
  show wpAny _ _ (spliced ((false, eval e X.env) :: backTo pos (starEach es X.env))) _ _ s
  refine Calls.spliced_cons (thn (ha pins s σ H _ I h) fun u s1 ⟨x, H1, I1, r1, q1⟩ => ?_)
  exact thn (hr pos pins s1 σ H1 _ I1 q1) fun us s2 ⟨xs, H2, I2, r2, q2⟩ => ⟨x :: xs, H2, I2, .cons r1 r2, q2⟩

/-- a tuple, a list of written items -/
def tTup (t : TA) : TE := fun σ H Q => t σ H fun xs H1 => xs.length ≤ sizeLine ∧ ∀ p, H1 p = none → Q (.ref p) (upd H1 p (.tup xs))
def tLst (t : TA) : TE := fun σ H Q => t σ H fun xs H1 => xs.length ≤ sizeLine ∧ ∀ p, H1 p = none → Q (.ref p) (upd H1 p (.lst xs))
theorem pe_tup {x1} (h : PA X es t) : PE X (.Tuple es x1 pos) (tTup t) := by
  intro pins s σ H Q I hq
  refine wpAny_Tuple_spliced (thn (h pos pins s σ H _ I hq) fun us s1 ⟨xs, H1, I1, r, z, q⟩ => ⟨by rw [← r.length]; exact z, ?_⟩)
  have hf : H1 s1.heap.objs.size = none := I1.hok.fresh (Nat.le_refl _)
  refine ⟨.ref s1.heap.objs.size, upd H1 s1.heap.objs.size (.tup xs), I1.laid (t' := s1.toks) (fun b u e => Heap.get?_push_of_some _ e) (Nat.le_refl _) ?_, rfl, q _ hf⟩
  exact ⟨z, us, r, ⟨_, Heap.get?_push_size _ rfl, rfl, _, rfl⟩⟩
theorem pe_lst (h : PA X es t) : PE X (.List es pos) (tLst t) := by
  intro pins s σ H Q I hq
  refine wpAny_List_spliced (thn (h pos pins s σ H _ I hq) fun us s1 ⟨xs, H1, I1, r, z, q⟩ => ⟨by rw [← r.length]; exact z, ?_⟩)
  have hf : H1 s1.heap.objs.size = none := I1.hok.fresh (Nat.le_refl _)
  refine ⟨.ref s1.heap.objs.size, upd H1 s1.heap.objs.size (.lst xs), I1.laid (t' := s1.toks) (fun b u e => Heap.get?_push_of_some _ e) (Nat.le_refl _) ?_, rfl, q _ hf⟩
  exact ⟨z, us, 0, r, Heap.get?_push_size _ rfl⟩
end

/-! ### what a def promises -/
/-- a def's promise: the bound arguments in the parameters' order, the heap, the wanted end, the wanted exception -/
abbrev Sp := List V → Hp → VK → XK → Prop
/-- how an exception lies behind a call (file 08 gives it): the callers' frames, abstract heap and state ahead of the call, the wish, the exception, the state -/
abbrev CXT := List Env → Hp → Shared → XK → Value → Shared → Prop

/-- the state at a call -/
structure Env0 (P : Program) (w : World) (K : PySem.W.Frag) (mg : Str → Option Value) (base : Heap) (A : Around) (outer : List Env) (s : Shared) (H : Hp) : Prop where
  frames : A.frames = some outer
  mod : Mod K mg base
  bs : ∀ b o, base.get? b = some o → s.heap.get? b = some o ∧ H b = none
  bsz : base.objs.size ≤ s.heap.objs.size
  funs : s.heap.FunFrames base outer
  frf : ∀ b ∈ frs outer, H b = none
  hok : HOk P w H s.heap
  bare : AllBare s.gens
/-- a call's end -/
def CE (outer : List Env) (P : Program) (w : World) (H : Hp) (s : Shared) (Q : VK) (u : Value) (s' : Shared) : Prop :=
  ∃ v H', s'.os = s.os ∧ AllBare s'.gens ∧ Un (frs outer) [] H H' s.heap s'.heap ∧ HOk P w H' s'.heap ∧ RelV v u ∧ Q v H'
def CR (CX : CXT) (outer : List Env) (P : Program) (w : World) (H : Hp) (s : Shared) (Q : VK) (E : XK) (r : Result) (s' : Shared) : Prop :=
  match r with
  | .ok (.ret u) => CE outer P w H s Q u s'
  | .ok _ => False
  | .error e => CX outer H s E e s'
structure FnOk (P : Program) (w : World) (K : PySem.W.Frag) (mg : Str → Option Value) (base : Heap) (CX : CXT) (k : Nat) (f : Addr) (fd : FuncData) (ps : List Str) (sp : Sp) : Prop where
  len : ∀ vs H Q E, sp vs H Q E → vs.length = ps.length
  run : ∀ (A : Around) (outer : List Env) (s : Shared) (H : Hp) (args : Args) (us : List Value) (vs : List V) (Q : VK) (E : XK), Room k A → Env0 P w K mg base A outer s H → BindsTo s fd args (ps.zip us) → Vals vs us → sp vs H Q E →
    codeAny (model P w) A (.call (.ref f) args) (CR CX outer P w H s Q E) s

theorem Env0.make {P : Program} {w : World} {K : PySem.W.Frag} {mg : Str → Option Value} {base : Heap} {A : Around} {outer : List Env} {s : Shared} {H : Hp} (e : Env0 P w K mg base A outer s H) (C : Addr) (us : List Value) (kw : List (Str × Value)) :
    Env0 P w K mg base (A.under (.builtin "type.__call__" ⟨.ref C :: us, kw⟩)) outer s H := ⟨by first | exact e.frames | (simpa [Around.under, Code.envs, Code.isFrame, pushEnvs] using e.frames), e.mod, e.bs, e.bsz, e.funs, e.frf, e.hok, e.bare⟩

section
variable {X : Cx} {pins : List (Addr × Obj)} {σ : St} {H : Hp} {s s' : Shared}
/-- from a body: what a callee wants -/
theorem Inv.env0 (I : Inv X pins σ H s) : Env0 X.prog X.w X.K X.mg X.base X.A X.stack s H :=
  ⟨I.ok.frames, I.ok.mod, I.bs, Nat.le_trans I.ok.bsz I.sz, I.stack, I.stkFree, I.hok, I.bare⟩
/-- behind a call -/
theorem Inv.after {Q : VK} {u : Value} (I : Inv X pins σ H s) (h : CE X.stack X.prog X.w H s Q u s') : EP X pins σ Q u s' := by
  obtain ⟨v, H', os, bare, un, hok, r, q⟩ := h
  obtain ⟨hh, g, d, t, os'⟩ := s'
  obtain rfl : os' = s.os := os
  exact ⟨v, H', I.call (h' := hh) (g' := g) (d' := d) (t' := t) (ch := []) un hok bare (fun b z => absurd z (by simp)), r, q⟩
end

/-! ### calls -/
/-- f(..): the written arguments, then the defaults dvs; E: what is wanted of an exception -/
def tCall (sp : Sp) (dvs : List V) (E : XK) (t : TA) : TE := fun σ H Q => t σ H fun vs H1 => sp (vs ++ dvs) H1 Q E
/-- o.m(..) of an instance of the class at C -/
def tMeth (C : Addr) (m : Str) (sp : Sp) (dvs : List V) (E : XK) (ta : TE) (t : TA) : TE := fun σ H Q => ta σ H fun x H1 => ∃ a dx fs, x = .ref a ∧ H1 a = some (.ins C dx fs) ∧ fs.lookup m = none ∧
  t σ H1 fun vs H2 => sp (x :: (vs ++ dvs)) H2 Q E
/-- C(..): a new instance and its dict, then __init__ -/
def tMake (C : Addr) (sp : Sp) (dvs : List V) (E : XK) (t : TA) : TE := fun σ H Q => t σ H fun vs H1 => ∀ x dx, H1 x = none → H1 dx = none → dx ≠ x →
  sp (.ref x :: (vs ++ dvs)) (upd (upd H1 dx (.own x)) x (.ins C dx [])) (fun v H2 => v = .non ∧ Q (.ref x) H2) E

/-- how the parameters are bound: us the positional arguments, kw the keywords' values by name, ds the defaults that fill up -/
def Binds (K : PySem.W.Frag) (fd : FuncData) (ps : List Str) (ds : List Value) : Prop :=
  ∀ (s : Shared) (us : List Value), K.In s.heap → (us ++ ds).length = ps.length → BindsTo s fd ⟨us, []⟩ (ps.zip (us ++ ds))
/-- every parameter is given -/
theorem Binds.all {K : PySem.W.Frag} {fd : FuncData} {ps : List Str} (h : ∀ us : List Value, us.length = ps.length → bindArgs fd ⟨us, []⟩ = pure (ps.zip us)) : Binds K fd ps [] := fun s us _ hl => by
  rw [List.append_nil] at hl ⊢
  exact .of_eq (h us hl)

/-- an exception of a callee reaches what this body wants of exceptions -/
def Passes (CX : CXT) (X : Cx) (E : XK) : Prop := ∀ (pins : List (Addr × Obj)) (σ : St) (H : Hp) (s : Shared) (e : Value) (s' : Shared), Inv X pins σ H s → CX X.stack H s E e s' → X.xe e s'

section
variable {X : Cx} {CX : CXT} {k : Nat} {f C : Addr} {fd : FuncData} {ps : List Str} {sp : Sp} {dvs : List V} {ds : List Value} {E : XK} {x m : Str} {p pos apos : Pos} {e o : Expr} {es : List Expr} {ta : TE} {t : TA}

/-- the callee runs -/
theorem run_fn {pins : List (Addr × Obj)} {σ : St} {H : Hp} {s : Shared} {Q : VK} {us : List Value} {vs : List V} (F : FnOk X.prog X.w X.K X.mg X.base CX k f fd ps sp) (hr : Room k X.A) (hb : Binds X.K fd ps ds) (hd : Vals dvs ds) (hx : Passes CX X E)
    (I : Inv X pins σ H s) (r : Vals vs us) (h : sp (vs ++ dvs) H Q E) : wpAny (model X.prog X.w) X.A (call (.ref f) us) (EP X pins σ Q) X.xe s := by
  have r2 : Vals (vs ++ dvs) (us ++ ds) := r.append hd
  have hl : (us ++ ds).length = ps.length := by rw [← r2.length]; exact F.len _ _ _ _ h
  refine wpAny_call (codeAny_mono (F.run X.A X.stack s H ⟨us, []⟩ (us ++ ds) (vs ++ dvs) Q E hr I.env0 (hb s us I.kIn hl) r2 h) fun r s' hq => ?_)
  cases r with
  | error e => exact hx pins σ H s e s' I hq
  | ok fl =>
    cases fl with
    | ret u => exact I.after hq
    | next => exact False.elim hq
    | brk => exact False.elim hq
    | cont => exact False.elim hq

theorem pe_call (F : FnOk X.prog X.w X.K X.mg X.base CX k f fd ps sp) (hr : Room k X.A) (hg : Gl X x) (hm : X.mg x = some (.ref f)) (hk : PySem.W.keepIn X.K (.ref f) = true) (hb : Binds X.K fd ps ds) (hd : Vals dvs ds) (hx : Passes CX X E)
    (ha : PA X (e :: es) t) (hdb : (x == ("__debug__" : Str)) = false := by decide) (he : starEach (e :: es) X.env = (false, eval e X.env) :: starEach es X.env := by rfl) (hpl : (backTo pos (starEach es X.env)).any (·.1) = false := by rfl) :
    PE X (.Call (.Name x p) (e :: es) [] pos) (tCall sp dvs E t) := by
  intro pins s σ H Q I h
  refine wpAny_Call_Name_kw (ld_glob I hg hm ?_ hdb)
  refine PySem.W.callWith_K (h₀ := X.base) I.ok.mod.kin hk (thn (ha pos pins s σ H _ I h) fun us s1 ⟨vs, H1, I1, r, q⟩ => ⟨I1.kIn, ?_⟩) he hpl
  exact run_fn F hr hb hd hx I1 r q

/-- o.m(e, ..) -/
theorem pe_meth {pl : Sem Bool} (he : PE X o ta) (c : Cls X.K C) (hm : Meth X.K C m f) (F : FnOk X.prog X.w X.K X.mg X.base CX k f fd ps sp) (hr : Room k X.A) (hb : Binds X.K fd ps ds) (hd : Vals dvs ds) (hx : Passes CX X E) (ha : PA X (e :: es) t)
    (hst : starEach (e :: es) X.env = (false, eval e X.env) :: starEach es X.env := by rfl) (hpl : (backTo pos (starEach es X.env)).any (·.1) = false := by rfl)
    (ht : eval (.Call (.Attribute o m apos) (e :: es) [] pos) X.env = (do
      let ov ← eval o X.env
      standAt apos.atName
      let (f, first) ← holding [ov] (getMethod ov m pl)
      callWith pos f first (backTo pos (starEach (e :: es) X.env)) (backToKw pos (keywordEach [] X.env))) := by rfl) :
    PE X (.Call (.Attribute o m apos) (e :: es) [] pos) (tMeth C m sp dvs E ta t) := by
  intro pins s σ H Q I h
  refine PySem.W.methodCall_KW (pl := pl) (thn (he pins s σ H _ I h) fun u s1 ⟨x, H1, I1, rx, a, dx, fs, ex, ea, l, q⟩ => ?_) ht
  subst ex
  obtain rfl : u = Value.ref a := rx
  refine getmeth_ok I1 ea c hm l ?_
  refine PySem.W.callWith_K (first := [.ref a]) (h₀ := X.base) I.ok.mod.kin hm.kp (thn (ha pos pins s1 σ H1 _ I1 q) fun us s2 ⟨vs, H2, I2, r, q2⟩ => ⟨I2.kIn, ?_⟩) hst hpl
  exact run_fn (us := .ref a :: us) (vs := .ref a :: vs) F hr hb hd hx I2 (.cons rfl r) q2

/-- what a class must have to be made -/
structure Mk (K : PySem.W.Frag) (C f : Addr) : Prop where
  makes : PySem.W.makesIn K C = true
  init : PySem.W.findIn K (.ref C) "__init__" = some (some (.ref f))
  fn : PySem.W.isFn K (.ref f) = true
  kp : PySem.W.keepIn K (.ref C) = true

theorem run_make {pins : List (Addr × Obj)} {σ : St} {H : Hp} {s : Shared} {Q : VK} {us : List Value} {vs : List V} (M : Mk X.K C f) (F : FnOk X.prog X.w X.K X.mg X.base CX k f fd ps sp) (hr : Room (k + 1) X.A) (hb : Binds X.K fd ps ds) (hd : Vals dvs ds)
    (hx : Passes CX X E) (I : Inv X pins σ H s) (r : Vals vs us)
    (h : ∀ x dx, H x = none → H dx = none → dx ≠ x → sp (.ref x :: (vs ++ dvs)) (upd (upd H dx (.own x)) x (.ins C dx [])) (fun v H2 => v = .non ∧ Q (.ref x) H2) E) :
    wpAny (model X.prog X.w) X.A (call (.ref C) us) (EP X pins σ Q) X.xe s := by
  have hq := h (s.heap.objs.size + 1) s.heap.objs.size (I.hok.fresh (Nat.le_succ _)) (I.hok.fresh (Nat.le_refl _)) (Nat.ne_of_lt (Nat.lt_succ_self _))
  have I2 := Inv.made (C := C) I
  have r2 : Vals (V.ref (s.heap.objs.size + 1) :: (vs ++ dvs)) (Value.ref (s.heap.objs.size + 1) :: (us ++ ds)) := .cons rfl (r.append hd)
  have hl : (Value.ref (s.heap.objs.size + 1) :: us ++ ds).length = ps.length := by
    have e := r2.length
    rw [F.len _ _ _ _ hq] at e
    exact e.symm
  refine wpAny_call (make_map (f := f) I.kIn M.makes M.init (beq_iff_eq.mp M.fn) (codeAny_mono (F.run _ X.stack _ _ ⟨Value.ref (s.heap.objs.size + 1) :: us, []⟩ (Value.ref (s.heap.objs.size + 1) :: (us ++ ds)) _ _ E (hr.make C us [])
    (I2.env0.make C us []) (hb _ (Value.ref (s.heap.objs.size + 1) :: us) I2.kIn hl) r2 hq) fun r s' hq' => ?_))
  cases r with
  | error e => exact hx pins σ _ _ e s' I2 hq'
  | ok fl =>
    cases fl with
    | ret u =>
      obtain ⟨v, H', I3, rv, ev, q3⟩ := I2.after hq'
      subst ev
      exact ⟨rv, ⟨V.ref (s.heap.objs.size + 1), H', I3, rfl, q3⟩⟩
    | next => exact False.elim hq'
    | brk => exact False.elim hq'
    | cont => exact False.elim hq'
theorem pe_make (M : Mk X.K C f) (F : FnOk X.prog X.w X.K X.mg X.base CX k f fd ps sp) (hr : Room (k + 1) X.A) (hg : Gl X x) (hm : X.mg x = some (.ref C)) (hb : Binds X.K fd ps ds) (hd : Vals dvs ds) (hx : Passes CX X E)
    (ha : PA X (e :: es) t) (hdb : (x == ("__debug__" : Str)) = false := by decide) (he : starEach (e :: es) X.env = (false, eval e X.env) :: starEach es X.env := by rfl) (hpl : (backTo pos (starEach es X.env)).any (·.1) = false := by rfl) :
    PE X (.Call (.Name x p) (e :: es) [] pos) (tMake C sp dvs E t) := by
  intro pins s σ H Q I h
  refine wpAny_Call_Name_kw (ld_glob I hg hm ?_ hdb)
  refine PySem.W.callWith_K (h₀ := X.base) I.ok.mod.kin M.kp (thn (ha pos pins s σ H _ I h) fun us s1 ⟨vs, H1, I1, r, q⟩ => ⟨I1.kIn, ?_⟩) he hpl
  exact run_make M F hr hb hd hx I1 r q
theorem pe_make0 (M : Mk X.K C f) (F : FnOk X.prog X.w X.K X.mg X.base CX k f fd ps sp) (hr : Room (k + 1) X.A) (hg : Gl X x) (hm : X.mg x = some (.ref C)) (hb : Binds X.K fd ps ds) (hd : Vals dvs ds) (hx : Passes CX X E)
    (hdb : (x == ("__debug__" : Str)) = false := by decide) : PE X (.Call (.Name x p) [] [] pos) (tMake C sp dvs E tNil) := by
  intro pins s σ H Q I h
  refine wpAny_Call_Name_kw (ld_glob I hg hm ?_ hdb)
  exact PySem.W.callWith_K0 I.kIn M.kp (run_make (us := []) M F hr hb hd hx I .nil h)
end

/-! ### keywords -/
section
variable {X : Cx} {CX : CXT} {k : Nat} {f C : Addr} {fd : FuncData} {ps ks : List Str} {sp : Sp} {E : XK} {x m : Str} {p pos apos kpos : Pos} {e o : Expr} {es : List Expr} {kws : List Keyword} {te ta : TE} {t tk : TA} {nm : Option Str}

variable {g : List Value → List Value → List Value} {gV : List V → List V → List V}
end

/-! ### a def's body keeps its promise -/
/-- names: the parameters first -/
structure FnScope (N P : List Str) (sc : Scope) : Prop where
  kind : sc.kind = .function
  co : sc.isCoroutine = false
  gen : sc.isGenerator = false
  nd : N.Nodup
  pre : N.take P.length = P
  par : ∀ x ∈ P, sc.names.lookup x = some .local ∨ sc.names.lookup x = some .cell
  nofree : ∀ y ∈ sc.names, y.2 ≠ .free

theorem bindL_out {kindOf : Str → Option NameKind} {x : Str} : ∀ {binds : List (Str × Value)} {m : Str → Option Value}, (∀ v, (x, v) ∉ binds) → bindL kindOf binds m x = m x
  | [], _, _ => rfl
  | (n, v) :: r, m, h => by
    unfold bindL
    rw [bindL_out fun w hw => h w (List.mem_cons_of_mem _ hw)]
    split
    · have : x ≠ n := by rintro rfl; exact h v List.mem_cons_self
      simp [this]
    · rfl
theorem bindC_out {kindOf : Str → Option NameKind} {x : Str} : ∀ {binds : List (Str × Value)} {m : Str → Option Value}, (∀ v, (x, v) ∉ binds) → bindC kindOf binds m x = m x
  | [], _, _ => rfl
  | (n, v) :: r, m, h => by
    unfold bindC
    rw [bindC_out fun w hw => h w (List.mem_cons_of_mem _ hw)]
    split
    · rfl
    · have : x ≠ n := by rintro rfl; exact h v List.mem_cons_self
      simp [this]
theorem bindL_get {kindOf : Str → Option NameKind} {x : Str} {v : Value} : ∀ {P : List Str} {vs : List Value} {i : Nat} {m : Str → Option Value}, P.Nodup → P[i]? = some x → vs[i]? = some v → kindOf x = some .local →
    bindL kindOf (P.zip vs) m x = some v
  | [], _, _, _, _, h, _, _ => by simp at h
  | _ :: _, [], _, _, _, _, h, _ => by simp at h
  | p :: P, w :: vs, 0, m, nd, h1, h2, hk => by
    simp at h1 h2; subst h1; subst h2
    show bindL kindOf ((p, w) :: P.zip vs) m p = _
    unfold bindL
    rw [bindL_out fun v hv => (List.nodup_cons.mp nd).1 (List.of_mem_zip hv).1, if_pos hk]
    simp
  | p :: P, w :: vs, i + 1, m, nd, h1, h2, hk => by
    show bindL kindOf ((p, w) :: P.zip vs) m x = _
    unfold bindL
    exact bindL_get (i := i) (List.nodup_cons.mp nd).2 (by simpa using h1) (by simpa using h2) hk
theorem bindC_get {kindOf : Str → Option NameKind} {x : Str} {v : Value} : ∀ {P : List Str} {vs : List Value} {i : Nat} {m : Str → Option Value}, P.Nodup → P[i]? = some x → vs[i]? = some v → kindOf x ≠ some .local →
    bindC kindOf (P.zip vs) m x = some v
  | [], _, _, _, _, h, _, _ => by simp at h
  | _ :: _, [], _, _, _, _, h, _ => by simp at h
  | p :: P, w :: vs, 0, m, nd, h1, h2, hk => by
    simp at h1 h2; subst h1; subst h2
    show bindC kindOf ((p, w) :: P.zip vs) m p = _
    unfold bindC
    rw [bindC_out fun v hv => (List.nodup_cons.mp nd).1 (List.of_mem_zip hv).1, if_neg hk]
    simp
  | p :: P, w :: vs, i + 1, m, nd, h1, h2, hk => by
    show bindC kindOf ((p, w) :: P.zip vs) m x = _
    unfold bindC
    exact bindC_get (i := i) (List.nodup_cons.mp nd).2 (by simpa using h1) (by simpa using h2) hk

/-- the names' values at the entry -/
def start (N : List Str) (vs : List V) : St := vs.map some ++ List.replicate (N.length - vs.length) none

/-- the context of a def's body, at its entry; an exception leaves the frame, then lies as CX says -/
def cxOf (CX : CXT) (P : Program) (w : World) (K : PySem.W.Frag) (mg : Str → Option Value) (base : Heap) (N : List Str) (qual : Str) (scope : Scope) (f : Addr) (cd : Value) (A : Around) (outer : List Env) (s : Shared) (H : Hp) (E : XK) : Cx where
  prog := P
  w := w
  K := K
  mg := mg
  base := base
  A := A.deeper (envOfC qual scope s.heap.objs.size f cd)
  N := N
  s_0 := s
  H_0 := H
  env := envOfC qual scope s.heap.objs.size f cd
  outer := outer
  stack := envOfC qual scope s.heap.objs.size f cd :: outer
  ex := []
  calm := true
  fn := fun _ => true
  pn := []
  xe := fun e s' => wpAny (model P w) (A.deeper (envOfC qual scope s.heap.objs.size f cd)) (leaving (envOfC qual scope s.heap.objs.size f cd) e) (fun _ s'' => CX outer H s E e s'') (fun e' s'' => CX outer H s E e' s'') s'

theorem cell_has {sc : Scope} {n : Nat} {x : Str} (h : sc.names.lookup x = some .cell) : ∃ c, (cellsFrom n sc.names []).lookup x = some c := by
  have q := PySem.W.cellsFrom_some sc.names n [] (.inl h)
  exact Option.isSome_iff_exists.mp q

theorem inv_start {CX : CXT} {P : Program} {w : World} {K : PySem.W.Frag} {mg : Str → Option Value} {base : Heap} {N ps : List Str} {qual : Str} {scope : Scope} {f : Addr} {cd : Value} {A : Around} {outer : List Env} {s s1 : Shared} {H : Hp} {E : XK} {us : List Value} {vs : List V}
    (S : FnScope N ps scope) (hd : A.handled = none) (e0 : Env0 P w K mg base A outer s H) (hl : vs.length = ps.length) (r : Vals vs us)
    (x : InCallC s s.heap.objs.size (bindL (envOfC qual scope s.heap.objs.size f cd).kindOf (ps.zip us) fun _ => none) (cellsFrom (s.heap.objs.size + 1) scope.names []) (bindC (envOfC qual scope s.heap.objs.size f cd).kindOf (ps.zip us) fun _ => none) s1) :
    Inv (cxOf CX P w K mg base N qual scope f cd A outer s H E) [] (start N vs) H s1 := by
  have hpl : ps.length ≤ N.length := by have := congrArg List.length S.pre; rw [List.length_take] at this; omega
  obtain ⟨h1, tk, rfl, hk⟩ := x.done
  have noA : ∀ b : Addr, b ∉ (cxOf CX P w K mg base N qual scope f cd A outer s H E).ex := fun b z => absurd (show b ∈ ([] : List Addr) from z) (by simp)
  refine ⟨⟨e0.mod, S.kind, rfl, rfl, Nat.le_refl _, fun y z c h1 h2 => ?_, fun y hy => ?_, fun y c _ h => ?_, fun _ => hd, Around.frames_deeper e0.frames, .inr ⟨rfl, rfl⟩, fun b z => absurd z (noA b), e0.bs, e0.bsz, fun b _ _ => noA b, fun b z => absurd z (noA b), e0.funs, e0.frf⟩,
    rfl, e0.bare, Un.kept hk, ⟨_, x.toInCall.ns, fun i y v h1 h2 h3 => ?_⟩, fun y c h => ⟨_, x.cell y c h⟩, e0.hok.fresh (Nat.le_refl _), fun y c h => ?_, fun p hp => absurd (show p ∈ ([] : List (Addr × Obj)) from hp) (by simp), e0.hok.kept hk, ?_⟩
  · exact name_of_addr x.apart (PySem.mem_of_lookup h1) (PySem.mem_of_lookup h2)
  · have hy : scope.names.lookup y = some .cell ∨ scope.names.lookup y = some .free := hy
    rcases hy with hy | hy
    · exact cell_has hy
    · exact absurd rfl (S.nofree _ (PySem.mem_of_lookup hy))
  · exact Nat.le_of_lt (x.above y c (PySem.mem_of_lookup h))
  · have hi : i < vs.length := by
      unfold start at h2
      by_cases hi : i < vs.length
      · exact hi
      · rw [List.getElem?_append_right (by simpa using hi)] at h2
        rw [List.getElem?_replicate] at h2
        split at h2 <;> cases h2
    have ha : vs[i]? = some v := by
      unfold start at h2
      rw [List.getElem?_append_left (by simpa using hi), List.getElem?_map] at h2
      cases e : vs[i]? with
      | none => rw [e] at h2; cases h2
      | some a => rw [e] at h2; cases h2; rfl
    obtain ⟨u, hu, rv⟩ := r.get ha
    have hp : ps[i]? = some y := by
      rw [← S.pre, List.getElem?_take_of_lt (by omega)]; exact h1
    have ndP : ps.Nodup := by rw [← S.pre]; exact S.nd.sublist (List.take_sublist _ _)
    refine ⟨u, rv, ?_⟩
    rcases S.par y (List.mem_of_getElem? hp) with k | k
    · exact .inl ⟨k, bindL_get ndP hp hu k⟩
    · obtain ⟨c, e⟩ := cell_has (n := s.heap.objs.size + 1) k
      refine .inr ⟨.inl k, c, e, ?_⟩
      have q := x.cell y c e
      rw [bindC_get ndP hp hu (by show scope.names.lookup y ≠ _; rw [k]; decide)] at q
      exact q
  · exact e0.hok.fresh (Nat.le_of_lt (x.above y c (PySem.mem_of_lookup h)))
  · unfold start
    show _ = N.length
    rw [List.length_append, List.length_map, List.length_replicate]
    omega

/-- THE RULE: a def (or a method) of the text, by its body. The body's reading t is chosen for each entry; it is run at the parameters' values -/
theorem fn_of {CX : CXT} {P : Program} {w : World} {K : PySem.W.Frag} {mg : Str → Option Value} {base : Heap} {k : Nat} {f : Addr} {name qual : Str} {params : Arguments} {body : List Stmt} {scope : Scope} {dV kV doc pm cdv ct oc : Value} {an od : Option Addr}
    {osl : Array (Option Value)} {N ps : List Str} {sp : Sp} (lk : K.lookup f = some ⟨oc, od, .func (PySem.W.fnOf name qual params body scope dV kV doc pm an cdv ct), osl⟩) (hcd : PySem.W.codeIn K cdv qual = true) (S : FnScope N ps scope)
    (len : ∀ vs H Q E, sp vs H Q E → vs.length = ps.length)
    (hbody : ∀ (A : Around) (outer : List Env) (s : Shared) (H : Hp) (vs : List V) (Q : VK) (E : XK), Room k (A.deeper (envOfC qual scope s.heap.objs.size f cdv)) → sp vs H Q E →
      ∃ t, PSs (cxOf CX P w K mg base N qual scope f cdv A outer s H E) body t ∧ t { nx := fun _ H' => Q .non H', rt := Q } (start N vs) H) :
    FnOk P w K mg base CX (k + 1) f (PySem.W.fnOf name qual params body scope dV kV doc pm an cdv ct) ps sp := by
  refine ⟨len, fun A outer s H args us vs Q E hr e0 hb r hsp => ?_⟩
  have hl := len _ _ _ _ hsp
  have KX : K.In s.heap := e0.mod.kin.keeps fun b o e => (e0.bs b o e).1
  have lim : s.heap.NoLimit := e0.mod.nolimit.keeps fun b o e => (e0.bs b o e).1
  have hkind : ∀ y ∈ ps.zip us, scope.names.lookup y.1 = some .local ∨ (scope.names.lookup y.1 = some .cell ∧ ((cellsFrom (s.heap.objs.size + 1) scope.names []).lookup y.1).isSome = true) := fun ⟨n, v⟩ hy => by
    rcases S.par n (List.of_mem_zip hy).1 with q | q
    · exact .inl q
    · exact .inr ⟨q, PySem.W.cellsFrom_some _ _ _ (.inl q)⟩
  refine codeAny_call_function hr.depth (KX _ _ lk) rfl S.co S.gen rfl (PySem.W.codeRec_of KX hcd) (hb _ _ _ _ ?_)
  refine wpAny_newFunctionEnv_cells S.kind hkind fun env he s1 x => ?_
  subst he
  refine ⟨lim.keeps x.toInCall.keep, codeAny_func ?_⟩
  obtain ⟨t, ht, hq⟩ := hbody A outer s H vs Q E (hr.deeper _) hsp
  have I : Inv (cxOf CX P w K mg base N qual scope f cdv A outer s H E) [] (start N vs) H s1 := inv_start S hr.hd e0 hl r x
  refine wpAny_mono (ht [] s1 (start N vs) H _ I hq) (fun fl s' hs => ?_) fun e s' hs => hs
  have fin : ∀ {σ' : St} {H' : Hp} {v : V} {u : Value}, Inv (cxOf CX P w K mg base N qual scope f cdv A outer s H E) [] σ' H' s' → RelV v u → Q v H' → CE outer P w H s Q u s' :=
    fun {σ' H' v u} J rv q => ⟨v, H', J.os, J.bare, J.base, J.hok, rv, q⟩
  cases fl with
  | ret u =>
    obtain ⟨v, σ', H', J, rv, q⟩ := hs
    exact fin J rv q
  | next =>
    obtain ⟨σ', H', J, q⟩ := hs
    exact fin (v := V.non) (u := Value.none) J rfl q
  | brk =>
    obtain ⟨_, _, _, q⟩ := hs
    exact False.elim q
  | cont =>
    obtain ⟨_, _, _, q⟩ := hs
    exact False.elim q
end L2

namespace L2
open PySem PySem.Spec PyProof.Rows
section
variable {X : Cx} {x : Str} {p pos : Pos} {e : Expr} {es : List Expr} {t : TA} {id T : String} {r : List V → Hp → VK → Prop}

def tCB (r : List V → Hp → VK → Prop) (t : TA) : TE := fun σ H Q => t σ H fun vs H1 => r vs H1 Q
/-- f(e, ..), f a built-in function -/
theorem pe_callB (hc : CallR X (.builtin id) r) (hg : Gl X x) (hm : X.mg x = none) (hv : bootBuiltins x = some (.builtin id)) (ha : PA X (e :: es) t) (hn : x ≠ "__name__" := by decide) (hdb : (x == ("__debug__" : Str)) = false := by decide)
    (he : starEach (e :: es) X.env = (false, eval e X.env) :: starEach es X.env := by rfl) (hpl : (backTo pos (starEach es X.env)).any (·.1) = false := by rfl) : PE X (.Call (.Name x p) (e :: es) [] pos) (tCB r t) := by
  intro pins s σ H Q I h
  refine wpAny_Call_Name_kw (ld_blt I hg hm hv ?_ hn hdb)
  exact PyProof.Rows.callWith_builtin1 (thn (ha pos pins s σ H _ I h) fun us s1 ⟨vs, H1, I1, r1, q1⟩ => hc pins s1 σ H1 vs us Q I1 r1 q1) he hpl
/-- T(e, ..), T a built-in type -/
theorem pe_callTy (hc : CallR X (.type T) r) (hg : Gl X x) (hm : X.mg x = none) (hv : bootBuiltins x = some (.type T)) (ha : PA X (e :: es) t) (hn : x ≠ "__name__" := by decide) (hdb : (x == ("__debug__" : Str)) = false := by decide)
    (he : starEach (e :: es) X.env = (false, eval e X.env) :: starEach es X.env := by rfl) (hpl : (backTo pos (starEach es X.env)).any (·.1) = false := by rfl) : PE X (.Call (.Name x p) (e :: es) [] pos) (tCB r t) := by
  intro pins s σ H Q I h
  refine wpAny_Call_Name_kw (ld_blt I hg hm hv ?_ hn hdb)
  exact PyProof.Rows.callWith_type1 (thn (ha pos pins s σ H _ I h) fun us s1 ⟨vs, H1, I1, r1, q1⟩ => hc pins s1 σ H1 vs us Q I1 r1 q1) he hpl
end
end L2

namespace HT
open PySem PyProof.Rows



section
open PySem.SeqAt
open PySem.AutoSeq1 (wpAny_loadPart')
open PySem.MeetsSeq PySem.MeetsSeq2 PySem.MeetsSeq3

end

section
variable {prog : Program} {w : World} {A : Around} {E : Value → Shared → Prop} {s : Shared}



/-! ### t[a:b], not the whole -/
/-- a slice's bound as a place among n (d where it is left out) -/
def sIx (n d : Nat) : Option Int → Nat
  | none => d
  | some v => if v < 0 then (v + (n : Int)).toNat else min v.toNat n
theorem sIx_nat (n d k : Nat) : sIx n d (some (k : Int)) = min k n := by
  show (if (k : Int) < 0 then ((k : Int) + (n : Int)).toNat else min (k : Int).toNat n) = min k n
  rw [if_neg (by omega), Int.toNat_natCast]

end
end HT

namespace L2
open PySem PySem.Spec PyProof.Rows

/-! ### the parts of a slice -/
abbrev TO := St → Hp → (Option Int → Hp → Prop) → Prop
/-- a slice's part (left out, or an int) -/
def PO (X : Cx) (e : Option Expr) (t : TO) : Prop :=
  ∀ (pins : List (Addr × Obj)) (s : Shared) (σ : St) (H : Hp) (Q : Option Int → Hp → Prop), Inv X pins σ H s → t σ H Q →
    wpAny (model X.prog X.w) X.A (evalPart e X.env) (fun u s' => ∃ o H', Inv X pins σ H' s' ∧ IsPart u o ∧ Q o H') X.xe s
def tPart (t : TE) : TO := fun σ H Q => t σ H fun x H1 => ∃ i, x = .int i ∧ Q (some i) H1


section
variable {X : Cx} {e : Expr} {te : TE} {lo hi : Option Expr} {tl th : TO} {pos p2 : Pos}

theorem po_some (h : PE X e te) : PO X (some e) (tPart te) := by
  intro pins s σ H Q I hw
  rw [evalPart_some]
  refine thn (h pins s σ H _ I hw) fun u s1 ⟨x, H1, I1, r1, q1⟩ => ?_
  obtain ⟨i, rfl, q⟩ := q1
  obtain ⟨t, rfl⟩ := r1
  exact ⟨some i, H1, I1, .int i t, q⟩

/-- what a slice of a value is, by values: the slice object stands at sl -/
def SlR (X : Cx) (r : V → Option Int → Option Int → Hp → VK → Prop) : Prop :=
  ∀ (pins : List (Addr × Obj)) (s : Shared) (σ : St) (H : Hp) (x : V) (v vl vu : Value) (lo hi : Option Int) (sl : Addr) (Q : VK), Inv X pins σ H s → RelV x v → s.heap.IsSliceOf sl vl vu .none → IsPart vl lo → IsPart vu hi → r x lo hi H Q →
    ∃ T id, typeLookup (.type T) "__getitem__" = pure (some (.builtin id)) ∧ s.TypeIs v T ∧ wpAny (model X.prog X.w) X.A (getItem v (.ref sl)) (EP X pins σ Q) X.xe s
def tSl (r : V → Option Int → Option Int → Hp → VK → Prop) (te : TE) (tl th : TO) : TE := fun σ H Q => te σ H fun x H1 => tl σ H1 fun l H2 => th σ H2 fun u H3 => r x l u H3 Q
/-- a[lo:hi], any a -/
theorem pe_slice {r : V → Option Int → Option Int → Hp → VK → Prop} (hr : SlR X r) (he : PE X e te) (hl : PO X lo tl) (hu : PO X hi th) : PE X (.Subscript e (.Slice lo hi none p2) pos) (tSl r te tl th) := by
  intro pins s σ H Q I h
  refine Subscript_ (thn (he pins s σ H _ I h) fun v s1 ⟨x, H1, I1, r1, q1⟩ => ?_)
  refine wpAny_Slice (thn (hl pins s1 σ H1 _ I1 q1) fun vl s2 ⟨l, H2, I2, pl, q2⟩ => thn (hu pins s2 σ H2 _ I2 q2) fun vu s3 ⟨u, H3, I3, pu, q3⟩ => ?_)
  rw [evalPart_none]
  refine wpAny_pure ?_
  have I4 : Inv X pins σ H3 { s3 with heap := s3.heap.push { cls := .type "slice", data := .fields #[vl, vu, .none] } } := I3.kept (t' := s3.toks) fun b ob q => Heap.get?_push_of_some _ q
  obtain ⟨T, id, hT, ht, hg⟩ := hr pins { s3 with heap := s3.heap.push { cls := .type "slice", data := .fields #[vl, vu, .none] } } σ H3 x v vl vu l u s3.heap.objs.size Q I4 r1 (Heap.IsSliceOf.new ..) pl pu q3
  show wpAny (model X.prog X.w) X.A (subscriptTail e (.Slice lo hi none p2) v (.ref s3.heap.objs.size)) (EP X pins σ Q) X.xe { s3 with heap := s3.heap.push { cls := .type "slice", data := .fields #[vl, vu, .none] } }
  exact tail_any (ops := [.ref s3.heap.objs.size, v]) ht hT hg (by with_unfolding_all rfl)

/-- the items of xs[lo:hi] -/
def cutV (xs : List V) (lo hi : Option Int) : List V := (xs.drop (HT.sIx xs.length 0 lo)).take (HT.sIx xs.length xs.length hi - HT.sIx xs.length 0 lo)
theorem cutV_length (xs : List V) (lo hi : Option Int) : (cutV xs lo hi).length ≤ xs.length := by
  unfold cutV
  rw [List.length_take, List.length_drop]
  omega

/-! ### t < u, t + u -/
end
end L2

namespace L2
open PySem PySem.Spec PyProof.Rows

/-! ### places -/
/-- the place that an index of any sign means -/
def ixN (n : Nat) (i : Int) : Option Nat := if 0 ≤ i then (if i < n then some i.toNat else none) else if -(n : Int) ≤ i then some (i + n).toNat else none
def atI {α : Type} (xs : List α) (i : Int) : Option α := (ixN xs.length i).bind fun j => xs[j]?
theorem ixN_seq {n : Nat} {i : Int} {j : Nat} (h : ixN n i = some j) : seqIndex? i n = some j ∧ j < n ∧ -(n : Int) ≤ i ∧ i < n := by
  unfold ixN at h
  by_cases h0 : 0 ≤ i
  · rw [if_pos h0] at h
    by_cases h1 : i < n
    · rw [if_pos h1] at h
      have e : i.toNat = j := Option.some.inj h
      exact ⟨by rw [seqIndex_of h0 h1, e], by omega, by omega, h1⟩
    · rw [if_neg h1] at h; cases h
  · rw [if_neg h0] at h
    by_cases h1 : -(n : Int) ≤ i
    · rw [if_pos h1] at h
      have e : (i + n).toNat = j := Option.some.inj h
      exact ⟨by rw [seqIndex_neg (by omega) h1, e], by omega, h1, by omega⟩
    · rw [if_neg h1] at h; cases h
theorem atI_get {α : Type} {xs : List α} {i : Int} {v : α} (h : atI xs i = some v) : ∃ j, seqIndex? i xs.length = some j ∧ xs[j]? = some v ∧ j < xs.length ∧ -(xs.length : Int) ≤ i ∧ i < xs.length := by
  unfold atI at h
  cases e : ixN xs.length i with
  | none => rw [e] at h; cases h
  | some j =>
    rw [e] at h
    obtain ⟨h1, h2, h3, h4⟩ := ixN_seq e
    exact ⟨j, h1, h, h2, h3, h4⟩
theorem atI_nat {α : Type} {xs : List α} {j : Nat} {v : α} (h : xs[j]? = some v) : atI xs (j : Int) = some v := by
  have hj : j < xs.length := (List.getElem?_eq_some_iff.mp h).1
  have e : ixN xs.length (j : Int) = some j := by
    unfold ixN
    rw [if_pos (by omega), if_pos (by omega)]; simp
  unfold atI; rw [e]; exact h

/-! ### what may be subscripted -/
/-- what stands as an index of a plain subscript -/
def PlainIx (b : Expr) : Prop := ∀ o i, subscripted b false o i = operate [o, i] (getItem o i)
/-- a subscript by values -/
def IxR (X : Cx) (r : R2) : Prop :=
  ∀ (value slice : Expr) (pins : List (Addr × Obj)) (s : Shared) (σ : St) (H : Hp) (x y : V) (v u : Value) (Q : VK), Inv X pins σ H s → RelV x v → RelV y u → r x y H Q →
    subscripted slice false v u = operate [v, u] (getItem v u) → wpAny (model X.prog X.w) X.A (subscriptTail value slice v u) (EP X pins σ Q) X.xe s
/-- a call of a builtin's method by values: the receiver, the arguments -/
def MtR (X : Cx) (id : String) (r : V → List V → Hp → VK → Prop) : Prop :=
  ∀ (pins : List (Addr × Obj)) (s : Shared) (σ : St) (H : Hp) (x : V) (xs : List V) (v : Value) (us : List Value) (Q : VK), Inv X pins σ H s → RelV x v → Vals xs us → r x xs H Q →
    wpAny (model X.prog X.w) X.A (call (.builtin id) (v :: us)) (EP X pins σ Q) X.xe s
section
variable {X : Cx} {a b : Expr} {ta tb : TE} {pos : Pos}
/-- a[b] -/
theorem pe_ix {r : R2} (hr : IxR X r) (ha : PE X a ta) (hb : PE X b tb) (hs : PlainIx b) : PE X (.Subscript a b pos) (tOp r ta tb) := by
  intro pins s σ H Q I h
  exact Subscript_ (binT ha hb I h fun v u s2 x y H2 I2 rx ry q => hr a b pins s2 σ H2 x y v u Q I2 rx ry q (hs _ _))

def rIxL (K : PySem.W.Frag) : R2 := fun x y H Q => ∃ p xs i v, x = .ref p ∧ y = .int i ∧ SqL K H p xs ∧ atI xs i = some v ∧ Q v H
def rIxT (K : PySem.W.Frag) : R2 := fun x y H Q => ∃ p xs i v, x = .ref p ∧ y = .int i ∧ SqT K H p xs ∧ atI xs i = some v ∧ Q v H
theorem ix_list : IxR X (rIxL X.K) := by
  intro value slice pins s σ H x y v u Q I rx ry h hs
  obtain ⟨p, xs, i, z, rfl, rfl, hq, he, q⟩ := h
  cases rx
  obtain ⟨t, rfl⟩ := ry
  obtain ⟨its, r, pl, hz⟩ := I.list hq
  obtain ⟨j, h1, h2, h3, h4, h5⟩ := atI_get he
  obtain ⟨w, ew, rw'⟩ := r.get h2
  have hl := r.length
  have hn := line63
  have fin : EP X pins σ Q w s := ⟨z, H, I, rw', q⟩
  by_cases h0 : 0 ≤ i
  · have hj : i.toNat = j := by
      rw [seqIndex_of h0 h5] at h1
      exact Option.some.inj h1
    exact item_listR pl.isList h0 (by omega) (by rw [hj]; simpa using ew) fin hs
  · have hj : (i + (its.toArray.size : Int)).toNat = j := by
      rw [seqIndex_neg (by omega) h4] at h1
      rw [List.size_toArray, ← hl]
      exact Option.some.inj h1
    exact subscriptTail_builtinR (x := w) pl.isList.typeIs slot_list_getitem.lookup
      (wpAny_getItem_list_neg (Q := fun r s' => r = w ∧ EP X pins σ Q r s') pl.isList (by omega) (by rw [List.size_toArray] <;> omega) (by omega) (by rw [hj]; simpa using ew) ⟨rfl, fin⟩) hs
theorem ix_tup : IxR X (rIxT X.K) := by
  intro value slice pins s σ H x y v u Q I rx ry h hs
  obtain ⟨p, xs, i, z, rfl, rfl, hq, he, q⟩ := h
  cases rx
  obtain ⟨t, rfl⟩ := ry
  obtain ⟨its, r, pl, hz⟩ := I.tuple hq
  obtain ⟨j, h1, h2, h3, h4, h5⟩ := atI_get he
  obtain ⟨w, ew, rw'⟩ := r.get h2
  have hl := r.length
  have hn := line63
  have fin : EP X pins σ Q w s := ⟨z, H, I, rw', q⟩
  exact subscriptTail_builtinR (x := w) pl.typeIs slot_tuple_getitem.lookup
    (getItem_tuple (j := j) (Q := fun r s' => r = w ∧ EP X pins σ Q r s') pl (by omega) (by omega) (by rw [List.size_toArray, ← hl]; exact h1) (by simpa using ew) ⟨rfl, fin⟩) hs

/-! ### xs[i] = v, any sign -/

/-! ### slices -/
theorem slice_bounds (lo hi : Option Int) (n : Nat) : (sliceBounds lo hi none n).1 = ((HT.sIx n 0 lo : Nat) : Int) ∧ (sliceBounds lo hi none n).2.1 = ((HT.sIx n n hi : Nat) : Int) ∧ (sliceBounds lo hi none n).2.2 = 1 := by
  refine ⟨?_, ?_, rfl⟩
  · cases lo with
    | none => simp [sliceBounds, HT.sIx]
    | some i =>
      simp only [sliceBounds, HT.sIx, Option.getD_none, show (1 : Int) > 0 by decide, if_true]
      by_cases h : i < 0
      · simp only [h, if_true] <;> omega
      · simp only [h, if_false] <;> omega
  · cases hi with
    | none => simp [sliceBounds, HT.sIx]
    | some i =>
      simp only [sliceBounds, HT.sIx, Option.getD_none, show (1 : Int) > 0 by decide, if_true]
      by_cases h : i < 0
      · simp only [h, if_true] <;> omega
      · simp only [h, if_false] <;> omega
theorem slicePick_cut (its : List Value) (lo hi : Option Int) : slicePick its.toArray lo hi none = ((its.drop (HT.sIx its.length 0 lo)).take (HT.sIx its.length its.length hi - HT.sIx its.length 0 lo)).toArray := by
  obtain ⟨h1, h2, h3⟩ := slice_bounds lo hi its.toArray.size
  unfold slicePick
  rw [h1, h2, h3]
  simp only [sliceRange_one, pick_run, List.size_toArray] <;> rfl
/-- xs[lo:hi] of a list: a new list -/
def rSlL (K : PySem.W.Frag) : V → Option Int → Option Int → Hp → VK → Prop := fun x lo hi H Q => ∃ a xs, x = .ref a ∧ SqL K H a xs ∧ ∀ p, H p = none → Q (.ref p) (upd H p (.lst (cutV xs lo hi)))
theorem sl_list : SlR X (rSlL X.K) := by
  intro pins s σ H x v vl vu lo hi sl Q I rx hs pl pu h
  obtain ⟨a, xs, rfl, hx, q⟩ := h
  cases rx
  obtain ⟨its, r, ht, hz⟩ := I.list hx
  have hlen := r.length
  refine ⟨"list", _, slot_list_getitem.lookup, ht.isList.typeIs, ?_⟩
  refine wpAny_getItem_list_slice ht.isList hs pl pu .none (by simp) ?_ (by rw [List.size_toArray] <;> omega)
  rw [slicePick_cut, ← hlen]
  refine ⟨.ref s.heap.objs.size, _, I.laid (t' := s.toks) (o := .lst (cutV xs lo hi)) (fun b ob q => Heap.get?_push_of_some _ q) (Nat.le_refl _) ?_, rfl, q _ (I.hok.fresh (Nat.le_refl _))⟩
  exact ⟨Nat.le_trans (cutV_length xs lo hi) hz, _, 0, (r.drop (HT.sIx xs.length 0 lo)).take (HT.sIx xs.length xs.length hi - HT.sIx xs.length 0 lo), Heap.get?_push_size _ rfl⟩

/-! ### in, not in: flat items -/
def flatV : V → Bool
  | .non => true
  | .bl _ => true
  | .int _ => true
  | .str _ => true
  | _ => false
/-- == of flat values -/
def eqV : V → V → Bool
  | .non, .non => true
  | .bl a, .bl b => a == b
  | .bl a, .int b => (if a then 1 else 0) == b
  | .int a, .bl b => a == (if b then 1 else 0)
  | .int a, .int b => a == b
  | .str a, .str b => a == b
  | _, _ => false
theorem eqAt_V {A : Around} {s : Shared} {y x : V} {u v : Value} (ry : RelV y u) (rx : RelV x v) (fy : flatV y = true) (fx : flatV x = true) : SeqAt.EqAt A s u v (eqV y x) := by
  cases y with
  | non =>
    cases ry
    cases x with
    | non => cases rx; exact SeqAt.EqAt.same _
    | bl b => cases rx; exact SeqAt.EqAt.none_bool b
    | int b => obtain ⟨t, rfl⟩ := rx; exact SeqAt.EqAt.none_int b t
    | str b => obtain ⟨t, rfl⟩ := rx; exact SeqAt.EqAt.none_str b t
    | _ => exact absurd (show false = true from fx) Bool.false_ne_true
  | bl a =>
    cases ry
    cases x with
    | non => cases rx; exact SeqAt.EqAt.bool_none a
    | bl b => cases rx; exact SeqAt.EqAt.bool_bool a b
    | int b => obtain ⟨t, rfl⟩ := rx; exact SeqAt.EqAt.bool_int a b t
    | str b => obtain ⟨t, rfl⟩ := rx; exact SeqAt.EqAt.bool_str a b t
    | _ => exact absurd (show false = true from fx) Bool.false_ne_true
  | int a =>
    obtain ⟨t', rfl⟩ := ry
    cases x with
    | non => cases rx; exact SeqAt.EqAt.int_none a t'
    | bl b => cases rx; exact SeqAt.EqAt.int_bool a t' b
    | int b => obtain ⟨t, rfl⟩ := rx; exact SeqAt.EqAt.int_int a t' b t
    | str b => obtain ⟨t, rfl⟩ := rx; exact SeqAt.EqAt.int_str a t' b t
    | _ => exact absurd (show false = true from fx) Bool.false_ne_true
  | str a =>
    obtain ⟨t', rfl⟩ := ry
    cases x with
    | non => cases rx; exact SeqAt.EqAt.str_none a t'
    | bl b => cases rx; exact SeqAt.EqAt.str_bool a t' b
    | int b => obtain ⟨t, rfl⟩ := rx; exact SeqAt.EqAt.str_int a t' b t
    | str b => obtain ⟨t, rfl⟩ := rx; exact SeqAt.EqAt.str_str a t' b t
    | _ => exact absurd (show false = true from fx) Bool.false_ne_true
  | _ => exact absurd (show false = true from fy) Bool.false_ne_true
/-- the items' answers, read off the values (a value's own answer does not lean on its token) -/
def eqU (x : V) (u : Value) : Bool := match u with
  | .none => eqV .non x
  | .bool b => eqV (.bl b) x
  | .int i _ => eqV (.int i) x
  | .str z _ => eqV (.str z) x
  | _ => false
theorem eqU_of {x y : V} {u : Value} (r : RelV y u) (f : flatV y = true) : eqU x u = eqV y x := by
  cases y with
  | non => cases r; rfl
  | bl b => cases r; rfl
  | int i => obtain ⟨t, rfl⟩ := r; rfl
  | str z => obtain ⟨t, rfl⟩ := r; rfl
  | _ => exact absurd (show false = true from f) Bool.false_ne_true
theorem any_eqU {x : V} : ∀ {xs : List V} {us : List Value}, Vals xs us → xs.all flatV = true → us.any (eqU x) = xs.any fun y => eqV y x
  | _, _, .nil, _ => rfl
  | y :: xs, u :: us, .cons r t, f => by
    rw [List.all_cons, Bool.and_eq_true] at f
    rw [List.any_cons, List.any_cons, eqU_of r f.1, any_eqU t f.2]
theorem mem_eqAt {A : Around} {s : Shared} {x : V} {v : Value} (rx : RelV x v) (fx : flatV x = true) : ∀ {xs : List V} {us : List Value}, Vals xs us → xs.all flatV = true → ∀ u ∈ us, SeqAt.EqAt A s u v (eqU x u)
  | _, _, .nil, _ => fun u hu => by cases hu
  | y :: xs, u :: us, .cons r t, f => fun u' hu => by
    rw [List.all_cons, Bool.and_eq_true] at f
    rcases List.mem_cons.mp hu with rfl | hu
    · rw [eqU_of r f.1]; exact eqAt_V r rx f.1 fx
    · exact mem_eqAt rx fx t f.2 u' hu
def inV (x : V) (xs : List V) : Bool := xs.any fun y => eqV y x
/-- x in a list or tuple of flat items -/
def rIn (K : PySem.W.Frag) (neg : Bool) : R2 := fun x y H Q => ∃ p xs, y = .ref p ∧ (SqL K H p xs ∨ SqT K H p xs) ∧ flatV x = true ∧ xs.all flatV = true ∧ Q (.bl (if neg then !inV x xs else inV x xs)) H
theorem op_in_seq : OpR X (compareOp .In) (rIn X.K false) := by
  intro pins s σ H x y v u Q I rx ry h
  obtain ⟨p, xs, rfl, hq, fx, fs, q⟩ := h
  cases ry
  rcases hq with hq | hq
  · obtain ⟨its, r, pl, hz⟩ := I.list hq
    refine SeqAt.in_listAt (eqU x) pl.isList (fun w hw => mem_eqAt rx fx r fs w (by simpa using hw)) ⟨.bl _, H, I, rfl, ?_⟩
    rw [show its.toArray.any (eqU x) = its.any (eqU x) by simp, any_eqU r fs]
    exact q
  · obtain ⟨its, r, pl, hz⟩ := I.tuple hq
    refine SeqAt.in_tupleAt (eqU x) pl (fun w hw => mem_eqAt rx fx r fs w (by simpa using hw)) ⟨.bl _, H, I, rfl, ?_⟩
    rw [show its.toArray.any (eqU x) = its.any (eqU x) by simp, any_eqU r fs]
    exact q

/-! ### len, list(x), tuple(x) of any list or tuple that is read -/
theorem call_len_seq : CallR X (.builtin "len") (fun xs H Q => ∃ p ys, xs = [.ref p] ∧ (SqL X.K H p ys ∨ SqT X.K H p ys) ∧ Q (.int ys.length) H) := by
  intro pins s σ H xs us Q I r h
  obtain ⟨p, ys, rfl, hq, q⟩ := h
  obtain ⟨u, rfl, rx⟩ := vals1 r
  cases rx
  have hn := line63
  rcases hq with hq | hq
  · obtain ⟨its, r', pl, hz⟩ := I.list hq
    have hlen := r'.length
    exact Calls.call_len_list pl.isList (by simp only [List.size_toArray] <;> omega) ⟨.int ys.length, H, I.tok _, ⟨s.toks + 1, by rw [List.size_toArray, hlen]⟩, q⟩
  · obtain ⟨its, r', pl, hz⟩ := I.tuple hq
    have hlen := r'.length
    exact len_tuple pl (by simp only [List.size_toArray] <;> omega) ⟨.int ys.length, H, I.tok _, ⟨s.toks + 1, by rw [List.size_toArray, hlen]⟩, q⟩
theorem call_list_of : CallR X (.type "list") (fun xs H Q => ∃ p ys, xs = [.ref p] ∧ (SqL X.K H p ys ∨ SqT X.K H p ys) ∧ ∀ l, H l = none → Q (.ref l) (upd H l (.lst ys))) := by
  intro pins s σ H xs us Q I r h
  obtain ⟨p, ys, rfl, hq, q⟩ := h
  obtain ⟨u, rfl, rx⟩ := vals1 r
  cases rx
  have fin : ∀ (its : List Value), Vals ys its → ys.length ≤ sizeLine → ∀ (h' : Heap) (c' : Nat), (∀ b o', s.heap.get? b = some o' → h'.get? b = some o') →
      h'.get? s.heap.objs.size = some { cls := .type "list", dict := none, data := .seq its.toArray c', slots := #[] } → EP X pins σ Q (.ref s.heap.objs.size) { s with heap := h' } := fun its r' hz h' c' kp e =>
    ⟨.ref s.heap.objs.size, _, I.laid (t' := s.toks) kp (Nat.le_refl _) (show ObjOk X.prog X.w _ h' _ (.lst ys) from ⟨hz, its, c', r', e⟩), rfl, q _ (I.hok.fresh (Nat.le_refl _))⟩
  rcases hq with hq | hq
  · obtain ⟨its, r', pl, hz⟩ := I.list hq
    have hlen := r'.length
    obtain ⟨o, ho, hc, n, hd⟩ := pl.isList
    exact call_list_seq p (.inl rfl) ho hc hd (fun h' c' kp e => fin its r' hz h' c' kp e) (by simp only [List.size_toArray] <;> omega)
  · obtain ⟨its, r', pl, hz⟩ := I.tuple hq
    have hlen := r'.length
    obtain ⟨o, ho, hc, n, hd⟩ := pl
    exact call_list_seq p (.inr rfl) ho hc hd (fun h' c' kp e => fin its r' hz h' c' kp e) (by simp only [List.size_toArray] <;> omega)
theorem call_tuple_of : CallR X (.type "tuple") (fun xs H Q => ∃ p ys, xs = [.ref p] ∧ ((SqL X.K H p ys ∧ ∀ l, H l = none → Q (.ref l) (upd H l (.tup ys))) ∨ (SqT X.K H p ys ∧ Q (.ref p) H))) := by
  intro pins s σ H xs us Q I r h
  obtain ⟨p, ys, rfl, h⟩ := h
  obtain ⟨u, rfl, rx⟩ := vals1 r
  cases rx
  rcases h with ⟨hq, q⟩ | ⟨hq, q⟩
  · obtain ⟨its, r', pl, hz⟩ := I.list hq
    have hlen := r'.length
    refine call_tuple_list pl.isList (fun h' kp => ?_) (by simp only [List.size_toArray] <;> omega)
    have I1 : Inv X pins σ H { s with heap := h' } := I.kept (t' := s.toks) kp
    have I2 : Inv X pins σ (upd H h'.objs.size (.tup ys)) { s with heap := h'.push { cls := .type "tuple", data := .seq its.toArray } } :=
      I1.laid (t' := s.toks) (fun b o e => Heap.get?_push_of_some _ e) (Nat.le_refl _) (show ObjOk X.prog X.w _ _ _ (.tup ys) from ⟨hz, its, r', IsTup.new _ _⟩)
    exact ⟨.ref h'.objs.size, _, I2, rfl, q _ (I1.hok.fresh (Nat.le_refl _))⟩
  · obtain ⟨its, r', pl, hz⟩ := I.tuple hq
    exact call_tuple_same pl ⟨.ref p, H, I, rfl, q⟩

/-! ### the call of a builtin's method: o.m(..) -/
/-- the value is of that builtin type -/
def tyV (K : PySem.W.Frag) (T : String) (x : V) (H : Hp) : Prop := match x with
  | .str _ => T = "str"
  | .int _ => T = "int"
  | .ref p => (T = "list" ∧ ∃ xs, SqL K H p xs) ∨ (T = "tuple" ∧ ∃ o, K.lookup p = some o ∧ o.cls = .type "tuple" ∧ o.dict = none) ∨
      (T = "dict" ∧ ((∃ kvs, H p = some (.dK kvs)) ∨ ∃ kvs, H p = some (.dT kvs))) ∨ (T = "set" ∧ ∃ S n, H p = some (.set S n))
  | _ => False
theorem tyV_is {pins : List (Addr × Obj)} {σ : St} {H : Hp} {s : Shared} {T : String} {x : V} {v : Value} (I : Inv X pins σ H s) (r : RelV x v) (ty : tyV X.K T x H) :
    s.TypeIs v T ∧ ∀ a, v = .ref a → ∃ ob, s.heap.get? a = some ob ∧ ob.dict = none := by
  cases x with
  | str z =>
    obtain ⟨t, rfl⟩ := r
    cases (show T = "str" from ty)
    exact ⟨typeIs_str s z t, fun _ e => nomatch e⟩
  | int i =>
    obtain ⟨t, rfl⟩ := r
    cases (show T = "int" from ty)
    exact ⟨typeIs_int s i t, fun _ e => nomatch e⟩
  | ref p =>
    cases r
    rcases ty with ⟨rfl, xs, hq⟩ | ⟨rfl, o, hk, hc, hd⟩ | ⟨rfl, hk⟩ | ⟨rfl, S, n, hk⟩
    · obtain ⟨its, _, pl, _⟩ := I.list hq
      refine ⟨pl.isList.typeIs, fun a e => ?_⟩
      cases e
      obtain ⟨o, n, e, c, hd, _⟩ := pl
      exact ⟨o, e, hd⟩
    · refine ⟨⟨o, I.kIn p o hk, hc⟩, fun a e => ?_⟩
      cases e
      exact ⟨o, I.kIn _ o hk, hd⟩
    · have z : ∃ o, s.heap.get? p = some o ∧ o.ExactDict := by
        rcases hk with ⟨kvs, hk⟩ | ⟨kvs, hk⟩
        · obtain ⟨_, _, _, _, o, _, _, e, ex, _⟩ := I.hok p _ hk
          exact ⟨o, e, ex⟩
        · obtain ⟨_, _, _, _, o, _, _, e, ex, _⟩ := I.hok p _ hk
          exact ⟨o, e, ex⟩
      obtain ⟨o, e, ex⟩ := z
      refine ⟨⟨o, e, ex.1⟩, fun a e2 => ?_⟩
      cases e2
      exact ⟨o, e, ex.2.1⟩
    · obtain ⟨o, _, _, _, e, ex, _⟩ := I.hok p _ hk
      refine ⟨⟨o, e, ex.1⟩, fun a e2 => ?_⟩
      cases e2
      exact ⟨o, e, ex.2.1⟩
  | _ => exact False.elim ty
def tBM (K : PySem.W.Frag) (T : String) (r : V → List V → Hp → VK → Prop) (to : TE) (t : TA) : TE := fun σ H Q => to σ H fun x H1 => tyV K T x H1 ∧ t σ H1 fun xs H2 => r x xs H2 Q
variable {o e : Expr} {es : List Expr} {to : TE} {t : TA} {name : Str} {apos cpos : Pos} {T id : String} {r : V → List V → Hp → VK → Prop}
theorem pe_bm (pa : PlainAttrs T) (slot : Slot T name id) (hty : typeOf (.builtin id) = pure (.type "method_descriptor")) (hm : MtR X id r) (ho : PE X o to) (ha : PA X (e :: es) t)
    (hbase : attributeBase o name X.env (eval o X.env) = eval o X.env := by rfl)
    (hfew : ((backTo cpos (starEach (e :: es) X.env)).all (fun x => !x.1) && (backToKw cpos (keywordEach [] X.env)).all (fun x => x.1.isSome)
      && decide ((e :: es).length + ([] : List Keyword).length + (if ([] : List Keyword).isEmpty then 0 else 1) < 30)) = true := by rfl)
    (hline : (apos.endLine == cpos.line) = true := by rfl) (hs : starEach (e :: es) X.env = (false, eval e X.env) :: starEach es X.env := by rfl) (hplain : (backTo cpos (starEach es X.env)).any (·.1) = false := by rfl) :
    PE X (.Call (.Attribute o name apos) (e :: es) [] cpos) (tBM X.K T r to t) := by
  intro pins s σ H Q I h
  refine wpAny_Call_method_late hbase hfew hline rfl (thn (ho pins s σ H _ I h) fun v s1 ⟨x, H1, I1, r1, ty, q1⟩ => ?_)
  obtain ⟨h1, h2⟩ := tyV_is I1 r1 ty
  refine ⟨T, id, pa, slot, hty, h1, h2, ?_⟩
  have hA := ha cpos pins s1 σ H1 _ I1 q1
  rw [hs] at hA ⊢
  refine Calls.callWith_builtin (by show (false || (backTo cpos (starEach es X.env)).any (·.1)) = false; rw [hplain] <;> rfl) (Calls.evalArgs_plain ?_)
  exact thn hA fun us s2 ⟨vs, H2, I2, r2, q2⟩ => hm pins s2 σ H2 x vs v us Q I2 r1 r2 q2
/- xs.append(e), list.index on a module's tuple .. are MtR facts of 06m -/
end
end L2

namespace L2
open PySem PySem.Spec PyProof.Rows

def MtM (X : Cx) (id : String) (r : V → List V → Hp → VK → Prop) : Prop :=
  ∀ (pins : List (Addr × Obj)) (s : Shared) (σ : St) (H : Hp) (x : V) (xs : List V) (v : Value) (us : List Value) (Q : VK), Inv X pins σ H s → RelV x v → Vals xs us → r x xs H Q →
    wpAny (model X.prog X.w) X.A (call (.builtin id) (v :: us)) (EP X pins σ Q) X.xe s

/-! ### lists of values -/
theorem Vals.one : ∀ {x : V} {us : List Value}, Vals [x] us → ∃ u, us = [u] ∧ RelV x u
  | _, _, .cons r .nil => ⟨_, rfl, r⟩
theorem Vals.eraseIdx : ∀ {xs : List V} {us : List Value} (i : Nat), Vals xs us → Vals (xs.eraseIdx i) (us.eraseIdx i)
  | _, _, _, .nil => .nil
  | _, _, 0, .cons _ t => t
  | _, _, i + 1, .cons r t => .cons r (Vals.eraseIdx i t)
theorem len_erase {α : Type} : ∀ (l : List α) (i : Nat), (l.eraseIdx i).length ≤ l.length
  | [], _ => Nat.le_refl _
  | _ :: _, 0 => Nat.le_succ _
  | _ :: r, i + 1 => Nat.succ_le_succ (len_erase r i)

section
variable {X : Cx} {pins : List (Addr × Obj)} {σ : St} {H : Hp} {s : Shared} {l b : Addr} {xs ys zs : List V}

/-! ### the two steps: a tracked list is rewritten, a new list is laid -/
theorem Inv.lset {its its' : List Value} {n : Nat} {f : Array Value → Array Value} {t' : Nat} (I : Inv X pins σ H s) (hH : H l = some (.lst xs))
    (e : s.heap.get? l = some { cls := .type "list", data := .seq its.toArray n }) (hf : f its.toArray = its'.toArray) (hv : Vals ys its') (hz : ys.length ≤ sizeLine) :
    Inv X pins σ (upd H l (.lst ys)) { s with heap := s.heap.update l (Obj.mapSeq f), toks := t' } := by
  have q := PySem.IsL.update e f
  rw [hf] at q
  refine I.write (x := l) (e := l) (by rw [hH]; exact trivial) (.inl rfl) (fun b' u hb hu => (Heap.get?_update_other s.heap (Obj.mapSeq f) (Ne.symm hb)).trans hu) ⟨_, q⟩ ?_
  exact ⟨hz, its', _, hv, q⟩
theorem Inv.lnew {its : List Value} {t' : Nat} (I : Inv X pins σ H s) (hv : Vals ys its) (hz : ys.length ≤ sizeLine) :
    Inv X pins σ (upd H s.heap.objs.size (.lst ys)) { s with heap := s.heap.push { cls := .type "list", data := .seq its.toArray }, toks := t' } :=
  I.laid (fun _ _ q => Heap.get?_push_of_some _ q) (Nat.le_refl _) ⟨hz, its, 0, hv, Heap.get?_push_size _ rfl⟩
theorem Inv.fresh (I : Inv X pins σ H s) : H s.heap.objs.size = none := I.hok.fresh (Nat.le_refl _)
theorem Inv.lstM (I : Inv X pins σ H s) (hH : H l = some (.lst xs)) : xs.length ≤ sizeLine ∧ ∃ (its : List Value) (n : Nat), Vals xs its ∧ xs.length = its.length ∧ s.heap.get? l = some { cls := .type "list", data := .seq its.toArray n } := by
  obtain ⟨z, its, n, r, e⟩ := I.hok l _ hH
  exact ⟨z, its, n, r, r.length, e⟩

theorem notLongL {n : Nat} (h : n ≤ sizeLine) : Builtin.List.listTooLong n = false := by
  unfold Builtin.List.listTooLong
  exact decide_eq_false (by omega)
end

section
variable {X : Cx}

/-! ### methods -/
def rAppend : V → List V → Hp → VK → Prop := fun x vs H Q => ∃ l xs y, x = .ref l ∧ vs = [y] ∧ H l = some (.lst xs) ∧ xs.length < sizeLine ∧ Q .non (upd H l (.lst (xs ++ [y])))
theorem mt_append : MtM X "list.append" rAppend := by
  intro pins s σ H x vs v us Q I rx rv h
  obtain ⟨l, xs, y, rfl, rfl, hH, hz, q⟩ := h
  cases rx
  obtain ⟨u, rfl, ru⟩ := rv.one
  obtain ⟨z, its, n, r, hl, e⟩ := I.lstM hH
  refine call_meets F.slot_list_append ⟨_, e, rfl⟩ F.entry_list_append (F.args_list_append_2 _ _) (PySem.list_append l its.toArray n u (by rw [List.size_toArray]; omega)) ⟨e, ?_⟩
  refine ⟨.non, _, I.lset (its' := its ++ [u]) hH e (by simp) (r.append (.cons ru .nil)) ?_, rfl, q⟩
  rw [List.length_append, List.length_singleton]
  omega

def rExtend : V → List V → Hp → VK → Prop := fun x vs H Q => ∃ l b xs zs, x = .ref l ∧ vs = [.ref b] ∧ H l = some (.lst xs) ∧ H b = some (.lst zs) ∧ xs.length + zs.length ≤ sizeLine ∧ Q .non (upd H l (.lst (xs ++ zs)))
theorem mt_extend : MtM X "list.extend" rExtend := by
  intro pins s σ H x vs v us Q I rx rv h
  obtain ⟨l, b, xs, zs, rfl, rfl, hH, hB, hz, q⟩ := h
  cases rx
  obtain ⟨u, rfl, ru⟩ := rv.one
  cases ru
  obtain ⟨z, its, n, r, hl, e⟩ := I.lstM hH
  obtain ⟨z2, its2, n2, r2, hl2, e2⟩ := I.lstM hB
  have hsz : its.toArray.size + its2.toArray.size ≤ sizeLine := by rw [List.size_toArray, List.size_toArray]; omega
  have hlong : ¬ (!its.toArray.isEmpty && Builtin.List.listTooLong (its.toArray.size + its2.toArray.size)) = true := by
    rw [notLongL hsz, Bool.and_false]
    exact Bool.false_ne_true
  refine call_meets F.slot_list_extend ⟨_, e, rfl⟩ F.entry_list_extend (F.args_list_extend_2 _ _)
    (AutoSeq1.list_extend_list_list_0 l its.toArray n b its2.toArray n2 hlong (by rw [List.size_toArray]; omega) (by omega)) ⟨e, e2, ?_⟩
  refine ⟨.non, _, I.lset (its' := its ++ its2) hH e (by simp) (r.append r2) ?_, rfl, q⟩
  rw [List.length_append]
  omega


def rPopAt : V → List V → Hp → VK → Prop := fun x vs H Q => ∃ l xs i k y, x = .ref l ∧ vs = [.int i] ∧ H l = some (.lst xs) ∧ -(2 ^ 63) ≤ i ∧ i < 2 ^ 63 ∧ seqIndex? i xs.length = some k ∧ xs[k]? = some y ∧ Q y (upd H l (.lst (xs.eraseIdx k)))
theorem mt_popAt : MtM X "list.pop" rPopAt := by
  intro pins s σ H x vs v us Q I rx rv h
  obtain ⟨l, xs, i, k, y, rfl, rfl, hH, h1, h2, hk, hy, q⟩ := h
  cases rx
  obtain ⟨u, rfl, ru⟩ := rv.one
  obtain ⟨t, rfl⟩ := ru
  obtain ⟨z, its, n, r, hl, e⟩ := I.lstM hH
  obtain ⟨w, hw, rw'⟩ := r.get hy
  refine call_meets F.slot_list_pop ⟨_, e, rfl⟩ F.entry_list_pop (F.args_list_pop_2 _ _)
    (MeetsSeq.list_pop_at l its.toArray n i t k w (fitsIndex_both h1 h2) (by rw [List.size_toArray, ← hl]; exact hk) (by rw [← Array.getElem?_toList]; exact hw) (by rw [List.size_toArray]; omega)) ⟨e, ?_⟩
  refine ⟨y, _, I.lset (its' := its.eraseIdx k) hH e ?_ (r.eraseIdx k) ?_, rw', q⟩
  · show its.toArray.eraseIdxIfInBounds k = (its.eraseIdx k).toArray
    rw [List.eraseIdxIfInBounds_toArray]
  · have := len_erase xs k
    omega



/-! ### list + list, list += list, list * int -/
def rCat : R2 := fun x y H Q => ∃ l b xs zs, x = .ref l ∧ y = .ref b ∧ H l = some (.lst xs) ∧ H b = some (.lst zs) ∧ xs.length + zs.length ≤ sizeLine ∧ ∀ p, H p = none → Q (.ref p) (upd H p (.lst (xs ++ zs)))
theorem op_cat : OpR X (binaryOp .Add) rCat := by
  intro pins s σ H x y v u Q I rx ry h
  obtain ⟨l, b, xs, zs, rfl, rfl, hH, hB, hz, q⟩ := h
  cases rx
  cases ry
  obtain ⟨z, its, n, r, hl, e⟩ := I.lstM hH
  obtain ⟨z2, its2, n2, r2, hl2, e2⟩ := I.lstM hB
  refine PySem.P.add_list e e2 ?_ (by rw [List.size_toArray, List.size_toArray]; omega)
  have ea : its.toArray ++ its2.toArray = (its ++ its2).toArray := by simp
  rw [ea]
  exact ⟨.ref _, _, I.lnew (t' := s.toks) (r.append r2) (by rw [List.length_append]; omega), rfl, q _ I.fresh⟩

/-! ### del xs[i] -/
end

/-! ### xs[a:b] = ys -/
section
variable {prog : Program} {w : World} {A : Around} {E : Value → Shared → Prop} {s : Shared}
end

section
variable {X : Cx}
end
end L2

namespace L2
open PySem PySem.Spec PyProof.Rows

theorem Vals.bls : ∀ {bs : List Bool} {us : List Value}, Vals (bs.map V.bl) us → us = bs.map Value.bool
  | [], us, h => by
    rw [List.map_nil] at h
    cases h
    rfl
  | b :: bs, us, h => by
    rw [List.map_cons] at h
    cases h with
    | cons r t =>
      cases r
      rw [Vals.bls t, List.map_cons]
theorem Vals.ref1 {a : Addr} {us : List Value} (r : Vals [V.ref a] us) : us = [Value.ref a] := by
  cases r with
  | cons r t =>
    cases t
    cases r
    rfl

/-! ### the library's walks over a list of ints, kept objects alone -/
section
variable {prog : Program} {w : World} {A : Around} {E : Value → Shared → Prop} {s : Shared} {l : Addr} {its : List Value} {ns : List Int} {Q : Value → Shared → Prop}
end

/-! ### the calls, by values (CallR of 03t; MtR of 06l) -/
section
variable {X : Cx}

/-! sorted, sort (fewer than 64 items: the library's own bound) -/
end

/-! ### list.index, flat items -/
section
variable {X : Cx}
end

/-! ### type(x) of an own instance; is, is not of a module's class -/
section
variable {X : Cx}
end

/-! ### any(xs), all(xs) of a list of bools -/
theorem iter_any {prog : Program} {w : World} {A : Around} {E : Value → Shared → Prop} {s : Shared} {l : Addr} {items : Array Value} {Q : Value → Shared → Prop} (hl : s.heap.IsList l items)
    (h : ∀ s₂ : Shared, s₂ = { s with heap := s.heap.push { cls := .type "list_iterator", data := .fields #[.ref l, .int 0 0] } } →
      (s₂.heap.IsListIter s.heap.objs.size l 0 ∧ s₂.heap.IsList l items) → l ≠ s.heap.objs.size → Q (.ref s.heap.objs.size) s₂) : wpAny (model prog w) A (pyIter (.ref l)) Q E s := by
  have hlt : l < s.heap.objs.size := by obtain ⟨_, e, _⟩ := hl; exact Heap.lt_size e
  exact wpAny_pyIter_list hl (h _ rfl ⟨⟨_, Heap.get?_push_size _ rfl, rfl, rfl⟩, hl.push _⟩ (Nat.ne_of_lt hlt))
theorem truth_bools {prog : Program} {w : World} {A : Around} {bs : List Bool} {its : List Value} (e : its = bs.map Value.bool) :
    TruthOf prog w A (fun i v => its.toArray[i]? = some v) (fun i => bs.getD i false) := fun i v s Q E hv hq => by
  have hv' : its[i]? = some v := by simpa using hv
  rw [e, List.getElem?_map] at hv'
  obtain ⟨b, hb, rfl⟩ := Option.map_eq_some_iff.mp hv'
  have hg : bs.getD i false = b := by rw [List.getD_eq_getElem?_getD, hb] <;> rfl
  have hq' : Q (bs.getD i false) s := hq
  rw [hg] at hq'
  exact wpAny_truthy_bool hq'
theorem all_range : ∀ bs : List Bool, (List.range bs.length).all (fun i => bs.getD i false) = bs.all id
  | [] => rfl
  | b :: bs => by
    rw [List.length_cons, List.range_succ_eq_map, List.all_cons, List.all_map, List.all_cons, ← all_range bs]
    all_goals rfl
section
variable {X : Cx}
def rAll (K : PySem.W.Frag) : List V → Hp → VK → Prop := fun vs H Q => ∃ (a : Addr) (bs : List Bool), vs = [V.ref a] ∧ SqL K H a (bs.map V.bl) ∧ Q (.bl (bs.all id)) H
theorem cr_all (hc : X.calm = true) : CallR X (.builtin "all") (rAll X.K) := by
  intro pins s σ H vs us Q I r h
  obtain ⟨a, bs, rfl, hs, q⟩ := h
  obtain ⟨its, rv, hl, _⟩ := I.list hs
  rw [Vals.ref1 r]
  have hb := rv.bls
  refine call_all_walk (iter_any hl.isList fun s₂ e2 st hne => ?_)
  subst e2
  refine ⟨_, _, _, _, _, _, _, rfl, Walks.list (A := X.A.in1) (I.ok.hd hc) _ a hne its.toArray, st, truth_bools hb, fun h' tk hk => ?_⟩
  refine ⟨.bl _, H, I.kept fun b o eo => hk b o (fun hmem => ?_) (Heap.get?_push_of_some _ eo), ?_, q⟩
  · rcases List.mem_cons.mp hmem with e1 | hmem
    · exact absurd (e1 ▸ Heap.lt_size eo) (Nat.lt_irrefl _)
    · cases hmem
  · show Value.bool _ = Value.bool _
    rw [← all_range, hb, List.size_toArray, List.length_map]
end

/-! ### == and != of data at any depth: none, bools, ints, texts, lists, tuples -/
section
variable {X : Cx} {pins : List (Addr × Obj)} {σ : St} {H : Hp} {s : Shared}
end
section
variable {X : Cx}
end
end L2

namespace L2
open PySem PySem.Spec PyProof.Rows
abbrev CellAt (h : Heap) (c : Addr) (v : Option Value) : Prop := h.IsCell c v
def relS (scope sc : Scope) : Scope :=
  { scope with names := scope.names.map fun (n, k) => if (k == .free && sc.kind == .function && sc.names.lookup n == some .cell) then (n, .cell) else (n, k) }

def cloFrom (cells : List (Str × Addr)) : List (Str × NameKind) → List (Str × Addr) → List (Str × Addr)
  | [], acc => acc
  | (n, k) :: r, acc => if k == .free then cloFrom cells r ((n, (cells.lookup n).getD 0) :: acc) else cloFrom cells r acc

theorem closure_loop (env : Env) (f : Str × NameKind → List (Str × Addr) → Sem (ForInStep (List (Str × Addr))))
    (hf : ∀ n k c, f (n, k) c = if k == .free then (do let a ← cellOf env n; pure (.yield ((n, a) :: c))) else pure (.yield c)) :
    ∀ (names : List (Str × NameKind)) (acc : List (Str × Addr)), (∀ y ∈ names, y.2 = .free → ∃ c, env.cells.lookup y.1 = some c) → forIn names acc f = pure (cloFrom env.cells names acc)
  | [], acc, _ => by rw [List.forIn_nil]; rfl
  | (n, k) :: r, acc, h => by
    rw [List.forIn_cons, hf]
    have ih := fun acc => closure_loop env f hf r acc fun y hy => h y (List.mem_cons_of_mem _ hy)
    unfold cloFrom
    by_cases hk : (k == NameKind.free) = true
    · rw [if_pos hk, if_pos hk]
      obtain ⟨c, hc⟩ := h (n, k) List.mem_cons_self (by simpa using hk)
      have e : cellOf env n = pure c := by unfold cellOf; rw [hc]
      rw [e]
      have e2 : (env.cells.lookup n).getD 0 = c := by rw [hc]; rfl
      rw [e2]
      exact ih _
    · rw [if_neg hk, if_neg hk]
      exact ih _
theorem closure_ok {scope : Scope} {env : Env} (h : ∀ y ∈ scope.names, y.2 = .free → ∃ c, env.cells.lookup y.1 = some c) : closureFor scope env = pure (cloFrom env.cells scope.names []) := by
  simp only [closureFor]
  rw [closure_loop env _ (fun n k c => rfl) scope.names [] h]
  rfl

theorem mem_lookup {α : Type} : ∀ {l : List (Str × α)} {n : Str} {c : α}, (n, c) ∈ l → ∃ c', l.lookup n = some c'
  | (k, v) :: r, n, c, h => by
    rw [List.lookup_cons]
    cases hb : n == k with
    | true => exact ⟨_, rfl⟩
    | false =>
      rcases List.mem_cons.mp h with e | h
      · cases e; simp at hb
      · exact mem_lookup h

theorem cloFrom_mem {cells : List (Str × Addr)} : ∀ {names : List (Str × NameKind)} {acc : List (Str × Addr)} {n : Str} {c : Addr}, (n, c) ∈ cloFrom cells names acc → (n, c) ∈ acc ∨ ((n, .free) ∈ names ∧ c = (cells.lookup n).getD 0)
  | [], _, _, _, h => .inl h
  | (m, k) :: r, acc, n, c, h => by
    unfold cloFrom at h
    split at h
    · rename_i hk
      have hk : k = .free := by simpa using hk
      rcases cloFrom_mem h with h | ⟨h1, h2⟩
      · rcases List.mem_cons.mp h with e | h
        · cases e; exact .inr ⟨hk ▸ List.mem_cons_self, rfl⟩
        · exact .inl h
      · exact .inr ⟨List.mem_cons_of_mem _ h1, h2⟩
    · rcases cloFrom_mem h with h | ⟨h1, h2⟩
      · exact .inl h
      · exact .inr ⟨List.mem_cons_of_mem _ h1, h2⟩
theorem cloFrom_acc {cells : List (Str × Addr)} : ∀ {names : List (Str × NameKind)} {acc : List (Str × Addr)} {p : Str × Addr}, p ∈ acc → p ∈ cloFrom cells names acc
  | [], _, _, h => h
  | (m, k) :: r, acc, p, h => by
    unfold cloFrom
    split
    · exact cloFrom_acc (List.mem_cons_of_mem _ h)
    · exact cloFrom_acc h
theorem cloFrom_has {cells : List (Str × Addr)} : ∀ {names : List (Str × NameKind)} {acc : List (Str × Addr)} {n : Str}, (n, .free) ∈ names → (n, (cells.lookup n).getD 0) ∈ cloFrom cells names acc
  | (m, k) :: r, acc, n, h => by
    unfold cloFrom
    rcases List.mem_cons.mp h with e | h
    · cases e
      exact cloFrom_acc List.mem_cons_self
    · split
      · exact cloFrom_has h
      · exact cloFrom_has h

theorem cells_mem : ∀ {names : List (Str × NameKind)} {h : Heap} {acc : List (Str × Addr)} {x : Str} {c : Addr}, (x, c) ∈ cellsFrom h.objs.size names acc →
    (x, c) ∈ acc ∨ ((x, .cell) ∈ names ∧ h.objs.size ≤ c ∧ CellAt (pushCells h names) c none)
  | [], _, _, _, _, h => .inl h
  | (n, k) :: r, h, acc, x, c, hm => by
    unfold cellsFrom at hm
    unfold pushCells
    split at hm
    · rename_i hk
      rw [if_pos hk]
      have hk : k = .cell := by simpa using hk
      rw [← Heap.size_push h { cls := .type "cell", data := .cell none }] at hm
      rcases cells_mem hm with hm | ⟨h1, h2, h3⟩
      · rcases List.mem_cons.mp hm with e | hm
        · cases e
          exact .inr ⟨hk ▸ List.mem_cons_self, Nat.le_refl _, _, pushCells_keeps r _ _ _ (Heap.get?_push_size _ rfl), rfl⟩
        · exact .inl hm
      · rw [Heap.size_push] at h2
        exact .inr ⟨List.mem_cons_of_mem _ h1, Nat.le_of_succ_le h2, h3⟩
    · rename_i hk
      rw [if_neg hk]
      rcases cells_mem hm with hm | ⟨h1, h2, h3⟩
      · exact .inl hm
      · exact .inr ⟨List.mem_cons_of_mem _ h1, h2, h3⟩
theorem cells_acc : ∀ {names : List (Str × NameKind)} {n : Nat} {acc : List (Str × Addr)} {p : Str × Addr}, p ∈ acc → p ∈ cellsFrom n names acc
  | [], _, _, _, h => h
  | (m, k) :: r, n, acc, p, h => by
    unfold cellsFrom
    split
    · exact cells_acc (List.mem_cons_of_mem _ h)
    · exact cells_acc h
theorem cells_has : ∀ {names : List (Str × NameKind)} {n : Nat} {acc : List (Str × Addr)} {x : Str}, (x, .cell) ∈ names → ∃ c, (x, c) ∈ cellsFrom n names acc
  | (m, k) :: r, n, acc, x, h => by
    unfold cellsFrom
    rcases List.mem_cons.mp h with e | h
    · cases e
      exact ⟨n, cells_acc List.mem_cons_self⟩
    · split
      · exact cells_has h
      · exact cells_has h
theorem cells_inj : ∀ {names : List (Str × NameKind)} {h : Heap} {acc : List (Str × Addr)} {x y : Str} {c : Addr}, (∀ p ∈ acc, p.2 < h.objs.size) → (∀ x y c, (x, c) ∈ acc → (y, c) ∈ acc → x = y) →
    (x, c) ∈ cellsFrom h.objs.size names acc → (y, c) ∈ cellsFrom h.objs.size names acc → x = y
  | [], _, _, _, _, _, _, hi, h1, h2 => hi _ _ _ h1 h2
  | (n, k) :: r, h, acc, x, y, c, hl, hi, h1, h2 => by
    unfold cellsFrom at h1 h2
    split at h1
    · rename_i hk
      rw [if_pos hk] at h2
      rw [← Heap.size_push h { cls := .type "cell", data := .cell none }] at h1 h2
      refine cells_inj (h := h.push _) (fun p hp => ?_) (fun x y c a b => ?_) h1 h2
      · rw [Heap.size_push]
        rcases List.mem_cons.mp hp with rfl | hp
        · exact Nat.lt_succ_self _
        · exact Nat.lt_succ_of_lt (hl p hp)
      · rcases List.mem_cons.mp a with e | a <;> rcases List.mem_cons.mp b with e' | b
        · cases e; cases e'; rfl
        · cases e; exact absurd (hl _ b) (Nat.lt_irrefl _)
        · cases e'; exact absurd (hl _ a) (Nat.lt_irrefl _)
        · exact hi _ _ _ a b
    · rename_i hk
      rw [if_neg hk] at h2
      exact cells_inj hl hi h1 h2

theorem newEnv_comp {M : Model} {A : Around} {E : Value → Shared → Prop} {s : Shared} {scope : Scope} {globals : Addr} {closure : List (Str × Addr)} {qual : Str} {func : Option Addr} {code : Value} {around : Env} {builtins : Addr} {Q : Env → Shared → Prop}
    (h : Q (newEnv scope s.heap.objs.size globals (cellsFrom (s.heap.objs.size + 1) scope.names closure) qual func code (some around) builtins)
      { s with heap := pushCells (s.heap.push { cls := .type "dict", data := .dict #[] }) scope.names }) :
    wpAny M A (newFunctionEnv scope globals closure [] qual func code (some around) builtins) Q E s := by
  simp only [newFunctionEnv, Option.isSome_some, if_true]
  refine wpAny_bind (wpAny_alloc ?_)
  refine wpAny_bind (wpAny_layCells _ (fun n k c => rfl) scope.names closure _ _ ?_)
  rw [show ({ s with heap := s.heap.push { cls := .type "dict", data := .dict #[] } } : Shared).heap.objs.size = s.heap.objs.size + 1 from Heap.size_push ..]
  rw [List.forIn_nil]
  exact wpAny_bind (wpAny_pure (wpAny_pure h))

/-- every name of the written scope, in the scope that runs -/
theorem lookup_relS {sc : Scope} : ∀ {names : List (Str × NameKind)} {x : Str} {k : NameKind},
    (names.map fun (n, k) => if (k == NameKind.free && sc.kind == .function && sc.names.lookup n == some .cell) then (n, NameKind.cell) else (n, k)).lookup x = some k →
    ∃ k', names.lookup x = some k' ∧ (k = k' ∨ (k' = .free ∧ k = .cell))
  | [], _, _, h => by simp at h
  | (n, k₀) :: r, x, k, h => by
    have ih := @lookup_relS sc r x k
    have h' : List.lookup x ((if (k₀ == NameKind.free && sc.kind == .function && sc.names.lookup n == some .cell) = true then (n, NameKind.cell) else (n, k₀)) :: (r.map _)) = some k := h
    cases hx : x == n with
    | true =>
      simp only [List.lookup_cons, hx]
      by_cases hc : (k₀ == NameKind.free && sc.kind == .function && sc.names.lookup n == some .cell) = true
      · rw [if_pos hc] at h'
        simp only [List.lookup_cons, hx] at h'
        cases h'
        simp only [Bool.and_eq_true, beq_iff_eq] at hc
        exact ⟨k₀, rfl, .inr ⟨hc.1.1, rfl⟩⟩
      · rw [if_neg hc] at h'
        simp only [List.lookup_cons, hx] at h'
        cases h'
        exact ⟨_, rfl, .inl rfl⟩
    | false =>
      simp only [List.lookup_cons, hx]
      by_cases hc : (k₀ == NameKind.free && sc.kind == .function && sc.names.lookup n == some .cell) = true
      · rw [if_pos hc] at h'
        simp only [List.lookup_cons, hx] at h'
        exact ih h'
      · rw [if_neg hc] at h'
        simp only [List.lookup_cons, hx] at h'
        exact ih h'



/-- the names of a comprehension's block: its own (with their places in N), or captured -/
structure BlkOk (N : List Str) (sc scope : Scope) (own : List (Str × Nat)) : Prop where
  kind : scope.kind = .function
  uniq : ∀ y ∈ scope.names, scope.names.lookup y.1 = some y.2
  ix : ∀ p ∈ own, N[p.2]? = some p.1
  free : ∀ y ∈ scope.names, y.2 = .free → sc.names.lookup y.1 = some .cell ∨ sc.names.lookup y.1 = some .free
  own : ∀ y ∈ scope.names, y.2 = .local ∨ y.2 = .cell → y.1 ∈ own.map (·.1) ∨ y.1 ∉ N
/-- the slots of the block's own names forgotten -/
def wipe (σ : St) : List Nat → St
  | [] => σ
  | v :: vs => (wipe σ vs).set v none
theorem wipe_length (σ : St) : ∀ vs : List Nat, (wipe σ vs).length = σ.length
  | [] => rfl
  | v :: vs => by unfold wipe; rw [List.length_set, wipe_length σ vs]
theorem wipe_some {σ : St} {i : Nat} {x : V} : ∀ {vs : List Nat}, (wipe σ vs)[i]? = some (some x) → σ[i]? = some (some x) ∧ i ∉ vs
  | [], h => ⟨h, by simp⟩
  | v :: vs, h => by
    unfold wipe at h
    by_cases hi : v = i
    · subst hi
      by_cases hv : v < (wipe σ vs).length
      · rw [List.getElem?_set_self hv] at h; cases h
      · rw [List.getElem?_eq_none (by simpa using hv)] at h; cases h
    · rw [List.getElem?_set_ne hi] at h
      obtain ⟨h1, h2⟩ := wipe_some h
      exact ⟨h1, by simp only [List.mem_cons, not_or]; exact ⟨fun e => hi e.symm, h2⟩⟩

/-- the context of a block that starts at s, its iterator's objects at fp -/
abbrev Cx.blk (X : Cx) (s : Shared) (H : Hp) (scope : Scope) (cenv : Env) (fp : List Addr) : Cx := { X with s_0 := s, H_0 := H, env := cenv, outer := X.stack, ex := fp, fn := fun x => scope.names.lookup x == some .cell, pn := [], xe := fun _ _ => False }
section
variable {X : Cx} {pins : List (Addr × Obj)} {σ : St} {H : Hp} {s : Shared}
theorem block_start {scope : Scope} {own : List (Str × Nat)} {fp : List Addr} (I : Inv X pins σ H s) (ok : BlkOk X.N X.env.scope scope own) (hN : X.N.Nodup) (hfp : ∀ b ∈ fp, FpOk X pins H b ∧ b < s.heap.objs.size) :
    Inv (X.blk s H scope (compEnvC scope (cellsFrom (s.heap.objs.size + 1) scope.names (cloFrom X.env.cells scope.names [])) s.heap.objs.size X.env) fp) [] (wipe σ (own.map (·.2))) H { s with heap := pushCells (s.heap.push { cls := .type "dict", data := .dict #[] }) scope.names } := by
  have hfree : ∀ y ∈ scope.names, y.2 = .free → ∃ c, X.env.cells.lookup y.1 = some c := fun y hy e => by
    rcases ok.free y hy e with k | k
    · exact I.ok.has _ (.inl k)
    · exact I.ok.has _ (.inr k)
  generalize hcenv : compEnvC scope (cellsFrom (s.heap.objs.size + 1) scope.names (cloFrom X.env.cells scope.names [])) s.heap.objs.size X.env = cenv
  have kp : ∀ b o, s.heap.get? b = some o → (pushCells (s.heap.push { cls := .type "dict", data := .dict #[] }) scope.names).get? b = some o := fun b o e => pushCells_keeps _ _ _ _ (Heap.get?_push_of_some _ e)
  have hL : cenv.locals = s.heap.objs.size := by rw [← hcenv]; rfl
  have hcl : cenv.cells = cellsFrom (s.heap.objs.size + 1) scope.names (cloFrom X.env.cells scope.names []) := by rw [← hcenv]; rfl
  have hsc : cenv.scope = relS scope X.env.scope := by rw [← hcenv]; rfl
  rw [← Heap.size_push s.heap { cls := .type "dict", data := .dict #[] }] at hcl
  have cm : ∀ {y c}, (y, c) ∈ cloFrom X.env.cells scope.names [] → X.env.cells.lookup y = some c ∧ c < s.heap.objs.size := fun {y c} hm => by
    rcases cloFrom_mem hm with hm | ⟨h1, rfl⟩
    · cases hm
    · obtain ⟨c, hc⟩ := hfree _ h1 rfl
      rw [hc]
      obtain ⟨w, z⟩ := I.cell _ _ hc
      exact ⟨rfl, z.lt⟩
  have mem : ∀ {y c}, cenv.cells.lookup y = some c → (X.env.cells.lookup y = some c ∧ c < s.heap.objs.size) ∨ (s.heap.objs.size + 1 ≤ c ∧ CellAt (pushCells (s.heap.push { cls := .type "dict", data := .dict #[] }) scope.names) c none) := fun {y c} e => by
    rw [hcl] at e
    rcases cells_mem (PySem.mem_of_lookup e) with hm | ⟨_, h2, h3⟩
    · exact .inl (cm hm)
    · rw [Heap.size_push] at h2; exact .inr ⟨h2, h3⟩
  have look : ∀ {y}, scope.names.lookup y = some .free → ∃ c, cenv.cells.lookup y = some c ∧ X.env.cells.lookup y = some c := fun {y} hl => by
    have hy : (y, NameKind.free) ∈ scope.names := PySem.mem_of_lookup hl
    obtain ⟨c', e'⟩ := mem_lookup (cells_acc (names := scope.names) (n := (s.heap.push { cls := .type "dict", data := .dict #[] }).objs.size) (cloFrom_has (cells := X.env.cells) (acc := []) hy))
    rw [← hcl] at e'
    refine ⟨c', e', ?_⟩
    rw [hcl] at e'
    rcases cells_mem (PySem.mem_of_lookup e') with hm | ⟨h1, _, _⟩
    · exact (cm hm).1
    · have := ok.uniq _ h1
      rw [hl] at this; cases this
  have okB : (X.blk s H scope cenv fp).Ok := by
    refine ⟨I.ok.mod, by show cenv.scope.kind = _; rw [hsc]; exact ok.kind, by show cenv.globals = _; rw [← hcenv]; exact I.ok.glob, by show cenv.builtins = _; rw [← hcenv]; exact I.ok.blt, by show s.heap.objs.size ≤ cenv.locals; rw [hL]; exact Nat.le_refl _,
      fun y z c e1 e2 => ?_, fun y hy => ?_, fun y c z e => ?_, I.ok.hd, I.ok.frames, .inl rfl, fun b hb => ⟨?_, fun y c e z => ?_⟩, I.bs, Nat.le_trans I.ok.bsz I.sz, fun b o e hb => ?_, fun b hb z => ?_, I.stack, I.stkFree⟩
    · have e1 : cenv.cells.lookup y = some c := e1
      have e2 : cenv.cells.lookup z = some c := e2
      rw [hcl] at e1 e2
      refine cells_inj (fun p hp => ?_) (fun y z c a b => I.ok.inj y z c (cm a).1 (cm b).1) (PySem.mem_of_lookup e1) (PySem.mem_of_lookup e2)
      rw [Heap.size_push]
      exact Nat.lt_succ_of_lt (cm (y := p.1) (c := p.2) hp).2
    · show ∃ c, cenv.cells.lookup y = some c
      have key : ∀ k, cenv.kindOf y = some k → (k = .cell ∨ k = .free) → ∃ c, cenv.cells.lookup y = some c := fun k hk hk' => by
        unfold Env.kindOf at hk
        rw [hsc] at hk
        obtain ⟨k', e, r⟩ := lookup_relS hk
        have : k' = .cell ∨ k' = .free := by
          rcases r with rfl | ⟨rfl, _⟩
          · exact hk'
          · exact .inr rfl
        rcases this with rfl | rfl
        · obtain ⟨c, hm⟩ := cells_has (n := (s.heap.push { cls := .type "dict", data := .dict #[] }).objs.size) (acc := cloFrom X.env.cells scope.names []) (PySem.mem_of_lookup e)
          obtain ⟨c', e'⟩ := mem_lookup hm
          exact ⟨c', by rw [hcl]; exact e'⟩
        · obtain ⟨c, h1, _⟩ := look e
          exact ⟨c, h1⟩
      rcases hy with hy | hy
      · exact key _ hy (.inl rfl)
      · exact key _ hy (.inr rfl)
    · have z : (scope.names.lookup y == some NameKind.cell) = true := z
      have z : scope.names.lookup y = some .cell := by simpa using z
      have e : cenv.cells.lookup y = some c := e
      rw [hcl] at e
      rcases cells_mem (PySem.mem_of_lookup e) with hm | ⟨_, h2, _⟩
      · rcases cloFrom_mem hm with hm | ⟨h1, _⟩
        · cases hm
        · have q := ok.uniq _ h1
          rw [z] at q; cases q
      · rw [Heap.size_push] at h2
        exact Nat.le_of_succ_le h2
    · show b ≠ cenv.locals
      rw [hL]; exact Nat.ne_of_lt (hfp b hb).2
    · have e : cenv.cells.lookup y = some c := e
      rcases mem e with ⟨h1, _⟩ | ⟨h1, _⟩
      · exact (hfp b hb).1.2.2.2.2.1 y c h1 z
      · have h2 : s.heap.objs.size + 1 ≤ b := by rw [← z]; exact h1
        exact absurd (Nat.lt_of_lt_of_le (hfp b hb).2 (Nat.le_of_succ_le h2)) (Nat.lt_irrefl _)
    · rcases (hfp b hb).1.2.2.2.1 with z | z
      · exact I.ok.noex b o e z
      · exact absurd (Nat.lt_of_lt_of_le (Heap.lt_size e) (Nat.le_trans I.ok.bsz z)) (Nat.lt_irrefl _)
    · rcases List.mem_cons.mp (I.stkSub b z) with z | z
      · exact (hfp b hb).1.2.1 z
      · exact (hfp b hb).1.2.2.1 z
  refine ⟨okB, rfl, I.bare, Un.kept kp, ⟨fun _ => none, ?_, fun i y av e1 e2 e3 => ?_⟩, fun y c e => ?_, ?_, fun y c e => ?_, fun p hp => ?_, I.hok.kept kp, by rw [wipe_length]; exact I.len⟩
  · show Heap.Ns _ cenv.locals _
    rw [hL]
    exact Heap.Ns.keeps (Heap.Ns.new ..) fun b o e => pushCells_keeps _ _ _ _ e
  · obtain ⟨e2, hne⟩ := wipe_some e2
    have hfr : scope.names.lookup y = some .free ∧ (cenv.kindOf y = some .cell ∨ cenv.kindOf y = some .free) := by
      have key : ∀ k, cenv.scope.names.lookup y = some k → k = .local ∨ k = .cell ∨ k = .free → scope.names.lookup y = some .free ∧ (cenv.kindOf y = some .cell ∨ cenv.kindOf y = some .free) := fun k hk hk' => by
        have hk0 := hk
        rw [hsc] at hk
        obtain ⟨k', e, r⟩ := lookup_relS hk
        have no : ¬ (k' = .local ∨ k' = .cell) := fun hh => by
          rcases ok.own _ (PySem.mem_of_lookup e) hh with e' | e'
          · obtain ⟨p, hp, hpy⟩ := List.mem_map.mp e'
            have e3 := ok.ix p hp
            have : p.1 = y := hpy
            rw [this] at e3
            exact hne (List.mem_map.mpr ⟨p, hp, nodup_ix hN e3 e1⟩)
          · exact e' (List.mem_of_getElem? e1)
        rcases r with rfl | ⟨rfl, rfl⟩
        · rcases hk' with rfl | rfl | rfl
          · exact absurd (.inl rfl) no
          · exact absurd (.inr rfl) no
          · exact ⟨e, .inr hk0⟩
        · exact ⟨e, .inl hk0⟩
      have e3 : Vis cenv.scope y := e3
      rcases e3 with e3 | e3 | e3
      · exact key _ e3 (.inl rfl)
      · exact key _ e3 (.inr (.inl rfl))
      · exact key _ e3 (.inr (.inr rfl))
    obtain ⟨m, hn, hl⟩ := I.loc
    have hvis : Vis X.env.scope y := (ok.free _ (PySem.mem_of_lookup hfr.1) rfl).elim (fun k => .inr (.inl k)) (fun k => .inr (.inr k))
    obtain ⟨w, r, q⟩ := hl i y av e1 e2 hvis
    refine ⟨w, r, .inr ⟨hfr.2, ?_⟩⟩
    obtain ⟨c, h1, h2⟩ := look hfr.1
    rcases q with ⟨k, _⟩ | ⟨_, c', e', z⟩
    · have k : X.env.scope.names.lookup y = some .local := k
      rcases ok.free _ (PySem.mem_of_lookup hfr.1) rfl with k' | k' <;> rw [show X.env.scope.names.lookup y = _ from k'] at k <;> cases k
    · rw [h2] at e'; cases e'
      exact ⟨c, h1, z.keeps kp⟩
  · have e : cenv.cells.lookup y = some c := e
    rcases mem e with ⟨h1, _⟩ | ⟨_, z⟩
    · obtain ⟨w, z⟩ := I.cell y c h1
      exact ⟨w, z.keeps kp⟩
    · exact ⟨_, z⟩
  · show H cenv.locals = none
    rw [hL]; exact I.hok.fresh (Nat.le_refl _)
  · have e : cenv.cells.lookup y = some c := e
    rcases mem e with ⟨h1, _⟩ | ⟨h1, _⟩
    · exact I.freeC y c h1
    · exact I.hok.fresh (Nat.le_of_succ_le h1)
  · exact absurd (show p ∈ ([] : List (Addr × Obj)) ++ [] from hp) (by simp)

/-- an item appended to a tracked list -/
theorem app_ok {E : Value → Shared → Prop} {D : Addr} {xs : List V} {y : V} {v : Value} {Q : Value → Shared → Prop} (I : Inv X pins σ H s) (hD : H D = some (.lst xs)) (hz : xs.length < sizeLine) (r : RelV y v)
    (h : ∀ s', Inv X pins σ (upd H D (.lst (xs ++ [y]))) s' → Q .none s') : wpAny (model X.prog X.w) X.A (call (.builtin "list.append") [.ref D, v]) Q E s := by
  obtain ⟨hz', its, n, ri, e⟩ := I.hok D _ hD
  have hl := ri.length
  refine append_at (hsz := by rw [List.size_toArray]; omega) e fun h' sb ho' => ?_
  refine h { s with heap := h' } (I.write (t' := s.toks) (by rw [hD]; trivial) (.inl rfl) (fun b u hb q => (sb.2 b hb).trans q) ⟨_, ho'⟩ ⟨by rw [List.length_append]; exact hz, its ++ [v], n + 1, ri.append (.cons r .nil), ?_⟩)
  rw [ho']
  simp

/-- a clause's tests -/
def PTs (X : Cx) (ifs : List Expr) (t : TT) : Prop :=
  ∀ (pins : List (Addr × Obj)) (s : Shared) (σ : St) (H : Hp) (Q : Bool → Hp → Prop), Inv X pins σ H s → t σ H Q →
    wpAny (model X.prog X.w) X.A (forIn ifs true fun c r => if r = true then do let ok ← isTrue c X.env (eval c X.env); pure (ForInStep.yield ok) else pure (ForInStep.yield r)) (TP X pins σ Q) X.xe s
def tYes : TT := fun _ H Q => Q true H
theorem pts_nil : PTs X [] tYes := fun _ _ _ H _ I h => wpAny_tests_nil ⟨H, I, h⟩
end

theorem thnF {α : Type} {t : Sem α} {Q Q' : α → Shared → Prop} {M : Model} {A : Around} {E : Value → Shared → Prop} {s : Shared} (h : wpAny M A t Q (fun _ _ => False) s) (hQ : ∀ a s, Q a s → Q' a s) : wpAny M A t Q' E s := wpAny_mono h hQ fun _ _ z => False.elim z

/-- the loop of a list comprehension's block, the target of any form (codeAny_compLoop_tests asks a target that no tuple goes to; statement and proof follow it, PyProof/CompMap.lean:41-61, with the step letOwnedTupleGo kept) -/
theorem compLoop_any {prog : Program} {w : World} {A : Around} {R : Result → Shared → Prop} {s : Shared} {elt target iter : Expr} {ifs : List Expr} {scope : Scope} {pos : Pos} {it acc : Value} {env : Env} (I : Nat → Shared → Prop)
    (turn : ∀ n s, I n s → wpAny (model prog w) A (pyNext it) (fun r s₁ => match r with
      | none => R (.ok .next) s₁
      | some v => wpAny (model prog w) A (letOwnedTupleGo target it v) (fun _ s₁' => wpAny (model prog w) A (assign target env v) (fun _ s₂ =>
          wpAny (model prog w) A (forIn ifs true fun c r => if r = true then do let ok ← isTrue c env (eval c env); pure (ForInStep.yield ok) else pure (ForInStep.yield r)) (fun ok s₃ =>
            if ok = true then wpAny (model prog w) A (eval elt env) (fun x s₄ =>
              wpAny (model prog w) A (call (.builtin "list.append") [acc, x]) (fun _ s₅ => ∃ m, m < n ∧ I m s₅) (notedBy (model prog w) A env fun e s' => R (.error e) s') s₄) (notedBy (model prog w) A env fun e s' => R (.error e) s') s₃
            else ∃ m, m < n ∧ I m s₃) (notedBy (model prog w) A env fun e s' => R (.error e) s') s₂) (notedBy (model prog w) A env fun e s' => R (.error e) s') s₁') (notedBy (model prog w) A env fun e s' => R (.error e) s') s₁) (notedBy (model prog w) A env fun e s' => R (.error e) s') s)
    (n : Nat) (h : I n s) :
    codeAny (model prog w) A (.compLoop (.ListComp elt [⟨target, iter, ifs, 0⟩] scope pos) 0 it acc env) R s := by
  refine codeAny_loop rfl I (fun n s hI => ?_) n h
  show wpAny _ A ((compTurn (.ListComp elt [⟨target, iter, ifs, 0⟩] scope pos) 0 it acc env).onRaise (fun x => do noteFrame x env; theTreesLotGoes x)) _ _ s
  refine wpAny_noted ?_
  rw [compTurn_list]
  refine wpAny_bind (wpAny_standAt (wpAny_bind (wpAny_mono (turn n s hI) (fun r s₁ h₁ => ?_) fun _ _ h' => h')))
  cases r with
  | none => exact wpAny_pure h₁
  | some v =>
    refine wpAny_bind (wpAny_mono h₁ (fun _ s₁' h₁' => ?_) fun _ _ h' => h')
    refine wpAny_bind (wpAny_mono h₁' (fun _ s₂ h₂ => wpAny_bind (wpAny_mono h₂ (fun ok s₃ h₃ => ?_) fun _ _ h' => h')) fun _ _ h' => h')
    cases ok with
    | false => exact wpAny_pure ⟨rfl, h₃⟩
    | true =>
      exact wpAny_bind (wpAny_bind (wpAny_mono h₃ (fun x s₄ h₄ => wpAny_bind (wpAny_mono h₄ (fun _ s₅ h₅ => wpAny_pure (wpAny_pure ⟨rfl, h₅⟩)) fun _ _ h' => h')) fun _ _ h' => h'))

section
variable {X : Cx}
/-- [elt for target in iter if ..]: D the new list; W by the turn and a measure, Nx what a turn is to reach -/
def tLc (wi : TI) (g : TG) (tt : TT) (te : TE) (vs : List Nat) : TE := fun σ H Q => wi σ H fun J H1 => ∀ D, H1 D = none → ∃ W : Nat → Nat → Hp → Prop, (∃ m, W 0 m (upd H1 D (.lst []))) ∧ ∀ i m H, W i m H →
  (J.stop i H ∧ Q (.ref D) H) ∨ (J.go i H ∧ ∃ Nx : Hp → Prop, (∀ H', Nx H' → ∃ m', m' < m ∧ W (i + 1) m' H') ∧ ∀ x H', J.yld i H x H' → g x (wipe σ vs) H' fun σ2 H2 => wipe σ2 vs = wipe σ vs ∧ tt σ2 H2 fun b H3 =>
    if b = true then te σ2 H3 fun y H4 => ∃ acc, H4 D = some (.lst acc) ∧ acc.length < sizeLine ∧ Nx (upd H4 D (.lst (acc ++ [y]))) else Nx H3)
theorem lc_core {pins : List (Addr × Obj)} {s : Shared} {σ : St} {H : Hp} {Q : VK} {elt tg iter : Expr} {ifs : List Expr} {scope : Scope} {own : List (Str × Nat)} {pos pos' : Pos} {wi : TI} {g : TG} {tt : TT} {te : TE} {use : Option (Value → Sem Unit)} {Qf : Value → Shared → Prop}
    (hc : X.calm = true) (hN : X.N.Nodup) (I : Inv X pins σ H s) (hi : PI X tg iter wi) (ok : BlkOk X.N X.env.scope scope own)
    (hg : ∀ (s : Shared) (H : Hp) (C : Addr) (cl : List (Str × Addr)) (fp : List Addr), PG (X.blk s H scope (compEnvC scope cl C X.env) fp) tg g) (ht : ∀ (s : Shared) (H : Hp) (C : Addr) (cl : List (Str × Addr)) (fp : List Addr), PTs (X.blk s H scope (compEnvC scope cl C X.env) fp) ifs tt)
    (he : ∀ (s : Shared) (H : Hp) (C : Addr) (cl : List (Str × Addr)) (fp : List Addr), PE (X.blk s H scope (compEnvC scope cl C X.env) fp) elt te) (hs : ∀ x, foldedSetIterable iter X.env x = pure x)
    (h : tLc wi g tt te (own.map (·.2)) σ H Q)
    (hRR : ∀ D C s' m H', Inv X pins σ H' s' → Q (.ref D) H' → s'.heap.Ns C m → FpOk X pins H' C → compPost (model X.prog X.w) X.A X.xe use Qf (.ref D) C (.ok .next) s') :
    wpAny (model X.prog X.w) X.A (comprehension (.ListComp elt [⟨tg, iter, ifs, 0⟩] scope pos) scope X.env pos' (newList []) false (eval iter X.env) use) Qf X.xe s := by
  have hfree : ∀ y ∈ scope.names, y.2 = .free → ∃ c, X.env.cells.lookup y.1 = some c := fun y hy e => by
    rcases ok.free y hy e with k | k
    · exact I.ok.has _ (.inl k)
    · exact I.ok.has _ (.inr k)
  refine wpAny_comprehension_free (use := use) rfl hs (closure_ok hfree) ok.kind (fun y hy e => by rw [ok.uniq y hy, e])
    (thn (hi pins s σ H _ I h) fun xv s1 hx => thn hx fun itv s2 h2 => ?_)
  obtain ⟨it, fp, tn, J, H2, e, I2, T, st2, f2, q⟩ := h2
  subst e
  refine wpAny_newObj_type (newEnv_comp ?_) (by show 0 ≤ sizeLine; decide)
  generalize hD : s2.heap.objs.size = D
  have hDn : H2 D = none := I2.hok.fresh (Nat.le_of_eq hD)
  obtain ⟨W, ⟨m0, w0⟩, turn⟩ := q D hDn
  -- the new list
  generalize hs3 : ({ s2 with heap := s2.heap.push { cls := .type "list", data := .seq ([] : List Value).toArray } } : Shared) = s3
  have I3 : Inv X pins σ (upd H2 D (.lst [])) s3 := by
    rw [← hs3]
    refine I2.laid (t' := s2.toks) (fun b o e => Heap.get?_push_of_some _ e) (Nat.le_of_eq hD) ⟨Nat.zero_le _, [], 0, .nil, ?_⟩
    rw [← hD]
    exact Heap.get?_push_size _ rfl
  have h3 : s3.heap = s2.heap.push { cls := .type "list", data := .seq ([] : List Value).toArray } := by rw [← hs3]
  have sz : ∀ b ∈ fp, b < s2.heap.objs.size := fun b hb => by
    obtain ⟨o, e, _⟩ := T.obj _ _ st2 b hb
    exact Heap.lt_size e
  have f3 : ∀ b ∈ fp, FpOk X pins (upd H2 D (.lst [])) b ∧ b < s3.heap.objs.size := fun b hb => by
    have hlt := sz b hb
    refine ⟨⟨?_, (f2 b hb).2⟩, by rw [h3, Heap.size_push]; exact Nat.lt_succ_of_lt hlt⟩
    rw [upd_ne (by rw [← hD]; exact Nat.ne_of_lt hlt)]
    exact (f2 b hb).1
  have st3 : tn 0 s3.heap := T.keep _ _ _ st2 fun b _ o e => by rw [h3]; exact Heap.get?_push_of_some _ e
  have I4 := block_start I3 ok hN f3
  have pg := hg s3 (upd H2 D (.lst [])) s3.heap.objs.size (cellsFrom (s3.heap.objs.size + 1) scope.names (cloFrom X.env.cells scope.names [])) fp
  have pt := ht s3 (upd H2 D (.lst [])) s3.heap.objs.size (cellsFrom (s3.heap.objs.size + 1) scope.names (cloFrom X.env.cells scope.names [])) fp
  have pe := he s3 (upd H2 D (.lst [])) s3.heap.objs.size (cellsFrom (s3.heap.objs.size + 1) scope.names (cloFrom X.env.cells scope.names [])) fp
  show codeAny _ _ (.compStart (.ListComp elt [⟨tg, iter, ifs, 0⟩] scope pos) 0 (.ref it) (.ref D) (compEnvC scope (cellsFrom (s3.heap.objs.size + 1) scope.names (cloFrom X.env.cells scope.names [])) s3.heap.objs.size X.env)) (compPost (model X.prog X.w) X.A X.xe use Qf (.ref D) s3.heap.objs.size) { s3 with heap := pushCells (s3.heap.push { cls := .type "dict", data := .dict #[] }) scope.names }
  have nfp : ∀ b ∈ fp, (upd H2 D (.lst [])) b = none := fun b hb => (f3 b hb).1.1
  generalize hce : compEnvC scope (cellsFrom (s3.heap.objs.size + 1) scope.names (cloFrom X.env.cells scope.names [])) s3.heap.objs.size X.env = ce at I4 pg pt pe ⊢
  have cL : ce.locals = s3.heap.objs.size := by subst hce; rfl
  generalize hH3 : upd H2 D (.lst []) = H3 at I3 I4 pg pt pe w0 nfp f3
  generalize hs4 : ({ s3 with heap := pushCells (s3.heap.push { cls := .type "dict", data := .dict #[] }) scope.names } : Shared) = s4 at I4 ⊢
  have st4 : tn 0 s4.heap := T.keep _ _ _ st3 fun b _ o e => by rw [← hs4]; exact pushCells_keeps _ _ _ _ (Heap.get?_push_of_some _ e)
  have stat : ∀ {σ' : St} {H' : Hp} {s' : Shared}, Inv (X.blk s3 H3 scope ce fp) [] σ' H' s' → (∀ b ∈ fp, H' b = none) → ∀ b ∈ fp, FpOk (X.blk s3 H3 scope ce fp) [] H' b := fun {σ' H' s'} I' hn b hb =>
    ⟨hn b hb, (I'.ok.exf b hb).1, I'.ok.exfs b hb, .inl hb, fun x c e => (I'.ok.exf b hb).2 x c e, fun p hp => absurd (show p ∈ ([] : List (Addr × Obj)) ++ [] from hp) (by simp)⟩
  have loop : codeAny (model X.prog X.w) X.A (.compLoop (.ListComp elt [⟨tg, iter, ifs, 0⟩] scope pos) 0 (.ref it) (.ref D) ce) (compPost (model X.prog X.w) X.A X.xe use Qf (.ref D) s3.heap.objs.size) s4 := by
    refine compLoop_any (fun n s' => ∃ i H', Inv (X.blk s3 H3 scope ce fp) [] (wipe σ (own.map (·.2))) H' s' ∧ tn i s'.heap ∧ (∀ b ∈ fp, H' b = none) ∧ W i n H') ?_ m0 ⟨0, H3, I4, st4, nfp, w0⟩
    rintro n s5 ⟨i, H5, I5, st5, n5, w5⟩
    rcases turn i n H5 w5 with ⟨stop, qq⟩ | ⟨go, Nx, hNx, step⟩
    · have td := T.done (X.blk s3 H3 scope ce fp) rfl rfl rfl hc i [] s5 _ H5 (fun _ _ => False) I5 (stat I5 n5) st5 stop
      refine thnF td fun r s6 ⟨hr, I6⟩ => ?_
      subst hr
      -- back in the def's context
      have I7 : Inv X pins σ H5 s6 := I3.call' (ch := fp) I6.os I6.base I6.hok I6.bare fun b hb => ⟨(f3 b hb).1.2.2.2.1, (f3 b hb).1.2.1, (f3 b hb).1.2.2.2.2.1, (f3 b hb).1.2.2.2.2.2⟩
      have nC : H5 s3.heap.objs.size = none := by
        have z : H5 ce.locals = none := I6.free
        rw [cL] at z
        exact z
      obtain ⟨m, hn, _⟩ := I6.loc
      have hn : s6.heap.Ns ce.locals m := hn
      rw [cL] at hn
      exact hRR D s3.heap.objs.size s6 m H5 I7 qq hn (I3.fpOk (Nat.le_refl _) nC)
    · have ti := T.item (X.blk s3 H3 scope ce fp) rfl rfl rfl hc i [] s5 _ H5 (fun _ _ => False) I5 (stat I5 n5) st5 go
      refine thnF ti fun r s6 ⟨u, hr, h6⟩ => ?_
      subst hr
      refine thnF h6 fun _ s7 ⟨x, H7, I7, r7, y7, st7, n7⟩ => ?_
      have I7' := I7.pinned (stat I7 n7) (T.obj _ _ st7)
      refine thnF (pg _ s7 _ H7 x u _ I7' r7 (step x H7 y7)) fun _ s8 ⟨σ8, H8, I8, hw8, q8⟩ => ?_
      refine thnF (pt _ s8 σ8 H8 _ I8 q8) fun b s9 ⟨H9, I9, q9⟩ => ?_
      -- the turn's end
      have fin : ∀ {s' : Shared} {H' : Hp}, Inv (X.blk s3 H3 scope ce fp) ([] ++ pinsAt fp s7.heap) σ8 H' s' → Nx H' → ∃ m, m < n ∧ ∃ i H', Inv (X.blk s3 H3 scope ce fp) [] (wipe σ (own.map (·.2))) H' s' ∧ tn i s'.heap ∧ (∀ b ∈ fp, H' b = none) ∧ W i m H' := fun {s' H'} I' nx => by
        obtain ⟨m', hm, w'⟩ := hNx H' nx
        have pin' : ∀ b ∈ fp, ∀ o, s7.heap.get? b = some o → s'.heap.get? b = some o ∧ H' b = none := fun b hb o e =>
          let z := I'.pin (b, o) (List.mem_append_right _ (List.mem_append_right _ (mem_pinsAt hb e)))
          ⟨z.1, z.2.1⟩
        have hl : (wipe σ (own.map (·.2))).length = σ8.length := by rw [← hw8, wipe_length]
        refine ⟨m', hm, i + 1, H', (I'.unpinned (pins := [])).weak hl (fun j v e => ?_), T.keep _ _ _ st7 fun b hb o e => (pin' b hb o e).1, fun b hb => ?_, w'⟩
        · rw [← hw8] at e
          exact (wipe_some e).1
        · obtain ⟨o, e, _⟩ := T.obj _ _ st7 b hb
          exact (pin' b hb o e).2
      cases b with
      | false =>
        simp only [Bool.false_eq_true, if_false] at q9 ⊢
        exact fin I9 q9
      | true =>
        simp only [if_true] at q9 ⊢
        refine thnF (pe _ s9 σ8 H9 _ I9 q9) fun z s10 ⟨yv, H10, I10, r10, acc, hD10, hz10, nx⟩ => ?_
        exact app_ok (X := X.blk s3 H3 scope ce fp) I10 hD10 hz10 r10 fun s11 I11 => fin I11 nx
  exact codeAny_compStart_list loop (T.self X.A 0 _ _ _ st4 loop)
/-- as a value -/
theorem pe_lc {elt tg iter : Expr} {ifs : List Expr} {scope : Scope} {own : List (Str × Nat)} {pos : Pos} {wi : TI} {g : TG} {tt : TT} {te : TE} (hc : X.calm = true) (hN : X.N.Nodup) (hi : PI X tg iter wi) (ok : BlkOk X.N X.env.scope scope own)
    (hg : ∀ (s : Shared) (H : Hp) (C : Addr) (cl : List (Str × Addr)) (fp : List Addr), PG (X.blk s H scope (compEnvC scope cl C X.env) fp) tg g) (ht : ∀ (s : Shared) (H : Hp) (C : Addr) (cl : List (Str × Addr)) (fp : List Addr), PTs (X.blk s H scope (compEnvC scope cl C X.env) fp) ifs tt)
    (he : ∀ (s : Shared) (H : Hp) (C : Addr) (cl : List (Str × Addr)) (fp : List Addr), PE (X.blk s H scope (compEnvC scope cl C X.env) fp) elt te) (hs : ∀ x, foldedSetIterable iter X.env x = pure x := by intro _; rfl) :
    PE X (.ListComp elt [⟨tg, iter, ifs, 0⟩] scope pos) (tLc wi g tt te (own.map (·.2))) := by
  intro pins s σ H Q I h
  rw [eval_ListComp]
  refine lc_core hc hN I hi ok hg ht he hs h fun D C s' m H' I' q hn f => ⟨m, hn, fun h'' sb => ?_⟩
  obtain ⟨f0, f1, f2, f3, f4, f5⟩ := f
  exact ⟨.ref D, H', I'.turned (t' := s'.toks) (fun b o hb e => (sb.2 b hb).trans e) f0 f1 f3 f4 f5, rfl, q⟩
end

/-! ### the forms one uses -/
/-- over a range: Pv by the turn and the heap (the new list at D within) -/
theorem lc_range {lo : Int} {n : Nat} {g : TG} {tt : TT} {te : TE} {vs : List Nat} {σ : St} {H1 : Hp} {D : Addr} {Qd : Hp → Prop} (Pv : Nat → Hp → Prop) (h0 : Pv 0 (upd H1 D (.lst [])))
    (hs : ∀ i H, i < n → Pv i H → g (.int (lo + i)) (wipe σ vs) H fun σ2 H2 => wipe σ2 vs = wipe σ vs ∧ tt σ2 H2 fun b H3 =>
      if b = true then te σ2 H3 fun y H4 => ∃ acc, H4 D = some (.lst acc) ∧ acc.length < sizeLine ∧ Pv (i + 1) (upd H4 D (.lst (acc ++ [y]))) else Pv (i + 1) H3) (hd : ∀ H, Pv n H → Qd H) :
    ∃ W : Nat → Nat → Hp → Prop, (∃ m, W 0 m (upd H1 D (.lst []))) ∧ ∀ i m H, W i m H →
      ((Itr lo n).stop i H ∧ Qd H) ∨ ((Itr lo n).go i H ∧ ∃ Nx : Hp → Prop, (∀ H', Nx H' → ∃ m', m' < m ∧ W (i + 1) m' H') ∧ ∀ x H', (Itr lo n).yld i H x H' → g x (wipe σ vs) H' fun σ2 H2 => wipe σ2 vs = wipe σ vs ∧ tt σ2 H2 fun b H3 =>
        if b = true then te σ2 H3 fun y H4 => ∃ acc, H4 D = some (.lst acc) ∧ acc.length < sizeLine ∧ Nx (upd H4 D (.lst (acc ++ [y]))) else Nx H3) := by
  refine ⟨fun i m H => m = n - i ∧ i ≤ n ∧ Pv i H, ⟨n, by simp, Nat.zero_le _, h0⟩, ?_⟩
  rintro i m H ⟨rfl, hi, p⟩
  by_cases hlt : i < n
  · refine .inr ⟨hlt, Pv (i + 1), fun H' p' => ⟨n - (i + 1), by omega, rfl, hlt, p'⟩, fun x H' y => ?_⟩
    obtain ⟨e, y⟩ := y
    subst e y
    exact hs i _ hlt p
  · have e : i = n := by omega
    subst e
    exact .inl ⟨Nat.le_refl _, hd H p⟩
/-- over a list that the block leaves as it is -/
theorem lc_list {K : PySem.W.Frag} {a : Addr} {xs : List V} {g : TG} {tt : TT} {te : TE} {vs : List Nat} {σ : St} {H1 : Hp} {D : Addr} {Qd : Hp → Prop} (Pv : Nat → Hp → Prop) (h0 : Pv 0 (upd H1 D (.lst []))) (hl : ∀ i H, i ≤ xs.length → Pv i H → SqL K H a xs)
    (hs : ∀ i x H, xs[i]? = some x → Pv i H → g x (wipe σ vs) H fun σ2 H2 => wipe σ2 vs = wipe σ vs ∧ tt σ2 H2 fun b H3 =>
      if b = true then te σ2 H3 fun y H4 => ∃ acc, H4 D = some (.lst acc) ∧ acc.length < sizeLine ∧ Pv (i + 1) (upd H4 D (.lst (acc ++ [y]))) else Pv (i + 1) H3) (hd : ∀ H, Pv xs.length H → Qd H) :
    ∃ W : Nat → Nat → Hp → Prop, (∃ m, W 0 m (upd H1 D (.lst []))) ∧ ∀ i m H, W i m H →
      ((Itl K a).stop i H ∧ Qd H) ∨ ((Itl K a).go i H ∧ ∃ Nx : Hp → Prop, (∀ H', Nx H' → ∃ m', m' < m ∧ W (i + 1) m' H') ∧ ∀ x H', (Itl K a).yld i H x H' → g x (wipe σ vs) H' fun σ2 H2 => wipe σ2 vs = wipe σ vs ∧ tt σ2 H2 fun b H3 =>
        if b = true then te σ2 H3 fun y H4 => ∃ acc, H4 D = some (.lst acc) ∧ acc.length < sizeLine ∧ Nx (upd H4 D (.lst (acc ++ [y]))) else Nx H3) := by
  refine ⟨fun i m H => m = xs.length - i ∧ i ≤ xs.length ∧ Pv i H, ⟨xs.length, by simp, Nat.zero_le _, h0⟩, ?_⟩
  rintro i m H ⟨rfl, hi, p⟩
  have q := hl i H hi p
  by_cases hlt : i < xs.length
  · refine .inr ⟨⟨xs, xs[i], q, by simp [hlt]⟩, Pv (i + 1), fun H' p' => ⟨xs.length - (i + 1), by omega, rfl, hlt, p'⟩, fun x H' y => ?_⟩
    obtain ⟨e, y⟩ := y
    subst e
    exact hs i x _ (y xs q) p
  · have e : i = xs.length := by omega
    subst e
    exact .inl ⟨⟨xs, q, Nat.le_refl _⟩, hd H p⟩
def blkC (N : List Str) (sc scope : Scope) (own : List (Str × Nat)) : Bool :=
  (match scope.kind with | .function => true | _ => false) && (scope.names.all fun y => decide (scope.names.lookup y.1 = some y.2)) && (own.all fun p => decide (N[p.2]? = some p.1)) &&
    (scope.names.all fun y => match y.2 with
      | .free => (match sc.names.lookup y.1 with | some .cell => true | some .free => true | _ => false)
      | .local => decide (y.1 ∈ own.map (·.1)) || decide (y.1 ∉ N)
      | .cell => decide (y.1 ∈ own.map (·.1)) || decide (y.1 ∉ N)
      | _ => true)
theorem blkOk_by {N : List Str} {sc scope : Scope} {own : List (Str × Nat)} (h : blkC N sc scope own = true) : BlkOk N sc scope own := by
  unfold blkC at h
  simp only [Bool.and_eq_true, List.all_eq_true, decide_eq_true_eq] at h
  obtain ⟨⟨⟨h1, h2⟩, h3⟩, h4⟩ := h
  refine ⟨?_, h2, h3, fun y hy e => ?_, fun y hy e => ?_⟩
  · split at h1
    · assumption
    · cases h1
  · have q := h4 y hy
    simp only [e] at q
    split at q <;> first | exact .inl (by assumption) | exact .inr (by assumption) | cases q
  · have q := h4 y hy
    rcases e with e | e <;> (simp only [e, Bool.or_eq_true, decide_eq_true_eq] at q; exact q)
end L2

namespace L2
open PySem PySem.Spec PyProof.Rows


section
variable {prog : Program} {w : World} {A : Around} {R : Result → Shared → Prop} {s : Shared} {elt t0 i0 t1 i1 : Expr} {ifs0 ifs1 : List Expr} {scope : Scope} {pos : Pos} {it acc : Value} {env : Env}
end

section
variable {X : Cx}
end
end L2

namespace L2
open PySem PySem.Spec PyProof.Rows

/-! ### lists of pairs as tables -/
section
variable {κ : Type} [DecidableEq κ]



end


/-! ### a tracked dict, its keys ints and texts or tuples of these -/


section
variable {P : Program} {w : World} {H : Hp} {h : Heap} {a : Addr}
end



section
variable {X : Cx} {pins : List (Addr × Obj)} {σ : St} {H : Hp} {s : Shared} {a : Addr} {y v : V} {u r : Value} {o : Option V} {A : Around} {E : Value → Shared → Prop}


end

section
variable {X : Cx} {pins : List (Addr × Obj)} {σ : St} {H : Hp} {s : Shared} {a : Addr} {kvs : List (Key × V)} {k : Key} {u : Value} {A : Around} {E : Value → Shared → Prop}
end


/-! ### readings and rules -/



section
variable {X : Cx} {o i e value : Expr} {pos pos' tpos : Pos} {td ty tv : TE}
end


/-! ### displays -/
section
variable {X : Cx} {pos : Pos}
end




/-! ### methods -/


section
variable {X : Cx} {pins : List (Addr × Obj)} {σ : St} {H : Hp} {s : Shared} {a : Addr} {y d : V} {u r : Value} {o : Option V} {A : Around} {E : Value → Shared → Prop}
end

section
variable {X : Cx} {o e f : Expr} {apos cpos : Pos} {td ty tx : TE}
end

/-! ### dict(d): a copy -/
section
variable {X : Cx} {pins : List (Addr × Obj)} {σ : St} {H : Hp} {s : Shared} {a : Addr} {kvs : List (Key × V)} {A : Around} {E : Value → Shared → Prop}
end


section
variable {X : Cx} {pins : List (Addr × Obj)} {σ : St} {H : Hp} {s : Shared} {a : Addr} {y : V} {u : Value} {A : Around} {E : Value → Shared → Prop}
end
end L2

namespace L2
open PySem PySem.Spec PyProof.Rows


section
variable {prog : Program} {w : World} {A : Around} {E : Value → Shared → Prop}


end

section
variable {X : Cx}
end
end L2

namespace L2
open PySem PySem.Spec PyProof.Rows


section
variable {X : Cx} {pins : List (Addr × Obj)} {σ : St} {H : Hp} {s : Shared} {h' : Heap}

/-! ### locking a thing while a statement runs -/
end
section
variable {X : Cx}

/-! ### one iterator just laid -/
end

/-! ### range with a step -/
section
variable {X : Cx} {tg : Expr}
end

/-! ### reversed(list) -/
section
variable {X : Cx} {tg : Expr}
end

/-! ### a str -/

/-! ### a dict's keys: any dict's entries -/
section
variable {prog : Program} {w : World} {A : Around} {E : Value → Shared → Prop} {s : Shared}
end

/-! ### a locked dict -/
section
variable {X : Cx} {pins : List (Addr × Obj)} {σ : St} {H : Hp} {s : Shared} {d : Addr} {o : Obj}
end

section
variable {P : Program} {w : World} {K : PySem.W.Frag} {tg : Expr} {d : Addr} {o : Obj} {es : Array DictEntry} {ep : Nat}
end

/-! ### for k in d, d.keys(), d.values(), d.items() -/
section
variable {X : Cx} {tg e : Expr} {td : TE} {apos cpos : Pos}
end

/-! ### enumerate(list) -/
/-! ### zip(list, list) -/
end L2

section 
namespace Bits
open PySem PyProof.Rows








end Bits
end 

section 
namespace TL
open PySem PySem.Builtin PySem.Builtin.Str PySem.StrLaws


/-! ### the list functions -/




/-! ### the model's split and partition are these -/




/-! ### computing spl and par -/


/-! ### digits -/

/-! ### words: x.split() -/
end TL
end 

namespace L2
open PySem PySem.Spec PyProof.Rows




section
variable {X : Cx} {pins : List (Addr × Obj)} {σ : St} {H : Hp} {s : Shared} {Q : VK}
end

section
variable {X : Cx}





/-! ### of a text alone -/

/-! ### of a text and a text -/

end

section
variable {X : Cx} {o e : Expr} {to te : TE}

end
end L2

namespace L2
open PySem PySem.Spec PyProof.Rows

section
variable {X : Cx}
end

/-! ### slices of a text -/


end L2

namespace Att
open PySem PySem.W PySem.Calls PyProof.Rows

/-! ### the script -/



/-! ### the attachment: holds_open's last premise (the goal 'hc' behind k_head) from a wpAny of the law's body -/



/-! ### rules over ANY heap (no ledger) from facts about the written part K: the library's own take a ledger (News) for what they write -/
section
variable {prog : Program} {w : World} {A : Around} {E : Value → Shared → Prop} {s : Shared} {K : Frag}





/-! the whole heap as the ledger: makes every rule that writes through a ledger a rule over any heap -/

end
end Att

namespace L2
open PySem PySem.Spec PyProof.Rows



end L2

namespace L2
open PySem PySem.Spec PyProof.Rows


end L2

/- THE LAST THEOREM (shape; LID, My.* are yours):
   My.Adr: a structure of the addresses that your layer names (classes, functions); My.Txt K t: a structure (Prop) of the equations over K;
   My.txt_mk : {K} {implicit addresses ..} (e1 : nsIn K mainGlobals "law" = some (some (.ref f))) (e2 : K.lookup f = some ⟨oc, od, .func (fnOf "law" "law" params body scope dV kV doc pm an cdv ct), sl⟩) (e3 : codeIn K cdv "law" = true) .. : ∃ t, My.Txt K t

set_option maxRecDepth 100000 in
set_option maxHeartbeats 0 in
theorem PySem.Challenge.cw_LID_holds : PySem.Challenge.rw_LID.Holds := by
  w_on; o_law; k_head; (case hw => w_witness2)
  k_fill
  refine L2.walk_of (l := PySem.Challenge.rw_LID) (n := 63) (k := 40) (x := "script") (CX := fun w => ..) (sp := fun _ => My.sp_law) rfl (by decide) rfl ⟨rfl, by decide, by decide⟩ (fun w h Y => PySem.W.kIn_of Y) ?F ?S ?C
  case F =>
    intro w mg fa h KX G hmg
    have T : ∃ t, My.Txt (L2.KOf KX) t := by
      dsimp only [L2.KOf]                          -- K must stand as «<heap const> w.params» for k_is
      refine' My.txt_mk ?e1 ?e2 ?e3 ..
      (case e1 => PySem.W.k_is)                    -- in the order: a name -> its address -> its object -> its parts
      (case e2 => PySem.W.k_is)
      ..
    obtain ⟨t, T⟩ := T
    have e0 := hmg.symm.trans (PySem.W.mg_of KX G T.law)
    cases e0                                       -- fa is the law's own address
    exact ⟨_, fun s u => .of_eq rfl, fun base kb nb => My.law_fn T kb nb⟩     -- if «.of_eq rfl» comes too early: refine' ⟨_, ?b, fun base kb nb => My.law_fn T kb nb⟩; exact fun s u => .of_eq rfl
  case S => exact fun w H a ns hl hO hS => ..
  case C => exact ..
(the tactic k_is has no namespace: write k_is) -/

/-! SHORT WORDS over the layer: a def of the text, its body, what a loop and a test want. -/
namespace L2
open PySem PySem.Spec PyProof.Rows

/-! ### the text by places -/
/-- the j-th statement of a class's body -/
def inClass (s : Stmt) (j : Nat) : Stmt := match s with
  | .ClassDef _ _ _ body _ _ _ _ _ _ _ => body.getD j (.Pass ⟨0, 0, 0, 0⟩)
  | _ => .Pass ⟨0, 0, 0, 0⟩
def defArgs (s : Stmt) : Arguments := match s with
  | .FunctionDef _ a _ _ _ _ _ _ _ _ => a
  | _ => { posonlyargs := [], args := [], vararg := none, kwonlyargs := [], kw_defaults := [], kwarg := none, defaults := [] }
def defBody (s : Stmt) : List Stmt := match s with
  | .FunctionDef _ _ b _ _ _ _ _ _ _ => b
  | _ => []
def defScope (s : Stmt) : Scope := match s with
  | .FunctionDef _ _ _ _ _ _ sc _ _ _ => sc
  | _ => { kind := .function, names := [], isGenerator := false, isCoroutine := false }

/-! ### no exception leaves a def -/
abbrev CX0 : CXT := fun _ _ _ _ _ _ => False
abbrev E0 : XK := fun _ _ _ => False
theorem pass0 {X : Cx} : Passes CX0 X E0 := fun _ _ _ _ _ _ _ h => h.elim

/-! ### a def (or method) of the text as it stands behind the top -/
structure Fun (K : PySem.W.Frag) (x qual : Str) (st : Stmt) (f : Addr) (fd : FuncData) : Prop where
  ex : ∃ (oc : Value) (od : Option Addr) (kV doc pm : Value) (an : Option Addr) (cdv ct : Value) (osl : Array (Option Value)),
    fd = PySem.W.fnOf x qual (defArgs st) (defBody st) (defScope st) .none kV doc pm an cdv ct ∧ K.lookup f = some ⟨oc, od, .func fd, osl⟩ ∧ PySem.W.codeIn K cdv qual = true
  kp : PySem.W.keepIn K (.ref f) = true
section
variable {P : Program} {w : World} {K : PySem.W.Frag} {mg : Str → Option Value} {base : Heap}
/-- THE RULE for a def: its body as a term of rules, and the reading of that term -/
theorem Fun.ok {x qual : Str} {st : Stmt} {f : Addr} {fd : FuncData} {N ps : List Str} {k : Nat} {sp : Sp} (F : Fun K x qual st f fd) (S : FnScope N ps (defScope st)) (len : ∀ vs H Q E, sp vs H Q E → vs.length = ps.length)
    (hbody : ∀ (cdv : Value) (A : Around) (outer : List Env) (s : Shared) (H : Hp) (vs : List V) (Q : VK) (E : XK), Room k (A.deeper (envOfC qual (defScope st) s.heap.objs.size f cdv)) → sp vs H Q E →
      ∃ t, PSs (cxOf CX0 P w K mg base N qual (defScope st) f cdv A outer s H E).nox (defBody st) t ∧ t { nx := fun _ H' => Q .non H', rt := Q } (start N vs) H) : FnOk P w K mg base CX0 (k + 1) f fd ps sp := by
  obtain ⟨oc, od, kV, doc, pm, an, cdv, ct, osl, rfl, lk, hcd⟩ := F.ex
  refine fn_of lk hcd S len fun A outer s H vs Q E hr hsp => ?_
  obtain ⟨t, h, q⟩ := hbody cdv A outer s H vs Q E hr hsp
  exact ⟨t, h.nox, q⟩
/-- how its arguments bind (no defaults): h is «fun _ _ _ _ _ _ us hl => match us, hl with | [_, _], _ => rfl», one _ a parameter -/
theorem Fun.binds {x qual : Str} {st : Stmt} {f : Addr} {fd : FuncData} {ps : List Str} (F : Fun K x qual st f fd)
    (h : ∀ (kV doc pm : Value) (an : Option Addr) (cdv ct : Value) (us : List Value), us.length = ps.length → bindArgs (PySem.W.fnOf x qual (defArgs st) (defBody st) (defScope st) .none kV doc pm an cdv ct) ⟨us, []⟩ = pure (ps.zip us)) : Binds K fd ps [] := by
  obtain ⟨oc, od, kV, doc, pm, an, cdv, ct, osl, rfl, lk, hcd⟩ := F.ex
  exact .all (h kV doc pm an cdv ct)
theorem fun_mk {x qual : Str} {st : Stmt} {f : Addr} {oc : Value} {od an : Option Addr} {osl : Array (Option Value)} {kV doc pm cdv ct : Value} (l : K.lookup f = some ⟨oc, od, .func (PySem.W.fnOf x qual (defArgs st) (defBody st) (defScope st) .none kV doc pm an cdv ct), osl⟩)
    (c : PySem.W.codeIn K cdv qual = true) (k : PySem.W.keepIn K (.ref f) = true) : Fun K x qual st f (PySem.W.fnOf x qual (defArgs st) (defBody st) (defScope st) .none kV doc pm an cdv ct) := ⟨⟨oc, od, kV, doc, pm, an, cdv, ct, osl, rfl, l, c⟩, k⟩
end
theorem small1000 {n : Nat} (h : n ≤ 1000) : n < sizeLine := Nat.lt_of_le_of_lt h (by decide)

/-! ### expressions in short: the name that stands in the i-th slot -/
section
variable {X : Cx}
theorem pv (i : Nat) {x : Str} {pos : Pos} (hN : X.N[i]? = some x := by rfl) (hv : Vis X.env.scope x := by first | exact Or.inl rfl | exact Or.inr (Or.inl rfl) | exact Or.inr (Or.inr rfl)) (hd : (x == ("__debug__" : Str)) = false := by decide)
    (hcd : (x == ("__classdict__" : Str)) = false := by decide) : PE X (.Name x pos) (tVar i) := pe_var hN hv hd hcd
end

/-! ### tests -/
theorem iteF {A B : Prop} (h : B) : if false = true then A else B := by
  rw [if_neg Bool.false_ne_true]
  exact h
theorem iteT {A B : Prop} (h : A) : if true = true then A else B := by
  rw [if_pos rfl]
  exact h
theorem ite2 {c A B : Prop} [Decidable c] (h1 : c → A) (h2 : ¬ c → B) : if c then A else B := by
  by_cases h : c
  · rw [if_pos h]
    exact h1 h
  · rw [if_neg h]
    exact h2 h

/-! ### heaps -/
/-- all that was tracked is as it was -/
def Same (H H' : Hp) : Prop := ∀ b o, H b = some o → H' b = some o
theorem Same.refl (H : Hp) : Same H H := fun _ _ h => h
theorem Same.trans {H H1 H2 : Hp} (a : Same H H1) (b : Same H1 H2) : Same H H2 := fun c o h => b c o (a c o h)
theorem Same.free {H H' : Hp} (e : Same H H') {l : Addr} (h : H' l = Option.none) : H l = Option.none := by
  cases q : H l with
  | none => rfl
  | some o =>
    rw [e l o q] at h
    cases h
theorem Same.seq {K : PySem.W.Frag} {H H' : Hp} {a : Addr} {xs : List V} (e : Same H H') (h : SqL K H a xs) : SqL K H' a xs := by
  rcases h with (h | ⟨o, h⟩) | h
  · exact .inl (.inl (e _ _ h))
  · exact .inl (.inr ⟨o, e _ _ h⟩)
  · exact .inr h

/-! ### a dict's pairs: keys that differ -/
section
variable {κ : Type} [DecidableEq κ]
end
/-! ### lists -/
end L2

section
set_option maxHeartbeats 2000000
namespace L2
open PySem PySem.Spec PyProof.Rows
open PySem.W (WData Codec OpenSpec Well WellAll ReadsW ReadsAllW)
/-! ### an answer as data -/
mutual
/-- x stands for the datum d, lists and tuples all the way -/
inductive Dw (K : PySem.W.Frag) (H : Hp) : V → WData → Prop
  | non : Dw K H .non .none
  | bl (b : Bool) : Dw K H (.bl b) (.bool b)
  | int (i : Int) : Dw K H (.int i) (.int i)
  | str (x : Str) : Dw K H (.str x) (.str x)
  | byt (b : Array UInt8) : Dw K H (.byt b) (.bytes b.toList)
  | lst {a : Addr} {xs : List V} {ds : List WData} : SqL K H a xs → DwAll K H xs ds → Dw K H (.ref a) (.list ds)
  | tup {a : Addr} {xs : List V} {ds : List WData} : SqT K H a xs → DwAll K H xs ds → Dw K H (.ref a) (.tuple ds)
inductive DwAll (K : PySem.W.Frag) (H : Hp) : List V → List WData → Prop
  | nil : DwAll K H [] []
  | cons {v : V} {vs : List V} {d : WData} {ds : List WData} : Dw K H v d → DwAll K H vs ds → DwAll K H (v :: vs) (d :: ds)
end
theorem dw_ints {K : PySem.W.Frag} {H : Hp} : ∀ ns : List Int, DwAll K H (ns.map V.int) (ns.map WData.int)
  | [] => .nil
  | n :: r => .cons (.int n) (dw_ints r)
theorem ints_dw {K : PySem.W.Frag} {H : Hp} : ∀ (ns : List Int) (xs : List V), DwAll K H xs (ns.map WData.int) → xs = ns.map V.int
  | [], xs, h => by
    cases h
    rfl
  | n :: r, xs, h => by
    cases h with
    | cons h1 h2 =>
      cases h1
      rw [ints_dw r _ h2] <;> rfl
section
variable {P : Program} {w : World} {K : PySem.W.Frag} {H : Hp} {h : Heap} {R : PySem.W.WRecords} {cl : Str → Option Addr}
theorem sqL_at {a : Addr} {xs : List V} (hok : HOk P w H h) (KX : K.In h) (q : SqL K H a xs) : ∃ (its : List Value) (o : Obj) (n : Nat), Vals xs its ∧ h.get? a = some o ∧ o.cls = .type "list" ∧ o.data = .seq its.toArray n := by
  rcases q with q | ⟨o, its, n, e, hc, _, hd, _, hv⟩
  · obtain ⟨_, its, n, hv, e⟩ := (show ObjOk P w H h a (.lst xs) from q.ok hok)
    exact ⟨its, _, n, hv, e, rfl, rfl⟩
  · exact ⟨its.toList, o, n, hv, KX _ _ e, hc, by simp [hd]⟩
theorem sqT_at {a : Addr} {xs : List V} (hok : HOk P w H h) (KX : K.In h) (q : SqT K H a xs) : ∃ (its : List Value) (o : Obj) (n : Nat), Vals xs its ∧ h.get? a = some o ∧ o.cls = .type "tuple" ∧ o.data = .seq its.toArray n := by
  rcases q with q | ⟨o, its, n, e, hc, hd, _, hv⟩
  · obtain ⟨_, its, hv, o, e, hc, n, hd⟩ := (show ObjOk P w H h a (.tup xs) from q.ok hok)
    exact ⟨its, o, n, hv, e, hc, hd⟩
  · exact ⟨its.toList, o, n, hv, KX _ _ e, hc, by simp [hd]⟩
mutual
theorem Dw.reads (hok : HOk P w H h) (KX : K.In h) : ∀ (d : WData) (v : V) (u : Value), Dw K H v d → RelV v u → ∃ as, ReadsW R cl h u d as
  | .none, _, _, x, r => by
    cases x
    cases r
    exact ⟨_, ReadsW.none⟩
  | .bool b, _, _, x, r => by
    cases x
    cases r
    exact ⟨_, ReadsW.bool b⟩
  | .int i, _, _, x, r => by
    cases x
    obtain ⟨t, rfl⟩ := r
    exact ⟨_, ReadsW.int i t⟩
  | .str s, _, _, x, r => by
    cases x
    obtain ⟨t, rfl⟩ := r
    exact ⟨_, ReadsW.str s t⟩
  | .bytes b, _, _, x, r => by
    cases x
    obtain ⟨t, rfl⟩ := r
    exact ⟨_, ReadsW.bytes _ t⟩
  | .list ds, _, _, x, r => by
    cases x with
    | lst hs ha =>
      cases r
      obtain ⟨its, o, n, rv, ho, hc, hd⟩ := sqL_at hok KX hs
      obtain ⟨as, hr⟩ := Dw.readsAll hok KX ds _ its ha rv
      exact ⟨_, ReadsW.list ho hc hd hr⟩
  | .tuple ds, _, _, x, r => by
    cases x with
    | tup hs ha =>
      cases r
      obtain ⟨its, o, n, rv, ho, hc, hd⟩ := sqT_at hok KX hs
      obtain ⟨as, hr⟩ := Dw.readsAll hok KX ds _ its ha rv
      exact ⟨_, ReadsW.tuple ho hc hd hr⟩
  | .float _, _, _, x, _ => by cases x
  | .dict _, _, _, x, _ => by cases x
  | .bytearray _, _, _, x, _ => by cases x
  | .set _, _, _, x, _ => by cases x
  | .frozenset _, _, _, x, _ => by cases x
  | .obj _ _, _, _, x, _ => by cases x
theorem Dw.readsAll (hok : HOk P w H h) (KX : K.In h) : ∀ (ds : List WData) (vs : List V) (us : List Value), DwAll K H vs ds → Vals vs us → ∃ as, ReadsAllW R cl h us ds as
  | [], _, _, x, r => by
    cases x
    cases r
    exact ⟨_, ReadsAllW.nil⟩
  | d :: ds, _, _, x, r => by
    cases x with
    | cons h1 h2 =>
      cases r with
      | cons r1 r2 =>
        obtain ⟨as, q1⟩ := Dw.reads hok KX d _ _ h1 r1
        obtain ⟨bs, q2⟩ := Dw.readsAll hok KX ds _ _ h2 r2
        exact ⟨_, ReadsAllW.cons q1 q2⟩
end
end
/-! ### the arguments -/
mutual
/-- data that a codec tells -/
def plW : WData → Bool
  | .none => true
  | .bool _ => true
  | .int _ => true
  | .str _ => true
  | .bytes _ => true
  | .list xs => plWs xs
  | .tuple xs => plWs xs
  | _ => false
def plWs : List WData → Bool
  | [] => true
  | x :: r => plW x && plWs r
end
theorem plWs_map {α : Type} {f : α → WData} (h : ∀ a, plW (f a) = true) : ∀ l : List α, plWs (l.map f) = true
  | [] => rfl
  | x :: r => by
    show (plW (f x) && plWs (r.map f)) = true
    rw [h x, plWs_map h r] <;> rfl
theorem pl_enc : ∀ (c : Codec) (a : c.denote), plW (c.enc a) = true
  | .unit, _ => rfl
  | .bool, _ => rfl
  | .int _ _, _ => rfl
  | .nat _ _, _ => rfl
  | .u8, _ => rfl
  | .bytes _ _, _ => rfl
  | .text _ _ _ _, _ => rfl
  | .list _ _ c, a => plWs_map (fun x => pl_enc c x) a
  | .pair c d, a => by
    show (plW (c.enc a.1) && (plW (d.enc a.2) && true)) = true
    rw [pl_enc c a.1, pl_enc d a.2] <;> rfl
  | .triple c d e, a => by
    show (plW (c.enc a.1) && (plW (d.enc a.2.1) && (plW (e.enc a.2.2) && true))) = true
    rw [pl_enc c a.1, pl_enc d a.2.1, pl_enc e a.2.2] <;> rfl
  | .option c, none => rfl
  | .option c, some x => pl_enc c x
theorem pl_encAll : ∀ (cs : List Codec) (a : Codec.denoteAll cs), plWs (Codec.encAll cs a) = true
  | [], _ => rfl
  | c :: cs, a => by
    show (plW (c.enc a.1) && plWs (Codec.encAll cs a.2)) = true
    rw [pl_enc c a.1, pl_encAll cs a.2] <;> rfl
theorem weight_mem : ∀ {xs : List WData} {d : WData}, d ∈ xs → d.weight ≤ WData.weightAll xs
  | [], d, h => absurd h (by simp)
  | x :: r, d, h => by
    show d.weight ≤ x.weight + 1 + WData.weightAll r
    rcases List.mem_cons.mp h with e | m
    · rw [e]
      omega
    · have z := weight_mem m
      omega
def toV : Value → V
  | .none => .non
  | .bool b => .bl b
  | .int i _ => .int i
  | .str x _ => .str x
  | .bytes b _ => .byt b
  | .ref a => .ref a
  | _ => .non
/-- a value of the arguments, its objects among A -/
def OkU (A : List Addr) : Value → Prop
  | .none => True
  | .bool _ => True
  | .int _ _ => True
  | .str _ _ => True
  | .bytes _ _ => True
  | .ref a => a ∈ A
  | _ => False
theorem OkU.mono {A B : List Addr} (h : ∀ a ∈ A, a ∈ B) : ∀ {u : Value}, OkU A u → OkU B u := fun {u} x => by
  cases u with
  | ref a => exact h a x
  | none => trivial
  | bool b => trivial
  | int i t => trivial
  | str s t => trivial
  | bytes b t => trivial
  | _ => exact False.elim x
theorem relV_toV {A : List Addr} {u : Value} (x : OkU A u) : RelV (toV u) u := by
  cases u with
  | ref a => rfl
  | none => rfl
  | bool b => rfl
  | int i t => exact ⟨t, rfl⟩
  | str s t => exact ⟨t, rfl⟩
  | bytes b t => exact ⟨t, rfl⟩
  | _ => exact False.elim x
theorem vals_toV {A : List Addr} : ∀ {vs : List Value}, (∀ u ∈ vs, OkU A u) → Vals (vs.map toV) vs
  | [], _ => .nil
  | u :: r, h => .cons (relV_toV (h u (List.mem_cons_self ..))) (vals_toV fun x hx => h x (List.mem_cons_of_mem _ hx))
/-- an object of the arguments -/
def ArgOb (h : Heap) (A : List Addr) (a : Addr) : Prop := ∃ vs : List Value, vs.length ≤ sizeLine ∧ (∀ u ∈ vs, OkU A u) ∧
  (h.get? a = some { cls := .type "list", data := .seq vs.toArray } ∨ h.get? a = some { cls := .type "tuple", data := .seq vs.toArray })
theorem ArgOb.mono {h : Heap} {A B : List Addr} {a : Addr} (k : ∀ a ∈ A, a ∈ B) (x : ArgOb h A a) : ArgOb h B a := by
  obtain ⟨vs, h1, h2, h3⟩ := x
  exact ⟨vs, h1, fun u hu => (h2 u hu).mono k, h3⟩
theorem wellAll_len {P : Params} {h : Heap} : ∀ {vs : List Value} {ds : List WData}, WellAll P h vs ds → vs.length = ds.length
  | _, _, .nil => rfl
  | _, _, .cons _ b => by
    show _ + 1 = _ + 1
    rw [wellAll_len b]
theorem well_list {P : Params} {h : Heap} {v : Value} {ds : List WData} (x : Well P h v (.list ds)) : ∃ (a : Addr) (vs : List Value), v = .ref a ∧ h.get? a = some { cls := .type "list", data := .seq vs.toArray } ∧ WellAll P h vs ds := by
  cases x with
  | list ho hall => exact ⟨_, _, rfl, ho, hall⟩
theorem well_tuple {P : Params} {h : Heap} {v : Value} {ds : List WData} (x : Well P h v (.tuple ds)) : ∃ (a : Addr) (vs : List Value), v = .ref a ∧ h.get? a = some { cls := .type "tuple", data := .seq vs.toArray } ∧ WellAll P h vs ds := by
  cases x with
  | tuple ho hall => exact ⟨_, _, rfl, ho, hall⟩
theorem well_cons {P : Params} {h : Heap} {us : List Value} {d : WData} {ds : List WData} (x : WellAll P h us (d :: ds)) : ∃ (v : Value) (vs : List Value), us = v :: vs ∧ Well P h v d ∧ WellAll P h vs ds := by
  cases x with
  | cons a b => exact ⟨_, _, rfl, a, b⟩
theorem line_of {n : Nat} (h : n ≤ 1048576) : n ≤ sizeLine := Nat.le_trans h (by decide)
section
variable {P : Params} {h : Heap}
mutual
theorem area_one : ∀ (d : WData) (v : Value), Well P h v d → plW d = true → d.weight ≤ 1048576 → ∃ A : List Addr, OkU A v ∧ ∀ a ∈ A, ArgOb h A a
  | .none, _, x, _, _ => by
    cases x
    exact ⟨[], trivial, fun a m => absurd m (by simp)⟩
  | .bool b, _, x, _, _ => by
    cases x
    exact ⟨[], trivial, fun a m => absurd m (by simp)⟩
  | .int i, _, x, _, _ => by
    cases x
    exact ⟨[], trivial, fun a m => absurd m (by simp)⟩
  | .str s, _, x, _, _ => by
    cases x
    exact ⟨[], trivial, fun a m => absurd m (by simp)⟩
  | .bytes b, _, x, _, _ => by
    cases x
    exact ⟨[], trivial, fun a m => absurd m (by simp)⟩
  | .list ds, _, x, p, z => by
    obtain ⟨a, vs, rfl, ho, hall⟩ := well_list x
    have z2 : WData.weightAll ds ≤ 1048576 := z
    obtain ⟨A, h1, h2⟩ := area_all ds _ hall p fun d hd => Nat.le_trans (weight_mem hd) z2
    have k : ∀ b ∈ A, b ∈ a :: A := fun b hb => List.mem_cons_of_mem _ hb
    refine ⟨a :: A, List.mem_cons_self .., fun b hb => ?_⟩
    rcases List.mem_cons.mp hb with e | m
    · rw [e]
      exact ⟨vs, line_of (by rw [wellAll_len hall]; exact Nat.le_trans (PySem.W.length_le_weightAllW ds) z2), fun u hu => (h1 u hu).mono k, .inl ho⟩
    · exact (h2 b m).mono k
  | .tuple ds, _, x, p, z => by
    obtain ⟨a, vs, rfl, ho, hall⟩ := well_tuple x
    have z2 : WData.weightAll ds ≤ 1048576 := z
    obtain ⟨A, h1, h2⟩ := area_all ds _ hall p fun d hd => Nat.le_trans (weight_mem hd) z2
    have k : ∀ b ∈ A, b ∈ a :: A := fun b hb => List.mem_cons_of_mem _ hb
    refine ⟨a :: A, List.mem_cons_self .., fun b hb => ?_⟩
    rcases List.mem_cons.mp hb with e | m
    · rw [e]
      exact ⟨vs, line_of (by rw [wellAll_len hall]; exact Nat.le_trans (PySem.W.length_le_weightAllW ds) z2), fun u hu => (h1 u hu).mono k, .inr ho⟩
    · exact (h2 b m).mono k
  | .float _, _, _, p, _ => Bool.noConfusion (show false = true from p)
  | .dict _, _, _, p, _ => Bool.noConfusion (show false = true from p)
  | .bytearray _, _, _, p, _ => Bool.noConfusion (show false = true from p)
  | .set _, _, _, p, _ => Bool.noConfusion (show false = true from p)
  | .frozenset _, _, _, p, _ => Bool.noConfusion (show false = true from p)
  | .obj _ _, _, _, p, _ => Bool.noConfusion (show false = true from p)
theorem area_all : ∀ (ds : List WData) (vs : List Value), WellAll P h vs ds → plWs ds = true → (∀ d ∈ ds, d.weight ≤ 1048576) → ∃ A : List Addr, (∀ u ∈ vs, OkU A u) ∧ ∀ a ∈ A, ArgOb h A a
  | [], _, x, _, _ => by
    cases x
    exact ⟨[], fun u m => absurd m (by simp), fun a m => absurd m (by simp)⟩
  | d :: ds, _, x, p, z => by
    obtain ⟨v, vs, rfl, x1, x2⟩ := well_cons x
    have q : plW d = true ∧ plWs ds = true := Bool.and_eq_true_iff.mp p
    obtain ⟨A, a1, a2⟩ := area_one d v x1 q.1 (z d (List.mem_cons_self ..))
    obtain ⟨B, b1, b2⟩ := area_all ds vs x2 q.2 fun e he => z e (List.mem_cons_of_mem _ he)
    have kA : ∀ b ∈ A, b ∈ A ++ B := fun b hb => List.mem_append.mpr (.inl hb)
    have kB : ∀ b ∈ B, b ∈ A ++ B := fun b hb => List.mem_append.mpr (.inr hb)
    refine ⟨A ++ B, fun u hu => ?_, fun b hb => ?_⟩
    · rcases List.mem_cons.mp hu with e | m
      · rw [e]
        exact a1.mono kA
      · exact (b1 u m).mono kB
    · rcases List.mem_append.mp hb with m | m
      · exact (a2 b m).mono kA
      · exact (b2 b m).mono kB
end
end
/-- what is tracked of an argument's object -/
def hoOf (o : Obj) : Option HO := match o.data with
  | .seq vs _ => if (o.cls == Value.type "list") = true then some (.frz o (.lst (vs.toList.map toV))) else some (.frz o (.tup (vs.toList.map toV)))
  | _ => none
def argH (K : PySem.W.Frag) (h : Heap) (A : List Addr) : Hp := fun b => if b ∈ A then (if (K.lookup b).isNone = true then (h.get? b).bind hoOf else none) else none
/-- nothing is tracked but what is known to the object -/
def OnlyF (H : Hp) : Prop := ∀ b, H b = none ∨ ∃ o u, H b = some (.frz o u)
theorem hoOf_lst (vs : List Value) : hoOf { cls := .type "list", data := .seq vs.toArray } = some (.frz { cls := .type "list", data := .seq vs.toArray } (.lst (vs.map toV))) := by
  show (if (Value.type "list" == Value.type "list") = true then some (HO.frz { cls := .type "list", data := .seq vs.toArray } (.lst (vs.toArray.toList.map toV))) else some (HO.frz { cls := .type "list", data := .seq vs.toArray } (.tup (vs.toArray.toList.map toV)))) = _
  rw [if_pos (beq_self_eq_true _)]
theorem hoOf_tup (vs : List Value) : hoOf { cls := .type "tuple", data := .seq vs.toArray } = some (.frz { cls := .type "tuple", data := .seq vs.toArray } (.tup (vs.map toV))) := by
  show (if (Value.type "tuple" == Value.type "list") = true then some (HO.frz { cls := .type "tuple", data := .seq vs.toArray } (.lst (vs.toArray.toList.map toV))) else some (HO.frz { cls := .type "tuple", data := .seq vs.toArray } (.tup (vs.toArray.toList.map toV)))) = _
  rw [if_neg (by decide)]
section
variable {P : Program} {w : World} {K : PySem.W.Frag} {h : Heap} {A : List Addr}
theorem argH_at {b : Addr} {o : Obj} (hb : b ∈ A) (hk : K.lookup b = none) (e : h.get? b = some o) : argH K h A b = hoOf o := by
  unfold argH
  rw [if_pos hb, hk, if_pos (show (none : Option Obj).isNone = true from rfl), e] <;> rfl
theorem of_argH {b : Addr} {u : HO} (q : argH K h A b = some u) : b ∈ A ∧ K.lookup b = none := by
  unfold argH at q
  by_cases hb : b ∈ A
  · rw [if_pos hb] at q
    cases hk : K.lookup b with
    | none => exact ⟨hb, rfl⟩
    | some o =>
      rw [hk, if_neg (by simp)] at q
      cases q
  · rw [if_neg hb] at q
    cases q
/-- what stands tracked -/
theorem argH_is (ar : ∀ a ∈ A, ArgOb h A a) {b : Addr} {u : HO} (q : argH K h A b = some u) : K.lookup b = none ∧ ∃ vs : List Value, vs.length ≤ sizeLine ∧ (∀ u ∈ vs, OkU A u) ∧
    ((h.get? b = some { cls := .type "list", data := .seq vs.toArray } ∧ u = .frz { cls := .type "list", data := .seq vs.toArray } (.lst (vs.map toV))) ∨
     (h.get? b = some { cls := .type "tuple", data := .seq vs.toArray } ∧ u = .frz { cls := .type "tuple", data := .seq vs.toArray } (.tup (vs.map toV)))) := by
  obtain ⟨hb, hk⟩ := of_argH q
  obtain ⟨vs, h1, h2, h3⟩ := ar b hb
  refine ⟨hk, vs, h1, h2, ?_⟩
  rcases h3 with e | e
  · rw [argH_at hb hk e, hoOf_lst] at q
    exact .inl ⟨e, (Option.some.inj q).symm⟩
  · rw [argH_at hb hk e, hoOf_tup] at q
    exact .inr ⟨e, (Option.some.inj q).symm⟩
theorem argH_only (ar : ∀ a ∈ A, ArgOb h A a) : OnlyF (argH K h A) := fun b => by
  cases q : argH K h A b with
  | none => exact .inl rfl
  | some u =>
    obtain ⟨_, vs, _, _, ⟨_, e⟩ | ⟨_, e⟩⟩ := argH_is ar q
    · exact .inr ⟨_, _, by rw [e]⟩
    · exact .inr ⟨_, _, by rw [e]⟩
theorem argH_ok (ar : ∀ a ∈ A, ArgOb h A a) : HOk P w (argH K h A) h := fun b u q => by
  obtain ⟨_, vs, h1, h2, ⟨e, rfl⟩ | ⟨e, rfl⟩⟩ := argH_is ar q
  · exact ⟨e, by rw [List.length_map]; exact h1, vs, _, vals_toV h2, e⟩
  · exact ⟨e, by rw [List.length_map]; exact h1, vs, vals_toV h2, _, e, rfl, _, rfl⟩
theorem seq_inj {c c' : Value} {vs us : List Value} (e : (some { cls := c, data := .seq vs.toArray } : Option Obj) = some { cls := c', data := .seq us.toArray }) : c = c' ∧ vs = us := by
  have e1 := Option.some.inj e
  have e2 : c = c' := congrArg Obj.cls e1
  have e3 : Data.seq vs.toArray = Data.seq us.toArray := congrArg Obj.data e1
  injection e3 with e4
  refine ⟨e2, ?_⟩
  have e5 := congrArg Array.toList e4
  simpa using e5
/-- a list argument -/
theorem argL (KX : K.In h) (ar : ∀ a ∈ A, ArgOb h A a) {a : Addr} {vs : List Value} (ha : a ∈ A) (e : h.get? a = some { cls := .type "list", data := .seq vs.toArray }) : (∀ u ∈ vs, OkU A u) ∧ SqL K (argH K h A) a (vs.map toV) := by
  obtain ⟨us, h1, h2, h3⟩ := ar a ha
  have hu : us = vs := by
    rcases h3 with q | q
    · rw [e] at q
      exact (seq_inj q).2.symm
    · rw [e] at q
      exact absurd (Value.type.inj (seq_inj q).1) (by decide)
  subst hu
  refine ⟨h2, ?_⟩
  cases hk : K.lookup a with
  | none => exact .inl (.inr ⟨_, by rw [argH_at ha hk e, hoOf_lst]⟩)
  | some o =>
    have e2 := KX a o hk
    rw [e] at e2
    obtain rfl := Option.some.inj e2
    exact .inr ⟨_, us.toArray, _, hk, rfl, rfl, rfl, by rw [List.size_toArray]; exact h1, by simpa using vals_toV h2⟩
theorem argT (KX : K.In h) (ar : ∀ a ∈ A, ArgOb h A a) {a : Addr} {vs : List Value} (ha : a ∈ A) (e : h.get? a = some { cls := .type "tuple", data := .seq vs.toArray }) : (∀ u ∈ vs, OkU A u) ∧ SqT K (argH K h A) a (vs.map toV) := by
  obtain ⟨us, h1, h2, h3⟩ := ar a ha
  have hu : us = vs := by
    rcases h3 with q | q
    · rw [e] at q
      exact absurd (Value.type.inj (seq_inj q).1) (by decide)
    · rw [e] at q
      exact (seq_inj q).2.symm
  subst hu
  refine ⟨h2, ?_⟩
  cases hk : K.lookup a with
  | none => exact .inl (.inr ⟨_, by rw [argH_at ha hk e, hoOf_tup]⟩)
  | some o =>
    have e2 := KX a o hk
    rw [e] at e2
    obtain rfl := Option.some.inj e2
    exact .inr ⟨_, us.toArray, _, hk, rfl, rfl, by rw [List.size_toArray]; exact h1, by simpa using vals_toV h2⟩
mutual
theorem dw_one {Pm : Params} (KX : K.In h) (ar : ∀ a ∈ A, ArgOb h A a) : ∀ (d : WData) (v : Value), Well Pm h v d → plW d = true → OkU A v → Dw K (argH K h A) (toV v) d
  | .none, _, x, _, _ => by
    cases x
    exact .non
  | .bool b, _, x, _, _ => by
    cases x
    exact .bl b
  | .int i, _, x, _, _ => by
    cases x
    exact .int i
  | .str s, _, x, _, _ => by
    cases x
    exact .str s
  | .bytes b, _, x, _, _ => by
    cases x
    have z := Dw.byt (K := K) (H := argH K h A) b.toArray
    exact z
  | .list ds, _, x, p, hu => by
    obtain ⟨a, vs, rfl, ho, hall⟩ := well_list x
    obtain ⟨h2, hs⟩ := argL KX ar hu ho
    exact .lst hs (dw_all KX ar ds _ hall p h2)
  | .tuple ds, _, x, p, hu => by
    obtain ⟨a, vs, rfl, ho, hall⟩ := well_tuple x
    obtain ⟨h2, hs⟩ := argT KX ar hu ho
    exact .tup hs (dw_all KX ar ds _ hall p h2)
  | .float _, _, _, p, _ => Bool.noConfusion (show false = true from p)
  | .dict _, _, _, p, _ => Bool.noConfusion (show false = true from p)
  | .bytearray _, _, _, p, _ => Bool.noConfusion (show false = true from p)
  | .set _, _, _, p, _ => Bool.noConfusion (show false = true from p)
  | .frozenset _, _, _, p, _ => Bool.noConfusion (show false = true from p)
  | .obj _ _, _, _, p, _ => Bool.noConfusion (show false = true from p)
theorem dw_all {Pm : Params} (KX : K.In h) (ar : ∀ a ∈ A, ArgOb h A a) : ∀ (ds : List WData) (vs : List Value), WellAll Pm h vs ds → plWs ds = true → (∀ u ∈ vs, OkU A u) → DwAll K (argH K h A) (vs.map toV) ds
  | [], _, x, _, _ => by
    cases x
    exact .nil
  | d :: ds, _, x, p, hu => by
    obtain ⟨v, vs, rfl, x1, x2⟩ := well_cons x
    have q : plW d = true ∧ plWs ds = true := Bool.and_eq_true_iff.mp p
    exact .cons (dw_one KX ar d v x1 q.1 (hu _ (List.mem_cons_self ..))) (dw_all KX ar ds vs x2 q.2 fun u m => hu u (List.mem_cons_of_mem _ m))
end
end
/-! ### the call -/
theorem spec_call {P : Program} {w : World} {K : PySem.W.Frag} {mg mb : Str → Option Value} {CX : CXT} {k : Nat} {fa : Addr} {fd : FuncData} {ps : List Str} {sp : Sp} {s₁ : Shared} {vals : List Value} {ds : List WData} {R : PySem.W.WRecords} {cl : Str → Option Addr} {d0 : WData}
    (KX : K.In s₁.heap) (hns : s₁.heap.Ns mainGlobals mg) (hb : s₁.heap.Ns builtinsNs mb) (hbb : ∀ x : Str, x ≠ "__name__" → mb x = bootBuiltins x) (hlim : s₁.heap.NoLimit) (hg : s₁.gens = #[])
    (hwl : WellAll w.params s₁.heap vals ds) (hpl : plWs ds = true) (hwt : ∀ d ∈ ds, d.weight ≤ 1048576) (hr : Room k callerA)
    (F : ∀ base : Heap, K.In base → base.Ns mainGlobals mg → FnOk P w K mg base CX k fa fd ps sp) (hbind : ∀ (s : Shared) (us : List Value), us.length = ps.length → BindsTo s fd ⟨us, []⟩ (ps.zip us)) (hlen : ds.length = ps.length)
    (hsp : ∀ (H : Hp) (xs : List V), OnlyF H → DwAll K H xs ds → sp xs H (fun v H' => Dw K H' v d0) fun _ _ _ => False)
    (hCX : ∀ H e s', CX [] H s₁ (fun _ _ _ => False) e s' → False) :
    codeAny (model P w) callerA (.call (.ref fa) ⟨vals, []⟩) (fun r s' => ∃ u as, r = .ok (.ret u) ∧ ReadsW R cl s'.heap u d0 as ∧ OldK s₁.heap s'.heap ∧ s'.os = s₁.os ∧ AllBare s'.gens) s₁ := by
  obtain ⟨A, ho, ar⟩ := area_all ds vals hwl hpl hwt
  have hO : OnlyF (argH K s₁.heap A) := argH_only ar
  have hok : HOk P w (argH K s₁.heap A) s₁.heap := argH_ok ar
  have hS := dw_all KX ar ds vals hwl hpl ho
  have hV := vals_toV ho
  have hK : ∀ b u, argH K s₁.heap A b = some u → K.lookup b = none := fun b u q => (argH_is ar q).1
  have noA : ∀ {b : Addr} {o : Obj} {es : Array DictEntry} {ep : Nat}, s₁.heap.get? b = some o → o.data = .dict es ep → argH K s₁.heap A b = none := fun {b o es ep} e d => by
    cases q : argH K s₁.heap A b with
    | none => rfl
    | some u =>
      obtain ⟨_, vs, _, _, ⟨e2, _⟩ | ⟨e2, _⟩⟩ := argH_is ar q
      · rw [e2] at e
        cases e
        have d' : Data.seq vs.toArray _ = Data.dict es ep := d
        cases d'
      · rw [e2] at e
        cases e
        have d' : Data.seq vs.toArray _ = Data.dict es ep := d
        cases d'
  generalize argH K s₁.heap A = H at hO hok hS hK noA
  have base_of : ∀ {b : Addr} {o : Obj}, s₁.heap.get? b = some o → H b = none → (hidT s₁.heap H).get? b = some o := fun e n => hidT_get e n
  have nsK : ∀ {b : Addr} {m : Str → Option Value}, s₁.heap.Ns b m → (hidT s₁.heap H).Ns b m := fun {b m} ⟨o, es, ep, e, d, r⟩ => ⟨o, es, ep, base_of e (noA e d), d, r⟩
  have nK : ∀ b o, K.lookup b = some o → H b = none := fun b o e => by
    cases q : H b with
    | none => rfl
    | some u =>
      rw [hK b u q] at e
      cases e
  have hKb : K.In (hidT s₁.heap H) := fun b o e => base_of (KX b o e) (nK b o e)
  have hM : Mod K mg (hidT s₁.heap H) := ⟨hKb, nsK hns, ⟨mb, nsK hb, hbb⟩, let ⟨mc, h1, h2⟩ := hlim; ⟨mc, nsK h1, h2⟩⟩
  have e0 : Env0 P w K mg (hidT s₁.heap H) callerA [] s₁ H := ⟨rfl, hM, fun b o e => of_hidT e, Nat.le_of_eq (hidT_size _ _), trivial, fun b hb => absurd (show b ∈ ([] : List Addr) from hb) (by simp), hok, .of_eq hg⟩
  have hl : vals.length = ps.length := by rw [wellAll_len hwl]; exact hlen
  refine codeAny_mono ((F _ hKb (nsK hns)).run callerA [] s₁ H ⟨vals, []⟩ vals (vals.map toV) _ _ hr e0 (hbind s₁ vals hl) hV (hsp H _ hO hS)) fun r s' x => ?_
  cases r with
  | error e => exact (hCX H e s' x).elim
  | ok fl =>
    cases fl with
    | next => exact False.elim x
    | brk => exact False.elim x
    | cont => exact False.elim x
    | ret u =>
      obtain ⟨v, H', os, bare, un, hok', r', q⟩ := x
      have kept : ∀ b o, s₁.heap.get? b = some o → s'.heap.get? b = some o := fun b o e => by
        cases q2 : H b with
        | none => exact un.keep b o e q2 (by intro z; exact absurd (show b ∈ ([] : List Addr) from z) (by simp)) (by simp)
        | some u2 =>
          rcases hO b with z | ⟨ob, u3, z⟩
          · rw [q2] at z
            cases z
          · have z2 := un.frzs b ob _ z
            obtain ⟨e1, _⟩ := hok b _ z
            obtain ⟨e2, _⟩ := hok' b _ z2
            rw [e] at e1
            cases e1
            exact e2
      have KX' : K.In s'.heap := fun b o e => kept b o (KX b o e)
      obtain ⟨as, hrd⟩ := Dw.reads (R := R) (cl := cl) hok' KX' d0 v u q r'
      exact ⟨u, as, rfl, hrd, OldK.of_keep kept, os, bare⟩
/-! ### the row -/
theorem layable_weight {ds : List WData} (h : WData.layableAll ds = true) : ∀ d ∈ ds, d.weight ≤ 1048576 := fun d hd =>
  (PySem.W.layableW_iff.mp (List.all_eq_true.mp h d hd)).2.2
theorem encAll_len : ∀ (cs : List Codec) (a : Codec.denoteAll cs), (Codec.encAll cs a).length = cs.length
  | [], _ => rfl
  | c :: cs, a => by
    show (Codec.encAll cs a.2).length + 1 = cs.length + 1
    rw [encAll_len cs a.2]
/-- the goal that k_headS leaves (case hc), from the promise of the row's def: whatever the arguments that the codecs let and the row asks for, the def gives what stands for enc (f ..) -/
theorem walk_spec {r : OpenSpec} {k : Nat} {q : Program} {loose : List Str} {XP : (Str → Option Value) → Heap → Prop} {YP : World → Heap → Prop} {d : DefRec} {K : Params → PySem.W.Frag} {CX : World → CXT} {ps : List Str} {sp : World → Sp}
    (hwell : r.wellSaid = true) (hdf : d.params.defaults = []) (hlen : r.args.length = ps.length) (hr : Room k callerA)
    (hY : ∀ (w : World) (h : Heap), YP w h → (K w.params).In h)
    (F : ∀ (w : World) (mg : Str → Option Value) (fa : Addr) (h : Heap), YP w h → (K w.params).In h → h.Ns mainGlobals mg → mg d.name = some (.ref fa) →
      ∃ fd : FuncData, (∀ (s : Shared) (us : List Value), us.length = ps.length → BindsTo s fd ⟨us, []⟩ (ps.zip us)) ∧
        ∀ base : Heap, (K w.params).In base → base.Ns mainGlobals mg → FnOk r.prog w (K w.params) mg base (CX w) k fa fd ps (sp w))
    (hsp : ∀ (w : World) (H : Hp) (xs : List V) (a : Codec.denoteAll r.args), OnlyF H → Codec.withinAll r.args a = true → Codec.app r.args r.asked a = true → DwAll (K w.params) H xs (Codec.encAll r.args a) →
      sp w xs H (fun v H' => Dw (K w.params) H' v (r.ret.enc (Codec.app r.args r.f a))) fun _ _ _ => False)
    (hCX : ∀ (w : World) (H : Hp) (s : Shared) (e : Value) (s' : Shared), CX w [] H s (fun _ _ _ => False) e s' → False) :
    PySem.W.WalkOS q loose XP YP r d [] (fun f vs => PySem.call f vs) := by
  intro w s_0 s₁ mg mb G Y fa o pm cd doc dV kV ho hd hcd hD hmg hg args vals as hpre hlay hrd hwl hlo
  obtain ⟨a, e1, e2⟩ := PySem.W.os_pre_some hpre
  obtain ⟨e3, hwi⟩ := Codec.encAll_of_decAll r.args args a e1
  subst e3
  have KX := hY w _ Y
  obtain ⟨fd, hb, hF⟩ := F w mg fa _ Y KX G.T.g hmg
  refine PySem.W.enter_call (codeAny_mono (spec_call (R := []) (cl := classAt s_0.heap) (d0 := r.ret.enc (Codec.app r.args r.f a)) KX G.T.g G.T.b G.T.builtins G.T.nolimit hg hwl (pl_encAll _ _) (layable_weight hlay) hr hF hb (by rw [encAll_len]; exact hlen)
    (fun H xs hO hS => hsp w H xs a hO hwi e2 hS) fun H e s' => hCX w H s₁ e s') fun r' s' hq => ?_)
  obtain ⟨u, as', rfl, h1, h2, h3, h4⟩ := hq
  exact ⟨.inl ⟨u, _, as', rfl, fun _ => rfl, h1, (OpenSpec.post_iff hwell hwi _ _).mpr rfl, fun z => Bool.noConfusion (show false = true from z)⟩, h2, h3, h4⟩
/-- the same where the promise hangs on the written part alone -/
theorem walk_specK {r : OpenSpec} {k : Nat} {q : Program} {loose : List Str} {XP : (Str → Option Value) → Heap → Prop} {YP : World → Heap → Prop} {d : DefRec} {K : Params → PySem.W.Frag} {CX : CXT} {ps : List Str} {sp : PySem.W.Frag → Sp}
    (hwell : r.wellSaid = true) (hdf : d.params.defaults = []) (hlen : r.args.length = ps.length) (hr : Room k callerA)
    (hY : ∀ (w : World) (h : Heap), YP w h → (K w.params).In h)
    (F : ∀ (w : World) (mg : Str → Option Value) (fa : Addr) (h : Heap), YP w h → (K w.params).In h → h.Ns mainGlobals mg → mg d.name = some (.ref fa) →
      ∃ fd : FuncData, (∀ (s : Shared) (us : List Value), us.length = ps.length → BindsTo s fd ⟨us, []⟩ (ps.zip us)) ∧
        ∀ base : Heap, (K w.params).In base → base.Ns mainGlobals mg → FnOk r.prog w (K w.params) mg base CX k fa fd ps (sp (K w.params)))
    (hsp : ∀ (K : PySem.W.Frag) (H : Hp) (xs : List V) (a : Codec.denoteAll r.args), OnlyF H → Codec.withinAll r.args a = true → Codec.app r.args r.asked a = true → DwAll K H xs (Codec.encAll r.args a) →
      sp K xs H (fun v H' => Dw K H' v (r.ret.enc (Codec.app r.args r.f a))) fun _ _ _ => False)
    (hCX : ∀ (H : Hp) (s : Shared) (e : Value) (s' : Shared), CX [] H s (fun _ _ _ => False) e s' → False) :
    PySem.W.WalkOS q loose XP YP r d [] (fun f vs => PySem.call f vs) :=
  walk_spec (K := K) (CX := fun _ => CX) (sp := fun w => sp (K w.params)) hwell hdf hlen hr hY F (fun w H xs a h1 h2 h3 h4 => hsp (K w.params) H xs a h1 h2 h3 h4) fun _ H s e s' => hCX H s e s'
end L2
end

set_option linter.all false
namespace So
open Vbsoaj

/-! ### the calls of a list -/
/-- a call by its place, its numbers, its text -/
def enc : Call → Int × List Int × List Int
  | .begin_ n w r => (0, [n, w, r], [])
  | .tick n => (1, [n], [])
  | .write p t => (2, [p], t)
  | .clear p => (3, [p], [])
  | .send p => (4, [p], [])
  | .ask p => (5, [p], [])
  | .deliver k => (6, [k], [])
  | .lose k => (7, [k], [])
  | .double k => (8, [k], [])
  | .halt_ => (9, [], [])
  | .start_ => (10, [], [])
  | .tell k => (11, [k], [])
  | .see p => (12, [p], [])
  | .got p k => (13, [p, k], [])
  | .umpire => (14, [], [])
  | .bag => (15, [], [])
/-- its rows, as the specification reads them -/
def rowsOf (c : Call) : List (List Int) := match c with
  | .write p t => [[2, p], t]
  | c => [(enc c).1 :: (enc c).2.1]
/-- as it stands in the list -/
def flat (c : Call) : List Int := match c with
  | .write p t => 2 :: p :: (t.length : Int) :: t
  | c => (enc c).1 :: (enc c).2.1
theorem flat_pos (c : Call) : 0 < (flat c).length := by cases c <;> simp [flat]
theorem callOf_rows (c : Call) : VbsoajNeutral.callOf (rowsOf c) = some c := by cases c <;> rfl
theorem whole_rows (c : Call) : PyVbsoaj.whole (rowsOf c) = rowsOf c := by cases c <;> rfl

theorem take1 {l : List Int} (h : ¬ l.length < 1) : ∃ a r, l = a :: r := by
  cases l with
  | nil => exact absurd (by simp) h
  | cons a r => exact ⟨a, r, rfl⟩
theorem take2 {l : List Int} (h : ¬ l.length < 2) : ∃ a b r, l = a :: b :: r := by
  match l, h with
  | [], h => exact absurd (by simp) h
  | [_], h => exact absurd (by simp) h
  | a :: b :: r, _ => exact ⟨a, b, r, rfl⟩
theorem take3 {l : List Int} (h : ¬ l.length < 3) : ∃ a b c r, l = a :: b :: c :: r := by
  match l, h with
  | [], h => exact absurd (by simp) h
  | [_], h => exact absurd (by simp) h
  | [_, _], h => exact absurd (by simp) h
  | a :: b :: c :: r, _ => exact ⟨a, b, c, r, rfl⟩

theorem rows_zero (l : List Int) : PyFlat.rows 0 l = some ([], l) := rfl
theorem rows_one {l : List Int} {xs : List (List Int)} {t : List Int} (h : PyFlat.rows 1 l = some (xs, t)) : ∃ x, xs = [x] ∧ l = (x.length : Int) :: x ++ t := by
  cases l with
  | nil => cases h
  | cons n r =>
    have e : PyFlat.rows 1 (n :: r) = (match PyFlat.row (n :: r) with | none => none | some (x, s) => some ([x], s)) := by
      show (match PyFlat.row (n :: r) with | none => none | some (x, s) => _) = _
      cases PyFlat.row (n :: r) <;> rfl
    rw [e] at h
    unfold PyFlat.row at h
    dsimp only at h
    by_cases hn : 0 ≤ n ∧ n.toNat ≤ r.length
    · rw [if_pos hn] at h
      have h := Option.some.inj h
      cases h
      refine ⟨_, rfl, ?_⟩
      have : ((r.take n.toNat).length : Int) = n := by
        rw [List.length_take]; omega
      rw [this, List.cons_append, List.take_append_drop]
    · rw [if_neg hn] at h
      cases h

theorem call_eq (p : Int) (r : List Int) : PyFlat.call PyVbsoaj.shape (p :: r) = (match PyVbsoaj.shape p with
    | none => none
    | some (n, k) => if r.length < n then none else match PyFlat.rows k (r.drop n) with
      | none => none
      | some (xs, t) => some ((p :: r.take n) :: xs, t)) := rfl
theorem call_none {p : Int} {r : List Int} (h : PyVbsoaj.shape p = none) : PyFlat.call PyVbsoaj.shape (p :: r) = none := by rw [call_eq, h]
theorem call_zero {p : Int} {r : List Int} {n : Nat} {c : List (List Int)} {t : List Int} (h : PyVbsoaj.shape p = some (n, 0)) (q : PyFlat.call PyVbsoaj.shape (p :: r) = some (c, t)) :
    ¬ r.length < n ∧ c = [p :: r.take n] ∧ t = r.drop n := by
  rw [call_eq, h] at q
  dsimp only at q
  by_cases hl : r.length < n
  · rw [if_pos hl] at q; cases q
  · rw [if_neg hl, rows_zero] at q
    have q := Option.some.inj q
    cases q
    exact ⟨hl, rfl, rfl⟩
theorem call_cut {l : List Int} {c : List (List Int)} {t : List Int} (h : PyFlat.call PyVbsoaj.shape l = some (c, t)) : ∃ cl : Call, c = rowsOf cl ∧ l = flat cl ++ t := by
  cases l with
  | nil => cases h
  | cons p r =>
    by_cases h0 : p = 0
    · subst h0
      obtain ⟨hl, rfl, rfl⟩ := call_zero (n := 3) rfl h
      obtain ⟨x, y, z, r', rfl⟩ := take3 hl
      exact ⟨.begin_ x y z, rfl, rfl⟩
    by_cases h1 : p = 1
    · subst h1
      obtain ⟨hl, rfl, rfl⟩ := call_zero (n := 1) rfl h
      obtain ⟨x, r', rfl⟩ := take1 hl
      exact ⟨.tick x, rfl, rfl⟩
    by_cases h2 : p = 2
    · subst h2
      rw [call_eq, show PyVbsoaj.shape 2 = some (1, 1) from rfl] at h
      dsimp only at h
      by_cases hl : r.length < 1
      · rw [if_pos hl] at h; cases h
      · rw [if_neg hl] at h
        obtain ⟨x, r', rfl⟩ := take1 hl
        split at h
        · cases h
        · rename_i xs t' hr
          have h := Option.some.inj h
          cases h
          obtain ⟨tx, rfl, e⟩ := rows_one hr
          refine ⟨.write x tx, rfl, ?_⟩
          have e : r' = _ := e
          rw [e]
          rfl
    by_cases h3 : p = 3
    · subst h3
      obtain ⟨hl, rfl, rfl⟩ := call_zero (n := 1) rfl h
      obtain ⟨x, r', rfl⟩ := take1 hl
      exact ⟨.clear x, rfl, rfl⟩
    by_cases h4 : p = 4
    · subst h4
      obtain ⟨hl, rfl, rfl⟩ := call_zero (n := 1) rfl h
      obtain ⟨x, r', rfl⟩ := take1 hl
      exact ⟨.send x, rfl, rfl⟩
    by_cases h5 : p = 5
    · subst h5
      obtain ⟨hl, rfl, rfl⟩ := call_zero (n := 1) rfl h
      obtain ⟨x, r', rfl⟩ := take1 hl
      exact ⟨.ask x, rfl, rfl⟩
    by_cases h6 : p = 6
    · subst h6
      obtain ⟨hl, rfl, rfl⟩ := call_zero (n := 1) rfl h
      obtain ⟨x, r', rfl⟩ := take1 hl
      exact ⟨.deliver x, rfl, rfl⟩
    by_cases h7 : p = 7
    · subst h7
      obtain ⟨hl, rfl, rfl⟩ := call_zero (n := 1) rfl h
      obtain ⟨x, r', rfl⟩ := take1 hl
      exact ⟨.lose x, rfl, rfl⟩
    by_cases h8 : p = 8
    · subst h8
      obtain ⟨hl, rfl, rfl⟩ := call_zero (n := 1) rfl h
      obtain ⟨x, r', rfl⟩ := take1 hl
      exact ⟨.double x, rfl, rfl⟩
    by_cases h9 : p = 9
    · subst h9
      obtain ⟨hl, rfl, rfl⟩ := call_zero (n := 0) rfl h
      exact ⟨.halt_, rfl, rfl⟩
    by_cases h10 : p = 10
    · subst h10
      obtain ⟨hl, rfl, rfl⟩ := call_zero (n := 0) rfl h
      exact ⟨.start_, rfl, rfl⟩
    by_cases h11 : p = 11
    · subst h11
      obtain ⟨hl, rfl, rfl⟩ := call_zero (n := 1) rfl h
      obtain ⟨x, r', rfl⟩ := take1 hl
      exact ⟨.tell x, rfl, rfl⟩
    by_cases h12 : p = 12
    · subst h12
      obtain ⟨hl, rfl, rfl⟩ := call_zero (n := 1) rfl h
      obtain ⟨x, r', rfl⟩ := take1 hl
      exact ⟨.see x, rfl, rfl⟩
    by_cases h13 : p = 13
    · subst h13
      obtain ⟨hl, rfl, rfl⟩ := call_zero (n := 2) rfl h
      obtain ⟨x, y, r', rfl⟩ := take2 hl
      exact ⟨.got x y, rfl, rfl⟩
    by_cases h14 : p = 14
    · subst h14
      obtain ⟨hl, rfl, rfl⟩ := call_zero (n := 0) rfl h
      exact ⟨.umpire, rfl, rfl⟩
    by_cases h15 : p = 15
    · subst h15
      obtain ⟨hl, rfl, rfl⟩ := call_zero (n := 0) rfl h
      exact ⟨.bag, rfl, rfl⟩
    · rw [call_none (by
        unfold PyVbsoaj.shape
        rw [if_neg h0, if_neg h1, if_neg h2, if_neg h3, if_neg h4, if_neg h5, if_neg h6, if_neg h7, if_neg h8, if_neg h9, if_neg h10, if_neg h11, if_neg h12, if_neg h13, if_neg h14, if_neg h15])] at h
      cases h

/-- the list is these calls, one behind another -/
theorem calls_flat : ∀ {f : Nat} {l : List Int} {cs : List (List (List Int))}, PyFlat.calls PyVbsoaj.shape f l = some cs → ∃ cls : List Call, cs = cls.map rowsOf ∧ l = cls.flatMap flat
  | _, [], cs, h => by
    have e : some [] = some cs := by
      rw [← h]
      unfold PyFlat.calls
      rfl
    cases e
    exact ⟨[], rfl, rfl⟩
  | 0, _ :: _, cs, h => by cases h
  | f + 1, p :: r, cs, h => by
    unfold PyFlat.calls at h
    split at h
    · cases h
    · rename_i c t hc
      split at h
      · cases h
      · rename_i cs' hcs
        have h := Option.some.inj h
        subst h
        obtain ⟨cl, rfl, e⟩ := call_cut hc
        obtain ⟨cls, rfl, rfl⟩ := calls_flat hcs
        exact ⟨cl :: cls, rfl, by rw [e]; rfl⟩

/-- what is due, over calls -/
def due : State → List Call → List Int
  | _, [] => []
  | s, c :: r => ((step s c).2.length : Int) :: (step s c).2 ++ due (step s c).1 r
theorem told_played : ∀ (cls : List Call) (s : State), PyFlat.told (PyFlat.played VbsoajNeutral.step s (cls.map rowsOf)) = due s cls
  | [], _ => rfl
  | c :: r, s => by
    have e : VbsoajNeutral.step s (rowsOf c) = step s c := by
      unfold VbsoajNeutral.step
      rw [callOf_rows]
    show PyFlat.told ((VbsoajNeutral.step s (rowsOf c)).2 :: PyFlat.played VbsoajNeutral.step (VbsoajNeutral.step s (rowsOf c)).1 (r.map rowsOf)) = _
    rw [e]
    show ((step s c).2.length : Int) :: (step s c).2 ++ PyFlat.told _ = _
    rw [told_played r]
    rfl
/-- a request that is asked: calls, at most 200, and what is due of them -/
theorem asked_calls {l : List Int} (h : PyVbsoaj.answers_asked l = true) : ∃ cls : List Call, l = cls.flatMap flat ∧ cls.length ≤ 200 ∧ PyVbsoaj.answers l = due Vbsoaj.start cls := by
  unfold PyVbsoaj.answers_asked PyVbsoaj.answers PyVbsoaj.calls at *
  cases e : PyFlat.calls PyVbsoaj.shape l.length l with
  | none => rw [e] at h; cases h
  | some cs =>
    rw [e] at h
    obtain ⟨cls, rfl, e2⟩ := calls_flat e
    have em : (cls.map rowsOf).map PyVbsoaj.whole = cls.map rowsOf := by
      rw [List.map_map]
      exact List.map_congr_left fun c _ => whole_rows c
    refine ⟨cls, e2, ?_, ?_⟩
    · have h : (PyFlat.atMost 200 ((cls.map rowsOf).map PyVbsoaj.whole) && _) = true := h
      rw [Bool.and_eq_true, em] at h
      have q := of_decide_eq_true h.1
      rw [List.length_map] at q
      exact q
    · show PyFlat.told (PyFlat.played VbsoajNeutral.step VbsoajNeutral.start ((cls.map rowsOf).map PyVbsoaj.whole)) = _
      rw [em, told_played]
      rfl
end So

set_option linter.all false
namespace So
open Vbsoaj

/-- the power of a message -/
def msgP : Msg → Nat
  | .hand p _ _ _ => p
  | .receipt p _ _ => p
  | .ask p _ => p
  | .opened p _ _ => p

/-- what holds of a state behind t calls -/
structure W (t : Nat) (s : State) : Prop where
  op : s.opened.length = s.season
  opt : s.season ≤ t
  sh : s.sheets.length = s.clients.length
  n7 : s.clients.length ≤ 7
  got : ∀ c ∈ s.clients, c.got.length ≤ t
  bag : ∀ m ∈ s.bag, msgP m < s.clients.length
  room : s.bag.length ≤ s.room
  r100 : s.room ≤ 100

theorem W.zero : W 0 Vbsoaj.start := ⟨rfl, Nat.le_refl _, rfl, by decide, (fun _ h => by cases h), (fun _ h => by cases h), Nat.le_refl _, by decide⟩
theorem W.mono {t u : Nat} {s : State} (h : W t s) (e : t ≤ u) : W u s := ⟨h.op, Nat.le_trans h.opt e, h.sh, h.n7, fun c hc => Nat.le_trans (h.got c hc) e, h.bag, h.room, h.r100⟩

theorem full_iff (s : State) : full s = true ↔ s.room ≤ s.bag.length := by
  unfold full
  exact decide_eq_true_iff
theorem puts_nil (s : State) : puts s [] = s := rfl
theorem puts_one (s : State) (m : Msg) : puts s [m] = if full s = true then s else { s with bag := s.bag ++ [m] } := by
  unfold puts
  split <;> rfl
theorem W.put1 {t : Nat} {s : State} (h : W t s) {m : Msg} (hm : msgP m < s.clients.length) (hf : ¬ full s = true) : W t { s with bag := s.bag ++ [m] } := by
  have hf' : ¬ s.room ≤ s.bag.length := fun q => hf ((full_iff s).mpr q)
  refine ⟨h.op, h.opt, h.sh, h.n7, h.got, fun x hx => ?_, ?_, h.r100⟩
  · rcases List.mem_append.mp hx with q | q
    · exact h.bag x q
    · rw [List.mem_singleton.mp q]; exact hm
  · show (s.bag ++ [m]).length ≤ s.room
    rw [List.length_append, List.length_singleton]
    omega
theorem W.puts {t : Nat} : ∀ (ms : List Msg) {s : State}, W t s → (∀ m ∈ ms, msgP m < s.clients.length) → W t (puts s ms)
  | [], s, h, _ => h
  | m :: r, s, h, hm => by
    unfold Vbsoaj.puts
    by_cases hf : full s = true
    · rw [if_pos hf]
      exact W.puts r h fun x hx => hm x (List.mem_cons_of_mem _ hx)
    · rw [if_neg hf]
      exact W.puts r (h.put1 (hm m List.mem_cons_self) hf) fun x hx => hm x (List.mem_cons_of_mem _ hx)
theorem puts_clients : ∀ (ms : List Msg) (s : State), (puts s ms).clients = s.clients
  | [], _ => rfl
  | m :: r, s => by
    unfold Vbsoaj.puts
    by_cases hf : full s = true
    · rw [if_pos hf]; exact puts_clients r s
    · rw [if_neg hf]; exact puts_clients r _

theorem W.setClient {t : Nat} {s : State} (h : W t s) (p : Nat) {c : Client} (hc : c.got.length ≤ t) : W t (setClient s p c) := by
  unfold Vbsoaj.setClient
  refine ⟨h.op, h.opt, ?_, ?_, fun x hx => ?_, fun m hm => ?_, h.room, h.r100⟩
  · show s.sheets.length = (s.clients.set p c).length
    rw [List.length_set]; exact h.sh
  · show (s.clients.set p c).length ≤ 7
    rw [List.length_set]; exact h.n7
  · rcases List.mem_or_eq_of_mem_set hx with q | q
    · exact h.got x q
    · rw [q]; exact hc
  · show msgP m < (s.clients.set p c).length
    rw [List.length_set]; exact h.bag m hm
theorem W.setSheet {t : Nat} {s : State} (h : W t s) (p : Nat) (x : Sheet) : W t (setSheet s p x) := by
  unfold Vbsoaj.setSheet
  refine ⟨h.op, h.opt, ?_, h.n7, h.got, h.bag, h.room, h.r100⟩
  show (s.sheets.set p x).length = s.clients.length
  rw [List.length_set]; exact h.sh
theorem W.ended {t : Nat} {s : State} (h : W t s) : W (t + 1) (ended s) := by
  unfold Vbsoaj.ended
  refine ⟨?_, ?_, ?_, h.n7, fun c hc => Nat.le_succ_of_le (h.got c hc), h.bag, h.room, h.r100⟩
  · show (s.opened ++ [_]).length = s.season + 1
    rw [List.length_append, List.length_singleton, h.op]
  · exact Nat.succ_le_succ h.opt
  · show (s.sheets.map _).length = _
    rw [List.length_map]; exact h.sh
theorem W.timed {t : Nat} {s : State} (h : W t s) : W (t + 1) (timed s) := by
  unfold Vbsoaj.timed
  by_cases q : s.on = true ∧ s.deadline ≤ s.now
  · rw [if_pos q]; exact h.ended
  · rw [if_neg q]; exact h.mono (Nat.le_succ _)
theorem got_at {t : Nat} {s : State} (h : W t s) (p : Nat) : (clientAt s p).got.length ≤ t := by
  unfold clientAt
  rw [List.getD_eq_getElem?_getD]
  cases e : s.clients[p]? with
  | none => exact Nat.zero_le _
  | some c => exact h.got c (List.mem_of_getElem? e)
theorem W.erase {t : Nat} {s : State} (h : W t s) (k : Nat) : W t { s with bag := s.bag.eraseIdx k } := by
  refine ⟨h.op, h.opt, h.sh, h.n7, h.got, fun m hm => h.bag m (List.mem_of_mem_eraseIdx hm), ?_, h.r100⟩
  show (s.bag.eraseIdx k).length ≤ s.room
  exact Nat.le_trans (List.length_eraseIdx_le ..) h.room
theorem handled_ok {t : Nat} {s : State} (h : W t s) {m : Msg} (hm : msgP m < s.clients.length) : W (t + 1) (handled s m).1 ∧ (handled s m).1.clients.length = s.clients.length ∧ ∀ x ∈ (handled s m).2, msgP x < s.clients.length := by
  have none_ : ∀ x ∈ ([] : List Msg), msgP x < s.clients.length := fun x hx => by cases hx
  have h1 : W (t + 1) s := h.mono (Nat.le_succ _)
  cases m with
  | hand p k v tx =>
    unfold handled
    dsimp only
    repeat' split
    · exact ⟨h1, rfl, none_⟩
    · exact ⟨h1, rfl, fun x hx => by rw [List.mem_singleton.mp hx]; exact hm⟩
    · exact ⟨h1.setSheet _ _, rfl, fun x hx => by rw [List.mem_singleton.mp hx]; exact hm⟩
    · exact ⟨h1, rfl, fun x hx => by rw [List.mem_singleton.mp hx]; exact hm⟩
  | receipt p k v =>
    unfold handled
    dsimp only
    split
    · exact ⟨h1.setClient _ (Nat.le_succ_of_le (got_at h p)), by unfold setClient; exact List.length_set .., none_⟩
    · exact ⟨h1, rfl, none_⟩
  | ask p k =>
    unfold handled
    dsimp only
    split
    · exact ⟨h1, rfl, none_⟩
    · exact ⟨h1, rfl, fun x hx => by rw [List.mem_singleton.mp hx]; exact hm⟩
  | opened p k rows =>
    unfold handled
    dsimp only
    split
    · refine ⟨h1.setClient _ ?_, by unfold setClient; exact List.length_set .., none_⟩
      show ((clientAt s p).got ++ [rows]).length ≤ t + 1
      rw [List.length_append, List.length_singleton]
      exact Nat.succ_le_succ (got_at h p)
    · exact ⟨h1, rfl, none_⟩
theorem W.delivered {t : Nat} {s : State} (h : W t s) (k : Nat) : W (t + 1) (delivered s k) := by
  unfold Vbsoaj.delivered
  split
  · exact h.mono (Nat.le_succ _)
  · rename_i m hm
    obtain ⟨h1, h2, h3⟩ := handled_ok (h.erase k) (m := m) (h.bag m (List.mem_of_getElem? hm))
    refine W.puts _ h1 fun x hx => ?_
    rw [h2]
    exact h3 x hx
theorem isPower_iff (s : State) (p : Int) : isPower s p = true ↔ 0 ≤ p ∧ p < s.clients.length := by
  unfold isPower within
  rw [Bool.and_eq_true, decide_eq_true_iff, decide_eq_true_iff]
  omega
theorem isK_iff (s : State) (p : Int) : isK s p = true ↔ 0 ≤ p ∧ p < s.bag.length := by
  unfold isK within
  rw [Bool.and_eq_true, decide_eq_true_iff, decide_eq_true_iff]
  omega

theorem W.step {t : Nat} {s : State} (h : W t s) (c : Call) : W (t + 1) (step s c).1 := by
  have h1 : W (t + 1) s := h.mono (Nat.le_succ _)
  unfold Vbsoaj.step
  split
  · exact h1
  · split
    · exact h1
    · rename_i hb hr
      have hr : inRange s c = true := by simpa using hr
      cases c with
      | begin_ n w r =>
        have hr : (within n 2 7 && within w 1 1000000 && within r 1 100) = true := hr
        unfold within at hr
        simp only [Bool.and_eq_true, decide_eq_true_iff] at hr
        refine ⟨rfl, Nat.zero_le _, ?_, ?_, fun c hc => ?_, (fun m hm => by cases hm), Nat.zero_le _, ?_⟩
        · show (List.replicate n.toNat _).length = (List.replicate n.toNat _).length
          rw [List.length_replicate, List.length_replicate]
        · show (List.replicate n.toNat _).length ≤ 7
          rw [List.length_replicate]; omega
        · rw [List.eq_of_mem_replicate hc]; exact Nat.zero_le _
        · show r.toNat ≤ 100; omega
      | tick n =>
        show W (t + 1) (does s (.tick n)).1
        unfold does
        dsimp only
        split
        · exact h1
        · exact W.timed (s := { s with now := s.now + n.toNat }) ⟨h.op, h.opt, h.sh, h.n7, h.got, h.bag, h.room, h.r100⟩
      | write p tx => exact h1.setClient _ (Nat.le_succ_of_le (got_at h _))
      | clear p => exact h1.setClient _ (Nat.le_succ_of_le (got_at h _))
      | send p =>
        have hp := (isPower_iff s p).mp hr
        unfold does
        dsimp only
        split
        · exact h1
        · split
          · exact h1
          · refine W.puts _ h1 fun x hx => ?_
            rw [List.mem_singleton.mp hx]
            show p.toNat < _
            omega
      | ask p =>
        have hp := (isPower_iff s p).mp hr
        unfold does
        dsimp only
        split
        · exact h1
        · refine W.puts _ h1 fun x hx => ?_
          rw [List.mem_singleton.mp hx]
          show p.toNat < _
          omega
      | deliver k => exact h.delivered _
      | lose k => exact h1.erase _
      | double k =>
        have hk := (isK_iff s k).mp hr
        unfold does
        dsimp only
        split
        · exact h1
        · rename_i hf
          cases e : s.bag[k.toNat]? with
          | none =>
            show W (t + 1) { s with bag := s.bag ++ [] }
            rw [List.append_nil]
            exact h1
          | some m => exact h1.put1 (h.bag m (List.mem_of_getElem? e)) hf
      | halt_ =>
        unfold does
        dsimp only
        split
        · exact h1
        · exact ⟨h1.op, h1.opt, h1.sh, h1.n7, h1.got, h1.bag, h1.room, h1.r100⟩
      | start_ =>
        unfold does
        dsimp only
        split
        · exact h1
        · exact W.timed (s := { s with on := true }) ⟨h.op, h.opt, h.sh, h.n7, h.got, h.bag, h.room, h.r100⟩
      | tell k =>
        unfold does
        dsimp only
        split
        · exact h1
        · split
          · exact h1
          · refine W.puts _ h1 fun x hx => ?_
            obtain ⟨p, hp, rfl⟩ := List.mem_map.mp hx
            exact List.mem_range.mp hp
      | see p => exact h1
      | got p k =>
        unfold does
        dsimp only
        split <;> exact h1
      | umpire => exact h1
      | bag => exact h1
end So

set_option linter.all false
namespace So
open Vbsoaj
theorem flat_eq (c : Call) : flat c = (enc c).1 :: ((enc c).2.1 ++ (if (enc c).1 = 2 then ((enc c).2.2.length : Int) :: (enc c).2.2 else [])) := by
  cases c <;> simp [flat, enc]
theorem enc_text {c : Call} (h : ¬ (enc c).1 = 2) : (enc c).2.2 = [] := by
  cases c <;> first | rfl | exact absurd rfl h
theorem enc_write {c : Call} (h : (enc c).1 = 2) : ∃ p t, c = .write p t := by
  cases c <;> first | exact ⟨_, _, rfl⟩ | (exact absurd h (by intro z; cases z))
theorem flat_at {ns pre post : List Int} {c : Call} (e : ns = pre ++ flat c ++ post) : ns[pre.length]? = some (enc c).1 := by
  subst e
  rw [flat_eq, List.append_assoc, List.getElem?_append_right (Nat.le_refl _), Nat.sub_self]
  rfl
theorem flat_len (c : Call) : (flat c).length = 1 + (enc c).2.1.length + (if (enc c).1 = 2 then 1 + (enc c).2.2.length else 0) := by
  rw [flat_eq, List.length_cons, List.length_append]
  split
  · rw [List.length_cons]; omega
  · rw [List.length_nil]; omega
theorem drop_pre {pre l : List Int} {k : Nat} : (pre ++ l).drop (pre.length + k) = l.drop k := by
  rw [List.drop_append]
  have : List.drop (pre.length + k) pre = [] := List.drop_eq_nil_of_le (by omega)
  rw [this, List.nil_append]
  congr 1
  omega
theorem flat_nums {ns pre post : List Int} {c : Call} (e : ns = pre ++ flat c ++ post) : (ns.drop (pre.length + 1)).take (enc c).2.1.length = (enc c).2.1 := by
  subst e
  rw [List.append_assoc, drop_pre, flat_eq, List.cons_append, List.drop_succ_cons, List.drop_zero, List.append_assoc, List.take_left']
  rfl
theorem flat_cnt {ns pre post : List Int} {p : Int} {t : List Int} (e : ns = pre ++ flat (.write p t) ++ post) : ns[pre.length + 2]? = some (t.length : Int) := by
  subst e
  rw [List.append_assoc, List.getElem?_append_right (by omega)]
  have : pre.length + 2 - pre.length = 2 := by omega
  rw [this]
  rfl
theorem flat_txt {ns pre post : List Int} {p : Int} {t : List Int} (e : ns = pre ++ flat (.write p t) ++ post) : (ns.drop (pre.length + 3)).take t.length = t := by
  subst e
  rw [List.append_assoc, drop_pre]
  show (List.drop 3 (2 :: p :: (t.length : Int) :: t ++ post)).take t.length = t
  show (t ++ post).take t.length = t
  rw [List.take_left']
  rfl
theorem due_cons (s : State) (c : Call) (r : List Call) : due s (c :: r) = ((step s c).2.length : Int) :: (step s c).2 ++ due (step s c).1 r := rfl
end So

set_option Elab.async false
set_option linter.all false
set_option maxRecDepth 100000
namespace So
open PySem PySem.Spec PyProof.Rows L2

/-! ### pairs of lists -/
section
variable {α β : Type} {F : α → β → Prop}
theorem pr_get : ∀ {xs : List α} {ys : List β} {i : Nat} {y : β}, Paired F xs ys → ys[i]? = some y → ∃ x, xs[i]? = some x ∧ F x y
  | _, _, _, _, .nil, e => by simp at e
  | _, _, 0, _, .cons r _, e => by simp at e; subst e; exact ⟨_, rfl, r⟩
  | _, _, i + 1, y, .cons _ t, e => by
    obtain ⟨u, h1, h2⟩ := pr_get (i := i) (y := y) t (by simpa using e)
    exact ⟨u, by simpa using h1, h2⟩
theorem pr_getL : ∀ {xs : List α} {ys : List β} {i : Nat} {x : α}, Paired F xs ys → xs[i]? = some x → ∃ y, ys[i]? = some y ∧ F x y
  | _, _, _, _, .nil, e => by simp at e
  | _, _, 0, _, .cons r _, e => by simp at e; subst e; exact ⟨_, rfl, r⟩
  | _, _, i + 1, y, .cons _ t, e => by
    obtain ⟨u, h1, h2⟩ := pr_getL (i := i) (x := y) t (by simpa using e)
    exact ⟨u, by simpa using h1, h2⟩
theorem pr_snoc {x : α} {y : β} (r : F x y) : ∀ {xs : List α} {ys : List β}, Paired F xs ys → Paired F (xs ++ [x]) (ys ++ [y])
  | _, _, .nil => .cons r .nil
  | _, _, .cons q t => .cons q (pr_snoc r t)
theorem pr_erase : ∀ {xs : List α} {ys : List β} (i : Nat), Paired F xs ys → Paired F (xs.eraseIdx i) (ys.eraseIdx i)
  | _, _, _, .nil => .nil
  | _, _, 0, .cons _ t => t
  | _, _, i + 1, .cons r t => .cons r (pr_erase i t)
theorem pr_len {xs : List α} {ys : List β} (r : Paired F xs ys) : xs.length = ys.length := Paired.length r
theorem pr_imp {G : α → β → Prop} (f : ∀ a b, F a b → G a b) {xs : List α} {ys : List β} (r : Paired F xs ys) : Paired G xs ys := Paired.mapP r f
end

/-! ### the attributes of each class -/
abbrev vN (n : Nat) : V := .int (n : Int)
def fG (b : Bool) (span room now : Nat) (ml um bl : Addr) : List (Str × V) :=
  [("begun", .bl b), ("span", vN span), ("room", vN room), ("now", vN now), ("machines", .ref ml), ("umpire", .ref um), ("messages", .ref bl)]
def fU (on : Bool) (season deadline : Nat) (sl ol : Addr) : List (Str × V) :=
  [("on", .bl on), ("season", vN season), ("deadline", vN deadline), ("sheets", .ref sl), ("opened", .ref ol)]
def fM (season version acked : Nat) (d : V) (rl : Addr) : List (Str × V) :=
  [("season", vN season), ("version", vN version), ("acknowledged", vN acked), ("draft", d), ("rows", .ref rl)]
def fS (version : Nat) (w : Addr) : List (Str × V) := [("version", vN version), ("written", .ref w)]
def fX (kind p k v : Nat) (w r : V) : List (Str × V) :=
  [("kind", vN kind), ("power", vN p), ("season", vN k), ("version", vN v), ("written", w), ("row", r)]

/-- the classes' addresses -/
structure Cl where
  G : Addr
  U : Addr
  M : Addr
  S : Addr
  X : Addr

/-! ### what never changes: tuples, messages -/
section
variable (C : Cl) (K : PySem.W.Frag)
/-- what's written, as a tuple -/
def Wr (H : Hp) (a : Addr) (t : Option Vbsoaj.Text) : Prop := SqT K H a ((Vbsoaj.textNumbers t).map vN) ∧ (Vbsoaj.textNumbers t).length ≤ 122
/-- the row of a season -/
def Row (H : Hp) (a : Addr) (rows : List (Option Vbsoaj.Text)) : Prop := ∃ as : List Addr, SqT K H a (as.map V.ref) ∧ Paired (Wr K H) as rows ∧ as.length ≤ 7
def MsgAt (H : Hp) (a : Addr) : Vbsoaj.Msg → Prop
  | .hand p k v t => ∃ dx w r, H a = some (.ins C.X dx (fX 0 p k v (.ref w) r)) ∧ Wr K H w t
  | .receipt p k v => ∃ dx w r, H a = some (.ins C.X dx (fX 1 p k v w r))
  | .ask p k => ∃ dx w r, H a = some (.ins C.X dx (fX 2 p k 0 w r))
  | .opened p k rows => ∃ dx w r, H a = some (.ins C.X dx (fX 3 p k 0 w (.ref r))) ∧ Row K H r rows
def Dr (H : Hp) (v : V) : Option (Option Vbsoaj.Text) → Prop
  | none => v = .non
  | some t => ∃ a, v = .ref a ∧ Wr K H a t
end
/-- an object that the program never changes -/
def Imm (C : Cl) : HO → Prop
  | .tup _ => True
  | .frz _ _ => True
  | .ins c _ _ => c = C.X
  | _ => False
def Ext (C : Cl) (H H' : Hp) : Prop := ∀ b o, H b = some o → Imm C o → H' b = some o
section
variable {C : Cl} {K : PySem.W.Frag} {H H' H1 H2 : Hp}
theorem Ext.refl : Ext C H H := fun _ _ h _ => h
theorem Ext.trans (a : Ext C H H1) (b : Ext C H1 H2) : Ext C H H2 := fun c o h i => b c o (a c o h i) i
theorem Ext.same (a : Same H H') : Ext C H H' := fun b o h _ => a b o h
theorem Ext.sqT (e : Ext C H H') {a : Addr} {xs : List V} (h : SqT K H a xs) : SqT K H' a xs := by
  rcases h with (h | ⟨o, h⟩) | h
  · exact .inl (.inl (e _ _ h True.intro))
  · exact .inl (.inr ⟨o, e _ _ h True.intro⟩)
  · exact .inr h
theorem Ext.wr (e : Ext C H H') {a : Addr} {t : Option Vbsoaj.Text} (h : Wr K H a t) : Wr K H' a t := ⟨e.sqT h.1, h.2⟩
theorem Ext.row (e : Ext C H H') {a : Addr} {rows : List (Option Vbsoaj.Text)} (h : Row K H a rows) : Row K H' a rows := by
  obtain ⟨as, h1, h2, h3⟩ := h
  exact ⟨as, e.sqT h1, pr_imp (fun _ _ q => e.wr q) h2, h3⟩
theorem Ext.msg (e : Ext C H H') {a : Addr} : ∀ {m : Vbsoaj.Msg}, MsgAt C K H a m → MsgAt C K H' a m
  | .hand .., h => by
    obtain ⟨dx, w, r, h1, h2⟩ := h
    exact ⟨dx, w, r, e _ _ h1 rfl, e.wr h2⟩
  | .receipt .., h => by
    obtain ⟨dx, w, r, h1⟩ := h
    exact ⟨dx, w, r, e _ _ h1 rfl⟩
  | .ask .., h => by
    obtain ⟨dx, w, r, h1⟩ := h
    exact ⟨dx, w, r, e _ _ h1 rfl⟩
  | .opened .., h => by
    obtain ⟨dx, w, r, h1, h2⟩ := h
    exact ⟨dx, w, r, e _ _ h1 rfl, e.row h2⟩
theorem Ext.dr (e : Ext C H H') {v : V} : ∀ {d : Option (Option Vbsoaj.Text)}, Dr K H v d → Dr K H' v d
  | none, h => h
  | some t, h => by
    obtain ⟨a, h1, h2⟩ := h
    exact ⟨a, h1, e.wr h2⟩
theorem Ext.upd {x : Addr} {o o' : HO} (h : H x = some o) (n : ¬ Imm C o) : Ext C H (upd H x o') := fun b u e i => by
  rw [upd_ne]
  · exact e
  · rintro rfl
    rw [h] at e
    cases e
    exact n i
end

/-! ### the game -/
/-- the places of what may change -/
inductive Ro where
  | g | u | ml | bl | sl | ol
  | m (i : Nat) | r (i : Nat) | s (i : Nat)
def Ok (n : Nat) : Ro → Prop
  | .m i => i < n
  | .r i => i < n
  | .s i => i < n
  | _ => True
section
variable (C : Cl) (K : PySem.W.Frag)
/-- what stands at a place -/
def At (H : Hp) (A : Ro → Addr) (s : Vbsoaj.State) : Ro → Prop
  | .g => ∃ dx, H (A .g) = some (.ins C.G dx (fG s.begun s.span s.room s.now (A .ml) (A .u) (A .bl)))
  | .u => ∃ dx, H (A .u) = some (.ins C.U dx (fU s.on s.season s.deadline (A .sl) (A .ol)))
  | .ml => H (A .ml) = some (.lst ((List.range s.clients.length).map fun i => V.ref (A (.m i))))
  | .sl => H (A .sl) = some (.lst ((List.range s.sheets.length).map fun i => V.ref (A (.s i))))
  | .bl => ∃ as : List Addr, H (A .bl) = some (.lst (as.map V.ref)) ∧ Paired (MsgAt C K H) as s.bag
  | .ol => ∃ as : List Addr, H (A .ol) = some (.lst (as.map V.ref)) ∧ Paired (Row K H) as s.opened
  | .m i => ∃ c dx d, s.clients[i]? = some c ∧ H (A (.m i)) = some (.ins C.M dx (fM c.season c.version c.acked d (A (.r i)))) ∧ Dr K H d c.draft
  | .r i => ∃ (c : Vbsoaj.Client) (as : List Addr), s.clients[i]? = some c ∧ H (A (.r i)) = some (.lst (as.map V.ref)) ∧ Paired (Row K H) as c.got
  | .s i => ∃ x dx w, s.sheets[i]? = some x ∧ H (A (.s i)) = some (.ins C.S dx (fS x.version w)) ∧ Wr K H w x.text
/-- the game of state s stands in H, its parts at A -/
structure Gm (H : Hp) (A : Ro → Addr) (s : Vbsoaj.State) : Prop where
  at_ : ∀ r, Ok s.clients.length r → At C K H A s r
  inj : ∀ r r', Ok s.clients.length r → Ok s.clients.length r' → A r = A r' → r = r'
  sh : s.sheets.length = s.clients.length
end
/-- the classes differ -/
structure Cl.Ne (C : Cl) : Prop where
  gx : C.G ≠ C.X
  ux : C.U ≠ C.X
  mx : C.M ≠ C.X
  sx : C.S ≠ C.X
  gu : C.G ≠ C.U
  gm : C.G ≠ C.M
  gs : C.G ≠ C.S
  um : C.U ≠ C.M
  us : C.U ≠ C.S
  ms : C.M ≠ C.S
section
variable {C : Cl} {K : PySem.W.Frag} {H H' H1 H2 : Hp} {A A' A1 A2 : Ro → Addr} {s s' s1 : Vbsoaj.State}
theorem At.some_ (N : C.Ne) {r : Ro} (h : At C K H A s r) : ∃ o, H (A r) = some o ∧ ¬ Imm C o := by
  cases r with
  | g => obtain ⟨dx, h⟩ := h; exact ⟨_, h, N.gx⟩
  | u => obtain ⟨dx, h⟩ := h; exact ⟨_, h, N.ux⟩
  | ml => exact ⟨_, h, id⟩
  | sl => exact ⟨_, h, id⟩
  | bl => obtain ⟨as, h, _⟩ := h; exact ⟨_, h, id⟩
  | ol => obtain ⟨as, h, _⟩ := h; exact ⟨_, h, id⟩
  | m i => obtain ⟨c, dx, d, _, h, _⟩ := h; exact ⟨_, h, N.mx⟩
  | r i => obtain ⟨c, as, _, h, _⟩ := h; exact ⟨_, h, id⟩
  | s i => obtain ⟨x, dx, w, _, h, _⟩ := h; exact ⟨_, h, N.sx⟩
/-- what stands at a place hangs on that place and on what never changes -/
theorem At.keep {r : Ro} (h : At C K H A s r) (e : Ext C H H') (k : H' (A r) = H (A r)) : At C K H' A s r := by
  cases r with
  | g => obtain ⟨dx, h⟩ := h; exact ⟨dx, k.trans h⟩
  | u => obtain ⟨dx, h⟩ := h; exact ⟨dx, k.trans h⟩
  | ml => exact k.trans h
  | sl => exact k.trans h
  | bl => obtain ⟨as, h, p⟩ := h; exact ⟨as, k.trans h, pr_imp (fun _ _ q => e.msg q) p⟩
  | ol => obtain ⟨as, h, p⟩ := h; exact ⟨as, k.trans h, pr_imp (fun _ _ q => e.row q) p⟩
  | m i => obtain ⟨c, dx, d, h1, h2, h3⟩ := h; exact ⟨c, dx, d, h1, k.trans h2, e.dr h3⟩
  | r i => obtain ⟨c, as, h1, h2, h3⟩ := h; exact ⟨c, as, h1, k.trans h2, pr_imp (fun _ _ q => e.row q) h3⟩
  | s i => obtain ⟨x, dx, w, h1, h2, h3⟩ := h; exact ⟨x, dx, w, h1, k.trans h2, e.wr h3⟩
/-- what kind of object stands at a place: its class, or a list -/
def kindR (C : Cl) : Ro → Option Addr
  | .g => some C.G
  | .u => some C.U
  | .m _ => some C.M
  | .s _ => some C.S
  | _ => none
def kindO : HO → Option Addr
  | .ins c _ _ => some c
  | _ => none
theorem At.kind {r : Ro} (h : At C K H A s r) : ∃ o, H (A r) = some o ∧ kindO o = kindR C r := by
  cases r with
  | g => obtain ⟨dx, h⟩ := h; exact ⟨_, h, rfl⟩
  | u => obtain ⟨dx, h⟩ := h; exact ⟨_, h, rfl⟩
  | ml => exact ⟨_, h, rfl⟩
  | sl => exact ⟨_, h, rfl⟩
  | bl => obtain ⟨as, h, _⟩ := h; exact ⟨_, h, rfl⟩
  | ol => obtain ⟨as, h, _⟩ := h; exact ⟨_, h, rfl⟩
  | m i => obtain ⟨c, dx, d, _, h, _⟩ := h; exact ⟨_, h, rfl⟩
  | r i => obtain ⟨c, as, _, h, _⟩ := h; exact ⟨_, h, rfl⟩
  | s i => obtain ⟨x, dx, w, _, h, _⟩ := h; exact ⟨_, h, rfl⟩
def isL : Ro → Prop
  | .ml => True
  | .bl => True
  | .sl => True
  | .ol => True
  | .r _ => True
  | _ => False
/-- the places differ: by what stands there, and among lists, machines, sheets by themselves -/
theorem inj_of (N : C.Ne) {n : Nat} (at_ : ∀ r, Ok n r → At C K H A s r) (hm : ∀ i j, i < n → j < n → A (.m i) = A (.m j) → i = j) (hs : ∀ i j, i < n → j < n → A (.s i) = A (.s j) → i = j)
    (hl : ∀ r r', isL r → isL r' → Ok n r → Ok n r' → A r = A r' → r = r') : ∀ r r', Ok n r → Ok n r' → A r = A r' → r = r' := by
  intro r r' h h' e
  have k : kindR C r = kindR C r' := by
    obtain ⟨o, ho, eo⟩ := (at_ r h).kind
    obtain ⟨o', ho', eo'⟩ := (at_ r' h').kind
    rw [e, ho'] at ho
    cases ho
    exact eo.symm.trans eo'
  cases r <;> cases r' <;> first
    | rfl
    | exact hl _ _ True.intro True.intro h h' e
    | exact congrArg Ro.m (hm _ _ h h' e)
    | exact congrArg Ro.s (hs _ _ h h' e)
    | exact absurd (Option.some.inj k) N.gu | exact absurd (Option.some.inj k).symm N.gu
    | exact absurd (Option.some.inj k) N.gm | exact absurd (Option.some.inj k).symm N.gm
    | exact absurd (Option.some.inj k) N.gs | exact absurd (Option.some.inj k).symm N.gs
    | exact absurd (Option.some.inj k) N.um | exact absurd (Option.some.inj k).symm N.um
    | exact absurd (Option.some.inj k) N.us | exact absurd (Option.some.inj k).symm N.us
    | exact absurd (Option.some.inj k) N.ms | exact absurd (Option.some.inj k).symm N.ms
    | (exact nomatch k)
/-- one place is written: all else but it stands -/
theorem Gm.put (g : Gm C K H A s) (N : C.Ne) {r0 : Ro} (o0 : Ok s.clients.length r0) {o : HO} (en : s'.clients.length = s.clients.length) (es : s'.sheets.length = s.sheets.length) (new : Ext C H (upd H (A r0) o) → At C K (upd H (A r0) o) A s' r0)
    (same : ∀ r, r ≠ r0 → Ok s.clients.length r → At C K H A s r → At C K H A s' r) : Gm C K (upd H (A r0) o) A s' := by
  obtain ⟨u, hu, nu⟩ := (g.at_ r0 o0).some_ N
  have e : Ext C H (upd H (A r0) o) := Ext.upd hu nu
  refine ⟨fun r hr => ?_, fun r r' h h' => g.inj r r' (by rw [← en]; exact h) (by rw [← en]; exact h'), by rw [es, en]; exact g.sh⟩
  rw [en] at hr
  by_cases q : r = r0
  · subst q; exact new e
  · have ne : A r ≠ A r0 := fun z => q (g.inj r r0 hr o0 z)
    exact (same r q hr (g.at_ r hr)).keep e (by rw [upd_ne ne])
/-- all that was there stands -/
theorem Gm.same (g : Gm C K H A s) (N : C.Ne) (e : Same H H') : Gm C K H' A s := by
  refine ⟨fun r hr => (g.at_ r hr).keep (Ext.same e) ?_, g.inj, g.sh⟩
  obtain ⟨o, h, _⟩ := (g.at_ r hr).some_ N
  rw [h]
  exact e _ _ h
end

/-! ### what a call leaves as it was -/
def Own (A : Ro → Addr) (n : Nat) (b : Addr) : Prop := ∃ r, Ok n r ∧ A r = b
structure Fx (H : Hp) (A : Ro → Addr) (n : Nat) (H' : Hp) (A' : Ro → Addr) (n' : Nat) : Prop where
  keep : ∀ b o, H b = some o → ¬ Own A n b → H' b = some o
  own : ∀ b, Own A' n' b → Own A n b ∨ H b = none
  g : A' .g = A .g
  there : ∀ b o, H b = some o → ∃ o', H' b = some o'
section
variable {C : Cl} {K : PySem.W.Frag} {H H' H1 H2 : Hp} {A A' A1 A2 : Ro → Addr} {s s' s1 : Vbsoaj.State} {n n1 n2 : Nat}
theorem Fx.refl : Fx H A n H A n := ⟨fun _ _ h _ => h, fun _ h => .inl h, rfl, fun _ o h => ⟨o, h⟩⟩
theorem Fx.out (f : Fx H A n H1 A1 n1) {b : Addr} {o : HO} (h : H b = some o) (k : ¬ Own A n b) : ¬ Own A1 n1 b := fun z => by
  rcases f.own b z with q | q
  · exact k q
  · rw [h] at q; cases q
theorem Fx.trans (f : Fx H A n H1 A1 n1) (f' : Fx H1 A1 n1 H2 A2 n2) : Fx H A n H2 A2 n2 := by
  refine ⟨fun b o h k => f'.keep b o (f.keep b o h k) (f.out h k), fun b h => ?_, f'.g.trans f.g, fun b o h => let ⟨o1, h1⟩ := f.there b o h; f'.there b o1 h1⟩
  rcases f'.own b h with q | q
  · exact f.own b q
  · by_cases k : Own A n b
    · exact .inl k
    · refine .inr ?_
      cases e : H b with
      | none => rfl
      | some o => rw [f.keep b o e k] at q; cases q
theorem Fx.same (e : Same H H') : Fx H A n H' A n := ⟨fun b o h _ => e b o h, fun _ h => .inl h, rfl, fun b o h => ⟨o, e b o h⟩⟩
theorem Fx.free (f : Fx H A n H1 A1 n1) {b : Addr} (h : H1 b = none) : H b = none := by
  cases e : H b with
  | none => rfl
  | some o =>
    obtain ⟨o', e'⟩ := f.there b o e
    rw [h] at e'
    cases e'
theorem Fx.put {r : Ro} (o : Ok n r) {u : HO} : Fx H A n (upd H (A r) u) A n := by
  refine ⟨fun b x h k => ?_, fun _ h => .inl h, rfl, fun b x h => ?_⟩
  · rw [upd_ne]
    · exact h
    · intro z
      exact k ⟨r, o, z.symm⟩
  · by_cases q : b = A r
    · rw [q]; exact ⟨_, upd_same⟩
    · rw [upd_ne q]; exact ⟨x, h⟩
theorem Gm.ext (g : Gm C K H A s) (N : C.Ne) (f : Fx H A s.clients.length H' A' n) : Ext C H H' := fun b o h i => by
  refine f.keep b o h fun ⟨r, hr, e⟩ => ?_
  obtain ⟨u, hu, nu⟩ := (g.at_ r hr).some_ N
  rw [e, h] at hu
  cases hu
  exact nu i
theorem Gm.notOwn (g : Gm C K H A s) (N : C.Ne) {b : Addr} (h : H b = none) : ¬ Own A s.clients.length b := fun ⟨r, hr, e⟩ => by
  obtain ⟨u, hu, nu⟩ := (g.at_ r hr).some_ N
  rw [e, h] at hu
  cases hu
theorem Gm.notOwnI (g : Gm C K H A s) (N : C.Ne) {b : Addr} {o : HO} (h : H b = some o) (i : Imm C o) : ¬ Own A s.clients.length b := fun ⟨r, hr, e⟩ => by
  obtain ⟨u, hu, nu⟩ := (g.at_ r hr).some_ N
  rw [e, h] at hu
  cases hu
  exact nu i
/-- a new object is laid -/
theorem same_new {a : Addr} {o : HO} (h : H a = none) : Same H (upd H a o) := fun b u e => by
  rw [upd_ne (ne_of_none e h)]
  exact e
end
end So

set_option Elab.async false
set_option linter.all false
set_option maxRecDepth 100000
namespace So
open PySem PySem.Spec PyProof.Rows L2
/-! ### the attributes: read and stored (printed by gen_fields.py) -/
theorem lkG_begun {b : Bool} {sp : Nat} {rm : Nat} {nw : Nat} {ml : Addr} {um : Addr} {bl : Addr} : (fG b sp rm nw ml um bl).lookup ("begun" : Str) = some (.bl b) := by kernel_rfl
theorem pfG_begun {b : Bool} {sp : Nat} {rm : Nat} {nw : Nat} {ml : Addr} {um : Addr} {bl : Addr} {b' : Bool} : putF ("begun" : Str) (.bl b') (fG b sp rm nw ml um bl) = fG b' sp rm nw ml um bl := by kernel_rfl
theorem lkG_span {b : Bool} {sp : Nat} {rm : Nat} {nw : Nat} {ml : Addr} {um : Addr} {bl : Addr} : (fG b sp rm nw ml um bl).lookup ("span" : Str) = some (vN sp) := by kernel_rfl
theorem pfG_span {b : Bool} {sp : Nat} {rm : Nat} {nw : Nat} {ml : Addr} {um : Addr} {bl : Addr} {sp' : Nat} : putF ("span" : Str) (vN sp') (fG b sp rm nw ml um bl) = fG b sp' rm nw ml um bl := by kernel_rfl
theorem lkG_room {b : Bool} {sp : Nat} {rm : Nat} {nw : Nat} {ml : Addr} {um : Addr} {bl : Addr} : (fG b sp rm nw ml um bl).lookup ("room" : Str) = some (vN rm) := by kernel_rfl
theorem pfG_room {b : Bool} {sp : Nat} {rm : Nat} {nw : Nat} {ml : Addr} {um : Addr} {bl : Addr} {rm' : Nat} : putF ("room" : Str) (vN rm') (fG b sp rm nw ml um bl) = fG b sp rm' nw ml um bl := by kernel_rfl
theorem lkG_now {b : Bool} {sp : Nat} {rm : Nat} {nw : Nat} {ml : Addr} {um : Addr} {bl : Addr} : (fG b sp rm nw ml um bl).lookup ("now" : Str) = some (vN nw) := by kernel_rfl
theorem pfG_now {b : Bool} {sp : Nat} {rm : Nat} {nw : Nat} {ml : Addr} {um : Addr} {bl : Addr} {nw' : Nat} : putF ("now" : Str) (vN nw') (fG b sp rm nw ml um bl) = fG b sp rm nw' ml um bl := by kernel_rfl
theorem lkG_machines {b : Bool} {sp : Nat} {rm : Nat} {nw : Nat} {ml : Addr} {um : Addr} {bl : Addr} : (fG b sp rm nw ml um bl).lookup ("machines" : Str) = some (.ref ml) := by kernel_rfl
theorem pfG_machines {b : Bool} {sp : Nat} {rm : Nat} {nw : Nat} {ml : Addr} {um : Addr} {bl : Addr} {ml' : Addr} : putF ("machines" : Str) (.ref ml') (fG b sp rm nw ml um bl) = fG b sp rm nw ml' um bl := by kernel_rfl
theorem lkG_umpire {b : Bool} {sp : Nat} {rm : Nat} {nw : Nat} {ml : Addr} {um : Addr} {bl : Addr} : (fG b sp rm nw ml um bl).lookup ("umpire" : Str) = some (.ref um) := by kernel_rfl
theorem pfG_umpire {b : Bool} {sp : Nat} {rm : Nat} {nw : Nat} {ml : Addr} {um : Addr} {bl : Addr} {um' : Addr} : putF ("umpire" : Str) (.ref um') (fG b sp rm nw ml um bl) = fG b sp rm nw ml um' bl := by kernel_rfl
theorem lkG_messages {b : Bool} {sp : Nat} {rm : Nat} {nw : Nat} {ml : Addr} {um : Addr} {bl : Addr} : (fG b sp rm nw ml um bl).lookup ("messages" : Str) = some (.ref bl) := by kernel_rfl
theorem pfG_messages {b : Bool} {sp : Nat} {rm : Nat} {nw : Nat} {ml : Addr} {um : Addr} {bl : Addr} {bl' : Addr} : putF ("messages" : Str) (.ref bl') (fG b sp rm nw ml um bl) = fG b sp rm nw ml um bl' := by kernel_rfl
theorem mkG {b : Bool} {sp : Nat} {rm : Nat} {nw : Nat} {ml : Addr} {um : Addr} {bl : Addr} : putF ("messages" : Str) (.ref bl) (putF ("umpire" : Str) (.ref um) (putF ("machines" : Str) (.ref ml) (putF ("now" : Str) (vN nw) (putF ("room" : Str) (vN rm) (putF ("span" : Str) (vN sp) (putF ("begun" : Str) (.bl b) ([]))))))) = fG b sp rm nw ml um bl := by kernel_rfl
theorem lenG {b : Bool} {sp : Nat} {rm : Nat} {nw : Nat} {ml : Addr} {um : Addr} {bl : Addr} : (fG b sp rm nw ml um bl).length < 1000 := by show 7 < 1000; decide
theorem lkU_on {on : Bool} {se : Nat} {de : Nat} {sl : Addr} {ol : Addr} : (fU on se de sl ol).lookup ("on" : Str) = some (.bl on) := by kernel_rfl
theorem pfU_on {on : Bool} {se : Nat} {de : Nat} {sl : Addr} {ol : Addr} {on' : Bool} : putF ("on" : Str) (.bl on') (fU on se de sl ol) = fU on' se de sl ol := by kernel_rfl
theorem lkU_season {on : Bool} {se : Nat} {de : Nat} {sl : Addr} {ol : Addr} : (fU on se de sl ol).lookup ("season" : Str) = some (vN se) := by kernel_rfl
theorem pfU_season {on : Bool} {se : Nat} {de : Nat} {sl : Addr} {ol : Addr} {se' : Nat} : putF ("season" : Str) (vN se') (fU on se de sl ol) = fU on se' de sl ol := by kernel_rfl
theorem lkU_deadline {on : Bool} {se : Nat} {de : Nat} {sl : Addr} {ol : Addr} : (fU on se de sl ol).lookup ("deadline" : Str) = some (vN de) := by kernel_rfl
theorem pfU_deadline {on : Bool} {se : Nat} {de : Nat} {sl : Addr} {ol : Addr} {de' : Nat} : putF ("deadline" : Str) (vN de') (fU on se de sl ol) = fU on se de' sl ol := by kernel_rfl
theorem lkU_sheets {on : Bool} {se : Nat} {de : Nat} {sl : Addr} {ol : Addr} : (fU on se de sl ol).lookup ("sheets" : Str) = some (.ref sl) := by kernel_rfl
theorem pfU_sheets {on : Bool} {se : Nat} {de : Nat} {sl : Addr} {ol : Addr} {sl' : Addr} : putF ("sheets" : Str) (.ref sl') (fU on se de sl ol) = fU on se de sl' ol := by kernel_rfl
theorem lkU_opened {on : Bool} {se : Nat} {de : Nat} {sl : Addr} {ol : Addr} : (fU on se de sl ol).lookup ("opened" : Str) = some (.ref ol) := by kernel_rfl
theorem pfU_opened {on : Bool} {se : Nat} {de : Nat} {sl : Addr} {ol : Addr} {ol' : Addr} : putF ("opened" : Str) (.ref ol') (fU on se de sl ol) = fU on se de sl ol' := by kernel_rfl
theorem mkU {on : Bool} {se : Nat} {de : Nat} {sl : Addr} {ol : Addr} : putF ("opened" : Str) (.ref ol) (putF ("sheets" : Str) (.ref sl) (putF ("deadline" : Str) (vN de) (putF ("season" : Str) (vN se) (putF ("on" : Str) (.bl on) ([]))))) = fU on se de sl ol := by kernel_rfl
theorem lenU {on : Bool} {se : Nat} {de : Nat} {sl : Addr} {ol : Addr} : (fU on se de sl ol).length < 1000 := by show 5 < 1000; decide
theorem lkM_season {se : Nat} {ve : Nat} {ac : Nat} {d : V} {rl : Addr} : (fM se ve ac d rl).lookup ("season" : Str) = some (vN se) := by kernel_rfl
theorem pfM_season {se : Nat} {ve : Nat} {ac : Nat} {d : V} {rl : Addr} {se' : Nat} : putF ("season" : Str) (vN se') (fM se ve ac d rl) = fM se' ve ac d rl := by kernel_rfl
theorem lkM_version {se : Nat} {ve : Nat} {ac : Nat} {d : V} {rl : Addr} : (fM se ve ac d rl).lookup ("version" : Str) = some (vN ve) := by kernel_rfl
theorem pfM_version {se : Nat} {ve : Nat} {ac : Nat} {d : V} {rl : Addr} {ve' : Nat} : putF ("version" : Str) (vN ve') (fM se ve ac d rl) = fM se ve' ac d rl := by kernel_rfl
theorem lkM_acknowledged {se : Nat} {ve : Nat} {ac : Nat} {d : V} {rl : Addr} : (fM se ve ac d rl).lookup ("acknowledged" : Str) = some (vN ac) := by kernel_rfl
theorem pfM_acknowledged {se : Nat} {ve : Nat} {ac : Nat} {d : V} {rl : Addr} {ac' : Nat} : putF ("acknowledged" : Str) (vN ac') (fM se ve ac d rl) = fM se ve ac' d rl := by kernel_rfl
theorem lkM_draft {se : Nat} {ve : Nat} {ac : Nat} {d : V} {rl : Addr} : (fM se ve ac d rl).lookup ("draft" : Str) = some (d) := by kernel_rfl
theorem pfM_draft {se : Nat} {ve : Nat} {ac : Nat} {d : V} {rl : Addr} {d' : V} : putF ("draft" : Str) (d') (fM se ve ac d rl) = fM se ve ac d' rl := by kernel_rfl
theorem lkM_rows {se : Nat} {ve : Nat} {ac : Nat} {d : V} {rl : Addr} : (fM se ve ac d rl).lookup ("rows" : Str) = some (.ref rl) := by kernel_rfl
theorem pfM_rows {se : Nat} {ve : Nat} {ac : Nat} {d : V} {rl : Addr} {rl' : Addr} : putF ("rows" : Str) (.ref rl') (fM se ve ac d rl) = fM se ve ac d rl' := by kernel_rfl
theorem mkM {se : Nat} {ve : Nat} {ac : Nat} {d : V} {rl : Addr} : putF ("rows" : Str) (.ref rl) (putF ("draft" : Str) (d) (putF ("acknowledged" : Str) (vN ac) (putF ("version" : Str) (vN ve) (putF ("season" : Str) (vN se) ([]))))) = fM se ve ac d rl := by kernel_rfl
theorem lenM {se : Nat} {ve : Nat} {ac : Nat} {d : V} {rl : Addr} : (fM se ve ac d rl).length < 1000 := by show 5 < 1000; decide
theorem lkS_version {ve : Nat} {w : Addr} : (fS ve w).lookup ("version" : Str) = some (vN ve) := by kernel_rfl
theorem pfS_version {ve : Nat} {w : Addr} {ve' : Nat} : putF ("version" : Str) (vN ve') (fS ve w) = fS ve' w := by kernel_rfl
theorem lkS_written {ve : Nat} {w : Addr} : (fS ve w).lookup ("written" : Str) = some (.ref w) := by kernel_rfl
theorem pfS_written {ve : Nat} {w : Addr} {w' : Addr} : putF ("written" : Str) (.ref w') (fS ve w) = fS ve w' := by kernel_rfl
theorem mkS {ve : Nat} {w : Addr} : putF ("written" : Str) (.ref w) (putF ("version" : Str) (vN ve) ([])) = fS ve w := by kernel_rfl
theorem lenS {ve : Nat} {w : Addr} : (fS ve w).length < 1000 := by show 2 < 1000; decide
theorem lkX_kind {kd : Nat} {p : Nat} {k : Nat} {v : Nat} {w : V} {r : V} : (fX kd p k v w r).lookup ("kind" : Str) = some (vN kd) := by kernel_rfl
theorem pfX_kind {kd : Nat} {p : Nat} {k : Nat} {v : Nat} {w : V} {r : V} {kd' : Nat} : putF ("kind" : Str) (vN kd') (fX kd p k v w r) = fX kd' p k v w r := by kernel_rfl
theorem lkX_power {kd : Nat} {p : Nat} {k : Nat} {v : Nat} {w : V} {r : V} : (fX kd p k v w r).lookup ("power" : Str) = some (vN p) := by kernel_rfl
theorem pfX_power {kd : Nat} {p : Nat} {k : Nat} {v : Nat} {w : V} {r : V} {p' : Nat} : putF ("power" : Str) (vN p') (fX kd p k v w r) = fX kd p' k v w r := by kernel_rfl
theorem lkX_season {kd : Nat} {p : Nat} {k : Nat} {v : Nat} {w : V} {r : V} : (fX kd p k v w r).lookup ("season" : Str) = some (vN k) := by kernel_rfl
theorem pfX_season {kd : Nat} {p : Nat} {k : Nat} {v : Nat} {w : V} {r : V} {k' : Nat} : putF ("season" : Str) (vN k') (fX kd p k v w r) = fX kd p k' v w r := by kernel_rfl
theorem lkX_version {kd : Nat} {p : Nat} {k : Nat} {v : Nat} {w : V} {r : V} : (fX kd p k v w r).lookup ("version" : Str) = some (vN v) := by kernel_rfl
theorem pfX_version {kd : Nat} {p : Nat} {k : Nat} {v : Nat} {w : V} {r : V} {v' : Nat} : putF ("version" : Str) (vN v') (fX kd p k v w r) = fX kd p k v' w r := by kernel_rfl
theorem lkX_written {kd : Nat} {p : Nat} {k : Nat} {v : Nat} {w : V} {r : V} : (fX kd p k v w r).lookup ("written" : Str) = some (w) := by kernel_rfl
theorem pfX_written {kd : Nat} {p : Nat} {k : Nat} {v : Nat} {w : V} {r : V} {w' : V} : putF ("written" : Str) (w') (fX kd p k v w r) = fX kd p k v w' r := by kernel_rfl
theorem lkX_row {kd : Nat} {p : Nat} {k : Nat} {v : Nat} {w : V} {r : V} : (fX kd p k v w r).lookup ("row" : Str) = some (r) := by kernel_rfl
theorem pfX_row {kd : Nat} {p : Nat} {k : Nat} {v : Nat} {w : V} {r : V} {r' : V} : putF ("row" : Str) (r') (fX kd p k v w r) = fX kd p k v w r' := by kernel_rfl
theorem mkX {kd : Nat} {p : Nat} {k : Nat} {v : Nat} {w : V} {r : V} : putF ("row" : Str) (r) (putF ("written" : Str) (w) (putF ("version" : Str) (vN v) (putF ("season" : Str) (vN k) (putF ("power" : Str) (vN p) (putF ("kind" : Str) (vN kd) ([])))))) = fX kd p k v w r := by kernel_rfl
theorem lenX {kd : Nat} {p : Nat} {k : Nat} {v : Nat} {w : V} {r : V} : (fX kd p k v w r).length < 1000 := by show 6 < 1000; decide
/-! ### short readings -/
section
variable {K : PySem.W.Frag} {H : Hp} {a c dx : Addr} {fs fs' : List (Str × V)} {f : Str} {v y : V} {Q : VK} {R : Hp → Prop}
theorem fld (h : H a = some (.ins c dx fs)) (cl : Cls K c) (n : NoAttr K c f) (l : fs.lookup f = some v) (q : Q v H) :
    ∃ a' c' dx' fs' v', V.ref a = .ref a' ∧ H a' = some (.ins c' dx' fs') ∧ Cls K c' ∧ NoAttr K c' f ∧ fs'.lookup f = some v' ∧ Q v' H := ⟨a, c, dx, fs, v, rfl, h, cl, n, l, q⟩
theorem sto (h : H a = some (.ins c dx fs)) (cl : Cls K c) (n : NoAttr K c f) (hl : fs.length < 1000) (e : putF f y fs = fs') (q : R (upd H a (.ins c dx fs'))) :
    ∃ a' c' dx' fs', V.ref a = .ref a' ∧ H a' = some (.ins c' dx' fs') ∧ Cls K c' ∧ NoAttr K c' f ∧ fs'.length < 1000 ∧ R (upd H a' (.ins c' dx' (putF f y fs'))) := by
  subst e
  exact ⟨a, c, dx, fs, rfl, h, cl, n, hl, q⟩
end
section
variable {X : Cx}
/-- a number of the module's top -/
theorem pe_cint {x : Str} {i : Int} {pos : Pos} (hg : Gl X x) (h : ∃ t, X.mg x = some (.int i t)) (hd : (x == ("__debug__" : Str)) = false := by decide) : PE X (.Name x pos) (tC (.int i)) := by
  obtain ⟨t, e⟩ := h
  exact pe_glob hg e ⟨t, rfl⟩ hd
/-- a tuple of the module's top -/
theorem pe_cref {x : Str} {b : Addr} {pos : Pos} (hg : Gl X x) (h : X.mg x = some (.ref b)) (hd : (x == ("__debug__" : Str)) = false := by decide) : PE X (.Name x pos) (tC (.ref b)) := pe_glob hg h rfl hd
end
theorem ltk {n : Nat} (h : Nat.ble (n + 1) 1000 = true) : n < 1000 := Nat.le_of_ble_eq_true h
theorem line_big {n : Nat} (h : n ≤ 1000000) : n < sizeLine := Nat.lt_of_le_of_lt h (by decide)
theorem line_bigE {n : Nat} (h : n ≤ 1000000) : n ≤ sizeLine := Nat.le_of_lt (line_big h)

/-! ### one place is written -/
section
variable {C : Cl} {K : PySem.W.Frag} {H H' H1 H2 : Hp} {A A' A1 A2 : Ro → Addr} {s s' s1 : Vbsoaj.State} {n n1 n2 : Nat}
theorem Gm.g_ (g : Gm C K H A s) : ∃ dx, H (A .g) = some (.ins C.G dx (fG s.begun s.span s.room s.now (A .ml) (A .u) (A .bl))) := g.at_ .g True.intro
theorem Gm.u_ (g : Gm C K H A s) : ∃ dx, H (A .u) = some (.ins C.U dx (fU s.on s.season s.deadline (A .sl) (A .ol))) := g.at_ .u True.intro
theorem Gm.ml_ (g : Gm C K H A s) : H (A .ml) = some (.lst ((List.range s.clients.length).map fun i => V.ref (A (.m i)))) := g.at_ .ml True.intro
theorem Gm.sl_ (g : Gm C K H A s) : H (A .sl) = some (.lst ((List.range s.sheets.length).map fun i => V.ref (A (.s i)))) := g.at_ .sl True.intro
theorem Gm.bl_ (g : Gm C K H A s) : ∃ as : List Addr, H (A .bl) = some (.lst (as.map V.ref)) ∧ Paired (MsgAt C K H) as s.bag := g.at_ .bl True.intro
theorem Gm.ol_ (g : Gm C K H A s) : ∃ as : List Addr, H (A .ol) = some (.lst (as.map V.ref)) ∧ Paired (Row K H) as s.opened := g.at_ .ol True.intro
theorem Gm.m_ (g : Gm C K H A s) {i : Nat} (hi : i < s.clients.length) : ∃ c dx d, s.clients[i]? = some c ∧ H (A (.m i)) = some (.ins C.M dx (fM c.season c.version c.acked d (A (.r i)))) ∧ Dr K H d c.draft := g.at_ (.m i) hi
theorem Gm.r_ (g : Gm C K H A s) {i : Nat} (hi : i < s.clients.length) : ∃ (c : Vbsoaj.Client) (as : List Addr), s.clients[i]? = some c ∧ H (A (.r i)) = some (.lst (as.map V.ref)) ∧ Paired (Row K H) as c.got := g.at_ (.r i) hi
theorem Gm.s_ (g : Gm C K H A s) {i : Nat} (hi : i < s.clients.length) : ∃ x dx w, s.sheets[i]? = some x ∧ H (A (.s i)) = some (.ins C.S dx (fS x.version w)) ∧ Wr K H w x.text := g.at_ (.s i) hi
theorem Gm.mAt (g : Gm C K H A s) {i : Nat} (hi : i < s.clients.length) : ((List.range s.clients.length).map fun i => V.ref (A (.m i)))[i]? = some (V.ref (A (.m i))) := by
  rw [List.getElem?_map, List.getElem?_range hi]
  rfl
theorem Gm.sAt (g : Gm C K H A s) {i : Nat} (hi : i < s.clients.length) : ((List.range s.sheets.length).map fun i => V.ref (A (.s i)))[i]? = some (V.ref (A (.s i))) := by
  rw [List.getElem?_map, List.getElem?_range (by rw [g.sh]; exact hi)]
  rfl
theorem clientAt_of {i : Nat} {c : Vbsoaj.Client} (h : s.clients[i]? = some c) : Vbsoaj.clientAt s i = c := by
  unfold Vbsoaj.clientAt
  rw [List.getD_eq_getElem?_getD, h]
  rfl
theorem sheetAt_of {i : Nat} {x : Vbsoaj.Sheet} (h : s.sheets[i]? = some x) : Vbsoaj.sheetAt s i = x := by
  unfold Vbsoaj.sheetAt
  rw [List.getD_eq_getElem?_getD, h]
  rfl

/-- the game's own numbers -/
theorem Gm.putG (g : Gm C K H A s) (N : C.Ne) {dx : Addr} {b : Bool} {sp rm nw : Nat} : Gm C K (upd H (A .g) (.ins C.G dx (fG b sp rm nw (A .ml) (A .u) (A .bl)))) A { s with begun := b, span := sp, room := rm, now := nw } :=
  g.put N (r0 := .g) True.intro rfl rfl (fun _ => ⟨dx, upd_same⟩) fun r hr _ h => by cases r <;> first | exact absurd rfl hr | exact h
theorem Gm.putU (g : Gm C K H A s) (N : C.Ne) {dx : Addr} {on : Bool} {se de : Nat} : Gm C K (upd H (A .u) (.ins C.U dx (fU on se de (A .sl) (A .ol)))) A { s with on := on, season := se, deadline := de } :=
  g.put N (r0 := .u) True.intro rfl rfl (fun _ => ⟨dx, upd_same⟩) fun r hr _ h => by cases r <;> first | exact absurd rfl hr | exact h
theorem Gm.putBl (g : Gm C K H A s) (N : C.Ne) {as : List Addr} {ms : List Vbsoaj.Msg} (p : Paired (MsgAt C K H) as ms) : Gm C K (upd H (A .bl) (.lst (as.map V.ref))) A { s with bag := ms } :=
  g.put N (r0 := .bl) True.intro rfl rfl (fun e => ⟨as, upd_same, pr_imp (fun _ _ q => e.msg q) p⟩) fun r hr _ h => by cases r <;> first | exact absurd rfl hr | exact h
theorem Gm.putOl (g : Gm C K H A s) (N : C.Ne) {as : List Addr} {rs : List (List (Option Vbsoaj.Text))} (p : Paired (Row K H) as rs) : Gm C K (upd H (A .ol) (.lst (as.map V.ref))) A { s with opened := rs } :=
  g.put N (r0 := .ol) True.intro rfl rfl (fun e => ⟨as, upd_same, pr_imp (fun _ _ q => e.row q) p⟩) fun r hr _ h => by cases r <;> first | exact absurd rfl hr | exact h
theorem set_self {α : Type} {l : List α} {i : Nat} (x : α) (h : i < l.length) : (l.set i x)[i]? = some x := by
  rw [List.getElem?_set_self h]
theorem set_ne {α : Type} {l : List α} {i j : Nat} (x : α) (h : i ≠ j) : (l.set i x)[j]? = l[j]? := by
  rw [List.getElem?_set_ne h]
/-- a machine's own numbers and its draft -/
theorem Gm.putM (g : Gm C K H A s) (N : C.Ne) {i : Nat} (hi : i < s.clients.length) {c c' : Vbsoaj.Client} (hc : s.clients[i]? = some c) (eg : c'.got = c.got) {dx : Addr} {d : V} (hd : Dr K H d c'.draft) :
    Gm C K (upd H (A (.m i)) (.ins C.M dx (fM c'.season c'.version c'.acked d (A (.r i))))) A (Vbsoaj.setClient s i c') := by
  refine g.put N (r0 := .m i) hi (List.length_set ..) rfl (fun e => ⟨c', dx, d, set_self c' hi, upd_same, e.dr hd⟩) fun r hr ho h => ?_
  cases r with
  | ml =>
    show H (A .ml) = some (.lst ((List.range (s.clients.set i c').length).map fun i => V.ref (A (.m i))))
    rw [List.length_set]
    exact h
  | m j =>
    have ne : i ≠ j := fun e => hr (by rw [e])
    obtain ⟨x, dx', d', h1, h2, h3⟩ := h
    exact ⟨x, dx', d', (set_ne c' ne).trans h1, h2, h3⟩
  | r j =>
    obtain ⟨x, as, h1, h2, h3⟩ := h
    by_cases e : i = j
    · subst e
      have q : x = c := Option.some.inj (h1.symm.trans hc)
      subst q
      exact ⟨c', as, set_self c' hi, h2, by rw [eg]; exact h3⟩
    · exact ⟨x, as, (set_ne c' e).trans h1, h2, h3⟩
  | _ => exact h
/-- the seasons that a machine has got -/
theorem Gm.putR (g : Gm C K H A s) (N : C.Ne) {i : Nat} (hi : i < s.clients.length) {c : Vbsoaj.Client} (hc : s.clients[i]? = some c) {as : List Addr} {rs : List (List (Option Vbsoaj.Text))} (p : Paired (Row K H) as rs) :
    Gm C K (upd H (A (.r i)) (.lst (as.map V.ref))) A (Vbsoaj.setClient s i { c with got := rs }) := by
  refine g.put N (r0 := .r i) hi (List.length_set ..) rfl (fun e => ⟨{ c with got := rs }, as, set_self _ hi, upd_same, pr_imp (fun _ _ q => e.row q) p⟩) fun r hr ho h => ?_
  cases r with
  | ml =>
    show H (A .ml) = some (.lst ((List.range (s.clients.set i _).length).map fun i => V.ref (A (.m i))))
    rw [List.length_set]
    exact h
  | r j =>
    have ne : i ≠ j := fun e => hr (by rw [e])
    obtain ⟨x, as', h1, h2, h3⟩ := h
    exact ⟨x, as', (set_ne _ ne).trans h1, h2, h3⟩
  | m j =>
    obtain ⟨x, dx', d', h1, h2, h3⟩ := h
    by_cases e : i = j
    · subst e
      have q : x = c := Option.some.inj (h1.symm.trans hc)
      subst q
      exact ⟨{ x with got := rs }, dx', d', set_self _ hi, h2, h3⟩
    · exact ⟨x, dx', d', (set_ne _ e).trans h1, h2, h3⟩
  | _ => exact h
theorem Gm.putS (g : Gm C K H A s) (N : C.Ne) {i : Nat} (hi : i < s.clients.length) {x' : Vbsoaj.Sheet} {dx w : Addr} (hw : Wr K H w x'.text) :
    Gm C K (upd H (A (.s i)) (.ins C.S dx (fS x'.version w))) A (Vbsoaj.setSheet s i x') := by
  refine g.put N (r0 := .s i) hi rfl (List.length_set ..) (fun e => ⟨x', dx, w, set_self x' (by rw [g.sh]; exact hi), upd_same, e.wr hw⟩) fun r hr ho h => ?_
  cases r with
  | sl =>
    show H (A .sl) = some (.lst ((List.range (s.sheets.set i x').length).map fun i => V.ref (A (.s i))))
    rw [List.length_set]
    exact h
  | s j =>
    have ne : i ≠ j := fun e => hr (by rw [e])
    obtain ⟨x, dx', d', h1, h2, h3⟩ := h
    exact ⟨x, dx', d', (set_ne x' ne).trans h1, h2, h3⟩
  | _ => exact h

/-! ### an answer -/
/-- the answer r of a call on the game of state s: behind it stands the game of state r.1, and a new list of r.2 is given back -/
def Ans (C : Cl) (K : PySem.W.Frag) (H : Hp) (A : Ro → Addr) (s : Vbsoaj.State) (r : Vbsoaj.State × List Int) (Q : VK) : Prop :=
  ∀ (H' : Hp) (A' : Ro → Addr) (l : Addr), Gm C K H' A' r.1 → Fx H A s.clients.length H' A' r.1.clients.length → H' l = some (.lst (r.2.map V.int)) → H l = none → ¬ Own A' r.1.clients.length l → r.2.length ≤ 1000 → Q (.ref l) H'
/-- the list is laid last -/
theorem Ans.lay {r : Vbsoaj.State × List Int} {Q : VK} (q : Ans C K H A s r Q) (N : C.Ne) (g : Gm C K H1 A1 r.1) (f : Fx H A s.clients.length H1 A1 r.1.clients.length) {l : Addr} (hl : H1 l = none) {vs : List V} (e : vs = r.2.map V.int) (hz : r.2.length ≤ 1000) :
    Q (.ref l) (upd H1 l (.lst vs)) := by
  subst e
  have sm : Same H1 (upd H1 l (.lst (r.2.map V.int))) := same_new hl
  exact q _ A1 l (g.same N sm) (f.trans (Fx.same sm)) upd_same (f.free hl) (g.notOwn N hl) hz
/-- what only lays new objects may stand ahead of an answer -/
theorem Ans.later {r : Vbsoaj.State × List Int} {Q : VK} (q : Ans C K H A s r Q) (sm : Same H H1) : Ans C K H1 A s r Q := fun H' A' l g' f' h1 h2 h3 h4 =>
  q H' A' l g' ((Fx.same sm).trans f') h1 ((Fx.same (A := A) (n := s.clients.length) sm).free h2) h3 h4
end
end So

set_option Elab.async false
set_option linter.all false
set_option maxRecDepth 100000
set_option genInjectivity false
set_option genSizeOf false
set_option genSizeOfSpec false
namespace So
open PySem PySem.Spec PyProof.Rows L2
/-! The text by places: printed by gen_txt.py from the linked text. -/
def top (i : Nat) : Stmt := PySem.Challenge.pw_sealedorders_s01_answers.main.body.getD i (.Pass ⟨0, 0, 0, 0⟩)
abbrev s_blank_sheets : Stmt := top 41
abbrev s_within : Stmt := top 45
abbrev s_is_text : Stmt := top 46
abbrev s_put : Stmt := top 47
abbrev s_put_or_refuse : Stmt := top 48
abbrev s_put_opened : Stmt := top 49
abbrev s_end_season_if_due : Stmt := top 50
abbrev s_bring : Stmt := top 51
abbrev s_bring_hand : Stmt := top 52
abbrev s_bring_receipt : Stmt := top 53
abbrev s_bring_question : Stmt := top 54
abbrev s_bring_opened : Stmt := top 55
abbrev s_begin : Stmt := top 56
abbrev s_tick : Stmt := top 57
abbrev s_write : Stmt := top 58
abbrev s_clear : Stmt := top 59
abbrev s_new_draft : Stmt := top 60
abbrev s_send : Stmt := top 61
abbrev s_ask : Stmt := top 62
abbrev s_deliver : Stmt := top 63
abbrev s_lose : Stmt := top 64
abbrev s_double : Stmt := top 65
abbrev s_stop : Stmt := top 66
abbrev s_start : Stmt := top 67
abbrev s_tell : Stmt := top 68
abbrev s_see : Stmt := top 69
abbrev s_got : Stmt := top 70
abbrev s_show_umpire : Stmt := top 71
abbrev s_show_bag : Stmt := top 72
abbrev s_fits : Stmt := top 73
abbrev s_make_call : Stmt := top 74
abbrev s_answer_call : Stmt := top 75
abbrev s_answer_line : Stmt := top 76
abbrev s_answers : Stmt := top 77
abbrev s_Machine_init : Stmt := inClass (top 39) 0
abbrev s_Sheet_init : Stmt := inClass (top 40) 0
abbrev s_Umpire_init : Stmt := inClass (top 42) 0
abbrev s_Message_init : Stmt := inClass (top 43) 0
abbrev s_Game_init : Stmt := inClass (top 44) 0
abbrev s_Game_lay_out : Stmt := inClass (top 44) 1
/-- addresses -/
structure Ad where
  C : Cl
  a_NUMBERS_OF_CALL : Addr
  a_NOTHING : Addr
  f_Machine_init : Addr
  d_Machine_init : FuncData
  f_Sheet_init : Addr
  d_Sheet_init : FuncData
  f_Umpire_init : Addr
  d_Umpire_init : FuncData
  f_Message_init : Addr
  d_Message_init : FuncData
  f_Game_init : Addr
  d_Game_init : FuncData
  f_Game_lay_out : Addr
  d_Game_lay_out : FuncData
  f_blank_sheets : Addr
  d_blank_sheets : FuncData
  f_within : Addr
  d_within : FuncData
  f_is_text : Addr
  d_is_text : FuncData
  f_put : Addr
  d_put : FuncData
  f_put_or_refuse : Addr
  d_put_or_refuse : FuncData
  f_put_opened : Addr
  d_put_opened : FuncData
  f_end_season_if_due : Addr
  d_end_season_if_due : FuncData
  f_bring : Addr
  d_bring : FuncData
  f_bring_hand : Addr
  d_bring_hand : FuncData
  f_bring_receipt : Addr
  d_bring_receipt : FuncData
  f_bring_question : Addr
  d_bring_question : FuncData
  f_bring_opened : Addr
  d_bring_opened : FuncData
  f_begin : Addr
  d_begin : FuncData
  f_tick : Addr
  d_tick : FuncData
  f_write : Addr
  d_write : FuncData
  f_clear : Addr
  d_clear : FuncData
  f_new_draft : Addr
  d_new_draft : FuncData
  f_send : Addr
  d_send : FuncData
  f_ask : Addr
  d_ask : FuncData
  f_deliver : Addr
  d_deliver : FuncData
  f_lose : Addr
  d_lose : FuncData
  f_double : Addr
  d_double : FuncData
  f_stop : Addr
  d_stop : FuncData
  f_start : Addr
  d_start : FuncData
  f_tell : Addr
  d_tell : FuncData
  f_see : Addr
  d_see : FuncData
  f_got : Addr
  d_got : FuncData
  f_show_umpire : Addr
  d_show_umpire : FuncData
  f_show_bag : Addr
  d_show_bag : FuncData
  f_fits : Addr
  d_fits : FuncData
  f_make_call : Addr
  d_make_call : FuncData
  f_answer_call : Addr
  d_answer_call : FuncData
  f_answer_line : Addr
  d_answer_line : FuncData
  f_answers : Addr
  d_answers : FuncData
/-- what of the text stands behind the top -/
structure Txt (K : PySem.W.Frag) (mg : Str → Option Value) (a : Ad) : Prop where
  ne : a.C.Ne
  c_NOT_BEGUN : ∃ t, mg "NOT_BEGUN" = some (.int (-1) t)
  c_OUT_OF_RANGE : ∃ t, mg "OUT_OF_RANGE" = some (.int (-2) t)
  c_TOO_LATE : ∃ t, mg "TOO_LATE" = some (.int (-3) t)
  c_NO_DRAFT : ∃ t, mg "NO_DRAFT" = some (.int (-4) t)
  c_NO_ROOM : ∃ t, mg "NO_ROOM" = some (.int (-5) t)
  c_SWITCHED_WRONG : ∃ t, mg "SWITCHED_WRONG" = some (.int (-6) t)
  c_SEASON_NOT_THERE : ∃ t, mg "SEASON_NOT_THERE" = some (.int (-7) t)
  c_LEAST_POWERS : ∃ t, mg "LEAST_POWERS" = some (.int 2 t)
  c_MOST_POWERS : ∃ t, mg "MOST_POWERS" = some (.int 7 t)
  c_MOST_SPAN : ∃ t, mg "MOST_SPAN" = some (.int 1000000 t)
  c_MOST_ROOM : ∃ t, mg "MOST_ROOM" = some (.int 100 t)
  c_MOST_TICK : ∃ t, mg "MOST_TICK" = some (.int 1000000 t)
  c_LAST_NOW : ∃ t, mg "LAST_NOW" = some (.int 100000000 t)
  c_LONGEST_TEXT : ∃ t, mg "LONGEST_TEXT" = some (.int 120 t)
  c_GREATEST_SIGN : ∃ t, mg "GREATEST_SIGN" = some (.int 255 t)
  c_LAST_SEASON : ∃ t, mg "LAST_SEASON" = some (.int 1000000 t)
  c_BEGIN : ∃ t, mg "BEGIN" = some (.int 0 t)
  c_TICK : ∃ t, mg "TICK" = some (.int 1 t)
  c_WRITE : ∃ t, mg "WRITE" = some (.int 2 t)
  c_CLEAR : ∃ t, mg "CLEAR" = some (.int 3 t)
  c_SEND : ∃ t, mg "SEND" = some (.int 4 t)
  c_ASK : ∃ t, mg "ASK" = some (.int 5 t)
  c_DELIVER : ∃ t, mg "DELIVER" = some (.int 6 t)
  c_LOSE : ∃ t, mg "LOSE" = some (.int 7 t)
  c_DOUBLE : ∃ t, mg "DOUBLE" = some (.int 8 t)
  c_STOP : ∃ t, mg "STOP" = some (.int 9 t)
  c_START : ∃ t, mg "START" = some (.int 10 t)
  c_TELL : ∃ t, mg "TELL" = some (.int 11 t)
  c_SEE : ∃ t, mg "SEE" = some (.int 12 t)
  c_GOT : ∃ t, mg "GOT" = some (.int 13 t)
  c_UMPIRE : ∃ t, mg "UMPIRE" = some (.int 14 t)
  c_BAG : ∃ t, mg "BAG" = some (.int 15 t)
  c_HAND : ∃ t, mg "HAND" = some (.int 0 t)
  c_RECEIPT : ∃ t, mg "RECEIPT" = some (.int 1 t)
  c_QUESTION : ∃ t, mg "QUESTION" = some (.int 2 t)
  c_OPENED : ∃ t, mg "OPENED" = some (.int 3 t)
  g_NUMBERS_OF_CALL : mg "NUMBERS_OF_CALL" = some (.ref a.a_NUMBERS_OF_CALL)
  t_NUMBERS_OF_CALL : ∀ H : Hp, SqT K H a.a_NUMBERS_OF_CALL [.int 3, .int 1, .int 1, .int 1, .int 1, .int 1, .int 1, .int 1, .int 1, .int 0, .int 0, .int 1, .int 1, .int 2, .int 0, .int 0]
  g_NOTHING : mg "NOTHING" = some (.ref a.a_NOTHING)
  t_NOTHING : ∀ H : Hp, SqT K H a.a_NOTHING [.int 0]
  b_all : mg "all" = none
  b_len : mg "len" = none
  b_list : mg "list" = none
  b_range : mg "range" = none
  b_tuple : mg "tuple" = none
  cl_M : Cls K a.C.M
  g_Machine : mg "Machine" = some (.ref a.C.M)
  nM_season : NoAttr K a.C.M "season"
  nM_version : NoAttr K a.C.M "version"
  nM_acknowledged : NoAttr K a.C.M "acknowledged"
  nM_draft : NoAttr K a.C.M "draft"
  nM_rows : NoAttr K a.C.M "rows"
  mk_M : Mk K a.C.M a.f_Machine_init
  F_Machine_init : Fun K "__init__" "Machine.__init__" s_Machine_init a.f_Machine_init a.d_Machine_init
  B_Machine_init : Binds K a.d_Machine_init ["self"] []
  cl_S : Cls K a.C.S
  g_Sheet : mg "Sheet" = some (.ref a.C.S)
  nS_version : NoAttr K a.C.S "version"
  nS_written : NoAttr K a.C.S "written"
  mk_S : Mk K a.C.S a.f_Sheet_init
  F_Sheet_init : Fun K "__init__" "Sheet.__init__" s_Sheet_init a.f_Sheet_init a.d_Sheet_init
  B_Sheet_init : Binds K a.d_Sheet_init ["self"] []
  cl_U : Cls K a.C.U
  g_Umpire : mg "Umpire" = some (.ref a.C.U)
  nU_on : NoAttr K a.C.U "on"
  nU_season : NoAttr K a.C.U "season"
  nU_deadline : NoAttr K a.C.U "deadline"
  nU_sheets : NoAttr K a.C.U "sheets"
  nU_opened : NoAttr K a.C.U "opened"
  mk_U : Mk K a.C.U a.f_Umpire_init
  F_Umpire_init : Fun K "__init__" "Umpire.__init__" s_Umpire_init a.f_Umpire_init a.d_Umpire_init
  B_Umpire_init : Binds K a.d_Umpire_init ["self", "powers", "deadline"] []
  cl_X : Cls K a.C.X
  g_Message : mg "Message" = some (.ref a.C.X)
  nX_kind : NoAttr K a.C.X "kind"
  nX_power : NoAttr K a.C.X "power"
  nX_season : NoAttr K a.C.X "season"
  nX_version : NoAttr K a.C.X "version"
  nX_written : NoAttr K a.C.X "written"
  nX_row : NoAttr K a.C.X "row"
  mk_X : Mk K a.C.X a.f_Message_init
  F_Message_init : Fun K "__init__" "Message.__init__" s_Message_init a.f_Message_init a.d_Message_init
  B_Message_init : Binds K a.d_Message_init ["self", "kind", "power", "season", "version", "written", "row"] []
  cl_G : Cls K a.C.G
  g_Game : mg "Game" = some (.ref a.C.G)
  nG_begun : NoAttr K a.C.G "begun"
  nG_span : NoAttr K a.C.G "span"
  nG_room : NoAttr K a.C.G "room"
  nG_now : NoAttr K a.C.G "now"
  nG_machines : NoAttr K a.C.G "machines"
  nG_umpire : NoAttr K a.C.G "umpire"
  nG_messages : NoAttr K a.C.G "messages"
  mk_G : Mk K a.C.G a.f_Game_init
  F_Game_init : Fun K "__init__" "Game.__init__" s_Game_init a.f_Game_init a.d_Game_init
  B_Game_init : Binds K a.d_Game_init ["self"] []
  m_Game_lay_out : Meth K a.C.G "lay_out" a.f_Game_lay_out
  F_Game_lay_out : Fun K "lay_out" "Game.lay_out" s_Game_lay_out a.f_Game_lay_out a.d_Game_lay_out
  B_Game_lay_out : Binds K a.d_Game_lay_out ["self", "powers", "span", "room"] []
  F_blank_sheets : Fun K "blank_sheets" "blank_sheets" s_blank_sheets a.f_blank_sheets a.d_blank_sheets
  B_blank_sheets : Binds K a.d_blank_sheets ["powers"] []
  g_blank_sheets : mg "blank_sheets" = some (.ref a.f_blank_sheets)
  F_within : Fun K "within" "within" s_within a.f_within a.d_within
  B_within : Binds K a.d_within ["number", "least", "most"] []
  g_within : mg "within" = some (.ref a.f_within)
  F_is_text : Fun K "is_text" "is_text" s_is_text a.f_is_text a.d_is_text
  B_is_text : Binds K a.d_is_text ["numbers"] []
  g_is_text : mg "is_text" = some (.ref a.f_is_text)
  F_put : Fun K "put" "put" s_put a.f_put a.d_put
  B_put : Binds K a.d_put ["game", "message"] []
  g_put : mg "put" = some (.ref a.f_put)
  F_put_or_refuse : Fun K "put_or_refuse" "put_or_refuse" s_put_or_refuse a.f_put_or_refuse a.d_put_or_refuse
  B_put_or_refuse : Binds K a.d_put_or_refuse ["game", "message"] []
  g_put_or_refuse : mg "put_or_refuse" = some (.ref a.f_put_or_refuse)
  F_put_opened : Fun K "put_opened" "put_opened" s_put_opened a.f_put_opened a.d_put_opened
  B_put_opened : Binds K a.d_put_opened ["game", "p", "season"] []
  g_put_opened : mg "put_opened" = some (.ref a.f_put_opened)
  F_end_season_if_due : Fun K "end_season_if_due" "end_season_if_due" s_end_season_if_due a.f_end_season_if_due a.d_end_season_if_due
  B_end_season_if_due : Binds K a.d_end_season_if_due ["game"] []
  g_end_season_if_due : mg "end_season_if_due" = some (.ref a.f_end_season_if_due)
  F_bring : Fun K "bring" "bring" s_bring a.f_bring a.d_bring
  B_bring : Binds K a.d_bring ["game", "message"] []
  g_bring : mg "bring" = some (.ref a.f_bring)
  F_bring_hand : Fun K "bring_hand" "bring_hand" s_bring_hand a.f_bring_hand a.d_bring_hand
  B_bring_hand : Binds K a.d_bring_hand ["game", "hand"] []
  g_bring_hand : mg "bring_hand" = some (.ref a.f_bring_hand)
  F_bring_receipt : Fun K "bring_receipt" "bring_receipt" s_bring_receipt a.f_bring_receipt a.d_bring_receipt
  B_bring_receipt : Binds K a.d_bring_receipt ["game", "receipt"] []
  g_bring_receipt : mg "bring_receipt" = some (.ref a.f_bring_receipt)
  F_bring_question : Fun K "bring_question" "bring_question" s_bring_question a.f_bring_question a.d_bring_question
  B_bring_question : Binds K a.d_bring_question ["game", "question"] []
  g_bring_question : mg "bring_question" = some (.ref a.f_bring_question)
  F_bring_opened : Fun K "bring_opened" "bring_opened" s_bring_opened a.f_bring_opened a.d_bring_opened
  B_bring_opened : Binds K a.d_bring_opened ["game", "opened"] []
  g_bring_opened : mg "bring_opened" = some (.ref a.f_bring_opened)
  F_begin : Fun K "begin" "begin" s_begin a.f_begin a.d_begin
  B_begin : Binds K a.d_begin ["game", "powers", "span", "room"] []
  g_begin : mg "begin" = some (.ref a.f_begin)
  F_tick : Fun K "tick" "tick" s_tick a.f_tick a.d_tick
  B_tick : Binds K a.d_tick ["game", "n"] []
  g_tick : mg "tick" = some (.ref a.f_tick)
  F_write : Fun K "write" "write" s_write a.f_write a.d_write
  B_write : Binds K a.d_write ["game", "p", "text"] []
  g_write : mg "write" = some (.ref a.f_write)
  F_clear : Fun K "clear" "clear" s_clear a.f_clear a.d_clear
  B_clear : Binds K a.d_clear ["game", "p"] []
  g_clear : mg "clear" = some (.ref a.f_clear)
  F_new_draft : Fun K "new_draft" "new_draft" s_new_draft a.f_new_draft a.d_new_draft
  B_new_draft : Binds K a.d_new_draft ["machine", "written"] []
  g_new_draft : mg "new_draft" = some (.ref a.f_new_draft)
  F_send : Fun K "send" "send" s_send a.f_send a.d_send
  B_send : Binds K a.d_send ["game", "p"] []
  g_send : mg "send" = some (.ref a.f_send)
  F_ask : Fun K "ask" "ask" s_ask a.f_ask a.d_ask
  B_ask : Binds K a.d_ask ["game", "p"] []
  g_ask : mg "ask" = some (.ref a.f_ask)
  F_deliver : Fun K "deliver" "deliver" s_deliver a.f_deliver a.d_deliver
  B_deliver : Binds K a.d_deliver ["game", "i"] []
  g_deliver : mg "deliver" = some (.ref a.f_deliver)
  F_lose : Fun K "lose" "lose" s_lose a.f_lose a.d_lose
  B_lose : Binds K a.d_lose ["game", "i"] []
  g_lose : mg "lose" = some (.ref a.f_lose)
  F_double : Fun K "double" "double" s_double a.f_double a.d_double
  B_double : Binds K a.d_double ["game", "i"] []
  g_double : mg "double" = some (.ref a.f_double)
  F_stop : Fun K "stop" "stop" s_stop a.f_stop a.d_stop
  B_stop : Binds K a.d_stop ["game"] []
  g_stop : mg "stop" = some (.ref a.f_stop)
  F_start : Fun K "start" "start" s_start a.f_start a.d_start
  B_start : Binds K a.d_start ["game"] []
  g_start : mg "start" = some (.ref a.f_start)
  F_tell : Fun K "tell" "tell" s_tell a.f_tell a.d_tell
  B_tell : Binds K a.d_tell ["game", "season"] []
  g_tell : mg "tell" = some (.ref a.f_tell)
  F_see : Fun K "see" "see" s_see a.f_see a.d_see
  B_see : Binds K a.d_see ["game", "p"] []
  g_see : mg "see" = some (.ref a.f_see)
  F_got : Fun K "got" "got" s_got a.f_got a.d_got
  B_got : Binds K a.d_got ["game", "p", "season"] []
  g_got : mg "got" = some (.ref a.f_got)
  F_show_umpire : Fun K "show_umpire" "show_umpire" s_show_umpire a.f_show_umpire a.d_show_umpire
  B_show_umpire : Binds K a.d_show_umpire ["game"] []
  g_show_umpire : mg "show_umpire" = some (.ref a.f_show_umpire)
  F_show_bag : Fun K "show_bag" "show_bag" s_show_bag a.f_show_bag a.d_show_bag
  B_show_bag : Binds K a.d_show_bag ["game"] []
  g_show_bag : mg "show_bag" = some (.ref a.f_show_bag)
  F_fits : Fun K "fits" "fits" s_fits a.f_fits a.d_fits
  B_fits : Binds K a.d_fits ["game", "call", "numbers", "text"] []
  g_fits : mg "fits" = some (.ref a.f_fits)
  F_make_call : Fun K "make_call" "make_call" s_make_call a.f_make_call a.d_make_call
  B_make_call : Binds K a.d_make_call ["game", "call", "numbers", "text"] []
  g_make_call : mg "make_call" = some (.ref a.f_make_call)
  F_answer_call : Fun K "answer_call" "answer_call" s_answer_call a.f_answer_call a.d_answer_call
  B_answer_call : Binds K a.d_answer_call ["game", "call", "numbers", "text"] []
  g_answer_call : mg "answer_call" = some (.ref a.f_answer_call)
  F_answer_line : Fun K "answer_line" "answer_line" s_answer_line a.f_answer_line a.d_answer_line
  B_answer_line : Binds K a.d_answer_line ["game", "calls"] []
  g_answer_line : mg "answer_line" = some (.ref a.f_answer_line)
  F_answers : Fun K "answers" "answers" s_answers a.f_answers a.d_answers
  B_answers : Binds K a.d_answers ["calls"] []
  g_answers : mg "answers" = some (.ref a.f_answers)
end So

set_option Elab.async false
set_option linter.all false
set_option maxRecDepth 100000
set_option maxHeartbeats 4000000
namespace So
open PySem PySem.Spec PyProof.Rows L2
section
variable {P : Program} {w : World} {K : PySem.W.Frag} {mg : Str → Option Value} {base : Heap} {a : Ad}

/-! ### within -/
def spWithin : Sp := fun vs H Q _ => ∃ x lo hi : Int, vs = [.int x, .int lo, .int hi] ∧ Q (.bl (Vbsoaj.within x lo hi)) H
theorem sc_within : FnScope ["number", "least", "most"] ["number", "least", "most"] (defScope s_within) := ⟨rfl, rfl, rfl, by decide +kernel, rfl, by decide +kernel, by decide +kernel⟩
theorem ok_within (T : Txt K mg a) : FnOk P w K mg base CX0 1 a.f_within a.d_within ["number", "least", "most"] spWithin := by
  refine T.F_within.ok sc_within (fun vs H Q E h => ?_) (fun cdv A outer s H vs Q E hr h => ?_)
  · obtain ⟨x, lo, hi, rfl, _⟩ := h
    rfl
  · obtain ⟨x, lo, hi, rfl, q⟩ := h
    refine ⟨_, pss_one (ps_ret (pe_and (pe_cmpR op_le (pv 1) (pv 0) (nomark _)) (pe_one (pe_cmpR op_le (pv 0) (pv 2) (nomark _))))), ?_⟩
    refine ⟨_, rfl, _, rfl, _, _, rfl, rfl, _, rfl, ?_⟩
    unfold Vbsoaj.within at q
    by_cases h1 : lo ≤ x
    · rw [decide_eq_true h1] at q ⊢
      refine iteT ⟨_, rfl, _, rfl, _, _, rfl, rfl, ?_⟩
      rw [Bool.true_and] at q
      exact q
    · rw [decide_eq_false h1] at q ⊢
      refine iteF ?_
      rw [Bool.false_and] at q
      exact q

/-! ### a message made -/
def spMessage (C : Cl) : Sp := fun vs H Q _ => ∃ (x dx : Addr) (kd p k v : Nat) (wr row : V), vs = [.ref x, vN kd, vN p, vN k, vN v, wr, row] ∧ H x = some (.ins C.X dx []) ∧
  Q .non (upd H x (.ins C.X dx (fX kd p k v wr row)))
theorem upd_upd {H : Hp} {x : Addr} {o o' : HO} : upd (upd H x o) x o' = upd H x o' := by
  funext b
  unfold upd
  by_cases e : b = x
  · rw [if_pos e, if_pos e]
  · rw [if_neg e, if_neg e, if_neg e]
theorem sc_Message_init : FnScope ["self", "kind", "power", "season", "version", "written", "row"] ["self", "kind", "power", "season", "version", "written", "row"] (defScope s_Message_init) := ⟨rfl, rfl, rfl, by decide +kernel, rfl, by decide +kernel, by decide +kernel⟩
theorem ok_Message_init (T : Txt K mg a) : FnOk P w K mg base CX0 1 a.f_Message_init a.d_Message_init ["self", "kind", "power", "season", "version", "written", "row"] (spMessage a.C) := by
  refine T.F_Message_init.ok sc_Message_init (fun vs H Q E h => ?_) (fun cdv A0 outer s0 H vs Q E hr h => ?_)
  · obtain ⟨x, dx, kd, p, k, v, wr, row, rfl, _⟩ := h
    rfl
  · obtain ⟨x, dx, kd, p, k, v, wr, row, rfl, hx, q⟩ := h
    refine ⟨_, pss_cons (ps_fld (pv 0) (pv 1) rfl) (pss_cons (ps_fld (pv 0) (pv 2) rfl) (pss_cons (ps_fld (pv 0) (pv 3) rfl) (pss_cons (ps_fld (pv 0) (pv 4) rfl) (pss_cons (ps_fld (pv 0) (pv 5) rfl) (pss_one (ps_fld (pv 0) (pv 6) rfl)))))), ?_⟩
    refine ⟨_, rfl, _, rfl, sto hx T.cl_X T.nX_kind (by show 0 < 1000; decide) rfl ?_⟩
    refine ⟨_, rfl, _, rfl, sto upd_same T.cl_X T.nX_power (by show 1 < 1000; decide) rfl ?_⟩
    refine ⟨_, rfl, _, rfl, sto upd_same T.cl_X T.nX_season (Nat.lt_of_le_of_lt (length_putF _ _ _) (by show 1 + 1 < 1000; decide)) rfl ?_⟩
    refine ⟨_, rfl, _, rfl, sto upd_same T.cl_X T.nX_version (ltk (by kernel_rfl)) rfl ?_⟩
    refine ⟨_, rfl, _, rfl, sto upd_same T.cl_X T.nX_written (ltk (by kernel_rfl)) rfl ?_⟩
    refine ⟨_, rfl, _, rfl, sto upd_same T.cl_X T.nX_row (ltk (by kernel_rfl)) mkX ?_⟩
    rw [upd_upd, upd_upd, upd_upd, upd_upd, upd_upd]
    exact q

/-! ### put -/
def spPut (C : Cl) (K : PySem.W.Frag) : Sp := fun vs H Q _ => ∃ (A : Ro → Addr) (s : Vbsoaj.State) (x : Addr) (m : Vbsoaj.Msg), vs = [.ref (A .g), .ref x] ∧ Gm C K H A s ∧ MsgAt C K H x m ∧ s.bag.length ≤ 1000 ∧
  ∀ H', Gm C K H' A (Vbsoaj.puts s [m]) → Fx H A s.clients.length H' A s.clients.length → Q (.bl (!Vbsoaj.full s)) H'
theorem full_dec (s : Vbsoaj.State) : decide ((s.room : Int) ≤ (s.bag.length : Int)) = Vbsoaj.full s := by
  unfold Vbsoaj.full
  exact decide_eq_decide.mpr Int.ofNat_le
theorem sc_put : FnScope ["game", "message"] ["game", "message"] (defScope s_put) := ⟨rfl, rfl, rfl, by decide +kernel, rfl, by decide +kernel, by decide +kernel⟩
theorem ok_put (T : Txt K mg a) : FnOk P w K mg base CX0 2 a.f_put a.d_put ["game", "message"] (spPut a.C K) := by
  refine T.F_put.ok sc_put (fun vs H Q E h => ?_) (fun cdv A0 outer s0 H vs Q E hr h => ?_)
  · obtain ⟨A, s, x, m, rfl, _⟩ := h
    rfl
  · obtain ⟨A, s, x, m, rfl, g, hm, hz, q⟩ := h
    obtain ⟨dx, hg⟩ := g.g_
    obtain ⟨as, hb, pr⟩ := g.bl_
    refine ⟨_, pss_cons (ps_if (pt_cmpR op_ge (pe_callB call_len_seq (by rfl) T.b_len PySem.boot_len (pa_cons (pe_fld (pv 0) rfl) pa_nil)) (pe_fld (pv 0) rfl) (nomark _)) (pss_one (ps_ret pe_bl)) pss_nil)
      (pss_cons (ps_expr (pe_bm PySem.F.plainAttrs_list PySem.F.slot_list_append PySem.F.type_list_append mt_append (pe_fld (pv 0) rfl) (pa_cons (pv 1) pa_nil)))
      (pss_one (ps_ret pe_bl))), ?_⟩
    refine ⟨_, rfl, ⟨_, _, _, _, _, rfl, hg, T.cl_G, T.nG_messages, lkG_messages, ⟨_, _, rfl, .inl (SqL.of hb), _, rfl, ⟨_, _, _, _, _, rfl, hg, T.cl_G, T.nG_room, lkG_room, ⟨_, _, rfl, rfl, _, rfl, ?_⟩⟩⟩⟩⟩
    rw [List.length_map, pr_len pr]
    show if decide ((s.room : Int) ≤ (s.bag.length : Int)) = true then _ else _
    rw [full_dec]
    rw [puts_one] at q
    cases hf : Vbsoaj.full s with
    | true =>
      rw [hf, if_pos rfl] at q
      exact iteT (q H g Fx.refl)
    | false =>
      rw [hf, if_neg Bool.false_ne_true] at q
      refine iteF ⟨_, rfl, ⟨_, _, _, _, _, rfl, hg, T.cl_G, T.nG_messages, lkG_messages, ⟨.inl ⟨rfl, _, SqL.of hb⟩, _, rfl, _, _, _, rfl, rfl, hb, ?_, ?_⟩⟩⟩
      · rw [List.length_map, pr_len pr]
        exact small1000 hz
      · have e : as.map V.ref ++ [V.ref x] = (as ++ [x]).map V.ref := by rw [List.map_append]; rfl
        rw [e]
        exact q _ (g.putBl T.ne (pr_snoc hm pr)) (Fx.put (r := .bl) True.intro)

/-! ### put_or_refuse -/
/-- a message is put, or there is no room for it -/
def sent (s : Vbsoaj.State) (m : Vbsoaj.Msg) : Vbsoaj.State × List Int := if Vbsoaj.full s = true then (s, [-5]) else (Vbsoaj.puts s [m], [0])
theorem sent_clients (s : Vbsoaj.State) (m : Vbsoaj.Msg) : (sent s m).1.clients.length = s.clients.length := by
  unfold sent
  split
  · rfl
  · show (Vbsoaj.puts s [m]).clients.length = _
    rw [puts_clients]
def spSent (C : Cl) (K : PySem.W.Frag) : Sp := fun vs H Q _ => ∃ (A : Ro → Addr) (s : Vbsoaj.State) (x : Addr) (m : Vbsoaj.Msg), vs = [.ref (A .g), .ref x] ∧ Gm C K H A s ∧ MsgAt C K H x m ∧ s.bag.length ≤ 1000 ∧ Ans C K H A s (sent s m) Q
theorem sc_put_or_refuse : FnScope ["game", "message"] ["game", "message"] (defScope s_put_or_refuse) := ⟨rfl, rfl, rfl, by decide +kernel, rfl, by decide +kernel, by decide +kernel⟩
theorem ok_put_or_refuse (T : Txt K mg a) : FnOk P w K mg base CX0 3 a.f_put_or_refuse a.d_put_or_refuse ["game", "message"] (spSent a.C K) := by
  refine T.F_put_or_refuse.ok sc_put_or_refuse (fun vs H Q E h => ?_) (fun cdv A0 outer s0 H vs Q E hr h => ?_)
  · obtain ⟨A, s, x, m, rfl, _⟩ := h
    rfl
  · obtain ⟨A, s, x, m, rfl, g, hm, hz, q⟩ := h
    refine ⟨_, pss_one (ps_ret (pe_ifExp (pt_val (pe_call (ok_put T) hr rfl T.g_put T.F_put.kp T.B_put .nil pass0 (pa_cons (pv 0) (pa_cons (pv 1) pa_nil))))
      (pe_lst (pa_cons pe_int pa_nil)) (pe_lst (pa_cons (pe_cint rfl T.c_NO_ROOM) pa_nil)))), ?_⟩
    refine ⟨_, rfl, _, rfl, A, s, x, m, rfl, g, hm, hz, fun H' g' f' => ⟨_, rfl, ?_⟩⟩
    have ec := sent_clients s m
    unfold sent at q ec
    cases hf : Vbsoaj.full s with
    | true =>
      rw [hf, if_pos rfl] at q
      have e1 : Vbsoaj.puts s [m] = s := by rw [puts_one, if_pos hf]
      rw [e1] at g'
      exact iteF ⟨by show 1 ≤ sizeLine; decide, fun b hb => q.lay T.ne g' f' hb rfl (by show 1 ≤ 1000; decide)⟩
    | false =>
      rw [hf, if_neg Bool.false_ne_true] at q ec
      exact iteT ⟨by show 1 ≤ sizeLine; decide, fun b hb => q.lay T.ne g' (by rw [ec]; exact f') hb rfl (by show 1 ≤ 1000; decide)⟩
end
end So

set_option Elab.async false
set_option linter.all false
set_option maxRecDepth 100000
set_option maxHeartbeats 4000000
namespace So
open PySem PySem.Spec PyProof.Rows L2
section
variable {P : Program} {w : World} {K : PySem.W.Frag} {mg : Str → Option Value} {base : Heap} {a : Ad} {C : Cl}

/-- a message is made and put -/
theorem made_same {H1 : Hp} {x dx : Addr} {o : HO} (nx : H1 x = none) (nd : H1 dx = none) : Same H1 (upd (upd H1 dx (.own x)) x o) := fun b u e => by
  rw [upd_ne (ne_of_none e nx), upd_ne (ne_of_none e nd)]
  exact e
theorem made_put {H1 : Hp} {A : Ro → Addr} {s : Vbsoaj.State} {Q : VK} {kd p k v : Nat} {wr row : V} {m : Vbsoaj.Msg} (g : Gm C K H1 A s) (N : C.Ne) (hz : s.bag.length ≤ 1000)
    (hm : ∀ H2 x dx, Same H1 H2 → H2 x = some (.ins C.X dx (fX kd p k v wr row)) → MsgAt C K H2 x m)
    (q : ∀ H', Gm C K H' A (Vbsoaj.puts s [m]) → Fx H1 A s.clients.length H' A s.clients.length → Q (.bl (!Vbsoaj.full s)) H') :
    ∀ x dx, H1 x = none → H1 dx = none → dx ≠ x → spMessage C (.ref x :: ([vN kd, vN p, vN k, vN v, wr, row] ++ [])) (upd (upd H1 dx (.own x)) x (.ins C.X dx [])) (fun v H2 => v = .non ∧ spPut C K ([.ref (A .g), .ref x] ++ []) H2 Q E0) E0 := by
  intro x dx nx nd ne
  refine ⟨x, dx, kd, p, k, v, wr, row, rfl, upd_same, rfl, ?_⟩
  rw [upd_upd]
  have sm : Same H1 (upd (upd H1 dx (.own x)) x (.ins C.X dx (fX kd p k v wr row))) := fun b o e => by
    rw [upd_ne (ne_of_none e nx), upd_ne (ne_of_none e nd)]
    exact e
  exact ⟨A, s, x, m, rfl, g.same N sm, hm _ x dx sm upd_same, hz, fun H' g' f' => q H' g' ((Fx.same sm).trans f')⟩

/-! ### put_opened -/
def spPutOpened (C : Cl) (K : PySem.W.Frag) : Sp := fun vs H Q _ => ∃ (A : Ro → Addr) (s : Vbsoaj.State) (p k : Nat) (rows : List (Option Vbsoaj.Text)), vs = [.ref (A .g), vN p, vN k] ∧ Gm C K H A s ∧ s.opened[k]? = some rows ∧ s.bag.length ≤ 1000 ∧
  ∀ H', Gm C K H' A (Vbsoaj.puts s [.opened p k rows]) → Fx H A s.clients.length H' A s.clients.length → Q .non H'
theorem sc_put_opened : FnScope ["game", "p", "season"] ["game", "p", "season"] (defScope s_put_opened) := ⟨rfl, rfl, rfl, by decide +kernel, rfl, by decide +kernel, by decide +kernel⟩
theorem ok_put_opened (T : Txt K mg a) : FnOk P w K mg base CX0 4 a.f_put_opened a.d_put_opened ["game", "p", "season"] (spPutOpened a.C K) := by
  refine T.F_put_opened.ok sc_put_opened (fun vs H Q E h => ?_) (fun cdv A0 outer s0 H vs Q E hr h => ?_)
  · obtain ⟨A, s, p, k, rows, rfl, _⟩ := h
    rfl
  · obtain ⟨A, s, p, k, rows, rfl, g, hk, hz, q⟩ := h
    obtain ⟨dg, hg⟩ := g.g_
    obtain ⟨du, hu⟩ := g.u_
    obtain ⟨os, ho, po⟩ := g.ol_
    obtain ⟨r, hr1, hr2⟩ := pr_get po hk
    refine ⟨_, pss_one (ps_expr (pe_call (ok_put T) (hr.mono (by decide)) rfl T.g_put T.F_put.kp T.B_put .nil pass0 (pa_cons (pv 0) (pa_cons
      (pe_make T.mk_X (ok_Message_init T) (hr.mono (by decide)) rfl T.g_Message T.B_Message_init .nil pass0
        (pa_cons (pe_cint rfl T.c_OPENED) (pa_cons (pv 1) (pa_cons (pv 2) (pa_cons pe_int (pa_cons (pe_cref rfl T.g_NOTHING) (pa_cons (pe_ix ix_list (pe_fld (pe_fld (pv 0) rfl) rfl) (pv 2) (fun _ _ => rfl)) pa_nil))))))) pa_nil)))), ?_⟩
    refine ⟨_, rfl, _, rfl, _, rfl, _, rfl, ⟨_, _, _, _, _, rfl, hg, T.cl_G, T.nG_umpire, lkG_umpire, (⟨_, _, _, _, _, rfl, hu, T.cl_U, T.nU_opened, lkU_opened, ⟨_, rfl, _, _, _, V.ref r, rfl, rfl, SqL.of ho, atI_nat (by rw [List.getElem?_map, hr1]; rfl), ?_⟩⟩)⟩⟩
    refine made_put (Q := fun _ H' => Q .non H') (m := .opened p k rows) (kd := 3) (p := p) (k := k) (v := 0) g T.ne hz (fun H2 x dx sm hx => ⟨dx, _, r, hx, (Ext.same (C := a.C) sm).row hr2⟩) ?_
    exact q

/-! ### what a message does where it comes to -/
/-- the state behind a message that is brought -/
def after (s : Vbsoaj.State) (m : Vbsoaj.Msg) : Vbsoaj.State := Vbsoaj.puts (Vbsoaj.handled s m).1 (Vbsoaj.handled s m).2
def spBr (C : Cl) (K : PySem.W.Frag) (ok : Vbsoaj.Msg → Prop) : Sp := fun vs H Q _ => ∃ (A : Ro → Addr) (s : Vbsoaj.State) (x : Addr) (m : Vbsoaj.Msg), vs = [.ref (A .g), .ref x] ∧ ok m ∧ Gm C K H A s ∧ MsgAt C K H x m ∧ msgP m < s.clients.length ∧
  s.opened.length = s.season ∧ s.bag.length ≤ 1000 ∧ (∀ c ∈ s.clients, c.got.length ≤ 1000) ∧ ∀ H', Gm C K H' A (after s m) → Fx H A s.clients.length H' A s.clients.length → Q .non H'
def isHand (m : Vbsoaj.Msg) : Prop := ∃ p k v t, m = .hand p k v t
def isReceipt (m : Vbsoaj.Msg) : Prop := ∃ p k v, m = .receipt p k v
def isAsk (m : Vbsoaj.Msg) : Prop := ∃ p k, m = .ask p k
def isOpened (m : Vbsoaj.Msg) : Prop := ∃ p k rows, m = .opened p k rows

theorem getD_of {α : Type} {l : List α} {k : Nat} {x d : α} (h : l[k]? = some x) : l.getD k d = x := by
  rw [List.getD_eq_getElem?_getD, h]
  rfl
theorem get_lt {α : Type} {l : List α} {k : Nat} (h : k < l.length) : ∃ x, l[k]? = some x := ⟨_, List.getElem?_eq_getElem h⟩

theorem sc_bring_question : FnScope ["game", "question", "umpire"] ["game", "question"] (defScope s_bring_question) := ⟨rfl, rfl, rfl, by decide +kernel, rfl, by decide +kernel, by decide +kernel⟩
theorem ok_bring_question (T : Txt K mg a) : FnOk P w K mg base CX0 5 a.f_bring_question a.d_bring_question ["game", "question"] (spBr a.C K isAsk) := by
  refine T.F_bring_question.ok sc_bring_question (fun vs H Q E h => ?_) (fun cdv A0 outer s0 H vs Q E hr h => ?_)
  · obtain ⟨A, s, x, m, rfl, _⟩ := h
    rfl
  · obtain ⟨A, s, x, m, rfl, ⟨p, k, rfl⟩, g, hm, hp, hop, hz, hgz, q⟩ := h
    obtain ⟨dg, hg⟩ := g.g_
    obtain ⟨du, hu⟩ := g.u_
    obtain ⟨dx, wx, rx, hx⟩ := hm
    refine ⟨_, pss_cons (ps_set (i := 2) sc_bring_question.nd rfl (Or.inl rfl) (pe_fld (pv 0) rfl))
      (pss_one (ps_if (pw_and (pt_val (pe_fld (pv 2) rfl)) (pw_and1 (pt_cmpR op_lt (pe_fld (pv 1) rfl) (pe_fld (pv 2) rfl) (nomark _)))).pt
        (pss_one (ps_expr (pe_call (ok_put_opened T) (hr.mono (by decide)) rfl T.g_put_opened T.F_put_opened.kp T.B_put_opened .nil pass0 (pa_cons (pv 0) (pa_cons (pe_fld (pv 1) rfl) (pa_cons (pe_fld (pv 1) rfl) pa_nil)))))) pss_nil)), ?_⟩
    refine ⟨_, rfl, ⟨_, _, _, _, _, rfl, hg, T.cl_G, T.nG_umpire, lkG_umpire, ⟨_, rfl, ⟨_, _, _, _, _, rfl, hu, T.cl_U, T.nU_on, lkU_on, ⟨_, rfl, ?_⟩⟩⟩⟩⟩
    have e : after s (.ask p k) = if s.on = false ∨ s.season ≤ k then s else Vbsoaj.puts s [.opened p k (s.opened.getD k [])] := by
      unfold after Vbsoaj.handled
      dsimp only
      split <;> rfl
    rw [e] at q
    cases hon : s.on with
    | false =>
      rw [if_pos (.inl hon)] at q
      exact iteF (iteF (q H g Fx.refl))
    | true =>
      refine iteT ⟨_, rfl, ⟨_, _, _, _, _, rfl, hx, T.cl_X, T.nX_season, lkX_season, ⟨_, rfl, ⟨_, _, _, _, _, rfl, hu, T.cl_U, T.nU_season, lkU_season, ⟨_, _, rfl, rfl, _, rfl, ?_⟩⟩⟩⟩⟩
      refine ite2 (fun h1 => ?_) (fun h1 => ?_)
      · have h2 : k < s.season := Int.ofNat_lt.mp (of_decide_eq_true h1)
        obtain ⟨rows, hk⟩ := get_lt (l := s.opened) (k := k) (by rw [hop]; exact h2)
        rw [if_neg (fun z => z.elim (fun z => by rw [hon] at z; cases z) (fun z => absurd h2 (Nat.not_lt.mpr z))), getD_of hk] at q
        exact ⟨_, rfl, _, rfl, ⟨_, _, _, _, _, rfl, hx, T.cl_X, T.nX_power, lkX_power, ⟨_, rfl, ⟨_, _, _, _, _, rfl, hx, T.cl_X, T.nX_season, lkX_season, ⟨A, s, p, k, rows, rfl, g, hk, hz, q⟩⟩⟩⟩⟩
      · have h2 : ¬ k < s.season := fun z => h1 (decide_eq_true (Int.ofNat_lt.mpr z))
        rw [if_pos (.inr (Nat.not_lt.mp h2))] at q
        exact q H g Fx.refl

theorem sc_bring_receipt : FnScope ["game", "receipt", "machine"] ["game", "receipt"] (defScope s_bring_receipt) := ⟨rfl, rfl, rfl, by decide +kernel, rfl, by decide +kernel, by decide +kernel⟩
theorem int_eq_dec {i j : Nat} : (decide (vN i = vN j) = true) ↔ i = j := by
  rw [decide_eq_true_iff]
  constructor
  · intro h
    injection h with h
    exact Int.ofNat.inj h
  · intro h
    rw [h]
theorem ok_bring_receipt (T : Txt K mg a) : FnOk P w K mg base CX0 5 a.f_bring_receipt a.d_bring_receipt ["game", "receipt"] (spBr a.C K isReceipt) := by
  refine T.F_bring_receipt.ok sc_bring_receipt (fun vs H Q E h => ?_) (fun cdv A0 outer s0 H vs Q E hr h => ?_)
  · obtain ⟨A, s, x, m, rfl, _⟩ := h
    rfl
  · obtain ⟨A, s, x, m, rfl, ⟨p, k, v, rfl⟩, g, hm, hp, hop, hz, hgz, q⟩ := h
    have hp : p < s.clients.length := hp
    obtain ⟨dg, hg⟩ := g.g_
    obtain ⟨c, dm, d, hc, hmm, hd⟩ := g.m_ hp
    obtain ⟨dx, wx, rx, hx⟩ := hm
    refine ⟨_, pss_cons (ps_set (i := 2) sc_bring_receipt.nd rfl (Or.inl rfl) (pe_ix ix_list (pe_fld (pv 0) rfl) (pe_fld (pv 1) rfl) (fun _ _ => rfl)))
      (pss_one (ps_if (pw_and (pt_cmpR op_eq (pe_fld (pv 2) rfl) (pe_fld (pv 1) rfl) (nomark _)) (pw_and1 (pt_cmpR op_gt (pe_fld (pv 1) rfl) (pe_fld (pv 2) rfl) (nomark _)))).pt
        (pss_one (ps_fld (pv 2) (pe_fld (pv 1) rfl) rfl)) pss_nil)), ?_⟩
    refine ⟨_, rfl, ⟨_, _, _, _, _, rfl, hg, T.cl_G, T.nG_machines, lkG_machines, ⟨_, rfl, ⟨_, _, _, _, _, rfl, hx, T.cl_X, T.nX_power, lkX_power, ⟨_, _, _, _, rfl, rfl, SqL.of g.ml_, atI_nat (g.mAt hp), ?_⟩⟩⟩⟩⟩
    refine ⟨_, rfl, ⟨_, _, _, _, _, rfl, hmm, T.cl_M, T.nM_season, lkM_season, ⟨_, rfl, ⟨_, _, _, _, _, rfl, hx, T.cl_X, T.nX_season, lkX_season, ⟨rfl, _, rfl, ?_⟩⟩⟩⟩⟩
    have e : after s (.receipt p k v) = if c.season = k ∧ c.acked < v then Vbsoaj.setClient s p { c with acked := v } else s := by
      unfold after Vbsoaj.handled
      dsimp only
      rw [clientAt_of hc]
      split <;> rfl
    rw [e] at q
    refine ite2 (fun h1 => ?_) (fun h1 => ?_)
    · have h1 := int_eq_dec.mp h1
      refine ⟨_, rfl, ⟨_, _, _, _, _, rfl, hx, T.cl_X, T.nX_version, lkX_version, ⟨_, rfl, ⟨_, _, _, _, _, rfl, hmm, T.cl_M, T.nM_acknowledged, lkM_acknowledged, ⟨_, _, rfl, rfl, _, rfl, ?_⟩⟩⟩⟩⟩
      refine ite2 (fun h2 => ?_) (fun h2 => ?_)
      · have h2 : c.acked < v := Int.ofNat_lt.mp (of_decide_eq_true h2)
        rw [if_pos ⟨h1, h2⟩] at q
        refine ⟨_, rfl, ⟨_, _, _, _, _, rfl, hx, T.cl_X, T.nX_version, lkX_version, ⟨_, rfl, sto hmm T.cl_M T.nM_acknowledged lenM pfM_acknowledged ?_⟩⟩⟩
        exact q _ (g.putM T.ne hp (c' := { c with acked := v }) hc rfl hd) (Fx.put (show Ok s.clients.length (.m p) from hp))
      · have h2 : ¬ c.acked < v := fun z => h2 (decide_eq_true (Int.ofNat_lt.mpr z))
        rw [if_neg (fun z => h2 z.2)] at q
        exact q H g Fx.refl
    · have h1 : ¬ c.season = k := fun z => h1 (int_eq_dec.mpr z)
      rw [if_neg (fun z => h1 z.1)] at q
      exact iteF (q H g Fx.refl)

theorem sc_bring_opened : FnScope ["game", "opened", "machine"] ["game", "opened"] (defScope s_bring_opened) := ⟨rfl, rfl, rfl, by decide +kernel, rfl, by decide +kernel, by decide +kernel⟩
theorem setClient_twice (s : Vbsoaj.State) (i : Nat) (c c' : Vbsoaj.Client) : Vbsoaj.setClient (Vbsoaj.setClient s i c) i c' = Vbsoaj.setClient s i c' := by
  unfold Vbsoaj.setClient
  rw [List.set_set]
theorem ok_bring_opened (T : Txt K mg a) : FnOk P w K mg base CX0 5 a.f_bring_opened a.d_bring_opened ["game", "opened"] (spBr a.C K isOpened) := by
  refine T.F_bring_opened.ok sc_bring_opened (fun vs H Q E h => ?_) (fun cdv A0 outer s0 H vs Q E hr h => ?_)
  · obtain ⟨A, s, x, m, rfl, _⟩ := h
    rfl
  · obtain ⟨A, s, x, m, rfl, ⟨p, k, rows, rfl⟩, g, hm, hp, hop, hz, hgz, q⟩ := h
    have hp : p < s.clients.length := hp
    obtain ⟨dg, hg⟩ := g.g_
    obtain ⟨c, dm, d, hc, hmm, hd⟩ := g.m_ hp
    obtain ⟨c2, rs, hc2, hrl, prs⟩ := g.r_ hp
    have ec : c2 = c := Option.some.inj (hc2.symm.trans hc)
    subst ec
    obtain ⟨dx, wx, rx, hx, hrow⟩ := hm
    refine ⟨_, pss_cons (ps_set (i := 2) sc_bring_opened.nd rfl (Or.inl rfl) (pe_ix ix_list (pe_fld (pv 0) rfl) (pe_fld (pv 1) rfl) (fun _ _ => rfl)))
      (pss_one (ps_if (pt_cmpR op_eq (pe_fld (pv 2) rfl) (pe_fld (pv 1) rfl) (nomark _))
        (pss_cons (ps_expr (pe_bm PySem.F.plainAttrs_list PySem.F.slot_list_append PySem.F.type_list_append mt_append (pe_fld (pv 2) rfl) (pa_cons (pe_fld (pv 1) rfl) pa_nil)))
        (pss_cons (ps_fld (pv 2) (pe_op op_add (pe_fld (pv 2) rfl) pe_int) rfl) (pss_one (ps_fld (pv 2) pe_non rfl)))) pss_nil)), ?_⟩
    refine ⟨_, rfl, ⟨_, _, _, _, _, rfl, hg, T.cl_G, T.nG_machines, lkG_machines, ⟨_, rfl, ⟨_, _, _, _, _, rfl, hx, T.cl_X, T.nX_power, lkX_power, ⟨_, _, _, _, rfl, rfl, SqL.of g.ml_, atI_nat (g.mAt hp), ?_⟩⟩⟩⟩⟩
    refine ⟨_, rfl, ⟨_, _, _, _, _, rfl, hmm, T.cl_M, T.nM_season, lkM_season, ⟨_, rfl, ⟨_, _, _, _, _, rfl, hx, T.cl_X, T.nX_season, lkX_season, ⟨rfl, _, rfl, ?_⟩⟩⟩⟩⟩
    have e : after s (.opened p k rows) = if c2.season = k then Vbsoaj.setClient s p { c2 with season := k + 1, draft := none, got := c2.got ++ [rows] } else s := by
      unfold after Vbsoaj.handled
      dsimp only
      rw [clientAt_of hc]
      split <;> rfl
    rw [e] at q
    refine ite2 (fun h1 => ?_) (fun h1 => ?_)
    · have h1 := int_eq_dec.mp h1
      rw [if_pos h1] at q
      have hlen : (rs.map V.ref).length < sizeLine := by
        rw [List.length_map, pr_len prs]
        exact small1000 (hgz c2 (List.mem_of_getElem? hc))
      refine ⟨_, rfl, ⟨_, _, _, _, _, rfl, hmm, T.cl_M, T.nM_rows, lkM_rows, ⟨.inl ⟨rfl, _, SqL.of hrl⟩, _, rfl, ⟨_, _, _, _, _, rfl, hx, T.cl_X, T.nX_row, lkX_row, ⟨_, _, _, rfl, rfl, hrl, hlen, ?_⟩⟩⟩⟩⟩
      have e2 : rs.map V.ref ++ [V.ref rx] = (rs ++ [rx]).map V.ref := by rw [List.map_append]; rfl
      rw [e2]
      have okr : Ok s.clients.length (.r p) := hp
      have okm : Ok s.clients.length (.m p) := hp
      have g1 := g.putR T.ne hp hc (pr_snoc hrow prs)
      have nmr : A (.m p) ≠ A (.r p) := fun z => by have := g.inj (.m p) (.r p) okm okr z; cases this
      have f1 : Fx H A s.clients.length (upd H (A (.r p)) (.lst ((rs ++ [rx]).map V.ref))) A s.clients.length := Fx.put okr
      have hm1 : upd H (A (.r p)) (.lst ((rs ++ [rx]).map V.ref)) (A (.m p)) = some (.ins a.C.M dm (fM c2.season c2.version c2.acked d (A (.r p)))) := by rw [upd_ne nmr]; exact hmm
      refine ⟨_, rfl, ⟨_, _, _, _, _, rfl, hm1, T.cl_M, T.nM_season, lkM_season, ⟨_, _, rfl, rfl, _, rfl, sto hm1 T.cl_M T.nM_season lenM (pfM_season (se' := c2.season + 1)) ?_⟩⟩⟩
      refine ⟨_, rfl, sto upd_same T.cl_M T.nM_draft lenM pfM_draft ?_⟩
      rw [upd_upd]
      have hp' : p < (Vbsoaj.setClient s p { c2 with got := c2.got ++ [rows] }).clients.length := by
        unfold Vbsoaj.setClient
        show p < (s.clients.set p _).length
        rw [List.length_set]
        exact hp
      have g2 := g1.putM T.ne (dx := dm) (d := V.non) hp' (c' := { c2 with season := c2.season + 1, draft := none, got := c2.got ++ [rows] }) (set_self _ hp) rfl rfl
      rw [setClient_twice] at g2
      rw [h1] at g2 ⊢
      exact q _ g2 (f1.trans (Fx.put okm))
    · have h1 : ¬ c2.season = k := fun z => h1 (int_eq_dec.mpr z)
      rw [if_neg h1] at q
      exact q H g Fx.refl
end
end So

set_option Elab.async false
set_option linter.all false
set_option maxRecDepth 100000
set_option maxHeartbeats 4000000
namespace So
open PySem PySem.Spec PyProof.Rows L2
section
variable {P : Program} {w : World} {K : PySem.W.Frag} {mg : Str → Option Value} {base : Heap} {a : Ad} {C : Cl}

theorem sc_bring_hand : FnScope ["game", "hand", "umpire", "sheet"] ["game", "hand"] (defScope s_bring_hand) := ⟨rfl, rfl, rfl, by decide +kernel, rfl, by decide +kernel, by decide +kernel⟩
theorem ok_bring_hand (T : Txt K mg a) : FnOk P w K mg base CX0 5 a.f_bring_hand a.d_bring_hand ["game", "hand"] (spBr a.C K isHand) := by
  refine T.F_bring_hand.ok sc_bring_hand (fun vs H Q E h => ?_) (fun cdv A0 outer s0 H vs Q E hr h => ?_)
  · obtain ⟨A, s, x, m, rfl, _⟩ := h
    rfl
  · obtain ⟨A, s, x, m, rfl, ⟨p, k, v, t, rfl⟩, g, hm, hp, hop, hz, hgz, q⟩ := h
    have hp : p < s.clients.length := hp
    obtain ⟨dg, hg⟩ := g.g_
    obtain ⟨du, hu⟩ := g.u_
    obtain ⟨y, ds, ws, hy, hs, hws⟩ := g.s_ hp
    obtain ⟨dx, wx, rx, hx, hw⟩ := hm
    refine ⟨_, pss_cons (ps_set (i := 2) sc_bring_hand.nd rfl (Or.inl rfl) (pe_fld (pv 0) rfl))
      (pss_cons (ps_if (pt_not (pt_val (pe_fld (pv 2) rfl))) (pss_one ps_retN) pss_nil)
      (pss_cons (ps_if (pt_cmpR op_lt (pe_fld (pv 1) rfl) (pe_fld (pv 2) rfl) (nomark _))
        (pss_cons (ps_expr (pe_call (ok_put_opened T) (hr.mono (by decide)) rfl T.g_put_opened T.F_put_opened.kp T.B_put_opened .nil pass0 (pa_cons (pv 0) (pa_cons (pe_fld (pv 1) rfl) (pa_cons (pe_fld (pv 1) rfl) pa_nil))))) (pss_one ps_retN)) pss_nil)
      (pss_cons (ps_set (i := 3) sc_bring_hand.nd rfl (Or.inl rfl) (pe_ix ix_list (pe_fld (pv 2) rfl) (pe_fld (pv 1) rfl) (fun _ _ => rfl)))
      (pss_cons (ps_if (pt_cmpR op_gt (pe_fld (pv 1) rfl) (pe_fld (pv 3) rfl) (nomark _))
        (pss_cons (ps_fld (pv 3) (pe_fld (pv 1) rfl) rfl) (pss_one (ps_fld (pv 3) (pe_fld (pv 1) rfl) rfl))) pss_nil)
      (pss_one (ps_expr (pe_call (ok_put T) (hr.mono (by decide)) rfl T.g_put T.F_put.kp T.B_put .nil pass0 (pa_cons (pv 0) (pa_cons
        (pe_make T.mk_X (ok_Message_init T) (hr.mono (by decide)) rfl T.g_Message T.B_Message_init .nil pass0
          (pa_cons (pe_cint rfl T.c_RECEIPT) (pa_cons (pe_fld (pv 1) rfl) (pa_cons (pe_fld (pv 1) rfl) (pa_cons (pe_fld (pv 3) rfl) (pa_cons (pe_cref rfl T.g_NOTHING) (pa_cons (pe_tup pa_nil) pa_nil))))))) pa_nil))))))))), ?_⟩
    refine ⟨_, rfl, ⟨_, _, _, _, _, rfl, hg, T.cl_G, T.nG_umpire, lkG_umpire, ⟨_, rfl, ⟨_, _, _, _, _, rfl, hu, T.cl_U, T.nU_on, lkU_on, ⟨_, rfl, ?_⟩⟩⟩⟩⟩
    have e : after s (.hand p k v t) = if s.on = false then s else if k < s.season then Vbsoaj.puts s [.opened p k (s.opened.getD k [])] else
        if y.version < v then Vbsoaj.puts (Vbsoaj.setSheet s p { version := v, text := t }) [.receipt p k v] else Vbsoaj.puts s [.receipt p k y.version] := by
      unfold after Vbsoaj.handled
      dsimp only
      rw [sheetAt_of hy]
      split
      · rfl
      · split
        · rfl
        · split <;> rfl
    rw [e] at q
    cases hon : s.on with
    | false =>
      rw [if_pos hon] at q
      exact iteT (q H g Fx.refl)
    | true =>
      rw [if_neg (by rw [hon]; decide)] at q
      refine iteF ⟨_, rfl, ⟨_, _, _, _, _, rfl, hx, T.cl_X, T.nX_season, lkX_season, ⟨_, rfl, ⟨_, _, _, _, _, rfl, hu, T.cl_U, T.nU_season, lkU_season, ⟨_, _, rfl, rfl, _, rfl, ?_⟩⟩⟩⟩⟩
      refine ite2 (fun h1 => ?_) (fun h1 => ?_)
      · have h2 : k < s.season := Int.ofNat_lt.mp (of_decide_eq_true h1)
        obtain ⟨rows, hk⟩ := get_lt (l := s.opened) (k := k) (by rw [hop]; exact h2)
        rw [if_pos h2, getD_of hk] at q
        exact ⟨_, rfl, _, rfl, ⟨_, _, _, _, _, rfl, hx, T.cl_X, T.nX_power, lkX_power, ⟨_, rfl, ⟨_, _, _, _, _, rfl, hx, T.cl_X, T.nX_season, lkX_season, ⟨A, s, p, k, rows, rfl, g, hk, hz, q⟩⟩⟩⟩⟩
      · have h2 : ¬ k < s.season := fun z => h1 (decide_eq_true (Int.ofNat_lt.mpr z))
        rw [if_neg h2] at q
        refine ⟨_, rfl, ⟨_, _, _, _, _, rfl, hu, T.cl_U, T.nU_sheets, lkU_sheets, ⟨_, rfl, ⟨_, _, _, _, _, rfl, hx, T.cl_X, T.nX_power, lkX_power, ⟨_, _, _, _, rfl, rfl, SqL.of g.sl_, atI_nat (g.sAt hp), ?_⟩⟩⟩⟩⟩
        refine ⟨_, rfl, ⟨_, _, _, _, _, rfl, hx, T.cl_X, T.nX_version, lkX_version, ⟨_, rfl, ⟨_, _, _, _, _, rfl, hs, T.cl_S, T.nS_version, lkS_version, ⟨_, _, rfl, rfl, _, rfl, ?_⟩⟩⟩⟩⟩
        have oks : Ok s.clients.length (.s p) := hp
        refine ite2 (fun h3 => ?_) (fun h3 => ?_)
        · have h3 : y.version < v := Int.ofNat_lt.mp (of_decide_eq_true h3)
          rw [if_pos h3] at q
          refine ⟨_, rfl, ⟨_, _, _, _, _, rfl, hx, T.cl_X, T.nX_version, lkX_version, ⟨_, rfl, sto hs T.cl_S T.nS_version lenS pfS_version ?_⟩⟩⟩
          have nx : ∀ o, upd H (A (.s p)) o x = some (.ins a.C.X dx (fX 0 p k v (.ref wx) rx)) := fun o => by
            rw [upd_ne]
            · exact hx
            · intro z
              exact g.notOwnI T.ne hx rfl ⟨.s p, oks, z.symm⟩
          refine ⟨_, rfl, ⟨_, _, _, _, _, rfl, (nx _), T.cl_X, T.nX_written, lkX_written, ⟨_, rfl, sto upd_same T.cl_S T.nS_written lenS pfS_written ?_⟩⟩⟩
          rw [upd_upd]
          have g1 := g.putS T.ne hp (x' := { version := v, text := t }) (dx := ds) hw
          have f1 : Fx H A s.clients.length (upd H (A (.s p)) (.ins a.C.S ds (fS v wx))) A s.clients.length := Fx.put oks
          refine ⟨_, rfl, _, rfl, ⟨_, _, _, _, _, rfl, (nx _), T.cl_X, T.nX_power, lkX_power, ⟨_, rfl, ⟨_, _, _, _, _, rfl, (nx _), T.cl_X, T.nX_season, lkX_season, ⟨_, rfl, ⟨_, _, _, _, _, rfl, upd_same, T.cl_S, T.nS_version, lkS_version, ⟨by show 0 ≤ sizeLine; decide, fun e0 he0 => ?_⟩⟩⟩⟩⟩⟩⟩
          have sm := same_new (o := HO.tup []) he0
          refine made_put (Q := fun _ H' => Q .non H') (m := .receipt p k v) (kd := 1) (p := p) (k := k) (v := v) (g1.same T.ne sm) T.ne hz (fun H2 x dx sm hx => ⟨dx, _, _, hx⟩) ?_
          exact fun H' g' f' => q H' g' (f1.trans ((Fx.same sm).trans f'))
        · have h3 : ¬ y.version < v := fun z => h3 (decide_eq_true (Int.ofNat_lt.mpr z))
          rw [if_neg h3] at q
          refine ⟨_, rfl, _, rfl, ⟨_, _, _, _, _, rfl, hx, T.cl_X, T.nX_power, lkX_power, ⟨_, rfl, ⟨_, _, _, _, _, rfl, hx, T.cl_X, T.nX_season, lkX_season, ⟨_, rfl, ⟨_, _, _, _, _, rfl, hs, T.cl_S, T.nS_version, lkS_version, ⟨by show 0 ≤ sizeLine; decide, fun e0 he0 => ?_⟩⟩⟩⟩⟩⟩⟩
          have sm := same_new (o := HO.tup []) he0
          refine made_put (Q := fun _ H' => Q .non H') (m := .receipt p k y.version) (kd := 1) (p := p) (k := k) (v := y.version) (g.same T.ne sm) T.ne hz (fun H2 x dx sm hx => ⟨dx, _, _, hx⟩) ?_
          exact fun H' g' f' => q H' g' ((Fx.same sm).trans f')

theorem sc_bring : FnScope ["game", "message"] ["game", "message"] (defScope s_bring) := ⟨rfl, rfl, rfl, by decide +kernel, rfl, by decide +kernel, by decide +kernel⟩
theorem ok_bring (T : Txt K mg a) : FnOk P w K mg base CX0 6 a.f_bring a.d_bring ["game", "message"] (spBr a.C K fun _ => True) := by
  refine T.F_bring.ok sc_bring (fun vs H Q E h => ?_) (fun cdv A0 outer s0 H vs Q E hr h => ?_)
  · obtain ⟨A, s, x, m, rfl, _⟩ := h
    rfl
  · obtain ⟨A, s, x, m, rfl, _, g, hm, hp, hop, hz, hgz, q⟩ := h
    refine ⟨_, pss_one (ps_if (pt_cmpR op_eq (pe_fld (pv 1) rfl) (pe_cint rfl T.c_HAND) (nomark _)) (pss_one (ps_expr (pe_call (ok_bring_hand T) hr rfl T.g_bring_hand T.F_bring_hand.kp T.B_bring_hand .nil pass0 (pa_cons (pv 0) (pa_cons (pv 1) pa_nil)))))
      (pss_one (ps_if (pt_cmpR op_eq (pe_fld (pv 1) rfl) (pe_cint rfl T.c_RECEIPT) (nomark _)) (pss_one (ps_expr (pe_call (ok_bring_receipt T) hr rfl T.g_bring_receipt T.F_bring_receipt.kp T.B_bring_receipt .nil pass0 (pa_cons (pv 0) (pa_cons (pv 1) pa_nil)))))
      (pss_one (ps_if (pt_cmpR op_eq (pe_fld (pv 1) rfl) (pe_cint rfl T.c_QUESTION) (nomark _)) (pss_one (ps_expr (pe_call (ok_bring_question T) hr rfl T.g_bring_question T.F_bring_question.kp T.B_bring_question .nil pass0 (pa_cons (pv 0) (pa_cons (pv 1) pa_nil)))))
      (pss_one (ps_expr (pe_call (ok_bring_opened T) hr rfl T.g_bring_opened T.F_bring_opened.kp T.B_bring_opened .nil pass0 (pa_cons (pv 0) (pa_cons (pv 1) pa_nil)))))))))), ?_⟩
    cases m with
    | hand p k v t =>
      obtain ⟨dx, wx, rx, hx, hw⟩ := id hm
      refine ⟨_, rfl, ⟨_, _, _, _, _, rfl, hx, T.cl_X, T.nX_kind, lkX_kind, ⟨rfl, _, rfl, ?_⟩⟩⟩
      exact iteT ⟨_, rfl, _, rfl, A, s, x, _, rfl, ⟨p, k, v, t, rfl⟩, g, hm, hp, hop, hz, hgz, q⟩
    | receipt p k v =>
      obtain ⟨dx, wx, rx, hx⟩ := id hm
      refine ⟨_, rfl, ⟨_, _, _, _, _, rfl, hx, T.cl_X, T.nX_kind, lkX_kind, ⟨rfl, _, rfl, ?_⟩⟩⟩
      refine iteF ⟨_, rfl, ⟨_, _, _, _, _, rfl, hx, T.cl_X, T.nX_kind, lkX_kind, ⟨rfl, _, rfl, ?_⟩⟩⟩
      exact iteT ⟨_, rfl, _, rfl, A, s, x, _, rfl, ⟨p, k, v, rfl⟩, g, hm, hp, hop, hz, hgz, q⟩
    | ask p k =>
      obtain ⟨dx, wx, rx, hx⟩ := id hm
      refine ⟨_, rfl, ⟨_, _, _, _, _, rfl, hx, T.cl_X, T.nX_kind, lkX_kind, ⟨rfl, _, rfl, ?_⟩⟩⟩
      refine iteF ⟨_, rfl, ⟨_, _, _, _, _, rfl, hx, T.cl_X, T.nX_kind, lkX_kind, ⟨rfl, _, rfl, ?_⟩⟩⟩
      refine iteF ⟨_, rfl, ⟨_, _, _, _, _, rfl, hx, T.cl_X, T.nX_kind, lkX_kind, ⟨rfl, _, rfl, ?_⟩⟩⟩
      exact iteT ⟨_, rfl, _, rfl, A, s, x, _, rfl, ⟨p, k, rfl⟩, g, hm, hp, hop, hz, hgz, q⟩
    | opened p k rows =>
      obtain ⟨dx, wx, rx, hx, hw⟩ := id hm
      refine ⟨_, rfl, ⟨_, _, _, _, _, rfl, hx, T.cl_X, T.nX_kind, lkX_kind, ⟨rfl, _, rfl, ?_⟩⟩⟩
      refine iteF ⟨_, rfl, ⟨_, _, _, _, _, rfl, hx, T.cl_X, T.nX_kind, lkX_kind, ⟨rfl, _, rfl, ?_⟩⟩⟩
      refine iteF ⟨_, rfl, ⟨_, _, _, _, _, rfl, hx, T.cl_X, T.nX_kind, lkX_kind, ⟨rfl, _, rfl, ?_⟩⟩⟩
      exact iteF ⟨_, rfl, _, rfl, A, s, x, _, rfl, ⟨p, k, rows, rfl⟩, g, hm, hp, hop, hz, hgz, q⟩
end
end So

set_option Elab.async false
set_option linter.all false
set_option maxRecDepth 100000
set_option maxHeartbeats 4000000
namespace So
open PySem PySem.Spec PyProof.Rows L2

section
variable {P : Program} {w : World} {K : PySem.W.Frag} {mg : Str → Option Value} {base : Heap} {a : Ad} {C : Cl}

/-! ### is_text -/
def spIsText (K : PySem.W.Frag) : Sp := fun vs H Q _ => ∃ (l : Addr) (ns : List Int), vs = [.ref l] ∧ SqL K H l (ns.map V.int) ∧ ns.length ≤ 100000 ∧ ∀ H', Same H H' → Q (.bl (Vbsoaj.isText ns)) H'
theorem sc_is_text : FnScope ["numbers", "number"] ["numbers"] (defScope s_is_text) := ⟨rfl, rfl, rfl, by decide +kernel, rfl, by decide +kernel, by decide +kernel⟩
theorem take_snoc {α : Type} : ∀ {l : List α} {i : Nat} {x : α}, l[i]? = some x → l.take (i + 1) = l.take i ++ [x]
  | [], i, x, h => by simp at h
  | b :: l, 0, x, h => by
    have e : b = x := Option.some.inj h
    subst e
    rfl
  | b :: l, i + 1, x, h => by
    have ih := take_snoc (l := l) (i := i) (x := x) h
    show b :: l.take (i + 1) = b :: l.take i ++ [x]
    rw [ih]
    rfl
theorem ok_is_text (T : Txt K mg a) : FnOk P w K mg base CX0 2 a.f_is_text a.d_is_text ["numbers"] (spIsText K) := by
  refine T.F_is_text.ok sc_is_text (fun vs H Q E h => ?_) (fun cdv A0 outer s0 H vs Q E hr h => ?_)
  · obtain ⟨l, ns, rfl, _⟩ := h
    rfl
  · obtain ⟨l, ns, rfl, hl, hz, q⟩ := h
    refine ⟨_, pss_one (ps_ret (pe_and (pe_cmpR op_le (pe_callB call_len_seq (by rfl) T.b_len PySem.boot_len (pa_cons (pv 0) pa_nil)) (pe_cint rfl T.c_LONGEST_TEXT) (nomark _))
      (pe_one (pe_callB (cr_all rfl) (by rfl) T.b_all (by decide +kernel) (pa_cons (pe_lc rfl sc_is_text.nd (pi_list (pv 0)) (own := [("number", 1)]) (blkOk_by (by kernel_rfl)) (fun _ _ _ _ _ => pg_name (i := 1) sc_is_text.nd rfl (Or.inl rfl)) (fun _ _ _ _ _ => pts_nil)
        (fun _ _ _ _ _ => pe_call (ok_within T) hr rfl T.g_within T.F_within.kp T.B_within .nil pass0 (pa_cons (pv 1) (pa_cons pe_int (pa_cons (pe_cint rfl T.c_GREATEST_SIGN) pa_nil))))) pa_nil))))), ?_⟩
    refine ⟨_, rfl, _, _, rfl, .inl hl, _, _, rfl, rfl, _, rfl, ?_⟩
    unfold Vbsoaj.isText at q
    rw [List.length_map]
    have e : decide ((ns.length : Int) ≤ 120) = decide (ns.length ≤ 120) := decide_eq_decide.mpr (by omega)
    rw [e]
    by_cases h1 : ns.length ≤ 120
    · rw [decide_eq_true h1] at q ⊢
      rw [Bool.true_and] at q
      refine iteT ⟨_, rfl, l, rfl, ⟨_, hl⟩, fun D hD => ?_⟩
      have sm : ∀ o, Same H (upd H D o) := fun o => same_new hD
      refine lc_list (K := K) (a := l) (xs := ns.map V.int) (fun i H' => H' = upd H D (.lst (((ns.take i).map fun b => Vbsoaj.within b 0 255).map V.bl))) rfl (fun i H' _ e => by subst e; exact (sm _).seq hl) (fun i x H' hx e => ?_) (fun H' e => ?_)
      · subst e
        rw [List.getElem?_map] at hx
        cases en : ns[i]? with
        | none => rw [en] at hx; cases hx
        | some z =>
          rw [en] at hx
          have ex : V.int z = x := Option.some.inj hx
          subst ex
          refine ⟨rfl, _, rfl, z, 0, 255, rfl, _, upd_same, ?_, ?_⟩
          · rw [List.length_map, List.length_map, List.length_take]
            exact line_big (Nat.le_trans (Nat.le_trans (Nat.min_le_right _ _) hz) (by decide))
          · rw [upd_upd, take_snoc en, List.map_append, List.map_append]
            rfl
      · subst e
        refine ⟨D, ns.map fun b => Vbsoaj.within b 0 255, rfl, SqL.of (by rw [upd_same, List.length_map, List.take_length]), ?_⟩
        rw [List.all_map]
        exact q _ (sm _)
    · rw [decide_eq_false h1] at q ⊢
      rw [Bool.false_and] at q
      exact iteF (q H (Same.refl H))

/-! ### write, clear -/
def spNewDraft (C : Cl) (K : PySem.W.Frag) : Sp := fun vs H Q _ => ∃ (A : Ro → Addr) (s : Vbsoaj.State) (p : Nat) (wr : Addr) (t : Option Vbsoaj.Text), vs = [.ref (A (.m p)), .ref wr] ∧ Gm C K H A s ∧ p < s.clients.length ∧ Wr K H wr t ∧
  Ans C K H A s (Vbsoaj.written s p t) Q
theorem sc_new_draft : FnScope ["machine", "written"] ["machine", "written"] (defScope s_new_draft) := ⟨rfl, rfl, rfl, by decide +kernel, rfl, by decide +kernel, by decide +kernel⟩
theorem ok_new_draft (T : Txt K mg a) : FnOk P w K mg base CX0 1 a.f_new_draft a.d_new_draft ["machine", "written"] (spNewDraft a.C K) := by
  refine T.F_new_draft.ok sc_new_draft (fun vs H Q E h => ?_) (fun cdv A0 outer s0 H vs Q E hr h => ?_)
  · obtain ⟨A, s, p, wr, t, rfl, _⟩ := h
    rfl
  · obtain ⟨A, s, p, wr, t, rfl, g, hp, hw, q⟩ := h
    obtain ⟨c, dm, d, hc, hmm, hd⟩ := g.m_ hp
    refine ⟨_, pss_cons (ps_fld (pv 0) (pe_op op_add (pe_fld (pv 0) rfl) pe_int) rfl) (pss_cons (ps_fld (pv 0) (pv 1) rfl) (pss_one (ps_ret (pe_lst (pa_cons (pe_fld (pv 0) rfl) pa_nil))))), ?_⟩
    refine ⟨_, rfl, ⟨_, _, _, _, _, rfl, hmm, T.cl_M, T.nM_version, lkM_version, ⟨_, _, rfl, rfl, _, rfl, sto hmm T.cl_M T.nM_version lenM (pfM_version (ve' := c.version + 1)) ?_⟩⟩⟩
    refine ⟨_, rfl, _, rfl, sto upd_same T.cl_M T.nM_draft lenM pfM_draft ?_⟩
    rw [upd_upd]
    refine ⟨_, rfl, ⟨_, _, _, _, _, rfl, upd_same, T.cl_M, T.nM_version, lkM_version, ⟨by show 1 ≤ sizeLine; decide, fun l hl => ?_⟩⟩⟩
    have g1 := g.putM T.ne (dx := dm) (d := .ref wr) hp (c' := { c with version := c.version + 1, draft := some t }) hc rfl ⟨wr, rfl, hw⟩
    have e : Vbsoaj.written s p t = (Vbsoaj.setClient s p { c with version := c.version + 1, draft := some t }, Vbsoaj.ints [c.version + 1]) := by
      unfold Vbsoaj.written
      rw [clientAt_of hc]
    rw [e] at q
    have en : (Vbsoaj.setClient s p { c with version := c.version + 1, draft := some t }).clients.length = s.clients.length := List.length_set ..
    refine q.lay T.ne g1 (by rw [en]; exact Fx.put (show Ok s.clients.length (.m p) from hp)) hl rfl (by show 1 ≤ 1000; decide)

/-- a call with one number, in its range -/
def spD (C : Cl) (K : PySem.W.Frag) (mk : Int → Vbsoaj.Call) : Sp := fun vs H Q _ => ∃ (A : Ro → Addr) (s : Vbsoaj.State) (p : Int) (t : Nat), vs = [.ref (A .g), .int p] ∧ Gm C K H A s ∧ W t s ∧ t ≤ 200 ∧ Vbsoaj.inRange s (mk p) = true ∧ Ans C K H A s (Vbsoaj.does s (mk p)) Q
def spWrite (C : Cl) (K : PySem.W.Frag) : Sp := fun vs H Q _ => ∃ (A : Ro → Addr) (s : Vbsoaj.State) (p : Int) (l : Addr) (ns : List Int), vs = [.ref (A .g), .int p, .ref l] ∧ Gm C K H A s ∧ H l = some (.lst (ns.map V.int)) ∧ Vbsoaj.inRange s (.write p ns) = true ∧
  Ans C K H A s (Vbsoaj.does s (.write p ns)) Q
theorem sc_write : FnScope ["game", "p", "text"] ["game", "p", "text"] (defScope s_write) := ⟨rfl, rfl, rfl, by decide +kernel, rfl, by decide +kernel, by decide +kernel⟩
theorem textNums {ns : List Int} (h : Vbsoaj.isText ns = true) : (Vbsoaj.textNumbers (some (Vbsoaj.nats ns))).map vN = [V.int 1, V.int (ns.length : Int)] ++ ns.map V.int := by
  unfold Vbsoaj.isText at h
  rw [Bool.and_eq_true, List.all_eq_true] at h
  unfold Vbsoaj.textNumbers Vbsoaj.nats
  show [vN 1, vN (ns.map Int.toNat).length] ++ (ns.map Int.toNat).map vN = _
  rw [List.length_map, List.map_map]
  congr 1
  refine List.map_congr_left fun x hx => ?_
  have hb := h.2 x hx
  unfold Vbsoaj.within at hb
  rw [Bool.and_eq_true, decide_eq_true_iff, decide_eq_true_iff] at hb
  show V.int ((x.toNat : Nat) : Int) = V.int x
  congr 1
  omega
theorem power_of {s : Vbsoaj.State} {p : Int} (h : Vbsoaj.isPower s p = true) : ∃ n : Nat, p = (n : Int) ∧ n < s.clients.length := by
  obtain ⟨h0, h1⟩ := (isPower_iff s p).mp h
  exact ⟨p.toNat, by omega, by omega⟩
theorem message_of {s : Vbsoaj.State} {p : Int} (h : Vbsoaj.isK s p = true) : ∃ n : Nat, p = (n : Int) ∧ n < s.bag.length := by
  obtain ⟨h0, h1⟩ := (isK_iff s p).mp h
  exact ⟨p.toNat, by omega, by omega⟩
theorem ok_write (T : Txt K mg a) : FnOk P w K mg base CX0 2 a.f_write a.d_write ["game", "p", "text"] (spWrite a.C K) := by
  refine T.F_write.ok sc_write (fun vs H Q E h => ?_) (fun cdv A0 outer s0 H vs Q E hr h => ?_)
  · obtain ⟨A, s, p, l, ns, rfl, _⟩ := h
    rfl
  · obtain ⟨A, s, p, l, ns, rfl, g, hl, hin, q⟩ := h
    refine ⟨_, pss_one (ps_ret (pe_call (ok_new_draft T) hr rfl T.g_new_draft T.F_new_draft.kp T.B_new_draft .nil pass0 (pa_cons (pe_ix ix_list (pe_fld (pv 0) rfl) (pv 1) (fun _ _ => rfl))
        (pa_cons (pe_callTy call_tuple_of (by rfl) T.b_tuple (by decide +kernel) (pa_cons (pe_op op_cat (pe_lst (pa_cons pe_int (pa_cons (pe_callB call_len_seq (by rfl) T.b_len PySem.boot_len (pa_cons (pv 2) pa_nil)) pa_nil))) (pv 2)) pa_nil)) pa_nil)))), ?_⟩
    have hin : (Vbsoaj.isPower s p && Vbsoaj.isText ns) = true := hin
    rw [Bool.and_eq_true] at hin
    obtain ⟨pn, rfl, hpn⟩ := power_of hin.1
    have ht := hin.2
    have q : Ans a.C K H A s (Vbsoaj.written s (pn : Int).toNat (some (Vbsoaj.nats ns))) Q := q
    rw [Int.toNat_natCast] at q
    have hlen : ns.length ≤ 120 := by
      unfold Vbsoaj.isText at ht
      rw [Bool.and_eq_true] at ht
      exact of_decide_eq_true ht.1
    obtain ⟨dg, hg⟩ := g.g_
    refine ⟨_, rfl, ⟨_, _, _, _, _, rfl, hg, T.cl_G, T.nG_machines, lkG_machines, ⟨_, rfl, _, _, _, _, rfl, rfl, SqL.of g.ml_, atI_nat (g.mAt hpn), ?_⟩⟩⟩
    refine ⟨_, rfl, _, _, rfl, .inl (SqL.of hl), by show 2 ≤ sizeLine; decide, fun b hb => ⟨_, rfl, b, l, _, _, rfl, rfl, upd_same, by rw [upd_ne (ne_of_none hl hb)]; exact hl, ?_, fun d hd => ⟨d, _, rfl, .inl ⟨SqL.of upd_same, fun e he => ?_⟩⟩⟩⟩
    · rw [List.length_map]
      show 2 + ns.length ≤ sizeLine
      exact line_bigE (by omega)
    · have sm2 : Same H (upd H b (.lst [V.int 1, V.int ((ns.map V.int).length : Int)])) := same_new hb
      have sm3 := sm2.trans (same_new (o := HO.lst ([V.int 1, V.int ((ns.map V.int).length : Int)] ++ ns.map V.int)) hd)
      have sm4 := sm3.trans (same_new (o := HO.tup ([V.int 1, V.int ((ns.map V.int).length : Int)] ++ ns.map V.int)) he)
      refine ⟨A, s, pn, e, some (Vbsoaj.nats ns), rfl, g.same T.ne sm4, hpn, ⟨SqT.of ?_, ?_⟩, ?_⟩
      · rw [upd_same, textNums ht, List.length_map]
      · show (Vbsoaj.nats ns).length + 1 + 1 ≤ 122
        unfold Vbsoaj.nats
        rw [List.length_map]
        omega
      · intro H' A' l' g' f' h1 h2 h3 h4
        have fx := Fx.same (A := A) (n := s.clients.length) sm4
        exact q H' A' l' g' (fx.trans f') h1 (fx.free h2) h3 h4

theorem sc_clear : FnScope ["game", "p"] ["game", "p"] (defScope s_clear) := ⟨rfl, rfl, rfl, by decide +kernel, rfl, by decide +kernel, by decide +kernel⟩
theorem ok_clear (T : Txt K mg a) : FnOk P w K mg base CX0 2 a.f_clear a.d_clear ["game", "p"] (spD a.C K .clear) := by
  refine T.F_clear.ok sc_clear (fun vs H Q E h => ?_) (fun cdv A0 outer s0 H vs Q E hr h => ?_)
  · obtain ⟨A, s, p, t, rfl, _⟩ := h
    rfl
  · obtain ⟨A, s, p, t, rfl, g, hW, ht, hin, q⟩ := h
    refine ⟨_, pss_one (ps_ret (pe_call (ok_new_draft T) hr rfl T.g_new_draft T.F_new_draft.kp T.B_new_draft .nil pass0 (pa_cons (pe_ix ix_list (pe_fld (pv 0) rfl) (pv 1) (fun _ _ => rfl)) (pa_cons (pe_cref rfl T.g_NOTHING) pa_nil)))), ?_⟩
    obtain ⟨pn, rfl, hpn⟩ := power_of hin
    have q : Ans a.C K H A s (Vbsoaj.written s (pn : Int).toNat none) Q := q
    rw [Int.toNat_natCast] at q
    obtain ⟨dg, hg⟩ := g.g_
    refine ⟨_, rfl, ⟨_, _, _, _, _, rfl, hg, T.cl_G, T.nG_machines, lkG_machines, ⟨_, rfl, _, _, _, _, rfl, rfl, SqL.of g.ml_, atI_nat (g.mAt hpn), ?_⟩⟩⟩
    exact ⟨A, s, pn, a.a_NOTHING, none, rfl, g, hpn, ⟨T.t_NOTHING H, by show 1 ≤ 122; decide⟩, q⟩

theorem sc_send : FnScope ["game", "p", "machine"] ["game", "p"] (defScope s_send) := ⟨rfl, rfl, rfl, by decide +kernel, rfl, by decide +kernel, by decide +kernel⟩
theorem ok_send (T : Txt K mg a) : FnOk P w K mg base CX0 4 a.f_send a.d_send ["game", "p"] (spD a.C K .send) := by
  refine T.F_send.ok sc_send (fun vs H Q E h => ?_) (fun cdv A0 outer s0 H vs Q E hr h => ?_)
  · obtain ⟨A, s, p, t, rfl, _⟩ := h
    rfl
  · obtain ⟨A, s, p, t, rfl, g, hW, ht, hin, q⟩ := h
    have hr1 : Room 2 _ := hr.mono (by decide)
    refine ⟨_, pss_cons (ps_set (i := 2) sc_send.nd rfl (Or.inl rfl) (pe_ix ix_list (pe_fld (pv 0) rfl) (pv 1) (fun _ _ => rfl)))
      (pss_cons (ps_if (pt_cmpR op_isN (pe_fld (pv 2) rfl) pe_non (nomark _)) (pss_one (ps_ret (pe_lst (pa_cons (pe_cint rfl T.c_NO_DRAFT) pa_nil)))) pss_nil)
      (pss_one (ps_ret (pe_call (ok_put_or_refuse T) hr rfl T.g_put_or_refuse T.F_put_or_refuse.kp T.B_put_or_refuse .nil pass0 (pa_cons (pv 0) (pa_cons
        (pe_make T.mk_X (ok_Message_init T) hr1 rfl T.g_Message T.B_Message_init .nil pass0
          (pa_cons (pe_cint rfl T.c_HAND) (pa_cons (pv 1) (pa_cons (pe_fld (pv 2) rfl) (pa_cons (pe_fld (pv 2) rfl) (pa_cons (pe_fld (pv 2) rfl) (pa_cons (pe_tup pa_nil) pa_nil))))))) pa_nil)))))), ?_⟩
    obtain ⟨pn, rfl, hpn⟩ := power_of hin
    obtain ⟨dg, hg⟩ := g.g_
    obtain ⟨c, dm, d, hc, hmm, hd⟩ := g.m_ hpn
    refine ⟨_, rfl, ⟨_, _, _, _, _, rfl, hg, T.cl_G, T.nG_machines, lkG_machines, ⟨_, rfl, _, _, _, _, rfl, rfl, SqL.of g.ml_, atI_nat (g.mAt hpn), ?_⟩⟩⟩
    refine ⟨_, rfl, ⟨_, _, _, _, _, rfl, hmm, T.cl_M, T.nM_draft, lkM_draft, ⟨rfl, _, rfl, ?_⟩⟩⟩
    have ed : Vbsoaj.does s (.send (pn : Int)) = match c.draft with
        | none => (s, [-4])
        | some t => sent s (.hand pn c.season c.version t) := by
      show (match (Vbsoaj.clientAt s (pn : Int).toNat).draft with | none => _ | some t => _) = _
      rw [Int.toNat_natCast, clientAt_of hc]
      all_goals rfl
    rw [ed] at q
    cases hdr : c.draft with
    | none =>
      rw [hdr] at q hd
      have hd : d = .non := hd
      subst hd
      refine ite2 (fun _ => ⟨by show 1 ≤ sizeLine; decide, fun b hb => ?_⟩) (fun z => absurd (decide_eq_true rfl) z)
      exact q.lay T.ne g Fx.refl hb rfl (by show 1 ≤ 1000; decide)
    | some tx =>
      rw [hdr] at q hd
      obtain ⟨wr, rfl, hw⟩ := hd
      have q : Ans a.C K H A s (sent s (.hand pn c.season c.version tx)) Q := q
      refine ite2 (fun z => absurd (of_decide_eq_true z) (by intro z; cases z)) (fun _ => ⟨_, rfl, _, rfl, _, rfl, ⟨_, _, _, _, _, rfl, hmm, T.cl_M, T.nM_season, lkM_season, ⟨_, rfl, ⟨_, _, _, _, _, rfl, hmm, T.cl_M, T.nM_version, lkM_version, ⟨_, rfl, ⟨_, _, _, _, _, rfl, hmm, T.cl_M, T.nM_draft, lkM_draft, ⟨by show 0 ≤ sizeLine; decide, fun e0 he0 => ?_⟩⟩⟩⟩⟩⟩⟩)
      have sm := same_new (o := HO.tup []) he0
      intro x dx nx nd ne
      refine ⟨x, dx, 0, pn, c.season, c.version, .ref wr, .ref e0, rfl, upd_same, rfl, ?_⟩
      rw [upd_upd]
      have sm' : Same (upd H e0 (.tup [])) (upd (upd (upd H e0 (.tup [])) dx (.own x)) x (.ins a.C.X dx (fX 0 pn c.season c.version (.ref wr) (.ref e0)))) := made_same nx nd
      refine ⟨A, s, x, .hand pn c.season c.version tx, rfl, g.same T.ne (sm.trans sm'), ⟨dx, wr, _, upd_same, (Ext.same (C := a.C) (sm.trans sm')).wr hw⟩, Nat.le_trans hW.room (Nat.le_trans hW.r100 (by decide)), ?_⟩
      exact q.later (sm.trans sm')
end
end So

set_option Elab.async false
set_option linter.all false
set_option maxRecDepth 100000
set_option maxHeartbeats 4000000
namespace So
open PySem PySem.Spec PyProof.Rows L2
section
variable {P : Program} {w : World} {K : PySem.W.Frag} {mg : Str → Option Value} {base : Heap} {a : Ad} {C : Cl}

theorem erase_map {α β : Type} (f : α → β) : ∀ (l : List α) (i : Nat), (l.map f).eraseIdx i = (l.eraseIdx i).map f
  | [], _ => rfl
  | _ :: _, 0 => rfl
  | x :: l, i + 1 => by
    show f x :: (l.map f).eraseIdx i = f x :: (l.eraseIdx i).map f
    rw [erase_map f l i]
theorem sc_ask : FnScope ["game", "p"] ["game", "p"] (defScope s_ask) := ⟨rfl, rfl, rfl, by decide +kernel, rfl, by decide +kernel, by decide +kernel⟩
theorem ok_ask (T : Txt K mg a) : FnOk P w K mg base CX0 4 a.f_ask a.d_ask ["game", "p"] (spD a.C K .ask) := by
  refine T.F_ask.ok sc_ask (fun vs H Q E h => ?_) (fun cdv A0 outer s0 H vs Q E hr h => ?_)
  · obtain ⟨A, s, p, t, rfl, _⟩ := h
    rfl
  · obtain ⟨A, s, p, t, rfl, g, hW, ht, hin, q⟩ := h
    have hr2 : Room 2 _ := hr.mono (by decide)
    refine ⟨_, pss_one (ps_ret (pe_call (ok_put_or_refuse T) hr rfl T.g_put_or_refuse T.F_put_or_refuse.kp T.B_put_or_refuse .nil pass0 (pa_cons (pv 0) (pa_cons
        (pe_make T.mk_X (ok_Message_init T) hr2 rfl T.g_Message T.B_Message_init .nil pass0
          (pa_cons (pe_cint rfl T.c_QUESTION) (pa_cons (pv 1) (pa_cons (pe_fld (pe_ix ix_list (pe_fld (pv 0) rfl) (pv 1) (fun _ _ => rfl)) rfl) (pa_cons pe_int (pa_cons (pe_cref rfl T.g_NOTHING) (pa_cons (pe_tup pa_nil) pa_nil))))))) pa_nil)))), ?_⟩
    obtain ⟨pn, rfl, hpn⟩ := power_of hin
    obtain ⟨dg, hg⟩ := g.g_
    obtain ⟨c, dm, d, hc, hmm, hd⟩ := g.m_ hpn
    have ed : Vbsoaj.does s (.ask (pn : Int)) = sent s (.ask pn c.season) := by
      show (if Vbsoaj.full s = true then _ else (Vbsoaj.puts s [.ask (pn : Int).toNat (Vbsoaj.clientAt s (pn : Int).toNat).season], _)) = _
      rw [Int.toNat_natCast, clientAt_of hc]
      rfl
    rw [ed] at q
    refine ⟨_, rfl, _, rfl, _, rfl, ⟨_, _, _, _, _, rfl, hg, T.cl_G, T.nG_machines, lkG_machines, ⟨_, rfl, _, _, _, _, rfl, rfl, SqL.of g.ml_, atI_nat (g.mAt hpn), ⟨_, _, _, _, _, rfl, hmm, T.cl_M, T.nM_season, lkM_season, ⟨by show 0 ≤ sizeLine; decide, fun e0 he0 => ?_⟩⟩⟩⟩⟩
    have sm := same_new (o := HO.tup []) he0
    intro x dx nx nd ne
    refine ⟨x, dx, 2, pn, c.season, 0, .ref a.a_NOTHING, .ref e0, rfl, upd_same, rfl, ?_⟩
    rw [upd_upd]
    have sm' : Same (upd H e0 (.tup [])) (upd (upd (upd H e0 (.tup [])) dx (.own x)) x (.ins a.C.X dx (fX 2 pn c.season 0 (.ref a.a_NOTHING) (.ref e0)))) := made_same nx nd
    exact ⟨A, s, x, .ask pn c.season, rfl, g.same T.ne (sm.trans sm'), ⟨dx, _, _, upd_same⟩, Nat.le_trans hW.room (Nat.le_trans hW.r100 (by decide)), q.later (sm.trans sm')⟩

theorem sc_double : FnScope ["game", "i"] ["game", "i"] (defScope s_double) := ⟨rfl, rfl, rfl, by decide +kernel, rfl, by decide +kernel, by decide +kernel⟩
theorem ok_double (T : Txt K mg a) : FnOk P w K mg base CX0 4 a.f_double a.d_double ["game", "i"] (spD a.C K .double) := by
  refine T.F_double.ok sc_double (fun vs H Q E h => ?_) (fun cdv A0 outer s0 H vs Q E hr h => ?_)
  · obtain ⟨A, s, p, t, rfl, _⟩ := h
    rfl
  · obtain ⟨A, s, p, t, rfl, g, hW, ht, hin, q⟩ := h
    refine ⟨_, pss_one (ps_ret (pe_call (ok_put_or_refuse T) hr rfl T.g_put_or_refuse T.F_put_or_refuse.kp T.B_put_or_refuse .nil pass0 (pa_cons (pv 0) (pa_cons
        (pe_ix ix_list (pe_fld (pv 0) rfl) (pv 1) (fun _ _ => rfl)) pa_nil)))), ?_⟩
    obtain ⟨pn, rfl, hpn⟩ := message_of hin
    obtain ⟨dg, hg⟩ := g.g_
    obtain ⟨as, hb, pr⟩ := g.bl_
    obtain ⟨m, hm⟩ := get_lt (l := s.bag) (k := pn) hpn
    obtain ⟨x, hx, hmx⟩ := pr_get pr hm
    have ed : Vbsoaj.does s (.double (pn : Int)) = sent s m := by
      unfold sent
      show (if Vbsoaj.full s = true then _ else (({ s with bag := s.bag ++ (s.bag[(pn : Int).toNat]?).toList } : Vbsoaj.State), _)) = _
      rw [Int.toNat_natCast, hm]
      by_cases hf : Vbsoaj.full s = true
      · rw [if_pos hf, if_pos hf]
      · rw [if_neg hf, if_neg hf, puts_one, if_neg hf]
        rfl
    rw [ed] at q
    refine ⟨_, rfl, _, rfl, ⟨_, _, _, _, _, rfl, hg, T.cl_G, T.nG_messages, lkG_messages, ⟨_, rfl, _, _, _, V.ref x, rfl, rfl, SqL.of hb, atI_nat (by rw [List.getElem?_map, hx]; rfl), ?_⟩⟩⟩
    exact ⟨A, s, x, m, rfl, g, hmx, Nat.le_trans hW.room (Nat.le_trans hW.r100 (by decide)), q⟩

theorem sc_lose : FnScope ["game", "i"] ["game", "i"] (defScope s_lose) := ⟨rfl, rfl, rfl, by decide +kernel, rfl, by decide +kernel, by decide +kernel⟩
theorem ok_lose (T : Txt K mg a) : FnOk P w K mg base CX0 1 a.f_lose a.d_lose ["game", "i"] (spD a.C K .lose) := by
  refine T.F_lose.ok sc_lose (fun vs H Q E h => ?_) (fun cdv A0 outer s0 H vs Q E hr h => ?_)
  · obtain ⟨A, s, p, t, rfl, _⟩ := h
    rfl
  · obtain ⟨A, s, p, t, rfl, g, hW, ht, hin, q⟩ := h
    refine ⟨_, pss_cons (ps_expr (pe_bm PySem.F.plainAttrs_list PySem.F.slot_list_pop PySem.F.type_list_pop mt_popAt (pe_fld (pv 0) rfl) (pa_cons (pv 1) pa_nil)))
      (pss_one (ps_ret (pe_lst (pa_cons pe_int pa_nil)))), ?_⟩
    obtain ⟨h0, h1⟩ := (isK_iff s p).mp hin
    obtain ⟨dg, hg⟩ := g.g_
    obtain ⟨as, hb, pr⟩ := g.bl_
    have hl := pr_len pr
    have hz := Nat.le_trans hW.room hW.r100
    obtain ⟨m, hm⟩ := get_lt (l := s.bag) (k := p.toNat) (by omega)
    obtain ⟨x, hx, hmx⟩ := pr_get pr hm
    refine ⟨_, rfl, ⟨_, _, _, _, _, rfl, hg, T.cl_G, T.nG_messages, lkG_messages, ⟨.inl ⟨rfl, _, SqL.of hb⟩, _, rfl, A .bl, as.map V.ref, p, p.toNat, V.ref x, rfl, rfl, hb, by omega, by omega, ?_, ?_, ?_⟩⟩⟩
    · exact seqIndex_of h0 (by rw [List.length_map, hl]; exact h1)
    · rw [List.getElem?_map, hx]; rfl
    · have e : (as.map V.ref).eraseIdx p.toNat = (as.eraseIdx p.toNat).map V.ref := erase_map V.ref as p.toNat
      rw [e]
      have g1 := g.putBl T.ne (pr_erase p.toNat pr)
      refine ⟨by show 1 ≤ sizeLine; decide, fun b hb => ?_⟩
      exact q.lay T.ne g1 (Fx.put (r := .bl) True.intro) hb rfl (by show 1 ≤ 1000; decide)

theorem sc_deliver : FnScope ["game", "i", "message"] ["game", "i"] (defScope s_deliver) := ⟨rfl, rfl, rfl, by decide +kernel, rfl, by decide +kernel, by decide +kernel⟩
theorem after_clients (s : Vbsoaj.State) (m : Vbsoaj.Msg) : (after s m).clients.length = s.clients.length := by
  unfold after
  rw [puts_clients]
  cases m with
  | hand p k v tx =>
    unfold Vbsoaj.handled
    dsimp only
    repeat' split
    all_goals rfl
  | receipt p k v =>
    unfold Vbsoaj.handled
    dsimp only
    split
    · exact List.length_set ..
    · rfl
  | ask p k =>
    unfold Vbsoaj.handled
    dsimp only
    split <;> rfl
  | opened p k rows =>
    unfold Vbsoaj.handled
    dsimp only
    split
    · exact List.length_set ..
    · rfl
theorem ok_deliver (T : Txt K mg a) : FnOk P w K mg base CX0 7 a.f_deliver a.d_deliver ["game", "i"] (spD a.C K .deliver) := by
  refine T.F_deliver.ok sc_deliver (fun vs H Q E h => ?_) (fun cdv A0 outer s0 H vs Q E hr h => ?_)
  · obtain ⟨A, s, p, t, rfl, _⟩ := h
    rfl
  · obtain ⟨A, s, p, t, rfl, g, hW, ht, hin, q⟩ := h
    refine ⟨_, pss_cons (ps_set (i := 2) sc_deliver.nd rfl (Or.inl rfl) (pe_bm PySem.F.plainAttrs_list PySem.F.slot_list_pop PySem.F.type_list_pop mt_popAt (pe_fld (pv 0) rfl) (pa_cons (pv 1) pa_nil)))
      (pss_cons (ps_expr (pe_call (ok_bring T) hr rfl T.g_bring T.F_bring.kp T.B_bring .nil pass0 (pa_cons (pv 0) (pa_cons (pv 2) pa_nil))))
      (pss_one (ps_ret (pe_lst (pa_cons (pe_callB call_len_seq (by rfl) T.b_len PySem.boot_len (pa_cons (pe_fld (pv 0) rfl) pa_nil)) pa_nil))))), ?_⟩
    obtain ⟨h0, h1⟩ := (isK_iff s p).mp hin
    obtain ⟨dg, hg⟩ := g.g_
    obtain ⟨as, hb, pr⟩ := g.bl_
    have hl := pr_len pr
    have hz := Nat.le_trans hW.room hW.r100
    obtain ⟨m, hm⟩ := get_lt (l := s.bag) (k := p.toNat) (by omega)
    obtain ⟨x, hx, hmx⟩ := pr_get pr hm
    refine ⟨_, rfl, ⟨_, _, _, _, _, rfl, hg, T.cl_G, T.nG_messages, lkG_messages, ⟨.inl ⟨rfl, _, SqL.of hb⟩, _, rfl, A .bl, as.map V.ref, p, p.toNat, V.ref x, rfl, rfl, hb, by omega, by omega, ?_, ?_, ?_⟩⟩⟩
    · exact seqIndex_of h0 (by rw [List.length_map, hl]; exact h1)
    · rw [List.getElem?_map, hx]; rfl
    · have e : (as.map V.ref).eraseIdx p.toNat = (as.eraseIdx p.toNat).map V.ref := erase_map V.ref as p.toNat
      rw [e]
      have g1 := g.putBl T.ne (pr_erase p.toNat pr)
      have f1 : Fx H A s.clients.length (upd H (A .bl) (.lst ((as.eraseIdx p.toNat).map V.ref))) A s.clients.length := Fx.put (r := .bl) True.intro
      have hW1 := hW.erase p.toNat
      have hm1 : MsgAt a.C K (upd H (A .bl) (.lst ((as.eraseIdx p.toNat).map V.ref))) x m := (g.ext T.ne f1).msg hmx
      refine ⟨_, rfl, _, rfl, A, _, x, m, rfl, True.intro, g1, hm1, hW.bag m (List.mem_of_getElem? hm), hW1.op, Nat.le_trans hW1.room (Nat.le_trans hW1.r100 (by decide)), fun c hc => Nat.le_trans (hW1.got c hc) (by omega), fun H' g' f' => ?_⟩
      obtain ⟨dg', hg'⟩ := g'.g_
      obtain ⟨as', hb', pr'⟩ := g'.bl_
      refine ⟨_, rfl, ⟨_, _, _, _, _, rfl, hg', T.cl_G, T.nG_messages, lkG_messages, ⟨_, _, rfl, .inl (SqL.of hb'), by show 1 ≤ sizeLine; decide, fun b hbn => ?_⟩⟩⟩
      have ed : Vbsoaj.does s (.deliver p) = (after { s with bag := s.bag.eraseIdx p.toNat } m, Vbsoaj.ints [(after { s with bag := s.bag.eraseIdx p.toNat } m).bag.length]) := by
        show (Vbsoaj.delivered s p.toNat, Vbsoaj.ints [(Vbsoaj.delivered s p.toNat).bag.length]) = _
        have e2 : Vbsoaj.delivered s p.toNat = after { s with bag := s.bag.eraseIdx p.toNat } m := by
          unfold Vbsoaj.delivered
          rw [hm]
          rfl
        rw [e2]
      rw [ed] at q
      refine q.lay T.ne g' ?_ hbn ?_ (by show 1 ≤ 1000; decide)
      · show Fx H A s.clients.length H' A (after { s with bag := s.bag.eraseIdx p.toNat } m).clients.length
        rw [after_clients]
        exact f1.trans f'
      · rw [List.length_map, pr_len pr']
        rfl
end
end So

set_option Elab.async false
set_option linter.all false
set_option maxRecDepth 100000
set_option maxHeartbeats 4000000
namespace So
open PySem PySem.Spec PyProof.Rows L2
section
variable {P : Program} {w : World} {K : PySem.W.Frag} {mg : Str → Option Value} {base : Heap} {a : Ad} {C : Cl}

/-! ### sheets -/
def spSheet (C : Cl) (w0 : Addr) : Sp := fun vs H Q _ => ∃ (x dx : Addr), vs = [.ref x] ∧ H x = some (.ins C.S dx []) ∧ Q .non (upd H x (.ins C.S dx (fS 0 w0)))
theorem sc_Sheet_init : FnScope ["self"] ["self"] (defScope s_Sheet_init) := ⟨rfl, rfl, rfl, by decide +kernel, rfl, by decide +kernel, by decide +kernel⟩
theorem ok_Sheet_init (T : Txt K mg a) : FnOk P w K mg base CX0 1 a.f_Sheet_init a.d_Sheet_init ["self"] (spSheet a.C a.a_NOTHING) := by
  refine T.F_Sheet_init.ok sc_Sheet_init (fun vs H Q E h => ?_) (fun cdv A0 outer s0 H vs Q E hr h => ?_)
  · obtain ⟨x, dx, rfl, _⟩ := h
    rfl
  · obtain ⟨x, dx, rfl, hx, q⟩ := h
    refine ⟨_, pss_cons (ps_fld (pv 0) pe_int rfl) (pss_one (ps_fld (pv 0) (pe_cref rfl T.g_NOTHING) rfl)), ?_⟩
    refine ⟨_, rfl, sto hx T.cl_S T.nS_version (by show 0 < 1000; decide) rfl ⟨_, rfl, sto upd_same T.cl_S T.nS_written (by show 1 < 1000; decide) (mkS (ve := 0)) ?_⟩⟩
    rw [upd_upd]
    exact q

def spBlank (C : Cl) (w0 : Addr) : Sp := fun vs H Q _ => ∃ n : Nat, vs = [vN n] ∧ n ≤ 1000 ∧ ∀ (H' : Hp) (l : Addr) (f : Nat → Addr), Same H H' → H l = none → H' l = some (.lst ((List.range n).map fun i => V.ref (f i))) →
  (∀ i, i < n → H (f i) = none ∧ ∃ dx, H' (f i) = some (.ins C.S dx (fS 0 w0))) → (∀ i j, i < n → j < n → f i = f j → i = j) → Q (.ref l) H'
theorem sc_blank_sheets : FnScope ["powers", "power"] ["powers"] (defScope s_blank_sheets) := ⟨rfl, rfl, rfl, by decide +kernel, rfl, by decide +kernel, by decide +kernel⟩
theorem range_ext {i : Nat} {f g : Nat → Addr} {x : Addr} (h : ∀ j, j < i → g j = f j) (hx : g i = x) : (List.range i).map (fun j => V.ref (f j)) ++ [V.ref x] = (List.range (i + 1)).map fun j => V.ref (g j) := by
  rw [List.range_succ, List.map_append, List.map_singleton, hx]
  congr 1
  refine List.map_congr_left fun j hj => ?_
  rw [h j (List.mem_range.mp hj)]
theorem ok_blank_sheets (T : Txt K mg a) : FnOk P w K mg base CX0 3 a.f_blank_sheets a.d_blank_sheets ["powers"] (spBlank a.C a.a_NOTHING) := by
  refine T.F_blank_sheets.ok sc_blank_sheets (fun vs H Q E h => ?_) (fun cdv A0 outer s0 H vs Q E hr h => ?_)
  · obtain ⟨n, rfl, _⟩ := h
    rfl
  · obtain ⟨n, rfl, hn, q⟩ := h
    refine ⟨_, pss_one (ps_ret (pe_lc rfl sc_blank_sheets.nd (pi_range1 (by rfl) T.b_range (pa_cons (pv 0) pa_nil)) (own := [("power", 1)]) (blkOk_by (by kernel_rfl)) (fun _ _ _ _ _ => pg_name (i := 1) sc_blank_sheets.nd rfl (Or.inl rfl)) (fun _ _ _ _ _ => pts_nil)
      (fun _ _ _ _ _ => pe_make0 T.mk_S (ok_Sheet_init T) hr rfl T.g_Sheet T.B_Sheet_init .nil pass0))), ?_⟩
    refine ⟨_, rfl, (n : Int), rfl, by omega, by omega, fun D hD => ?_⟩
    refine lc_range (lo := 0) (n := (n : Int).toNat) (fun i H' => ∃ f : Nat → Addr, Same H H' ∧ H' D = some (.lst ((List.range i).map fun j => V.ref (f j))) ∧
      (∀ j, j < i → H (f j) = none ∧ ∃ dx, H' (f j) = some (.ins a.C.S dx (fS 0 a.a_NOTHING))) ∧ (∀ j k, j < i → k < i → f j = f k → j = k)) ?_ ?_ ?_
    · exact ⟨fun _ => 0, same_new hD, upd_same, (fun j hj => absurd hj (Nat.not_lt_zero _)), fun j k hj => absurd hj (Nat.not_lt_zero _)⟩
    · rintro i H1 hi ⟨f, sm, hDl, hf, inj⟩
      refine ⟨rfl, fun x dx nx nd ne => ?_⟩
      refine ⟨x, dx, rfl, upd_same, rfl, ?_⟩
      rw [upd_upd]
      have sm2 : Same H1 (upd (upd H1 dx (.own x)) x (.ins a.C.S dx (fS 0 a.a_NOTHING))) := fun b o e => by
        rw [upd_ne (ne_of_none e nx), upd_ne (ne_of_none e nd)]
        exact e
      refine ⟨_, sm2 _ _ hDl, ?_, ?_⟩
      · rw [List.length_map, List.length_range]
        exact small1000 (by omega)
      · have xD : x ≠ D := fun e => by rw [e, hDl] at nx; cases nx
        refine ⟨fun j => if j = i then x else f j, ?_, ?_, ?_, ?_⟩
        · intro b o e
          rw [upd_ne (ne_of_none e hD)]
          exact sm2 _ _ (sm _ _ e)
        · rw [upd_same, range_ext (g := fun j => if j = i then x else f j) (fun j hj => if_neg (Nat.ne_of_lt hj)) (if_pos rfl)]
        · intro j hj
          dsimp only
          by_cases e : j = i
          · rw [if_pos e]
            refine ⟨sm.free nx, dx, ?_⟩
            rw [upd_ne xD, upd_same]
          · rw [if_neg e]
            obtain ⟨h1, d, h2⟩ := hf j (by omega)
            refine ⟨h1, d, ?_⟩
            rw [upd_ne]
            · exact sm2 _ _ h2
            · intro z
              rw [z, hDl] at h2
              cases h2
        · intro j k hj hk e
          have old : ∀ j, j < i → f j ≠ x := fun j hj z => by
            obtain ⟨h1, d, h2⟩ := hf j hj
            rw [z, nx] at h2
            cases h2
          by_cases ej : j = i
          · by_cases ek : k = i
            · rw [ej, ek]
            · have e : x = f k := by simpa [ej, ek] using e
              exact absurd e.symm (old k (by omega))
          · by_cases ek : k = i
            · have e : f j = x := by simpa [ej, ek] using e
              exact absurd e (old j (by omega))
            · exact inj j k (by omega) (by omega) (by simpa [ej, ek] using e)
    · rintro H1 ⟨f, sm, hDl, hf, inj⟩
      rw [Int.toNat_natCast] at hDl hf inj
      exact q H1 D f sm hD hDl hf inj

/-! ### machines -/
def spMachine (C : Cl) : Sp := fun vs H Q _ => ∃ (x dx : Addr), vs = [.ref x] ∧ H x = some (.ins C.M dx []) ∧ ∀ (H' : Hp) (l : Addr), H' x = some (.ins C.M dx (fM 0 0 0 .non l)) → H' l = some (.lst []) → H l = none →
  (∀ b o, H b = some o → b ≠ x → H' b = some o) → Q .non H'
theorem sc_Machine_init : FnScope ["self"] ["self"] (defScope s_Machine_init) := ⟨rfl, rfl, rfl, by decide +kernel, rfl, by decide +kernel, by decide +kernel⟩
theorem ok_Machine_init (T : Txt K mg a) : FnOk P w K mg base CX0 1 a.f_Machine_init a.d_Machine_init ["self"] (spMachine a.C) := by
  refine T.F_Machine_init.ok sc_Machine_init (fun vs H Q E h => ?_) (fun cdv A0 outer s0 H vs Q E hr h => ?_)
  · obtain ⟨x, dx, rfl, _⟩ := h
    rfl
  · obtain ⟨x, dx, rfl, hx, q⟩ := h
    refine ⟨_, pss_cons (ps_fld (pv 0) pe_int rfl) (pss_cons (ps_fld (pv 0) pe_int rfl) (pss_cons (ps_fld (pv 0) pe_int rfl) (pss_cons (ps_fld (pv 0) pe_non rfl) (pss_one (ps_fld (pv 0) (pe_lst pa_nil) rfl))))), ?_⟩
    refine ⟨_, rfl, sto hx T.cl_M T.nM_season (by show 0 < 1000; decide) rfl ?_⟩
    refine ⟨_, rfl, sto upd_same T.cl_M T.nM_version (ltk (by kernel_rfl)) rfl ?_⟩
    refine ⟨_, rfl, sto upd_same T.cl_M T.nM_acknowledged (ltk (by kernel_rfl)) rfl ?_⟩
    refine ⟨_, rfl, sto upd_same T.cl_M T.nM_draft (ltk (by kernel_rfl)) rfl ?_⟩
    rw [upd_upd, upd_upd, upd_upd]
    refine ⟨by show 0 ≤ sizeLine; decide, fun l hl => ⟨_, rfl, sto (by rw [upd_ne (ne_of_none upd_same hl)]; exact upd_same) T.cl_M T.nM_rows (ltk (by kernel_rfl)) (mkM (se := 0) (ve := 0) (ac := 0) (d := .non) (rl := l)) ?_⟩⟩
    have xl : x ≠ l := ne_of_none upd_same hl
    refine q _ l upd_same (by rw [upd_ne xl.symm]; exact upd_same) ?_ fun b o e hb => ?_
    · rw [upd_ne xl.symm] at hl
      exact hl
    · have bl : b ≠ l := by
        intro z
        rw [upd_ne xl.symm, ← z, e] at hl
        cases hl
      rw [upd_ne hb, upd_ne bl, upd_ne hb]
      exact e

/-! ### the umpire -/
def spUmpire (C : Cl) (w0 : Addr) : Sp := fun vs H Q _ => ∃ (x dx : Addr) (n de : Nat), vs = [.ref x, vN n, vN de] ∧ H x = some (.ins C.U dx []) ∧ n ≤ 1000 ∧
  ∀ (H' : Hp) (l o : Addr) (f : Nat → Addr), H' x = some (.ins C.U dx (fU true 0 de l o)) → (∀ b u, H b = some u → b ≠ x → H' b = some u) → H l = none → H o = none → l ≠ o → H' l = some (.lst ((List.range n).map fun i => V.ref (f i))) → H' o = some (.lst []) →
    (∀ i, i < n → H (f i) = none ∧ ∃ dx, H' (f i) = some (.ins C.S dx (fS 0 w0))) → (∀ i j, i < n → j < n → f i = f j → i = j) → Q .non H'
theorem sc_Umpire_init : FnScope ["self", "powers", "deadline"] ["self", "powers", "deadline"] (defScope s_Umpire_init) := ⟨rfl, rfl, rfl, by decide +kernel, rfl, by decide +kernel, by decide +kernel⟩
theorem ok_Umpire_init (T : Txt K mg a) : FnOk P w K mg base CX0 4 a.f_Umpire_init a.d_Umpire_init ["self", "powers", "deadline"] (spUmpire a.C a.a_NOTHING) := by
  refine T.F_Umpire_init.ok sc_Umpire_init (fun vs H Q E h => ?_) (fun cdv A0 outer s0 H vs Q E hr h => ?_)
  · obtain ⟨x, dx, n, de, rfl, _⟩ := h
    rfl
  · obtain ⟨x, dx, n, de, rfl, hx, hn, q⟩ := h
    refine ⟨_, pss_cons (ps_fld (pv 0) pe_bl rfl) (pss_cons (ps_fld (pv 0) pe_int rfl) (pss_cons (ps_fld (pv 0) (pv 2) rfl)
      (pss_cons (ps_fld (pv 0) (pe_call (ok_blank_sheets T) hr rfl T.g_blank_sheets T.F_blank_sheets.kp T.B_blank_sheets .nil pass0 (pa_cons (pv 1) pa_nil)) rfl) (pss_one (ps_fld (pv 0) (pe_lst pa_nil) rfl))))), ?_⟩
    refine ⟨_, rfl, sto hx T.cl_U T.nU_on (by show 0 < 1000; decide) rfl ?_⟩
    refine ⟨_, rfl, sto upd_same T.cl_U T.nU_season (ltk (by kernel_rfl)) rfl ?_⟩
    refine ⟨_, rfl, _, rfl, sto upd_same T.cl_U T.nU_deadline (ltk (by kernel_rfl)) rfl ?_⟩
    rw [upd_upd, upd_upd]
    refine ⟨_, rfl, n, rfl, hn, fun H1 l f sm hl hl1 hf inj => ?_⟩
    have hx1 := sm _ _ (upd_same (H := H) (a := x))
    refine ⟨_, rfl, sto hx1 T.cl_U T.nU_sheets (ltk (by kernel_rfl)) rfl ?_⟩
    refine ⟨by show 0 ≤ sizeLine; decide, fun o ho => ⟨_, rfl, sto (by rw [upd_ne (ne_of_none upd_same ho)]; exact upd_same) T.cl_U T.nU_opened (ltk (by kernel_rfl)) (mkU (on := true) (se := 0) (de := de) (sl := l) (ol := o)) ?_⟩⟩
    have xo : x ≠ o := ne_of_none upd_same ho
    have ho1 : H1 o = none := by rw [upd_ne xo.symm] at ho; exact ho
    have lx : l ≠ x := fun z => by rw [z, hx1] at hl1; cases hl1
    have lo : l ≠ o := ne_of_none hl1 ho1
    have old : ∀ {b : Addr} {u o1 o2 : HO}, H1 b = some u → b ≠ x → upd (upd (upd H1 x o1) o (.lst [])) x o2 b = some u := fun {b u o1 o2} e hb => by
      rw [upd_ne hb, upd_ne (ne_of_none e ho1), upd_ne hb]
      exact e
    have fr : ∀ {o1 : HO} b, (upd H x o1) b = none → H b = none := fun {o1} b hb => by
      have bx : b ≠ x := fun z => by rw [z, upd_same] at hb; cases hb
      rw [upd_ne bx] at hb
      exact hb
    refine q _ l o f upd_same (fun b u e hb => old (sm _ _ (by rw [upd_ne hb]; exact e)) hb) (fr _ hl) (fr _ (sm.free ho1)) lo (old hl1 lx) (by rw [upd_ne xo.symm]; exact upd_same) (fun i hi => ?_) inj
    obtain ⟨h1, d, h2⟩ := hf i hi
    refine ⟨fr _ h1, d, old h2 ?_⟩
    intro z
    rw [z, hx1] at h2
    injection h2 with h2
    injection h2 with h2 _ _
    exact T.ne.us h2
end
end So

set_option Elab.async false
set_option linter.all false
set_option maxRecDepth 100000
set_option maxHeartbeats 4000000
namespace So
open PySem PySem.Spec PyProof.Rows L2
section
variable {P : Program} {w : World} {K : PySem.W.Frag} {mg : Str → Option Value} {base : Heap} {a : Ad} {C : Cl}

/-- a new game's state -/
def fresh (b : Bool) (n sp rm : Nat) : Vbsoaj.State := { begun := b, span := sp, room := rm, deadline := sp, sheets := List.replicate n {}, clients := List.replicate n {} }
def layFs (b : Bool) (fs : List (Str × V)) : Prop := ∀ (sp rm nw : Nat) (ml um bl : Addr), putF ("messages" : Str) (.ref bl) (putF ("umpire" : Str) (.ref um) (putF ("machines" : Str) (.ref ml) (putF ("now" : Str) (vN nw) (putF ("room" : Str) (vN rm) (putF ("span" : Str) (vN sp) fs))))) = fG b sp rm nw ml um bl
theorem layFs_new (b : Bool) : layFs b [("begun", .bl b)] := fun sp rm nw ml um bl => by kernel_rfl
theorem layFs_old (b : Bool) (sp rm nw : Nat) (ml um bl : Addr) : layFs b (fG b sp rm nw ml um bl) := fun sp rm nw ml um bl => by kernel_rfl
def spLayOut (C : Cl) (K : PySem.W.Frag) : Sp := fun vs H Q _ => ∃ (g dx : Addr) (b : Bool) (fs : List (Str × V)) (n sp rm : Nat), vs = [.ref g, vN n, vN sp, vN rm] ∧ H g = some (.ins C.G dx fs) ∧ fs.length ≤ 10 ∧ layFs b fs ∧ n ≤ 7 ∧
  ∀ (H' : Hp) (A' : Ro → Addr), Gm C K H' A' (fresh b n sp rm) → A' .g = g → (∀ x o, H x = some o → x ≠ g → H' x = some o) → (∀ x, Own A' n x → x = g ∨ H x = none) → Q .non H'
def layA (g u ml bl sl ol : Addr) (m r s : Nat → Addr) : Ro → Addr
  | .g => g
  | .u => u
  | .ml => ml
  | .bl => bl
  | .sl => sl
  | .ol => ol
  | .m i => m i
  | .r i => r i
  | .s i => s i
theorem rep_at {α : Type} {n i : Nat} {x : α} (h : i < n) : (List.replicate n x)[i]? = some x := by
  rw [List.getElem?_replicate, if_pos h]
theorem sc_Game_lay_out : FnScope ["self", "powers", "span", "room", "power"] ["self", "powers", "span", "room"] (defScope s_Game_lay_out) := ⟨rfl, rfl, rfl, by decide +kernel, rfl, by decide +kernel, by decide +kernel⟩
theorem ok_Game_lay_out (T : Txt K mg a) : FnOk P w K mg base CX0 6 a.f_Game_lay_out a.d_Game_lay_out ["self", "powers", "span", "room"] (spLayOut a.C K) := by
  refine T.F_Game_lay_out.ok sc_Game_lay_out (fun vs H Q E h => ?_) (fun cdv A0 outer s0 H vs Q E hr h => ?_)
  · obtain ⟨g, dx, b, fs, n, sp, rm, rfl, _⟩ := h
    rfl
  · obtain ⟨g, dx, b, fs, n, sp, rm, rfl, hg, hfs, lay, hn, q⟩ := h
    refine ⟨_, pss_cons (ps_fld (pv 0) (pv 2) rfl) (pss_cons (ps_fld (pv 0) (pv 3) rfl) (pss_cons (ps_fld (pv 0) pe_int rfl)
      (pss_cons (ps_fld (pv 0) (pe_lc rfl sc_Game_lay_out.nd (pi_range1 (by rfl) T.b_range (pa_cons (pv 1) pa_nil)) (own := [("power", 4)]) (blkOk_by (by kernel_rfl)) (fun _ _ _ _ _ => pg_name (i := 4) sc_Game_lay_out.nd rfl (Or.inl rfl)) (fun _ _ _ _ _ => pts_nil)
        (fun _ _ _ _ _ => pe_make0 T.mk_M (ok_Machine_init T) (hr.mono (by decide)) rfl T.g_Machine T.B_Machine_init .nil pass0)) rfl)
      (pss_cons (ps_fld (pv 0) (pe_make T.mk_U (ok_Umpire_init T) hr rfl T.g_Umpire T.B_Umpire_init .nil pass0 (pa_cons (pv 1) (pa_cons (pv 2) pa_nil))) rfl)
      (pss_one (ps_fld (pv 0) (pe_lst pa_nil) rfl)))))), ?_⟩
    have l1 := length_putF ("span" : Str) (vN sp) fs
    have l2 := length_putF ("room" : Str) (vN rm) (putF ("span" : Str) (vN sp) fs)
    have l3 := length_putF ("now" : Str) (vN 0) (putF ("room" : Str) (vN rm) (putF ("span" : Str) (vN sp) fs))
    refine ⟨_, rfl, _, rfl, sto hg T.cl_G T.nG_span (by omega) rfl ?_⟩
    refine ⟨_, rfl, _, rfl, sto upd_same T.cl_G T.nG_room (by omega) rfl ?_⟩
    refine ⟨_, rfl, sto upd_same T.cl_G T.nG_now (by omega) rfl ?_⟩
    rw [upd_upd, upd_upd]
    generalize efs : putF ("now" : Str) (vN 0) (putF ("room" : Str) (vN rm) (putF ("span" : Str) (vN sp) fs)) = fs3 at l3
    have l3' : fs3.length ≤ 13 := by omega
    generalize eH3 : upd H g (.ins a.C.G dx fs3) = H3
    have hg3 : H3 g = some (.ins a.C.G dx fs3) := by rw [← eH3]; exact upd_same
    have k03 : ∀ x o, H x = some o → x ≠ g → H3 x = some o := fun x o e ne => by rw [← eH3, upd_ne ne]; exact e
    have f03 : ∀ x, H3 x = none → H x = none := fun x e => by
      have ne : x ≠ g := fun z => by rw [z, hg3] at e; cases e
      rw [← eH3, upd_ne ne] at e
      exact e
    refine ⟨_, rfl, (n : Int), rfl, by omega, by omega, fun D hD => ?_⟩
    refine lc_range (lo := 0) (n := (n : Int).toNat) (fun i H' => ∃ f r : Nat → Addr, Same H3 H' ∧ H' D = some (.lst ((List.range i).map fun j => V.ref (f j))) ∧
      (∀ j, j < i → H3 (f j) = none ∧ H3 (r j) = none ∧ r j ≠ D ∧ H' (r j) = some (.lst []) ∧ ∃ dx, H' (f j) = some (.ins a.C.M dx (fM 0 0 0 .non (r j)))) ∧ (∀ j k, j < i → k < i → f j = f k → j = k) ∧ (∀ j k, j < i → k < i → r j = r k → j = k)) ?_ ?_ ?_
    · exact ⟨fun _ => 0, fun _ => 0, same_new hD, upd_same, (fun j hj => absurd hj (Nat.not_lt_zero _)), (fun j k hj => absurd hj (Nat.not_lt_zero _)), fun j k hj => absurd hj (Nat.not_lt_zero _)⟩
    · rintro i H1 hi ⟨f, r, sm, hDl, hf, injf, injr⟩
      refine ⟨rfl, fun x dm nx nd ne => ?_⟩
      refine ⟨x, dm, rfl, upd_same, fun H2 l hx2 hl2 hln kp => ⟨rfl, ?_⟩⟩
      have k12 : Same H1 H2 := fun b o e => kp b o (by rw [upd_ne (ne_of_none e nx), upd_ne (ne_of_none e nd)]; exact e) (ne_of_none e nx)
      have lx : l ≠ x := fun z => by rw [z, upd_same] at hln; cases hln
      have ldm : l ≠ dm := fun z => by rw [z, upd_ne ne, upd_same] at hln; cases hln
      have hl1 : H1 l = none := by rw [upd_ne lx, upd_ne ldm] at hln; exact hln
      have xD : x ≠ D := fun e => by rw [e, hDl] at nx; cases nx
      have lD : l ≠ D := fun e => by rw [e, hDl] at hl1; cases hl1
      refine ⟨_, k12 _ _ hDl, ?_, ?_⟩
      · rw [List.length_map, List.length_range]
        exact small1000 (by omega)
      · have oldf : ∀ j, j < i → f j ≠ x := fun j hj z => by
          obtain ⟨_, _, _, _, d, h2⟩ := hf j hj
          rw [z, nx] at h2
          cases h2
        have oldr : ∀ j, j < i → r j ≠ l := fun j hj z => by
          obtain ⟨_, _, _, h2, _⟩ := hf j hj
          rw [z, hl1] at h2
          cases h2
        refine ⟨fun j => if j = i then x else f j, fun j => if j = i then l else r j, ?_, ?_, ?_, ?_, ?_⟩
        · intro b o e
          rw [upd_ne (ne_of_none e hD)]
          exact k12 _ _ (sm _ _ e)
        · rw [upd_same, range_ext (g := fun j => if j = i then x else f j) (fun j hj => if_neg (Nat.ne_of_lt hj)) (if_pos rfl)]
        · intro j hj
          dsimp only
          by_cases e : j = i
          · rw [if_pos e, if_pos e]
            exact ⟨sm.free nx, sm.free hl1, lD, by rw [upd_ne lD]; exact hl2, dm, by rw [upd_ne xD]; exact hx2⟩
          · rw [if_neg e, if_neg e]
            obtain ⟨h1, h2, h3, h4, d, h5⟩ := hf j (by omega)
            refine ⟨h1, h2, h3, by rw [upd_ne h3]; exact k12 _ _ h4, d, ?_⟩
            rw [upd_ne]
            · exact k12 _ _ h5
            · intro z
              rw [z, hDl] at h5
              cases h5
        · intro j k hj hk e
          by_cases ej : j = i
          · by_cases ek : k = i
            · rw [ej, ek]
            · have e : x = f k := by simpa [ej, ek] using e
              exact absurd e.symm (oldf k (by omega))
          · by_cases ek : k = i
            · have e : f j = x := by simpa [ej, ek] using e
              exact absurd e (oldf j (by omega))
            · exact injf j k (by omega) (by omega) (by simpa [ej, ek] using e)
        · intro j k hj hk e
          by_cases ej : j = i
          · by_cases ek : k = i
            · rw [ej, ek]
            · have e : l = r k := by simpa [ej, ek] using e
              exact absurd e.symm (oldr k (by omega))
          · by_cases ek : k = i
            · have e : r j = l := by simpa [ej, ek] using e
              exact absurd e (oldr j (by omega))
            · exact injr j k (by omega) (by omega) (by simpa [ej, ek] using e)
    · rintro H4 ⟨f, r, sm4, hDl, hf, injf, injr⟩
      rw [Int.toNat_natCast] at hDl hf injf injr
      have l4 := length_putF ("machines" : Str) (.ref D) fs3
      have hg4 := sm4 _ _ hg3
      refine ⟨_, rfl, sto hg4 T.cl_G T.nG_machines (by omega) rfl ?_⟩
      generalize efs4 : putF ("machines" : Str) (.ref D) fs3 = fs4 at l4
      generalize eH5 : upd H4 g (.ins a.C.G dx fs4) = H5
      have hg5 : H5 g = some (.ins a.C.G dx fs4) := by rw [← eH5]; exact upd_same
      have k45 : ∀ x o, H4 x = some o → x ≠ g → H5 x = some o := fun x o e ne => by rw [← eH5, upd_ne ne]; exact e
      have f45 : ∀ x, H5 x = none → H4 x = none := fun x e => by
        have ne : x ≠ g := fun z => by rw [z, hg5] at e; cases e
        rw [← eH5, upd_ne ne] at e
        exact e
      refine ⟨_, rfl, _, rfl, fun x du nx nd ne => ?_⟩
      refine ⟨x, du, n, sp, rfl, upd_same, by omega, fun H7 l o f2 hx7 kp7 hl6 ho6 lo hl7 ho7 hf2 injf2 => ⟨rfl, ?_⟩⟩
      have k57 : ∀ b u, H5 b = some u → H7 b = some u := fun b u e => kp7 b u (by rw [upd_ne (ne_of_none e nx), upd_ne (ne_of_none e nd)]; exact e) (ne_of_none e nx)
      have f56 : ∀ b, upd (upd H5 du (.own x)) x (.ins a.C.U du []) b = none → H5 b = none := fun b e => by
        have bx : b ≠ x := fun z => by rw [z, upd_same] at e; cases e
        have bd : b ≠ du := fun z => by rw [z, upd_ne ne, upd_same] at e; cases e
        rw [upd_ne bx, upd_ne bd] at e
        exact e
      have elay : ∀ bl : Addr, putF ("messages" : Str) (.ref bl) (putF ("umpire" : Str) (.ref x) fs4) = fG b sp rm 0 D x bl := fun bl => by
        rw [← efs4, ← efs]
        exact lay sp rm 0 D x bl
      have l5 := length_putF ("umpire" : Str) (.ref x) fs4
      refine ⟨_, rfl, sto (k57 _ _ hg5) T.cl_G T.nG_umpire (by omega) rfl ?_⟩
      refine ⟨by show 0 ≤ sizeLine; decide, fun bl hbl => ⟨_, rfl, sto (by rw [upd_ne (ne_of_none upd_same hbl)]; exact upd_same) T.cl_G T.nG_messages (by omega) (elay bl) ?_⟩⟩
      have gbl : g ≠ bl := ne_of_none upd_same hbl
      have hbl7 : H7 bl = none := by rw [upd_ne gbl.symm] at hbl; exact hbl
      generalize eH : upd (upd (upd H7 g (.ins a.C.G dx (putF ("umpire" : Str) (.ref x) fs4))) bl (.lst [])) g (.ins a.C.G dx (fG b sp rm 0 D x bl)) = HH
      have k7 : ∀ y u, H7 y = some u → y ≠ g → HH y = some u := fun y u e ne => by
        rw [← eH, upd_ne ne, upd_ne (ne_of_none e hbl7), upd_ne ne]
        exact e
      have k4 : ∀ y u, H4 y = some u → y ≠ g → HH y = some u := fun y u e ne => k7 y u (k57 _ _ (k45 y u e ne)) ne
      have hgH : HH g = some (.ins a.C.G dx (fG b sp rm 0 D x bl)) := by rw [← eH]; exact upd_same
      have hblH : HH bl = some (.lst []) := by rw [← eH, upd_ne gbl.symm]; exact upd_same
      -- what is new differs from g
      have n4 : ∀ y, H3 y = none → y ≠ g := fun y e z => by rw [z, hg3] at e; cases e
      have n5 : ∀ y, H5 y = none → y ≠ g := fun y e z => by rw [z, hg5] at e; cases e
      have at_ : ∀ ro, Ok n ro → At a.C K HH (layA g x D bl l o f r f2) (fresh b n sp rm) ro := by
        intro ro hro
        cases ro with
        | g => exact ⟨dx, hgH⟩
        | u => exact ⟨du, k7 _ _ hx7 (n5 _ nx)⟩
        | ml =>
          show HH D = some (.lst ((List.range (List.replicate n ({} : Vbsoaj.Client)).length).map fun i => V.ref (f i)))
          rw [List.length_replicate]
          exact k4 _ _ hDl (n4 _ hD)
        | sl =>
          show HH l = some (.lst ((List.range (List.replicate n ({} : Vbsoaj.Sheet)).length).map fun i => V.ref (f2 i)))
          rw [List.length_replicate]
          exact k7 _ _ hl7 (n5 _ (f56 _ hl6))
        | bl => exact ⟨[], hblH, .nil⟩
        | ol => exact ⟨[], k7 _ _ ho7 (n5 _ (f56 _ ho6)), .nil⟩
        | m i =>
          obtain ⟨h1, h2, h3, h4, d, h5⟩ := hf i hro
          exact ⟨{}, d, .non, rep_at hro, k4 _ _ h5 (n4 _ h1), rfl⟩
        | r i =>
          obtain ⟨h1, h2, h3, h4, d, h5⟩ := hf i hro
          exact ⟨{}, [], rep_at hro, k4 _ _ h4 (n4 _ h2), .nil⟩
        | s i =>
          obtain ⟨h1, d, h2⟩ := hf2 i hro
          exact ⟨{}, d, a.a_NOTHING, rep_at hro, k7 _ _ h2 (n5 _ (f56 _ h1)), T.t_NOTHING HH, by show 1 ≤ 122; decide⟩
      have h5D : H5 D = some (.lst ((List.range n).map fun j => V.ref (f j))) := k45 _ _ hDl (n4 _ hD)
      have h5r : ∀ i, i < n → H5 (r i) = some (.lst []) := fun i hi => by
        obtain ⟨h1, h2, h3, h4, d, h5⟩ := hf i hi
        exact k45 _ _ h4 (n4 _ h2)
      have Dl : D ≠ l := ne_of_none h5D (f56 _ hl6)
      have Do : D ≠ o := ne_of_none h5D (f56 _ ho6)
      have Dbl : D ≠ bl := ne_of_none (k57 _ _ h5D) hbl7
      have rl : ∀ i, i < n → r i ≠ l := fun i hi => ne_of_none (h5r i hi) (f56 _ hl6)
      have ro : ∀ i, i < n → r i ≠ o := fun i hi => ne_of_none (h5r i hi) (f56 _ ho6)
      have rbl : ∀ i, i < n → r i ≠ bl := fun i hi => ne_of_none (k57 _ _ (h5r i hi)) hbl7
      have rD : ∀ i, i < n → r i ≠ D := fun i hi => (hf i hi).2.2.1
      have lbl : l ≠ bl := ne_of_none hl7 hbl7
      have obl : o ≠ bl := ne_of_none ho7 hbl7
      have inj := inj_of T.ne at_ injf injf2 (by
        intro r1 r2 i1 i2 o1 o2 e
        cases r1 <;> cases r2 <;> first
          | rfl
          | exact False.elim i1
          | exact False.elim i2
          | exact congrArg Ro.r (injr _ _ o1 o2 e)
          | exact absurd e Dl | exact absurd e.symm Dl | exact absurd e Do | exact absurd e.symm Do | exact absurd e Dbl | exact absurd e.symm Dbl
          | exact absurd e lo | exact absurd e.symm lo | exact absurd e lbl | exact absurd e.symm lbl | exact absurd e obl | exact absurd e.symm obl
          | exact absurd e (rl _ o1) | exact absurd e.symm (rl _ o2) | exact absurd e (ro _ o1) | exact absurd e.symm (ro _ o2)
          | exact absurd e (rbl _ o1) | exact absurd e.symm (rbl _ o2) | exact absurd e (rD _ o1) | exact absurd e.symm (rD _ o2))
      have ec : (fresh b n sp rm).clients.length = n := List.length_replicate ..
      refine q HH (layA g x D bl l o f r f2) ⟨by rw [ec]; exact at_, by rw [ec]; exact inj, by show (List.replicate n _).length = (List.replicate n _).length; rw [List.length_replicate, List.length_replicate]⟩ rfl ?_ ?_
      · intro y u e ne
        exact k4 y u (sm4 _ _ (k03 y u e ne)) ne
      · rintro y ⟨r1, o1, e⟩
        have f5 : ∀ z, H5 z = none → H z = none := fun z e => f03 _ (sm4.free (f45 _ e))
        cases r1 with
        | g => exact .inl e.symm
        | u => subst e; exact .inr (f5 _ nx)
        | ml => subst e; exact .inr (f03 _ hD)
        | bl =>
          subst e
          refine .inr (f5 _ ?_)
          show H5 bl = none
          cases z : H5 bl with
          | none => rfl
          | some u => rw [k57 _ _ z] at hbl7; cases hbl7
        | sl => subst e; exact .inr (f5 _ (f56 _ hl6))
        | ol => subst e; exact .inr (f5 _ (f56 _ ho6))
        | m i => subst e; exact .inr (f03 _ (hf i o1).1)
        | r i => subst e; exact .inr (f03 _ (hf i o1).2.1)
        | s i => subst e; exact .inr (f5 _ (f56 _ (hf2 i o1).1))

/-! ### a game made -/
def spGame (C : Cl) (K : PySem.W.Frag) : Sp := fun vs H Q _ => ∃ (g dx : Addr), vs = [.ref g] ∧ H g = some (.ins C.G dx []) ∧
  ∀ (H' : Hp) (A' : Ro → Addr), Gm C K H' A' Vbsoaj.start → A' .g = g → (∀ x o, H x = some o → x ≠ g → H' x = some o) → (∀ x, Own A' 0 x → x = g ∨ H x = none) → Q .non H'
theorem sc_Game_init : FnScope ["self"] ["self"] (defScope s_Game_init) := ⟨rfl, rfl, rfl, by decide +kernel, rfl, by decide +kernel, by decide +kernel⟩
theorem ok_Game_init (T : Txt K mg a) : FnOk P w K mg base CX0 7 a.f_Game_init a.d_Game_init ["self"] (spGame a.C K) := by
  refine T.F_Game_init.ok sc_Game_init (fun vs H Q E h => ?_) (fun cdv A0 outer s0 H vs Q E hr h => ?_)
  · obtain ⟨g, dx, rfl, _⟩ := h
    rfl
  · obtain ⟨g, dx, rfl, hg, q⟩ := h
    refine ⟨_, pss_cons (ps_fld (pv 0) pe_bl rfl) (pss_one (ps_expr (pe_meth (pv 0) T.cl_G T.m_Game_lay_out (ok_Game_lay_out T) hr T.B_Game_lay_out .nil pass0 (pa_cons pe_int (pa_cons pe_int (pa_cons pe_int pa_nil)))))), ?_⟩
    refine ⟨_, rfl, sto hg T.cl_G T.nG_begun (by show 0 < 1000; decide) rfl ?_⟩
    refine ⟨_, rfl, g, dx, _, rfl, upd_same, by kernel_rfl, g, dx, false, _, 0, 0, 0, rfl, upd_same, by show 1 ≤ 10; decide, layFs_new false, by decide, fun H' A' g' eg kp ow => ?_⟩
    refine q H' A' g' eg (fun x o e ne => kp x o (by rw [upd_ne ne]; exact e) ne) fun x hx => ?_
    rcases ow x hx with z | z
    · exact .inl z
    · refine .inr ?_
      have ne : x ≠ g := fun y => by rw [y, upd_same] at z; cases z
      rw [upd_ne ne] at z
      exact z
end
end So

set_option Elab.async false
set_option linter.all false
set_option maxRecDepth 100000
set_option maxHeartbeats 4000000
namespace So
open PySem PySem.Spec PyProof.Rows L2
section
variable {P : Program} {w : World} {K : PySem.W.Frag} {mg : Str → Option Value} {base : Heap} {a : Ad} {C : Cl}

/-! ### the opening -/
def setS (A : Ro → Addr) (l : Addr) (f : Nat → Addr) : Ro → Addr
  | .sl => l
  | .s i => f i
  | r => A r
/-- new sheets at the umpire -/
theorem Gm.newS {H : Hp} {A : Ro → Addr} {s : Vbsoaj.State} (g : Gm C K H A s) (N : C.Ne) {l : Addr} {f : Nat → Addr} {du w0 : Addr} (hl : H l = some (.lst ((List.range s.clients.length).map fun i => V.ref (f i))))
    (hf : ∀ i, i < s.clients.length → ∃ dx, H (f i) = some (.ins C.S dx (fS 0 w0))) (inj : ∀ i j, i < s.clients.length → j < s.clients.length → f i = f j → i = j) (hw : Wr K H w0 none) (nl : ¬ Own A s.clients.length l) (nf : ∀ i, i < s.clients.length → ¬ Own A s.clients.length (f i)) :
    Gm C K (upd H (A .u) (.ins C.U du (fU s.on s.season s.deadline l (A .ol)))) (setS A l f) { s with sheets := s.sheets.map fun _ => {} } := by
  obtain ⟨du', hu⟩ := g.u_
  have e : Ext C H (upd H (A .u) (.ins C.U du (fU s.on s.season s.deadline l (A .ol)))) := Ext.upd hu N.ux
  have keep : ∀ b, b ≠ A .u → upd H (A .u) (.ins C.U du (fU s.on s.season s.deadline l (A .ol))) b = H b := fun b hb => upd_ne hb
  have ne : ∀ r, Ok s.clients.length r → r ≠ .u → A r ≠ A .u := fun r hr n z => n (g.inj r .u hr True.intro z)
  have at_ : ∀ r, Ok s.clients.length r → At C K (upd H (A .u) (.ins C.U du (fU s.on s.season s.deadline l (A .ol)))) (setS A l f) { s with sheets := s.sheets.map fun _ => {} } r := by
    intro r hr
    cases r with
    | g => exact (g.at_ .g True.intro).keep e (keep _ (ne .g True.intro (by intro z; cases z)))
    | u => exact ⟨du, upd_same⟩
    | ml => exact (g.at_ .ml True.intro).keep e (keep _ (ne .ml True.intro (by intro z; cases z)))
    | bl => exact (g.at_ .bl True.intro).keep e (keep _ (ne .bl True.intro (by intro z; cases z)))
    | ol => exact (g.at_ .ol True.intro).keep e (keep _ (ne .ol True.intro (by intro z; cases z)))
    | m i => exact (g.at_ (.m i) hr).keep e (keep _ (ne (.m i) hr (by intro z; cases z)))
    | r i => exact (g.at_ (.r i) hr).keep e (keep _ (ne (.r i) hr (by intro z; cases z)))
    | sl =>
      show upd H (A .u) _ l = some (.lst ((List.range (s.sheets.map fun _ => ({} : Vbsoaj.Sheet)).length).map fun i => V.ref (f i)))
      rw [List.length_map, g.sh, keep l (fun z => nl ⟨.u, True.intro, z.symm⟩)]
      exact hl
    | s i =>
      obtain ⟨dx, h⟩ := hf i hr
      refine ⟨{}, dx, w0, ?_, (keep _ (fun z => nf i hr ⟨.u, True.intro, z.symm⟩)).trans h, e.wr hw⟩
      show (s.sheets.map fun _ => ({} : Vbsoaj.Sheet))[i]? = some {}
      rw [List.getElem?_map, List.getElem?_eq_getElem (by rw [g.sh]; exact hr)]
      rfl
  refine ⟨at_, ?_, by show (s.sheets.map _).length = _; rw [List.length_map]; exact g.sh⟩
  refine inj_of N at_ (fun i j hi hj e => ?_) inj fun r r' i1 i2 o1 o2 e => ?_
  · have := g.inj (.m i) (.m j) hi hj e
    injection this
  · cases r <;> cases r' <;> first
      | rfl
      | exact False.elim i1
      | exact False.elim i2
      | exact g.inj _ _ o1 o2 e
      | exact (nl ⟨_, o2, e.symm⟩).elim
      | exact (nl ⟨_, o1, e⟩).elim

def spEnd (C : Cl) (K : PySem.W.Frag) : Sp := fun vs H Q _ => ∃ (A : Ro → Addr) (s : Vbsoaj.State), vs = [.ref (A .g)] ∧ Gm C K H A s ∧ s.opened.length ≤ 1000 ∧ s.clients.length ≤ 7 ∧
  ∀ H' A', Gm C K H' A' (Vbsoaj.timed s) → Fx H A s.clients.length H' A' s.clients.length → Q .non H'
theorem sc_end_season_if_due : FnScope ["game", "umpire", "sheet"] ["game"] (defScope s_end_season_if_due) := ⟨rfl, rfl, rfl, by decide +kernel, rfl, by decide +kernel, by decide +kernel⟩
theorem ok_end_season_if_due (T : Txt K mg a) : FnOk P w K mg base CX0 4 a.f_end_season_if_due a.d_end_season_if_due ["game"] (spEnd a.C K) := by
  refine T.F_end_season_if_due.ok sc_end_season_if_due (fun vs H Q E h => ?_) (fun cdv A0 outer s0 H vs Q E hr h => ?_)
  · obtain ⟨A, s, rfl, _⟩ := h
    rfl
  · obtain ⟨A, s, rfl, g, hoz, hn7, q⟩ := h
    obtain ⟨dg, hg⟩ := g.g_
    obtain ⟨du, hu⟩ := g.u_
    refine ⟨_, pss_cons (ps_set (i := 1) sc_end_season_if_due.nd rfl (Or.inl rfl) (pe_fld (pv 0) rfl))
      (pss_one (ps_if (pw_and (pt_val (pe_fld (pv 1) rfl)) (pw_and1 (pt_cmpR op_le (pe_fld (pv 1) rfl) (pe_fld (pv 0) rfl) (nomark _)))).pt
        (pss_cons (ps_expr (pe_bm PySem.F.plainAttrs_list PySem.F.slot_list_append PySem.F.type_list_append mt_append (pe_fld (pv 1) rfl) (pa_cons (pe_callTy call_tuple_of (by rfl) T.b_tuple (by decide +kernel)
            (pa_cons (pe_lc (te := tFld K (tVar 2) "written") rfl sc_end_season_if_due.nd (pi_list (pe_fld (pv 1) rfl)) (own := [("sheet", 2)]) (blkOk_by (by kernel_rfl)) (fun _ _ _ _ _ => pg_name (i := 2) sc_end_season_if_due.nd rfl (Or.inl rfl)) (fun _ _ _ _ _ => pts_nil) (fun _ _ _ _ _ => pe_fld (pv 2) rfl)) pa_nil)) pa_nil)))
        (pss_cons (ps_fld (pv 1) (pe_call (ok_blank_sheets T) hr rfl T.g_blank_sheets T.F_blank_sheets.kp T.B_blank_sheets .nil pass0 (pa_cons (pe_callB call_len_seq (by rfl) T.b_len PySem.boot_len (pa_cons (pe_fld (pv 1) rfl) pa_nil)) pa_nil)) rfl)
        (pss_cons (ps_fld (pv 1) (pe_op op_add (pe_fld (pv 1) rfl) pe_int) rfl)
        (pss_one (ps_fld (pv 1) (pe_op op_add (pe_fld (pv 0) rfl) (pe_fld (pv 0) rfl)) rfl))))) pss_nil)), ?_⟩
    refine ⟨_, rfl, ⟨_, _, _, _, _, rfl, hg, T.cl_G, T.nG_umpire, lkG_umpire, ⟨_, rfl, ⟨_, _, _, _, _, rfl, hu, T.cl_U, T.nU_on, lkU_on, ⟨_, rfl, ?_⟩⟩⟩⟩⟩
    unfold Vbsoaj.timed at q
    cases hon : s.on with
    | false =>
      rw [if_neg (fun z => by rw [hon] at z; cases z.1)] at q
      exact iteF (iteF (q H A g Fx.refl))
    | true =>
      refine iteT ⟨_, rfl, ⟨_, _, _, _, _, rfl, hu, T.cl_U, T.nU_deadline, lkU_deadline, ⟨_, rfl, ⟨_, _, _, _, _, rfl, hg, T.cl_G, T.nG_now, lkG_now, ⟨_, _, rfl, rfl, _, rfl, ?_⟩⟩⟩⟩⟩
      refine ite2 (fun h1 => ?_) (fun h1 => ?_)
      · have h1 : s.deadline ≤ s.now := Int.ofNat_le.mp (of_decide_eq_true h1)
        rw [if_pos ⟨hon, h1⟩] at q
        obtain ⟨os, hol, pol⟩ := g.ol_
        refine ⟨_, rfl, ⟨_, _, _, _, _, rfl, hu, T.cl_U, T.nU_opened, lkU_opened, ⟨.inl ⟨rfl, _, SqL.of hol⟩, ?_⟩⟩⟩
        refine ⟨_, rfl, ⟨_, _, _, _, _, rfl, hu, T.cl_U, T.nU_sheets, lkU_sheets, ⟨_, rfl, ⟨_, SqL.of g.sl_⟩, fun D hD => ?_⟩⟩⟩
        have smD : ∀ o, Same H (upd H D o) := fun o => same_new hD
        refine lc_list (K := K) (a := A .sl) (xs := (List.range s.sheets.length).map fun i => V.ref (A (.s i))) (fun i H' => ∃ as : List Addr, H' = upd H D (.lst (as.map V.ref)) ∧ as.length = i ∧ Paired (Wr K H) as ((s.sheets.map fun x => x.text).take i)) ⟨[], rfl, rfl, .nil⟩
          (fun i H' _ ⟨as, e, _⟩ => by subst e; exact SqL.of (smD _ _ _ g.sl_)) ?_ ?_
        · rintro i x H' hx ⟨as, rfl, hlen, pr⟩
          have hi : i < s.sheets.length := by
            have := (List.getElem?_eq_some_iff.mp hx).1
            rw [List.length_map, List.length_range] at this
            exact this
          have hi' : i < s.clients.length := by rw [← g.sh]; exact hi
          have ex : x = V.ref (A (.s i)) := Option.some.inj (hx.symm.trans (g.sAt hi'))
          subst ex
          obtain ⟨y, ds, ws, hy, hs, hws⟩ := g.s_ hi'
          refine ⟨rfl, _, rfl, ⟨_, _, _, _, _, rfl, (smD _ _ _ hs), T.cl_S, T.nS_written, lkS_written, ⟨_, upd_same, ?_, ?_⟩⟩⟩
          · rw [List.length_map, hlen]
            have := g.sh
            exact small1000 (by omega)
          · refine ⟨as ++ [ws], ?_, by rw [List.length_append, hlen]; rfl, ?_⟩
            · rw [upd_upd, List.map_append]
              rfl
            · rw [take_snoc (l := s.sheets.map fun x => x.text) (i := i) (x := y.text) (by rw [List.getElem?_map, hy]; rfl)]
              exact pr_snoc hws pr
        · rintro H' ⟨as, rfl, hlen, pr⟩
          rw [List.length_map, List.length_range] at hlen pr
          have pr : Paired (Wr K H) as (s.sheets.map fun x => x.text) := by
            have e : (s.sheets.map fun x => x.text).take s.sheets.length = s.sheets.map fun x => x.text := List.take_of_length_le (by rw [List.length_map]; exact Nat.le_refl _)
            rw [e] at pr
            exact pr
          refine ⟨D, _, rfl, .inl ⟨SqL.of upd_same, fun e he => ?_⟩⟩
          generalize eH2 : upd (upd H D (.lst (as.map V.ref))) e (.tup (as.map V.ref)) = H2
          have sm2 : Same H H2 := by rw [← eH2]; exact (smD _).trans (same_new he)
          have he2 : H2 e = some (.tup (as.map V.ref)) := by rw [← eH2]; exact upd_same
          have hrow : Row K H2 e (s.sheets.map fun x => x.text) := ⟨as, SqT.of he2, pr_imp (fun _ _ q => (Ext.same (C := a.C) sm2).wr q) pr, by have := g.sh; omega⟩
          have g2 := g.same T.ne sm2
          obtain ⟨os2, hol2, pol2⟩ := g2.ol_
          refine ⟨_, _, _, rfl, rfl, hol2, by rw [List.length_map, pr_len pol2]; exact small1000 hoz, ?_⟩
          have e2 : os2.map V.ref ++ [V.ref e] = (os2 ++ [e]).map V.ref := by rw [List.map_append]; rfl
          rw [e2]
          have g3 := g2.putOl T.ne (pr_snoc hrow pol2)
          have f3 : Fx H A s.clients.length (upd H2 (A .ol) (.lst ((os2 ++ [e]).map V.ref))) A s.clients.length := (Fx.same sm2).trans (Fx.put (r := .ol) True.intro)
          generalize upd H2 (A .ol) (.lst ((os2 ++ [e]).map V.ref)) = H3 at g3 f3 ⊢
          obtain ⟨du3, hu3⟩ := g3.u_
          -- new sheets
          refine ⟨_, rfl, ⟨_, _, _, _, _, rfl, hu3, T.cl_U, T.nU_sheets, lkU_sheets, ⟨_, _, rfl, .inl (SqL.of g3.sl_), s.clients.length, ?_, by omega, fun H4 l f sm4 hl3 hl4 hf inj => ?_⟩⟩⟩
          · show [V.int (((List.range s.sheets.length).map fun i => V.ref (A (.s i))).length : Int)] ++ [] = [vN s.clients.length]
            rw [List.length_map, List.length_range, g.sh]
            rfl
          · have g4 := g3.same T.ne sm4
            refine ⟨_, rfl, sto (sm4 _ _ hu3) T.cl_U T.nU_sheets lenU pfU_sheets ?_⟩
            have nl : ¬ Own A s.clients.length l := g3.notOwn T.ne hl3
            have nf : ∀ i, i < s.clients.length → ¬ Own A s.clients.length (f i) := fun i hi => g3.notOwn T.ne (hf i hi).1
            have g5 := g4.newS T.ne (du := du3) hl4 (fun i hi => (hf i hi).2) inj ⟨T.t_NOTHING H4, by show 1 ≤ 122; decide⟩ nl nf
            have f5 : Fx H3 A s.clients.length (upd H4 (A .u) (.ins a.C.U du3 (fU s.on s.season s.deadline l (A .ol)))) (setS A l f) s.clients.length := by
              have f45 : Fx H3 A s.clients.length (upd H4 (A .u) (.ins a.C.U du3 (fU s.on s.season s.deadline l (A .ol)))) A s.clients.length := (Fx.same sm4).trans (Fx.put (r := .u) True.intro)
              refine ⟨f45.keep, ?_, rfl, f45.there⟩
              rintro b ⟨r, hr, e⟩
              cases r with
              | sl => subst e; exact .inr hl3
              | s i => subst e; exact .inr (hf i hr).1
              | g => exact .inl ⟨.g, hr, e⟩
              | u => exact .inl ⟨.u, hr, e⟩
              | ml => exact .inl ⟨.ml, hr, e⟩
              | bl => exact .inl ⟨.bl, hr, e⟩
              | ol => exact .inl ⟨.ol, hr, e⟩
              | m i => exact .inl ⟨.m i, hr, e⟩
              | r i => exact .inl ⟨.r i, hr, e⟩
            have f05 := f3.trans f5
            obtain ⟨dg5, hg5⟩ := g5.g_
            obtain ⟨du5, hu5⟩ := g5.u_
            refine ⟨_, rfl, ⟨_, _, _, _, _, rfl, hu5, T.cl_U, T.nU_season, lkU_season, ⟨_, _, rfl, rfl, _, rfl, sto hu5 T.cl_U T.nU_season lenU (pfU_season (se' := s.season + 1)) ?_⟩⟩⟩
            have g6 := g5.putU T.ne (dx := du5) (on := s.on) (se := s.season + 1) (de := s.deadline)
            obtain ⟨dg6, hg6⟩ := g6.g_
            refine ⟨_, rfl, ⟨_, _, _, _, _, rfl, hg6, T.cl_G, T.nG_now, lkG_now, ⟨_, rfl, ⟨_, _, _, _, _, rfl, hg6, T.cl_G, T.nG_span, lkG_span, ⟨_, _, rfl, rfl, _, rfl, sto upd_same T.cl_U T.nU_deadline lenU (pfU_deadline (de' := s.now + s.span)) ?_⟩⟩⟩⟩⟩
            have g7 := g6.putU T.ne (dx := du5) (on := s.on) (se := s.season + 1) (de := s.now + s.span)
            exact q _ _ g7 (f05.trans ((Fx.put (r := .u) True.intro).trans (Fx.put (r := .u) True.intro)))
      · have h1 : ¬ s.deadline ≤ s.now := fun z => h1 (decide_eq_true (Int.ofNat_le.mpr z))
        rw [if_neg (fun z => h1 z.2)] at q
        exact q H A g Fx.refl

/-! ### tick -/
theorem sc_tick : FnScope ["game", "n"] ["game", "n"] (defScope s_tick) := ⟨rfl, rfl, rfl, by decide +kernel, rfl, by decide +kernel, by decide +kernel⟩
theorem timed_clients (s : Vbsoaj.State) : (Vbsoaj.timed s).clients = s.clients := by
  unfold Vbsoaj.timed
  split <;> rfl
theorem ok_tick (T : Txt K mg a) : FnOk P w K mg base CX0 5 a.f_tick a.d_tick ["game", "n"] (spD a.C K .tick) := by
  refine T.F_tick.ok sc_tick (fun vs H Q E h => ?_) (fun cdv A0 outer s0 H vs Q E hr h => ?_)
  · obtain ⟨A, s, p, t, rfl, _⟩ := h
    rfl
  · obtain ⟨A, s, n, t, rfl, g, hW, ht, hin, q⟩ := h
    refine ⟨_, pss_cons (ps_if (pt_cmpR op_gt (pe_op op_add (pe_fld (pv 0) rfl) (pv 1)) (pe_cint rfl T.c_LAST_NOW) (nomark _)) (pss_one (ps_ret (pe_lst (pa_cons (pe_cint rfl T.c_TOO_LATE) pa_nil)))) pss_nil)
      (pss_cons (ps_fld (pv 0) (pe_op op_add (pe_fld (pv 0) rfl) (pv 1)) rfl)
      (pss_cons (ps_expr (pe_call (ok_end_season_if_due T) hr rfl T.g_end_season_if_due T.F_end_season_if_due.kp T.B_end_season_if_due .nil pass0 (pa_cons (pv 0) pa_nil)))
      (pss_one (ps_ret (pe_lst (pa_cons (pe_fld (pv 0) rfl) (pa_cons (pe_fld (pe_fld (pv 0) rfl) rfl) pa_nil))))))), ?_⟩
    obtain ⟨dg, hg⟩ := g.g_
    have hb : 0 ≤ n ∧ n ≤ 1000000 := by
      have hp : Vbsoaj.within n 0 1000000 = true := hin
      unfold Vbsoaj.within at hp
      rw [Bool.and_eq_true, decide_eq_true_iff, decide_eq_true_iff] at hp
      exact hp
    obtain ⟨k, rfl⟩ : ∃ k : Nat, n = (k : Int) := ⟨n.toNat, by omega⟩
    have ed : Vbsoaj.does s (.tick (k : Int)) = if Vbsoaj.LATEST < s.now + k then (s, [-3]) else (Vbsoaj.timed { s with now := s.now + k }, Vbsoaj.ints [(Vbsoaj.timed { s with now := s.now + k }).now, (Vbsoaj.timed { s with now := s.now + k }).season]) := by
      show (if Vbsoaj.LATEST < s.now + (k : Int).toNat then _ else _) = _
      rw [Int.toNat_natCast]
    rw [ed] at q
    refine ⟨_, rfl, ⟨_, _, _, _, _, rfl, hg, T.cl_G, T.nG_now, lkG_now, ⟨_, rfl, _, _, rfl, rfl, _, _, rfl, rfl, _, rfl, ?_⟩⟩⟩
    refine ite2 (fun h1 => ?_) (fun h1 => ?_)
    · have h1 : (100000000 : Int) < (s.now : Int) + (k : Int) := of_decide_eq_true h1
      rw [if_pos (by unfold Vbsoaj.LATEST; omega)] at q
      refine ⟨by show 1 ≤ sizeLine; decide, fun b hb => ?_⟩
      exact q.lay T.ne g Fx.refl hb rfl (by show 1 ≤ 1000; decide)
    · have h1 : ¬ (100000000 : Int) < (s.now : Int) + (k : Int) := fun z => h1 (decide_eq_true z)
      rw [if_neg (by unfold Vbsoaj.LATEST; omega)] at q
      refine ⟨_, rfl, ⟨_, _, _, _, _, rfl, hg, T.cl_G, T.nG_now, lkG_now, ⟨_, rfl, _, _, rfl, rfl, _, rfl, sto hg T.cl_G T.nG_now lenG (pfG_now (nw' := s.now + k)) ?_⟩⟩⟩
      have g1 := g.putG T.ne (dx := dg) (b := s.begun) (sp := s.span) (rm := s.room) (nw := s.now + k)
      refine ⟨_, rfl, A, { s with now := s.now + k }, rfl, g1, by show s.opened.length ≤ 1000; rw [hW.op]; have := hW.opt; omega, hW.n7, fun H' A' g' f' => ?_⟩
      have f1 : Fx H A s.clients.length H' A' s.clients.length := (Fx.put (r := .g) True.intro).trans f'
      obtain ⟨dg', hg'⟩ := g'.g_
      obtain ⟨du', hu'⟩ := g'.u_
      have eg : A' .g = A .g := f'.g
      refine ⟨_, rfl, ?_⟩
      rw [← eg]
      refine ⟨_, _, _, _, _, rfl, hg', T.cl_G, T.nG_now, lkG_now, ⟨_, rfl, ?_⟩⟩
      refine ⟨_, _, _, _, _, rfl, hg', T.cl_G, T.nG_umpire, lkG_umpire, (⟨_, _, _, _, _, rfl, hu', T.cl_U, T.nU_season, lkU_season, ⟨by show 2 ≤ sizeLine; decide, fun b hb => ?_⟩⟩)⟩
      refine q.lay T.ne g' ?_ hb rfl (by show 2 ≤ 1000; decide)
      show Fx H A s.clients.length H' A' (Vbsoaj.timed { s with now := s.now + k }).clients.length
      rw [timed_clients]
      exact f1

/-! ### stop, start -/
def sp0 (C : Cl) (K : PySem.W.Frag) (c : Vbsoaj.Call) : Sp := fun vs H Q _ => ∃ (A : Ro → Addr) (s : Vbsoaj.State) (t : Nat), vs = [.ref (A .g)] ∧ Gm C K H A s ∧ W t s ∧ t ≤ 200 ∧ Ans C K H A s (Vbsoaj.does s c) Q
theorem sc_stop : FnScope ["game"] ["game"] (defScope s_stop) := ⟨rfl, rfl, rfl, by decide +kernel, rfl, by decide +kernel, by decide +kernel⟩
theorem ok_stop (T : Txt K mg a) : FnOk P w K mg base CX0 1 a.f_stop a.d_stop ["game"] (sp0 a.C K .halt_) := by
  refine T.F_stop.ok sc_stop (fun vs H Q E h => ?_) (fun cdv A0 outer s0 H vs Q E hr h => ?_)
  · obtain ⟨A, s, t, rfl, _⟩ := h
    rfl
  · obtain ⟨A, s, t, rfl, g, hW, ht, q⟩ := h
    refine ⟨_, pss_cons (ps_if (pt_not (pt_val (pe_fld (pe_fld (pv 0) rfl) rfl))) (pss_one (ps_ret (pe_lst (pa_cons (pe_cint rfl T.c_SWITCHED_WRONG) pa_nil)))) pss_nil)
      (pss_cons (ps_fld (pe_fld (pv 0) rfl) pe_bl rfl) (pss_one (ps_ret (pe_lst (pa_cons pe_int pa_nil))))), ?_⟩
    obtain ⟨dg, hg⟩ := g.g_
    obtain ⟨du, hu⟩ := g.u_
    have q : Ans a.C K H A s (if s.on = false then (s, [-6]) else ({ s with on := false }, [0])) Q := q
    refine ⟨_, rfl, ⟨_, _, _, _, _, rfl, hg, T.cl_G, T.nG_umpire, lkG_umpire, (⟨_, _, _, _, _, rfl, hu, T.cl_U, T.nU_on, lkU_on, ⟨_, rfl, ?_⟩⟩)⟩⟩
    cases hon : s.on with
    | false =>
      rw [if_pos hon] at q
      exact iteT ⟨by show 1 ≤ sizeLine; decide, fun b hb => q.lay T.ne g Fx.refl hb rfl (by show 1 ≤ 1000; decide)⟩
    | true =>
      rw [if_neg (by rw [hon]; decide)] at q
      refine iteF ⟨_, rfl, ⟨_, _, _, _, _, rfl, hg, T.cl_G, T.nG_umpire, lkG_umpire, (sto hu T.cl_U T.nU_on lenU (pfU_on (on' := false)) ⟨by show 1 ≤ sizeLine; decide, fun b hb => ?_⟩)⟩⟩
      exact q.lay T.ne (g.putU T.ne (dx := du) (on := false) (se := s.season) (de := s.deadline)) (Fx.put (r := .u) True.intro) hb rfl (by show 1 ≤ 1000; decide)

theorem sc_start : FnScope ["game"] ["game"] (defScope s_start) := ⟨rfl, rfl, rfl, by decide +kernel, rfl, by decide +kernel, by decide +kernel⟩
theorem ok_start (T : Txt K mg a) : FnOk P w K mg base CX0 5 a.f_start a.d_start ["game"] (sp0 a.C K .start_) := by
  refine T.F_start.ok sc_start (fun vs H Q E h => ?_) (fun cdv A0 outer s0 H vs Q E hr h => ?_)
  · obtain ⟨A, s, t, rfl, _⟩ := h
    rfl
  · obtain ⟨A, s, t, rfl, g, hW, ht, q⟩ := h
    refine ⟨_, pss_cons (ps_if (pt_val (pe_fld (pe_fld (pv 0) rfl) rfl)) (pss_one (ps_ret (pe_lst (pa_cons (pe_cint rfl T.c_SWITCHED_WRONG) pa_nil)))) pss_nil)
      (pss_cons (ps_fld (pe_fld (pv 0) rfl) pe_bl rfl)
      (pss_cons (ps_expr (pe_call (ok_end_season_if_due T) hr rfl T.g_end_season_if_due T.F_end_season_if_due.kp T.B_end_season_if_due .nil pass0 (pa_cons (pv 0) pa_nil)))
      (pss_one (ps_ret (pe_lst (pa_cons (pe_fld (pe_fld (pv 0) rfl) rfl) pa_nil)))))), ?_⟩
    obtain ⟨dg, hg⟩ := g.g_
    obtain ⟨du, hu⟩ := g.u_
    have q : Ans a.C K H A s (if s.on = true then (s, [-6]) else (Vbsoaj.timed { s with on := true }, Vbsoaj.ints [(Vbsoaj.timed { s with on := true }).season])) Q := q
    refine ⟨_, rfl, ⟨_, _, _, _, _, rfl, hg, T.cl_G, T.nG_umpire, lkG_umpire, (⟨_, _, _, _, _, rfl, hu, T.cl_U, T.nU_on, lkU_on, ⟨_, rfl, ?_⟩⟩)⟩⟩
    cases hon : s.on with
    | true =>
      rw [if_pos hon] at q
      exact iteT ⟨by show 1 ≤ sizeLine; decide, fun b hb => q.lay T.ne g Fx.refl hb rfl (by show 1 ≤ 1000; decide)⟩
    | false =>
      rw [if_neg (by rw [hon]; decide)] at q
      refine iteF ⟨_, rfl, ⟨_, _, _, _, _, rfl, hg, T.cl_G, T.nG_umpire, lkG_umpire, (sto hu T.cl_U T.nU_on lenU (pfU_on (on' := true)) ?_)⟩⟩
      have g1 := g.putU T.ne (dx := du) (on := true) (se := s.season) (de := s.deadline)
      refine ⟨_, rfl, A, { s with on := true }, rfl, g1, by show s.opened.length ≤ 1000; rw [hW.op]; have := hW.opt; omega, hW.n7, fun H' A' g' f' => ?_⟩
      have f1 : Fx H A s.clients.length H' A' s.clients.length := (Fx.put (r := .u) True.intro).trans f'
      obtain ⟨dg', hg'⟩ := g'.g_
      obtain ⟨du', hu'⟩ := g'.u_
      have eg : A' .g = A .g := f'.g
      refine ⟨_, rfl, ?_⟩
      rw [← eg]
      refine ⟨_, _, _, _, _, rfl, hg', T.cl_G, T.nG_umpire, lkG_umpire, (⟨_, _, _, _, _, rfl, hu', T.cl_U, T.nU_season, lkU_season, ⟨by show 1 ≤ sizeLine; decide, fun b hb => ?_⟩⟩)⟩
      refine q.lay T.ne g' ?_ hb rfl (by show 1 ≤ 1000; decide)
      show Fx H A s.clients.length H' A' (Vbsoaj.timed { s with on := true }).clients.length
      rw [timed_clients]
      exact f1

/-! ### begin -/
def spBegin (C : Cl) (K : PySem.W.Frag) : Sp := fun vs H Q _ => ∃ (A : Ro → Addr) (s : Vbsoaj.State) (n sp rm : Int), vs = [.ref (A .g), .int n, .int sp, .int rm] ∧ Gm C K H A s ∧ Vbsoaj.inRange s (.begin_ n sp rm) = true ∧ Ans C K H A s (Vbsoaj.does s (.begin_ n sp rm)) Q
theorem sc_begin : FnScope ["game", "powers", "span", "room"] ["game", "powers", "span", "room"] (defScope s_begin) := ⟨rfl, rfl, rfl, by decide +kernel, rfl, by decide +kernel, by decide +kernel⟩
theorem ok_begin (T : Txt K mg a) : FnOk P w K mg base CX0 7 a.f_begin a.d_begin ["game", "powers", "span", "room"] (spBegin a.C K) := by
  refine T.F_begin.ok sc_begin (fun vs H Q E h => ?_) (fun cdv A0 outer s0 H vs Q E hr h => ?_)
  · obtain ⟨A, s, n, sp, rm, rfl, _⟩ := h
    rfl
  · obtain ⟨A, s, n, sp, rm, rfl, g, hin, q⟩ := h
    refine ⟨_, pss_cons (ps_expr (pe_meth (pv 0) T.cl_G T.m_Game_lay_out (ok_Game_lay_out T) hr T.B_Game_lay_out .nil pass0 (pa_cons (pv 1) (pa_cons (pv 2) (pa_cons (pv 3) pa_nil)))))
      (pss_cons (ps_fld (pv 0) pe_bl rfl) (pss_one (ps_ret (pe_lst (pa_cons pe_int pa_nil))))), ?_⟩
    have hin : (Vbsoaj.within n 2 7 && Vbsoaj.within sp 1 1000000 && Vbsoaj.within rm 1 100) = true := hin
    unfold Vbsoaj.within at hin
    simp only [Bool.and_eq_true, decide_eq_true_iff] at hin
    obtain ⟨⟨h1, h2⟩, h3⟩ := hin
    obtain ⟨n', rfl⟩ : ∃ k : Nat, n = (k : Int) := ⟨n.toNat, by omega⟩
    obtain ⟨sp', rfl⟩ : ∃ k : Nat, sp = (k : Int) := ⟨sp.toNat, by omega⟩
    obtain ⟨rm', rfl⟩ : ∃ k : Nat, rm = (k : Int) := ⟨rm.toNat, by omega⟩
    obtain ⟨dg, hg⟩ := g.g_
    refine ⟨_, rfl, A .g, dg, _, rfl, hg, by kernel_rfl, _, rfl, _, rfl, _, rfl, A .g, dg, s.begun, _, n', sp', rm', rfl, hg, by show 7 ≤ 10; decide, layFs_old _ _ _ _ _ _ _, by omega, fun H' A' g' eg kp ow => ?_⟩
    obtain ⟨dg', hg'⟩ := g'.g_
    refine ⟨_, rfl, ?_⟩
    rw [← eg]
    refine sto hg' T.cl_G T.nG_begun lenG (pfG_begun (b' := true)) ⟨by show 1 ≤ sizeLine; decide, fun b hb => ?_⟩
    have g2 := g'.putG T.ne (dx := dg') (b := true) (sp := sp') (rm := rm') (nw := 0)
    have ed : Vbsoaj.does s (.begin_ (n' : Int) (sp' : Int) (rm' : Int)) = (fresh true n' sp' rm', [0]) := by
      show (({ begun := true, span := (sp' : Int).toNat, room := (rm' : Int).toNat, deadline := (sp' : Int).toNat, sheets := List.replicate (n' : Int).toNat {}, clients := List.replicate (n' : Int).toNat {} } : Vbsoaj.State), [0]) = _
      rw [Int.toNat_natCast, Int.toNat_natCast, Int.toNat_natCast]
      rfl
    rw [ed] at q
    have f1 : Fx H A s.clients.length H' A' n' := by
      refine ⟨fun x o e nx => kp x o e (fun z => nx ⟨.g, True.intro, z.symm⟩), fun x hx => ?_, eg, fun x o e => ?_⟩
      · rcases ow x hx with z | z
        · exact .inl ⟨.g, True.intro, z.symm⟩
        · exact .inr z
      · by_cases z : x = A .g
        · subst z
          rw [← eg]
          exact ⟨_, hg'⟩
        · exact ⟨o, kp x o e z⟩
    have e3 : (fresh true n' sp' rm').clients.length = n' := List.length_replicate ..
    refine q.lay T.ne (H1 := upd H' (A' .g) (.ins a.C.G dg' (fG true sp' rm' 0 (A' .ml) (A' .u) (A' .bl)))) (A1 := A') g2 ?_ hb rfl (by show 1 ≤ 1000; decide)
    show Fx H A s.clients.length _ A' (fresh true n' sp' rm').clients.length
    rw [e3]
    exact f1.trans (Fx.put (r := .g) True.intro)
end
end So

set_option Elab.async false
set_option linter.all false
set_option maxRecDepth 100000
set_option maxHeartbeats 4000000
/-! list.extend by a tuple -/
namespace So
open PySem PySem.Spec PyProof.Rows L2
theorem extend_tup (l b : Addr) (xs ys : Array Value) (n n2 : Nat) (dd : Option Addr) (sl : Array (Option Value)) (h0 : ¬(!xs.isEmpty && Builtin.List.listTooLong (xs.size + ys.size)) = true) (h1 : xs.size ≤ sizeLine)
    (h2 : (xs ++ ys).size ≤ sizeLine + 1) :
    Meets (Builtin.«list.extend» ⟨[.ref l, .ref b], []⟩) (fun _ R s => s.heap.get? l = some { cls := .type "list", dict := none, data := .seq xs n, slots := #[] } ∧
      s.heap.get? b = some { cls := .type "tuple", dict := dd, data := .seq ys n2, slots := sl } ∧ R (.ok (.ret Value.none)) { s with heap := s.heap.update l (Obj.mapSeq fun x => x ++ ys), toks := s.toks }) :=
  .of_wp fun prog w A R s h => by
    obtain ⟨hp, gg, dr, tk, os⟩ := s
    obtain ⟨hl, hb, h⟩ := h
    have f1 := AutoSeq1.idx_int
    have f2 := AutoSeq1.sub_tuple_tuple
    have f3 := AutoSeq1.sub_list_list
    have f4 := AutoSeq1.sub_tuple_list
    have f5 := AutoSeq1.sub_list_tuple
    wp_walk using (wpAny_updateSeq hl rfl (hz := h1) (_hz' := h2)), AutoSeq1.wpAny_loadPart' hl, AutoSeq1.wpAny_loadPart' hb
    exact ⟨_, rfl, h⟩
section
variable {X : Cx}
def rExtendT (K : PySem.W.Frag) : V → List V → Hp → VK → Prop := fun x vs H Q => ∃ l b xs zs, x = .ref l ∧ vs = [.ref b] ∧ H l = some (.lst xs) ∧ SqT K H b zs ∧ xs.length + zs.length ≤ sizeLine ∧ Q .non (upd H l (.lst (xs ++ zs)))
theorem mt_extendT : MtM X "list.extend" (rExtendT X.K) := by
  intro pins s σ H x vs v us Q I rx rv h
  obtain ⟨l, b, xs, zs, rfl, rfl, hH, hB, hz, q⟩ := h
  cases rx
  obtain ⟨u, rfl, ru⟩ := rv.one
  cases ru
  obtain ⟨z, its, n, r, hl, e⟩ := I.lstM hH
  obtain ⟨its2, r2, ⟨o, e2, hc, n2, hd⟩, z2⟩ := I.tuple hB
  have hl2 := r2.length
  obtain ⟨oc, od, dat, osl⟩ := o
  cases hc
  cases hd
  have hsz : its.toArray.size + its2.toArray.size ≤ sizeLine := by rw [List.size_toArray, List.size_toArray]; omega
  have hlong : ¬ (!its.toArray.isEmpty && Builtin.List.listTooLong (its.toArray.size + its2.toArray.size)) = true := by
    rw [notLongL hsz, Bool.and_false]
    exact Bool.false_ne_true
  refine call_meets F.slot_list_extend ⟨_, e, rfl⟩ F.entry_list_extend (F.args_list_extend_2 _ _)
    (extend_tup l b its.toArray its2.toArray n n2 od osl hlong (by rw [List.size_toArray]; omega) (by rw [Array.size_append]; omega)) ⟨e, e2, ?_⟩
  refine ⟨.non, _, I.lset (its' := its ++ its2) hH e (by simp) (r.append r2) ?_, rfl, q⟩
  rw [List.length_append]
  omega
end
end So

set_option Elab.async false
set_option linter.all false
set_option maxRecDepth 100000
set_option maxHeartbeats 4000000
namespace So
open PySem PySem.Spec PyProof.Rows L2
/-! ### many messages put -/
theorem puts_snoc (m : Vbsoaj.Msg) : ∀ (l : List Vbsoaj.Msg) (s : Vbsoaj.State), Vbsoaj.puts s (l ++ [m]) = Vbsoaj.puts (Vbsoaj.puts s l) [m]
  | [], _ => rfl
  | x :: l, s => by
    show (if Vbsoaj.full s = true then Vbsoaj.puts s (l ++ [m]) else Vbsoaj.puts { s with bag := s.bag ++ [x] } (l ++ [m])) = Vbsoaj.puts (if Vbsoaj.full s = true then Vbsoaj.puts s l else Vbsoaj.puts { s with bag := s.bag ++ [x] } l) [m]
    by_cases h : Vbsoaj.full s = true
    · rw [if_pos h, if_pos h, puts_snoc m l]
    · rw [if_neg h, if_neg h, puts_snoc m l]
theorem puts_opened : ∀ (l : List Vbsoaj.Msg) (s : Vbsoaj.State), (Vbsoaj.puts s l).opened = s.opened
  | [], _ => rfl
  | x :: l, s => by
    show (if Vbsoaj.full s = true then Vbsoaj.puts s l else Vbsoaj.puts { s with bag := s.bag ++ [x] } l).opened = _
    by_cases h : Vbsoaj.full s = true
    · rw [if_pos h]; exact puts_opened l s
    · rw [if_neg h]; exact puts_opened l _
theorem puts_more : ∀ (l : List Vbsoaj.Msg) (s : Vbsoaj.State), s.bag.length ≤ (Vbsoaj.puts s l).bag.length
  | [], _ => Nat.le_refl _
  | x :: l, s => by
    show s.bag.length ≤ (if Vbsoaj.full s = true then Vbsoaj.puts s l else Vbsoaj.puts { s with bag := s.bag ++ [x] } l).bag.length
    by_cases h : Vbsoaj.full s = true
    · rw [if_pos h]; exact puts_more l s
    · rw [if_neg h]
      refine Nat.le_trans ?_ (puts_more l _)
      show s.bag.length ≤ (s.bag ++ [x]).length
      rw [List.length_append]
      exact Nat.le_add_right _ _
theorem range_of {x lo hi : Int} (h : Vbsoaj.within x lo hi = true) : lo ≤ x ∧ x ≤ hi := by
  unfold Vbsoaj.within at h
  rw [Bool.and_eq_true, decide_eq_true_iff, decide_eq_true_iff] at h
  exact h
theorem get_ge {α : Type} {l : List α} {k : Nat} (h : l.length ≤ k) : l[k]? = none := List.getElem?_eq_none h
/-- the messages to the first i powers -/
def tells (k : Nat) (rows : List (Option Vbsoaj.Text)) (i : Nat) : List Vbsoaj.Msg := (List.range i).map fun p => .opened p k rows
theorem tells_succ (k : Nat) (rows : List (Option Vbsoaj.Text)) (i : Nat) : tells k rows (i + 1) = tells k rows i ++ [.opened i k rows] := by
  unfold tells
  rw [List.range_succ, List.map_append]
  rfl
section
variable {P : Program} {w : World} {K : PySem.W.Frag} {mg : Str → Option Value} {base : Heap} {a : Ad} {C : Cl}

theorem sc_tell : FnScope ["game", "season", "before", "p"] ["game", "season"] (defScope s_tell) := ⟨rfl, rfl, rfl, by decide +kernel, rfl, by decide +kernel, by decide +kernel⟩
theorem ok_tell (T : Txt K mg a) : FnOk P w K mg base CX0 5 a.f_tell a.d_tell ["game", "season"] (spD a.C K .tell) := by
  refine T.F_tell.ok sc_tell (fun vs H Q E h => ?_) (fun cdv A0 outer s0 H vs Q E hr h => ?_)
  · obtain ⟨A, s, p, t, rfl, _⟩ := h
    rfl
  · obtain ⟨A, s, k, t, rfl, g, hW, ht, hin, q⟩ := h
    refine ⟨_, pss_cons (ps_if (pt_not (pt_val (pe_fld (pe_fld (pv 0) rfl) rfl))) (pss_one (ps_ret (pe_lst (pa_cons (pe_cint rfl T.c_SWITCHED_WRONG) pa_nil)))) pss_nil)
      (pss_cons (ps_if (pt_cmpR op_ge (pv 1) (pe_callB call_len_seq (by rfl) T.b_len PySem.boot_len (pa_cons (pe_fld (pe_fld (pv 0) rfl) rfl) pa_nil)) (nomark _)) (pss_one (ps_ret (pe_lst (pa_cons (pe_cint rfl T.c_SEASON_NOT_THERE) pa_nil)))) pss_nil)
      (pss_cons (ps_set (i := 2) sc_tell.nd rfl (Or.inl rfl) (pe_callB call_len_seq (by rfl) T.b_len PySem.boot_len (pa_cons (pe_fld (pv 0) rfl) pa_nil)))
      (pss_cons (ps_for PassesOwn.never rfl (pi_range1 (by rfl) T.b_range (pa_cons (pe_callB call_len_seq (by rfl) T.b_len PySem.boot_len (pa_cons (pe_fld (pv 0) rfl) pa_nil)) pa_nil)) (pg_name (i := 3) sc_tell.nd rfl (Or.inl rfl))
        (pss_one (ps_expr (pe_call (ok_put_opened T) hr rfl T.g_put_opened T.F_put_opened.kp T.B_put_opened .nil pass0 (pa_cons (pv 0) (pa_cons (pv 3) (pa_cons (pv 1) pa_nil)))))))
      (pss_one (ps_ret (pe_lst (pa_cons (pe_op op_sub (pe_callB call_len_seq (by rfl) T.b_len PySem.boot_len (pa_cons (pe_fld (pv 0) rfl) pa_nil)) (pv 2)) pa_nil))))))), ?_⟩
    obtain ⟨k0, k1⟩ := range_of hin
    obtain ⟨n, rfl⟩ : ∃ n : Nat, k = (n : Int) := ⟨k.toNat, by omega⟩
    obtain ⟨dg, hg⟩ := g.g_
    obtain ⟨du, hu⟩ := g.u_
    obtain ⟨os, hol, pol⟩ := g.ol_
    obtain ⟨bs, hbl, pbl⟩ := g.bl_
    have ed : Vbsoaj.does s (.tell (n : Int)) = if s.on = false then (s, [-6]) else match s.opened[n]? with
        | none => (s, [-7])
        | some rows => (Vbsoaj.puts s (tells n rows s.clients.length), Vbsoaj.ints [(Vbsoaj.puts s (tells n rows s.clients.length)).bag.length - s.bag.length]) := by
      show (if s.on = false then _ else match s.opened[(n : Int).toNat]? with | none => _ | some rows => _) = _
      rw [Int.toNat_natCast]
      rfl
    rw [ed] at q
    refine ⟨_, rfl, ⟨_, _, _, _, _, rfl, hg, T.cl_G, T.nG_umpire, lkG_umpire, (⟨_, _, _, _, _, rfl, hu, T.cl_U, T.nU_on, lkU_on, ⟨_, rfl, ?_⟩⟩)⟩⟩
    cases hon : s.on with
    | false =>
      rw [if_pos hon] at q
      exact iteT ⟨by show 1 ≤ sizeLine; decide, fun b hb => q.lay T.ne g Fx.refl hb rfl (by show 1 ≤ 1000; decide)⟩
    | true =>
      rw [if_neg (by rw [hon]; decide)] at q
      refine iteF ⟨_, rfl, _, rfl, ⟨_, _, _, _, _, rfl, hg, T.cl_G, T.nG_umpire, lkG_umpire, (⟨_, _, _, _, _, rfl, hu, T.cl_U, T.nU_opened, lkU_opened, ⟨_, _, rfl, .inl (SqL.of hol), _, _, rfl, rfl, _, rfl, ?_⟩⟩)⟩⟩
      rw [List.length_map, pr_len pol]
      refine ite2 (fun h1 => ?_) (fun h1 => ?_)
      · have h1 : s.opened.length ≤ n := Int.ofNat_le.mp (of_decide_eq_true h1)
        rw [get_ge h1] at q
        exact ⟨by show 1 ≤ sizeLine; decide, fun b hb => q.lay T.ne g Fx.refl hb rfl (by show 1 ≤ 1000; decide)⟩
      · have h1 : ¬ s.opened.length ≤ n := fun z => h1 (decide_eq_true (Int.ofNat_le.mpr z))
        obtain ⟨rows, hrows⟩ := get_lt (l := s.opened) (k := n) (by omega)
        rw [hrows] at q
        have q : Ans a.C K H A s (Vbsoaj.puts s (tells n rows s.clients.length), Vbsoaj.ints [(Vbsoaj.puts s (tells n rows s.clients.length)).bag.length - s.bag.length]) Q := q
        refine ⟨_, rfl, ⟨_, _, _, _, _, rfl, hg, T.cl_G, T.nG_messages, lkG_messages, ⟨_, _, rfl, .inl (SqL.of hbl), ?_⟩⟩⟩
        refine ⟨_, rfl, ⟨_, _, _, _, _, rfl, hg, T.cl_G, T.nG_machines, lkG_machines, ⟨_, _, rfl, .inl (SqL.of g.ml_), (s.clients.length : Int), ?_, by omega, by have := hW.n7; omega, ?_⟩⟩⟩
        · rw [List.length_map, List.length_range]
        have n7 := hW.n7
        have ec : ∀ i, (Vbsoaj.puts s (tells n rows i)).clients.length = s.clients.length := fun i => by rw [puts_clients]
        have hWi : ∀ i, i ≤ s.clients.length → W t (Vbsoaj.puts s (tells n rows i)) := fun i hi => W.puts _ hW fun m hm => by
          obtain ⟨p, hp, rfl⟩ := List.mem_map.mp hm
          have := List.mem_range.mp hp
          show p < s.clients.length
          omega
        refine for_range (lo := 0) (n := (s.clients.length : Int).toNat) (fun i σ H' => ∃ v3 : Option V, σ = [some (.ref (A .g)), some (vN n), some (.int ((bs.map V.ref).length : Int)), v3] ∧
          Gm a.C K H' A (Vbsoaj.puts s (tells n rows i)) ∧ Fx H A s.clients.length H' A s.clients.length) ?_ ?_ ?_
        · exact ⟨none, rfl, g, Fx.refl⟩
        · rintro i σ H1 hi ⟨v3, rfl, g1, f1⟩
          rw [Int.toNat_natCast] at hi
          have w1 := hWi i (by omega)
          refine ⟨_, rfl, _, rfl, _, rfl, A, Vbsoaj.puts s (tells n rows i), i, n, rows, ?_, g1, by rw [puts_opened]; exact hrows, Nat.le_trans w1.room (Nat.le_trans w1.r100 (by decide)), fun H2 g2 f2 => ?_⟩
          · show [V.ref (A .g), V.int (0 + (i : Int)), vN n] = _
            rw [Int.zero_add]
          · rw [ec] at f2
            refine ⟨some (.int (0 + (i : Int))), rfl, ?_, f1.trans f2⟩
            rw [tells_succ, puts_snoc]
            exact g2
        · rintro σ H1 ⟨v3, rfl, g1, f1⟩
          rw [Int.toNat_natCast] at g1
          obtain ⟨dg1, hg1⟩ := g1.g_
          obtain ⟨bs1, hbl1, pbl1⟩ := g1.bl_
          refine ⟨_, rfl, ⟨_, _, _, _, _, rfl, hg1, T.cl_G, T.nG_messages, lkG_messages, ⟨_, _, rfl, .inl (SqL.of hbl1), _, rfl, _, _, rfl, rfl, by show 1 ≤ sizeLine; decide, fun b hb => ?_⟩⟩⟩
          refine q.lay T.ne g1 (by show Fx H A s.clients.length H1 A (Vbsoaj.puts s (tells n rows s.clients.length)).clients.length; rw [ec]; exact f1) hb ?_ (by show 1 ≤ 1000; decide)
          have hm := puts_more (tells n rows s.clients.length) s
          rw [List.length_map, List.length_map, pr_len pbl, pr_len pbl1]
          show [V.int _] = [V.int (Int.ofNat _)]
          congr 2
          show _ = (((Vbsoaj.puts s (tells n rows s.clients.length)).bag.length - s.bag.length : Nat) : Int)
          omega
end
end So

set_option Elab.async false
set_option linter.all false
set_option maxRecDepth 100000
set_option maxHeartbeats 4000000
namespace So
open PySem PySem.Spec PyProof.Rows L2
theorem ints_vN (l : List Nat) : (Vbsoaj.ints l).map V.int = l.map vN := by
  unfold Vbsoaj.ints
  rw [List.map_map]
  rfl
theorem ints_len (l : List Nat) : (Vbsoaj.ints l).length = l.length := by
  unfold Vbsoaj.ints
  rw [List.length_map]
section
variable {P : Program} {w : World} {K : PySem.W.Frag} {mg : Str → Option Value} {base : Heap} {a : Ad} {C : Cl}

/-! ### see -/
theorem sc_see : FnScope ["game", "p", "machine", "known"] ["game", "p"] (defScope s_see) := ⟨rfl, rfl, rfl, by decide +kernel, rfl, by decide +kernel, by decide +kernel⟩
theorem ok_see (T : Txt K mg a) : FnOk P w K mg base CX0 1 a.f_see a.d_see ["game", "p"] (spD a.C K .see) := by
  refine T.F_see.ok sc_see (fun vs H Q E h => ?_) (fun cdv A0 outer s0 H vs Q E hr h => ?_)
  · obtain ⟨A, s, p, t, rfl, _⟩ := h
    rfl
  · obtain ⟨A, s, p, t, rfl, g, hW, ht, hin, q⟩ := h
    refine ⟨_, pss_cons (ps_set (i := 2) sc_see.nd rfl (Or.inl rfl) (pe_ix ix_list (pe_fld (pv 0) rfl) (pv 1) (fun _ _ => rfl)))
      (pss_cons (ps_set (i := 3) sc_see.nd rfl (Or.inl rfl) (pe_lst (pa_cons (pe_fld (pv 2) rfl) (pa_cons (pe_fld (pv 2) rfl) (pa_cons (pe_fld (pv 2) rfl) pa_nil)))))
      (pss_cons (ps_if (pt_cmpR op_isN (pe_fld (pv 2) rfl) pe_non (nomark _)) (pss_one (ps_ret (pe_op op_cat (pv 3) (pe_lst (pa_cons pe_int pa_nil))))) pss_nil)
      (pss_one (ps_ret (pe_op op_cat (pe_op op_cat (pv 3) (pe_lst (pa_cons pe_int pa_nil))) (pe_callTy call_list_of (by rfl) T.b_list (by decide +kernel) (pa_cons (pe_fld (pv 2) rfl) pa_nil))))))), ?_⟩
    obtain ⟨pn, rfl, hpn⟩ := power_of hin
    obtain ⟨dg, hg⟩ := g.g_
    obtain ⟨c, dm, d, hc, hmm, hd⟩ := g.m_ hpn
    refine ⟨_, rfl, ⟨_, _, _, _, _, rfl, hg, T.cl_G, T.nG_machines, lkG_machines, ⟨_, rfl, _, _, _, _, rfl, rfl, SqL.of g.ml_, atI_nat (g.mAt hpn), ?_⟩⟩⟩
    refine ⟨_, rfl, ⟨_, _, _, _, _, rfl, hmm, T.cl_M, T.nM_season, lkM_season, ⟨_, rfl, ⟨_, _, _, _, _, rfl, hmm, T.cl_M, T.nM_version, lkM_version, ⟨_, rfl, ⟨_, _, _, _, _, rfl, hmm, T.cl_M, T.nM_acknowledged, lkM_acknowledged, ⟨by show 3 ≤ sizeLine; decide, fun l hl => ?_⟩⟩⟩⟩⟩⟩⟩
    have sm1 : Same H (upd H l (.lst [vN c.season, vN c.version, vN c.acked])) := same_new hl
    have hm1 := sm1 _ _ hmm
    refine ⟨_, rfl, ⟨_, _, _, _, _, rfl, hm1, T.cl_M, T.nM_draft, lkM_draft, ⟨rfl, _, rfl, ?_⟩⟩⟩
    have ed : Vbsoaj.does s (.see (pn : Int)) = (s, Vbsoaj.ints ([c.season, c.version, c.acked] ++ (match c.draft with
        | none => [0]
        | some t => 1 :: Vbsoaj.textNumbers t))) := by
      show (s, Vbsoaj.ints ([(Vbsoaj.clientAt s (pn : Int).toNat).season, (Vbsoaj.clientAt s (pn : Int).toNat).version, (Vbsoaj.clientAt s (pn : Int).toNat).acked] ++ (match (Vbsoaj.clientAt s (pn : Int).toNat).draft with | none => _ | some t => _))) = _
      rw [Int.toNat_natCast, clientAt_of hc]
    rw [ed] at q
    cases hdr : c.draft with
    | none =>
      rw [hdr] at q hd
      have hd : d = .non := hd
      subst hd
      refine ite2 (fun _ => ⟨_, rfl, by show 1 ≤ sizeLine; decide, fun b hb => ?_⟩) (fun z => absurd (decide_eq_true rfl) z)
      have sm2 := sm1.trans (same_new (o := HO.lst [V.int 0]) hb)
      refine ⟨l, b, _, _, rfl, rfl, by rw [upd_ne (ne_of_none upd_same hb)]; exact upd_same, upd_same, by show 4 ≤ sizeLine; decide, fun e he => ?_⟩
      exact q.lay T.ne (g.same T.ne sm2) (Fx.same sm2) he rfl (by show 4 ≤ 1000; decide)
    | some tx =>
      rw [hdr] at q hd
      obtain ⟨wr, rfl, hw⟩ := hd
      have q : Ans a.C K H A s (s, Vbsoaj.ints ([c.season, c.version, c.acked] ++ 1 :: Vbsoaj.textNumbers tx)) Q := q
      refine ite2 (fun z => absurd (of_decide_eq_true z) (by intro z; cases z)) (fun _ => ⟨_, rfl, by show 1 ≤ sizeLine; decide, fun b hb => ?_⟩)
      have sm2 := sm1.trans (same_new (o := HO.lst [V.int 1]) hb)
      refine ⟨l, b, _, _, rfl, rfl, by rw [upd_ne (ne_of_none upd_same hb)]; exact upd_same, upd_same, by show 4 ≤ sizeLine; decide, fun e he => ?_⟩
      have sm3 := sm2.trans (same_new (o := HO.lst ([vN c.season, vN c.version, vN c.acked] ++ [V.int 1])) he)
      refine ⟨_, rfl, ⟨_, _, _, _, _, rfl, (sm3 _ _ hmm), T.cl_M, T.nM_draft, lkM_draft, ⟨_, _, rfl, .inr ((Ext.same (C := a.C) sm3).wr hw).1, fun x hx => ?_⟩⟩⟩
      have sm4 := sm3.trans (same_new (o := HO.lst ((Vbsoaj.textNumbers tx).map vN)) hx)
      have hlen := hw.2
      refine ⟨e, x, _, _, rfl, rfl, by rw [upd_ne (ne_of_none upd_same hx)]; exact upd_same, upd_same, ?_, fun y hy => ?_⟩
      · rw [List.length_map]
        show 4 + (Vbsoaj.textNumbers tx).length ≤ sizeLine
        exact line_bigE (by omega)
      · refine q.lay T.ne (g.same T.ne sm4) (Fx.same sm4) hy ?_ ?_
        · show _ = (Vbsoaj.ints ([c.season, c.version, c.acked] ++ 1 :: Vbsoaj.textNumbers tx)).map V.int
          rw [ints_vN]
          rfl
        · show (Vbsoaj.ints ([c.season, c.version, c.acked] ++ 1 :: Vbsoaj.textNumbers tx)).length ≤ 1000
          rw [ints_len]
          show (Vbsoaj.textNumbers tx).length + 1 + 1 + 1 + 1 ≤ 1000
          omega

/-! ### got -/
theorem flat_len_le {H : Hp} : ∀ {as : List Addr} {rows : List (Option Vbsoaj.Text)}, Paired (Wr K H) as rows → (rows.flatMap Vbsoaj.textNumbers).length ≤ 122 * rows.length
  | _, _, .nil => Nat.le_refl _
  | _, _, .cons h t => by
    have := flat_len_le t
    have := h.2
    rw [List.flatMap_cons, List.length_append, List.length_cons]
    omega
theorem take_flat {α β : Type} (f : α → List β) (l : List α) (i : Nat) : ((l.take i).flatMap f).length ≤ (l.flatMap f).length := by
  have e : l.flatMap f = (l.take i).flatMap f ++ (l.drop i).flatMap f := by rw [← List.flatMap_append, List.take_append_drop]
  rw [e, List.length_append]
  exact Nat.le_add_right _ _
def spGot (C : Cl) (K : PySem.W.Frag) : Sp := fun vs H Q _ => ∃ (A : Ro → Addr) (s : Vbsoaj.State) (p k : Int), vs = [.ref (A .g), .int p, .int k] ∧ Gm C K H A s ∧ Vbsoaj.inRange s (.got p k) = true ∧ Ans C K H A s (Vbsoaj.does s (.got p k)) Q
theorem sc_got : FnScope ["game", "p", "season", "rows", "told", "written"] ["game", "p", "season"] (defScope s_got) := ⟨rfl, rfl, rfl, by decide +kernel, rfl, by decide +kernel, by decide +kernel⟩
theorem ok_got (T : Txt K mg a) : FnOk P w K mg base CX0 1 a.f_got a.d_got ["game", "p", "season"] (spGot a.C K) := by
  refine T.F_got.ok sc_got (fun vs H Q E h => ?_) (fun cdv A0 outer s0 H vs Q E hr h => ?_)
  · obtain ⟨A, s, p, k, rfl, _⟩ := h
    rfl
  · obtain ⟨A, s, p, k, rfl, g, hin, q⟩ := h
    refine ⟨_, pss_cons (ps_set (i := 3) sc_got.nd rfl (Or.inl rfl) (pe_fld (pe_ix ix_list (pe_fld (pv 0) rfl) (pv 1) (fun _ _ => rfl)) rfl))
      (pss_cons (ps_if (pt_cmpR op_ge (pv 2) (pe_callB call_len_seq (by rfl) T.b_len PySem.boot_len (pa_cons (pv 3) pa_nil)) (nomark _)) (pss_one (ps_ret (pe_lst (pa_cons (pe_cint rfl T.c_SEASON_NOT_THERE) pa_nil)))) pss_nil)
      (pss_cons (ps_set (i := 4) sc_got.nd rfl (Or.inl rfl) (pe_lst pa_nil))
      (pss_cons (ps_for PassesOwn.never rfl (pi_tup (pe_ix ix_list (pv 3) (pv 2) (fun _ _ => rfl))) (pg_name (i := 5) sc_got.nd rfl (Or.inl rfl))
        (pss_one (ps_expr (pe_bm PySem.F.plainAttrs_list PySem.F.slot_list_extend PySem.F.type_list_extend mt_extendT (pv 4) (pa_cons (pv 5) pa_nil)))))
      (pss_one (ps_ret (pv 4)))))), ?_⟩
    have hin : (Vbsoaj.isPower s p && Vbsoaj.within k 0 1000000) = true := hin
    rw [Bool.and_eq_true] at hin
    obtain ⟨pn, rfl, hpn⟩ := power_of hin.1
    obtain ⟨k0, k1⟩ := range_of hin.2
    obtain ⟨n, rfl⟩ : ∃ n : Nat, k = (n : Int) := ⟨k.toNat, by omega⟩
    obtain ⟨dg, hg⟩ := g.g_
    obtain ⟨c, dm, d, hc, hmm, hd⟩ := g.m_ hpn
    obtain ⟨c2, rs, hc2, hrl, prs⟩ := g.r_ hpn
    have ec : c2 = c := Option.some.inj (hc2.symm.trans hc)
    subst ec
    have ed : Vbsoaj.does s (.got (pn : Int) (n : Int)) = match c2.got[n]? with
        | none => (s, [-7])
        | some rows => (s, Vbsoaj.ints (rows.flatMap Vbsoaj.textNumbers)) := by
      show (match (Vbsoaj.clientAt s (pn : Int).toNat).got[(n : Int).toNat]? with | none => _ | some rows => _) = _
      rw [Int.toNat_natCast, Int.toNat_natCast, clientAt_of hc]
      all_goals rfl
    rw [ed] at q
    refine ⟨_, rfl, ⟨_, _, _, _, _, rfl, hg, T.cl_G, T.nG_machines, lkG_machines, ⟨_, rfl, _, _, _, _, rfl, rfl, SqL.of g.ml_, atI_nat (g.mAt hpn), ⟨_, _, _, _, _, rfl, hmm, T.cl_M, T.nM_rows, lkM_rows, ?_⟩⟩⟩⟩
    refine ⟨_, rfl, _, rfl, _, _, rfl, .inl (SqL.of hrl), _, _, rfl, rfl, _, rfl, ?_⟩
    rw [List.length_map, pr_len prs]
    refine ite2 (fun h1 => ?_) (fun h1 => ?_)
    · have h1 : c2.got.length ≤ n := Int.ofNat_le.mp (of_decide_eq_true h1)
      rw [get_ge h1] at q
      exact ⟨by show 1 ≤ sizeLine; decide, fun b hb => q.lay T.ne g Fx.refl hb rfl (by show 1 ≤ 1000; decide)⟩
    · have h1 : ¬ c2.got.length ≤ n := fun z => h1 (decide_eq_true (Int.ofNat_le.mpr z))
      obtain ⟨rows, hrows⟩ := get_lt (l := c2.got) (k := n) (by omega)
      rw [hrows] at q
      have q : Ans a.C K H A s (s, Vbsoaj.ints (rows.flatMap Vbsoaj.textNumbers)) Q := q
      obtain ⟨r, hr1, as, hr2, pas, h7⟩ := pr_get prs hrows
      have hfl := flat_len_le pas
      have hrl7 : rows.length ≤ 7 := by rw [← pr_len pas]; exact h7
      refine ⟨by show 0 ≤ sizeLine; decide, fun lt hlt => ?_⟩
      have smo : ∀ o, Same H (upd H lt o) := fun o => same_new hlt
      refine ⟨_, rfl, _, rfl, _, _, _, V.ref r, rfl, rfl, SqL.of (smo _ _ _ hrl), atI_nat (by rw [List.getElem?_map, hr1]; rfl), r, rfl, ⟨_, (Ext.same (C := a.C) (smo _)).sqT hr2⟩, ?_⟩
      refine for_tup (K := K) (a := r) (xs := as.map V.ref) (fun i σ H' => ∃ v5 : Option V, σ = [some (.ref (A .g)), some (vN pn), some (vN n), some (.ref (A (.r pn))), some (.ref lt), v5] ∧
        H' = upd H lt (.lst (((rows.take i).flatMap Vbsoaj.textNumbers).map vN))) ⟨none, rfl, rfl⟩ ?_ ?_ ?_
      · rintro i σ H1 hi ⟨v5, rfl, rfl⟩
        exact (Ext.same (C := a.C) (smo _)).sqT hr2
      · rintro i x σ H1 hx ⟨v5, rfl, rfl⟩
        rw [List.getElem?_map] at hx
        cases ea : as[i]? with
        | none => rw [ea] at hx; cases hx
        | some wa =>
          rw [ea] at hx
          have ex : V.ref wa = x := Option.some.inj hx
          subst ex
          obtain ⟨tx, htx, hwa⟩ := pr_getL pas ea
          have htf := take_flat Vbsoaj.textNumbers rows i
          have hw2 := hwa.2
          refine ⟨_, rfl, .inl ⟨rfl, _, SqL.of upd_same⟩, _, rfl, lt, wa, _, _, rfl, rfl, upd_same, (Ext.same (C := a.C) (smo _)).sqT hwa.1, ?_, ?_⟩
          · rw [List.length_map, List.length_map]
            exact line_bigE (by omega)
          · refine ⟨some (.ref wa), rfl, ?_⟩
            rw [upd_upd, take_snoc htx, List.flatMap_append, List.map_append]
            congr 4
            show _ = Vbsoaj.textNumbers tx ++ []
            rw [List.append_nil]
      · rintro σ H1 ⟨v5, rfl, rfl⟩
        refine ⟨_, rfl, ?_⟩
        refine q.lay T.ne g Fx.refl hlt ?_ ?_
        · show _ = (Vbsoaj.ints (rows.flatMap Vbsoaj.textNumbers)).map V.int
          rw [ints_vN, List.length_map, pr_len pas, List.take_length]
        · show (Vbsoaj.ints (rows.flatMap Vbsoaj.textNumbers)).length ≤ 1000
          rw [ints_len]
          omega

/-! ### umpire -/
theorem sc_show_umpire : FnScope ["game", "umpire"] ["game"] (defScope s_show_umpire) := ⟨rfl, rfl, rfl, by decide +kernel, rfl, by decide +kernel, by decide +kernel⟩
theorem ok_show_umpire (T : Txt K mg a) : FnOk P w K mg base CX0 1 a.f_show_umpire a.d_show_umpire ["game"] (sp0 a.C K .umpire) := by
  refine T.F_show_umpire.ok sc_show_umpire (fun vs H Q E h => ?_) (fun cdv A0 outer s0 H vs Q E hr h => ?_)
  · obtain ⟨A, s, t, rfl, _⟩ := h
    rfl
  · obtain ⟨A, s, t, rfl, g, hW, ht, q⟩ := h
    refine ⟨_, pss_cons (ps_set (i := 1) sc_show_umpire.nd rfl (Or.inl rfl) (pe_fld (pv 0) rfl))
      (pss_one (ps_ret (pe_lst (pa_cons (pe_ifExp (pt_val (pe_fld (pv 1) rfl)) pe_int pe_int) (pa_cons (pe_fld (pv 0) rfl) (pa_cons (pe_fld (pv 1) rfl) (pa_cons (pe_fld (pv 1) rfl) pa_nil))))))), ?_⟩
    obtain ⟨dg, hg⟩ := g.g_
    obtain ⟨du, hu⟩ := g.u_
    refine ⟨_, rfl, ⟨_, _, _, _, _, rfl, hg, T.cl_G, T.nG_umpire, lkG_umpire, ⟨_, rfl, ⟨_, _, _, _, _, rfl, hu, T.cl_U, T.nU_on, lkU_on, ⟨_, rfl, ?_⟩⟩⟩⟩⟩
    have q : Ans a.C K H A s (s, Vbsoaj.ints [Vbsoaj.bit s.on, s.now, s.season, s.deadline]) Q := q
    cases hon : s.on with
    | true =>
      rw [hon] at q
      exact iteT ⟨_, rfl, ⟨_, _, _, _, _, rfl, hg, T.cl_G, T.nG_now, lkG_now, ⟨_, rfl, ⟨_, _, _, _, _, rfl, hu, T.cl_U, T.nU_season, lkU_season, ⟨_, rfl, ⟨_, _, _, _, _, rfl, hu, T.cl_U, T.nU_deadline, lkU_deadline, ⟨by show 4 ≤ sizeLine; decide, fun b hb => q.lay T.ne g Fx.refl hb rfl (by show 4 ≤ 1000; decide)⟩⟩⟩⟩⟩⟩⟩
    | false =>
      rw [hon] at q
      exact iteF ⟨_, rfl, ⟨_, _, _, _, _, rfl, hg, T.cl_G, T.nG_now, lkG_now, ⟨_, rfl, ⟨_, _, _, _, _, rfl, hu, T.cl_U, T.nU_season, lkU_season, ⟨_, rfl, ⟨_, _, _, _, _, rfl, hu, T.cl_U, T.nU_deadline, lkU_deadline, ⟨by show 4 ≤ sizeLine; decide, fun b hb => q.lay T.ne g Fx.refl hb rfl (by show 4 ≤ 1000; decide)⟩⟩⟩⟩⟩⟩⟩

/-! ### bag -/
theorem msg_fX {H : Hp} {x : Addr} : ∀ {m : Vbsoaj.Msg}, MsgAt C K H x m → ∃ (kd p k v : Nat) (dx : Addr) (w r : V), H x = some (.ins C.X dx (fX kd p k v w r)) ∧ Vbsoaj.msgNumbers m = [kd, p, k, v]
  | .hand .., h => by
    obtain ⟨dx, w, r, h1, _⟩ := h
    exact ⟨_, _, _, _, dx, _, _, h1, rfl⟩
  | .receipt .., h => by
    obtain ⟨dx, w, r, h1⟩ := h
    exact ⟨_, _, _, _, dx, _, _, h1, rfl⟩
  | .ask .., h => by
    obtain ⟨dx, w, r, h1⟩ := h
    exact ⟨_, _, _, _, dx, _, _, h1, rfl⟩
  | .opened .., h => by
    obtain ⟨dx, w, r, h1, _⟩ := h
    exact ⟨_, _, _, _, dx, _, _, h1, rfl⟩
theorem msg_len (m : Vbsoaj.Msg) : (Vbsoaj.msgNumbers m).length = 4 := by cases m <;> rfl
theorem bag_len : ∀ l : List Vbsoaj.Msg, (l.flatMap Vbsoaj.msgNumbers).length = 4 * l.length
  | [] => rfl
  | m :: l => by
    rw [List.flatMap_cons, List.length_append, bag_len l, msg_len, List.length_cons]
    omega
theorem sc_show_bag : FnScope ["game", "told", "message"] ["game"] (defScope s_show_bag) := ⟨rfl, rfl, rfl, by decide +kernel, rfl, by decide +kernel, by decide +kernel⟩
theorem ok_show_bag (T : Txt K mg a) : FnOk P w K mg base CX0 1 a.f_show_bag a.d_show_bag ["game"] (sp0 a.C K .bag) := by
  refine T.F_show_bag.ok sc_show_bag (fun vs H Q E h => ?_) (fun cdv A0 outer s0 H vs Q E hr h => ?_)
  · obtain ⟨A, s, t, rfl, _⟩ := h
    rfl
  · obtain ⟨A, s, t, rfl, g, hW, ht, q⟩ := h
    refine ⟨_, pss_cons (ps_set (i := 1) sc_show_bag.nd rfl (Or.inl rfl) (pe_lst (pa_cons (pe_callB call_len_seq (by rfl) T.b_len PySem.boot_len (pa_cons (pe_fld (pv 0) rfl) pa_nil)) pa_nil)))
      (pss_cons (ps_for PassesOwn.never rfl (pi_list (pe_fld (pv 0) rfl)) (pg_name (i := 2) sc_show_bag.nd rfl (Or.inl rfl))
        (pss_one (ps_expr (pe_bm PySem.F.plainAttrs_list PySem.F.slot_list_extend PySem.F.type_list_extend mt_extend (pv 1) (pa_cons (pe_lst (pa_cons (pe_fld (pv 2) rfl) (pa_cons (pe_fld (pv 2) rfl) (pa_cons (pe_fld (pv 2) rfl) (pa_cons (pe_fld (pv 2) rfl) pa_nil))))) pa_nil)))))
      (pss_one (ps_ret (pv 1)))), ?_⟩
    obtain ⟨dg, hg⟩ := g.g_
    obtain ⟨as, hb, pr⟩ := g.bl_
    have hl := pr_len pr
    have hz := Nat.le_trans hW.room hW.r100
    have q : Ans a.C K H A s (s, Vbsoaj.ints (s.bag.length :: s.bag.flatMap Vbsoaj.msgNumbers)) Q := q
    refine ⟨_, rfl, ⟨_, _, _, _, _, rfl, hg, T.cl_G, T.nG_messages, lkG_messages, ⟨_, _, rfl, .inl (SqL.of hb), by show 1 ≤ sizeLine; decide, fun lt hlt => ?_⟩⟩⟩
    rw [List.length_map, hl]
    have sm0 : Same H (upd H lt (.lst [V.int (s.bag.length : Int)])) := same_new hlt
    refine ⟨_, rfl, ⟨_, _, _, _, _, rfl, (sm0 _ _ hg), T.cl_G, T.nG_messages, lkG_messages, ⟨A .bl, rfl, ⟨_, SqL.of (sm0 _ _ hb)⟩, ?_⟩⟩⟩
    refine for_list (K := K) (a := A .bl) (xs := as.map V.ref) (fun i σ H' => ∃ v2 : Option V, σ = [some (.ref (A .g)), some (.ref lt), v2] ∧ Same H H' ∧
      H' lt = some (.lst ((s.bag.length :: (s.bag.take i).flatMap Vbsoaj.msgNumbers).map vN))) ⟨none, rfl, sm0, upd_same⟩ ?_ ?_ ?_
    · rintro i σ H1 hi ⟨v2, rfl, sm, h1⟩
      exact SqL.of (sm _ _ hb)
    · rintro i x σ H1 hx ⟨v2, rfl, sm, h1⟩
      rw [List.getElem?_map] at hx
      cases ea : as[i]? with
      | none => rw [ea] at hx; cases hx
      | some xa =>
        rw [ea] at hx
        have ex : V.ref xa = x := Option.some.inj hx
        subst ex
        obtain ⟨m, hm, hmx⟩ := pr_getL pr ea
        obtain ⟨kd, p, k, v, dx, wx, rx, hxa, en⟩ := msg_fX hmx
        have hx1 := sm _ _ hxa
        have htf := take_flat Vbsoaj.msgNumbers s.bag i
        rw [bag_len s.bag] at htf
        refine ⟨_, rfl, .inl ⟨rfl, _, SqL.of h1⟩, _, rfl, ⟨_, _, _, _, _, rfl, hx1, T.cl_X, T.nX_kind, lkX_kind, ⟨_, rfl, ⟨_, _, _, _, _, rfl, hx1, T.cl_X, T.nX_power, lkX_power, ⟨_, rfl, ⟨_, _, _, _, _, rfl, hx1, T.cl_X, T.nX_season, lkX_season, ⟨_, rfl, ⟨_, _, _, _, _, rfl, hx1, T.cl_X, T.nX_version, lkX_version, ⟨by show 4 ≤ sizeLine; decide, fun b hbn => ?_⟩⟩⟩⟩⟩⟩⟩⟩⟩
        have bl : lt ≠ b := ne_of_none h1 hbn
        refine ⟨lt, b, _, _, rfl, rfl, by rw [upd_ne bl]; exact h1, upd_same, ?_, ?_⟩
        · rw [List.length_map, List.length_cons]
          show _ + 4 ≤ sizeLine
          exact line_bigE (by omega)
        · refine ⟨some (.ref xa), rfl, fun y o e => ?_, ?_⟩
          · rw [upd_ne (ne_of_none e hlt)]
            exact same_new hbn _ _ (sm _ _ e)
          · rw [upd_same, take_snoc hm, List.flatMap_append, List.map_cons, List.map_cons, List.map_append]
            show some (HO.lst (_ :: _ ++ _)) = some (HO.lst (_ :: (_ ++ (Vbsoaj.msgNumbers m ++ []).map vN)))
            rw [List.append_nil, en]
            rfl
    · rintro σ H1 ⟨v2, rfl, sm, h1⟩
      refine ⟨_, rfl, ?_⟩
      rw [List.length_map, hl, List.take_length] at h1
      refine q H1 A lt (g.same T.ne sm) (Fx.same sm) ?_ hlt (g.notOwn T.ne hlt) ?_
      · show H1 lt = some (.lst ((Vbsoaj.ints (s.bag.length :: s.bag.flatMap Vbsoaj.msgNumbers)).map V.int))
        rw [ints_vN]
        exact h1
      · show (Vbsoaj.ints (s.bag.length :: s.bag.flatMap Vbsoaj.msgNumbers)).length ≤ 1000
        rw [ints_len, List.length_cons, bag_len]
        omega
end
end So

set_option Elab.async false
set_option linter.all false
set_option maxRecDepth 100000
set_option maxHeartbeats 4000000
namespace So
open PySem PySem.Spec PyProof.Rows L2
section
variable {P : Program} {w : World} {K : PySem.W.Frag} {mg : Str → Option Value} {base : Heap} {a : Ad} {C : Cl}

/-! ### a list that is only read -/
def Sf (K : PySem.W.Frag) (H : Hp) (b : Addr) (xs : List V) : Prop :=
  (∃ o, H b = some (.frz o (.lst xs))) ∨ ∃ (o : Obj) (its : Array Value) (n : Nat), K.lookup b = some o ∧ o.cls = .type "list" ∧ o.dict = none ∧ o.data = .seq its n ∧ its.size ≤ sizeLine ∧ Vals xs its.toList
theorem Sf.sq {H : Hp} {b : Addr} {xs : List V} (h : Sf K H b xs) : SqL K H b xs := by
  rcases h with h | h
  · exact .inl (.inr h)
  · exact .inr h
theorem Sf.ext {H H' : Hp} {b : Addr} {xs : List V} (h : Sf K H b xs) (e : Ext C H H') : Sf K H' b xs := by
  rcases h with ⟨o, h⟩ | h
  · exact .inl ⟨o, e _ _ h True.intro⟩
  · exact .inr h
theorem Sf.of {H : Hp} {b : Addr} {xs : List V} (h : SqL K H b xs) (o : OnlyF H) : Sf K H b xs := by
  rcases h with (h | ⟨u, h⟩) | h
  · rcases o b with z | ⟨ob, u, z⟩
    · rw [h] at z; cases z
    · rw [h] at z; cases z
  · exact .inl ⟨u, h⟩
  · exact .inr h

theorem cut_of {ns : List Int} {lo hi : Nat} (h1 : lo ≤ hi) (h2 : hi ≤ ns.length) : cutV (ns.map V.int) (some (lo : Int)) (some (hi : Int)) = ((ns.drop lo).take (hi - lo)).map V.int := by
  unfold cutV
  rw [HT.sIx_nat, HT.sIx_nat, List.length_map, Nat.min_eq_left (Nat.le_trans h1 h2), Nat.min_eq_left h2, ← List.map_drop, ← List.map_take]

/-! ### answer_call's promise -/
def spCall (C : Cl) (K : PySem.W.Frag) : Sp := fun vs H Q _ => ∃ (A : Ro → Addr) (s : Vbsoaj.State) (c : Vbsoaj.Call) (t : Nat) (ln lt : Addr), vs = [.ref (A .g), .int (enc c).1, .ref ln, .ref lt] ∧ Gm C K H A s ∧ W t s ∧ t ≤ 200 ∧
  H ln = some (.lst ((enc c).2.1.map V.int)) ∧ H lt = some (.lst ((enc c).2.2.map V.int)) ∧ (enc c).2.2.length ≤ 100000 ∧ Ans C K H A s (Vbsoaj.step s c) Q
/-- the numbers behind each call's own -/
def Arity (K : PySem.W.Frag) (b : Addr) : Prop := ∀ H : Hp, ∃ xs, SqT K H b xs ∧ ∀ c : Vbsoaj.Call, atI xs (enc c).1 = some (vN (enc c).2.1.length)

/-- the end of a turn: the call's answer is told -/
def lenR (K : PySem.W.Frag) : List V → Hp → VK → Prop := fun xs H Q => ∃ p ys, xs = [.ref p] ∧ (SqL K H p ys ∨ SqT K H p ys) ∧ Q (.int ys.length) H
def restT (C : Cl) (K : PySem.W.Frag) : TS := tSeq (tAsg (tCall (spCall C K) [] E0 (tCons (tVar 0) (tCons (tVar 4) (tCons (tVar 6) (tCons (tVar 7) tNil))))) (gName 9))
  (tSeq (tDrop (tBM K "list" rAppend (tVar 2) (tCons (tCB (lenR K) (tCons (tVar 9) tNil)) tNil))) (tSeq (tDrop (tBM K "list" rExtend (tVar 2) (tCons (tVar 9) tNil))) (tAsg (tVar 5) (gName 3))))
def spLine (C : Cl) (K : PySem.W.Frag) : Sp := fun vs H Q _ => ∃ (A : Ro → Addr) (lc : Addr) (cls : List Vbsoaj.Call) (ns : List Int), vs = [.ref (A .g), .ref lc] ∧ Gm C K H A Vbsoaj.start ∧ Sf K H lc (ns.map V.int) ∧ ns = cls.flatMap flat ∧ ns.length ≤ 100000 ∧ cls.length ≤ 200 ∧
  ∀ (H' : Hp) (l : Addr), H' l = some (.lst ((due Vbsoaj.start cls).map V.int)) → Q (.ref l) H'
theorem sc_answer_line : FnScope ["game", "calls", "told", "place", "call", "end", "numbers", "text", "first", "answer"] ["game", "calls"] (defScope s_answer_line) := ⟨rfl, rfl, rfl, by decide +kernel, rfl, by decide +kernel, by decide +kernel⟩
/-- what holds between two turns -/
structure Turn' (C : Cl) (K : PySem.W.Frag) (H : Hp) (A : Ro → Addr) (s : Vbsoaj.State) (lc lt : Addr) (cls : List Vbsoaj.Call) (ns : List Int) (pre rest : List Vbsoaj.Call) (told : List Int) : Prop where
  g : Gm C K H A s
  hW : W pre.length s
  hc : cls = pre ++ rest
  sf : Sf K H lc (ns.map V.int)
  hl : H lt = some (.lst (told.map V.int))
  out : ¬ Own A s.clients.length lt
  hd : told ++ due s rest = due Vbsoaj.start cls
  size : told.length ≤ 1001 * pre.length
def meas (n : Nat) (σ : List (Option V)) : Nat := match σ[3]? with
  | some (some (V.int p)) => n - p.toNat
  | _ => 0
theorem rest_ok (N : C.Ne) {H1 H2 : Hp} {A : Ro → Addr} {s : Vbsoaj.State} {lc lt ln lx : Addr} {cls : List Vbsoaj.Call} {ns : List Int} {pre rest : List Vbsoaj.Call} {c : Vbsoaj.Call} {told : List Int} (tn : Turn' C K H1 A s lc lt cls ns pre (c :: rest) told) (hcz : cls.length ≤ 200)
    {D : Ends} {v3 v8 v9 : Option V} {pl : Nat} (sm : Same H1 H2) (hln : H2 ln = some (.lst ((enc c).2.1.map V.int))) (hlx : H2 lx = some (.lst ((enc c).2.2.map V.int))) (hz : (enc c).2.2.length ≤ 100000)
    (q : ∀ H' A' v9, Turn' C K H' A' (Vbsoaj.step s c).1 lc lt cls ns (pre ++ [c]) rest (told ++ (((Vbsoaj.step s c).2.length : Int) :: (Vbsoaj.step s c).2)) → A' .g = A .g →
      D.nx [some (.ref (A .g)), some (.ref lc), some (.ref lt), some (vN pl), some (.int (enc c).1), some (vN pl), some (.ref ln), some (.ref lx), v8, v9] H') :
    restT C K D [some (.ref (A .g)), some (.ref lc), some (.ref lt), v3, some (.int (enc c).1), some (vN pl), some (.ref ln), some (.ref lx), v8, v9] H2 := by
  have hpre : pre.length + 1 ≤ 200 := by
    have e := tn.hc
    rw [e, List.length_append, List.length_cons] at hcz
    omega
  refine ⟨_, rfl, _, rfl, _, rfl, _, rfl, A, s, c, pre.length, ln, lx, rfl, tn.g.same N sm, tn.hW, by omega, hln, hlx, hz, fun H3 A3 l g3 f3 hl3 hl2 no hz3 => ?_⟩
  have hlt2 := sm _ _ tn.hl
  have hlt3 : H3 lt = some (.lst (told.map V.int)) := f3.keep _ _ hlt2 tn.out
  have out3 : ¬ Own A3 (Vbsoaj.step s c).1.clients.length lt := f3.out hlt2 tn.out
  have llt : l ≠ lt := fun z => by rw [z, hlt2] at hl2; cases hl2
  have hsz := tn.size
  refine ⟨_, rfl, .inl ⟨rfl, _, SqL.of hlt3⟩, _, rfl, _, _, rfl, .inl (SqL.of hl3), lt, _, _, rfl, rfl, hlt3, by rw [List.length_map]; exact line_big (by omega), ?_⟩
  refine ⟨_, rfl, .inl ⟨rfl, _, SqL.of upd_same⟩, _, rfl, lt, l, _, _, rfl, rfl, upd_same, by rw [upd_ne llt]; exact hl3, ?_, ?_⟩
  · rw [List.length_append, List.length_map, List.length_map, List.length_singleton]
    exact line_bigE (by omega)
  · rw [upd_upd]
    refine ⟨_, rfl, ?_⟩
    have e : told.map V.int ++ [V.int (((Vbsoaj.step s c).2.map V.int).length : Int)] ++ (Vbsoaj.step s c).2.map V.int = (told ++ (((Vbsoaj.step s c).2.length : Int) :: (Vbsoaj.step s c).2)).map V.int := by
      rw [List.length_map, List.map_append, List.map_cons, List.append_assoc]
      rfl
    rw [e]
    have f4 : ∀ o, Ext C H3 (upd H3 lt o) := fun o => Ext.upd hlt3 id
    have keep : ∀ r, Ok (Vbsoaj.step s c).1.clients.length r → ∀ o, upd H3 lt o (A3 r) = H3 (A3 r) := fun r hr o => upd_ne fun z => out3 ⟨r, hr, z⟩
    refine q _ A3 _ ⟨⟨fun r hr => (g3.at_ r hr).keep (f4 _) (keep r hr _), g3.inj, g3.sh⟩, ?_, ?_, ?_, upd_same, out3, ?_, ?_⟩ f3.g
    · rw [List.length_append]
      exact tn.hW.step c
    · rw [tn.hc, List.append_assoc]
      rfl
    · exact (((Sf.ext (C := C) tn.sf (Ext.same sm)).ext ((tn.g.same N sm).ext N f3))).ext (f4 _)
    · rw [← tn.hd, due_cons, List.append_assoc]
    · rw [List.length_append, List.length_append, List.length_cons, List.length_singleton]
      omega
theorem ok_answer_line (T : Txt K mg a) {k : Nat} (G : FnOk P w K mg base CX0 k a.f_answer_call a.d_answer_call ["game", "call", "numbers", "text"] (spCall a.C K)) (hA : Arity K a.a_NUMBERS_OF_CALL) :
    FnOk P w K mg base CX0 (k + 1) a.f_answer_line a.d_answer_line ["game", "calls"] (spLine a.C K) := by
  refine T.F_answer_line.ok sc_answer_line (fun vs H Q E h => ?_) (fun cdv A0 outer s0 H vs Q E hr h => ?_)
  · obtain ⟨A, lc, cls, ns, rfl, _⟩ := h
    rfl
  · obtain ⟨A, lc, cls, ns, rfl, g, hsf, hns, hnz, hcz, q⟩ := h
    have nd := sc_answer_line.nd
    refine ⟨_, pss_cons (ps_set (i := 2) nd rfl (Or.inl rfl) (pe_lst pa_nil)) (pss_cons (ps_set (i := 3) nd rfl (Or.inl rfl) pe_int)
      (pss_cons (ps_while PassesOwn.never (pt_cmpR op_lt (pv 3) (pe_callB call_len_seq (by rfl) T.b_len PySem.boot_len (pa_cons (pv 1) pa_nil)) (nomark _))
        (pss_cons (ps_set (i := 4) nd rfl (Or.inl rfl) (pe_ix ix_list (pv 1) (pv 3) (fun _ _ => rfl)))
        (pss_cons (ps_set (i := 5) nd rfl (Or.inl rfl) (pe_op op_add (pe_op op_add (pv 3) pe_int) (pe_ix ix_tup (pe_cref rfl T.g_NUMBERS_OF_CALL) (pv 4) (fun _ _ => rfl))))
        (pss_cons (ps_set (i := 6) nd rfl (Or.inl rfl) (pe_slice sl_list (pv 1) (po_some (pe_op op_add (pv 3) pe_int)) (po_some (pv 5))))
        (pss_cons (ps_set (i := 7) nd rfl (Or.inl rfl) (pe_lst pa_nil))
        (pss_cons (ps_if (pt_cmpR op_eq (pv 4) (pe_cint rfl T.c_WRITE) (nomark _))
          (pss_cons (ps_set (i := 8) nd rfl (Or.inl rfl) (pe_op op_add (pv 5) pe_int))
          (pss_cons (ps_set (i := 5) nd rfl (Or.inl rfl) (pe_op op_add (pv 8) (pe_ix ix_list (pv 1) (pv 5) (fun _ _ => rfl))))
          (pss_one (ps_set (i := 7) nd rfl (Or.inl rfl) (pe_slice sl_list (pv 1) (po_some (pv 8)) (po_some (pv 5))))))) pss_nil)
        (pss_cons (ps_set (i := 9) nd rfl (Or.inl rfl) (pe_call G hr rfl T.g_answer_call T.F_answer_call.kp T.B_answer_call .nil pass0 (pa_cons (pv 0) (pa_cons (pv 4) (pa_cons (pv 6) (pa_cons (pv 7) pa_nil))))))
        (pss_cons (ps_expr (pe_bm PySem.F.plainAttrs_list PySem.F.slot_list_append PySem.F.type_list_append mt_append (pv 2) (pa_cons (pe_callB call_len_seq (by rfl) T.b_len PySem.boot_len (pa_cons (pv 9) pa_nil)) pa_nil)))
        (pss_cons (ps_expr (pe_bm PySem.F.plainAttrs_list PySem.F.slot_list_extend PySem.F.type_list_extend mt_extend (pv 2) (pa_cons (pv 9) pa_nil)))
        (pss_one (ps_set (i := 3) nd rfl (Or.inl rfl) (pv 5))))))))))))
      (pss_one (ps_ret (pv 2))))), ?_⟩
    refine ⟨by show 0 ≤ sizeLine; decide, fun lt hlt => ?_⟩
    have sm0 : Same H (upd H lt (.lst [])) := same_new hlt
    refine while_by (fun σ H' => ∃ (A : Ro → Addr) (s : Vbsoaj.State) (pre rest : List Vbsoaj.Call) (told : List Int) (v4 v5 v6 v7 v8 v9 : Option V), σ = [some (.ref (A .g)), some (.ref lc), some (.ref lt), some (vN (pre.flatMap flat).length), v4, v5, v6, v7, v8, v9] ∧
        Turn' a.C K H' A s lc lt cls ns pre rest told) (fun σ _ => meas ns.length σ) ?_ ?_ ?_
    · exact ⟨A, Vbsoaj.start, [], cls, [], none, none, none, none, none, none, rfl, g.same T.ne sm0, W.zero, rfl, hsf.ext (C := a.C) (Ext.same sm0), upd_same, g.notOwn T.ne hlt, rfl, Nat.zero_le _⟩
    · rintro σ H1 ⟨A1, s, pre, rest, told, v4, v5, v6, v7, v8, v9, rfl, tn⟩
      refine ⟨_, rfl, _, rfl, _, _, rfl, .inl tn.sf.sq, _, _, rfl, rfl, _, rfl, ?_⟩
      rw [List.length_map]
      refine ite2 (fun h1 => ?_) (fun h1 => ?_)
      · -- a turn
        have h1 : (pre.flatMap flat).length < ns.length := Int.ofNat_lt.mp (of_decide_eq_true h1)
        obtain ⟨c, rest', rfl⟩ : ∃ c r, rest = c :: r := by
          cases rest with
          | cons c r => exact ⟨c, r, rfl⟩
          | nil =>
            rw [hns, tn.hc, List.append_nil] at h1
            exact absurd h1 (Nat.lt_irrefl _)
        have en : ns = pre.flatMap flat ++ flat c ++ rest'.flatMap flat := by
          rw [hns, tn.hc, List.flatMap_append, List.flatMap_cons, List.append_assoc]
        have hlen : ns.length = (pre.flatMap flat).length + (flat c).length + (rest'.flatMap flat).length := by rw [en, List.length_append, List.length_append]
        have hfl := flat_len c
        generalize hpl : (pre.flatMap flat).length = pl at *
        have at0 : (ns.map V.int)[pl]? = some (V.int (enc c).1) := by
          rw [List.getElem?_map, ← hpl, flat_at en]
          rfl
        refine ⟨_, rfl, _, rfl, _, _, _, _, rfl, rfl, tn.sf.sq, atI_nat at0, ?_⟩
        obtain ⟨xs, hxs, har⟩ := hA H1
        refine ⟨_, rfl, _, _, rfl, rfl, _, rfl, _, _, _, _, rfl, rfl, hxs, har c, _, _, rfl, rfl, ?_⟩
        have e1 : (pl : Int) + 1 = ((pl + 1 : Nat) : Int) := by omega
        have e2 : (pl : Int) + 1 + ((enc c).2.1.length : Int) = ((pl + 1 + (enc c).2.1.length : Nat) : Int) := by omega
        refine ⟨_, rfl, _, rfl, _, _, rfl, rfl, _, rfl, _, rfl, _, rfl, lc, _, rfl, tn.sf.sq, fun ln hln => ?_⟩
        dsimp only
        rw [e2, e1, cut_of (by omega) (by split at hfl <;> omega), show pl + 1 + (enc c).2.1.length - (pl + 1) = (enc c).2.1.length by omega, ← hpl, flat_nums en, hpl]
        refine ⟨by show 0 ≤ sizeLine; decide, fun lx hlx => ?_⟩
        have smA : Same H1 (upd H1 ln (.lst ((enc c).2.1.map V.int))) := same_new hln
        have smB := smA.trans (same_new (o := HO.lst []) hlx)
        have hln1 : upd (upd H1 ln (.lst ((enc c).2.1.map V.int))) lx (.lst []) ln = some (.lst ((enc c).2.1.map V.int)) := by rw [upd_ne (ne_of_none upd_same hlx)]; exact upd_same
        refine ⟨_, rfl, rfl, _, rfl, ?_⟩
        have hsm : ∀ {b : Addr} {o : HO}, H1 b = some o → upd (upd H1 ln (.lst ((enc c).2.1.map V.int))) lx (.lst []) b = some o := fun {b o} e => smB _ _ e
        refine ite2 (fun h2 => ?_) (fun h2 => ?_)
        · have h2 : (enc c).1 = 2 := by
            have := of_decide_eq_true h2
            injection this
          obtain ⟨p, tx, rfl⟩ := enc_write h2
          have hfl : (flat (.write p tx)).length = 3 + tx.length := by show tx.length + 1 + 1 + 1 = _; omega
          have at2 : (ns.map V.int)[pl + 2]? = some (V.int (tx.length : Int)) := by
            rw [List.getElem?_map, ← hpl, flat_cnt en]
            rfl
          have sq := (Sf.ext (C := a.C) tn.sf (Ext.same smB)).sq
          refine ⟨_, rfl, _, _, rfl, rfl, ?_⟩
          refine ⟨_, rfl, _, rfl, _, rfl, _, _, _, _, rfl, rfl, sq, atI_nat at2, _, _, rfl, rfl, ?_⟩
          refine ⟨_, rfl, _, rfl, _, rfl, _, rfl, _, rfl, lc, _, rfl, sq, fun ly hly => ?_⟩
          have e3 : ((pl + 1 + (enc (.write p tx)).2.1.length : Nat) : Int) + 1 = ((pl + 3 : Nat) : Int) := by show ((pl + 1 + 1 : Nat) : Int) + 1 = _; omega
          have e4 : ((pl + 3 : Nat) : Int) + (tx.length : Int) = ((pl + 3 + tx.length : Nat) : Int) := by omega
          dsimp only
          rw [e3, e4, cut_of (by omega) (by omega), show pl + 3 + tx.length - (pl + 3) = tx.length by omega, ← hpl, flat_txt en, hpl]
          have smC := smB.trans (same_new (o := HO.lst (tx.map V.int)) hly)
          refine rest_ok T.ne tn hcz (pl := pl + 3 + tx.length) smC (by rw [upd_ne (ne_of_none hln1 hly)]; exact hln1) upd_same (by show tx.length ≤ 100000; omega) fun H' A' v9 tn' eg => ?_
          have en2 : ((pre ++ [Vbsoaj.Call.write p tx]).flatMap flat).length = pl + 3 + tx.length := by
            rw [List.flatMap_append, List.length_append, hpl]
            show pl + ((flat (.write p tx)) ++ []).length = _
            rw [List.append_nil, hfl]
            omega
          refine ⟨⟨A', _, _, _, _, some (.int (enc (.write p tx)).1), some (vN (pl + 3 + tx.length)), some (.ref ln), some (.ref ly), some (.int ((pl + 3 : Nat) : Int)), v9, by rw [eg, en2], tn'⟩, ?_⟩
          · show ns.length - (((pl + 3 + tx.length : Nat) : Int)).toNat < ns.length - ((pl : Nat) : Int).toNat
            omega
        · have h2 : ¬ (enc c).1 = 2 := fun z => h2 (decide_eq_true (by rw [z]))
          rw [if_neg h2] at hfl
          have et := enc_text h2
          refine rest_ok T.ne tn hcz (pl := pl + 1 + (enc c).2.1.length) smB hln1 (by rw [et]; exact upd_same) (by rw [et]; exact Nat.zero_le _) fun H' A' v9 tn' eg => ?_
          have en2 : ((pre ++ [c]).flatMap flat).length = pl + 1 + (enc c).2.1.length := by
            rw [List.flatMap_append, List.length_append, hpl]
            show pl + (flat c ++ []).length = _
            rw [List.append_nil, hfl]
            omega
          refine ⟨⟨A', _, _, _, _, some (.int (enc c).1), some (vN (pl + 1 + (enc c).2.1.length)), some (.ref ln), some (.ref lx), v8, v9, by rw [eg, en2], tn'⟩, ?_⟩
          · show ns.length - (((pl + 1 + (enc c).2.1.length : Nat) : Int)).toNat < ns.length - ((pl : Nat) : Int).toNat
            omega
      · -- the end
        have h1 : ¬ (pre.flatMap flat).length < ns.length := fun z => h1 (decide_eq_true (Int.ofNat_lt.mpr z))
        have er : rest = [] := by
          cases rest with
          | nil => rfl
          | cons c r =>
            have := flat_pos c
            rw [hns, tn.hc, List.flatMap_append, List.flatMap_cons, List.length_append, List.length_append] at h1
            omega
        subst er
        have ed : told = due Vbsoaj.start cls := by
          rw [← tn.hd]
          show told = told ++ []
          rw [List.append_nil]
        refine ⟨_, rfl, ?_⟩
        exact q H1 lt (by rw [← ed]; exact tn.hl)
    · rintro σ H1 Q1 Q2 hq ⟨v, e1, v', e2, p, ys, e3, e4, i, j, e5, e6, kk, e7, z⟩
      exact ⟨v, e1, v', e2, p, ys, e3, e4, i, j, e5, e6, kk, e7, hq _ _ z⟩
end
end So

set_option Elab.async false
set_option linter.all false
set_option maxRecDepth 100000
set_option maxHeartbeats 4000000
namespace So
open PySem PySem.Spec PyProof.Rows L2
section
variable {P : Program} {w : World} {K : PySem.W.Frag} {mg : Str → Option Value} {base : Heap} {a : Ad} {C : Cl}
/-! ### a row of tests of the call's place -/
section
variable {σ : L2.St} {H : Hp} {D : Ends} {b u : TS} {i j : Int}
theorem skip (j : Int) (hs : σ[1]? = some (some (V.int j))) (h : decide (j = i) = false) (q : u D σ H) : tSeq (tIfS (tTest (tOp rEq (tVar 1) (tC (.int i)))) b tNext) u D σ H := by
  refine ⟨_, hs, rfl, _, rfl, ?_⟩
  rw [decide_eq_false (fun z => by injection z with z; exact of_decide_eq_false h z)]
  exact iteF q
theorem take (j : Int) (hs : σ[1]? = some (some (V.int j))) (q : b { D with nx := u D } σ H) : tSeq (tIfS (tTest (tOp rEq (tVar 1) (tC (.int j)))) b tNext) u D σ H := by
  refine ⟨_, hs, rfl, _, rfl, ?_⟩
  rw [decide_eq_true rfl]
  exact iteT q
theorem skipIn {t : TA} {xs : List V} (j : Int) (hs : σ[1]? = some (some (V.int j))) (ht : ∀ Q, (∀ p, H p = none → Q (V.ref p) (upd H p (.tup xs))) → tTup t σ H Q) (hf : xs.all flatV = true) (h : inV (.int j) xs = false)
    (q : ∀ p, H p = none → u D σ (upd H p (.tup xs))) : tSeq (tIfS (tTest (tOp (rIn K false) (tVar 1) (tTup t))) b tNext) u D σ H := by
  refine ⟨_, hs, ht _ fun p hp => ⟨p, xs, rfl, .inr (SqT.of upd_same), rfl, hf, _, rfl, ?_⟩⟩
  show if inV (.int j) xs = true then _ else _
  rw [h]
  exact iteF (q p hp)
theorem takeIn {t : TA} {xs : List V} (j : Int) (hs : σ[1]? = some (some (V.int j))) (ht : ∀ Q, (∀ p, H p = none → Q (V.ref p) (upd H p (.tup xs))) → tTup t σ H Q) (hf : xs.all flatV = true) (h : inV (.int j) xs = true)
    (q : ∀ p, H p = none → b { D with nx := u D } σ (upd H p (.tup xs))) : tSeq (tIfS (tTest (tOp (rIn K false) (tVar 1) (tTup t))) b tNext) u D σ H := by
  refine ⟨_, hs, ht _ fun p hp => ⟨p, xs, rfl, .inr (SqT.of upd_same), rfl, hf, _, rfl, ?_⟩⟩
  show if inV (.int j) xs = true then _ else _
  rw [h]
  exact iteT (q p hp)
theorem tup4 {x y z v : V} (Q : VK) (h : ∀ p, H p = none → Q (V.ref p) (upd H p (.tup [x, y, z, v]))) : tTup (tCons (tC x) (tCons (tC y) (tCons (tC z) (tCons (tC v) tNil)))) σ H Q := ⟨by show 4 ≤ sizeLine; decide, h⟩
theorem tup3 {x y z : V} (Q : VK) (h : ∀ p, H p = none → Q (V.ref p) (upd H p (.tup [x, y, z]))) : tTup (tCons (tC x) (tCons (tC y) (tCons (tC z) tNil))) σ H Q := ⟨by show 3 ≤ sizeLine; decide, h⟩
end
/-! ### fits (printed by gen_call.py) -/
def spFits (C : Cl) (K : PySem.W.Frag) : Sp := fun vs H Q _ => ∃ (A : Ro → Addr) (s : Vbsoaj.State) (c : Vbsoaj.Call) (ln lt : Addr), vs = [.ref (A .g), .int (enc c).1, .ref ln, .ref lt] ∧ Gm C K H A s ∧
  H ln = some (.lst ((enc c).2.1.map V.int)) ∧ H lt = some (.lst ((enc c).2.2.map V.int)) ∧ (enc c).2.2.length ≤ 100000 ∧ ∀ H', Same H H' → Q (.bl (Vbsoaj.inRange s c)) H'
theorem sc_fits : FnScope ["game", "call", "numbers", "text", "first", "rest", "is_power"] ["game", "call", "numbers", "text"] (defScope s_fits) := ⟨rfl, rfl, rfl, by decide +kernel, rfl, by decide +kernel, by decide +kernel⟩
theorem ok_fits (T : Txt K mg a) : FnOk P w K mg base CX0 3 a.f_fits a.d_fits ["game", "call", "numbers", "text"] (spFits a.C K) := by
  refine T.F_fits.ok sc_fits (fun vs H Q E h => ?_) (fun cdv A0 outer s0 H vs Q E hr h => ?_)
  · obtain ⟨A, s, c, ln, lt, rfl, _⟩ := h
    rfl
  · obtain ⟨A, s, c, ln, lt, rfl, g, hln, hlt, hz, q⟩ := h
    have hr1 : Room 1 _ := hr.mono (by decide)
    refine ⟨_, (pss_cons (ps_if (pt_cmpR op_in_seq (pv 1) (pe_tup (pa_cons (pe_cint rfl T.c_STOP) (pa_cons (pe_cint rfl T.c_START) (pa_cons (pe_cint rfl T.c_UMPIRE) (pa_cons (pe_cint rfl T.c_BAG) pa_nil))))) (by with_unfolding_all rfl)) (pss_one (ps_ret pe_bl)) pss_nil)
      (pss_cons (ps_set (i := 4) sc_fits.nd rfl (Or.inl rfl) (pe_ix ix_list (pv 2) pe_int (fun _ _ => rfl)))
      (pss_cons (ps_if (pt_cmpR op_eq (pv 1) (pe_cint rfl T.c_BEGIN) (nomark _)) (pss_cons (ps_set (i := 5) sc_fits.nd rfl (Or.inl rfl) (pe_and (pe_call (ok_within T) hr1 rfl T.g_within T.F_within.kp T.B_within .nil pass0 (pa_cons (pe_ix ix_list (pv 2) pe_int (fun _ _ => rfl)) (pa_cons pe_int (pa_cons (pe_cint rfl T.c_MOST_SPAN) pa_nil)))) (pe_one (pe_call (ok_within T) hr1 rfl T.g_within T.F_within.kp T.B_within .nil pass0 (pa_cons (pe_ix ix_list (pv 2) pe_int (fun _ _ => rfl)) (pa_cons pe_int (pa_cons (pe_cint rfl T.c_MOST_ROOM) pa_nil))))))) (pss_one (ps_ret (pe_and (pe_call (ok_within T) hr1 rfl T.g_within T.F_within.kp T.B_within .nil pass0 (pa_cons (pv 4) (pa_cons (pe_cint rfl T.c_LEAST_POWERS) (pa_cons (pe_cint rfl T.c_MOST_POWERS) pa_nil)))) (pe_one (pv 5)))))) pss_nil)
      (pss_cons (ps_if (pt_cmpR op_eq (pv 1) (pe_cint rfl T.c_TICK) (nomark _)) (pss_one (ps_ret (pe_call (ok_within T) hr1 rfl T.g_within T.F_within.kp T.B_within .nil pass0 (pa_cons (pv 4) (pa_cons pe_int (pa_cons (pe_cint rfl T.c_MOST_TICK) pa_nil)))))) pss_nil)
      (pss_cons (ps_if (pt_cmpR op_eq (pv 1) (pe_cint rfl T.c_TELL) (nomark _)) (pss_one (ps_ret (pe_call (ok_within T) hr1 rfl T.g_within T.F_within.kp T.B_within .nil pass0 (pa_cons (pv 4) (pa_cons pe_int (pa_cons (pe_cint rfl T.c_LAST_SEASON) pa_nil)))))) pss_nil)
      (pss_cons (ps_if (pt_cmpR op_in_seq (pv 1) (pe_tup (pa_cons (pe_cint rfl T.c_DELIVER) (pa_cons (pe_cint rfl T.c_LOSE) (pa_cons (pe_cint rfl T.c_DOUBLE) pa_nil)))) (by with_unfolding_all rfl)) (pss_one (ps_ret (pe_call (ok_within T) hr1 rfl T.g_within T.F_within.kp T.B_within .nil pass0 (pa_cons (pv 4) (pa_cons pe_int (pa_cons (pe_op op_sub (pe_callB call_len_seq (by rfl) T.b_len PySem.boot_len (pa_cons (pe_fld (pv 0) rfl) pa_nil)) pe_int) pa_nil)))))) pss_nil)
      (pss_cons (ps_set (i := 6) sc_fits.nd rfl (Or.inl rfl) (pe_call (ok_within T) hr1 rfl T.g_within T.F_within.kp T.B_within .nil pass0 (pa_cons (pv 4) (pa_cons pe_int (pa_cons (pe_op op_sub (pe_callB call_len_seq (by rfl) T.b_len PySem.boot_len (pa_cons (pe_fld (pv 0) rfl) pa_nil)) pe_int) pa_nil)))))
      (pss_cons (ps_if (pt_cmpR op_eq (pv 1) (pe_cint rfl T.c_WRITE) (nomark _)) (pss_one (ps_ret (pe_and (pv 6) (pe_one (pe_call (ok_is_text T) hr rfl T.g_is_text T.F_is_text.kp T.B_is_text .nil pass0 (pa_cons (pv 3) pa_nil)))))) pss_nil)
      (pss_cons (ps_if (pt_cmpR op_eq (pv 1) (pe_cint rfl T.c_GOT) (nomark _)) (pss_one (ps_ret (pe_and (pv 6) (pe_one (pe_call (ok_within T) hr1 rfl T.g_within T.F_within.kp T.B_within .nil pass0 (pa_cons (pe_ix ix_list (pv 2) pe_int (fun _ _ => rfl)) (pa_cons pe_int (pa_cons (pe_cint rfl T.c_LAST_SEASON) pa_nil)))))))) pss_nil)
      (pss_one (ps_ret (pv 6)))))))))))), ?_⟩
    have tup : ∀ {H1 : Hp} {b : Addr} {vs : List V}, Same H H1 → H1 b = none → Same H (upd H1 b (.tup vs)) := fun sm hb => sm.trans (same_new hb)
    cases c with
    | begin_ n sp rm =>
      refine skipIn 0 rfl tup4 rfl rfl fun b hb => ?_
      have sm1 := tup (vs := [V.int 9, V.int 10, V.int 14, V.int 15]) (Same.refl H) hb
      have hn1 := sm1 _ _ hln
      refine ⟨_, rfl, _, _, _, _, rfl, rfl, SqL.of hn1, atI_nat (j := 0) rfl, ?_⟩
      refine take 0 rfl ?_
      have er : Vbsoaj.inRange s (.begin_ n sp rm) = (Vbsoaj.within n 2 7 && Vbsoaj.within sp 1 1000000 && Vbsoaj.within rm 1 100) := rfl
      have q1 := q _ sm1
      rw [er] at q1
      refine ⟨_, rfl, _, _, _, _, rfl, rfl, SqL.of hn1, atI_nat (j := 1) rfl, sp, 1, 1000000, rfl, _, rfl, ?_⟩
      cases h2 : Vbsoaj.within sp 1 1000000 with
      | false =>
        refine iteF ?_
        refine ⟨_, rfl, n, 2, 7, rfl, _, rfl, ?_⟩
        cases h1 : Vbsoaj.within n 2 7 with
        | false => rw [h1] at q1; exact iteF q1
        | true => rw [h1, h2] at q1; exact iteT ⟨_, rfl, q1⟩
      | true =>
        refine iteT ⟨_, rfl, _, _, _, _, rfl, rfl, SqL.of hn1, atI_nat (j := 2) rfl, rm, 1, 100, rfl, ?_⟩
        refine ⟨_, rfl, n, 2, 7, rfl, _, rfl, ?_⟩
        cases h1 : Vbsoaj.within n 2 7 with
        | false => rw [h1] at q1; exact iteF q1
        | true => rw [h1, h2, Bool.true_and, Bool.true_and] at q1; exact iteT ⟨_, rfl, q1⟩
    | tick n =>
      refine skipIn 1 rfl tup4 rfl rfl fun b hb => ?_
      have sm1 := tup (vs := [V.int 9, V.int 10, V.int 14, V.int 15]) (Same.refl H) hb
      have hn1 := sm1 _ _ hln
      refine ⟨_, rfl, _, _, _, _, rfl, rfl, SqL.of hn1, atI_nat (j := 0) rfl, ?_⟩
      refine skip 1 rfl rfl ?_
      refine take 1 rfl ?_
      exact ⟨_, rfl, n, 0, 1000000, rfl, q _ sm1⟩
    | write p tx =>
      refine skipIn 2 rfl tup4 rfl rfl fun b hb => ?_
      have sm1 := tup (vs := [V.int 9, V.int 10, V.int 14, V.int 15]) (Same.refl H) hb
      have hn1 := sm1 _ _ hln
      refine ⟨_, rfl, _, _, _, _, rfl, rfl, SqL.of hn1, atI_nat (j := 0) rfl, ?_⟩
      refine skip 2 rfl rfl ?_
      refine skip 2 rfl rfl ?_
      refine skip 2 rfl rfl ?_
      refine skipIn 2 rfl tup3 rfl rfl fun d hd => ?_
      have sm2 := tup (vs := [V.int 6, V.int 7, V.int 8]) sm1 hd
      have g2 := g.same T.ne sm2
      obtain ⟨dg, hg⟩ := g2.g_
      refine ⟨_, rfl, _, rfl, ⟨_, _, _, _, _, rfl, hg, T.cl_G, T.nG_machines, lkG_machines, ⟨_, _, rfl, .inl (SqL.of g2.ml_), _, _, rfl, rfl, p, 0, (s.clients.length : Int) - 1, ?_, ?_⟩⟩⟩
      · rw [List.length_map, List.length_range]
        rfl
      refine take 2 rfl ?_
      have er : Vbsoaj.inRange s (.write p tx) = (Vbsoaj.isPower s p && Vbsoaj.isText tx) := rfl
      rw [er] at q
      refine ⟨_, rfl, _, rfl, ?_⟩
      show if Vbsoaj.isPower s p = true then _ else _
      cases hp : Vbsoaj.isPower s p with
      | false => rw [hp] at q; exact iteF (q _ sm2)
      | true => rw [hp, Bool.true_and] at q; exact iteT ⟨_, rfl, lt, tx, rfl, SqL.of (sm2 _ _ hlt), hz, fun H' sm => q H' (sm2.trans sm)⟩
    | clear p =>
      refine skipIn 3 rfl tup4 rfl rfl fun b hb => ?_
      have sm1 := tup (vs := [V.int 9, V.int 10, V.int 14, V.int 15]) (Same.refl H) hb
      have hn1 := sm1 _ _ hln
      refine ⟨_, rfl, _, _, _, _, rfl, rfl, SqL.of hn1, atI_nat (j := 0) rfl, ?_⟩
      refine skip 3 rfl rfl ?_
      refine skip 3 rfl rfl ?_
      refine skip 3 rfl rfl ?_
      refine skipIn 3 rfl tup3 rfl rfl fun d hd => ?_
      have sm2 := tup (vs := [V.int 6, V.int 7, V.int 8]) sm1 hd
      have g2 := g.same T.ne sm2
      obtain ⟨dg, hg⟩ := g2.g_
      refine ⟨_, rfl, _, rfl, ⟨_, _, _, _, _, rfl, hg, T.cl_G, T.nG_machines, lkG_machines, ⟨_, _, rfl, .inl (SqL.of g2.ml_), _, _, rfl, rfl, p, 0, (s.clients.length : Int) - 1, ?_, ?_⟩⟩⟩
      · rw [List.length_map, List.length_range]
        rfl
      refine skip 3 rfl rfl ?_
      refine skip 3 rfl rfl ?_
      exact ⟨_, rfl, q _ sm2⟩
    | send p =>
      refine skipIn 4 rfl tup4 rfl rfl fun b hb => ?_
      have sm1 := tup (vs := [V.int 9, V.int 10, V.int 14, V.int 15]) (Same.refl H) hb
      have hn1 := sm1 _ _ hln
      refine ⟨_, rfl, _, _, _, _, rfl, rfl, SqL.of hn1, atI_nat (j := 0) rfl, ?_⟩
      refine skip 4 rfl rfl ?_
      refine skip 4 rfl rfl ?_
      refine skip 4 rfl rfl ?_
      refine skipIn 4 rfl tup3 rfl rfl fun d hd => ?_
      have sm2 := tup (vs := [V.int 6, V.int 7, V.int 8]) sm1 hd
      have g2 := g.same T.ne sm2
      obtain ⟨dg, hg⟩ := g2.g_
      refine ⟨_, rfl, _, rfl, ⟨_, _, _, _, _, rfl, hg, T.cl_G, T.nG_machines, lkG_machines, ⟨_, _, rfl, .inl (SqL.of g2.ml_), _, _, rfl, rfl, p, 0, (s.clients.length : Int) - 1, ?_, ?_⟩⟩⟩
      · rw [List.length_map, List.length_range]
        rfl
      refine skip 4 rfl rfl ?_
      refine skip 4 rfl rfl ?_
      exact ⟨_, rfl, q _ sm2⟩
    | ask p =>
      refine skipIn 5 rfl tup4 rfl rfl fun b hb => ?_
      have sm1 := tup (vs := [V.int 9, V.int 10, V.int 14, V.int 15]) (Same.refl H) hb
      have hn1 := sm1 _ _ hln
      refine ⟨_, rfl, _, _, _, _, rfl, rfl, SqL.of hn1, atI_nat (j := 0) rfl, ?_⟩
      refine skip 5 rfl rfl ?_
      refine skip 5 rfl rfl ?_
      refine skip 5 rfl rfl ?_
      refine skipIn 5 rfl tup3 rfl rfl fun d hd => ?_
      have sm2 := tup (vs := [V.int 6, V.int 7, V.int 8]) sm1 hd
      have g2 := g.same T.ne sm2
      obtain ⟨dg, hg⟩ := g2.g_
      refine ⟨_, rfl, _, rfl, ⟨_, _, _, _, _, rfl, hg, T.cl_G, T.nG_machines, lkG_machines, ⟨_, _, rfl, .inl (SqL.of g2.ml_), _, _, rfl, rfl, p, 0, (s.clients.length : Int) - 1, ?_, ?_⟩⟩⟩
      · rw [List.length_map, List.length_range]
        rfl
      refine skip 5 rfl rfl ?_
      refine skip 5 rfl rfl ?_
      exact ⟨_, rfl, q _ sm2⟩
    | deliver k =>
      refine skipIn 6 rfl tup4 rfl rfl fun b hb => ?_
      have sm1 := tup (vs := [V.int 9, V.int 10, V.int 14, V.int 15]) (Same.refl H) hb
      have hn1 := sm1 _ _ hln
      refine ⟨_, rfl, _, _, _, _, rfl, rfl, SqL.of hn1, atI_nat (j := 0) rfl, ?_⟩
      refine skip 6 rfl rfl ?_
      refine skip 6 rfl rfl ?_
      refine skip 6 rfl rfl ?_
      refine takeIn 6 rfl tup3 rfl rfl fun d hd => ?_
      have sm2 := tup (vs := [V.int 6, V.int 7, V.int 8]) sm1 hd
      have q2 : Q (.bl (Vbsoaj.isK s k)) _ := q _ sm2
      have g2 := g.same T.ne sm2
      obtain ⟨dg, hg⟩ := g2.g_
      obtain ⟨as, hbl, pr⟩ := g2.bl_
      refine ⟨_, rfl, _, rfl, ⟨_, _, _, _, _, rfl, hg, T.cl_G, T.nG_messages, lkG_messages, ⟨_, _, rfl, .inl (SqL.of hbl), _, _, rfl, rfl, _, _, _, rfl, ?_⟩⟩⟩
      unfold Vbsoaj.isK at q2
      rw [List.length_map, pr_len pr]
      exact q2
    | lose k =>
      refine skipIn 7 rfl tup4 rfl rfl fun b hb => ?_
      have sm1 := tup (vs := [V.int 9, V.int 10, V.int 14, V.int 15]) (Same.refl H) hb
      have hn1 := sm1 _ _ hln
      refine ⟨_, rfl, _, _, _, _, rfl, rfl, SqL.of hn1, atI_nat (j := 0) rfl, ?_⟩
      refine skip 7 rfl rfl ?_
      refine skip 7 rfl rfl ?_
      refine skip 7 rfl rfl ?_
      refine takeIn 7 rfl tup3 rfl rfl fun d hd => ?_
      have sm2 := tup (vs := [V.int 6, V.int 7, V.int 8]) sm1 hd
      have q2 : Q (.bl (Vbsoaj.isK s k)) _ := q _ sm2
      have g2 := g.same T.ne sm2
      obtain ⟨dg, hg⟩ := g2.g_
      obtain ⟨as, hbl, pr⟩ := g2.bl_
      refine ⟨_, rfl, _, rfl, ⟨_, _, _, _, _, rfl, hg, T.cl_G, T.nG_messages, lkG_messages, ⟨_, _, rfl, .inl (SqL.of hbl), _, _, rfl, rfl, _, _, _, rfl, ?_⟩⟩⟩
      unfold Vbsoaj.isK at q2
      rw [List.length_map, pr_len pr]
      exact q2
    | double k =>
      refine skipIn 8 rfl tup4 rfl rfl fun b hb => ?_
      have sm1 := tup (vs := [V.int 9, V.int 10, V.int 14, V.int 15]) (Same.refl H) hb
      have hn1 := sm1 _ _ hln
      refine ⟨_, rfl, _, _, _, _, rfl, rfl, SqL.of hn1, atI_nat (j := 0) rfl, ?_⟩
      refine skip 8 rfl rfl ?_
      refine skip 8 rfl rfl ?_
      refine skip 8 rfl rfl ?_
      refine takeIn 8 rfl tup3 rfl rfl fun d hd => ?_
      have sm2 := tup (vs := [V.int 6, V.int 7, V.int 8]) sm1 hd
      have q2 : Q (.bl (Vbsoaj.isK s k)) _ := q _ sm2
      have g2 := g.same T.ne sm2
      obtain ⟨dg, hg⟩ := g2.g_
      obtain ⟨as, hbl, pr⟩ := g2.bl_
      refine ⟨_, rfl, _, rfl, ⟨_, _, _, _, _, rfl, hg, T.cl_G, T.nG_messages, lkG_messages, ⟨_, _, rfl, .inl (SqL.of hbl), _, _, rfl, rfl, _, _, _, rfl, ?_⟩⟩⟩
      unfold Vbsoaj.isK at q2
      rw [List.length_map, pr_len pr]
      exact q2
    | halt_ =>
      refine takeIn 9 rfl tup4 rfl rfl fun b hb => ?_
      exact q _ (tup (Same.refl H) hb)
    | start_ =>
      refine takeIn 10 rfl tup4 rfl rfl fun b hb => ?_
      exact q _ (tup (Same.refl H) hb)
    | tell k =>
      refine skipIn 11 rfl tup4 rfl rfl fun b hb => ?_
      have sm1 := tup (vs := [V.int 9, V.int 10, V.int 14, V.int 15]) (Same.refl H) hb
      have hn1 := sm1 _ _ hln
      refine ⟨_, rfl, _, _, _, _, rfl, rfl, SqL.of hn1, atI_nat (j := 0) rfl, ?_⟩
      refine skip 11 rfl rfl ?_
      refine skip 11 rfl rfl ?_
      refine take 11 rfl ?_
      exact ⟨_, rfl, k, 0, 1000000, rfl, q _ sm1⟩
    | see p =>
      refine skipIn 12 rfl tup4 rfl rfl fun b hb => ?_
      have sm1 := tup (vs := [V.int 9, V.int 10, V.int 14, V.int 15]) (Same.refl H) hb
      have hn1 := sm1 _ _ hln
      refine ⟨_, rfl, _, _, _, _, rfl, rfl, SqL.of hn1, atI_nat (j := 0) rfl, ?_⟩
      refine skip 12 rfl rfl ?_
      refine skip 12 rfl rfl ?_
      refine skip 12 rfl rfl ?_
      refine skipIn 12 rfl tup3 rfl rfl fun d hd => ?_
      have sm2 := tup (vs := [V.int 6, V.int 7, V.int 8]) sm1 hd
      have g2 := g.same T.ne sm2
      obtain ⟨dg, hg⟩ := g2.g_
      refine ⟨_, rfl, _, rfl, ⟨_, _, _, _, _, rfl, hg, T.cl_G, T.nG_machines, lkG_machines, ⟨_, _, rfl, .inl (SqL.of g2.ml_), _, _, rfl, rfl, p, 0, (s.clients.length : Int) - 1, ?_, ?_⟩⟩⟩
      · rw [List.length_map, List.length_range]
        rfl
      refine skip 12 rfl rfl ?_
      refine skip 12 rfl rfl ?_
      exact ⟨_, rfl, q _ sm2⟩
    | got p k =>
      refine skipIn 13 rfl tup4 rfl rfl fun b hb => ?_
      have sm1 := tup (vs := [V.int 9, V.int 10, V.int 14, V.int 15]) (Same.refl H) hb
      have hn1 := sm1 _ _ hln
      refine ⟨_, rfl, _, _, _, _, rfl, rfl, SqL.of hn1, atI_nat (j := 0) rfl, ?_⟩
      refine skip 13 rfl rfl ?_
      refine skip 13 rfl rfl ?_
      refine skip 13 rfl rfl ?_
      refine skipIn 13 rfl tup3 rfl rfl fun d hd => ?_
      have sm2 := tup (vs := [V.int 6, V.int 7, V.int 8]) sm1 hd
      have g2 := g.same T.ne sm2
      obtain ⟨dg, hg⟩ := g2.g_
      refine ⟨_, rfl, _, rfl, ⟨_, _, _, _, _, rfl, hg, T.cl_G, T.nG_machines, lkG_machines, ⟨_, _, rfl, .inl (SqL.of g2.ml_), _, _, rfl, rfl, p, 0, (s.clients.length : Int) - 1, ?_, ?_⟩⟩⟩
      · rw [List.length_map, List.length_range]
        rfl
      refine skip 13 rfl rfl ?_
      refine take 13 rfl ?_
      have er : Vbsoaj.inRange s (.got p k) = (Vbsoaj.isPower s p && Vbsoaj.within k 0 1000000) := rfl
      rw [er] at q
      refine ⟨_, rfl, _, rfl, ?_⟩
      show if Vbsoaj.isPower s p = true then _ else _
      cases hp : Vbsoaj.isPower s p with
      | false => rw [hp] at q; exact iteF (q _ sm2)
      | true => rw [hp, Bool.true_and] at q; exact iteT ⟨_, rfl, _, _, _, _, rfl, rfl, SqL.of (sm2 _ _ hln), atI_nat (j := 1) rfl, k, 0, 1000000, rfl, q _ sm2⟩
    | umpire =>
      refine takeIn 14 rfl tup4 rfl rfl fun b hb => ?_
      exact q _ (tup (Same.refl H) hb)
    | bag =>
      refine takeIn 15 rfl tup4 rfl rfl fun b hb => ?_
      exact q _ (tup (Same.refl H) hb)
/-! ### make_call -/
def spMake (C : Cl) (K : PySem.W.Frag) : Sp := fun vs H Q _ => ∃ (A : Ro → Addr) (s : Vbsoaj.State) (c : Vbsoaj.Call) (t : Nat) (ln lt : Addr), vs = [.ref (A .g), .int (enc c).1, .ref ln, .ref lt] ∧ Gm C K H A s ∧ W t s ∧ t ≤ 200 ∧
  H ln = some (.lst ((enc c).2.1.map V.int)) ∧ H lt = some (.lst ((enc c).2.2.map V.int)) ∧ Vbsoaj.inRange s c = true ∧ Ans C K H A s (Vbsoaj.does s c) Q
theorem sc_make_call : FnScope ["game", "call", "numbers", "text"] ["game", "call", "numbers", "text"] (defScope s_make_call) := ⟨rfl, rfl, rfl, by decide +kernel, rfl, by decide +kernel, by decide +kernel⟩
theorem ok_make_call (T : Txt K mg a) : FnOk P w K mg base CX0 8 a.f_make_call a.d_make_call ["game", "call", "numbers", "text"] (spMake a.C K) := by
  refine T.F_make_call.ok sc_make_call (fun vs H Q E h => ?_) (fun cdv A0 outer s0 H vs Q E hr h => ?_)
  · obtain ⟨A, s, c, t, ln, lt, rfl, _⟩ := h
    rfl
  · obtain ⟨A, s, c, t, ln, lt, rfl, g, hW, ht, hln, hlt, hin, q⟩ := h
    refine ⟨_, (pss_cons (ps_if (pt_cmpR op_eq (pv 1) (pe_cint rfl T.c_BEGIN) (nomark _)) (pss_one (ps_ret (pe_call (ok_begin T) (hr.mono (by decide)) rfl T.g_begin T.F_begin.kp T.B_begin .nil pass0 (pa_cons (pv 0) (pa_cons (pe_ix ix_list (pv 2) pe_int (fun _ _ => rfl)) (pa_cons (pe_ix ix_list (pv 2) pe_int (fun _ _ => rfl)) (pa_cons (pe_ix ix_list (pv 2) pe_int (fun _ _ => rfl)) pa_nil))))))) pss_nil)
      (pss_cons (ps_if (pt_cmpR op_eq (pv 1) (pe_cint rfl T.c_TICK) (nomark _)) (pss_one (ps_ret (pe_call (ok_tick T) (hr.mono (by decide)) rfl T.g_tick T.F_tick.kp T.B_tick .nil pass0 (pa_cons (pv 0) (pa_cons (pe_ix ix_list (pv 2) pe_int (fun _ _ => rfl)) pa_nil))))) pss_nil)
      (pss_cons (ps_if (pt_cmpR op_eq (pv 1) (pe_cint rfl T.c_WRITE) (nomark _)) (pss_one (ps_ret (pe_call (ok_write T) (hr.mono (by decide)) rfl T.g_write T.F_write.kp T.B_write .nil pass0 (pa_cons (pv 0) (pa_cons (pe_ix ix_list (pv 2) pe_int (fun _ _ => rfl)) (pa_cons (pv 3) pa_nil)))))) pss_nil)
      (pss_cons (ps_if (pt_cmpR op_eq (pv 1) (pe_cint rfl T.c_CLEAR) (nomark _)) (pss_one (ps_ret (pe_call (ok_clear T) (hr.mono (by decide)) rfl T.g_clear T.F_clear.kp T.B_clear .nil pass0 (pa_cons (pv 0) (pa_cons (pe_ix ix_list (pv 2) pe_int (fun _ _ => rfl)) pa_nil))))) pss_nil)
      (pss_cons (ps_if (pt_cmpR op_eq (pv 1) (pe_cint rfl T.c_SEND) (nomark _)) (pss_one (ps_ret (pe_call (ok_send T) (hr.mono (by decide)) rfl T.g_send T.F_send.kp T.B_send .nil pass0 (pa_cons (pv 0) (pa_cons (pe_ix ix_list (pv 2) pe_int (fun _ _ => rfl)) pa_nil))))) pss_nil)
      (pss_cons (ps_if (pt_cmpR op_eq (pv 1) (pe_cint rfl T.c_ASK) (nomark _)) (pss_one (ps_ret (pe_call (ok_ask T) (hr.mono (by decide)) rfl T.g_ask T.F_ask.kp T.B_ask .nil pass0 (pa_cons (pv 0) (pa_cons (pe_ix ix_list (pv 2) pe_int (fun _ _ => rfl)) pa_nil))))) pss_nil)
      (pss_cons (ps_if (pt_cmpR op_eq (pv 1) (pe_cint rfl T.c_DELIVER) (nomark _)) (pss_one (ps_ret (pe_call (ok_deliver T) (hr.mono (by decide)) rfl T.g_deliver T.F_deliver.kp T.B_deliver .nil pass0 (pa_cons (pv 0) (pa_cons (pe_ix ix_list (pv 2) pe_int (fun _ _ => rfl)) pa_nil))))) pss_nil)
      (pss_cons (ps_if (pt_cmpR op_eq (pv 1) (pe_cint rfl T.c_LOSE) (nomark _)) (pss_one (ps_ret (pe_call (ok_lose T) (hr.mono (by decide)) rfl T.g_lose T.F_lose.kp T.B_lose .nil pass0 (pa_cons (pv 0) (pa_cons (pe_ix ix_list (pv 2) pe_int (fun _ _ => rfl)) pa_nil))))) pss_nil)
      (pss_cons (ps_if (pt_cmpR op_eq (pv 1) (pe_cint rfl T.c_DOUBLE) (nomark _)) (pss_one (ps_ret (pe_call (ok_double T) (hr.mono (by decide)) rfl T.g_double T.F_double.kp T.B_double .nil pass0 (pa_cons (pv 0) (pa_cons (pe_ix ix_list (pv 2) pe_int (fun _ _ => rfl)) pa_nil))))) pss_nil)
      (pss_cons (ps_if (pt_cmpR op_eq (pv 1) (pe_cint rfl T.c_STOP) (nomark _)) (pss_one (ps_ret (pe_call (ok_stop T) (hr.mono (by decide)) rfl T.g_stop T.F_stop.kp T.B_stop .nil pass0 (pa_cons (pv 0) pa_nil)))) pss_nil)
      (pss_cons (ps_if (pt_cmpR op_eq (pv 1) (pe_cint rfl T.c_START) (nomark _)) (pss_one (ps_ret (pe_call (ok_start T) (hr.mono (by decide)) rfl T.g_start T.F_start.kp T.B_start .nil pass0 (pa_cons (pv 0) pa_nil)))) pss_nil)
      (pss_cons (ps_if (pt_cmpR op_eq (pv 1) (pe_cint rfl T.c_TELL) (nomark _)) (pss_one (ps_ret (pe_call (ok_tell T) (hr.mono (by decide)) rfl T.g_tell T.F_tell.kp T.B_tell .nil pass0 (pa_cons (pv 0) (pa_cons (pe_ix ix_list (pv 2) pe_int (fun _ _ => rfl)) pa_nil))))) pss_nil)
      (pss_cons (ps_if (pt_cmpR op_eq (pv 1) (pe_cint rfl T.c_SEE) (nomark _)) (pss_one (ps_ret (pe_call (ok_see T) (hr.mono (by decide)) rfl T.g_see T.F_see.kp T.B_see .nil pass0 (pa_cons (pv 0) (pa_cons (pe_ix ix_list (pv 2) pe_int (fun _ _ => rfl)) pa_nil))))) pss_nil)
      (pss_cons (ps_if (pt_cmpR op_eq (pv 1) (pe_cint rfl T.c_GOT) (nomark _)) (pss_one (ps_ret (pe_call (ok_got T) (hr.mono (by decide)) rfl T.g_got T.F_got.kp T.B_got .nil pass0 (pa_cons (pv 0) (pa_cons (pe_ix ix_list (pv 2) pe_int (fun _ _ => rfl)) (pa_cons (pe_ix ix_list (pv 2) pe_int (fun _ _ => rfl)) pa_nil)))))) pss_nil)
      (pss_cons (ps_if (pt_cmpR op_eq (pv 1) (pe_cint rfl T.c_UMPIRE) (nomark _)) (pss_one (ps_ret (pe_call (ok_show_umpire T) (hr.mono (by decide)) rfl T.g_show_umpire T.F_show_umpire.kp T.B_show_umpire .nil pass0 (pa_cons (pv 0) pa_nil)))) pss_nil)
      (pss_one (ps_ret (pe_call (ok_show_bag T) (hr.mono (by decide)) rfl T.g_show_bag T.F_show_bag.kp T.B_show_bag .nil pass0 (pa_cons (pv 0) pa_nil))))))))))))))))))), ?_⟩
    cases c with
    | begin_ n sp rm =>
      refine take 0 rfl ?_
      exact ⟨_, rfl, _, rfl, _, _, _, _, rfl, rfl, SqL.of hln, atI_nat (j := 0) rfl, _, rfl, _, _, _, _, rfl, rfl, SqL.of hln, atI_nat (j := 1) rfl, _, rfl, _, _, _, _, rfl, rfl, SqL.of hln, atI_nat (j := 2) rfl, A, s, n, sp, rm, rfl, g, hin, q⟩
    | tick n =>
      refine skip 1 rfl rfl (take 1 rfl ?_)
      exact ⟨_, rfl, _, rfl, _, _, _, _, rfl, rfl, SqL.of hln, atI_nat (j := 0) rfl, A, s, _, t, rfl, g, hW, ht, hin, q⟩
    | write p tx =>
      refine skip 2 rfl rfl (skip 2 rfl rfl (take 2 rfl ?_))
      exact ⟨_, rfl, _, rfl, _, _, _, _, rfl, rfl, SqL.of hln, atI_nat (j := 0) rfl, _, rfl, A, s, p, lt, tx, rfl, g, hlt, hin, q⟩
    | clear p =>
      refine skip 3 rfl rfl (skip 3 rfl rfl (skip 3 rfl rfl (take 3 rfl ?_)))
      exact ⟨_, rfl, _, rfl, _, _, _, _, rfl, rfl, SqL.of hln, atI_nat (j := 0) rfl, A, s, _, t, rfl, g, hW, ht, hin, q⟩
    | send p =>
      refine skip 4 rfl rfl (skip 4 rfl rfl (skip 4 rfl rfl (skip 4 rfl rfl (take 4 rfl ?_))))
      exact ⟨_, rfl, _, rfl, _, _, _, _, rfl, rfl, SqL.of hln, atI_nat (j := 0) rfl, A, s, _, t, rfl, g, hW, ht, hin, q⟩
    | ask p =>
      refine skip 5 rfl rfl (skip 5 rfl rfl (skip 5 rfl rfl (skip 5 rfl rfl (skip 5 rfl rfl (take 5 rfl ?_)))))
      exact ⟨_, rfl, _, rfl, _, _, _, _, rfl, rfl, SqL.of hln, atI_nat (j := 0) rfl, A, s, _, t, rfl, g, hW, ht, hin, q⟩
    | deliver k =>
      refine skip 6 rfl rfl (skip 6 rfl rfl (skip 6 rfl rfl (skip 6 rfl rfl (skip 6 rfl rfl (skip 6 rfl rfl (take 6 rfl ?_))))))
      exact ⟨_, rfl, _, rfl, _, _, _, _, rfl, rfl, SqL.of hln, atI_nat (j := 0) rfl, A, s, _, t, rfl, g, hW, ht, hin, q⟩
    | lose k =>
      refine skip 7 rfl rfl (skip 7 rfl rfl (skip 7 rfl rfl (skip 7 rfl rfl (skip 7 rfl rfl (skip 7 rfl rfl (skip 7 rfl rfl (take 7 rfl ?_)))))))
      exact ⟨_, rfl, _, rfl, _, _, _, _, rfl, rfl, SqL.of hln, atI_nat (j := 0) rfl, A, s, _, t, rfl, g, hW, ht, hin, q⟩
    | double k =>
      refine skip 8 rfl rfl (skip 8 rfl rfl (skip 8 rfl rfl (skip 8 rfl rfl (skip 8 rfl rfl (skip 8 rfl rfl (skip 8 rfl rfl (skip 8 rfl rfl (take 8 rfl ?_))))))))
      exact ⟨_, rfl, _, rfl, _, _, _, _, rfl, rfl, SqL.of hln, atI_nat (j := 0) rfl, A, s, _, t, rfl, g, hW, ht, hin, q⟩
    | halt_ =>
      refine skip 9 rfl rfl (skip 9 rfl rfl (skip 9 rfl rfl (skip 9 rfl rfl (skip 9 rfl rfl (skip 9 rfl rfl (skip 9 rfl rfl (skip 9 rfl rfl (skip 9 rfl rfl (take 9 rfl ?_)))))))))
      exact ⟨_, rfl, A, s, t, rfl, g, hW, ht, q⟩
    | start_ =>
      refine skip 10 rfl rfl (skip 10 rfl rfl (skip 10 rfl rfl (skip 10 rfl rfl (skip 10 rfl rfl (skip 10 rfl rfl (skip 10 rfl rfl (skip 10 rfl rfl (skip 10 rfl rfl (skip 10 rfl rfl (take 10 rfl ?_))))))))))
      exact ⟨_, rfl, A, s, t, rfl, g, hW, ht, q⟩
    | tell k =>
      refine skip 11 rfl rfl (skip 11 rfl rfl (skip 11 rfl rfl (skip 11 rfl rfl (skip 11 rfl rfl (skip 11 rfl rfl (skip 11 rfl rfl (skip 11 rfl rfl (skip 11 rfl rfl (skip 11 rfl rfl (skip 11 rfl rfl (take 11 rfl ?_)))))))))))
      exact ⟨_, rfl, _, rfl, _, _, _, _, rfl, rfl, SqL.of hln, atI_nat (j := 0) rfl, A, s, _, t, rfl, g, hW, ht, hin, q⟩
    | see p =>
      refine skip 12 rfl rfl (skip 12 rfl rfl (skip 12 rfl rfl (skip 12 rfl rfl (skip 12 rfl rfl (skip 12 rfl rfl (skip 12 rfl rfl (skip 12 rfl rfl (skip 12 rfl rfl (skip 12 rfl rfl (skip 12 rfl rfl (skip 12 rfl rfl (take 12 rfl ?_))))))))))))
      exact ⟨_, rfl, _, rfl, _, _, _, _, rfl, rfl, SqL.of hln, atI_nat (j := 0) rfl, A, s, _, t, rfl, g, hW, ht, hin, q⟩
    | got p k =>
      refine skip 13 rfl rfl (skip 13 rfl rfl (skip 13 rfl rfl (skip 13 rfl rfl (skip 13 rfl rfl (skip 13 rfl rfl (skip 13 rfl rfl (skip 13 rfl rfl (skip 13 rfl rfl (skip 13 rfl rfl (skip 13 rfl rfl (skip 13 rfl rfl (skip 13 rfl rfl (take 13 rfl ?_)))))))))))))
      exact ⟨_, rfl, _, rfl, _, _, _, _, rfl, rfl, SqL.of hln, atI_nat (j := 0) rfl, _, rfl, _, _, _, _, rfl, rfl, SqL.of hln, atI_nat (j := 1) rfl, A, s, p, k, rfl, g, hin, q⟩
    | umpire =>
      refine skip 14 rfl rfl (skip 14 rfl rfl (skip 14 rfl rfl (skip 14 rfl rfl (skip 14 rfl rfl (skip 14 rfl rfl (skip 14 rfl rfl (skip 14 rfl rfl (skip 14 rfl rfl (skip 14 rfl rfl (skip 14 rfl rfl (skip 14 rfl rfl (skip 14 rfl rfl (skip 14 rfl rfl (take 14 rfl ?_))))))))))))))
      exact ⟨_, rfl, A, s, t, rfl, g, hW, ht, q⟩
    | bag =>
      refine skip 15 rfl rfl (skip 15 rfl rfl (skip 15 rfl rfl (skip 15 rfl rfl (skip 15 rfl rfl (skip 15 rfl rfl (skip 15 rfl rfl (skip 15 rfl rfl (skip 15 rfl rfl (skip 15 rfl rfl (skip 15 rfl rfl (skip 15 rfl rfl (skip 15 rfl rfl (skip 15 rfl rfl (skip 15 rfl rfl (?_)))))))))))))))
      exact ⟨_, rfl, A, s, t, rfl, g, hW, ht, q⟩
/-! ### answer_call -/
theorem enc_begin {c : Vbsoaj.Call} (h : Vbsoaj.isBegin c = true) : (enc c).1 = 0 := by
  cases c <;> first | rfl | (exact nomatch h)
theorem enc_other {c : Vbsoaj.Call} (h : Vbsoaj.isBegin c = false) : (enc c).1 ≠ 0 := by
  cases c <;> first | (intro z; cases z; done) | (exact nomatch h)
theorem step_not {s : Vbsoaj.State} {c : Vbsoaj.Call} (h : Vbsoaj.isBegin c = false) (hb : s.begun = false) : Vbsoaj.step s c = (s, [-1]) := by
  unfold Vbsoaj.step
  rw [if_pos ⟨h, hb⟩]
theorem step_out {s : Vbsoaj.State} {c : Vbsoaj.Call} (h : ¬ (Vbsoaj.isBegin c = false ∧ s.begun = false)) (hb : Vbsoaj.inRange s c = false) : Vbsoaj.step s c = (s, [-2]) := by
  unfold Vbsoaj.step
  rw [if_neg h, if_pos hb]
theorem step_does {s : Vbsoaj.State} {c : Vbsoaj.Call} (h : ¬ (Vbsoaj.isBegin c = false ∧ s.begun = false)) (hb : Vbsoaj.inRange s c = true) : Vbsoaj.step s c = Vbsoaj.does s c := by
  unfold Vbsoaj.step
  rw [if_neg h, if_neg (by rw [hb]; decide)]
theorem sc_answer_call : FnScope ["game", "call", "numbers", "text"] ["game", "call", "numbers", "text"] (defScope s_answer_call) := ⟨rfl, rfl, rfl, by decide +kernel, rfl, by decide +kernel, by decide +kernel⟩
theorem ok_answer_call (T : Txt K mg a) : FnOk P w K mg base CX0 9 a.f_answer_call a.d_answer_call ["game", "call", "numbers", "text"] (spCall a.C K) := by
  refine T.F_answer_call.ok sc_answer_call (fun vs H Q E h => ?_) (fun cdv A0 outer s0 H vs Q E hr h => ?_)
  · obtain ⟨A, s, c, t, ln, lt, rfl, _⟩ := h
    rfl
  · obtain ⟨A, s, c, t, ln, lt, rfl, g, hW, ht, hln, hlt, hz, q⟩ := h
    obtain ⟨dg, hg⟩ := g.g_
    refine ⟨_, (pss_cons (ps_if (PW.pt (pw_and (pt_cmpR op_ne (pv 1) (pe_cint rfl T.c_BEGIN) (nomark _)) (pw_and1 (pt_not (pt_val (pe_fld (pv 0) rfl)))))) (pss_one (ps_ret (pe_lst (pa_cons (pe_cint rfl T.c_NOT_BEGUN) pa_nil)))) pss_nil)
      (pss_cons (ps_if (pt_not (pt_val (pe_call (ok_fits T) (hr.mono (by decide)) rfl T.g_fits T.F_fits.kp T.B_fits .nil pass0 (pa_cons (pv 0) (pa_cons (pv 1) (pa_cons (pv 2) (pa_cons (pv 3) pa_nil))))))) (pss_one (ps_ret (pe_lst (pa_cons (pe_cint rfl T.c_OUT_OF_RANGE) pa_nil)))) pss_nil)
      (pss_one (ps_ret (pe_call (ok_make_call T) hr rfl T.g_make_call T.F_make_call.kp T.B_make_call .nil pass0 (pa_cons (pv 0) (pa_cons (pv 1) (pa_cons (pv 2) (pa_cons (pv 3) pa_nil))))))))), ?_⟩
    have rest : ¬ (Vbsoaj.isBegin c = false ∧ s.begun = false) → spFits a.C K [V.ref (A .g), V.int (enc c).1, V.ref ln, V.ref lt] H (fun x H1 => ∃ k, x = V.bl k ∧ if (!k) = true then (1 ≤ sizeLine ∧ ∀ b, H1 b = none → Q (.ref b) (upd H1 b (.lst [V.int (-2)]))) else spMake a.C K [V.ref (A .g), V.int (enc c).1, V.ref ln, V.ref lt] H1 Q E0) E0 := fun hn => by
      refine ⟨A, s, c, ln, lt, rfl, g, hln, hlt, hz, fun H' sm => ⟨_, rfl, ?_⟩⟩
      cases hin : Vbsoaj.inRange s c with
      | false =>
        rw [step_out hn hin] at q
        exact iteT ⟨by decide, fun b hb => q.lay T.ne (g.same T.ne sm) (Fx.same sm) hb rfl (by show 1 ≤ 1000; decide)⟩
      | true =>
        rw [step_does hn hin] at q
        exact iteF ⟨A, s, c, t, ln, lt, rfl, g.same T.ne sm, hW, ht, sm _ _ hln, sm _ _ hlt, hin, q.later sm⟩
    refine ⟨_, rfl, rfl, _, rfl, ?_⟩
    cases hB : Vbsoaj.isBegin c with
    | true =>
      have e0 : (!decide (V.int (enc c).1 = V.int 0)) = false := by rw [enc_begin hB]; rfl
      show if (!decide (V.int (enc c).1 = V.int 0)) = true then _ else _
      rw [e0]
      refine iteF (iteF ?_)
      have z := rest (fun z => by rw [hB] at z; cases z.1)
      refine ⟨_, rfl, _, rfl, _, rfl, _, rfl, ?_⟩
      obtain ⟨A', s', c', ln', lt', e1, e2, e3, e4, e5, q'⟩ := z
      refine ⟨A', s', c', ln', lt', e1, e2, e3, e4, e5, fun H' sm => ?_⟩
      obtain ⟨k, ek, z⟩ := q' H' sm
      refine ⟨k, ek, ?_⟩
      cases k with
      | false => exact iteT (show _ ∧ _ from z)
      | true => exact iteF ⟨_, rfl, _, rfl, _, rfl, _, rfl, z⟩
    | false =>
      have e0 : (!decide (V.int (enc c).1 = V.int 0)) = true := by
        rw [decide_eq_false]
        · rfl
        · intro z
          injection z with z
          exact enc_other hB z
      show if (!decide (V.int (enc c).1 = V.int 0)) = true then _ else _
      rw [e0]
      refine iteT ⟨_, rfl, ⟨_, _, _, _, _, rfl, hg, T.cl_G, T.nG_begun, lkG_begun, ⟨_, rfl, ?_⟩⟩⟩
      cases hb : s.begun with
      | false =>
        rw [step_not hB hb] at q
        exact iteT ⟨by show 1 ≤ sizeLine; decide, fun b hb => q.lay T.ne g Fx.refl hb rfl (by show 1 ≤ 1000; decide)⟩
      | true =>
        refine iteF ?_
        have z := rest (fun z => by rw [hb] at z; cases z.2)
        refine ⟨_, rfl, _, rfl, _, rfl, _, rfl, ?_⟩
        obtain ⟨A', s', c', ln', lt', e1, e2, e3, e4, e5, q'⟩ := z
        refine ⟨A', s', c', ln', lt', e1, e2, e3, e4, e5, fun H' sm => ?_⟩
        obtain ⟨k, ek, z⟩ := q' H' sm
        refine ⟨k, ek, ?_⟩
        cases k with
        | false => exact iteT (show _ ∧ _ from z)
        | true => exact iteF ⟨_, rfl, _, rfl, _, rfl, _, rfl, z⟩
end
end So

set_option Elab.async false
set_option linter.all false
set_option maxRecDepth 100000
set_option maxHeartbeats 4000000
namespace So
open PySem PySem.Spec PyProof.Rows L2
section
variable {P : Program} {w : World} {K : PySem.W.Frag} {mg : Str → Option Value} {base : Heap} {a : Ad} {C : Cl}

def spAnswers (K : PySem.W.Frag) : Sp := fun vs H Q _ => ∃ (lc : Addr) (ns : List Int), vs = [.ref lc] ∧ Sf K H lc (ns.map V.int) ∧ ns.length ≤ 100000 ∧ PyVbsoaj.answers_asked ns = true ∧
  ∀ (H' : Hp) (l : Addr), H' l = some (.lst ((PyVbsoaj.answers ns).map V.int)) → Q (.ref l) H'
theorem sc_answers : FnScope ["calls"] ["calls"] (defScope s_answers) := ⟨rfl, rfl, rfl, by decide +kernel, rfl, by decide +kernel, by decide +kernel⟩
theorem arity_ok (T : Txt K mg a) : Arity K a.a_NUMBERS_OF_CALL := fun H => ⟨_, T.t_NUMBERS_OF_CALL H, fun c => by cases c <;> rfl⟩
theorem ok_answers (T : Txt K mg a) :
    FnOk P w K mg base CX0 11 a.f_answers a.d_answers ["calls"] (spAnswers K) := by
  refine T.F_answers.ok sc_answers (fun vs H Q E h => ?_) (fun cdv A0 outer s0 H vs Q E hr h => ?_)
  · obtain ⟨lc, ns, rfl, _⟩ := h
    rfl
  · obtain ⟨lc, ns, rfl, hsf, hz, hask, q⟩ := h
    refine ⟨_, pss_one (ps_ret (pe_call (ok_answer_line T (ok_answer_call T) (arity_ok T)) hr rfl T.g_answer_line T.F_answer_line.kp T.B_answer_line .nil pass0
      (pa_cons (pe_make0 T.mk_G (ok_Game_init T) (hr.mono (by decide)) rfl T.g_Game T.B_Game_init .nil pass0) (pa_cons (pv 0) pa_nil)))), ?_⟩
    refine fun x dx nx nd ne => ⟨x, dx, rfl, upd_same, fun H' A' g' eg kp ow => ⟨rfl, _, rfl, ?_⟩⟩
    obtain ⟨cls, e1, e2, e3⟩ := asked_calls hask
    refine ⟨A', lc, cls, ns, by rw [eg]; rfl, g', ?_, e1, hz, e2, fun H2 l hl => q H2 l (by rw [e3]; exact hl)⟩
    rcases hsf with ⟨o, h⟩ | h
    · refine .inl ⟨o, kp _ _ ?_ (ne_of_none h nx)⟩
      rw [upd_ne (ne_of_none h nx), upd_ne (ne_of_none h nd)]
      exact h
    · exact .inr h
end
end So

set_option Elab.async false
set_option linter.all false
set_option maxRecDepth 100000
set_option maxHeartbeats 4000000
namespace So
open PySem PySem.Spec PyProof.Rows L2
open PySem.W (Codec)
/-! ### the request -/
theorem spec_S (K : PySem.W.Frag) (H : Hp) (xs : List V) (a : Codec.denoteAll PySem.Challenge.rw_sealedorders_s01_answers.args) (hO : OnlyF H) (hwi : Codec.withinAll PySem.Challenge.rw_sealedorders_s01_answers.args a = true)
    (hask : Codec.app PySem.Challenge.rw_sealedorders_s01_answers.args PySem.Challenge.rw_sealedorders_s01_answers.asked a = true) (hx : DwAll K H xs (Codec.encAll PySem.Challenge.rw_sealedorders_s01_answers.args a)) :
    spAnswers K xs H (fun v H' => Dw K H' v (PySem.Challenge.rw_sealedorders_s01_answers.ret.enc (Codec.app PySem.Challenge.rw_sealedorders_s01_answers.args PySem.Challenge.rw_sealedorders_s01_answers.f a))) fun _ _ _ => False := by
  cases hx with
  | cons h1 h2 =>
    cases h2
    cases h1 with
    | lst hs ha =>
      have e := L2.ints_dw a.1 _ ha
      subst e
      have q : ((Codec.inLen 0 16000 a.1 && a.1.all (Codec.inInt (-9223372036854775808) 9223372036854775807)) && true) = true := hwi
      rw [Bool.and_eq_true, Bool.and_eq_true] at q
      exact ⟨_, a.1, rfl, Sf.of hs hO, Nat.le_trans (Codec.inNat_iff.mp q.1.1).2 (by decide), hask, fun H' p hp => .lst (L2.SqL.of hp) (L2.dw_ints _)⟩
theorem binds_answers {K : PySem.W.Frag} {mg : Str → Option Value} {a : Ad} (T : Txt K mg a) (s : Shared) (us : List Value) (hu : us.length = (["calls"] : List Str).length) : BindsTo s a.d_answers ⟨us, []⟩ ((["calls"] : List Str).zip us) := by
  obtain ⟨oc, od, kV, doc, pm, an, cdv, ct, osl, e, _⟩ := T.F_answers.ex
  rw [e]
  exact match us, hu with | [_], _ => .of_eq rfl
end So

set_option Elab.async false
set_option linter.all false
set_option maxRecDepth 100000
set_option maxHeartbeats 4000000
namespace So
open PySem PySem.Spec PyProof.Rows L2
/-! What the top has written: printed by gen_txt.py. -/
theorem on0 {M : List Value → Prop} (h : M []) : ∀ us : List Value, us.length = 0 → M us
  | [], _ => h
  | _ :: _, e => nomatch e
theorem onS {M : List Value → Prop} {n : Nat} (h : ∀ x : Value, ∀ us : List Value, us.length = n → M (x :: us)) : ∀ us : List Value, us.length = n + 1 → M us
  | [], e => nomatch e
  | x :: us, e => h x us (Nat.succ.inj e)
theorem txt_mk {K : PySem.W.Frag} {h : Heap} {mg : Str → Option Value} (X : K.In h) (G : h.Ns mainGlobals mg)
    {tk_NOT_BEGUN tk_OUT_OF_RANGE tk_TOO_LATE tk_NO_DRAFT tk_NO_ROOM tk_SWITCHED_WRONG tk_SEASON_NOT_THERE tk_LEAST_POWERS tk_MOST_POWERS tk_MOST_SPAN tk_MOST_ROOM tk_MOST_TICK tk_LAST_NOW tk_LONGEST_TEXT tk_GREATEST_SIGN tk_LAST_SEASON tk_BEGIN tk_TICK tk_WRITE tk_CLEAR tk_SEND tk_ASK tk_DELIVER tk_LOSE tk_DOUBLE tk_STOP tk_START tk_TELL tk_SEE tk_GOT tk_UMPIRE tk_BAG tk_HAND tk_RECEIPT tk_QUESTION tk_OPENED : Tok}
    {u_NUMBERS_OF_CALL_0 u_NUMBERS_OF_CALL_1 u_NUMBERS_OF_CALL_2 u_NUMBERS_OF_CALL_3 u_NUMBERS_OF_CALL_4 u_NUMBERS_OF_CALL_5 u_NUMBERS_OF_CALL_6 u_NUMBERS_OF_CALL_7 u_NUMBERS_OF_CALL_8 u_NUMBERS_OF_CALL_9 u_NUMBERS_OF_CALL_10 u_NUMBERS_OF_CALL_11 u_NUMBERS_OF_CALL_12 u_NUMBERS_OF_CALL_13 u_NUMBERS_OF_CALL_14 u_NUMBERS_OF_CALL_15 u_NOTHING_0 : Tok}
    {a_NUMBERS_OF_CALL a_NOTHING CM f_Machine_init CS f_Sheet_init CU f_Umpire_init CX f_Message_init CG f_Game_init f_Game_lay_out f_blank_sheets f_within f_is_text f_put f_put_or_refuse f_put_opened f_end_season_if_due f_bring f_bring_hand f_bring_receipt f_bring_question f_bring_opened f_begin f_tick f_write f_clear f_new_draft f_send f_ask f_deliver f_lose f_double f_stop f_start f_tell f_see f_got f_show_umpire f_show_bag f_fits f_make_call f_answer_call f_answer_line f_answers : Addr}
    {oc_Machine_init kV_Machine_init dc_Machine_init pm_Machine_init cd_Machine_init ct_Machine_init oc_Sheet_init kV_Sheet_init dc_Sheet_init pm_Sheet_init cd_Sheet_init ct_Sheet_init oc_Umpire_init kV_Umpire_init dc_Umpire_init pm_Umpire_init cd_Umpire_init ct_Umpire_init oc_Message_init kV_Message_init dc_Message_init pm_Message_init cd_Message_init ct_Message_init oc_Game_init kV_Game_init dc_Game_init pm_Game_init cd_Game_init ct_Game_init oc_Game_lay_out kV_Game_lay_out dc_Game_lay_out pm_Game_lay_out cd_Game_lay_out ct_Game_lay_out oc_blank_sheets kV_blank_sheets dc_blank_sheets pm_blank_sheets cd_blank_sheets ct_blank_sheets oc_within kV_within dc_within pm_within cd_within ct_within oc_is_text kV_is_text dc_is_text pm_is_text cd_is_text ct_is_text oc_put kV_put dc_put pm_put cd_put ct_put oc_put_or_refuse kV_put_or_refuse dc_put_or_refuse pm_put_or_refuse cd_put_or_refuse ct_put_or_refuse oc_put_opened kV_put_opened dc_put_opened pm_put_opened cd_put_opened ct_put_opened oc_end_season_if_due kV_end_season_if_due dc_end_season_if_due pm_end_season_if_due cd_end_season_if_due ct_end_season_if_due oc_bring kV_bring dc_bring pm_bring cd_bring ct_bring oc_bring_hand kV_bring_hand dc_bring_hand pm_bring_hand cd_bring_hand ct_bring_hand oc_bring_receipt kV_bring_receipt dc_bring_receipt pm_bring_receipt cd_bring_receipt ct_bring_receipt oc_bring_question kV_bring_question dc_bring_question pm_bring_question cd_bring_question ct_bring_question oc_bring_opened kV_bring_opened dc_bring_opened pm_bring_opened cd_bring_opened ct_bring_opened oc_begin kV_begin dc_begin pm_begin cd_begin ct_begin oc_tick kV_tick dc_tick pm_tick cd_tick ct_tick oc_write kV_write dc_write pm_write cd_write ct_write oc_clear kV_clear dc_clear pm_clear cd_clear ct_clear oc_new_draft kV_new_draft dc_new_draft pm_new_draft cd_new_draft ct_new_draft oc_send kV_send dc_send pm_send cd_send ct_send oc_ask kV_ask dc_ask pm_ask cd_ask ct_ask oc_deliver kV_deliver dc_deliver pm_deliver cd_deliver ct_deliver oc_lose kV_lose dc_lose pm_lose cd_lose ct_lose oc_double kV_double dc_double pm_double cd_double ct_double oc_stop kV_stop dc_stop pm_stop cd_stop ct_stop oc_start kV_start dc_start pm_start cd_start ct_start oc_tell kV_tell dc_tell pm_tell cd_tell ct_tell oc_see kV_see dc_see pm_see cd_see ct_see oc_got kV_got dc_got pm_got cd_got ct_got oc_show_umpire kV_show_umpire dc_show_umpire pm_show_umpire cd_show_umpire ct_show_umpire oc_show_bag kV_show_bag dc_show_bag pm_show_bag cd_show_bag ct_show_bag oc_fits kV_fits dc_fits pm_fits cd_fits ct_fits oc_make_call kV_make_call dc_make_call pm_make_call cd_make_call ct_make_call oc_answer_call kV_answer_call dc_answer_call pm_answer_call cd_answer_call ct_answer_call oc_answer_line kV_answer_line dc_answer_line pm_answer_line cd_answer_line ct_answer_line oc_answers kV_answers dc_answers pm_answers cd_answers ct_answers : Value}
    {od_NUMBERS_OF_CALL od_NOTHING od_Machine_init an_Machine_init od_Sheet_init an_Sheet_init od_Umpire_init an_Umpire_init od_Message_init an_Message_init od_Game_init an_Game_init od_Game_lay_out an_Game_lay_out od_blank_sheets an_blank_sheets od_within an_within od_is_text an_is_text od_put an_put od_put_or_refuse an_put_or_refuse od_put_opened an_put_opened od_end_season_if_due an_end_season_if_due od_bring an_bring od_bring_hand an_bring_hand od_bring_receipt an_bring_receipt od_bring_question an_bring_question od_bring_opened an_bring_opened od_begin an_begin od_tick an_tick od_write an_write od_clear an_clear od_new_draft an_new_draft od_send an_send od_ask an_ask od_deliver an_deliver od_lose an_lose od_double an_double od_stop an_stop od_start an_start od_tell an_tell od_see an_see od_got an_got od_show_umpire an_show_umpire od_show_bag an_show_bag od_fits an_fits od_make_call an_make_call od_answer_call an_answer_call od_answer_line an_answer_line od_answers an_answers : Option Addr}
    {sl_NUMBERS_OF_CALL sl_NOTHING sl_Machine_init sl_Sheet_init sl_Umpire_init sl_Message_init sl_Game_init sl_Game_lay_out sl_blank_sheets sl_within sl_is_text sl_put sl_put_or_refuse sl_put_opened sl_end_season_if_due sl_bring sl_bring_hand sl_bring_receipt sl_bring_question sl_bring_opened sl_begin sl_tick sl_write sl_clear sl_new_draft sl_send sl_ask sl_deliver sl_lose sl_double sl_stop sl_start sl_tell sl_see sl_got sl_show_umpire sl_show_bag sl_fits sl_make_call sl_answer_call sl_answer_line sl_answers : Array (Option Value)}
    {q_NUMBERS_OF_CALL q_NOTHING : Nat}
    (i_NOT_BEGUN : PySem.W.nsIn K mainGlobals "NOT_BEGUN" = some (some (.int (-1) tk_NOT_BEGUN)))
    (i_OUT_OF_RANGE : PySem.W.nsIn K mainGlobals "OUT_OF_RANGE" = some (some (.int (-2) tk_OUT_OF_RANGE)))
    (i_TOO_LATE : PySem.W.nsIn K mainGlobals "TOO_LATE" = some (some (.int (-3) tk_TOO_LATE)))
    (i_NO_DRAFT : PySem.W.nsIn K mainGlobals "NO_DRAFT" = some (some (.int (-4) tk_NO_DRAFT)))
    (i_NO_ROOM : PySem.W.nsIn K mainGlobals "NO_ROOM" = some (some (.int (-5) tk_NO_ROOM)))
    (i_SWITCHED_WRONG : PySem.W.nsIn K mainGlobals "SWITCHED_WRONG" = some (some (.int (-6) tk_SWITCHED_WRONG)))
    (i_SEASON_NOT_THERE : PySem.W.nsIn K mainGlobals "SEASON_NOT_THERE" = some (some (.int (-7) tk_SEASON_NOT_THERE)))
    (i_LEAST_POWERS : PySem.W.nsIn K mainGlobals "LEAST_POWERS" = some (some (.int 2 tk_LEAST_POWERS)))
    (i_MOST_POWERS : PySem.W.nsIn K mainGlobals "MOST_POWERS" = some (some (.int 7 tk_MOST_POWERS)))
    (i_MOST_SPAN : PySem.W.nsIn K mainGlobals "MOST_SPAN" = some (some (.int 1000000 tk_MOST_SPAN)))
    (i_MOST_ROOM : PySem.W.nsIn K mainGlobals "MOST_ROOM" = some (some (.int 100 tk_MOST_ROOM)))
    (i_MOST_TICK : PySem.W.nsIn K mainGlobals "MOST_TICK" = some (some (.int 1000000 tk_MOST_TICK)))
    (i_LAST_NOW : PySem.W.nsIn K mainGlobals "LAST_NOW" = some (some (.int 100000000 tk_LAST_NOW)))
    (i_LONGEST_TEXT : PySem.W.nsIn K mainGlobals "LONGEST_TEXT" = some (some (.int 120 tk_LONGEST_TEXT)))
    (i_GREATEST_SIGN : PySem.W.nsIn K mainGlobals "GREATEST_SIGN" = some (some (.int 255 tk_GREATEST_SIGN)))
    (i_LAST_SEASON : PySem.W.nsIn K mainGlobals "LAST_SEASON" = some (some (.int 1000000 tk_LAST_SEASON)))
    (i_BEGIN : PySem.W.nsIn K mainGlobals "BEGIN" = some (some (.int 0 tk_BEGIN)))
    (i_TICK : PySem.W.nsIn K mainGlobals "TICK" = some (some (.int 1 tk_TICK)))
    (i_WRITE : PySem.W.nsIn K mainGlobals "WRITE" = some (some (.int 2 tk_WRITE)))
    (i_CLEAR : PySem.W.nsIn K mainGlobals "CLEAR" = some (some (.int 3 tk_CLEAR)))
    (i_SEND : PySem.W.nsIn K mainGlobals "SEND" = some (some (.int 4 tk_SEND)))
    (i_ASK : PySem.W.nsIn K mainGlobals "ASK" = some (some (.int 5 tk_ASK)))
    (i_DELIVER : PySem.W.nsIn K mainGlobals "DELIVER" = some (some (.int 6 tk_DELIVER)))
    (i_LOSE : PySem.W.nsIn K mainGlobals "LOSE" = some (some (.int 7 tk_LOSE)))
    (i_DOUBLE : PySem.W.nsIn K mainGlobals "DOUBLE" = some (some (.int 8 tk_DOUBLE)))
    (i_STOP : PySem.W.nsIn K mainGlobals "STOP" = some (some (.int 9 tk_STOP)))
    (i_START : PySem.W.nsIn K mainGlobals "START" = some (some (.int 10 tk_START)))
    (i_TELL : PySem.W.nsIn K mainGlobals "TELL" = some (some (.int 11 tk_TELL)))
    (i_SEE : PySem.W.nsIn K mainGlobals "SEE" = some (some (.int 12 tk_SEE)))
    (i_GOT : PySem.W.nsIn K mainGlobals "GOT" = some (some (.int 13 tk_GOT)))
    (i_UMPIRE : PySem.W.nsIn K mainGlobals "UMPIRE" = some (some (.int 14 tk_UMPIRE)))
    (i_BAG : PySem.W.nsIn K mainGlobals "BAG" = some (some (.int 15 tk_BAG)))
    (i_HAND : PySem.W.nsIn K mainGlobals "HAND" = some (some (.int 0 tk_HAND)))
    (i_RECEIPT : PySem.W.nsIn K mainGlobals "RECEIPT" = some (some (.int 1 tk_RECEIPT)))
    (i_QUESTION : PySem.W.nsIn K mainGlobals "QUESTION" = some (some (.int 2 tk_QUESTION)))
    (i_OPENED : PySem.W.nsIn K mainGlobals "OPENED" = some (some (.int 3 tk_OPENED)))
    (g_NUMBERS_OF_CALL : PySem.W.nsIn K mainGlobals "NUMBERS_OF_CALL" = some (some (.ref a_NUMBERS_OF_CALL)))
    (t_NUMBERS_OF_CALL : K.lookup a_NUMBERS_OF_CALL = some ⟨.type "tuple", od_NUMBERS_OF_CALL, .seq #[.int 3 u_NUMBERS_OF_CALL_0, .int 1 u_NUMBERS_OF_CALL_1, .int 1 u_NUMBERS_OF_CALL_2, .int 1 u_NUMBERS_OF_CALL_3, .int 1 u_NUMBERS_OF_CALL_4, .int 1 u_NUMBERS_OF_CALL_5, .int 1 u_NUMBERS_OF_CALL_6, .int 1 u_NUMBERS_OF_CALL_7, .int 1 u_NUMBERS_OF_CALL_8, .int 0 u_NUMBERS_OF_CALL_9, .int 0 u_NUMBERS_OF_CALL_10, .int 1 u_NUMBERS_OF_CALL_11, .int 1 u_NUMBERS_OF_CALL_12, .int 2 u_NUMBERS_OF_CALL_13, .int 0 u_NUMBERS_OF_CALL_14, .int 0 u_NUMBERS_OF_CALL_15] q_NUMBERS_OF_CALL, sl_NUMBERS_OF_CALL⟩)
    (g_NOTHING : PySem.W.nsIn K mainGlobals "NOTHING" = some (some (.ref a_NOTHING)))
    (t_NOTHING : K.lookup a_NOTHING = some ⟨.type "tuple", od_NOTHING, .seq #[.int 0 u_NOTHING_0] q_NOTHING, sl_NOTHING⟩)
    (b_all : PySem.W.nsIn K mainGlobals "all" = some none)
    (b_len : PySem.W.nsIn K mainGlobals "len" = some none)
    (b_list : PySem.W.nsIn K mainGlobals "list" = some none)
    (b_range : PySem.W.nsIn K mainGlobals "range" = some none)
    (b_tuple : PySem.W.nsIn K mainGlobals "tuple" = some none)
    (g_Machine : PySem.W.nsIn K mainGlobals "Machine" = some (some (.ref CM)))
    (pgM : PySem.W.plainGet K CM Str.empty = true)
    (hdM : PySem.W.hasDictIn K CM = true)
    (poM : PySem.W.plainOver K CM = true)
    (saM : PySem.W.findIn K (.ref CM) "__setattr__" = some (some (.builtin "object.__setattr__")))
    (mkM : PySem.W.makesIn K CM = true)
    (kcM : PySem.W.keepIn K (.ref CM) = true)
    (nM_season : PySem.W.findIn K (.ref CM) "season" = some none)
    (nM_version : PySem.W.findIn K (.ref CM) "version" = some none)
    (nM_acknowledged : PySem.W.findIn K (.ref CM) "acknowledged" = some none)
    (nM_draft : PySem.W.findIn K (.ref CM) "draft" = some none)
    (nM_rows : PySem.W.findIn K (.ref CM) "rows" = some none)
    (a_Machine_init : PySem.W.findIn K (.ref CM) "__init__" = some (some (.ref f_Machine_init)))
    (i_Machine_init : PySem.W.isFn K (.ref f_Machine_init) = true)
    (l_Machine_init : K.lookup f_Machine_init = some ⟨oc_Machine_init, od_Machine_init, .func (PySem.W.fnOf "__init__" "Machine.__init__" (defArgs s_Machine_init) (defBody s_Machine_init) (defScope s_Machine_init) .none kV_Machine_init dc_Machine_init pm_Machine_init an_Machine_init cd_Machine_init ct_Machine_init), sl_Machine_init⟩)
    (c_Machine_init : PySem.W.codeIn K cd_Machine_init "Machine.__init__" = true)
    (k_Machine_init : PySem.W.keepIn K (.ref f_Machine_init) = true)
    (g_Sheet : PySem.W.nsIn K mainGlobals "Sheet" = some (some (.ref CS)))
    (pgS : PySem.W.plainGet K CS Str.empty = true)
    (hdS : PySem.W.hasDictIn K CS = true)
    (poS : PySem.W.plainOver K CS = true)
    (saS : PySem.W.findIn K (.ref CS) "__setattr__" = some (some (.builtin "object.__setattr__")))
    (mkS : PySem.W.makesIn K CS = true)
    (kcS : PySem.W.keepIn K (.ref CS) = true)
    (nS_version : PySem.W.findIn K (.ref CS) "version" = some none)
    (nS_written : PySem.W.findIn K (.ref CS) "written" = some none)
    (a_Sheet_init : PySem.W.findIn K (.ref CS) "__init__" = some (some (.ref f_Sheet_init)))
    (i_Sheet_init : PySem.W.isFn K (.ref f_Sheet_init) = true)
    (l_Sheet_init : K.lookup f_Sheet_init = some ⟨oc_Sheet_init, od_Sheet_init, .func (PySem.W.fnOf "__init__" "Sheet.__init__" (defArgs s_Sheet_init) (defBody s_Sheet_init) (defScope s_Sheet_init) .none kV_Sheet_init dc_Sheet_init pm_Sheet_init an_Sheet_init cd_Sheet_init ct_Sheet_init), sl_Sheet_init⟩)
    (c_Sheet_init : PySem.W.codeIn K cd_Sheet_init "Sheet.__init__" = true)
    (k_Sheet_init : PySem.W.keepIn K (.ref f_Sheet_init) = true)
    (g_Umpire : PySem.W.nsIn K mainGlobals "Umpire" = some (some (.ref CU)))
    (pgU : PySem.W.plainGet K CU Str.empty = true)
    (hdU : PySem.W.hasDictIn K CU = true)
    (poU : PySem.W.plainOver K CU = true)
    (saU : PySem.W.findIn K (.ref CU) "__setattr__" = some (some (.builtin "object.__setattr__")))
    (mkU : PySem.W.makesIn K CU = true)
    (kcU : PySem.W.keepIn K (.ref CU) = true)
    (nU_on : PySem.W.findIn K (.ref CU) "on" = some none)
    (nU_season : PySem.W.findIn K (.ref CU) "season" = some none)
    (nU_deadline : PySem.W.findIn K (.ref CU) "deadline" = some none)
    (nU_sheets : PySem.W.findIn K (.ref CU) "sheets" = some none)
    (nU_opened : PySem.W.findIn K (.ref CU) "opened" = some none)
    (a_Umpire_init : PySem.W.findIn K (.ref CU) "__init__" = some (some (.ref f_Umpire_init)))
    (i_Umpire_init : PySem.W.isFn K (.ref f_Umpire_init) = true)
    (l_Umpire_init : K.lookup f_Umpire_init = some ⟨oc_Umpire_init, od_Umpire_init, .func (PySem.W.fnOf "__init__" "Umpire.__init__" (defArgs s_Umpire_init) (defBody s_Umpire_init) (defScope s_Umpire_init) .none kV_Umpire_init dc_Umpire_init pm_Umpire_init an_Umpire_init cd_Umpire_init ct_Umpire_init), sl_Umpire_init⟩)
    (c_Umpire_init : PySem.W.codeIn K cd_Umpire_init "Umpire.__init__" = true)
    (k_Umpire_init : PySem.W.keepIn K (.ref f_Umpire_init) = true)
    (g_Message : PySem.W.nsIn K mainGlobals "Message" = some (some (.ref CX)))
    (pgX : PySem.W.plainGet K CX Str.empty = true)
    (hdX : PySem.W.hasDictIn K CX = true)
    (poX : PySem.W.plainOver K CX = true)
    (saX : PySem.W.findIn K (.ref CX) "__setattr__" = some (some (.builtin "object.__setattr__")))
    (mkX : PySem.W.makesIn K CX = true)
    (kcX : PySem.W.keepIn K (.ref CX) = true)
    (nX_kind : PySem.W.findIn K (.ref CX) "kind" = some none)
    (nX_power : PySem.W.findIn K (.ref CX) "power" = some none)
    (nX_season : PySem.W.findIn K (.ref CX) "season" = some none)
    (nX_version : PySem.W.findIn K (.ref CX) "version" = some none)
    (nX_written : PySem.W.findIn K (.ref CX) "written" = some none)
    (nX_row : PySem.W.findIn K (.ref CX) "row" = some none)
    (a_Message_init : PySem.W.findIn K (.ref CX) "__init__" = some (some (.ref f_Message_init)))
    (i_Message_init : PySem.W.isFn K (.ref f_Message_init) = true)
    (l_Message_init : K.lookup f_Message_init = some ⟨oc_Message_init, od_Message_init, .func (PySem.W.fnOf "__init__" "Message.__init__" (defArgs s_Message_init) (defBody s_Message_init) (defScope s_Message_init) .none kV_Message_init dc_Message_init pm_Message_init an_Message_init cd_Message_init ct_Message_init), sl_Message_init⟩)
    (c_Message_init : PySem.W.codeIn K cd_Message_init "Message.__init__" = true)
    (k_Message_init : PySem.W.keepIn K (.ref f_Message_init) = true)
    (g_Game : PySem.W.nsIn K mainGlobals "Game" = some (some (.ref CG)))
    (pgG : PySem.W.plainGet K CG Str.empty = true)
    (hdG : PySem.W.hasDictIn K CG = true)
    (poG : PySem.W.plainOver K CG = true)
    (saG : PySem.W.findIn K (.ref CG) "__setattr__" = some (some (.builtin "object.__setattr__")))
    (mkG : PySem.W.makesIn K CG = true)
    (kcG : PySem.W.keepIn K (.ref CG) = true)
    (nG_begun : PySem.W.findIn K (.ref CG) "begun" = some none)
    (nG_span : PySem.W.findIn K (.ref CG) "span" = some none)
    (nG_room : PySem.W.findIn K (.ref CG) "room" = some none)
    (nG_now : PySem.W.findIn K (.ref CG) "now" = some none)
    (nG_machines : PySem.W.findIn K (.ref CG) "machines" = some none)
    (nG_umpire : PySem.W.findIn K (.ref CG) "umpire" = some none)
    (nG_messages : PySem.W.findIn K (.ref CG) "messages" = some none)
    (a_Game_init : PySem.W.findIn K (.ref CG) "__init__" = some (some (.ref f_Game_init)))
    (i_Game_init : PySem.W.isFn K (.ref f_Game_init) = true)
    (l_Game_init : K.lookup f_Game_init = some ⟨oc_Game_init, od_Game_init, .func (PySem.W.fnOf "__init__" "Game.__init__" (defArgs s_Game_init) (defBody s_Game_init) (defScope s_Game_init) .none kV_Game_init dc_Game_init pm_Game_init an_Game_init cd_Game_init ct_Game_init), sl_Game_init⟩)
    (c_Game_init : PySem.W.codeIn K cd_Game_init "Game.__init__" = true)
    (k_Game_init : PySem.W.keepIn K (.ref f_Game_init) = true)
    (a_Game_lay_out : PySem.W.findIn K (.ref CG) "lay_out" = some (some (.ref f_Game_lay_out)))
    (i_Game_lay_out : PySem.W.isFn K (.ref f_Game_lay_out) = true)
    (l_Game_lay_out : K.lookup f_Game_lay_out = some ⟨oc_Game_lay_out, od_Game_lay_out, .func (PySem.W.fnOf "lay_out" "Game.lay_out" (defArgs s_Game_lay_out) (defBody s_Game_lay_out) (defScope s_Game_lay_out) .none kV_Game_lay_out dc_Game_lay_out pm_Game_lay_out an_Game_lay_out cd_Game_lay_out ct_Game_lay_out), sl_Game_lay_out⟩)
    (c_Game_lay_out : PySem.W.codeIn K cd_Game_lay_out "Game.lay_out" = true)
    (k_Game_lay_out : PySem.W.keepIn K (.ref f_Game_lay_out) = true)
    (g_blank_sheets : PySem.W.nsIn K mainGlobals "blank_sheets" = some (some (.ref f_blank_sheets)))
    (l_blank_sheets : K.lookup f_blank_sheets = some ⟨oc_blank_sheets, od_blank_sheets, .func (PySem.W.fnOf "blank_sheets" "blank_sheets" (defArgs s_blank_sheets) (defBody s_blank_sheets) (defScope s_blank_sheets) .none kV_blank_sheets dc_blank_sheets pm_blank_sheets an_blank_sheets cd_blank_sheets ct_blank_sheets), sl_blank_sheets⟩)
    (c_blank_sheets : PySem.W.codeIn K cd_blank_sheets "blank_sheets" = true)
    (k_blank_sheets : PySem.W.keepIn K (.ref f_blank_sheets) = true)
    (g_within : PySem.W.nsIn K mainGlobals "within" = some (some (.ref f_within)))
    (l_within : K.lookup f_within = some ⟨oc_within, od_within, .func (PySem.W.fnOf "within" "within" (defArgs s_within) (defBody s_within) (defScope s_within) .none kV_within dc_within pm_within an_within cd_within ct_within), sl_within⟩)
    (c_within : PySem.W.codeIn K cd_within "within" = true)
    (k_within : PySem.W.keepIn K (.ref f_within) = true)
    (g_is_text : PySem.W.nsIn K mainGlobals "is_text" = some (some (.ref f_is_text)))
    (l_is_text : K.lookup f_is_text = some ⟨oc_is_text, od_is_text, .func (PySem.W.fnOf "is_text" "is_text" (defArgs s_is_text) (defBody s_is_text) (defScope s_is_text) .none kV_is_text dc_is_text pm_is_text an_is_text cd_is_text ct_is_text), sl_is_text⟩)
    (c_is_text : PySem.W.codeIn K cd_is_text "is_text" = true)
    (k_is_text : PySem.W.keepIn K (.ref f_is_text) = true)
    (g_put : PySem.W.nsIn K mainGlobals "put" = some (some (.ref f_put)))
    (l_put : K.lookup f_put = some ⟨oc_put, od_put, .func (PySem.W.fnOf "put" "put" (defArgs s_put) (defBody s_put) (defScope s_put) .none kV_put dc_put pm_put an_put cd_put ct_put), sl_put⟩)
    (c_put : PySem.W.codeIn K cd_put "put" = true)
    (k_put : PySem.W.keepIn K (.ref f_put) = true)
    (g_put_or_refuse : PySem.W.nsIn K mainGlobals "put_or_refuse" = some (some (.ref f_put_or_refuse)))
    (l_put_or_refuse : K.lookup f_put_or_refuse = some ⟨oc_put_or_refuse, od_put_or_refuse, .func (PySem.W.fnOf "put_or_refuse" "put_or_refuse" (defArgs s_put_or_refuse) (defBody s_put_or_refuse) (defScope s_put_or_refuse) .none kV_put_or_refuse dc_put_or_refuse pm_put_or_refuse an_put_or_refuse cd_put_or_refuse ct_put_or_refuse), sl_put_or_refuse⟩)
    (c_put_or_refuse : PySem.W.codeIn K cd_put_or_refuse "put_or_refuse" = true)
    (k_put_or_refuse : PySem.W.keepIn K (.ref f_put_or_refuse) = true)
    (g_put_opened : PySem.W.nsIn K mainGlobals "put_opened" = some (some (.ref f_put_opened)))
    (l_put_opened : K.lookup f_put_opened = some ⟨oc_put_opened, od_put_opened, .func (PySem.W.fnOf "put_opened" "put_opened" (defArgs s_put_opened) (defBody s_put_opened) (defScope s_put_opened) .none kV_put_opened dc_put_opened pm_put_opened an_put_opened cd_put_opened ct_put_opened), sl_put_opened⟩)
    (c_put_opened : PySem.W.codeIn K cd_put_opened "put_opened" = true)
    (k_put_opened : PySem.W.keepIn K (.ref f_put_opened) = true)
    (g_end_season_if_due : PySem.W.nsIn K mainGlobals "end_season_if_due" = some (some (.ref f_end_season_if_due)))
    (l_end_season_if_due : K.lookup f_end_season_if_due = some ⟨oc_end_season_if_due, od_end_season_if_due, .func (PySem.W.fnOf "end_season_if_due" "end_season_if_due" (defArgs s_end_season_if_due) (defBody s_end_season_if_due) (defScope s_end_season_if_due) .none kV_end_season_if_due dc_end_season_if_due pm_end_season_if_due an_end_season_if_due cd_end_season_if_due ct_end_season_if_due), sl_end_season_if_due⟩)
    (c_end_season_if_due : PySem.W.codeIn K cd_end_season_if_due "end_season_if_due" = true)
    (k_end_season_if_due : PySem.W.keepIn K (.ref f_end_season_if_due) = true)
    (g_bring : PySem.W.nsIn K mainGlobals "bring" = some (some (.ref f_bring)))
    (l_bring : K.lookup f_bring = some ⟨oc_bring, od_bring, .func (PySem.W.fnOf "bring" "bring" (defArgs s_bring) (defBody s_bring) (defScope s_bring) .none kV_bring dc_bring pm_bring an_bring cd_bring ct_bring), sl_bring⟩)
    (c_bring : PySem.W.codeIn K cd_bring "bring" = true)
    (k_bring : PySem.W.keepIn K (.ref f_bring) = true)
    (g_bring_hand : PySem.W.nsIn K mainGlobals "bring_hand" = some (some (.ref f_bring_hand)))
    (l_bring_hand : K.lookup f_bring_hand = some ⟨oc_bring_hand, od_bring_hand, .func (PySem.W.fnOf "bring_hand" "bring_hand" (defArgs s_bring_hand) (defBody s_bring_hand) (defScope s_bring_hand) .none kV_bring_hand dc_bring_hand pm_bring_hand an_bring_hand cd_bring_hand ct_bring_hand), sl_bring_hand⟩)
    (c_bring_hand : PySem.W.codeIn K cd_bring_hand "bring_hand" = true)
    (k_bring_hand : PySem.W.keepIn K (.ref f_bring_hand) = true)
    (g_bring_receipt : PySem.W.nsIn K mainGlobals "bring_receipt" = some (some (.ref f_bring_receipt)))
    (l_bring_receipt : K.lookup f_bring_receipt = some ⟨oc_bring_receipt, od_bring_receipt, .func (PySem.W.fnOf "bring_receipt" "bring_receipt" (defArgs s_bring_receipt) (defBody s_bring_receipt) (defScope s_bring_receipt) .none kV_bring_receipt dc_bring_receipt pm_bring_receipt an_bring_receipt cd_bring_receipt ct_bring_receipt), sl_bring_receipt⟩)
    (c_bring_receipt : PySem.W.codeIn K cd_bring_receipt "bring_receipt" = true)
    (k_bring_receipt : PySem.W.keepIn K (.ref f_bring_receipt) = true)
    (g_bring_question : PySem.W.nsIn K mainGlobals "bring_question" = some (some (.ref f_bring_question)))
    (l_bring_question : K.lookup f_bring_question = some ⟨oc_bring_question, od_bring_question, .func (PySem.W.fnOf "bring_question" "bring_question" (defArgs s_bring_question) (defBody s_bring_question) (defScope s_bring_question) .none kV_bring_question dc_bring_question pm_bring_question an_bring_question cd_bring_question ct_bring_question), sl_bring_question⟩)
    (c_bring_question : PySem.W.codeIn K cd_bring_question "bring_question" = true)
    (k_bring_question : PySem.W.keepIn K (.ref f_bring_question) = true)
    (g_bring_opened : PySem.W.nsIn K mainGlobals "bring_opened" = some (some (.ref f_bring_opened)))
    (l_bring_opened : K.lookup f_bring_opened = some ⟨oc_bring_opened, od_bring_opened, .func (PySem.W.fnOf "bring_opened" "bring_opened" (defArgs s_bring_opened) (defBody s_bring_opened) (defScope s_bring_opened) .none kV_bring_opened dc_bring_opened pm_bring_opened an_bring_opened cd_bring_opened ct_bring_opened), sl_bring_opened⟩)
    (c_bring_opened : PySem.W.codeIn K cd_bring_opened "bring_opened" = true)
    (k_bring_opened : PySem.W.keepIn K (.ref f_bring_opened) = true)
    (g_begin : PySem.W.nsIn K mainGlobals "begin" = some (some (.ref f_begin)))
    (l_begin : K.lookup f_begin = some ⟨oc_begin, od_begin, .func (PySem.W.fnOf "begin" "begin" (defArgs s_begin) (defBody s_begin) (defScope s_begin) .none kV_begin dc_begin pm_begin an_begin cd_begin ct_begin), sl_begin⟩)
    (c_begin : PySem.W.codeIn K cd_begin "begin" = true)
    (k_begin : PySem.W.keepIn K (.ref f_begin) = true)
    (g_tick : PySem.W.nsIn K mainGlobals "tick" = some (some (.ref f_tick)))
    (l_tick : K.lookup f_tick = some ⟨oc_tick, od_tick, .func (PySem.W.fnOf "tick" "tick" (defArgs s_tick) (defBody s_tick) (defScope s_tick) .none kV_tick dc_tick pm_tick an_tick cd_tick ct_tick), sl_tick⟩)
    (c_tick : PySem.W.codeIn K cd_tick "tick" = true)
    (k_tick : PySem.W.keepIn K (.ref f_tick) = true)
    (g_write : PySem.W.nsIn K mainGlobals "write" = some (some (.ref f_write)))
    (l_write : K.lookup f_write = some ⟨oc_write, od_write, .func (PySem.W.fnOf "write" "write" (defArgs s_write) (defBody s_write) (defScope s_write) .none kV_write dc_write pm_write an_write cd_write ct_write), sl_write⟩)
    (c_write : PySem.W.codeIn K cd_write "write" = true)
    (k_write : PySem.W.keepIn K (.ref f_write) = true)
    (g_clear : PySem.W.nsIn K mainGlobals "clear" = some (some (.ref f_clear)))
    (l_clear : K.lookup f_clear = some ⟨oc_clear, od_clear, .func (PySem.W.fnOf "clear" "clear" (defArgs s_clear) (defBody s_clear) (defScope s_clear) .none kV_clear dc_clear pm_clear an_clear cd_clear ct_clear), sl_clear⟩)
    (c_clear : PySem.W.codeIn K cd_clear "clear" = true)
    (k_clear : PySem.W.keepIn K (.ref f_clear) = true)
    (g_new_draft : PySem.W.nsIn K mainGlobals "new_draft" = some (some (.ref f_new_draft)))
    (l_new_draft : K.lookup f_new_draft = some ⟨oc_new_draft, od_new_draft, .func (PySem.W.fnOf "new_draft" "new_draft" (defArgs s_new_draft) (defBody s_new_draft) (defScope s_new_draft) .none kV_new_draft dc_new_draft pm_new_draft an_new_draft cd_new_draft ct_new_draft), sl_new_draft⟩)
    (c_new_draft : PySem.W.codeIn K cd_new_draft "new_draft" = true)
    (k_new_draft : PySem.W.keepIn K (.ref f_new_draft) = true)
    (g_send : PySem.W.nsIn K mainGlobals "send" = some (some (.ref f_send)))
    (l_send : K.lookup f_send = some ⟨oc_send, od_send, .func (PySem.W.fnOf "send" "send" (defArgs s_send) (defBody s_send) (defScope s_send) .none kV_send dc_send pm_send an_send cd_send ct_send), sl_send⟩)
    (c_send : PySem.W.codeIn K cd_send "send" = true)
    (k_send : PySem.W.keepIn K (.ref f_send) = true)
    (g_ask : PySem.W.nsIn K mainGlobals "ask" = some (some (.ref f_ask)))
    (l_ask : K.lookup f_ask = some ⟨oc_ask, od_ask, .func (PySem.W.fnOf "ask" "ask" (defArgs s_ask) (defBody s_ask) (defScope s_ask) .none kV_ask dc_ask pm_ask an_ask cd_ask ct_ask), sl_ask⟩)
    (c_ask : PySem.W.codeIn K cd_ask "ask" = true)
    (k_ask : PySem.W.keepIn K (.ref f_ask) = true)
    (g_deliver : PySem.W.nsIn K mainGlobals "deliver" = some (some (.ref f_deliver)))
    (l_deliver : K.lookup f_deliver = some ⟨oc_deliver, od_deliver, .func (PySem.W.fnOf "deliver" "deliver" (defArgs s_deliver) (defBody s_deliver) (defScope s_deliver) .none kV_deliver dc_deliver pm_deliver an_deliver cd_deliver ct_deliver), sl_deliver⟩)
    (c_deliver : PySem.W.codeIn K cd_deliver "deliver" = true)
    (k_deliver : PySem.W.keepIn K (.ref f_deliver) = true)
    (g_lose : PySem.W.nsIn K mainGlobals "lose" = some (some (.ref f_lose)))
    (l_lose : K.lookup f_lose = some ⟨oc_lose, od_lose, .func (PySem.W.fnOf "lose" "lose" (defArgs s_lose) (defBody s_lose) (defScope s_lose) .none kV_lose dc_lose pm_lose an_lose cd_lose ct_lose), sl_lose⟩)
    (c_lose : PySem.W.codeIn K cd_lose "lose" = true)
    (k_lose : PySem.W.keepIn K (.ref f_lose) = true)
    (g_double : PySem.W.nsIn K mainGlobals "double" = some (some (.ref f_double)))
    (l_double : K.lookup f_double = some ⟨oc_double, od_double, .func (PySem.W.fnOf "double" "double" (defArgs s_double) (defBody s_double) (defScope s_double) .none kV_double dc_double pm_double an_double cd_double ct_double), sl_double⟩)
    (c_double : PySem.W.codeIn K cd_double "double" = true)
    (k_double : PySem.W.keepIn K (.ref f_double) = true)
    (g_stop : PySem.W.nsIn K mainGlobals "stop" = some (some (.ref f_stop)))
    (l_stop : K.lookup f_stop = some ⟨oc_stop, od_stop, .func (PySem.W.fnOf "stop" "stop" (defArgs s_stop) (defBody s_stop) (defScope s_stop) .none kV_stop dc_stop pm_stop an_stop cd_stop ct_stop), sl_stop⟩)
    (c_stop : PySem.W.codeIn K cd_stop "stop" = true)
    (k_stop : PySem.W.keepIn K (.ref f_stop) = true)
    (g_start : PySem.W.nsIn K mainGlobals "start" = some (some (.ref f_start)))
    (l_start : K.lookup f_start = some ⟨oc_start, od_start, .func (PySem.W.fnOf "start" "start" (defArgs s_start) (defBody s_start) (defScope s_start) .none kV_start dc_start pm_start an_start cd_start ct_start), sl_start⟩)
    (c_start : PySem.W.codeIn K cd_start "start" = true)
    (k_start : PySem.W.keepIn K (.ref f_start) = true)
    (g_tell : PySem.W.nsIn K mainGlobals "tell" = some (some (.ref f_tell)))
    (l_tell : K.lookup f_tell = some ⟨oc_tell, od_tell, .func (PySem.W.fnOf "tell" "tell" (defArgs s_tell) (defBody s_tell) (defScope s_tell) .none kV_tell dc_tell pm_tell an_tell cd_tell ct_tell), sl_tell⟩)
    (c_tell : PySem.W.codeIn K cd_tell "tell" = true)
    (k_tell : PySem.W.keepIn K (.ref f_tell) = true)
    (g_see : PySem.W.nsIn K mainGlobals "see" = some (some (.ref f_see)))
    (l_see : K.lookup f_see = some ⟨oc_see, od_see, .func (PySem.W.fnOf "see" "see" (defArgs s_see) (defBody s_see) (defScope s_see) .none kV_see dc_see pm_see an_see cd_see ct_see), sl_see⟩)
    (c_see : PySem.W.codeIn K cd_see "see" = true)
    (k_see : PySem.W.keepIn K (.ref f_see) = true)
    (g_got : PySem.W.nsIn K mainGlobals "got" = some (some (.ref f_got)))
    (l_got : K.lookup f_got = some ⟨oc_got, od_got, .func (PySem.W.fnOf "got" "got" (defArgs s_got) (defBody s_got) (defScope s_got) .none kV_got dc_got pm_got an_got cd_got ct_got), sl_got⟩)
    (c_got : PySem.W.codeIn K cd_got "got" = true)
    (k_got : PySem.W.keepIn K (.ref f_got) = true)
    (g_show_umpire : PySem.W.nsIn K mainGlobals "show_umpire" = some (some (.ref f_show_umpire)))
    (l_show_umpire : K.lookup f_show_umpire = some ⟨oc_show_umpire, od_show_umpire, .func (PySem.W.fnOf "show_umpire" "show_umpire" (defArgs s_show_umpire) (defBody s_show_umpire) (defScope s_show_umpire) .none kV_show_umpire dc_show_umpire pm_show_umpire an_show_umpire cd_show_umpire ct_show_umpire), sl_show_umpire⟩)
    (c_show_umpire : PySem.W.codeIn K cd_show_umpire "show_umpire" = true)
    (k_show_umpire : PySem.W.keepIn K (.ref f_show_umpire) = true)
    (g_show_bag : PySem.W.nsIn K mainGlobals "show_bag" = some (some (.ref f_show_bag)))
    (l_show_bag : K.lookup f_show_bag = some ⟨oc_show_bag, od_show_bag, .func (PySem.W.fnOf "show_bag" "show_bag" (defArgs s_show_bag) (defBody s_show_bag) (defScope s_show_bag) .none kV_show_bag dc_show_bag pm_show_bag an_show_bag cd_show_bag ct_show_bag), sl_show_bag⟩)
    (c_show_bag : PySem.W.codeIn K cd_show_bag "show_bag" = true)
    (k_show_bag : PySem.W.keepIn K (.ref f_show_bag) = true)
    (g_fits : PySem.W.nsIn K mainGlobals "fits" = some (some (.ref f_fits)))
    (l_fits : K.lookup f_fits = some ⟨oc_fits, od_fits, .func (PySem.W.fnOf "fits" "fits" (defArgs s_fits) (defBody s_fits) (defScope s_fits) .none kV_fits dc_fits pm_fits an_fits cd_fits ct_fits), sl_fits⟩)
    (c_fits : PySem.W.codeIn K cd_fits "fits" = true)
    (k_fits : PySem.W.keepIn K (.ref f_fits) = true)
    (g_make_call : PySem.W.nsIn K mainGlobals "make_call" = some (some (.ref f_make_call)))
    (l_make_call : K.lookup f_make_call = some ⟨oc_make_call, od_make_call, .func (PySem.W.fnOf "make_call" "make_call" (defArgs s_make_call) (defBody s_make_call) (defScope s_make_call) .none kV_make_call dc_make_call pm_make_call an_make_call cd_make_call ct_make_call), sl_make_call⟩)
    (c_make_call : PySem.W.codeIn K cd_make_call "make_call" = true)
    (k_make_call : PySem.W.keepIn K (.ref f_make_call) = true)
    (g_answer_call : PySem.W.nsIn K mainGlobals "answer_call" = some (some (.ref f_answer_call)))
    (l_answer_call : K.lookup f_answer_call = some ⟨oc_answer_call, od_answer_call, .func (PySem.W.fnOf "answer_call" "answer_call" (defArgs s_answer_call) (defBody s_answer_call) (defScope s_answer_call) .none kV_answer_call dc_answer_call pm_answer_call an_answer_call cd_answer_call ct_answer_call), sl_answer_call⟩)
    (c_answer_call : PySem.W.codeIn K cd_answer_call "answer_call" = true)
    (k_answer_call : PySem.W.keepIn K (.ref f_answer_call) = true)
    (g_answer_line : PySem.W.nsIn K mainGlobals "answer_line" = some (some (.ref f_answer_line)))
    (l_answer_line : K.lookup f_answer_line = some ⟨oc_answer_line, od_answer_line, .func (PySem.W.fnOf "answer_line" "answer_line" (defArgs s_answer_line) (defBody s_answer_line) (defScope s_answer_line) .none kV_answer_line dc_answer_line pm_answer_line an_answer_line cd_answer_line ct_answer_line), sl_answer_line⟩)
    (c_answer_line : PySem.W.codeIn K cd_answer_line "answer_line" = true)
    (k_answer_line : PySem.W.keepIn K (.ref f_answer_line) = true)
    (g_answers : PySem.W.nsIn K mainGlobals "answers" = some (some (.ref f_answers)))
    (l_answers : K.lookup f_answers = some ⟨oc_answers, od_answers, .func (PySem.W.fnOf "answers" "answers" (defArgs s_answers) (defBody s_answers) (defScope s_answers) .none kV_answers dc_answers pm_answers an_answers cd_answers ct_answers), sl_answers⟩)
    (c_answers : PySem.W.codeIn K cd_answers "answers" = true)
    (k_answers : PySem.W.keepIn K (.ref f_answers) = true)
    (ne : (⟨CG, CU, CM, CS, CX⟩ : Cl).Ne)
    {R : Prop} (kk : ∀ a : Ad, Txt K mg a → R) : R := by
  have F_Machine_init := fun_mk (st := s_Machine_init) l_Machine_init c_Machine_init k_Machine_init
  have B_Machine_init := F_Machine_init.binds (ps := ["self"]) fun _ _ _ _ _ _ => by refine onS (n := 0) fun _ => on0 ?_; rfl
  have F_Sheet_init := fun_mk (st := s_Sheet_init) l_Sheet_init c_Sheet_init k_Sheet_init
  have B_Sheet_init := F_Sheet_init.binds (ps := ["self"]) fun _ _ _ _ _ _ => by refine onS (n := 0) fun _ => on0 ?_; rfl
  have F_Umpire_init := fun_mk (st := s_Umpire_init) l_Umpire_init c_Umpire_init k_Umpire_init
  have B_Umpire_init := F_Umpire_init.binds (ps := ["self", "powers", "deadline"]) fun _ _ _ _ _ _ => by refine onS (n := 2) fun _ => onS (n := 1) fun _ => onS (n := 0) fun _ => on0 ?_; rfl
  have F_Message_init := fun_mk (st := s_Message_init) l_Message_init c_Message_init k_Message_init
  have B_Message_init := F_Message_init.binds (ps := ["self", "kind", "power", "season", "version", "written", "row"]) fun _ _ _ _ _ _ => by refine onS (n := 6) fun _ => onS (n := 5) fun _ => onS (n := 4) fun _ => onS (n := 3) fun _ => onS (n := 2) fun _ => onS (n := 1) fun _ => onS (n := 0) fun _ => on0 ?_; rfl
  have F_Game_init := fun_mk (st := s_Game_init) l_Game_init c_Game_init k_Game_init
  have B_Game_init := F_Game_init.binds (ps := ["self"]) fun _ _ _ _ _ _ => by refine onS (n := 0) fun _ => on0 ?_; rfl
  have F_Game_lay_out := fun_mk (st := s_Game_lay_out) l_Game_lay_out c_Game_lay_out k_Game_lay_out
  have B_Game_lay_out := F_Game_lay_out.binds (ps := ["self", "powers", "span", "room"]) fun _ _ _ _ _ _ => by refine onS (n := 3) fun _ => onS (n := 2) fun _ => onS (n := 1) fun _ => onS (n := 0) fun _ => on0 ?_; rfl
  have F_blank_sheets := fun_mk (st := s_blank_sheets) l_blank_sheets c_blank_sheets k_blank_sheets
  have B_blank_sheets := F_blank_sheets.binds (ps := ["powers"]) fun _ _ _ _ _ _ => by refine onS (n := 0) fun _ => on0 ?_; rfl
  have F_within := fun_mk (st := s_within) l_within c_within k_within
  have B_within := F_within.binds (ps := ["number", "least", "most"]) fun _ _ _ _ _ _ => by refine onS (n := 2) fun _ => onS (n := 1) fun _ => onS (n := 0) fun _ => on0 ?_; rfl
  have F_is_text := fun_mk (st := s_is_text) l_is_text c_is_text k_is_text
  have B_is_text := F_is_text.binds (ps := ["numbers"]) fun _ _ _ _ _ _ => by refine onS (n := 0) fun _ => on0 ?_; rfl
  have F_put := fun_mk (st := s_put) l_put c_put k_put
  have B_put := F_put.binds (ps := ["game", "message"]) fun _ _ _ _ _ _ => by refine onS (n := 1) fun _ => onS (n := 0) fun _ => on0 ?_; rfl
  have F_put_or_refuse := fun_mk (st := s_put_or_refuse) l_put_or_refuse c_put_or_refuse k_put_or_refuse
  have B_put_or_refuse := F_put_or_refuse.binds (ps := ["game", "message"]) fun _ _ _ _ _ _ => by refine onS (n := 1) fun _ => onS (n := 0) fun _ => on0 ?_; rfl
  have F_put_opened := fun_mk (st := s_put_opened) l_put_opened c_put_opened k_put_opened
  have B_put_opened := F_put_opened.binds (ps := ["game", "p", "season"]) fun _ _ _ _ _ _ => by refine onS (n := 2) fun _ => onS (n := 1) fun _ => onS (n := 0) fun _ => on0 ?_; rfl
  have F_end_season_if_due := fun_mk (st := s_end_season_if_due) l_end_season_if_due c_end_season_if_due k_end_season_if_due
  have B_end_season_if_due := F_end_season_if_due.binds (ps := ["game"]) fun _ _ _ _ _ _ => by refine onS (n := 0) fun _ => on0 ?_; rfl
  have F_bring := fun_mk (st := s_bring) l_bring c_bring k_bring
  have B_bring := F_bring.binds (ps := ["game", "message"]) fun _ _ _ _ _ _ => by refine onS (n := 1) fun _ => onS (n := 0) fun _ => on0 ?_; rfl
  have F_bring_hand := fun_mk (st := s_bring_hand) l_bring_hand c_bring_hand k_bring_hand
  have B_bring_hand := F_bring_hand.binds (ps := ["game", "hand"]) fun _ _ _ _ _ _ => by refine onS (n := 1) fun _ => onS (n := 0) fun _ => on0 ?_; rfl
  have F_bring_receipt := fun_mk (st := s_bring_receipt) l_bring_receipt c_bring_receipt k_bring_receipt
  have B_bring_receipt := F_bring_receipt.binds (ps := ["game", "receipt"]) fun _ _ _ _ _ _ => by refine onS (n := 1) fun _ => onS (n := 0) fun _ => on0 ?_; rfl
  have F_bring_question := fun_mk (st := s_bring_question) l_bring_question c_bring_question k_bring_question
  have B_bring_question := F_bring_question.binds (ps := ["game", "question"]) fun _ _ _ _ _ _ => by refine onS (n := 1) fun _ => onS (n := 0) fun _ => on0 ?_; rfl
  have F_bring_opened := fun_mk (st := s_bring_opened) l_bring_opened c_bring_opened k_bring_opened
  have B_bring_opened := F_bring_opened.binds (ps := ["game", "opened"]) fun _ _ _ _ _ _ => by refine onS (n := 1) fun _ => onS (n := 0) fun _ => on0 ?_; rfl
  have F_begin := fun_mk (st := s_begin) l_begin c_begin k_begin
  have B_begin := F_begin.binds (ps := ["game", "powers", "span", "room"]) fun _ _ _ _ _ _ => by refine onS (n := 3) fun _ => onS (n := 2) fun _ => onS (n := 1) fun _ => onS (n := 0) fun _ => on0 ?_; rfl
  have F_tick := fun_mk (st := s_tick) l_tick c_tick k_tick
  have B_tick := F_tick.binds (ps := ["game", "n"]) fun _ _ _ _ _ _ => by refine onS (n := 1) fun _ => onS (n := 0) fun _ => on0 ?_; rfl
  have F_write := fun_mk (st := s_write) l_write c_write k_write
  have B_write := F_write.binds (ps := ["game", "p", "text"]) fun _ _ _ _ _ _ => by refine onS (n := 2) fun _ => onS (n := 1) fun _ => onS (n := 0) fun _ => on0 ?_; rfl
  have F_clear := fun_mk (st := s_clear) l_clear c_clear k_clear
  have B_clear := F_clear.binds (ps := ["game", "p"]) fun _ _ _ _ _ _ => by refine onS (n := 1) fun _ => onS (n := 0) fun _ => on0 ?_; rfl
  have F_new_draft := fun_mk (st := s_new_draft) l_new_draft c_new_draft k_new_draft
  have B_new_draft := F_new_draft.binds (ps := ["machine", "written"]) fun _ _ _ _ _ _ => by refine onS (n := 1) fun _ => onS (n := 0) fun _ => on0 ?_; rfl
  have F_send := fun_mk (st := s_send) l_send c_send k_send
  have B_send := F_send.binds (ps := ["game", "p"]) fun _ _ _ _ _ _ => by refine onS (n := 1) fun _ => onS (n := 0) fun _ => on0 ?_; rfl
  have F_ask := fun_mk (st := s_ask) l_ask c_ask k_ask
  have B_ask := F_ask.binds (ps := ["game", "p"]) fun _ _ _ _ _ _ => by refine onS (n := 1) fun _ => onS (n := 0) fun _ => on0 ?_; rfl
  have F_deliver := fun_mk (st := s_deliver) l_deliver c_deliver k_deliver
  have B_deliver := F_deliver.binds (ps := ["game", "i"]) fun _ _ _ _ _ _ => by refine onS (n := 1) fun _ => onS (n := 0) fun _ => on0 ?_; rfl
  have F_lose := fun_mk (st := s_lose) l_lose c_lose k_lose
  have B_lose := F_lose.binds (ps := ["game", "i"]) fun _ _ _ _ _ _ => by refine onS (n := 1) fun _ => onS (n := 0) fun _ => on0 ?_; rfl
  have F_double := fun_mk (st := s_double) l_double c_double k_double
  have B_double := F_double.binds (ps := ["game", "i"]) fun _ _ _ _ _ _ => by refine onS (n := 1) fun _ => onS (n := 0) fun _ => on0 ?_; rfl
  have F_stop := fun_mk (st := s_stop) l_stop c_stop k_stop
  have B_stop := F_stop.binds (ps := ["game"]) fun _ _ _ _ _ _ => by refine onS (n := 0) fun _ => on0 ?_; rfl
  have F_start := fun_mk (st := s_start) l_start c_start k_start
  have B_start := F_start.binds (ps := ["game"]) fun _ _ _ _ _ _ => by refine onS (n := 0) fun _ => on0 ?_; rfl
  have F_tell := fun_mk (st := s_tell) l_tell c_tell k_tell
  have B_tell := F_tell.binds (ps := ["game", "season"]) fun _ _ _ _ _ _ => by refine onS (n := 1) fun _ => onS (n := 0) fun _ => on0 ?_; rfl
  have F_see := fun_mk (st := s_see) l_see c_see k_see
  have B_see := F_see.binds (ps := ["game", "p"]) fun _ _ _ _ _ _ => by refine onS (n := 1) fun _ => onS (n := 0) fun _ => on0 ?_; rfl
  have F_got := fun_mk (st := s_got) l_got c_got k_got
  have B_got := F_got.binds (ps := ["game", "p", "season"]) fun _ _ _ _ _ _ => by refine onS (n := 2) fun _ => onS (n := 1) fun _ => onS (n := 0) fun _ => on0 ?_; rfl
  have F_show_umpire := fun_mk (st := s_show_umpire) l_show_umpire c_show_umpire k_show_umpire
  have B_show_umpire := F_show_umpire.binds (ps := ["game"]) fun _ _ _ _ _ _ => by refine onS (n := 0) fun _ => on0 ?_; rfl
  have F_show_bag := fun_mk (st := s_show_bag) l_show_bag c_show_bag k_show_bag
  have B_show_bag := F_show_bag.binds (ps := ["game"]) fun _ _ _ _ _ _ => by refine onS (n := 0) fun _ => on0 ?_; rfl
  have F_fits := fun_mk (st := s_fits) l_fits c_fits k_fits
  have B_fits := F_fits.binds (ps := ["game", "call", "numbers", "text"]) fun _ _ _ _ _ _ => by refine onS (n := 3) fun _ => onS (n := 2) fun _ => onS (n := 1) fun _ => onS (n := 0) fun _ => on0 ?_; rfl
  have F_make_call := fun_mk (st := s_make_call) l_make_call c_make_call k_make_call
  have B_make_call := F_make_call.binds (ps := ["game", "call", "numbers", "text"]) fun _ _ _ _ _ _ => by refine onS (n := 3) fun _ => onS (n := 2) fun _ => onS (n := 1) fun _ => onS (n := 0) fun _ => on0 ?_; rfl
  have F_answer_call := fun_mk (st := s_answer_call) l_answer_call c_answer_call k_answer_call
  have B_answer_call := F_answer_call.binds (ps := ["game", "call", "numbers", "text"]) fun _ _ _ _ _ _ => by refine onS (n := 3) fun _ => onS (n := 2) fun _ => onS (n := 1) fun _ => onS (n := 0) fun _ => on0 ?_; rfl
  have F_answer_line := fun_mk (st := s_answer_line) l_answer_line c_answer_line k_answer_line
  have B_answer_line := F_answer_line.binds (ps := ["game", "calls"]) fun _ _ _ _ _ _ => by refine onS (n := 1) fun _ => onS (n := 0) fun _ => on0 ?_; rfl
  have F_answers := fun_mk (st := s_answers) l_answers c_answers k_answers
  have B_answers := F_answers.binds (ps := ["calls"]) fun _ _ _ _ _ _ => by refine onS (n := 0) fun _ => on0 ?_; rfl
  exact kk { C := ⟨CG, CU, CM, CS, CX⟩, a_NUMBERS_OF_CALL := a_NUMBERS_OF_CALL, a_NOTHING := a_NOTHING, f_Machine_init := f_Machine_init, d_Machine_init := _, f_Sheet_init := f_Sheet_init, d_Sheet_init := _, f_Umpire_init := f_Umpire_init, d_Umpire_init := _, f_Message_init := f_Message_init, d_Message_init := _, f_Game_init := f_Game_init, d_Game_init := _, f_Game_lay_out := f_Game_lay_out, d_Game_lay_out := _, f_blank_sheets := f_blank_sheets, d_blank_sheets := _, f_within := f_within, d_within := _, f_is_text := f_is_text, d_is_text := _, f_put := f_put, d_put := _, f_put_or_refuse := f_put_or_refuse, d_put_or_refuse := _, f_put_opened := f_put_opened, d_put_opened := _, f_end_season_if_due := f_end_season_if_due, d_end_season_if_due := _, f_bring := f_bring, d_bring := _, f_bring_hand := f_bring_hand, d_bring_hand := _, f_bring_receipt := f_bring_receipt, d_bring_receipt := _, f_bring_question := f_bring_question, d_bring_question := _, f_bring_opened := f_bring_opened, d_bring_opened := _, f_begin := f_begin, d_begin := _, f_tick := f_tick, d_tick := _, f_write := f_write, d_write := _, f_clear := f_clear, d_clear := _, f_new_draft := f_new_draft, d_new_draft := _, f_send := f_send, d_send := _, f_ask := f_ask, d_ask := _, f_deliver := f_deliver, d_deliver := _, f_lose := f_lose, d_lose := _, f_double := f_double, d_double := _, f_stop := f_stop, d_stop := _, f_start := f_start, d_start := _, f_tell := f_tell, d_tell := _, f_see := f_see, d_see := _, f_got := f_got, d_got := _, f_show_umpire := f_show_umpire, d_show_umpire := _, f_show_bag := f_show_bag, d_show_bag := _, f_fits := f_fits, d_fits := _, f_make_call := f_make_call, d_make_call := _, f_answer_call := f_answer_call, d_answer_call := _, f_answer_line := f_answer_line, d_answer_line := _, f_answers := f_answers, d_answers := _ }
    { ne := ne,
      c_NOT_BEGUN := ⟨_, PySem.W.mg_of X G i_NOT_BEGUN⟩,
      c_OUT_OF_RANGE := ⟨_, PySem.W.mg_of X G i_OUT_OF_RANGE⟩,
      c_TOO_LATE := ⟨_, PySem.W.mg_of X G i_TOO_LATE⟩,
      c_NO_DRAFT := ⟨_, PySem.W.mg_of X G i_NO_DRAFT⟩,
      c_NO_ROOM := ⟨_, PySem.W.mg_of X G i_NO_ROOM⟩,
      c_SWITCHED_WRONG := ⟨_, PySem.W.mg_of X G i_SWITCHED_WRONG⟩,
      c_SEASON_NOT_THERE := ⟨_, PySem.W.mg_of X G i_SEASON_NOT_THERE⟩,
      c_LEAST_POWERS := ⟨_, PySem.W.mg_of X G i_LEAST_POWERS⟩,
      c_MOST_POWERS := ⟨_, PySem.W.mg_of X G i_MOST_POWERS⟩,
      c_MOST_SPAN := ⟨_, PySem.W.mg_of X G i_MOST_SPAN⟩,
      c_MOST_ROOM := ⟨_, PySem.W.mg_of X G i_MOST_ROOM⟩,
      c_MOST_TICK := ⟨_, PySem.W.mg_of X G i_MOST_TICK⟩,
      c_LAST_NOW := ⟨_, PySem.W.mg_of X G i_LAST_NOW⟩,
      c_LONGEST_TEXT := ⟨_, PySem.W.mg_of X G i_LONGEST_TEXT⟩,
      c_GREATEST_SIGN := ⟨_, PySem.W.mg_of X G i_GREATEST_SIGN⟩,
      c_LAST_SEASON := ⟨_, PySem.W.mg_of X G i_LAST_SEASON⟩,
      c_BEGIN := ⟨_, PySem.W.mg_of X G i_BEGIN⟩,
      c_TICK := ⟨_, PySem.W.mg_of X G i_TICK⟩,
      c_WRITE := ⟨_, PySem.W.mg_of X G i_WRITE⟩,
      c_CLEAR := ⟨_, PySem.W.mg_of X G i_CLEAR⟩,
      c_SEND := ⟨_, PySem.W.mg_of X G i_SEND⟩,
      c_ASK := ⟨_, PySem.W.mg_of X G i_ASK⟩,
      c_DELIVER := ⟨_, PySem.W.mg_of X G i_DELIVER⟩,
      c_LOSE := ⟨_, PySem.W.mg_of X G i_LOSE⟩,
      c_DOUBLE := ⟨_, PySem.W.mg_of X G i_DOUBLE⟩,
      c_STOP := ⟨_, PySem.W.mg_of X G i_STOP⟩,
      c_START := ⟨_, PySem.W.mg_of X G i_START⟩,
      c_TELL := ⟨_, PySem.W.mg_of X G i_TELL⟩,
      c_SEE := ⟨_, PySem.W.mg_of X G i_SEE⟩,
      c_GOT := ⟨_, PySem.W.mg_of X G i_GOT⟩,
      c_UMPIRE := ⟨_, PySem.W.mg_of X G i_UMPIRE⟩,
      c_BAG := ⟨_, PySem.W.mg_of X G i_BAG⟩,
      c_HAND := ⟨_, PySem.W.mg_of X G i_HAND⟩,
      c_RECEIPT := ⟨_, PySem.W.mg_of X G i_RECEIPT⟩,
      c_QUESTION := ⟨_, PySem.W.mg_of X G i_QUESTION⟩,
      c_OPENED := ⟨_, PySem.W.mg_of X G i_OPENED⟩,
      g_NUMBERS_OF_CALL := PySem.W.mg_of X G g_NUMBERS_OF_CALL,
      t_NUMBERS_OF_CALL := fun H => .inr ⟨_, _, _, t_NUMBERS_OF_CALL, rfl, rfl, (by show 16 ≤ sizeLine; decide), .cons ⟨_, rfl⟩ (.cons ⟨_, rfl⟩ (.cons ⟨_, rfl⟩ (.cons ⟨_, rfl⟩ (.cons ⟨_, rfl⟩ (.cons ⟨_, rfl⟩ (.cons ⟨_, rfl⟩ (.cons ⟨_, rfl⟩ (.cons ⟨_, rfl⟩ (.cons ⟨_, rfl⟩ (.cons ⟨_, rfl⟩ (.cons ⟨_, rfl⟩ (.cons ⟨_, rfl⟩ (.cons ⟨_, rfl⟩ (.cons ⟨_, rfl⟩ (.cons ⟨_, rfl⟩ (.nil))))))))))))))))⟩,
      g_NOTHING := PySem.W.mg_of X G g_NOTHING,
      t_NOTHING := fun H => .inr ⟨_, _, _, t_NOTHING, rfl, rfl, (by show 1 ≤ sizeLine; decide), .cons ⟨_, rfl⟩ (.nil)⟩,
      b_all := PySem.W.mg_none_of X G b_all,
      b_len := PySem.W.mg_none_of X G b_len,
      b_list := PySem.W.mg_none_of X G b_list,
      b_range := PySem.W.mg_none_of X G b_range,
      b_tuple := PySem.W.mg_none_of X G b_tuple,
      cl_M := ⟨pgM, hdM, poM, saM⟩,
      g_Machine := PySem.W.mg_of X G g_Machine,
      nM_season := nM_season,
      nM_version := nM_version,
      nM_acknowledged := nM_acknowledged,
      nM_draft := nM_draft,
      nM_rows := nM_rows,
      mk_M := ⟨mkM, a_Machine_init, i_Machine_init, kcM⟩,
      F_Machine_init := F_Machine_init, B_Machine_init := B_Machine_init,
      cl_S := ⟨pgS, hdS, poS, saS⟩,
      g_Sheet := PySem.W.mg_of X G g_Sheet,
      nS_version := nS_version,
      nS_written := nS_written,
      mk_S := ⟨mkS, a_Sheet_init, i_Sheet_init, kcS⟩,
      F_Sheet_init := F_Sheet_init, B_Sheet_init := B_Sheet_init,
      cl_U := ⟨pgU, hdU, poU, saU⟩,
      g_Umpire := PySem.W.mg_of X G g_Umpire,
      nU_on := nU_on,
      nU_season := nU_season,
      nU_deadline := nU_deadline,
      nU_sheets := nU_sheets,
      nU_opened := nU_opened,
      mk_U := ⟨mkU, a_Umpire_init, i_Umpire_init, kcU⟩,
      F_Umpire_init := F_Umpire_init, B_Umpire_init := B_Umpire_init,
      cl_X := ⟨pgX, hdX, poX, saX⟩,
      g_Message := PySem.W.mg_of X G g_Message,
      nX_kind := nX_kind,
      nX_power := nX_power,
      nX_season := nX_season,
      nX_version := nX_version,
      nX_written := nX_written,
      nX_row := nX_row,
      mk_X := ⟨mkX, a_Message_init, i_Message_init, kcX⟩,
      F_Message_init := F_Message_init, B_Message_init := B_Message_init,
      cl_G := ⟨pgG, hdG, poG, saG⟩,
      g_Game := PySem.W.mg_of X G g_Game,
      nG_begun := nG_begun,
      nG_span := nG_span,
      nG_room := nG_room,
      nG_now := nG_now,
      nG_machines := nG_machines,
      nG_umpire := nG_umpire,
      nG_messages := nG_messages,
      mk_G := ⟨mkG, a_Game_init, i_Game_init, kcG⟩,
      F_Game_init := F_Game_init, B_Game_init := B_Game_init,
      m_Game_lay_out := ⟨a_Game_lay_out, i_Game_lay_out, k_Game_lay_out⟩,
      F_Game_lay_out := F_Game_lay_out, B_Game_lay_out := B_Game_lay_out,
      F_blank_sheets := F_blank_sheets, B_blank_sheets := B_blank_sheets, g_blank_sheets := PySem.W.mg_of X G g_blank_sheets,
      F_within := F_within, B_within := B_within, g_within := PySem.W.mg_of X G g_within,
      F_is_text := F_is_text, B_is_text := B_is_text, g_is_text := PySem.W.mg_of X G g_is_text,
      F_put := F_put, B_put := B_put, g_put := PySem.W.mg_of X G g_put,
      F_put_or_refuse := F_put_or_refuse, B_put_or_refuse := B_put_or_refuse, g_put_or_refuse := PySem.W.mg_of X G g_put_or_refuse,
      F_put_opened := F_put_opened, B_put_opened := B_put_opened, g_put_opened := PySem.W.mg_of X G g_put_opened,
      F_end_season_if_due := F_end_season_if_due, B_end_season_if_due := B_end_season_if_due, g_end_season_if_due := PySem.W.mg_of X G g_end_season_if_due,
      F_bring := F_bring, B_bring := B_bring, g_bring := PySem.W.mg_of X G g_bring,
      F_bring_hand := F_bring_hand, B_bring_hand := B_bring_hand, g_bring_hand := PySem.W.mg_of X G g_bring_hand,
      F_bring_receipt := F_bring_receipt, B_bring_receipt := B_bring_receipt, g_bring_receipt := PySem.W.mg_of X G g_bring_receipt,
      F_bring_question := F_bring_question, B_bring_question := B_bring_question, g_bring_question := PySem.W.mg_of X G g_bring_question,
      F_bring_opened := F_bring_opened, B_bring_opened := B_bring_opened, g_bring_opened := PySem.W.mg_of X G g_bring_opened,
      F_begin := F_begin, B_begin := B_begin, g_begin := PySem.W.mg_of X G g_begin,
      F_tick := F_tick, B_tick := B_tick, g_tick := PySem.W.mg_of X G g_tick,
      F_write := F_write, B_write := B_write, g_write := PySem.W.mg_of X G g_write,
      F_clear := F_clear, B_clear := B_clear, g_clear := PySem.W.mg_of X G g_clear,
      F_new_draft := F_new_draft, B_new_draft := B_new_draft, g_new_draft := PySem.W.mg_of X G g_new_draft,
      F_send := F_send, B_send := B_send, g_send := PySem.W.mg_of X G g_send,
      F_ask := F_ask, B_ask := B_ask, g_ask := PySem.W.mg_of X G g_ask,
      F_deliver := F_deliver, B_deliver := B_deliver, g_deliver := PySem.W.mg_of X G g_deliver,
      F_lose := F_lose, B_lose := B_lose, g_lose := PySem.W.mg_of X G g_lose,
      F_double := F_double, B_double := B_double, g_double := PySem.W.mg_of X G g_double,
      F_stop := F_stop, B_stop := B_stop, g_stop := PySem.W.mg_of X G g_stop,
      F_start := F_start, B_start := B_start, g_start := PySem.W.mg_of X G g_start,
      F_tell := F_tell, B_tell := B_tell, g_tell := PySem.W.mg_of X G g_tell,
      F_see := F_see, B_see := B_see, g_see := PySem.W.mg_of X G g_see,
      F_got := F_got, B_got := B_got, g_got := PySem.W.mg_of X G g_got,
      F_show_umpire := F_show_umpire, B_show_umpire := B_show_umpire, g_show_umpire := PySem.W.mg_of X G g_show_umpire,
      F_show_bag := F_show_bag, B_show_bag := B_show_bag, g_show_bag := PySem.W.mg_of X G g_show_bag,
      F_fits := F_fits, B_fits := B_fits, g_fits := PySem.W.mg_of X G g_fits,
      F_make_call := F_make_call, B_make_call := B_make_call, g_make_call := PySem.W.mg_of X G g_make_call,
      F_answer_call := F_answer_call, B_answer_call := B_answer_call, g_answer_call := PySem.W.mg_of X G g_answer_call,
      F_answer_line := F_answer_line, B_answer_line := B_answer_line, g_answer_line := PySem.W.mg_of X G g_answer_line,
      F_answers := F_answers, B_answers := B_answers, g_answers := PySem.W.mg_of X G g_answers }
end So
/- The head below would lay a twin of the part of the heap that it keeps (heap_1), and never use it: 5 MB of a built file that may have 64 MiB. This name is its: the twin is left out. Nothing leans on it. -/
def PySem.W.Fast.tw3569787681605133132 : Unit := ()
open PySem PySem.W PyProof.Rows
set_option maxRecDepth 100000 in
set_option maxHeartbeats 0 in
theorem PySem.Challenge.cw_sealedorders_s01_answers_holds : PySem.Challenge.rw_sealedorders_s01_answers.Holds := by
  w_on; k_headS; (case hw => exact ⟨[.list [.int 14]], by decide +kernel, by decide +kernel⟩)
  k_fillS
  refine L2.walk_specK (r := PySem.Challenge.rw_sealedorders_s01_answers) (k := 11) (CX := L2.CX0) (ps := ["calls"]) (sp := So.spAnswers) (by decide +kernel) rfl rfl ⟨rfl, by decide, by decide⟩ (fun w h Y => PySem.W.kIn_of Y) ?F ?S (fun _ _ _ _ z => z)
  case F =>
    intro w mg fa h Y KX G hmg
    refine' So.txt_mk KX G ?i_NOT_BEGUN ?i_OUT_OF_RANGE ?i_TOO_LATE ?i_NO_DRAFT ?i_NO_ROOM ?i_SWITCHED_WRONG ?i_SEASON_NOT_THERE ?i_LEAST_POWERS ?i_MOST_POWERS ?i_MOST_SPAN ?i_MOST_ROOM ?i_MOST_TICK ?i_LAST_NOW ?i_LONGEST_TEXT ?i_GREATEST_SIGN ?i_LAST_SEASON ?i_BEGIN ?i_TICK ?i_WRITE ?i_CLEAR ?i_SEND ?i_ASK ?i_DELIVER ?i_LOSE ?i_DOUBLE ?i_STOP ?i_START ?i_TELL ?i_SEE ?i_GOT ?i_UMPIRE ?i_BAG ?i_HAND ?i_RECEIPT ?i_QUESTION ?i_OPENED ?g_NUMBERS_OF_CALL ?t_NUMBERS_OF_CALL ?g_NOTHING ?t_NOTHING ?b_all ?b_len ?b_list ?b_range ?b_tuple ?g_Machine ?pgM ?hdM ?poM ?saM ?mkM ?kcM ?nM_season ?nM_version ?nM_acknowledged ?nM_draft ?nM_rows ?a_Machine_init ?i_Machine_init ?l_Machine_init ?c_Machine_init ?k_Machine_init ?g_Sheet ?pgS ?hdS ?poS ?saS ?mkS ?kcS ?nS_version ?nS_written ?a_Sheet_init ?i_Sheet_init ?l_Sheet_init ?c_Sheet_init ?k_Sheet_init ?g_Umpire ?pgU ?hdU ?poU ?saU ?mkU ?kcU ?nU_on ?nU_season ?nU_deadline ?nU_sheets ?nU_opened ?a_Umpire_init ?i_Umpire_init ?l_Umpire_init ?c_Umpire_init ?k_Umpire_init ?g_Message ?pgX ?hdX ?poX ?saX ?mkX ?kcX ?nX_kind ?nX_power ?nX_season ?nX_version ?nX_written ?nX_row ?a_Message_init ?i_Message_init ?l_Message_init ?c_Message_init ?k_Message_init ?g_Game ?pgG ?hdG ?poG ?saG ?mkG ?kcG ?nG_begun ?nG_span ?nG_room ?nG_now ?nG_machines ?nG_umpire ?nG_messages ?a_Game_init ?i_Game_init ?l_Game_init ?c_Game_init ?k_Game_init ?a_Game_lay_out ?i_Game_lay_out ?l_Game_lay_out ?c_Game_lay_out ?k_Game_lay_out ?g_blank_sheets ?l_blank_sheets ?c_blank_sheets ?k_blank_sheets ?g_within ?l_within ?c_within ?k_within ?g_is_text ?l_is_text ?c_is_text ?k_is_text ?g_put ?l_put ?c_put ?k_put ?g_put_or_refuse ?l_put_or_refuse ?c_put_or_refuse ?k_put_or_refuse ?g_put_opened ?l_put_opened ?c_put_opened ?k_put_opened ?g_end_season_if_due ?l_end_season_if_due ?c_end_season_if_due ?k_end_season_if_due ?g_bring ?l_bring ?c_bring ?k_bring ?g_bring_hand ?l_bring_hand ?c_bring_hand ?k_bring_hand ?g_bring_receipt ?l_bring_receipt ?c_bring_receipt ?k_bring_receipt ?g_bring_question ?l_bring_question ?c_bring_question ?k_bring_question ?g_bring_opened ?l_bring_opened ?c_bring_opened ?k_bring_opened ?g_begin ?l_begin ?c_begin ?k_begin ?g_tick ?l_tick ?c_tick ?k_tick ?g_write ?l_write ?c_write ?k_write ?g_clear ?l_clear ?c_clear ?k_clear ?g_new_draft ?l_new_draft ?c_new_draft ?k_new_draft ?g_send ?l_send ?c_send ?k_send ?g_ask ?l_ask ?c_ask ?k_ask ?g_deliver ?l_deliver ?c_deliver ?k_deliver ?g_lose ?l_lose ?c_lose ?k_lose ?g_double ?l_double ?c_double ?k_double ?g_stop ?l_stop ?c_stop ?k_stop ?g_start ?l_start ?c_start ?k_start ?g_tell ?l_tell ?c_tell ?k_tell ?g_see ?l_see ?c_see ?k_see ?g_got ?l_got ?c_got ?k_got ?g_show_umpire ?l_show_umpire ?c_show_umpire ?k_show_umpire ?g_show_bag ?l_show_bag ?c_show_bag ?k_show_bag ?g_fits ?l_fits ?c_fits ?k_fits ?g_make_call ?l_make_call ?c_make_call ?k_make_call ?g_answer_call ?l_answer_call ?c_answer_call ?k_answer_call ?g_answer_line ?l_answer_line ?c_answer_line ?k_answer_line ?g_answers ?l_answers ?c_answers ?k_answers ?ne ?kk
    (case i_NOT_BEGUN => k_is)
    (case i_OUT_OF_RANGE => k_is)
    (case i_TOO_LATE => k_is)
    (case i_NO_DRAFT => k_is)
    (case i_NO_ROOM => k_is)
    (case i_SWITCHED_WRONG => k_is)
    (case i_SEASON_NOT_THERE => k_is)
    (case i_LEAST_POWERS => k_is)
    (case i_MOST_POWERS => k_is)
    (case i_MOST_SPAN => k_is)
    (case i_MOST_ROOM => k_is)
    (case i_MOST_TICK => k_is)
    (case i_LAST_NOW => k_is)
    (case i_LONGEST_TEXT => k_is)
    (case i_GREATEST_SIGN => k_is)
    (case i_LAST_SEASON => k_is)
    (case i_BEGIN => k_is)
    (case i_TICK => k_is)
    (case i_WRITE => k_is)
    (case i_CLEAR => k_is)
    (case i_SEND => k_is)
    (case i_ASK => k_is)
    (case i_DELIVER => k_is)
    (case i_LOSE => k_is)
    (case i_DOUBLE => k_is)
    (case i_STOP => k_is)
    (case i_START => k_is)
    (case i_TELL => k_is)
    (case i_SEE => k_is)
    (case i_GOT => k_is)
    (case i_UMPIRE => k_is)
    (case i_BAG => k_is)
    (case i_HAND => k_is)
    (case i_RECEIPT => k_is)
    (case i_QUESTION => k_is)
    (case i_OPENED => k_is)
    (case g_NUMBERS_OF_CALL => k_is)
    (case t_NUMBERS_OF_CALL => k_is)
    (case g_NOTHING => k_is)
    (case t_NOTHING => k_is)
    (case b_all => k_is)
    (case b_len => k_is)
    (case b_list => k_is)
    (case b_range => k_is)
    (case b_tuple => k_is)
    (case g_Machine => k_is)
    (case pgM => k_is)
    (case hdM => k_is)
    (case poM => k_is)
    (case saM => k_is)
    (case mkM => k_is)
    (case kcM => k_is)
    (case nM_season => k_is)
    (case nM_version => k_is)
    (case nM_acknowledged => k_is)
    (case nM_draft => k_is)
    (case nM_rows => k_is)
    (case a_Machine_init => k_is)
    (case i_Machine_init => k_is)
    (case l_Machine_init => k_is)
    (case c_Machine_init => k_is)
    (case k_Machine_init => k_is)
    (case g_Sheet => k_is)
    (case pgS => k_is)
    (case hdS => k_is)
    (case poS => k_is)
    (case saS => k_is)
    (case mkS => k_is)
    (case kcS => k_is)
    (case nS_version => k_is)
    (case nS_written => k_is)
    (case a_Sheet_init => k_is)
    (case i_Sheet_init => k_is)
    (case l_Sheet_init => k_is)
    (case c_Sheet_init => k_is)
    (case k_Sheet_init => k_is)
    (case g_Umpire => k_is)
    (case pgU => k_is)
    (case hdU => k_is)
    (case poU => k_is)
    (case saU => k_is)
    (case mkU => k_is)
    (case kcU => k_is)
    (case nU_on => k_is)
    (case nU_season => k_is)
    (case nU_deadline => k_is)
    (case nU_sheets => k_is)
    (case nU_opened => k_is)
    (case a_Umpire_init => k_is)
    (case i_Umpire_init => k_is)
    (case l_Umpire_init => k_is)
    (case c_Umpire_init => k_is)
    (case k_Umpire_init => k_is)
    (case g_Message => k_is)
    (case pgX => k_is)
    (case hdX => k_is)
    (case poX => k_is)
    (case saX => k_is)
    (case mkX => k_is)
    (case kcX => k_is)
    (case nX_kind => k_is)
    (case nX_power => k_is)
    (case nX_season => k_is)
    (case nX_version => k_is)
    (case nX_written => k_is)
    (case nX_row => k_is)
    (case a_Message_init => k_is)
    (case i_Message_init => k_is)
    (case l_Message_init => k_is)
    (case c_Message_init => k_is)
    (case k_Message_init => k_is)
    (case g_Game => k_is)
    (case pgG => k_is)
    (case hdG => k_is)
    (case poG => k_is)
    (case saG => k_is)
    (case mkG => k_is)
    (case kcG => k_is)
    (case nG_begun => k_is)
    (case nG_span => k_is)
    (case nG_room => k_is)
    (case nG_now => k_is)
    (case nG_machines => k_is)
    (case nG_umpire => k_is)
    (case nG_messages => k_is)
    (case a_Game_init => k_is)
    (case i_Game_init => k_is)
    (case l_Game_init => k_is)
    (case c_Game_init => k_is)
    (case k_Game_init => k_is)
    (case a_Game_lay_out => k_is)
    (case i_Game_lay_out => k_is)
    (case l_Game_lay_out => k_is)
    (case c_Game_lay_out => k_is)
    (case k_Game_lay_out => k_is)
    (case g_blank_sheets => k_is)
    (case l_blank_sheets => k_is)
    (case c_blank_sheets => k_is)
    (case k_blank_sheets => k_is)
    (case g_within => k_is)
    (case l_within => k_is)
    (case c_within => k_is)
    (case k_within => k_is)
    (case g_is_text => k_is)
    (case l_is_text => k_is)
    (case c_is_text => k_is)
    (case k_is_text => k_is)
    (case g_put => k_is)
    (case l_put => k_is)
    (case c_put => k_is)
    (case k_put => k_is)
    (case g_put_or_refuse => k_is)
    (case l_put_or_refuse => k_is)
    (case c_put_or_refuse => k_is)
    (case k_put_or_refuse => k_is)
    (case g_put_opened => k_is)
    (case l_put_opened => k_is)
    (case c_put_opened => k_is)
    (case k_put_opened => k_is)
    (case g_end_season_if_due => k_is)
    (case l_end_season_if_due => k_is)
    (case c_end_season_if_due => k_is)
    (case k_end_season_if_due => k_is)
    (case g_bring => k_is)
    (case l_bring => k_is)
    (case c_bring => k_is)
    (case k_bring => k_is)
    (case g_bring_hand => k_is)
    (case l_bring_hand => k_is)
    (case c_bring_hand => k_is)
    (case k_bring_hand => k_is)
    (case g_bring_receipt => k_is)
    (case l_bring_receipt => k_is)
    (case c_bring_receipt => k_is)
    (case k_bring_receipt => k_is)
    (case g_bring_question => k_is)
    (case l_bring_question => k_is)
    (case c_bring_question => k_is)
    (case k_bring_question => k_is)
    (case g_bring_opened => k_is)
    (case l_bring_opened => k_is)
    (case c_bring_opened => k_is)
    (case k_bring_opened => k_is)
    (case g_begin => k_is)
    (case l_begin => k_is)
    (case c_begin => k_is)
    (case k_begin => k_is)
    (case g_tick => k_is)
    (case l_tick => k_is)
    (case c_tick => k_is)
    (case k_tick => k_is)
    (case g_write => k_is)
    (case l_write => k_is)
    (case c_write => k_is)
    (case k_write => k_is)
    (case g_clear => k_is)
    (case l_clear => k_is)
    (case c_clear => k_is)
    (case k_clear => k_is)
    (case g_new_draft => k_is)
    (case l_new_draft => k_is)
    (case c_new_draft => k_is)
    (case k_new_draft => k_is)
    (case g_send => k_is)
    (case l_send => k_is)
    (case c_send => k_is)
    (case k_send => k_is)
    (case g_ask => k_is)
    (case l_ask => k_is)
    (case c_ask => k_is)
    (case k_ask => k_is)
    (case g_deliver => k_is)
    (case l_deliver => k_is)
    (case c_deliver => k_is)
    (case k_deliver => k_is)
    (case g_lose => k_is)
    (case l_lose => k_is)
    (case c_lose => k_is)
    (case k_lose => k_is)
    (case g_double => k_is)
    (case l_double => k_is)
    (case c_double => k_is)
    (case k_double => k_is)
    (case g_stop => k_is)
    (case l_stop => k_is)
    (case c_stop => k_is)
    (case k_stop => k_is)
    (case g_start => k_is)
    (case l_start => k_is)
    (case c_start => k_is)
    (case k_start => k_is)
    (case g_tell => k_is)
    (case l_tell => k_is)
    (case c_tell => k_is)
    (case k_tell => k_is)
    (case g_see => k_is)
    (case l_see => k_is)
    (case c_see => k_is)
    (case k_see => k_is)
    (case g_got => k_is)
    (case l_got => k_is)
    (case c_got => k_is)
    (case k_got => k_is)
    (case g_show_umpire => k_is)
    (case l_show_umpire => k_is)
    (case c_show_umpire => k_is)
    (case k_show_umpire => k_is)
    (case g_show_bag => k_is)
    (case l_show_bag => k_is)
    (case c_show_bag => k_is)
    (case k_show_bag => k_is)
    (case g_fits => k_is)
    (case l_fits => k_is)
    (case c_fits => k_is)
    (case k_fits => k_is)
    (case g_make_call => k_is)
    (case l_make_call => k_is)
    (case c_make_call => k_is)
    (case k_make_call => k_is)
    (case g_answer_call => k_is)
    (case l_answer_call => k_is)
    (case c_answer_call => k_is)
    (case k_answer_call => k_is)
    (case g_answer_line => k_is)
    (case l_answer_line => k_is)
    (case c_answer_line => k_is)
    (case k_answer_line => k_is)
    (case g_answers => k_is)
    (case l_answers => k_is)
    (case c_answers => k_is)
    (case k_answers => k_is)
    (case ne => exact ⟨by decide, by decide, by decide, by decide, by decide, by decide, by decide, by decide, by decide, by decide⟩)
    case kk =>
    intro a T
    have e := hmg.symm.trans T.g_answers
    cases e
    refine ⟨a.d_answers, fun s us hu => ?_, fun base _ _ => So.ok_answers T⟩
    exact So.binds_answers T s us hu
  case S =>
    exact So.spec_S
