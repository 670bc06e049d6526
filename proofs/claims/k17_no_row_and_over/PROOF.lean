import PyProof.Rows.All
import Wide.All
import OpenK.AllK
import Wide.FinOn
import Lean
import PyProof.EqAt
import PyProof.EqKinds
import PyProof.TupleCall
import PyProof.DictItems
import PyProof.Draws
import PyProof.ZipIter
import PyProof.CallStr
import KE.KIntText
import PyProof.StationsW
import OpenK.KOwn
import KE.KIsAll
import PyProof.ExcArgsOwn
import PyProof.Rows.CountFlat
import PySem.Challenge.RW_wordrace_k17_no_row_and_over

set_option Elab.async false
set_option linter.all false
set_option maxRecDepth 100000
/-! THE HAND LAYER, for ints, bools, texts, own classes, LISTS and tuples (index, slices, in, append, pop ..), calls, loops. Paste it whole ahead of your own text; what your proof does not reach may be deleted. -/
namespace L2
open PySem PySem.Spec PyProof.Rows

/-- a key: an int or a str -/
abbrev Key := Sum Int Str
def keyIs : Key → Value → Bool
  | .inl k, v => Value.isInt k v
  | .inr x, v => Value.isStrOf x v
def keyH (w : World) : Key → Int
  | .inl k => hashInt k
  | .inr x => hashStr w x
theorem keyIs_shape : ∀ {k : Key} {v : Value}, keyIs k v = true → (∃ i t, k = Sum.inl i ∧ v = Value.int i t) ∨ (∃ x t, k = Sum.inr x ∧ v = Value.str x t)
  | .inl i, v, h => by
    obtain ⟨t, e⟩ := Value.isInt_shape (k := i) (v := v) h
    exact .inl ⟨i, t, rfl, e⟩
  | .inr x, v, h => by
    obtain ⟨t, e⟩ := Value.isStrOf_shape (x := x) (v := v) h
    exact .inr ⟨x, t, rfl, e⟩
theorem keyIs_int (i : Int) (t : Tok) : keyIs (.inl i) (.int i t) = true := by simp [keyIs, Value.isInt]
theorem keyIs_str (x : Str) (t : Tok) : keyIs (.inr x) (.str x t) = true := by simp [keyIs, Value.isStrOf]
theorem key_ll (a b : Int) : decide ((Sum.inl a : Key) = Sum.inl b) = (a == b) := by
  by_cases e : a = b
  · subst e; simp
  · have h : ¬ (Sum.inl a : Key) = Sum.inl b := fun q => e (Sum.inl.inj q)
    rw [decide_eq_false h]
    exact (beq_eq_false_iff_ne.mpr e).symm
theorem key_rr (a b : Str) : decide ((Sum.inr a : Key) = Sum.inr b) = decide (a = b) := by
  by_cases e : a = b
  · subst e; simp
  · have h : ¬ (Sum.inr a : Key) = Sum.inr b := fun q => e (Sum.inr.inj q)
    rw [decide_eq_false h, decide_eq_false e]
theorem key_lr (a : Int) (b : Str) : decide ((Sum.inl a : Key) = Sum.inr b) = false := decide_eq_false (fun q => nomatch q)
theorem key_rl (a : Str) (b : Int) : decide ((Sum.inr a : Key) = Sum.inl b) = false := decide_eq_false (fun q => nomatch q)

def mixKind (prog : Program) (w : World) : PySem.KeyKind prog w Key where
  is := keyIs
  hash := keyH w
  inj := fun v a b ha hb => by
    rcases keyIs_shape ha with ⟨i, t, rfl, rfl⟩ | ⟨x, t, rfl, rfl⟩
    · rcases keyIs_shape hb with ⟨j, u, rfl, e⟩ | ⟨y, u, rfl, e⟩
      · injection e with e1 _; rw [e1]
      · exact nomatch e
    · rcases keyIs_shape hb with ⟨j, u, rfl, e⟩ | ⟨y, u, rfl, e⟩
      · exact nomatch e
      · injection e with e1 _; rw [e1]
  byValue := fun k v h => by
    rcases keyIs_shape h with ⟨i, t, rfl, rfl⟩ | ⟨x, t, rfl, rfl⟩ <;> rfl
  pyHash := fun hv h => by
    rcases keyIs_shape hv with ⟨i, t, rfl, rfl⟩ | ⟨x, t, rfl, rfl⟩
    · exact wpAny_pyHash_int h
    · exact wpAny_pyHash_str h
  eqBool := fun hu hv h => by
    rcases keyIs_shape hu with ⟨i, t, rfl, rfl⟩ | ⟨x, t, rfl, rfl⟩
    · rcases keyIs_shape hv with ⟨j, u, rfl, rfl⟩ | ⟨y, u, rfl, rfl⟩
      · rw [key_ll] at h; exact wpAny_eqBool_int h
      · rw [key_lr] at h; exact SeqAt.EqAt.int_str i t y u _ _ _ _ h
    · rcases keyIs_shape hv with ⟨j, u, rfl, rfl⟩ | ⟨y, u, rfl, rfl⟩
      · rw [key_rl] at h; exact SeqAt.EqAt.str_int x t j u _ _ _ _ h
      · rw [key_rr] at h; exact wpAny_eqBool_str h
  «strs» := fun k x t v h => by
    rcases keyIs_shape h with ⟨i, u, rfl, e⟩ | ⟨y, u, rfl, e⟩
    · exact nomatch e
    · injection e with e1 _
      subst e1
      cases v <;> rfl

theorem mixKind_int (prog : Program) (w : World) (i : Int) (t : Tok) : (mixKind prog w).is (.inl i) (.int i t) = true := keyIs_int i t
theorem mixKind_str (prog : Program) (w : World) (x : Str) (t : Tok) : (mixKind prog w).is (.inr x) (.str x t) = true := keyIs_str x t
end L2

namespace L2
open PySem PySem.Spec PyProof.Rows

/-- a value, without the heap -/
inductive V where
  | non | bl (b : Bool) | int (i : Int) | str (x : Str) | byt (b : Array UInt8) | flt (b : UInt64) | ref (a : Addr) | ty (n : String)
  deriving DecidableEq

def RelV : V → Value → Prop
  | .non, u => u = Value.none
  | .bl b, u => u = Value.bool b
  | .int i, u => ∃ t, u = Value.int i t
  | .str x, u => ∃ t, u = Value.str x t
  | .byt b, u => ∃ t, u = Value.bytes b t
  | .flt b, u => ∃ t, u = Value.float b t
  | .ref a, u => u = Value.ref a
  | .ty n, u => u = Value.type n

abbrev Vals : List V → List Value → Prop := Paired RelV
theorem Vals.length {xs : List V} {us : List Value} (r : Vals xs us) : xs.length = us.length := Paired.length r
theorem Vals.get : ∀ {xs : List V} {us : List Value} {i : Nat} {x : V}, Vals xs us → xs[i]? = some x → ∃ u, us[i]? = some u ∧ RelV x u
  | _, _, _, _, .nil, e => by simp at e
  | _, _, 0, _, .cons r _, e => by simp at e; subst e; exact ⟨_, rfl, r⟩
  | _, _, i + 1, x, .cons _ t, e => by
    obtain ⟨u, h1, h2⟩ := Vals.get (i := i) (x := x) t (by simpa using e)
    exact ⟨u, by simpa using h1, h2⟩
theorem Vals.set {x : V} {u : Value} (r : RelV x u) : ∀ {xs : List V} {us : List Value} (i : Nat), Vals xs us → Vals (xs.set i x) (us.set i u)
  | _, _, _, .nil => .nil
  | _, _, 0, .cons _ t => .cons r t
  | _, _, i + 1, .cons q t => .cons q (Vals.set r i t)
theorem Vals.append : ∀ {xs ys : List V} {us ws : List Value}, Vals xs us → Vals ys ws → Vals (xs ++ ys) (us ++ ws)
  | _, _, _, _, .nil, s => s
  | _, _, _, _, .cons r t, s => .cons r (Vals.append t s)
theorem Vals.take : ∀ {xs : List V} {us : List Value} (n : Nat), Vals xs us → Vals (xs.take n) (us.take n)
  | _, _, 0, _ => .nil
  | _, _, _ + 1, .nil => .nil
  | _, _, n + 1, .cons r t => .cons r (Vals.take n t)
theorem Vals.drop : ∀ {xs : List V} {us : List Value} (n : Nat), Vals xs us → Vals (xs.drop n) (us.drop n)
  | _, _, 0, r => r
  | _, _, _ + 1, .nil => .nil
  | _, _, n + 1, .cons _ t => Vals.drop n t
def RelO : Option V → Option Value → Prop
  | some v, some u => RelV v u
  | none, none => True
  | _, _ => False
def KV {κ : Type} : List (κ × V) → List (κ × Value) → Prop := Paired fun (p : κ × V) (q : κ × Value) => p.1 = q.1 ∧ RelV p.2 q.2

/-- a key of a dict (00_mix): an int or a text -/
def kV : Key → V
  | .inl i => .int i
  | .inr x => .str x

/-- what stands at a tracked address -/
inductive HO where
  /-- a list -/
  | lst (xs : List V)
  /-- a tuple (never changes) -/
  | tup (xs : List V)
  /-- a dict whose keys are ints and texts; one whose keys are tuples of ints and texts (the empty one is both) -/
  | dK (kvs : List (Key × V)) | dT (kvs : List (List Key × V))
  /-- a set of ints: its members, its size -/
  | set (S : Int → Bool) (n : Nat)
  /-- an instance of the class at C, its dict at dx, its attributes -/
  | ins (C dx : Addr) (fs : List (Str × V))
  /-- the dict of the instance at x -/
  | own (x : Addr)
  /-- the dict of an exception -/
  | xd (fs : List (Str × V))
  /-- a bound method, f of x -/
  | met (f x : Addr)
  /-- a range object lo, lo + 1, .. below hi -/
  | rng (lo hi : Int)
  /-- a thing that is known to the object (the script; a dict while a loop walks it): read, never written while it is so -/
  | frz (o : Obj) (u : HO)
  /-- a code object's table -/
  | tbl (ps : Array Value)
  /-- any other thing, by what is true of its one object (a def of one's own: SetO a S n := HO.ext fun h => ..) -/
  | ext (φ : Heap → Prop)

abbrev Hp := Addr → Option HO
def upd (H : Hp) (a : Addr) (o : HO) : Hp := fun b => if b = a then some o else H b
theorem upd_same {H : Hp} {a : Addr} {o : HO} : upd H a o a = some o := by unfold upd; rw [if_pos rfl]
theorem upd_ne {H : Hp} {a b : Addr} {o : HO} (h : b ≠ a) : upd H a o b = H b := by unfold upd; rw [if_neg h]
theorem upd_upd {H : Hp} {a : Addr} {o u : HO} : upd (upd H a o) a u = upd H a u := by
  funext b; unfold upd; split <;> rfl
/-- two objects of different content stand apart -/
theorem ne_of {H : Hp} {a b : Addr} {o u : HO} (h : H a = some o) (h' : H b = some u) (d : o ≠ u) : a ≠ b := by
  intro e; subst e; rw [h] at h'; exact d (Option.some.inj h')
theorem ne_of_none {H : Hp} {a b : Addr} {o : HO} (h : H a = some o) (h' : H b = none) : a ≠ b := by
  intro e; subst e; rw [h] at h'; cases h'

section
variable (P : Program) (w : World)
def ObjOk (H : Hp) (h : Heap) (a : Addr) : HO → Prop
  | .lst xs => xs.length ≤ sizeLine ∧ ∃ (its : List Value) (n : Nat), Vals xs its ∧ h.get? a = some { cls := .type "list", data := .seq its.toArray n }
  | .tup xs => xs.length ≤ sizeLine ∧ ∃ its : List Value, Vals xs its ∧ IsTup h a its.toArray
  | .dK kvs => kvs.length ≤ sizeLine ∧ (a == sysModules) = false ∧ ∃ vs, KV kvs vs ∧ h.DictOf (mixKind P w) a vs
  | .dT kvs => kvs.length ≤ sizeLine ∧ (a == sysModules) = false ∧ ∃ xs : List (List Key × Addr × Value),
      Paired (fun (p : List Key × V) (q : List Key × Addr × Value) => p.1 = q.1 ∧ H q.2.1 = some (.tup (p.1.map kV)) ∧ RelV p.2 q.2.2) kvs xs ∧
      ∃ o es ep, h.get? a = some o ∧ o.ExactDict ∧ o.data = .dict es ep ∧ es.toList = xs.map (entryOfKey (tupleKind (mixKind P w))) ∧ (xs.map (·.1)).Nodup
  | .set S n => h.SetOf (intKind P w) a S n
  | .ins C dx fs => H dx = some (.own a) ∧ fs.length ≤ 1000 ∧ dx ≠ a ∧ h.get? a = some (PySem.W.instObj C dx) ∧
      ∃ mA, h.Ns1 dx mA ∧ (∀ f, RelO (fs.lookup f) (mA f)) ∧ PySem.Within mA (fs.map (·.1))
  | .own _ => ∃ o, h.get? a = some o
  | .xd fs => ∃ mA, h.Ns1 a mA ∧ ∀ f, RelO (fs.lookup f) (mA f)
  | .rng lo hi => ∃ t u v, h.get? a = some { cls := .type "range", data := .fields #[.int lo t, .int hi u, .int 1 v] }
  | .frz o u => h.get? a = some o ∧ ObjOk H h a u
  | .tbl ps => h.get? a = some { cls := .none, data := .fields ps }
  | .met f x => h.get? a = some (PySem.W.methodObj (.ref f) (.ref x))
  | .ext φ => φ h ∧ (∃ o, h.get? a = some o) ∧ ∀ h1 h2 : Heap, φ h1 → (∀ o, h1.get? a = some o → h2.get? a = some o) → φ h2
/-- the abstract heap is held -/
def HOk (H : Hp) (h : Heap) : Prop := ∀ a o, H a = some o → ObjOk P w H h a o
end

section
variable {P : Program} {w : World} {H H' : Hp} {h h' : Heap} {a : Addr} {o : HO}
theorem ObjOk.lt (x : ObjOk P w H h a o) : a < h.objs.size := by
  cases o with
  | lst xs => obtain ⟨_, _, _, _, e⟩ := x; exact Heap.lt_size e
  | tup xs => obtain ⟨_, _, _, p⟩ := x; exact p.lt
  | dK kvs => obtain ⟨_, _, _, _, o, _, _, e, _⟩ := x; exact Heap.lt_size e
  | dT kvs => obtain ⟨_, _, _, _, o, _, _, e, _⟩ := x; exact Heap.lt_size e
  | set S n => obtain ⟨o, _, _, _, e, _⟩ := x; exact Heap.lt_size e
  | ins C dx fs => obtain ⟨_, _, _, e, _⟩ := x; exact Heap.lt_size e
  | own y => obtain ⟨_, e⟩ := x; exact Heap.lt_size e
  | xd fs => obtain ⟨_, ⟨_, _, _, e, _⟩, _⟩ := x; exact Heap.lt_size e
  | rng lo hi => obtain ⟨_, _, _, e⟩ := x; exact Heap.lt_size e
  | frz ob u => obtain ⟨e, _⟩ := x; exact Heap.lt_size e
  | tbl ps => exact Heap.lt_size (show h.get? a = some _ from x)
  | met f y => exact Heap.lt_size (show h.get? a = some _ from x)
  | ext φ => obtain ⟨_, ⟨_, e⟩, _⟩ := x; exact Heap.lt_size e
theorem Paired.mapP {α β : Type} {F G : α → β → Prop} : ∀ {l₁ : List α} {l₂ : List β}, Paired F l₁ l₂ → (∀ a b, F a b → G a b) → Paired G l₁ l₂
  | _, _, .nil, _ => .nil
  | _, _, .cons r t, f => .cons (f _ _ r) (Paired.mapP t f)
/-- what an object's description leans on: its own object, its own dict, the tuples -/
theorem ObjOk.stay (x : ObjOk P w H h a o) (k : ∀ b u, (b = a ∨ H b = some (.own a)) → h.get? b = some u → h'.get? b = some u)
    (ho : ∀ b, H b = some (.own a) → H' b = some (.own a)) (ht : ∀ b xs, H b = some (.tup xs) → H' b = some (.tup xs)) : ObjOk P w H' h' a o := by
  induction o with
  | lst xs => obtain ⟨z, its, n, r, e⟩ := x; exact ⟨z, its, n, r, k _ _ (.inl rfl) e⟩
  | tup xs => obtain ⟨z, its, r, ob, e, c⟩ := x; exact ⟨z, its, r, ob, k _ _ (.inl rfl) e, c⟩
  | dK kvs => obtain ⟨z, y, vs, r, ob, es, ep, e, c⟩ := x; exact ⟨z, y, vs, r, ob, es, ep, k _ _ (.inl rfl) e, c⟩
  | dT kvs =>
    obtain ⟨z, y, xs, r, ob, es, ep, e, c⟩ := x
    exact ⟨z, y, xs, Paired.mapP r fun p q z => ⟨z.1, ht _ _ z.2.1, z.2.2⟩, ob, es, ep, k _ _ (.inl rfl) e, c⟩
  | set S n => obtain ⟨ob, es, ep, t, e, c⟩ := x; exact ⟨ob, es, ep, t, k _ _ (.inl rfl) e, c⟩
  | ins C dx fs =>
    obtain ⟨d, z, ne, e, mA, ⟨od, es, ep, e2, c⟩, r⟩ := x
    exact ⟨ho _ d, z, ne, k _ _ (.inl rfl) e, mA, ⟨od, es, ep, k _ _ (.inr d) e2, c⟩, r⟩
  | own y => obtain ⟨ob, e⟩ := x; exact ⟨ob, k _ _ (.inl rfl) e⟩
  | xd fs => obtain ⟨mA, ⟨od, es, ep, e, c⟩, r⟩ := x; exact ⟨mA, ⟨od, es, ep, k _ _ (.inl rfl) e, c⟩, r⟩
  | rng lo hi => obtain ⟨t, u, v, e⟩ := x; exact ⟨t, u, v, k _ _ (.inl rfl) e⟩
  | frz ob u ih => obtain ⟨e, q⟩ := x; exact ⟨k _ _ (.inl rfl) e, ih q⟩
  | tbl ps =>
    have e : h.get? a = some { cls := .none, data := .fields ps } := x
    show h'.get? a = some { cls := .none, data := .fields ps }
    exact k a _ (.inl rfl) e
  | met f y =>
    have e : h.get? a = some (PySem.W.methodObj (.ref f) (.ref y)) := x
    show h'.get? a = some (PySem.W.methodObj (.ref f) (.ref y))
    exact k a _ (.inl rfl) e
  | ext φ => obtain ⟨p, ⟨o, e⟩, st⟩ := x; exact ⟨st _ _ p fun o q => k _ _ (.inl rfl) q, ⟨o, k _ _ (.inl rfl) e⟩, st⟩
theorem HOk.lt (x : HOk P w H h) (e : H a = some o) : a < h.objs.size := (x a o e).lt
theorem HOk.fresh (x : HOk P w H h) (e : h.objs.size ≤ a) : H a = none := by
  cases q : H a with
  | none => rfl
  | some u => exact absurd (Nat.lt_of_lt_of_le (x.lt q) e) (Nat.lt_irrefl _)
/-- every object of the heap is kept -/
theorem HOk.kept (x : HOk P w H h) (k : ∀ b u, h.get? b = some u → h'.get? b = some u) : HOk P w H h' := fun a o e =>
  (x a o e).stay (fun b u _ q => k b u q) (fun _ q => q) fun _ _ q => q
/-- a new object is laid and tracked -/
theorem HOk.laid (x : HOk P w H h) (k : ∀ b u, h.get? b = some u → h'.get? b = some u) (hp : h.objs.size ≤ a) (new : ObjOk P w (upd H a o) h' a o) : HOk P w (upd H a o) h' := fun b u e => by
  have hn := x.fresh hp
  by_cases hb : b = a
  · subst hb; rw [upd_same] at e; cases e; exact new
  · rw [upd_ne hb] at e
    exact (x b u e).stay (fun c v _ q => k c v q) (fun c q => by rw [upd_ne (ne_of_none q hn)]; exact q) fun c xs q => by rw [upd_ne (ne_of_none q hn)]; exact q
end

/-- what may be read as u: it is u, or a known u -/
def Rd (H : Hp) (a : Addr) (u : HO) : Prop := H a = some u ∨ ∃ o, H a = some (.frz o u)
theorem Rd.ok {P : Program} {w : World} {H : Hp} {h : Heap} {a : Addr} {u : HO} (r : Rd H a u) (x : HOk P w H h) : ObjOk P w H h a u := by
  rcases r with r | ⟨o, r⟩
  · exact x a u r
  · obtain ⟨_, q⟩ := x a _ r
    exact q
/-- what may be written -/
def Mut : Option HO → Prop
  | some (.lst _) => True
  | some (.dK _) => True
  | some (.dT _) => True
  | some (.set _ _) => True
  | some (.ins _ _ _) => True
  | some (.ext _) => True
  | _ => False
section
variable {P : Program} {w : World} {H : Hp} {h h' : Heap} {x e : Addr} {o' : HO}
/-- the object at e is changed: x itself, or the dict of the instance x -/
theorem HOk.write (ok : HOk P w H h) (mu : Mut (H x)) (he : e = x ∨ H e = some (.own x)) (k : ∀ b u, b ≠ e → h.get? b = some u → h'.get? b = some u) (heo : ∃ u, h'.get? e = some u)
    (new : ObjOk P w (upd H x o') h' x o') : HOk P w (upd H x o') h' := fun b u q => by
  have nown : ∀ c y, H c = some (.own y) → c ≠ x := fun c y r z => by subst z; rw [r] at mu; exact mu
  have ntup : ∀ c xs, H c = some (.tup xs) → c ≠ x := fun c xs r z => by subst z; rw [r] at mu; exact mu
  by_cases hb : b = x
  · subst hb; rw [upd_same] at q; cases q; exact new
  · rw [upd_ne hb] at q
    by_cases hbe : b = e
    · have q' : H b = some (.own x) := by
        rcases he with z | z
        · exact absurd (hbe.trans z) hb
        · rw [hbe]; exact z
      rw [q] at q'; cases q'
      obtain ⟨v, hv⟩ := heo
      exact ⟨v, by rw [hbe]; exact hv⟩
    · refine (ok b u q).stay (fun c v hc r => k c v ?_ r) (fun c r => by rw [upd_ne (nown c b r)]; exact r) fun c xs r => by rw [upd_ne (ntup c xs r)]; exact r
      rcases hc with rfl | hc
      · exact hbe
      · rintro rfl
        rcases he with z | z
        · exact nown c b hc z
        · rw [hc] at z; cases z; exact hb rfl
end

/-! ### kept unless tracked; of the frames at fs (the callers') the slots may change (an exception that passes writes there); of the records at ex (iterators) nothing is said -/
structure Un (fs ex : List Addr) (H H' : Hp) (h h' : Heap) : Prop where
  keep : ∀ b o, h.get? b = some o → H b = none → b ∉ fs → b ∉ ex → h'.get? b = some o
  slot : ∀ b o, h.get? b = some o → H b = none → b ∈ fs → b ∉ ex → ∃ sl, h'.get? b = some { o with slots := sl }
  free : ∀ b o, h.get? b = some o → H b = none → b ∉ ex → H' b = none
  there : ∀ b o, h.get? b = some o → b ∉ ex → ∃ o', h'.get? b = some o'
  tups : ∀ b xs, H b = some (.tup xs) → H' b = some (.tup xs)
  frzs : ∀ b o u, H b = some (.frz o u) → H' b = some (.frz o u)
  tbls : ∀ b ps, H b = some (.tbl ps) → ∃ more, H' b = some (.tbl (ps ++ more))
section
variable {fs fs' ex ex' : List Addr} {H H1 H2 : Hp} {h h1 h2 h' : Heap} {a x e : Addr} {o : HO}
theorem Un.any (u : Un fs ex H H1 h h1) {b : Addr} {ob : Obj} (q : h.get? b = some ob) (n : H b = none) (hx : b ∉ ex) : ∃ sl, h1.get? b = some { ob with slots := sl } := by
  by_cases hb : b ∈ fs
  · exact u.slot b ob q n hb hx
  · exact ⟨ob.slots, u.keep b ob q n hb hx⟩
theorem Un.kept (k : ∀ b u, h.get? b = some u → h'.get? b = some u) : Un fs ex H H h h' :=
  ⟨fun b ob q _ _ _ => k b ob q, fun b ob q _ _ _ => ⟨ob.slots, k b ob q⟩, fun _ _ _ n _ => n, fun b ob q _ => ⟨ob, k b ob q⟩, fun _ _ q => q, fun _ _ _ q => q, fun _ ps q => ⟨#[], by rw [q]; simp⟩⟩
theorem Un.refl : Un fs ex H H h h := Un.kept fun _ _ q => q
theorem Un.laid (k : ∀ b u, h.get? b = some u → h'.get? b = some u) (hp : h.objs.size ≤ a) (hn : H a = none) : Un fs ex H (upd H a o) h h' where
  keep := fun b u q _ _ _ => k b u q
  slot := fun b u q _ _ _ => ⟨u.slots, k b u q⟩
  free := fun b u q n _ => by rw [upd_ne (Nat.ne_of_lt (Nat.lt_of_lt_of_le (Heap.lt_size q) hp))]; exact n
  there := fun b u q _ => ⟨u, k b u q⟩
  tups := fun b xs q => by rw [upd_ne (ne_of_none q hn)]; exact q
  frzs := fun b u xs q => by rw [upd_ne (ne_of_none q hn)]; exact q
  tbls := fun b ps q => ⟨#[], by rw [upd_ne (ne_of_none q hn), q]; simp⟩
theorem Un.write (mu : Mut (H x)) (he : e = x ∨ H e = some (.own x)) (k : ∀ b u, b ≠ e → h.get? b = some u → h'.get? b = some u) (heo : ∃ u, h'.get? e = some u) : Un fs ex H (upd H x o) h h' := by
  have hx : ∀ b, H b = none → b ≠ x := fun b n z => by subst z; rw [n] at mu; exact mu
  have hb : ∀ b, H b = none → b ≠ e := fun b n z => by
    subst z
    rcases he with r | r
    · exact hx b n r
    · rw [n] at r; cases r
  have hm : ∀ b u, H b = some u → ¬ Mut (some u) → b ≠ x := fun b u q nm z => by subst z; rw [q] at mu; exact nm mu
  refine ⟨fun b u q n _ _ => k b u (hb b n) q, fun b u q n _ _ => ⟨u.slots, k b u (hb b n) q⟩, fun b u q n _ => by rw [upd_ne (hx b n)]; exact n, fun b u q _ => ?_,
    fun b xs q => by rw [upd_ne (hm b _ q fun z => z)]; exact q, fun b u xs q => by rw [upd_ne (hm b _ q fun z => z)]; exact q, fun b ps q => ⟨#[], by rw [upd_ne (hm b _ q fun z => z), q]; simp⟩⟩
  by_cases hbe : b = e
  · subst hbe; exact heo
  · exact ⟨u, k b u hbe q⟩
end

/-! ### the heap without what is tracked -/
def trk (h : Heap) (H : Hp) : List Addr := (List.range h.objs.size).filter fun a => (H a).isSome
def hidT (h : Heap) (H : Hp) : Heap := PySem.W.hideAll h (trk h H)
theorem hidT_size (h : Heap) (H : Hp) : (hidT h H).objs.size = h.objs.size := PySem.W.hideAll_size _ _
theorem hidT_get {h : Heap} {H : Hp} {b : Addr} {o : Obj} (e : h.get? b = some o) (n : H b = none) : (hidT h H).get? b = some o :=
  PySem.W.hideAll_get _ e fun hm => by
    have q : (H b).isSome = true := (List.mem_filter.mp hm).2
    rw [n] at q; simp at q
theorem of_hidT {h : Heap} {H : Hp} {b : Addr} {o : Obj} (e : (hidT h H).get? b = some o) : h.get? b = some o ∧ H b = none := by
  have e' : h.get? b = some o := PySem.W.of_hideAll (trk h H) e
  refine ⟨e', ?_⟩
  cases q : H b with
  | none => rfl
  | some x =>
    have hm : b ∈ trk h H := List.mem_filter.mpr ⟨List.mem_range.mpr (Heap.lt_size e'), by simp [q]⟩
    have z : (hidT h H).get? b = none := PySem.W.hideAll_none (trk h H) hm
    rw [z] at e; cases e

/-! ### OpenK's ledger, filled with every new object but one -/
def allNews (g h : Heap) (L : Addr) : List (Addr × Obj) := (List.range h.objs.size).filterMap fun a => if a = L ∨ (g.get? a).isSome = true then none else (h.get? a).map fun o => (a, o)
theorem mem_allNews {g h : Heap} {L a : Addr} {o : Obj} (h1 : a ≠ L) (h2 : g.get? a = none) (h3 : h.get? a = some o) : (a, o) ∈ allNews g h L :=
  List.mem_filterMap.mpr ⟨a, List.mem_range.mpr (Heap.lt_size h3), by simp [h1, h2, h3]⟩
theorem of_mem_allNews {g h : Heap} {L : Addr} {p : Addr × Obj} (hp : p ∈ allNews g h L) : p.1 ≠ L ∧ g.get? p.1 = none ∧ h.get? p.1 = some p.2 := by
  obtain ⟨b, _, e⟩ := List.mem_filterMap.mp hp
  split at e
  · cases e
  · rename_i hn
    cases q : h.get? b with
    | none => rw [q] at e; simp at e
    | some u =>
      rw [q] at e
      simp only [Option.map_some, Option.some.injEq] at e
      subst e
      refine ⟨fun z => hn (.inl z), ?_, q⟩
      show g.get? b = none
      cases r : g.get? b with
      | none => rfl
      | some v => exact (hn (.inr (by simp [r]))).elim
theorem news_all {g h : Heap} {L : Addr} : News g L h (allNews g h L) := fun p hp => let ⟨a, b, c⟩ := of_mem_allNews hp; ⟨c, a, b⟩
end L2

namespace L2
open PySem PySem.Spec PyProof.Rows

/-- the module's facts, over the base: the heap at the law's entry without what is tracked there -/
structure Mod (K : PySem.W.Frag) (mg : Str → Option Value) (base : Heap) : Prop where
  kin : K.In base
  glob : base.Ns mainGlobals mg
  blt : ∃ mb, base.Ns builtinsNs mb ∧ ∀ x : Str, x ≠ "__name__" → mb x = bootBuiltins x
  nolimit : base.NoLimit
  seer : base.NoSeer

/-- the context: a def's body (or a comprehension's block) running. base: fixed through the whole law; s₀, H₀: the entry; outer: the frames whose slots others may change (a def's callers); stack: all frames that run;
   ex: iterators that were made ahead of the entry and are walked here (a comprehension's); fn: the names whose cells were made at the entry (a def: all; a comprehension's block: its own); calm: not within an except suite; pn: pins that every state bears; xe: what is wanted of an exception that leaves the code -/
structure Cx where
  prog : Program
  w : World
  K : PySem.W.Frag
  mg : Str → Option Value
  base : Heap
  A : Around
  N : List Str
  s₀ : Shared
  H₀ : Hp
  env : Env
  outer : List Env
  stack : List Env
  ex : List Addr
  fn : Str → Bool
  calm : Bool
  pn : List (Addr × Obj)
  xe : Value → Shared → Prop
/-- the callers' frames -/
def frs (l : List Env) : List Addr := l.filterMap (·.frame)
abbrev Cx.fs (X : Cx) : List Addr := frs X.outer

def Vis (sc : Scope) (x : Str) : Prop := sc.names.lookup x = some .local ∨ sc.names.lookup x = some .cell ∨ sc.names.lookup x = some .free
def Loc (sc : Scope) (x : Str) : Prop := sc.names.lookup x = some .local ∨ sc.names.lookup x = some .cell
def Look (env : Env) (h : Heap) (m : Str → Option Value) (x : Str) (u : Value) : Prop :=
  (env.kindOf x = some .local ∧ m x = some u) ∨ ((env.kindOf x = some .cell ∨ env.kindOf x = some .free) ∧ ∃ c, env.cells.lookup x = some c ∧ h.IsCell c (some u))

structure Cx.Ok (X : Cx) : Prop where
  mod : Mod X.K X.mg X.base
  kind : X.env.scope.kind = .function
  glob : X.env.globals = mainGlobals
  blt : X.env.builtins = builtinsNs
  above : X.s₀.heap.objs.size ≤ X.env.locals
  inj : ∀ x y c, X.env.cells.lookup x = some c → X.env.cells.lookup y = some c → x = y
  has : ∀ x, (X.env.kindOf x = some .cell ∨ X.env.kindOf x = some .free) → ∃ c, X.env.cells.lookup x = some c
  cab : ∀ x c, X.fn x = true → X.env.cells.lookup x = some c → X.s₀.heap.objs.size ≤ c
  hd : X.calm = true → X.A.handled = none
  frames : X.A.frames = some X.stack
  stk : X.stack = X.outer ∨ (X.stack = X.env :: X.outer ∧ X.env.frame = some X.env.locals)
  exf : ∀ b ∈ X.ex, b ≠ X.env.locals ∧ ∀ x c, X.env.cells.lookup x = some c → c ≠ b
  bs : ∀ b o, X.base.get? b = some o → X.s₀.heap.get? b = some o ∧ X.H₀ b = none
  bsz : X.base.objs.size ≤ X.s₀.heap.objs.size
  noex : ∀ b o, X.base.get? b = some o → b ∉ X.ex
  exfs : ∀ b ∈ X.ex, b ∉ X.fs
  funs : X.s₀.heap.FunFrames X.base X.outer
  frf : ∀ b ∈ X.fs, X.H₀ b = none

structure Inv (X : Cx) (pins : List (Addr × Obj)) (σ : List (Option V)) (H : Hp) (s : Shared) : Prop where
  ok : X.Ok
  os : s.os = X.s₀.os
  bare : AllBare s.gens
  base : Un X.fs X.ex X.H₀ H X.s₀.heap s.heap
  loc : ∃ m, s.heap.Ns X.env.locals m ∧ ∀ (i : Nat) (x : Str) (v : V), X.N[i]? = some x → σ[i]? = some (some v) → Vis X.env.scope x → ∃ u, RelV v u ∧ Look X.env s.heap m x u
  cell : ∀ x c, X.env.cells.lookup x = some c → ∃ v, s.heap.IsCell c v
  free : H X.env.locals = none
  freeC : ∀ x c, X.env.cells.lookup x = some c → H c = none
  pin : ∀ p ∈ X.pn ++ pins, s.heap.get? p.1 = some p.2 ∧ H p.1 = none ∧ p.1 ≠ X.env.locals ∧ p.1 ∉ X.fs ∧ ∀ v, p.2.data ≠ .cell v
  hok : HOk X.prog X.w H s.heap
  len : σ.length = X.N.length

section
variable {X : Cx} {pins : List (Addr × Obj)} {σ : List (Option V)} {H H' : Hp} {s : Shared} {h' : Heap}

theorem Cx.Ok.nofr (ok : X.Ok) {b : Addr} {o : Obj} (e : X.base.get? b = some o) : b ∉ X.fs := fun hb => by
  have := (ok.funs.mem hb).1
  rw [e] at this; cases this
theorem Inv.bs (I : Inv X pins σ H s) : ∀ b o, X.base.get? b = some o → s.heap.get? b = some o ∧ H b = none := fun b o e =>
  ⟨I.base.keep b o (I.ok.bs b o e).1 (I.ok.bs b o e).2 (I.ok.nofr e) (I.ok.noex b o e), I.base.free b o (I.ok.bs b o e).1 (I.ok.bs b o e).2 (I.ok.noex b o e)⟩
theorem Inv.bk (I : Inv X pins σ H s) : ∀ b o, X.base.get? b = some o → s.heap.get? b = some o := fun b o e => (I.bs b o e).1
theorem Inv.mod (I : Inv X pins σ H s) : Mod X.K X.mg X.base := I.ok.mod
theorem Inv.kIn (I : Inv X pins σ H s) : X.K.In s.heap := I.ok.mod.kin.keeps I.bk
theorem Inv.nolimit (I : Inv X pins σ H s) : s.heap.NoLimit := I.ok.mod.nolimit.keeps I.bk
theorem Inv.lt (I : Inv X pins σ H s) : X.env.locals < s.heap.objs.size := let ⟨_, hn, _⟩ := I.loc; hn.lt
theorem Inv.sz (I : Inv X pins σ H s) : X.s₀.heap.objs.size ≤ s.heap.objs.size := Nat.le_trans I.ok.above (Nat.le_of_lt I.lt)
theorem Inv.nofs (I : Inv X pins σ H s) {a : Addr} (h : s.heap.objs.size ≤ a) : a ∉ X.fs := fun hb => by
  obtain ⟨_, o, ho, _⟩ := I.ok.funs.mem hb
  exact absurd (Nat.lt_of_lt_of_le (Heap.lt_size ho) (Nat.le_trans I.sz h)) (Nat.lt_irrefl _)
theorem Inv.cne (I : Inv X pins σ H s) : ∀ x c, X.env.cells.lookup x = some c → c ≠ X.env.locals := fun x c e z => by
  obtain ⟨v, o, ho, hd⟩ := I.cell x c e
  obtain ⟨m, ⟨o', es, ep, ho', hd', _⟩, _⟩ := I.loc
  rw [z, ho'] at ho; cases ho; rw [hd'] at hd; cases hd
theorem Inv.funs (I : Inv X pins σ H s) : s.heap.FunFrames X.base X.outer := by
  have all : ∀ (l : List Env), (∀ b ∈ frs l, b ∈ X.fs) → X.s₀.heap.FunFrames X.base l → s.heap.FunFrames X.base l := by
    intro l
    induction l with
    | nil => intro _ _; trivial
    | cons env r ih =>
      intro hs hl
      obtain ⟨hk, ⟨L, o, hf, hn, ho, hd⟩, hr⟩ := hl
      have hL : L ∈ X.fs := hs L (by unfold frs; rw [List.filterMap_cons, hf]; exact List.mem_cons_self)
      obtain ⟨sl, e⟩ := I.base.slot L o ho (I.ok.frf L hL) hL fun z => I.ok.exfs L z hL
      exact ⟨hk, ⟨L, _, hf, hn, e, hd⟩, ih (fun b hb => hs b (by unfold frs; rw [List.filterMap_cons, hf]; exact List.mem_cons_of_mem _ hb)) hr⟩
  exact all X.outer (fun _ hb => hb) I.ok.funs

/-- the frames that run, for a call -/
theorem Inv.stack (I : Inv X pins σ H s) : s.heap.FunFrames X.base X.stack := by
  rcases I.ok.stk with e | ⟨e, hf⟩
  · rw [e]; exact I.funs
  · rw [e]
    obtain ⟨m, hn, _⟩ := I.loc
    refine .cons (by rw [I.ok.kind]; decide) hf hn ?_ I.funs
    exact Heap.get?_none_of_le (Nat.le_trans I.ok.bsz I.ok.above)
theorem Inv.stkSub (I : Inv X pins σ H s) : ∀ b ∈ frs X.stack, b ∈ X.env.locals :: X.fs := fun b hb => by
  rcases I.ok.stk with e | ⟨e, hf⟩
  · rw [e] at hb; exact List.mem_cons_of_mem _ hb
  · rw [e] at hb
    unfold frs at hb
    rw [List.filterMap_cons, hf] at hb
    exact hb
theorem Inv.stkFree (I : Inv X pins σ H s) : ∀ b ∈ frs X.stack, H b = none := fun b hb => by
  rcases List.mem_cons.mp (I.stkSub b hb) with e | hb
  · rw [e]; exact I.free
  · obtain ⟨_, o, ho, _⟩ := I.ok.funs.mem hb
    exact I.base.free b o ho (I.ok.frf b hb) fun z => I.ok.exfs b z hb

/-- THE STEP: the untracked objects but the frame and the records at ch are kept (the callers' frames up to slots), the frame's map is kept, the new abstract heap is held -/
theorem Inv.step {g' : Array GenState} {t' : Nat} {d' : Drawn} {ch : List Addr} (I : Inv X pins σ H s)
    (hch : ∀ b ∈ ch, (b ∈ X.ex ∨ X.s₀.heap.objs.size ≤ b) ∧ b ≠ X.env.locals ∧ (∀ x c, X.env.cells.lookup x = some c → c ≠ b) ∧ ∀ p ∈ X.pn ++ pins, p.1 ≠ b)
    (keep : ∀ b o, b ≠ X.env.locals → b ∉ X.fs → b ∉ ch → s.heap.get? b = some o → H b = none → h'.get? b = some o)
    (slot : ∀ b o, b ≠ X.env.locals → b ∈ X.fs → b ∉ ch → s.heap.get? b = some o → H b = none → ∃ sl, h'.get? b = some { o with slots := sl }) (free : ∀ b o, b ∉ ch → s.heap.get? b = some o → H b = none → H' b = none)
    (there : ∀ b o, b ∉ ch → s.heap.get? b = some o → ∃ o', h'.get? b = some o')
    (tups : ∀ b xs, H b = some (.tup xs) → H' b = some (.tup xs)) (frzs : ∀ b o u, H b = some (.frz o u) → H' b = some (.frz o u)) (tbls : ∀ b ps, H b = some (.tbl ps) → ∃ more, H' b = some (.tbl (ps ++ more)))
    (ns : ∀ m, s.heap.Ns X.env.locals m → h'.Ns X.env.locals m) (hok : HOk X.prog X.w H' h') (hg : AllBare g') :
    Inv X pins σ H' { s with heap := h', gens := g', drawn := d', toks := t' } := by
  have neL : ∀ b o, X.s₀.heap.get? b = some o → b ≠ X.env.locals := fun b o e => Nat.ne_of_lt (Nat.lt_of_lt_of_le (Heap.lt_size e) I.ok.above)
  have neC : ∀ b o, X.s₀.heap.get? b = some o → b ∉ X.ex → b ∉ ch := fun b o e hx hb => by
    rcases (hch b hb).1 with z | z
    · exact hx z
    · exact absurd (Nat.lt_of_lt_of_le (Heap.lt_size e) z) (Nat.lt_irrefl _)
  have cellK : ∀ x c, X.env.cells.lookup x = some c → ∀ v, s.heap.IsCell c v → h'.IsCell c v := fun x c e v ⟨o, ho, hd⟩ => by
    have nch : c ∉ ch := fun z => (hch c z).2.2.1 x c e rfl
    by_cases hc : c ∈ X.fs
    · obtain ⟨sl, q⟩ := slot c o (I.cne x c e) hc nch ho (I.freeC x c e)
      exact ⟨_, q, hd⟩
    · exact ⟨o, keep c o (I.cne x c e) hc nch ho (I.freeC x c e), hd⟩
  refine ⟨I.ok, I.os, hg, ⟨fun b o e n hb hx => ?_, fun b o e n hb hx => ?_, fun b o e n hx => ?_, fun b o e hx => ?_, fun b xs e => tups b xs (I.base.tups b xs e), fun b o xs e => frzs b o xs (I.base.frzs b o xs e), fun b ps e => ?_⟩, ?_, fun x c e => ?_, ?_, fun x c e => ?_, fun p hp => ?_, hok, I.len⟩
  · exact keep b o (neL b o e) hb (neC b o e hx) (I.base.keep b o e n hb hx) (I.base.free b o e n hx)
  · obtain ⟨sl, e1⟩ := I.base.slot b o e n hb hx
    obtain ⟨sl', e2⟩ := slot b _ (neL b o e) hb (neC b o e hx) e1 (I.base.free b o e n hx)
    exact ⟨sl', e2⟩
  · obtain ⟨o', e1⟩ := I.base.there b o e hx
    exact free b o' (neC b o e hx) e1 (I.base.free b o e n hx)
  · obtain ⟨o', e1⟩ := I.base.there b o e hx
    exact there b o' (neC b o e hx) e1
  · obtain ⟨m1, e1⟩ := I.base.tbls b ps e
    obtain ⟨m2, e2⟩ := tbls b _ e1
    exact ⟨m1 ++ m2, by rw [e2, Array.append_assoc]⟩
  · obtain ⟨m, hn, hl⟩ := I.loc
    refine ⟨m, ns m hn, fun i x v e1 e2 e3 => ?_⟩
    obtain ⟨u, r, l⟩ := hl i x v e1 e2 e3
    refine ⟨u, r, ?_⟩
    rcases l with l | ⟨k, c, e, z⟩
    · exact .inl l
    · exact .inr ⟨k, c, e, cellK x c e _ z⟩
  · obtain ⟨v, z⟩ := I.cell x c e
    exact ⟨v, cellK x c e v z⟩
  · obtain ⟨m, ⟨o, _, _, ho, _⟩, _⟩ := I.loc
    exact free _ o (fun z => (hch _ z).2.1 rfl) ho I.free
  · obtain ⟨v, o, ho, hd⟩ := I.cell x c e
    exact free c o (fun z => (hch c z).2.2.1 x c e rfl) ho (I.freeC x c e)
  · obtain ⟨e, n, ne, nf, d⟩ := I.pin p hp
    have nch : p.1 ∉ ch := fun z => (hch p.1 z).2.2.2 p hp rfl
    exact ⟨keep p.1 p.2 ne nf nch e n, free p.1 p.2 nch e n, ne, nf, d⟩
/-- .. where the frame's own object is kept too -/
theorem Inv.un {t' : Nat} (I : Inv X pins σ H s) (u : Un X.fs [] H H' s.heap h') (hok : HOk X.prog X.w H' h') : Inv X pins σ H' { s with heap := h', toks := t' } := by
  obtain ⟨m, ⟨o, es, ep, ho, r⟩, _⟩ := id I.loc
  obtain ⟨sl, hL⟩ := u.any ho I.free (by simp)
  exact I.step (g' := s.gens) (d' := s.drawn) (ch := []) (fun _ z => nomatch z) (fun b o _ hb _ e n => u.keep b o e n hb (by simp)) (fun b o _ hb _ e n => u.slot b o e n hb (by simp)) (fun b o _ e n => u.free b o e n (by simp)) (fun b o _ e => u.there b o e (by simp)) u.tups u.frzs u.tbls (fun m' hm => by
    obtain ⟨o', es', ep', ho', r'⟩ := hm
    rw [ho] at ho'; cases ho'
    exact ⟨_, es', ep', hL, r'⟩) hok I.bare
/-- behind a call (or a comprehension's block): the slots of this frame may have changed too, the records at ch may have turned -/
theorem Inv.call {g' : Array GenState} {t' : Nat} {d' : Drawn} {ch : List Addr} (I : Inv X pins σ H s) (u : Un (frs X.stack) ch H H' s.heap h') (hok : HOk X.prog X.w H' h') (hg : AllBare g')
    (hch : ∀ b ∈ ch, (b ∈ X.ex ∨ X.s₀.heap.objs.size ≤ b) ∧ b ≠ X.env.locals ∧ (∀ x c, X.env.cells.lookup x = some c → c ≠ b) ∧ ∀ p ∈ X.pn ++ pins, p.1 ≠ b) :
    Inv X pins σ H' { s with heap := h', gens := g', drawn := d', toks := t' } := by
  obtain ⟨m, ⟨o, es, ep, ho, r⟩, _⟩ := id I.loc
  obtain ⟨sl, hL⟩ := u.any ho I.free fun z => (hch _ z).2.1 rfl
  exact I.step (ch := ch) hch (fun b o hL hb hc e n => u.keep b o e n (fun z => (List.mem_cons.mp (I.stkSub b z)).elim hL hb) hc) (fun b o _ _ hc e n => u.any e n hc) (fun b o hc e n => u.free b o e n hc) (fun b o hc e => u.there b o e hc) u.tups u.frzs u.tbls (fun m' hm => by
    obtain ⟨o', es', ep', ho', r'⟩ := hm
    rw [ho] at ho'; cases ho'
    exact ⟨_, es', ep', hL, r'⟩) hok hg
/-- an untracked record of ours (an iterator) has turned -/
theorem Inv.turned {t' : Nat} {it : Addr} (I : Inv X pins σ H s) (k : ∀ b o, b ≠ it → s.heap.get? b = some o → h'.get? b = some o) (hn : H it = none) (hL : it ≠ X.env.locals)
    (h1 : it ∈ X.ex ∨ X.s₀.heap.objs.size ≤ it) (h2 : ∀ x c, X.env.cells.lookup x = some c → c ≠ it) (h3 : ∀ p ∈ X.pn ++ pins, p.1 ≠ it) : Inv X pins σ H { s with heap := h', toks := t' } := by
  have nit : ∀ b u, H b = some u → b ≠ it := fun b u e z => by rw [z, hn] at e; cases e
  refine I.step (g' := s.gens) (d' := s.drawn) (ch := [it]) (fun b hb => ?_) (fun b o _ _ hc e _ => k b o (fun z => hc (by simp [z])) e) (fun b o _ _ hc e _ => ⟨o.slots, k b o (fun z => hc (by simp [z])) e⟩) (fun _ _ _ _ n => n)
    (fun b o hc e => ⟨o, k b o (fun z => hc (by simp [z])) e⟩) (fun _ _ e => e) (fun _ _ _ e => e) (fun b ps e => ⟨#[], by rw [e]; simp⟩) (fun m hm => ?_) (fun b u e => ?_) I.bare
  · have e : b = it := by simpa using hb
    subst e
    exact ⟨h1, hL, h2, h3⟩
  · obtain ⟨o, es, ep, ho, r⟩ := hm
    exact ⟨o, es, ep, k _ o (Ne.symm hL) ho, r⟩
  · refine (I.hok b u e).stay (fun c v hc q => k c v ?_ q) (fun _ q => q) fun _ _ q => q
    rcases hc with z | z
    · rw [z]; exact nit b u e
    · exact nit c _ z
theorem Inv.tok (I : Inv X pins σ H s) (t : Nat) : Inv X pins σ H { s with toks := t } := I.un (h' := s.heap) (t' := t) Un.refl I.hok
/-- all objects kept -/
theorem Inv.kept {t' : Nat} (I : Inv X pins σ H s) (k : ∀ b u, s.heap.get? b = some u → h'.get? b = some u) : Inv X pins σ H { s with heap := h', toks := t' } := I.un (Un.kept k) (I.hok.kept k)
/-- a new object laid and tracked -/
theorem Inv.laid {a : Addr} {o : HO} {t' : Nat} (I : Inv X pins σ H s) (k : ∀ b u, s.heap.get? b = some u → h'.get? b = some u) (hp : s.heap.objs.size ≤ a) (new : ObjOk X.prog X.w (upd H a o) h' a o) :
    Inv X pins σ (upd H a o) { s with heap := h', toks := t' } := I.un (Un.laid k hp (I.hok.fresh hp)) (I.hok.laid k hp new)
/-- an object written -/
theorem Inv.write {x e : Addr} {o : HO} {t' : Nat} (I : Inv X pins σ H s) (mu : Mut (H x)) (he : e = x ∨ H e = some (.own x)) (k : ∀ b u, b ≠ e → s.heap.get? b = some u → h'.get? b = some u) (heo : ∃ u, h'.get? e = some u)
    (new : ObjOk X.prog X.w (upd H x o) h' x o) : Inv X pins σ (upd H x o) { s with heap := h', toks := t' } := I.un (Un.write mu he k heo) (I.hok.write mu he k heo new)
theorem Inv.pins_of {pins' : List (Addr × Obj)} (I : Inv X pins σ H s) (h : ∀ p ∈ pins', s.heap.get? p.1 = some p.2 ∧ H p.1 = none ∧ p.1 ≠ X.env.locals ∧ p.1 ∉ X.fs ∧ ∀ v, p.2.data ≠ .cell v) : Inv X pins' σ H s :=
  ⟨I.ok, I.os, I.bare, I.base, I.loc, I.cell, I.free, I.freeC, fun p hp => (List.mem_append.mp hp).elim (fun z => I.pin p (List.mem_append_left _ z)) (h p), I.hok, I.len⟩

theorem nodup_ix {N : List Str} (hN : N.Nodup) {i j : Nat} {x : Str} (a : N[i]? = some x) (b : N[j]? = some x) : i = j := by
  obtain ⟨h1, e1⟩ := List.getElem?_eq_some_iff.mp a
  obtain ⟨h2, e2⟩ := List.getElem?_eq_some_iff.mp b
  exact (List.getElem_inj hN).mp (e1.trans e2.symm)

/-- a name is stored; what changed -/
theorem store_ok2 {M : Model} {A : Around} {E : Value → Shared → Prop} {i : Nat} {x : Str} {v : V} {u : Value} {Q : Unit → Shared → Prop} (I : Inv X pins σ H s) (hN : X.N.Nodup) (hi : X.N[i]? = some x) (hx : Loc X.env.scope x) (r : RelV v u)
    (h : ∀ s', Inv X pins (σ.set i (some v)) H s' → (∃ a, Heap.SameBut a s.heap s'.heap ∧ (a = X.env.locals ∨ X.env.cells.lookup x = some a)) → Q () s') (hf : X.fn x = true ∨ X.env.scope.names.lookup x = some .local := by first | exact .inl rfl | exact .inr rfl | assumption) : wpAny M A (storeName X.env x u) Q E s := by
  obtain ⟨m, hn, hl⟩ := id I.loc
  have hcls : (X.env.scope.kind == .class || (X.env.scope.kind == .module && X.env.locals != X.env.globals)) = false := by rw [I.ok.kind]; rfl
  have hiσ : i < σ.length := by rw [I.len]; exact (List.getElem?_eq_some_iff.mp hi).1
  have cne := I.cne
  have tracked : ∀ {a : Addr} {h' : Heap}, (∃ o, s.heap.get? a = some o ∧ H a = none) → Heap.SameBut a s.heap h' → HOk X.prog X.w H h' := fun {a h'} ha hs b ob e => by
    obtain ⟨_, _, hfree⟩ := ha
    refine (I.hok b ob e).stay (fun c w' hc q => (hs.2 c ?_).trans q) (fun _ q => q) fun _ _ q => q
    rintro rfl
    rcases hc with rfl | hc
    · rw [hfree] at e; cases e
    · rw [hfree] at hc; cases hc
  rcases hx with hk | hk
  · refine wpAny_storeName_local hk hn (fun h' hn' hs => ?_) hcls
    obtain ⟨oL, _, _, hoL, _⟩ := id hn
    refine h _ ⟨I.ok, I.os, I.bare, ⟨fun b o e n hb hx => ?_, fun b o e n hb hx => ?_, I.base.free, fun b o e hx => ?_, I.base.tups, I.base.frzs, I.base.tbls⟩, ⟨_, hn', fun j y v' e1 e2 e3 => ?_⟩, fun y c e => ?_, I.free, I.freeC, fun p hp => ?_, tracked ⟨oL, hoL, I.free⟩ hs, by simpa using I.len⟩ ⟨_, hs, .inl rfl⟩
    · exact (hs.2 b (Nat.ne_of_lt (Nat.lt_of_lt_of_le (Heap.lt_size e) I.ok.above))).trans (I.base.keep b o e n hb hx)
    · obtain ⟨sl, e1⟩ := I.base.slot b o e n hb hx
      exact ⟨sl, (hs.2 b (Nat.ne_of_lt (Nat.lt_of_lt_of_le (Heap.lt_size e) I.ok.above))).trans e1⟩
    · obtain ⟨o', e1⟩ := I.base.there b o e hx
      exact ⟨o', (hs.2 b (Nat.ne_of_lt (Nat.lt_of_lt_of_le (Heap.lt_size e) I.ok.above))).trans e1⟩
    · by_cases hj : j = i
      · subst hj
        rw [hi] at e1; cases e1
        rw [List.getElem?_set_self hiσ] at e2
        cases e2
        exact ⟨u, r, .inl ⟨hk, by simp⟩⟩
      · rw [List.getElem?_set_ne (Ne.symm hj)] at e2
        obtain ⟨u', r', q⟩ := hl j y v' e1 e2 e3
        refine ⟨u', r', ?_⟩
        rcases q with ⟨k, e⟩ | ⟨k, c, e, z⟩
        · refine .inl ⟨k, ?_⟩
          have : y ≠ x := fun e => hj (nodup_ix hN e1 (e ▸ hi))
          simp [this, e]
        · exact .inr ⟨k, c, e, z.sameBut hs (cne y c e)⟩
    · obtain ⟨w', z⟩ := I.cell y c e
      exact ⟨w', z.sameBut hs (cne y c e)⟩
    · obtain ⟨e, n, ne, nf, d⟩ := I.pin p hp
      exact ⟨(hs.2 p.1 ne).trans e, n, ne, nf, d⟩
  · have hfn : X.fn x = true := by
      rcases hf with z | z
      · exact z
      · rw [z] at hk; cases hk
    obtain ⟨c, hc⟩ := I.ok.has x (.inl hk)
    obtain ⟨w', z⟩ := I.cell x c hc
    refine wpAny_storeName_cell I.ok.kind hk hc z (fun h' hc' hs => ?_)
    obtain ⟨oc, hoc, hocd⟩ := id z
    refine h { s with heap := h' } ⟨I.ok, I.os, I.bare, ⟨fun b o e n hb hx => ?_, fun b o e n hb hx => ?_, I.base.free, fun b o e hx => ?_, I.base.tups, I.base.frzs, I.base.tbls⟩, ⟨m, hn.sameBut hs (Ne.symm (cne x c hc)), fun j y v' e1 e2 e3 => ?_⟩, fun y c' e => ?_, I.free, I.freeC, fun p hp => ?_, tracked ⟨oc, hoc, I.freeC x c hc⟩ hs, by simpa using I.len⟩ ⟨c, hs, .inr hc⟩
    · exact (hs.2 b (Nat.ne_of_lt (Nat.lt_of_lt_of_le (Heap.lt_size e) (I.ok.cab x c hfn hc)))).trans (I.base.keep b o e n hb hx)
    · obtain ⟨sl, e1⟩ := I.base.slot b o e n hb hx
      exact ⟨sl, (hs.2 b (Nat.ne_of_lt (Nat.lt_of_lt_of_le (Heap.lt_size e) (I.ok.cab x c hfn hc)))).trans e1⟩
    · obtain ⟨o', e1⟩ := I.base.there b o e hx
      exact ⟨o', (hs.2 b (Nat.ne_of_lt (Nat.lt_of_lt_of_le (Heap.lt_size e) (I.ok.cab x c hfn hc)))).trans e1⟩
    · by_cases hj : j = i
      · subst hj
        rw [hi] at e1; cases e1
        rw [List.getElem?_set_self hiσ] at e2
        cases e2
        exact ⟨u, r, .inr ⟨.inl hk, c, hc, hc'⟩⟩
      · rw [List.getElem?_set_ne (Ne.symm hj)] at e2
        obtain ⟨u', r', q⟩ := hl j y v' e1 e2 e3
        refine ⟨u', r', ?_⟩
        rcases q with q | ⟨k, c', e, z'⟩
        · exact .inl q
        · refine .inr ⟨k, c', e, z'.sameBut hs ?_⟩
          rintro rfl
          exact hj (nodup_ix hN e1 (I.ok.inj _ _ _ e hc ▸ hi))
    · by_cases hcc : c' = c
      · subst hcc; exact ⟨_, hc'⟩
      · obtain ⟨w2, z2⟩ := I.cell y c' e
        exact ⟨w2, z2.sameBut hs hcc⟩
    · obtain ⟨e, n, ne, nf, d⟩ := I.pin p hp
      refine ⟨(hs.2 p.1 ?_).trans e, n, ne, nf, d⟩
      intro q
      rw [q, hoc] at e
      have q' : oc = p.2 := Option.some.inj e
      exact d w' (by rw [← q']; exact hocd)
theorem store_ok {M : Model} {A : Around} {E : Value → Shared → Prop} {i : Nat} {x : Str} {v : V} {u : Value} {Q : Unit → Shared → Prop} (I : Inv X pins σ H s) (hN : X.N.Nodup) (hi : X.N[i]? = some x) (hx : Loc X.env.scope x) (r : RelV v u)
    (h : ∀ s', Inv X pins (σ.set i (some v)) H s' → Q () s') (hf : X.fn x = true ∨ X.env.scope.names.lookup x = some .local := by first | exact .inl rfl | exact .inr rfl | assumption) : wpAny M A (storeName X.env x u) Q E s :=
  store_ok2 I hN hi hx r (fun s' I' _ => h s' I') hf
/-- behind a call or a block, the state as it is -/
theorem Inv.call' {s' : Shared} {ch : List Addr} (I : Inv X pins σ H s) (ho : s'.os = s.os) (u : Un (frs X.stack) ch H H' s.heap s'.heap) (hok : HOk X.prog X.w H' s'.heap) (hg : AllBare s'.gens)
    (hch : ∀ b ∈ ch, (b ∈ X.ex ∨ X.s₀.heap.objs.size ≤ b) ∧ b ≠ X.env.locals ∧ (∀ x c, X.env.cells.lookup x = some c → c ≠ b) ∧ ∀ p ∈ X.pn ++ pins, p.1 ≠ b) : Inv X pins σ H' s' := by
  obtain ⟨h', g', d', t', o'⟩ := s'
  have e : o' = s.os := ho
  subst e
  exact I.call (g' := g') (t' := t') (d' := d') u hok hg hch
end

/-! ### the judgements -/
/-- an exception: its class, its own dict's address (where it has one), the abstract heap behind it -/
abbrev XK := Value → Option Addr → Hp → Prop
abbrev St := List (Option V)
abbrev VK := V → Hp → Prop
/-- an expression's reading; a test's; an argument list's -/
abbrev TE := St → Hp → VK → Prop
abbrev TT := St → Hp → (Bool → Hp → Prop) → Prop
abbrev TA := St → Hp → (List V → Hp → Prop) → Prop
/-- what is wanted behind a statement -/
structure Ends where
  nx : St → Hp → Prop
  rt : VK
  bk : St → Hp → Prop := fun _ _ => False
  ct : St → Hp → Prop := fun _ _ => False
abbrev TS := Ends → St → Hp → Prop

def EP (X : Cx) (pins : List (Addr × Obj)) (σ : St) (Q : VK) (u : Value) (s' : Shared) : Prop := ∃ v H', Inv X pins σ H' s' ∧ RelV v u ∧ Q v H'
def TP (X : Cx) (pins : List (Addr × Obj)) (σ : St) (Q : Bool → Hp → Prop) (b : Bool) (s' : Shared) : Prop := ∃ H', Inv X pins σ H' s' ∧ Q b H'
def AP (X : Cx) (pins : List (Addr × Obj)) (σ : St) (Q : List V → Hp → Prop) (us : List Value) (s' : Shared) : Prop := ∃ vs H', Inv X pins σ H' s' ∧ Vals vs us ∧ Q vs H'
def SP (X : Cx) (pins : List (Addr × Obj)) (D : Ends) (f : Flow) (s' : Shared) : Prop :=
  match f with
  | .next => ∃ σ' H', Inv X pins σ' H' s' ∧ D.nx σ' H'
  | .brk => ∃ σ' H', Inv X pins σ' H' s' ∧ D.bk σ' H'
  | .cont => ∃ σ' H', Inv X pins σ' H' s' ∧ D.ct σ' H'
  | .ret u => ∃ v σ' H', Inv X pins σ' H' s' ∧ RelV v u ∧ D.rt v H'

def PE (X : Cx) (e : Expr) (t : TE) : Prop :=
  ∀ (pins : List (Addr × Obj)) (s : Shared) (σ : St) (H : Hp) (Q : VK), Inv X pins σ H s → t σ H Q → wpAny (model X.prog X.w) X.A (eval e X.env) (EP X pins σ Q) X.xe s
def PT (X : Cx) (e : Expr) (t : TT) : Prop :=
  ∀ (pins : List (Addr × Obj)) (s : Shared) (σ : St) (H : Hp) (Q : Bool → Hp → Prop), Inv X pins σ H s → t σ H Q → wpAny (model X.prog X.w) X.A (isTrue e X.env (eval e X.env)) (TP X pins σ Q) X.xe s
/-- a test whatever its 'whole' is (and, or) -/
def PW (X : Cx) (e : Expr) (t : TT) : Prop :=
  ∀ (whole : Sem Value) (pins : List (Addr × Obj)) (s : Shared) (σ : St) (H : Hp) (Q : Bool → Hp → Prop), Inv X pins σ H s → t σ H Q → wpAny (model X.prog X.w) X.A (isTrue e X.env whole) (TP X pins σ Q) X.xe s
theorem PW.pt {X : Cx} {e : Expr} {t : TT} (h : PW X e t) : PT X e t := h _
/-- an argument list (no star), from the left -/
def PA (X : Cx) (es : List Expr) (t : TA) : Prop :=
  ∀ (pos : Pos) (pins : List (Addr × Obj)) (s : Shared) (σ : St) (H : Hp) (Q : List V → Hp → Prop), Inv X pins σ H s → t σ H Q → wpAny (model X.prog X.w) X.A (spliced (backTo pos (starEach es X.env))) (AP X pins σ Q) X.xe s
def PS (X : Cx) (st : Stmt) (t : TS) : Prop :=
  ∀ (pins : List (Addr × Obj)) (s : Shared) (σ : St) (H : Hp) (D : Ends), Inv X pins σ H s → t D σ H → wpAny (model X.prog X.w) X.A (exec st X.env) (SP X pins D) X.xe s
def PSs (X : Cx) (st : List Stmt) (t : TS) : Prop :=
  ∀ (pins : List (Addr × Obj)) (s : Shared) (σ : St) (H : Hp) (D : Ends), Inv X pins σ H s → t D σ H → wpAny (model X.prog X.w) X.A (execs st X.env) (SP X pins D) X.xe s
/-- weaken the end -/
theorem thn {α : Type} {t : Sem α} {Q Q' : α → Shared → Prop} {M : Model} {A : Around} {E : Value → Shared → Prop} {s : Shared} (h : wpAny M A t Q E s) (hQ : ∀ a s, Q a s → Q' a s) : wpAny M A t Q' E s := wpAny_mono h hQ fun _ _ x => x
end L2

namespace L2
open PySem PySem.Spec PyProof.Rows
section
variable {X : Cx}

/-! ### names and constants -/
def tVar (i : Nat) : TE := fun σ H Q => ∃ v, σ[i]? = some (some v) ∧ Q v H
def tC (v : V) : TE := fun _ H Q => Q v H
theorem pe_var {i : Nat} {x : Str} {pos : Pos} (hN : X.N[i]? = some x) (hv : Vis X.env.scope x) (hd : (x == ("__debug__" : Str)) = false := by decide) (hcd : (x == ("__classdict__" : Str)) = false := by decide) : PE X (.Name x pos) (tVar i) := by
  intro pins s σ H Q I h
  obtain ⟨v, e, h⟩ := h
  obtain ⟨m, hn, hl⟩ := I.loc
  obtain ⟨u, r, l⟩ := hl i x v hN e hv
  have fin : EP X pins σ Q u s := ⟨v, H, I, r, h⟩
  rcases l with ⟨hk, hm⟩ | ⟨hk, c, hc, hcell⟩
  · exact wpAny_Name (wpAny_loadName_local I.ok.kind hk hn hm fin) hd
  · rcases hk with hk | hk
    · exact wpAny_Name (wpAny_loadName_cell I.ok.kind hk hc hcell fin) hd
    · exact wpAny_Name (wpAny_loadName_free I.ok.kind hk hc hcell fin hcd) hd
theorem pe_int {i j pos} : PE X (.Constant (.int i) j pos) (tC (.int i)) := fun _ _ _ H _ I h => wpAny_Constant_int ⟨.int i, H, I.tok _, ⟨_, rfl⟩, h⟩
theorem pe_bl {b j pos} : PE X (.Constant (.bool b) j pos) (tC (.bl b)) := fun _ _ _ H _ I h => Constant_bool ⟨.bl b, H, I, rfl, h⟩
theorem pe_non {j pos} : PE X (.Constant .none j pos) (tC .non) := fun _ _ _ H _ I h => Constant_none ⟨.non, H, I, rfl, h⟩
theorem pe_str {x j pos} : PE X (.Constant (.str x) j pos) (tC (.str x)) := fun _ _ _ H _ I h => Calls.Constant_str ⟨.str x, H, I.tok _, ⟨_, rfl⟩, h⟩

/-- a global name of the def -/
def Gl (X : Cx) (x : Str) : Prop := X.env.kindOf x = some .globalImplicit
theorem ld_glob {E : Value → Shared → Prop} {pins : List (Addr × Obj)} {s : Shared} {σ : St} {H : Hp} {x : Str} {u : Value} {pos : Pos} {Q : Value → Shared → Prop} (I : Inv X pins σ H s) (hg : Gl X x) (hm : X.mg x = some u) (h : Q u s)
    (hd : (x == ("__debug__" : Str)) = false := by decide) : wpAny (model X.prog X.w) X.A (eval (.Name x pos) X.env) Q E s :=
  Calls.Name_function_global I.ok.kind hg (Calls.loadGlobal_global (by rw [I.ok.glob]; exact I.mod.glob.keeps I.bk) hm h) hd
theorem ld_blt {E : Value → Shared → Prop} {pins : List (Addr × Obj)} {s : Shared} {σ : St} {H : Hp} {x : Str} {u : Value} {pos : Pos} {Q : Value → Shared → Prop} (I : Inv X pins σ H s) (hg : Gl X x) (hm : X.mg x = none) (hv : bootBuiltins x = some u) (h : Q u s)
    (hn : x ≠ "__name__" := by decide) (hd : (x == ("__debug__" : Str)) = false := by decide) : wpAny (model X.prog X.w) X.A (eval (.Name x pos) X.env) Q E s := by
  obtain ⟨mb, h1, h2⟩ := I.mod.blt
  exact Calls.Name_function_global I.ok.kind hg (Calls.loadGlobal_builtin (by rw [I.ok.glob]; exact I.mod.glob.keeps I.bk) hm (by rw [I.ok.blt]; exact h1.keeps I.bk) ((h2 x hn).trans hv) h) hd
/-- a module's constant, a class, a function, as a value -/
theorem pe_glob {x : Str} {v : V} {u : Value} {pos : Pos} (hg : Gl X x) (hm : X.mg x = some u) (r : RelV v u) (hd : (x == ("__debug__" : Str)) = false := by decide) : PE X (.Name x pos) (tC v) :=
  fun _ _ _ H _ I h => ld_glob I hg hm ⟨v, H, I, r, h⟩ hd
theorem pe_bltn {x : Str} {v : V} {u : Value} {pos : Pos} (hg : Gl X x) (hm : X.mg x = none) (hv : bootBuiltins x = some u) (r : RelV v u) (hn : x ≠ "__name__" := by decide) (hd : (x == ("__debug__" : Str)) = false := by decide) : PE X (.Name x pos) (tC v) :=
  fun _ _ _ H _ I h => ld_blt I hg hm hv ⟨v, H, I, r, h⟩ hn hd

/-! ### arithmetic -/
variable {a b : Expr} {ta tb : TE} {pos : Pos}
/-! ### comparisons -/
/-- a comparison as a value, as a test -/
def tB (t : TE) : TT := fun σ H Q => t σ H fun x H1 => ∃ c, x = .bl c ∧ Q c H1
/-- an expression whose value is a bool, as a test -/
theorem pt_val {e : Expr} {t : TE} (h : PE X e t) (he : ∀ whole, isTrue e X.env whole = (do let v ← whole; standAt e.pos; holding [v] (truthy v)) := by intro _; rfl) : PT X e (tB t) := by
  intro pins s σ H Q I hw
  refine isTrue_plain (thn (h pins s σ H _ I hw) fun v s1 ⟨x, H1, I1, r1, q1⟩ => ?_) (he _)
  obtain ⟨d, rfl, q⟩ := q1
  cases r1
  exact wpAny_truthy_bool ⟨H1, I1, q⟩

/-! ### and, or, not -/
variable {tA tB' : TT} {rest : List Expr}
def tAnd (t u : TT) : TT := fun σ H Q => t σ H fun c H1 => if c = true then u σ H1 Q else Q false H1
def tOr (t u : TT) : TT := fun σ H Q => t σ H fun c H1 => if c = true then Q true H1 else u σ H1 Q
def tNot (t : TT) : TT := fun σ H Q => t σ H fun c H1 => Q (!c) H1
theorem pw_and1 (ha : PT X a tA) : PW X (.BoolOp .And [a] pos) tA := by
  intro wh pins s σ H Q I h
  refine isTrue_and (thn (ha pins s σ H Q I h) fun c s1 e => ?_)
  cases c with
  | true => exact isTrue_and_nil e
  | false => exact e
theorem pw_or1 (ha : PT X a tA) : PW X (.BoolOp .Or [a] pos) tA := by
  intro wh pins s σ H Q I h
  refine isTrue_or (thn (ha pins s σ H Q I h) fun c s1 e => ?_)
  cases c with
  | false => exact isTrue_or_nil e
  | true => exact e
theorem pw_and (ha : PT X a tA) (hb : PW X (.BoolOp .And (b :: rest) pos) tB') : PW X (.BoolOp .And (a :: b :: rest) pos) (tAnd tA tB') := by
  intro wh pins s σ H Q I h
  refine isTrue_and (thn (ha pins s σ H _ I h) fun c s1 ⟨H1, I1, q1⟩ => ?_)
  cases c with
  | true => exact hb wh pins s1 σ H1 Q I1 q1
  | false => exact ⟨H1, I1, q1⟩
theorem pw_or (ha : PT X a tA) (hb : PW X (.BoolOp .Or (b :: rest) pos) tB') : PW X (.BoolOp .Or (a :: b :: rest) pos) (tOr tA tB') := by
  intro wh pins s σ H Q I h
  refine isTrue_or (thn (ha pins s σ H _ I h) fun c s1 ⟨H1, I1, q1⟩ => ?_)
  cases c with
  | true => exact ⟨H1, I1, q1⟩
  | false => exact hb wh pins s1 σ H1 Q I1 q1
theorem pt_not (ha : PT X a tA) : PT X (.UnaryOp .Not a pos) (tNot tA) := by
  intro pins s σ H Q I h
  exact isTrue_not (ha pins s σ H (fun c H1 => Q (!c) H1) I h)
def tOrV (ta tb : TE) : TE := fun σ H Q => ta σ H fun x H1 => ∃ c, x = .bl c ∧ if c = true then Q (.bl true) H1 else tb σ H1 Q
theorem pe_one {op} {t : TE} (h : PE X a t) : PE X (.BoolOp op [a] pos) t := fun pins s σ H Q I hw => BoolOp_one (h pins s σ H Q I hw)
theorem pe_or (ha : PE X a ta) (hb : PE X (.BoolOp .Or (b :: rest) pos) tb) : PE X (.BoolOp .Or (a :: b :: rest) pos) (tOrV ta tb) := by
  intro pins s σ H Q I h
  refine BoolOp_or (thn (ha pins s σ H _ I h) fun v s1 ⟨x, H1, I1, r1, q1⟩ => ?_)
  obtain ⟨c, rfl, q1⟩ := q1
  cases r1
  refine wpAny_truthy_bool ?_
  cases c with
  | false => exact hb pins s1 σ H1 Q I1 q1
  | true => exact ⟨.bl true, H1, I1, rfl, q1⟩
end
end L2

namespace L2
open PySem PySem.Spec PyProof.Rows

/-! ### a list, a tuple that is read: tracked, frozen, or an object of the module -/
def SqL (K : PySem.W.Frag) (H : Hp) (a : Addr) (xs : List V) : Prop :=
  Rd H a (.lst xs) ∨
    ∃ (o : Obj) (its : Array Value) (n : Nat), K.lookup a = some o ∧ o.cls = .type "list" ∧ o.dict = none ∧ o.data = .seq its n ∧ its.size ≤ sizeLine ∧ Vals xs its.toList
def SqT (K : PySem.W.Frag) (H : Hp) (a : Addr) (xs : List V) : Prop :=
  Rd H a (.tup xs) ∨
    ∃ (o : Obj) (its : Array Value) (n : Nat), K.lookup a = some o ∧ o.cls = .type "tuple" ∧ o.data = .seq its n ∧ its.size ≤ sizeLine ∧ Vals xs its.toList
def absV : Value → Option V
  | .none => some .non
  | .bool b => some (.bl b)
  | .int i _ => some (.int i)
  | .str x _ => some (.str x)
  | .bytes b _ => some (.byt b)
  | .float b _ => some (.flt b)
  | .ref a => some (.ref a)
  | .type n => some (.ty n)
  | _ => none
theorem RelV.abs {x : V} {u : Value} (r : RelV x u) : absV u = some x := by
  cases x with
  | non => cases r; rfl
  | bl _ => cases r; rfl
  | int _ => obtain ⟨t, rfl⟩ := r; rfl
  | str _ => obtain ⟨t, rfl⟩ := r; rfl
  | byt _ => obtain ⟨t, rfl⟩ := r; rfl
  | flt _ => obtain ⟨t, rfl⟩ := r; rfl
  | ref _ => cases r; rfl
  | ty _ => cases r; rfl
theorem RelV.inj {x y : V} {u : Value} (r : RelV x u) (q : RelV y u) : x = y := Option.some.inj (r.abs.symm.trans q.abs)
theorem Vals.inj : ∀ {xs ys : List V} {us : List Value}, Vals xs us → Vals ys us → xs = ys
  | _, _, _, .nil, .nil => rfl
  | _, _, _, .cons r t, .cons r' t' => by rw [r.inj r', Vals.inj t t']
section
variable {X : Cx} {pins : List (Addr × Obj)} {σ : St} {H : Hp} {s : Shared} {a : Addr} {xs ys : List V}
theorem SqL.of {K : PySem.W.Frag} (h : H a = some (.lst xs)) : SqL K H a xs := .inl (.inl h)
theorem SqT.of {K : PySem.W.Frag} (h : H a = some (.tup xs)) : SqT K H a xs := .inl (.inl h)
theorem Inv.list (I : Inv X pins σ H s) (h : SqL X.K H a xs) : ∃ its : List Value, Vals xs its ∧ PlainL s.heap a its.toArray ∧ xs.length ≤ sizeLine := by
  rcases h with h | ⟨o, its, n, hk, hc, hd, hs, hz, r⟩
  · obtain ⟨z, its, n, r, e⟩ := h.ok I.hok
    exact ⟨its, r, ⟨_, n, e, rfl, rfl, rfl⟩, z⟩
  · refine ⟨its.toList, r, ⟨o, n, I.kIn a o hk, hc, hd, by simpa using hs⟩, ?_⟩
    have e := r.length
    simp only [Array.length_toList] at e
    omega
theorem Inv.tuple (I : Inv X pins σ H s) (h : SqT X.K H a xs) : ∃ its : List Value, Vals xs its ∧ IsTup s.heap a its.toArray ∧ xs.length ≤ sizeLine := by
  rcases h with h | ⟨o, its, n, hk, hc, hs, hz, r⟩
  · obtain ⟨z, its, r, p⟩ := h.ok I.hok
    exact ⟨its, r, p, z⟩
  · refine ⟨its.toList, r, ⟨o, I.kIn a o hk, hc, n, by simpa using hs⟩, ?_⟩
    have e := r.length
    simp only [Array.length_toList] at e
    omega
theorem Inv.list_inj (I : Inv X pins σ H s) (h : SqL X.K H a xs) (h' : SqL X.K H a ys) : xs = ys := by
  obtain ⟨its, r, ⟨o, n, e, _, _, d⟩, _⟩ := I.list h
  obtain ⟨its', r', ⟨o', n', e', _, _, d'⟩, _⟩ := I.list h'
  rw [e] at e'; cases e'
  rw [d] at d'
  injection d' with d1 _
  have : its = its' := by simpa using congrArg Array.toList d1
  subst this
  exact r.inj r'
end

/-! ### another wish about exceptions -/
abbrev Cx.wish (X : Cx) (E : Value → Shared → Prop) : Cx := { X with xe := E }
/-- no exception leaves -/
abbrev Cx.nox (X : Cx) : Cx := X.wish fun _ _ => False
theorem Cx.Ok.wish {X : Cx} (ok : X.Ok) (E : Value → Shared → Prop) : (X.wish E).Ok :=
  ⟨ok.mod, ok.kind, ok.glob, ok.blt, ok.above, ok.inj, ok.has, ok.cab, ok.hd, ok.frames, ok.stk, ok.exf, ok.bs, ok.bsz, ok.noex, ok.exfs, ok.funs, ok.frf⟩
theorem Cx.Ok.unwish {X : Cx} {E : Value → Shared → Prop} (ok : (X.wish E).Ok) : X.Ok :=
  ⟨ok.mod, ok.kind, ok.glob, ok.blt, ok.above, ok.inj, ok.has, ok.cab, ok.hd, ok.frames, ok.stk, ok.exf, ok.bs, ok.bsz, ok.noex, ok.exfs, ok.funs, ok.frf⟩
section
variable {X : Cx} {pins : List (Addr × Obj)} {σ : St} {H : Hp} {s : Shared} {E : Value → Shared → Prop}
theorem Inv.wish (I : Inv X pins σ H s) (E : Value → Shared → Prop) : Inv (X.wish E) pins σ H s := ⟨I.ok.wish E, I.os, I.bare, I.base, I.loc, I.cell, I.free, I.freeC, I.pin, I.hok, I.len⟩
theorem Inv.unwish (I : Inv (X.wish E) pins σ H s) : Inv X pins σ H s := ⟨I.ok.unwish, I.os, I.bare, I.base, I.loc, I.cell, I.free, I.freeC, I.pin, I.hok, I.len⟩
theorem SP.unwish {D : Ends} {f : Flow} {s' : Shared} (h : SP (X.wish E) pins D f s') : SP X pins D f s' := by
  cases f with
  | next => obtain ⟨σ', H', I, q⟩ := h; exact ⟨σ', H', I.unwish, q⟩
  | brk => obtain ⟨σ', H', I, q⟩ := h; exact ⟨σ', H', I.unwish, q⟩
  | cont => obtain ⟨σ', H', I, q⟩ := h; exact ⟨σ', H', I.unwish, q⟩
  | ret u => obtain ⟨v, σ', H', I, r, q⟩ := h; exact ⟨v, σ', H', I.unwish, r, q⟩
theorem PSs.nox {st : List Stmt} {t : TS} (h : PSs X.nox st t) : PSs X st t := fun pins s σ H D I hw =>
  wpAny_mono (h pins s σ H D (I.wish _) hw) (fun _ _ q => q.unwish) fun _ _ z => False.elim z
end

/-! ### blocks and small statements -/
section
variable {X : Cx} {st : Stmt} {rest : List Stmt} {t u : TS} {e : Expr} {te : TE} {pos : Pos}
def tNext : TS := fun D σ H => D.nx σ H
def tSeq (t u : TS) : TS := fun D σ H => t { D with nx := u D } σ H
theorem pss_nil : PSs X [] tNext := fun _ _ σ H _ I h => wpAny_execs_nil ⟨σ, H, I, h⟩
theorem pss_cons (h1 : PS X st t) (h2 : PSs X rest u) : PSs X (st :: rest) (tSeq t u) := by
  intro pins s σ H D I h
  refine wpAny_execs_cons (thn (h1 pins s σ H { D with nx := u D } I h) fun f s1 q => ?_)
  cases f with
  | next =>
    obtain ⟨σ', H', I', q⟩ := q
    exact h2 pins s1 σ' H' D I' q
  | ret v => exact q
  | brk => exact q
  | cont => exact q
theorem pss_one (h1 : PS X st t) : PSs X [st] t := by
  intro pins s σ H D I h
  refine wpAny_execs_cons (thn (h1 pins s σ H D I h) fun f s1 q => ?_)
  cases f with
  | next => exact wpAny_execs_nil q
  | ret v => exact q
  | brk => exact q
  | cont => exact q
/-- in a def's body nothing is shown -/
theorem Inv.quiet {pins : List (Addr × Obj)} {σ : St} {H : Hp} {s : Shared} (I : Inv X pins σ H s) : interactive X.env = false := by simp [interactive, I.ok.kind]
/-- an expression whose value is dropped -/
def tDrop (te : TE) : TS := fun D σ H => te σ H fun _ H1 => D.nx σ H1
theorem ps_expr (he : PE X e te) (hs : swapsWith e none pos.line X.env = pure false := by rfl) : PS X (.Expr e pos) (tDrop te) := by
  intro pins s σ H D I h
  exact wpAny_Expr_any (thn (he pins s σ H _ I h) fun v s1 ⟨x, H1, I1, r1, q1⟩ => ⟨σ, H1, I1, q1⟩) I.quiet hs
def tRet (te : TE) : TS := fun D σ H => te σ H D.rt
theorem ps_ret (he : PE X e te) : PS X (.Return (some e) pos) (tRet te) := by
  intro pins s σ H D I h
  exact wpAny_Return_some (thn (he pins s σ H _ I h) fun v s1 ⟨x, H1, I1, r1, q1⟩ => ⟨x, σ, H1, I1, r1, q1⟩)
def tIfS (c : TT) (t u : TS) : TS := fun D σ H => c σ H fun b H1 => if b = true then t D σ H1 else u D σ H1
theorem ps_if {c : Expr} {a b : List Stmt} {tc : TT} (hc : PT X c tc) (ha : PSs X a t) (hb : PSs X b u) : PS X (.If c a b pos) (tIfS tc t u) := by
  intro pins s σ H D I h
  refine wpAny_If (thn (hc pins s σ H _ I h) fun d s1 ⟨H1, I1, q1⟩ => ?_)
  cases d with
  | true => exact ha pins s1 σ H1 D I1 q1
  | false => exact hb pins s1 σ H1 D I1 q1
/-- code that the proof never comes to -/
def tNever : TS := fun _ _ _ => False
theorem ps_never : PS X st tNever := fun _ _ _ _ _ _ h => h.elim
theorem pss_never {sts : List Stmt} : PSs X sts tNever := fun _ _ _ _ _ _ h => h.elim
end

/-! ### targets -/
abbrev TG := V → St → Hp → (St → Hp → Prop) → Prop
abbrev TGs := List V → St → Hp → (St → Hp → Prop) → Prop
def PG (X : Cx) (target : Expr) (t : TG) : Prop :=
  ∀ (pins : List (Addr × Obj)) (s : Shared) (σ : St) (H : Hp) (v : V) (u : Value) (Q : St → Hp → Prop), Inv X pins σ H s → RelV v u → t v σ H Q →
    wpAny (model X.prog X.w) X.A (assign target X.env u) (fun _ s' => ∃ σ' H', Inv X pins σ' H' s' ∧ Q σ' H') X.xe s
/-- several targets, one after another -/
def PGs (X : Cx) (ts : List Expr) (t : TGs) : Prop :=
  ∀ (pins : List (Addr × Obj)) (s : Shared) (σ : St) (H : Hp) (vs : List V) (us : List Value) (Q : St → Hp → Prop), Inv X pins σ H s → Vals vs us → t vs σ H Q →
    wpAny (model X.prog X.w) X.A (assignInOrder ((assignEach ts X.env).map (·.2)) us) (fun _ s' => ∃ σ' H', Inv X pins σ' H' s' ∧ Q σ' H') X.xe s
/-- o[i] = v, by values -/
abbrev TSet := V → V → V → Hp → (Hp → Prop) → Prop
def PSet (X : Cx) (t : TSet) : Prop :=
  ∀ (pins : List (Addr × Obj)) (s : Shared) (σ : St) (H : Hp) (o i v : V) (ov iv u : Value) (Q : Hp → Prop), Inv X pins σ H s → RelV o ov → RelV i iv → RelV v u → t o i v H Q →
    wpAny (model X.prog X.w) X.A (setItem ov iv u) (fun _ s' => ∃ H', Inv X pins σ H' s' ∧ Q H') X.xe s
section
variable {X : Cx} {pos : Pos}
def gName (i : Nat) : TG := fun v σ H Q => Q (σ.set i (some v)) H
theorem pg_name {i : Nat} {x : Str} (hN : X.N.Nodup) (hi : X.N[i]? = some x) (hx : Loc X.env.scope x) (hf : X.fn x = true ∨ X.env.scope.names.lookup x = some .local := by first | exact .inl rfl | exact .inr rfl | assumption) : PG X (.Name x pos) (gName i) := by
  intro pins s σ H v u Q I r h
  exact wpAny_assign_Name (store_ok I hN hi hx r (fun s' I' => ⟨_, H, I', h⟩) hf)
def gNil : TGs := fun vs σ H Q => vs = [] ∧ Q σ H
def gCons (t : TG) (u : TGs) : TGs := fun vs σ H Q => ∃ v r, vs = v :: r ∧ t v σ H fun σ' H' => u r σ' H' Q
theorem pgs_nil : PGs X [] gNil := by
  intro pins s σ H vs us Q I r h
  obtain ⟨e, h⟩ := h
  subst e
  cases r
  exact assignInOrder_nil ⟨σ, H, I, h⟩
theorem pgs_cons {e : Expr} {es : List Expr} {t : TG} {u : TGs} (h1 : PG X e t) (h2 : PGs X es u)
    (hs : (assignEach (e :: es) X.env).map (·.2) = assign e X.env :: (assignEach es X.env).map (·.2) := by rfl) : PGs X (e :: es) (gCons t u) := by
  intro pins s σ H vs us Q I r h
  obtain ⟨v, vr, e1, h⟩ := h
  subst e1
  cases r with
  | cons r rr =>
    rw [hs]
    refine assignInOrder_cons (thn (h1 pins s σ H _ _ _ I r h) fun _ s1 ⟨σ1, H1, I1, q1⟩ => ?_)
    exact h2 pins s1 σ1 H1 _ _ Q I1 rr q1
/-- (a, b, ..) = a tuple of that length -/
def gTup (K : PySem.W.Frag) (n : Nat) (t : TGs) : TG := fun v σ H Q => ∃ a xs, v = .ref a ∧ SqT K H a xs ∧ xs.length = n ∧ t xs σ H Q
theorem pg_tup {es : List Expr} {k : Nat} {t : TGs} {n : Nat} (hc : X.calm = true) (h : PGs X es t)
    (hn : (assignEach es X.env).length = n := by rfl) (hst : (assignEach es X.env).findIdx? (·.1) = none := by rfl) : PG X (.Tuple es k pos) (gTup X.K n t) := by
  intro pins s σ H v u Q I r hw
  obtain ⟨a, xs, e1, hq, hl, hw⟩ := hw
  subst e1
  cases r
  obtain ⟨its, rv, ht, hz⟩ := I.tuple hq
  refine assign_Tuple_tuple (I.ok.hd hc) ht (by simp [hn, ← hl, rv.length]) hst fun h' hx => ?_
  have I1 : Inv X pins σ H { s with heap := h' } := I.kept (t' := s.toks) fun b o e => hx b o (Nat.ne_of_lt (Heap.lt_size e)) e
  exact h pins _ σ H xs _ Q I1 (by simpa using rv) hw
/-- o[i] = .. -/
def gSub (to ti : TE) (t : TSet) : TG := fun v σ H Q => to σ H fun o H1 => ti σ H1 fun i H2 => t o i v H2 fun H3 => Q σ H3
theorem pg_sub {o i : Expr} {to ti : TE} {t : TSet} (ho : PE X o to) (hi : PE X i ti) (hs : PSet X t)
    (ha : ∀ v, assign (.Subscript o i pos) X.env v = (do
      let ov ← holding [v] (eval o X.env)
      let iv ← holding [v, ov] (eval i X.env)
      standAt pos
      holding [v, ov, iv] (setItem ov iv v)
      release [v, ov, iv] []) := by intro _; rfl) : PG X (.Subscript o i pos) (gSub to ti t) := by
  intro pins s σ H v u Q I r h
  rw [ha]
  refine wpAny_bind (wpAny_holding (thn (ho pins s σ H _ I h) fun ov s1 ⟨x, H1, I1, r1, q1⟩ => ?_))
  refine wpAny_bind (wpAny_holding (thn (hi pins s1 σ H1 _ I1 q1) fun iv s2 ⟨y, H2, I2, r2, q2⟩ => ?_))
  refine wpAny_bind (wpAny_standAt (wpAny_bind (wpAny_holding (thn (hs pins s2 σ H2 x y v ov iv u _ I2 r1 r2 r q2) fun _ s3 ⟨H3, I3, q3⟩ => ?_))))
  exact wpAny_release ⟨σ, H3, I3, q3⟩
/-- target = value -/
def tAsg (te : TE) (g : TG) : TS := fun D σ H => te σ H fun x H1 => g x σ H1 D.nx
theorem ps_asg {tg e : Expr} {te : TE} {g : TG} (he : PE X e te) (hg : PG X tg g) (hs : swapsWithSole [tg] e pos.line X.env = pure false := by rfl) (hw : swappedStores [tg] e X.env = pure none := by rfl)
    (h1 : (assignEach [tg] X.env).map (·.2) = [assign tg X.env] := by rfl) : PS X (.Assign [tg] e pos) (tAsg te g) := by
  intro pins s σ H D I h
  refine wpAny_Assign_stores (thn (he pins s σ H _ I h) fun v s1 ⟨x, H1, I1, r1, q1⟩ => ?_) hs hw
  rw [h1]
  exact thn (hg pins s1 σ H1 x v _ I1 r1 q1) fun _ s2 q => q
/-- name = value -/
theorem ps_set {i : Nat} {x : Str} {e : Expr} {te : TE} {pos' : Pos} (hN : X.N.Nodup) (hi : X.N[i]? = some x) (hx : Loc X.env.scope x) (he : PE X e te) (hs : swapsWith e (some (.Name x pos')) pos.line X.env = pure false := by rfl) (hf : X.fn x = true ∨ X.env.scope.names.lookup x = some .local := by first | exact .inl rfl | exact .inr rfl | assumption) :
    PS X (.Assign [.Name x pos'] e pos) (tAsg te (gName i)) := by
  intro pins s σ H D I h
  refine wpAny_Assign_Name (thn (he pins s σ H _ I h) fun v s1 ⟨y, H1, I1, r1, q1⟩ => ?_) hs
  exact store_ok I1 hN hi hx r1 (fun s2 I2 => ⟨_, H1, I2, q1⟩) hf
end

/-! ### while -/
section
variable {X : Cx} {pos : Pos}
/-- the invariant W with its measure -/
def tWhile (c : TT) (tb : TS) : TS := fun D σ H => ∃ W : Nat → St → Hp → Prop, (∃ m, W m σ H) ∧ ∀ m σ H, W m σ H →
  c σ H fun b H1 => if b = true then ∃ N : St → Hp → Prop, (∀ σ' H', N σ' H' → ∃ m', m' < m ∧ W m' σ' H') ∧ tb { D with nx := N, ct := N, bk := D.nx } σ H1 else D.nx σ H1
theorem ps_while {c : Expr} {body : List Stmt} {tc : TT} {tb : TS} (hp : PassesOwn (model X.prog X.w) X.A X.env X.xe) (hc : PT X c tc) (hb : PSs X body tb) : PS X (.While c body [] pos) (tWhile tc tb) := by
  intro pins s σ H D I h
  obtain ⟨W, ⟨m0, w0⟩, turn⟩ := h
  refine wpAny_While (codeAny_whileLoop (fun n s' => ∃ σ' H', Inv X pins σ' H' s' ∧ W n σ' H') ?_ m0 ⟨σ, H, I, w0⟩)
  rintro n s1 ⟨σ1, H1, I1, w1⟩
  refine wpAny_passesOwn hp (thn (hc pins s1 σ1 H1 _ I1 (turn n σ1 H1 w1)) fun b s2 ⟨H2, I2, q2⟩ => ?_)
  cases b with
  | true =>
    obtain ⟨N, hN, q2⟩ := q2
    rw [if_pos rfl]
    refine wpAny_passesOwn hp (thn (hb pins s2 σ1 H2 _ I2 q2) fun f s3 q3 => ?_)
    cases f with
    | next =>
      obtain ⟨σ3, H3, I3, n3⟩ := q3
      obtain ⟨m', hm, w3⟩ := hN σ3 H3 n3
      exact ⟨m', hm, σ3, H3, I3, w3⟩
    | cont =>
      obtain ⟨σ3, H3, I3, n3⟩ := q3
      obtain ⟨m', hm, w3⟩ := hN σ3 H3 n3
      exact ⟨m', hm, σ3, H3, I3, w3⟩
    | brk => exact q3
    | ret v => exact q3
  | false =>
    rw [if_neg Bool.false_ne_true]
    exact wpAny_execs_nil ⟨σ1, H2, I2, q2⟩
end

/-! ### what a loop or a comprehension walks -/
/-- at turn i: it yields x (the heap may grow), or it stops -/
structure It where
  go : Nat → Hp → Prop
  yld : Nat → Hp → V → Hp → Prop
  stop : Nat → Hp → Prop
/-- the iterator's own objects may turn: they are not the frame's, not pinned, younger than the entry (or a comprehension's own) -/
def FpOk (X : Cx) (pins : List (Addr × Obj)) (H : Hp) (b : Addr) : Prop :=
  H b = none ∧ b ≠ X.env.locals ∧ b ∉ X.fs ∧ (b ∈ X.ex ∨ X.s₀.heap.objs.size ≤ b) ∧ (∀ x c, X.env.cells.lookup x = some c → c ≠ b) ∧ ∀ p ∈ X.pn ++ pins, p.1 ≠ b
theorem Inv.fpOk {X : Cx} {pins : List (Addr × Obj)} {σ : St} {H H' : Hp} {s : Shared} {b : Addr} (I : Inv X pins σ H s) (hb : s.heap.objs.size ≤ b) (hn : H' b = none) : FpOk X pins H' b := by
  refine ⟨hn, Nat.ne_of_gt (Nat.lt_of_lt_of_le I.lt hb), I.nofs hb, .inr (Nat.le_trans I.sz hb), fun x c e z => ?_, fun p hp z => ?_⟩
  · obtain ⟨v, q⟩ := I.cell x c e
    exact absurd (Nat.lt_of_lt_of_le q.lt (by rw [z]; exact hb)) (Nat.lt_irrefl _)
  · exact absurd (Nat.lt_of_lt_of_le (Heap.lt_size (I.pin p hp).1) (by rw [z]; exact hb)) (Nat.lt_irrefl _)
structure Turn (P : Program) (w : World) (K : PySem.W.Frag) (tg : Expr) (J : It) (fp : List Addr) (it : Addr) (tn : Nat → Heap → Prop) : Prop where
  mem : it ∈ fp
  obj : ∀ i h, tn i h → ∀ b ∈ fp, ∃ o, h.get? b = some o ∧ ∀ v, o.data ≠ .cell v
  keep : ∀ i h h', tn i h → (∀ b ∈ fp, ∀ o, h.get? b = some o → h'.get? b = some o) → tn i h'
  item : ∀ (X : Cx), X.prog = P → X.w = w → X.K = K → X.calm = true → ∀ (i : Nat) (pins : List (Addr × Obj)) (s : Shared) (σ : St) (H : Hp) (E : Value → Shared → Prop), Inv X pins σ H s → (∀ b ∈ fp, FpOk X pins H b) → tn i s.heap → J.go i H →
    wpAny (model P w) X.A (pyNext (.ref it)) (fun r s1 => ∃ u, r = some u ∧
      wpAny (model P w) X.A (letOwnedTupleGo tg (.ref it) u) (fun _ s2 => ∃ x H', Inv X pins σ H' s2 ∧ RelV x u ∧ J.yld i H x H' ∧ tn (i + 1) s2.heap ∧ ∀ b ∈ fp, H' b = none) E s1) E s
  done : ∀ (X : Cx), X.prog = P → X.w = w → X.K = K → X.calm = true → ∀ (i : Nat) (pins : List (Addr × Obj)) (s : Shared) (σ : St) (H : Hp) (E : Value → Shared → Prop), Inv X pins σ H s → (∀ b ∈ fp, FpOk X pins H b) → tn i s.heap → J.stop i H →
    wpAny (model P w) X.A (pyNext (.ref it)) (fun r s1 => r = none ∧ Inv X pins σ H s1) E s
  self : ∀ (A : Around) (i : Nat) (s : Shared) (Q : Value → Shared → Prop) (E : Value → Shared → Prop), tn i s.heap → Q (.ref it) s → wpAny (model P w) A (pyIter (.ref it)) Q E s
abbrev TI := St → Hp → (It → Hp → Prop) → Prop
/-- an iterator has come -/
def PIE (X : Cx) (pins : List (Addr × Obj)) (σ : St) (tg : Expr) (R : It → Hp → Prop) (itv : Value) (s2 : Shared) : Prop :=
  ∃ (it : Addr) (fp : List Addr) (tn : Nat → Heap → Prop) (J : It) (H' : Hp), itv = .ref it ∧ Inv X pins σ H' s2 ∧ Turn X.prog X.w X.K tg J fp it tn ∧ tn 0 s2.heap ∧ (∀ b ∈ fp, FpOk X pins H' b) ∧ R J H'
def PI (X : Cx) (tg iter : Expr) (wi : TI) : Prop :=
  ∀ (pins : List (Addr × Obj)) (s : Shared) (σ : St) (H : Hp) (R : It → Hp → Prop), Inv X pins σ H s → wi σ H R →
    wpAny (model X.prog X.w) X.A (eval iter X.env) (fun v s1 => wpAny (model X.prog X.w) X.A (pyIter v) (PIE X pins σ tg R) X.xe s1) X.xe s

/-- the step ahead of the store is nothing for an iterator that keeps no tuple -/
theorem go_of {M : Model} {A : Around} {E : Value → Shared → Prop} {s : Shared} {tg : Expr} {it : Addr} {u : Value} {o : Obj} {n : String} {vs : Array Value} {Q : Unit → Shared → Prop} (ho : s.heap.get? it = some o) (hc : o.cls = .type n) (hd : o.data = .fields vs)
    (hn : ["enumerate", "zip", "dict_itemiterator", "dict_reverseitemiterator", "odict_iterator", "itertools.zip_longest", "itertools.pairwise"].contains n = false) (hQ : Q () s) : wpAny M A (letOwnedTupleGo tg (.ref it) u) Q E s := by
  unfold letOwnedTupleGo
  cases tg <;> first
    | exact wpAny_pure hQ
    | (cases u <;> first
        | exact wpAny_pure hQ
        | (refine wpAny_bind (wpAny_load ho ?_)
           rw [hc, hd]
           show wpAny M A (if (["enumerate", "zip", "dict_itemiterator", "dict_reverseitemiterator", "odict_iterator", "itertools.zip_longest", "itertools.pairwise"].contains n && vs[0]? == some (rawInt _)) = true then _ else _) Q E s
           rw [if_neg (by intro h; rw [hn, Bool.false_and] at h; cases h)]
           exact wpAny_pure hQ))

/-- the list at a, as it stands at each turn (a loop may append to it) -/
def Itl (K : PySem.W.Frag) (a : Addr) : It :=
  ⟨fun i H => ∃ xs x, SqL K H a xs ∧ xs[i]? = some x, fun i H x H' => H' = H ∧ ∀ xs, SqL K H a xs → xs[i]? = some x, fun i H => ∃ xs, SqL K H a xs ∧ xs.length ≤ i⟩
/-- lo, lo + 1, .. (n of them) -/
def Itr (lo : Int) (n : Nat) : It := ⟨fun i _ => i < n, fun i H x H' => H' = H ∧ x = .int (lo + i), fun i _ => n ≤ i⟩
theorem turn_list {P : Program} {w : World} {K : PySem.W.Frag} {tg : Expr} (a it : Addr) : Turn P w K tg (Itl K a) [it] it (fun i h => h.IsListIter it a i) where
  mem := by simp
  obj := fun i h st b hb => by
    have e : b = it := by simpa using hb
    subst e
    obtain ⟨o, e, c, d⟩ := st
    exact ⟨o, e, fun v z => by rw [d] at z; cases z⟩
  keep := fun i h h' st k => st.at fun o e => k it (by simp) o e
  item := by
    intro X hP hw hK hc i pins s σ H E I hf st hg
    subst hP hw hK
    obtain ⟨xs, x, hq, hx⟩ := hg
    obtain ⟨its, rv, p, hz⟩ := I.list hq
    obtain ⟨u, hu, ru⟩ := rv.get hx
    obtain ⟨f0, f1, f2, f3, f4, f5⟩ := hf it (by simp)
    refine wpAny_pyNext_list_item st p.isList (x := u) (by simpa using hu) fun h' st' sb => ?_
    have I1 : Inv X pins σ H { s with heap := h' } := I.turned (t' := s.toks) (fun b o hb e => (sb.2 b hb).trans e) f0 f1 f3 f4 f5
    obtain ⟨o, e, c, d⟩ := id st'
    exact ⟨u, rfl, go_of (s := { s with heap := h' }) e c d (by decide) ⟨x, H, I1, ru, ⟨rfl, fun ys hy => by rw [I.list_inj hy hq]; exact hx⟩, st', fun b hb => (hf b hb).1⟩⟩
  done := by
    intro X hP hw hK hc i pins s σ H E I hf st hg
    subst hP hw hK
    obtain ⟨xs, hq, hx⟩ := hg
    obtain ⟨its, rv, p, hz⟩ := I.list hq
    obtain ⟨f0, f1, f2, f3, f4, f5⟩ := hf it (by simp)
    have hl := rv.length
    exact wpAny_pyNext_list_end (I.ok.hd hc) st p.isList (by simp; omega) fun h' eb => ⟨rfl, I.turned (t' := s.toks) (fun b o hb e => eb b o hb e) f0 f1 f3 f4 f5⟩
  self := fun _ _ _ _ _ st h => wpAny_pyIter_listiter st h
theorem turn_range {P : Program} {w : World} {K : PySem.W.Frag} {tg : Expr} (it : Addr) (lo : Int) (n : Nat) : Turn P w K tg (Itr lo n) [it] it (fun i h => IsRangeIter h it (lo + (i : Nat) * 1) ((n : Int) - (i : Nat)) 1) where
  mem := by simp
  obj := fun i h st b hb => by
    have e : b = it := by simpa using hb
    subst e
    exact ⟨_, st, fun v z => by
      have z' : Data.fields _ = Data.cell v := z
      cases z'⟩
  keep := fun i h h' st k => k it (by simp) _ st
  item := by
    intro X hP hw hK hc i pins s σ H E I hf st hg
    subst hP hw hK
    obtain ⟨f0, f1, f2, f3, f4, f5⟩ := hf it (by simp)
    have W := Walks.range (prog := X.prog) (w := X.w) (I.ok.hd hc) it lo 1 n
    refine W.item i s _ _ hg st fun v h' tk hv st' kk => ?_
    obtain ⟨t, rfl⟩ := hv
    have I1 : Inv X pins σ H { s with heap := h', toks := tk } := I.turned (fun b o hb e => kk b o (by simpa using hb) e) f0 f1 f3 f4 f5
    refine ⟨_, rfl, go_of (s := { s with heap := h', toks := tk }) (n := "range_iterator") st' rfl rfl (by decide) ⟨.int (lo + i), H, I1, ⟨t, ?_⟩, ⟨rfl, rfl⟩, st', fun b hb => (hf b hb).1⟩⟩
    rw [Int.mul_one]
  done := by
    intro X hP hw hK hc i pins s σ H E I hf st hg
    subst hP hw hK
    obtain ⟨f0, f1, f2, f3, f4, f5⟩ := hf it (by simp)
    exact wpAny_pyNext_range_end (I.ok.hd hc) st (by have : n ≤ i := hg; omega) fun h' eb => ⟨rfl, I.turned (t' := s.toks) (fun b o hb e => eb b o hb e) f0 f1 f3 f4 f5⟩
  self := fun _ _ _ _ _ st h => wpAny_pyIter_rangeiter st h
end L2

namespace L2
open PySem PySem.Spec PyProof.Rows
section
variable {X : Cx} {tg : Expr}
def iList (K : PySem.W.Frag) (tl : TE) : TI := fun σ H R => tl σ H fun x H1 => ∃ a, x = .ref a ∧ (∃ xs, SqL K H1 a xs) ∧ R (Itl K a) H1
theorem pi_list {l : Expr} {tl : TE} (hl : PE X l tl) : PI X tg l (iList X.K tl) := by
  intro pins s σ H R I h
  refine thn (hl pins s σ H _ I h) fun v s1 ⟨x, H1, I1, r1, q1⟩ => ?_
  obtain ⟨a, e, ⟨xs, hq⟩, q⟩ := q1
  subst e
  cases r1
  obtain ⟨its, rv, p, hz⟩ := I1.list hq
  refine wpAny_pyIter_list p.isList ?_
  refine ⟨s1.heap.objs.size, [s1.heap.objs.size], _, _, H1, rfl, I1.kept (t' := s1.toks) fun b o e => Heap.get?_push_of_some _ e, turn_list a _, ⟨_, Heap.get?_push_size _ rfl, rfl, rfl⟩, fun b hb => ?_, q⟩
  have e : b = s1.heap.objs.size := by simpa using hb
  subst e
  exact I1.fpOk (Nat.le_refl _) (I1.hok.fresh (Nat.le_refl _))
/-- a range object just made, walked -/
theorem range_it {pins : List (Addr × Obj)} {σ : St} {H : Hp} {s : Shared} {R : It → Hp → Prop} {E : Value → Shared → Prop} {lo hi : Int} {t u v : Tok} {tk : Nat} (I : Inv X pins σ H s) (h1 : -(2 ^ 62) ≤ lo) (h2 : lo < 2 ^ 62) (h3 : -(2 ^ 62) ≤ hi) (h4 : hi < 2 ^ 62)
    (q : R (Itr lo (hi - lo).toNat) H) : wpAny (model X.prog X.w) X.A (pyIter (.ref s.heap.objs.size)) (PIE X pins σ tg R) E { s with heap := s.heap.push { cls := .type "range", data := .fields #[.int lo t, .int hi u, .int 1 v] }, toks := tk } := by
  refine wpAny_pyIter_range (IsRange.new ..) (small_one h1 h2 h3 h4) ?_
  have I1 : Inv X pins σ H { s with heap := s.heap.push { cls := .type "range", data := .fields #[.int lo t, .int hi u, .int 1 v] }, toks := tk } := I.kept fun b o e => Heap.get?_push_of_some _ e
  refine ⟨(s.heap.push { cls := .type "range", data := .fields #[.int lo t, .int hi u, .int 1 v] }).objs.size, [(s.heap.push { cls := .type "range", data := .fields #[.int lo t, .int hi u, .int 1 v] }).objs.size], _, _, H, rfl,
    I1.kept (t' := tk) fun b o e => Heap.get?_push_of_some _ e, turn_range _ lo (hi - lo).toNat, ?_, fun b hb => ?_, q⟩
  · have e1 : lo + ((0 : Nat) : Int) * 1 = lo := by simp
    have e2 : (((hi - lo).toNat : Nat) : Int) - ((0 : Nat) : Int) = Builtin.Range.rangeSize lo hi 1 := by rw [rangeSize_one]; split <;> omega
    show IsRangeIter _ _ (lo + ((0 : Nat) : Int) * 1) ((((hi - lo).toNat : Nat) : Int) - ((0 : Nat) : Int)) 1
    rw [e1, e2]
    exact Heap.get?_push_size _ rfl
  · have e : b = (s.heap.push { cls := .type "range", data := .fields #[.int lo t, .int hi u, .int 1 v] }).objs.size := by simpa using hb
    subst e
    exact I1.fpOk (Nat.le_refl _) (I1.hok.fresh (Nat.le_refl _))
def iRng1 (ta : TA) : TI := fun σ H R => ta σ H fun vs H1 => ∃ j : Int, vs = [.int j] ∧ -(2 ^ 62) ≤ j ∧ j < 2 ^ 62 ∧ R (Itr 0 j.toNat) H1
def iRng2 (ta : TA) : TI := fun σ H R => ta σ H fun vs H1 => ∃ i j : Int, vs = [.int i, .int j] ∧ (-(2 ^ 62) ≤ i ∧ i < 2 ^ 62 ∧ -(2 ^ 62) ≤ j ∧ j < 2 ^ 62) ∧ R (Itr i (j - i).toNat) H1
theorem pi_range1 {a : Expr} {ta : TA} {p pos : Pos} (hg : Gl X "range") (hm : X.mg "range" = none) (ha : PA X [a] ta) (hs : starEach [a] X.env = [(false, eval a X.env)] := by rfl) : PI X tg (.Call (.Name "range" p) [a] [] pos) (iRng1 ta) := by
  intro pins s σ H R I h
  refine Call_ (ld_blt I hg hm boot_range (PyProof.Rows.callWith_type1 (thn (ha pos pins s σ H _ I h) fun us s1 ⟨vs, H1, I1, r1, q1⟩ => ?_) hs rfl))
  obtain ⟨j, e, q1, q2, q⟩ := q1
  subst e
  cases r1 with
  | cons r rr =>
    cases rr
    obtain ⟨t, rfl⟩ := r
    exact call_range_1 (range_it I1 (by omega) (by omega) q1 q2 (by simpa using q))
theorem pi_range2 {a b : Expr} {ta : TA} {p pos : Pos} (hg : Gl X "range") (hm : X.mg "range" = none) (ha : PA X [a, b] ta) (hs : starEach [a, b] X.env = [(false, eval a X.env), (false, eval b X.env)] := by rfl) (hs2 : starEach [b] X.env = [(false, eval b X.env)] := by rfl) :
    PI X tg (.Call (.Name "range" p) [a, b] [] pos) (iRng2 ta) := by
  intro pins s σ H R I h
  refine Call_ (ld_blt I hg hm boot_range (PyProof.Rows.callWith_type1 (thn (ha pos pins s σ H _ I h) fun us s1 ⟨vs, H1, I1, r1, q1⟩ => ?_) (by rw [hs, hs2]) (by rw [hs2]; rfl)))
  obtain ⟨i, j, e, ⟨q1, q2, q3, q4⟩, q⟩ := q1
  subst e
  cases r1 with
  | cons r rr =>
    cases rr with
    | cons r' rr =>
      cases rr
      obtain ⟨t, rfl⟩ := r
      obtain ⟨t', rfl⟩ := r'
      exact call_range_2 (range_it I1 q1 q2 q3 q4 q)

/-! ### for -/
/-- W: the invariant by the turn and a measure; N: what the body is to reach -/
def tFor (wi : TI) (g : TG) (tb : TS) : TS := fun D σ H => wi σ H fun J H1 => ∃ W : Nat → Nat → St → Hp → Prop, (∃ m, W 0 m σ H1) ∧ ∀ i m σ H, W i m σ H →
  (J.stop i H ∧ D.nx σ H) ∨ (J.go i H ∧ ∃ N : St → Hp → Prop, (∀ σ' H', N σ' H' → ∃ m', m' < m ∧ W (i + 1) m' σ' H') ∧ ∀ x H', J.yld i H x H' → g x σ H' fun σ2 H2 => tb { D with nx := N, ct := N, bk := D.nx } σ2 H2)
/-- the records at fp as they stand -/
def pinsAt (fp : List Addr) (h : Heap) : List (Addr × Obj) := fp.filterMap fun b => (h.get? b).map fun o => (b, o)
theorem mem_pinsAt {fp : List Addr} {h : Heap} {b : Addr} {o : Obj} (hb : b ∈ fp) (e : h.get? b = some o) : (b, o) ∈ pinsAt fp h := List.mem_filterMap.mpr ⟨b, hb, by rw [e]; rfl⟩
theorem of_pinsAt {fp : List Addr} {h : Heap} {p : Addr × Obj} (hp : p ∈ pinsAt fp h) : p.1 ∈ fp ∧ h.get? p.1 = some p.2 := by
  obtain ⟨b, hb, e⟩ := List.mem_filterMap.mp hp
  cases q : h.get? b with
  | none => rw [q] at e; cases e
  | some o =>
    rw [q] at e
    have e' : (b, o) = p := Option.some.inj e
    subst e'
    exact ⟨hb, q⟩
theorem Inv.pinned {pins : List (Addr × Obj)} {σ : St} {H : Hp} {s : Shared} {fp : List Addr} (I : Inv X pins σ H s) (hf : ∀ b ∈ fp, FpOk X pins H b) (ho : ∀ b ∈ fp, ∃ o, s.heap.get? b = some o ∧ ∀ v, o.data ≠ .cell v) : Inv X (pins ++ pinsAt fp s.heap) σ H s :=
  I.pins_of fun p hp => (List.mem_append.mp hp).elim (fun z => I.pin p (List.mem_append_right _ z)) fun z => by
    obtain ⟨hb, e⟩ := of_pinsAt z
    obtain ⟨f0, f1, f2, _⟩ := hf p.1 hb
    obtain ⟨o, e', d⟩ := ho p.1 hb
    rw [e] at e'; cases e'
    exact ⟨e, f0, f1, f2, d⟩
theorem Inv.unpinned {pins pl : List (Addr × Obj)} {σ : St} {H : Hp} {s : Shared} (I : Inv X (pins ++ pl) σ H s) : Inv X pins σ H s := I.pins_of fun p hp => I.pin p (List.mem_append_right _ (List.mem_append_left _ hp))
theorem ps_for {iter : Expr} {body : List Stmt} {wi : TI} {g : TG} {tb : TS} {pos : Pos} (hp : PassesOwn (model X.prog X.w) X.A X.env X.xe) (hc : X.calm = true) (hi : PI X tg iter wi) (hg : PG X tg g) (hb : PSs X body tb)
    (hs : ∀ x, foldedSetIterable iter X.env x = pure x := by intro _; rfl) : PS X (.For tg iter body [] pos) (tFor wi g tb) := by
  intro pins s σ H D I h
  refine wpAny_For (thn (hi pins s σ H _ I h) fun v s1 h1 => thn h1 fun itv s2 h2 => ?_) hs
  obtain ⟨it, fp, tn, J, H2, e, I2, T, st2, f2, W, ⟨m0, w0⟩, turn⟩ := h2
  subst e
  -- what stays true of the iterator's objects through the loop
  have stat : ∀ {H' : Hp}, (∀ b ∈ fp, H' b = none) → ∀ b ∈ fp, FpOk X pins H' b := fun hn b hb => ⟨hn b hb, (f2 b hb).2⟩
  refine codeAny_forLoop_any (fun n s' => ∃ i σ' H', Inv X pins σ' H' s' ∧ tn i s'.heap ∧ (∀ b ∈ fp, H' b = none) ∧ W i n σ' H') ?_ m0 ⟨0, σ, H2, I2, st2, fun b hb => (f2 b hb).1, w0⟩
  rintro n s3 ⟨i, σ3, H3, I3, st3, fr3, w3⟩
  rcases turn i n σ3 H3 w3 with ⟨stop, qn⟩ | ⟨go, N, hN, step⟩
  · refine wpAny_passesOwn hp (thn (T.done X rfl rfl rfl hc i pins s3 σ3 H3 X.xe I3 (stat fr3) st3 stop) fun r s4 ⟨hr, I4⟩ => ?_)
    subst hr
    exact wpAny_execs_nil ⟨σ3, H3, I4, qn⟩
  · refine wpAny_passesOwn hp (thn (T.item X rfl rfl rfl hc i pins s3 σ3 H3 X.xe I3 (stat fr3) st3 go) fun r s4 ⟨u, hr, h4⟩ => ?_)
    subst hr
    refine wpAny_passesOwn hp (thn h4 fun _ s5 ⟨x, H5, I5, r5, y5, st5, fr5⟩ => ?_)
    have I5' := I5.pinned (stat fr5) (T.obj _ _ st5)
    refine wpAny_passesOwn hp (thn (hg _ s5 σ3 H5 x u _ I5' r5 (step x H5 y5)) fun _ s6 ⟨σ6, H6, I6, q6⟩ => ?_)
    refine wpAny_passesOwn hp (thn (hb _ s6 σ6 H6 _ I6 q6) fun f s7 q7 => ?_)
    have again : ∀ {σ7 : St} {H7 : Hp}, Inv X (pins ++ pinsAt fp s5.heap) σ7 H7 s7 → N σ7 H7 → ∃ m, m < n ∧ ∃ i σ' H', Inv X pins σ' H' s7 ∧ tn i s7.heap ∧ (∀ b ∈ fp, H' b = none) ∧ W i m σ' H' := fun {σ7 H7} I7 n7 => by
      obtain ⟨m', hm, w7⟩ := hN σ7 H7 n7
      refine ⟨m', hm, i + 1, σ7, H7, I7.unpinned, T.keep _ _ _ st5 fun b hb o e => (I7.pin (b, o) (List.mem_append_right _ (List.mem_append_right _ (mem_pinsAt hb e)))).1, fun b hb => ?_, w7⟩
      obtain ⟨o, e, d⟩ := T.obj _ _ st5 b hb
      exact (I7.pin (b, o) (List.mem_append_right _ (List.mem_append_right _ (mem_pinsAt hb e)))).2.1
    cases f with
    | next => obtain ⟨σ7, H7, I7, n7⟩ := q7; exact again I7 n7
    | cont => obtain ⟨σ7, H7, I7, n7⟩ := q7; exact again I7 n7
    | brk => obtain ⟨σ7, H7, I7, q7⟩ := q7; exact ⟨σ7, H7, I7.unpinned, q7⟩
    | ret v => obtain ⟨x7, σ7, H7, I7, r7, q7⟩ := q7; exact ⟨x7, σ7, H7, I7.unpinned, r7, q7⟩
end

/-! ### the forms one uses -/
/-- over a list that the body leaves as it is -/
theorem for_list {K : PySem.W.Frag} {a : Addr} {xs : List V} {g : TG} {tb : TS} {D : Ends} {σ : St} {H : Hp} (Pv : Nat → St → Hp → Prop) (h0 : Pv 0 σ H) (hl : ∀ i σ H, i ≤ xs.length → Pv i σ H → SqL K H a xs)
    (hs : ∀ i x σ H, xs[i]? = some x → Pv i σ H → g x σ H fun σ2 H2 => tb { D with nx := Pv (i + 1), ct := Pv (i + 1), bk := D.nx } σ2 H2) (hd : ∀ σ H, Pv xs.length σ H → D.nx σ H) :
    ∃ W : Nat → Nat → St → Hp → Prop, (∃ m, W 0 m σ H) ∧ ∀ i m σ H, W i m σ H →
      ((Itl K a).stop i H ∧ D.nx σ H) ∨ ((Itl K a).go i H ∧ ∃ N : St → Hp → Prop, (∀ σ' H', N σ' H' → ∃ m', m' < m ∧ W (i + 1) m' σ' H') ∧ ∀ x H', (Itl K a).yld i H x H' → g x σ H' fun σ2 H2 => tb { D with nx := N, ct := N, bk := D.nx } σ2 H2) := by
  refine ⟨fun i m σ H => m = xs.length - i ∧ i ≤ xs.length ∧ Pv i σ H, ⟨xs.length, by simp, Nat.zero_le _, h0⟩, ?_⟩
  rintro i m σ H ⟨rfl, hi, p⟩
  have q := hl i σ H hi p
  by_cases hlt : i < xs.length
  · refine .inr ⟨⟨xs, xs[i], q, by simp [hlt]⟩, Pv (i + 1), fun σ' H' p' => ⟨xs.length - (i + 1), by omega, rfl, hlt, p'⟩, fun x H' y => ?_⟩
    obtain ⟨e, y⟩ := y
    subst e
    exact hs i x σ _ (y xs q) p
  · have e : i = xs.length := by omega
    subst e
    exact .inl ⟨⟨xs, q, Nat.le_refl _⟩, hd σ H p⟩
theorem for_range {lo : Int} {n : Nat} {g : TG} {tb : TS} {D : Ends} {σ : St} {H : Hp} (Pv : Nat → St → Hp → Prop) (h0 : Pv 0 σ H)
    (hs : ∀ i σ H, i < n → Pv i σ H → g (.int (lo + i)) σ H fun σ2 H2 => tb { D with nx := Pv (i + 1), ct := Pv (i + 1), bk := D.nx } σ2 H2) (hd : ∀ σ H, Pv n σ H → D.nx σ H) :
    ∃ W : Nat → Nat → St → Hp → Prop, (∃ m, W 0 m σ H) ∧ ∀ i m σ H, W i m σ H →
      ((Itr lo n).stop i H ∧ D.nx σ H) ∨ ((Itr lo n).go i H ∧ ∃ N : St → Hp → Prop, (∀ σ' H', N σ' H' → ∃ m', m' < m ∧ W (i + 1) m' σ' H') ∧ ∀ x H', (Itr lo n).yld i H x H' → g x σ H' fun σ2 H2 => tb { D with nx := N, ct := N, bk := D.nx } σ2 H2) := by
  refine ⟨fun i m σ H => m = n - i ∧ i ≤ n ∧ Pv i σ H, ⟨n, by simp, Nat.zero_le _, h0⟩, ?_⟩
  rintro i m σ H ⟨rfl, hi, p⟩
  by_cases hlt : i < n
  · refine .inr ⟨hlt, Pv (i + 1), fun σ' H' p' => ⟨n - (i + 1), by omega, rfl, hlt, p'⟩, fun x H' y => ?_⟩
    obtain ⟨e, y⟩ := y
    subst e y
    exact hs i σ _ hlt p
  · have e : i = n := by omega
    subst e
    exact .inl ⟨Nat.le_refl _, hd σ H p⟩
/-- while, by a word and a measure of the state -/
theorem while_by {c : TT} {tb : TS} {D : Ends} {σ : St} {H : Hp} (Pv : St → Hp → Prop) (μ : St → Hp → Nat) (h0 : Pv σ H)
    (hs : ∀ σ H, Pv σ H → c σ H fun b H1 => if b = true then tb { D with nx := fun σ' H' => Pv σ' H' ∧ μ σ' H' < μ σ H, ct := fun σ' H' => Pv σ' H' ∧ μ σ' H' < μ σ H, bk := D.nx } σ H1 else D.nx σ H1)
    (mono : ∀ σ H Q Q', (∀ b H1, Q b H1 → Q' b H1) → c σ H Q → c σ H Q') : tWhile c tb D σ H := by
  refine ⟨fun m σ H => m = μ σ H ∧ Pv σ H, ⟨_, rfl, h0⟩, ?_⟩
  rintro m σ H ⟨rfl, p⟩
  refine mono σ H _ _ (fun b H1 q => ?_) (hs σ H p)
  cases b with
  | true => exact ⟨_, fun σ' H' ⟨p', l⟩ => ⟨_, l, rfl, p'⟩, q⟩
  | false => exact q
end L2

namespace L2
open PySem PySem.Spec PyProof.Rows

abbrev R2 := V → V → Hp → VK → Prop
/-- a two-place operation on values: f is binaryOp op, inplaceOp op or compareOp op -/
def OpR (X : Cx) (f : Value → Value → Sem Value) (r : R2) : Prop :=
  ∀ (pins : List (Addr × Obj)) (s : Shared) (σ : St) (H : Hp) (x y : V) (v u : Value) (Q : VK), Inv X pins σ H s → RelV x v → RelV y u → r x y H Q →
    wpAny (model X.prog X.w) X.A (f v u) (EP X pins σ Q) X.xe s
/-- a one-place operation -/
def UnR (X : Cx) (f : Value → Sem Value) (r : V → Hp → VK → Prop) : Prop :=
  ∀ (pins : List (Addr × Obj)) (s : Shared) (σ : St) (H : Hp) (x : V) (v : Value) (Q : VK), Inv X pins σ H s → RelV x v → r x H Q →
    wpAny (model X.prog X.w) X.A (f v) (EP X pins σ Q) X.xe s
/-- a call of a value that is known (a builtin, a type) with values -/
def CallR (X : Cx) (f : Value) (r : List V → Hp → VK → Prop) : Prop :=
  ∀ (pins : List (Addr × Obj)) (s : Shared) (σ : St) (H : Hp) (xs : List V) (us : List Value) (Q : VK), Inv X pins σ H s → Vals xs us → r xs H Q →
    wpAny (model X.prog X.w) X.A (call f us) (EP X pins σ Q) X.xe s
def tOp (r : R2) (ta tb : TE) : TE := fun σ H Q => ta σ H fun x H1 => tb σ H1 fun y H2 => r x y H2 Q
def tUn (r : V → Hp → VK → Prop) (ta : TE) : TE := fun σ H Q => ta σ H fun x H1 => r x H1 Q
/-- ints in, under C, and a value out -/
def rI (C : Int → Int → Prop) (g : Int → Int → V) : R2 := fun x y H Q => ∃ i j, x = .int i ∧ y = .int j ∧ C i j ∧ Q (g i j) H
def rI0 (g : Int → Int → V) : R2 := fun x y H Q => ∃ i j, x = .int i ∧ y = .int j ∧ Q (g i j) H
def rU (g : Int → V) : V → Hp → VK → Prop := fun x H Q => ∃ i, x = .int i ∧ Q (g i) H

section
variable {X : Cx} {a b c : Expr} {ta tb tc : TE} {pos : Pos}

theorem binT (ha : PE X a ta) (hb : PE X b tb) {pins : List (Addr × Obj)} {s : Shared} {σ : St} {H : Hp} {R : V → V → Hp → Prop} (I : Inv X pins σ H s)
    (h : ta σ H fun x H1 => tb σ H1 fun y H2 => R x y H2) {Q : Value → Shared → Prop} {f : Value → Value → Sem Value}
    (hf : ∀ v u s2 x y H2, Inv X pins σ H2 s2 → RelV x v → RelV y u → R x y H2 → wpAny (model X.prog X.w) X.A (f v u) Q X.xe s2) :
    wpAny (model X.prog X.w) X.A (eval a X.env) (fun v s₁ => wpAny (model X.prog X.w) X.A (eval b X.env) (fun u s₂ => wpAny (model X.prog X.w) X.A (f v u) Q X.xe s₂) X.xe s₁) X.xe s := by
  refine thn (ha pins s σ H _ I h) fun v s1 ⟨x, H1, I1, r1, q1⟩ => ?_
  refine thn (hb pins s1 σ H1 _ I1 q1) fun u s2 ⟨y, H2, I2, r2, q2⟩ => ?_
  exact hf v u s2 x y H2 I2 r1 r2 q2

theorem pe_op {op : Operator} {r : R2} (ho : OpR X (binaryOp op) r) (ha : PE X a ta) (hb : PE X b tb) : PE X (.BinOp a op b pos) (tOp r ta tb) := by
  intro pins s σ H Q I h
  exact wpAny_BinOp (binT ha hb I h fun v u s2 x y H2 I2 rx ry q => ho pins s2 σ H2 x y v u Q I2 rx ry q)
theorem pe_un {op : UnaryOp} {r : V → Hp → VK → Prop} (ho : UnR X (unaryOp op) r) (ha : PE X a ta) : PE X (.UnaryOp op a pos) (tUn r ta) := by
  intro pins s σ H Q I h
  exact UnaryOp_ (thn (ha pins s σ H _ I h) fun v s1 ⟨x, H1, I1, r1, q1⟩ => ho pins s1 σ H1 x v Q I1 r1 q1)
/-! ### ints -/
theorem opI {f : Value → Value → Sem Value} {C : Int → Int → Prop} {g : Int → Int → Int}
    (rule : ∀ (i j : Int) (t u : Tok) (s : Shared) (Q : Value → Shared → Prop) (E : Value → Shared → Prop), C i j → Q (.int (g i j) s.toks) { s with toks := s.toks + 1 } → wpAny (model X.prog X.w) X.A (f (.int i t) (.int j u)) Q E s) :
    OpR X f (rI C fun i j => .int (g i j)) := by
  intro pins s σ H x y v u Q I rx ry h
  obtain ⟨i, j, rfl, rfl, hc, q⟩ := h
  obtain ⟨t, rfl⟩ := rx
  obtain ⟨t', rfl⟩ := ry
  exact rule i j t t' s _ _ hc ⟨.int (g i j), H, I.tok _, ⟨_, rfl⟩, q⟩
theorem opI0 {f : Value → Value → Sem Value} {g : Int → Int → Int}
    (rule : ∀ (i j : Int) (t u : Tok) (s : Shared) (Q : Value → Shared → Prop) (E : Value → Shared → Prop), Q (.int (g i j) s.toks) { s with toks := s.toks + 1 } → wpAny (model X.prog X.w) X.A (f (.int i t) (.int j u)) Q E s) :
    OpR X f (rI0 fun i j => .int (g i j)) := by
  intro pins s σ H x y v u Q I rx ry h
  obtain ⟨i, j, rfl, rfl, q⟩ := h
  obtain ⟨t, rfl⟩ := rx
  obtain ⟨t', rfl⟩ := ry
  exact rule i j t t' s _ _ ⟨.int (g i j), H, I.tok _, ⟨_, rfl⟩, q⟩
theorem opB0 {f : Value → Value → Sem Value} {g : Int → Int → Bool}
    (rule : ∀ (i j : Int) (t u : Tok) (s : Shared) (Q : Value → Shared → Prop) (E : Value → Shared → Prop), Q (.bool (g i j)) s → wpAny (model X.prog X.w) X.A (f (.int i t) (.int j u)) Q E s) :
    OpR X f (rI0 fun i j => .bl (g i j)) := by
  intro pins s σ H x y v u Q I rx ry h
  obtain ⟨i, j, rfl, rfl, q⟩ := h
  obtain ⟨t, rfl⟩ := rx
  obtain ⟨t', rfl⟩ := ry
  exact rule i j t t' s _ _ ⟨.bl (g i j), H, I, rfl, q⟩

def CDiv (i j : Int) : Prop := 0 < j ∧ j < 1073741824
def CPow (i j : Int) : Prop := 0 ≤ j ∧ j ≤ 1000000 ∧ i.natAbs < 2 ^ 64
def CMul (i j : Int) : Prop := (-(2 ^ 64) < i ∧ i < 2 ^ 64) ∨ (-(2 ^ 64) < j ∧ j < 2 ^ 64)
theorem CMul.ok {i j : Int} (h : CMul i j) : IntMulOk i j := by
  rcases h with ⟨h1, h2⟩ | ⟨h1, h2⟩
  · exact .of_left (intBits_le_64 h1 h2)
  · exact .of_right (intBits_le_64 h1 h2)
theorem op_add : OpR X (binaryOp .Add) (rI0 fun i j => .int (i + j)) := opI0 fun _ _ _ _ _ _ _ q => add_int q
theorem op_sub : OpR X (binaryOp .Sub) (rI0 fun i j => .int (i - j)) := opI0 fun _ _ _ _ _ _ _ q => sub_int q
theorem op_mul : OpR X (binaryOp .Mult) (rI CMul fun i j => .int (i * j)) := opI fun _ _ _ _ _ _ _ hc q => mul_int q hc.ok
/-- // by a positive divisor -/
theorem op_fdiv : OpR X (binaryOp .FloorDiv) (rI CDiv fun i j => .int (i / j)) := opI fun i j _ _ _ _ _ hc q => by
  have h1 : (0 : Int) < j := hc.1
  have h2 : j < 1073741824 := hc.2
  exact floordiv_int (by omega) (by rw [Int.fdiv_eq_ediv_of_nonneg i (by omega)]; exact q) (.inl (PyProof.noPylong_small (by omega)))
/-- % by a positive divisor of any size -/
theorem op_mod : OpR X (binaryOp .Mod) (rI (fun _ j => 0 < j) fun i j => .int (i % j)) := opI fun i j _ _ _ _ _ hc q => by
  have h1 : (0 : Int) < j := hc
  exact mod_int' (by omega) (by rw [Int.fmod_eq_emod_of_nonneg i (by omega)]; exact q)
theorem op_pow : OpR X (binaryOp .Pow) (rI CPow fun i j => .int (i ^ j.toNat)) := opI fun _ _ _ _ _ _ _ hc q => pow_int_small hc.1 hc.2.1 hc.2.2 q
theorem unI {f : Value → Sem Value} {g : Int → Int}
    (rule : ∀ (i : Int) (t : Tok) (s : Shared) (Q : Value → Shared → Prop) (E : Value → Shared → Prop), Q (.int (g i) s.toks) { s with toks := s.toks + 1 } → wpAny (model X.prog X.w) X.A (f (.int i t)) Q E s) :
    UnR X f (rU fun i => .int (g i)) := by
  intro pins s σ H x v Q I rx h
  obtain ⟨i, rfl, q⟩ := h
  obtain ⟨t, rfl⟩ := rx
  exact rule i t s _ _ ⟨.int (g i), H, I.tok _, ⟨_, rfl⟩, q⟩
theorem un_neg : UnR X (unaryOp .USub) (rU fun i => .int (-i)) := unI fun _ _ _ _ _ q => neg_int q
/-! ### bools among ints: n += (a < b) -/
end

/-! ### comparisons -/
/-- the scalars that == tells apart as data does -/
def scal : V → V → Bool
  | .non, .non => true | .non, .int _ => true | .int _, .non => true | .non, .bl _ => true | .bl _, .non => true | .non, .str _ => true | .str _, .non => true
  | .int _, .int _ => true | .bl _, .bl _ => true | .str _, .str _ => true | .byt _, .byt _ => true
  | .int _, .str _ => true | .str _, .int _ => true | .bl _, .str _ => true | .str _, .bl _ => true
  | _, _ => false
def rEq : R2 := fun x y H Q => scal x y = true ∧ Q (.bl (decide (x = y))) H
def rNe : R2 := fun x y H Q => scal x y = true ∧ Q (.bl (!decide (x = y))) H

theorem dec_int {i j : Int} : decide (V.int i = V.int j) = (i == j) := by
  rw [Bool.eq_iff_iff]
  simp
theorem dec_bl {i j : Bool} : decide (V.bl i = V.bl j) = (i == j) := by
  rw [Bool.eq_iff_iff]
  simp
theorem dec_str {i j : Str} : decide (V.str i = V.str j) = (i == j) := by
  rw [Bool.eq_iff_iff]
  simp
theorem dec_byt {i j : Array UInt8} : decide (V.byt i = V.byt j) = (i.toList == j.toList) := by
  rw [Bool.eq_iff_iff]
  cases i
  cases j
  simp

section
variable {X : Cx} {a b c : Expr} {ta tb tc : TE} {pos : Pos}
theorem fin_bl {pins : List (Addr × Obj)} {σ : St} {H : Hp} {s : Shared} {Q : VK} {k k' : Bool} (I : Inv X pins σ H s) (q : Q (.bl k) H) (e : k = k') : EP X pins σ Q (.bool k') s := by
  subst e
  exact ⟨.bl k, H, I, rfl, q⟩
theorem op_eq : OpR X (compareOp .Eq) rEq := by
  intro pins s σ H x y v u Q I rx ry h
  obtain ⟨hs, q⟩ := h
  cases x with
  | non =>
    cases rx
    cases y with
    | non => cases ry; exact PySem.EqNone.eq_none_none (fin_bl I q (by simp))
    | bl j => cases ry; exact PySem.EqNone.eq_none_bool (fin_bl I q (by simp))
    | int j => obtain ⟨t', rfl⟩ := ry; exact PySem.EqNone.eq_none_int (fin_bl I q (by simp))
    | str j => obtain ⟨t', rfl⟩ := ry; exact PySem.EqNone.eq_none_str (fin_bl I q (by simp))
    | _ => exact absurd (show false = true from hs) Bool.false_ne_true
  | bl i =>
    cases rx
    cases y with
    | non => cases ry; exact PySem.EqNone.eq_bool_none (fin_bl I q (by simp))
    | bl j => cases ry; exact eq_bool (fin_bl I q dec_bl)
    | str j => obtain ⟨t', rfl⟩ := ry; exact PySem.EqMixed.eq_bool_str (fin_bl I q (by simp))
    | _ => exact absurd (show false = true from hs) Bool.false_ne_true
  | int i =>
    obtain ⟨t, rfl⟩ := rx
    cases y with
    | non => cases ry; exact PySem.EqNone.eq_int_none (fin_bl I q (by simp))
    | int j => obtain ⟨t', rfl⟩ := ry; exact eq_int (fin_bl I q dec_int)
    | str j => obtain ⟨t', rfl⟩ := ry; exact PySem.EqMixed.eq_int_str (fin_bl I q (by simp))
    | _ => exact absurd (show false = true from hs) Bool.false_ne_true
  | str i =>
    obtain ⟨t, rfl⟩ := rx
    cases y with
    | non => cases ry; exact PySem.EqNone.eq_str_none (fin_bl I q (by simp))
    | bl j => cases ry; exact PySem.EqMixed.eq_str_bool (fin_bl I q (by simp))
    | int j => obtain ⟨t', rfl⟩ := ry; exact PySem.EqMixed.eq_str_int (fin_bl I q (by simp))
    | str j => obtain ⟨t', rfl⟩ := ry; exact eq_str (fin_bl I q dec_str)
    | _ => exact absurd (show false = true from hs) Bool.false_ne_true
  | byt i =>
    obtain ⟨t, rfl⟩ := rx
    cases y with
    | byt j => obtain ⟨t', rfl⟩ := ry; exact PySem.W.eq_bytes (fin_bl I q dec_byt)
    | _ => exact absurd (show false = true from hs) Bool.false_ne_true
  | _ => cases y <;> exact absurd (show false = true from hs) Bool.false_ne_true
theorem op_ne : OpR X (compareOp .NotEq) rNe := by
  intro pins s σ H x y v u Q I rx ry h
  obtain ⟨hs, q⟩ := h
  cases x with
  | non =>
    cases rx
    cases y with
    | non => cases ry; exact PySem.EqNone.ne_none_none (fin_bl I q (by simp))
    | bl j => cases ry; exact PySem.EqNone.ne_none_bool (fin_bl I q (by simp))
    | int j => obtain ⟨t', rfl⟩ := ry; exact PySem.EqNone.ne_none_int (fin_bl I q (by simp))
    | str j => obtain ⟨t', rfl⟩ := ry; exact PySem.EqNone.ne_none_str (fin_bl I q (by simp))
    | _ => exact absurd (show false = true from hs) Bool.false_ne_true
  | bl i =>
    cases rx
    cases y with
    | non => cases ry; exact PySem.EqNone.ne_bool_none (fin_bl I q (by simp))
    | bl j => cases ry; exact ne_bool (fin_bl I q (congrArg not dec_bl))
    | str j => obtain ⟨t', rfl⟩ := ry; exact PySem.EqMixed.ne_bool_str (fin_bl I q (by simp))
    | _ => exact absurd (show false = true from hs) Bool.false_ne_true
  | int i =>
    obtain ⟨t, rfl⟩ := rx
    cases y with
    | non => cases ry; exact PySem.EqNone.ne_int_none (fin_bl I q (by simp))
    | int j => obtain ⟨t', rfl⟩ := ry; exact ne_int (fin_bl I q (congrArg not dec_int))
    | str j => obtain ⟨t', rfl⟩ := ry; exact PySem.EqMixed.ne_int_str (fin_bl I q (by simp))
    | _ => exact absurd (show false = true from hs) Bool.false_ne_true
  | str i =>
    obtain ⟨t, rfl⟩ := rx
    cases y with
    | non => cases ry; exact PySem.EqNone.ne_str_none (fin_bl I q (by simp))
    | bl j => cases ry; exact PySem.EqMixed.ne_str_bool (fin_bl I q (by simp))
    | int j => obtain ⟨t', rfl⟩ := ry; exact PySem.EqMixed.ne_str_int (fin_bl I q (by simp))
    | str j => obtain ⟨t', rfl⟩ := ry; exact ne_str (fin_bl I q (congrArg not dec_str))
    | _ => exact absurd (show false = true from hs) Bool.false_ne_true
  | byt i =>
    obtain ⟨t, rfl⟩ := rx
    cases y with
    | byt j => obtain ⟨t', rfl⟩ := ry; exact PySem.W.ne_bytes (fin_bl I q (congrArg not dec_byt))
    | _ => exact absurd (show false = true from hs) Bool.false_ne_true
  | _ => cases y <;> exact absurd (show false = true from hs) Bool.false_ne_true

theorem op_lt : OpR X (compareOp .Lt) (rI0 fun i j => .bl (decide (i < j))) := opB0 fun _ _ _ _ _ _ _ q => lt_int q
theorem op_gt : OpR X (compareOp .Gt) (rI0 fun i j => .bl (decide (j < i))) := opB0 fun _ _ _ _ _ _ _ q => gt_int q
/-- the one string within the other -/
theorem op_in_str : OpR X (compareOp .In) (fun x y H Q => ∃ i j, x = .str i ∧ y = .str j ∧ Q (.bl (!(Builtin.Str.occurrences j i 0 j.length 1).isEmpty)) H) := by
  intro pins s σ H x y v u Q I rx ry h
  obtain ⟨i, j, rfl, rfl, q⟩ := h
  obtain ⟨t, rfl⟩ := rx
  obtain ⟨t', rfl⟩ := ry
  exact in_str (fin_bl I q rfl)

theorem op_notN : OpR X (compareOp .IsNot) (fun x y H Q => y = .non ∧ Q (.bl (!decide (x = .non))) H) := by
  intro pins s σ H x y v u Q I rx ry h
  obtain ⟨rfl, q⟩ := h
  cases ry
  refine isnot_none_gen (fin_bl I q ?_)
  cases x <;> first
    | (cases rx; rfl)
    | (obtain ⟨t, rfl⟩ := rx; rfl)

theorem nomark (b : Expr) {op : CmpOp} (h : op ≠ .In := by decide) (h2 : op ≠ .NotIn := by decide) : behindInMarks op b = false := by
  have e1 : (op == CmpOp.In) = false := by cases op <;> first | rfl | exact absurd rfl h
  have e2 : (op == CmpOp.NotIn) = false := by cases op <;> first | rfl | exact absurd rfl h2
  cases b <;> simp [behindInMarks, e1, e2]
/-- a comparison as a value; hm: nomark b, or (for in, not in) by with_unfolding_all rfl -/
theorem pe_cmpR {op : CmpOp} {r : R2} (ho : OpR X (compareOp op) r) (ha : PE X a ta) (hb : PE X b tb) (hm : behindInMarks op b = false) : PE X (.Compare a [op] [b] pos) (tOp r ta tb) := by
  intro pins s σ H Q I h
  exact wpAny_Compare1 (binT ha hb I h fun v u s2 x y H2 I2 rx ry q => ho pins s2 σ H2 x y v u Q I2 rx ry q) hm
/-- a reading of a value as a test -/
def tTest (t : TE) : TT := fun σ H Q => t σ H fun x H' => ∃ k, x = .bl k ∧ Q k H'
theorem pt_cmpR {op : CmpOp} {r : R2} (ho : OpR X (compareOp op) r) (ha : PE X a ta) (hb : PE X b tb) (hm : behindInMarks op b = false) : PT X (.Compare a [op] [b] pos) (tTest (tOp r ta tb)) := by
  intro pins s σ H Q I h
  refine wpAny_isTrue_Compare1 (thn (ha pins s σ H _ I h) fun v s1 ⟨x, H1, I1, r1, q1⟩ => thn (hb pins s1 σ H1 _ I1 q1) fun u s2 ⟨y, H2, I2, r2, q2⟩ =>
    thn (ho pins s2 σ H2 x y v u _ I2 r1 r2 q2) fun c s3 ⟨z, H3, I3, r3, k, e, q3⟩ => ?_) hm
  subst e
  cases r3
  exact wpAny_truthy_bool ⟨H3, I3, q3⟩
/-! ### truth -/
theorem line63 : (sizeLine : Nat) < 2 ^ 63 := by rw [sizeLine_eq]; decide
/-! ### strs and bytes -/
theorem op_add_str : OpR X (binaryOp .Add) (fun x y H Q => ∃ i j, x = .str i ∧ y = .str j ∧ i.length + j.length ≤ sizeLine ∧ Q (.str (i ++ j)) H) := by
  intro pins s σ H x y v u Q I rx ry h
  obtain ⟨i, j, rfl, rfl, hz, q⟩ := h
  obtain ⟨t, rfl⟩ := rx
  obtain ⟨t', rfl⟩ := ry
  exact add_str (fun t' tk => ⟨.str (i ++ j), H, I.tok _, ⟨_, rfl⟩, q⟩) hz
/-! ### scalar builtins, by CallR -/
theorem vals1 {x : V} {us : List Value} (r : Vals [x] us) : ∃ u, us = [u] ∧ RelV x u := by
  cases r with
  | cons r1 r2 => cases r2; exact ⟨_, rfl, r1⟩
theorem vals2 {x y : V} {us : List Value} (r : Vals [x, y] us) : ∃ u w', us = [u, w'] ∧ RelV x u ∧ RelV y w' := by
  cases r with
  | cons r1 r2 =>
    cases r2 with
    | cons r3 r4 => cases r4; exact ⟨_, _, rfl, r1, r3⟩
theorem call_abs : CallR X (.builtin "abs") (fun xs H Q => ∃ i, xs = [.int i] ∧ Q (.int (if i < 0 then -i else i)) H) := by
  intro pins s σ H xs us Q I r h
  obtain ⟨i, rfl, q⟩ := h
  obtain ⟨u, rfl, t, rfl⟩ := vals1 r
  exact call_abs_int fun u tk => ⟨.int (if i < 0 then -i else i), H, I.tok _, ⟨_, rfl⟩, q⟩
end
end L2

namespace L2
open PySem PySem.Spec PyProof.Rows

/-! ### an instance, its attributes a map -/
section
variable {prog : Program} {w : World} {A : Around} {E : Value → Shared → Prop} {s : Shared} {K : PySem.W.Frag} {x dx C f : Addr} {mA : Str → Option Value} {name : Str} {v : Value}

end

/-! ### the attributes as a list of pairs -/
section
variable {P : Program} {w : World} {H H' : Hp} {h h' : Heap} {a C dx : Addr} {fs fs' : List (Str × V)}
end

/-! ### what of the text a class must have -/
section
variable {X : Cx} {pins : List (Addr × Obj)} {σ : St} {H : Hp} {s : Shared} {a C dx : Addr} {fs : List (Str × V)} {f : Str} {v : V} {A : Around} {E : Value → Shared → Prop}

end

/-! ### readings and rules -/
section
variable {X : Cx} {o e value : Expr} {f : Str} {pos pos' tpos : Pos} {ta tv : TE}
end

/-! ### isinstance -/
section
variable {X : Cx} {pins : List (Addr × Obj)} {σ : St} {H : Hp} {s : Shared} {A : Around} {E : Value → Shared → Prop} {Q : Value → Shared → Prop} {c : Value} {b : Bool}
end
end L2

namespace L2
open PySem PySem.Spec PyProof.Rows

/-! ### room -/
structure Room (k : Nat) (A : Around) : Prop where
  hd : A.handled = none
  dp : A.depth + 3 * k + 5 < recursionLimit
  un : A.units + 16 * k + 200 < cLine
theorem Room.mono {j k : Nat} {A : Around} (r : Room k A) (h : j ≤ k) : Room j A := ⟨r.hd, by have := r.dp; omega, by have := r.un; omega⟩
theorem Room.deeper {k : Nat} {A : Around} (r : Room (k + 1) A) (env : Env) : Room k (A.deeper env) :=
  ⟨r.hd, by have := r.dp; show A.depth + 1 + 3 * k + 5 < _; omega, by have := r.un; show A.units + 3 + 16 * k + 200 < _; omega⟩
theorem Room.depth {k : Nat} {A : Around} (r : Room k A) : A.depth < recursionLimit := by have := r.dp; omega
theorem Room.units {k : Nat} {A : Around} (r : Room k A) : A.units + 64 < cLine := by have := r.un; omega
/-! ### argument lists and displays -/
def tNil : TA := fun _ H Q => Q [] H
def tCons (ta : TE) (tr : TA) : TA := fun σ H Q => ta σ H fun x H1 => tr σ H1 fun xs H2 => Q (x :: xs) H2
section
variable {X : Cx} {e : Expr} {es : List Expr} {te : TE} {t : TA} {pos : Pos}
theorem pa_nil : PA X [] tNil := fun _ _ _ _ H Q I h => Calls.spliced_nil ⟨[], H, I, .nil, h⟩
theorem pa_cons (ha : PE X e te) (hr : PA X es t) (hs : starEach (e :: es) X.env = (false, eval e X.env) :: starEach es X.env := by rfl) : PA X (e :: es) (tCons te t) := by
  intro pos pins s σ H Q I h
  rw [hs]
  show wpAny _ _ (spliced ((false, eval e X.env) :: backTo pos (starEach es X.env))) _ _ s
  refine Calls.spliced_cons (thn (ha pins s σ H _ I h) fun u s1 ⟨x, H1, I1, r1, q1⟩ => ?_)
  exact thn (hr pos pins s1 σ H1 _ I1 q1) fun us s2 ⟨xs, H2, I2, r2, q2⟩ => ⟨x :: xs, H2, I2, .cons r1 r2, q2⟩

/-- a tuple, a list of written items -/
def tTup (t : TA) : TE := fun σ H Q => t σ H fun xs H1 => xs.length ≤ sizeLine ∧ ∀ p, H1 p = none → Q (.ref p) (upd H1 p (.tup xs))
def tLst (t : TA) : TE := fun σ H Q => t σ H fun xs H1 => xs.length ≤ sizeLine ∧ ∀ p, H1 p = none → Q (.ref p) (upd H1 p (.lst xs))
theorem pe_tup {x1} (h : PA X es t) : PE X (.Tuple es x1 pos) (tTup t) := by
  intro pins s σ H Q I hq
  refine wpAny_Tuple_spliced (thn (h pos pins s σ H _ I hq) fun us s1 ⟨xs, H1, I1, r, z, q⟩ => ⟨by rw [← r.length]; exact z, ?_⟩)
  have hf : H1 s1.heap.objs.size = none := I1.hok.fresh (Nat.le_refl _)
  refine ⟨.ref s1.heap.objs.size, upd H1 s1.heap.objs.size (.tup xs), I1.laid (t' := s1.toks) (fun b u e => Heap.get?_push_of_some _ e) (Nat.le_refl _) ?_, rfl, q _ hf⟩
  exact ⟨z, us, r, ⟨_, Heap.get?_push_size _ rfl, rfl, _, rfl⟩⟩
theorem pe_lst (h : PA X es t) : PE X (.List es pos) (tLst t) := by
  intro pins s σ H Q I hq
  refine wpAny_List_spliced (thn (h pos pins s σ H _ I hq) fun us s1 ⟨xs, H1, I1, r, z, q⟩ => ⟨by rw [← r.length]; exact z, ?_⟩)
  have hf : H1 s1.heap.objs.size = none := I1.hok.fresh (Nat.le_refl _)
  refine ⟨.ref s1.heap.objs.size, upd H1 s1.heap.objs.size (.lst xs), I1.laid (t' := s1.toks) (fun b u e => Heap.get?_push_of_some _ e) (Nat.le_refl _) ?_, rfl, q _ hf⟩
  exact ⟨z, us, 0, r, Heap.get?_push_size _ rfl⟩
end

/-! ### what a def promises -/
/-- a def's promise: the bound arguments in the parameters' order, the heap, the wanted end, the wanted exception -/
abbrev Sp := List V → Hp → VK → XK → Prop
/-- how an exception lies behind a call (file 08 gives it): the callers' frames, abstract heap and state ahead of the call, the wish, the exception, the state -/
abbrev CXT := List Env → Hp → Shared → XK → Value → Shared → Prop

/-- the state at a call -/
structure Env0 (P : Program) (w : World) (K : PySem.W.Frag) (mg : Str → Option Value) (base : Heap) (A : Around) (outer : List Env) (s : Shared) (H : Hp) : Prop where
  frames : A.frames = some outer
  mod : Mod K mg base
  bs : ∀ b o, base.get? b = some o → s.heap.get? b = some o ∧ H b = none
  bsz : base.objs.size ≤ s.heap.objs.size
  funs : s.heap.FunFrames base outer
  frf : ∀ b ∈ frs outer, H b = none
  hok : HOk P w H s.heap
  bare : AllBare s.gens
/-- a call's end -/
def CE (outer : List Env) (P : Program) (w : World) (H : Hp) (s : Shared) (Q : VK) (u : Value) (s' : Shared) : Prop :=
  ∃ v H', s'.os = s.os ∧ AllBare s'.gens ∧ Un (frs outer) [] H H' s.heap s'.heap ∧ HOk P w H' s'.heap ∧ RelV v u ∧ Q v H'
def CR (CX : CXT) (outer : List Env) (P : Program) (w : World) (H : Hp) (s : Shared) (Q : VK) (E : XK) (r : Result) (s' : Shared) : Prop :=
  match r with
  | .ok (.ret u) => CE outer P w H s Q u s'
  | .ok _ => False
  | .error e => CX outer H s E e s'
structure FnOk (P : Program) (w : World) (K : PySem.W.Frag) (mg : Str → Option Value) (base : Heap) (CX : CXT) (k : Nat) (f : Addr) (fd : FuncData) (ps : List Str) (sp : Sp) : Prop where
  len : ∀ vs H Q E, sp vs H Q E → vs.length = ps.length
  run : ∀ (A : Around) (outer : List Env) (s : Shared) (H : Hp) (args : Args) (us : List Value) (vs : List V) (Q : VK) (E : XK), Room k A → Env0 P w K mg base A outer s H → BindsTo s fd args (ps.zip us) → Vals vs us → sp vs H Q E →
    codeAny (model P w) A (.call (.ref f) args) (CR CX outer P w H s Q E) s
section
variable {X : Cx} {pins : List (Addr × Obj)} {σ : St} {H : Hp} {s s' : Shared}
/-- from a body: what a callee wants -/
theorem Inv.env0 (I : Inv X pins σ H s) : Env0 X.prog X.w X.K X.mg X.base X.A X.stack s H :=
  ⟨I.ok.frames, I.ok.mod, I.bs, Nat.le_trans I.ok.bsz I.sz, I.stack, I.stkFree, I.hok, I.bare⟩
/-- behind a call -/
theorem Inv.after {Q : VK} {u : Value} (I : Inv X pins σ H s) (h : CE X.stack X.prog X.w H s Q u s') : EP X pins σ Q u s' := by
  obtain ⟨v, H', os, bare, un, hok, r, q⟩ := h
  obtain ⟨hh, g, d, t, os'⟩ := s'
  obtain rfl : os' = s.os := os
  exact ⟨v, H', I.call (h' := hh) (g' := g) (d' := d) (t' := t) (ch := []) un hok bare (fun b z => absurd z (by simp)), r, q⟩
end

/-! ### calls -/
/-- f(..): the written arguments, then the defaults dvs; E: what is wanted of an exception -/
def tCall (sp : Sp) (dvs : List V) (E : XK) (t : TA) : TE := fun σ H Q => t σ H fun vs H1 => sp (vs ++ dvs) H1 Q E
/-- how the parameters are bound: us the positional arguments, kw the keywords' values by name, ds the defaults that fill up -/
def Binds (K : PySem.W.Frag) (fd : FuncData) (ps : List Str) (ds : List Value) : Prop :=
  ∀ (s : Shared) (us : List Value), K.In s.heap → (us ++ ds).length = ps.length → BindsTo s fd ⟨us, []⟩ (ps.zip (us ++ ds))
/-- every parameter is given -/
theorem Binds.all {K : PySem.W.Frag} {fd : FuncData} {ps : List Str} (h : ∀ us : List Value, us.length = ps.length → bindArgs fd ⟨us, []⟩ = pure (ps.zip us)) : Binds K fd ps [] := fun s us _ hl => by
  rw [List.append_nil] at hl ⊢
  exact .of_eq (h us hl)

/-- an exception of a callee reaches what this body wants of exceptions -/
def Passes (CX : CXT) (X : Cx) (E : XK) : Prop := ∀ (pins : List (Addr × Obj)) (σ : St) (H : Hp) (s : Shared) (e : Value) (s' : Shared), Inv X pins σ H s → CX X.stack H s E e s' → X.xe e s'

section
variable {X : Cx} {CX : CXT} {k : Nat} {f C : Addr} {fd : FuncData} {ps : List Str} {sp : Sp} {dvs : List V} {ds : List Value} {E : XK} {x m : Str} {p pos apos : Pos} {e o : Expr} {es : List Expr} {ta : TE} {t : TA}

/-- the callee runs -/
theorem run_fn {pins : List (Addr × Obj)} {σ : St} {H : Hp} {s : Shared} {Q : VK} {us : List Value} {vs : List V} (F : FnOk X.prog X.w X.K X.mg X.base CX k f fd ps sp) (hr : Room k X.A) (hb : Binds X.K fd ps ds) (hd : Vals dvs ds) (hx : Passes CX X E)
    (I : Inv X pins σ H s) (r : Vals vs us) (h : sp (vs ++ dvs) H Q E) : wpAny (model X.prog X.w) X.A (call (.ref f) us) (EP X pins σ Q) X.xe s := by
  have r2 : Vals (vs ++ dvs) (us ++ ds) := r.append hd
  have hl : (us ++ ds).length = ps.length := by rw [← r2.length]; exact F.len _ _ _ _ h
  refine wpAny_call (codeAny_mono (F.run X.A X.stack s H ⟨us, []⟩ (us ++ ds) (vs ++ dvs) Q E hr I.env0 (hb s us I.kIn hl) r2 h) fun r s' hq => ?_)
  cases r with
  | error e => exact hx pins σ H s e s' I hq
  | ok fl =>
    cases fl with
    | ret u => exact I.after hq
    | next => exact False.elim hq
    | brk => exact False.elim hq
    | cont => exact False.elim hq

theorem pe_call (F : FnOk X.prog X.w X.K X.mg X.base CX k f fd ps sp) (hr : Room k X.A) (hg : Gl X x) (hm : X.mg x = some (.ref f)) (hk : PySem.W.keepIn X.K (.ref f) = true) (hb : Binds X.K fd ps ds) (hd : Vals dvs ds) (hx : Passes CX X E)
    (ha : PA X (e :: es) t) (hdb : (x == ("__debug__" : Str)) = false := by decide) (he : starEach (e :: es) X.env = (false, eval e X.env) :: starEach es X.env := by rfl) (hpl : (backTo pos (starEach es X.env)).any (·.1) = false := by rfl) :
    PE X (.Call (.Name x p) (e :: es) [] pos) (tCall sp dvs E t) := by
  intro pins s σ H Q I h
  refine wpAny_Call_Name_kw (ld_glob I hg hm ?_ hdb)
  refine PySem.W.callWith_K (h₀ := X.base) I.ok.mod.kin hk (thn (ha pos pins s σ H _ I h) fun us s1 ⟨vs, H1, I1, r, q⟩ => ⟨I1.kIn, ?_⟩) he hpl
  exact run_fn F hr hb hd hx I1 r q
end

/-! ### keywords -/
section
variable {X : Cx} {CX : CXT} {k : Nat} {f C : Addr} {fd : FuncData} {ps ks : List Str} {sp : Sp} {E : XK} {x m : Str} {p pos apos kpos : Pos} {e o : Expr} {es : List Expr} {kws : List Keyword} {te ta : TE} {t tk : TA} {nm : Option Str}
variable {g : List Value → List Value → List Value} {gV : List V → List V → List V}
end

/-! ### a def's body keeps its promise -/
/-- names: the parameters first -/
structure FnScope (N P : List Str) (sc : Scope) : Prop where
  kind : sc.kind = .function
  co : sc.isCoroutine = false
  gen : sc.isGenerator = false
  nd : N.Nodup
  pre : N.take P.length = P
  par : ∀ x ∈ P, sc.names.lookup x = some .local ∨ sc.names.lookup x = some .cell
  nofree : ∀ y ∈ sc.names, y.2 ≠ .free

theorem bindL_out {kindOf : Str → Option NameKind} {x : Str} : ∀ {binds : List (Str × Value)} {m : Str → Option Value}, (∀ v, (x, v) ∉ binds) → bindL kindOf binds m x = m x
  | [], _, _ => rfl
  | (n, v) :: r, m, h => by
    unfold bindL
    rw [bindL_out fun w hw => h w (List.mem_cons_of_mem _ hw)]
    split
    · have : x ≠ n := by rintro rfl; exact h v List.mem_cons_self
      simp [this]
    · rfl
theorem bindC_out {kindOf : Str → Option NameKind} {x : Str} : ∀ {binds : List (Str × Value)} {m : Str → Option Value}, (∀ v, (x, v) ∉ binds) → bindC kindOf binds m x = m x
  | [], _, _ => rfl
  | (n, v) :: r, m, h => by
    unfold bindC
    rw [bindC_out fun w hw => h w (List.mem_cons_of_mem _ hw)]
    split
    · rfl
    · have : x ≠ n := by rintro rfl; exact h v List.mem_cons_self
      simp [this]
theorem bindL_get {kindOf : Str → Option NameKind} {x : Str} {v : Value} : ∀ {P : List Str} {vs : List Value} {i : Nat} {m : Str → Option Value}, P.Nodup → P[i]? = some x → vs[i]? = some v → kindOf x = some .local →
    bindL kindOf (P.zip vs) m x = some v
  | [], _, _, _, _, h, _, _ => by simp at h
  | _ :: _, [], _, _, _, _, h, _ => by simp at h
  | p :: P, w :: vs, 0, m, nd, h1, h2, hk => by
    simp at h1 h2; subst h1; subst h2
    show bindL kindOf ((p, w) :: P.zip vs) m p = _
    unfold bindL
    rw [bindL_out fun v hv => (List.nodup_cons.mp nd).1 (List.of_mem_zip hv).1, if_pos hk]
    simp
  | p :: P, w :: vs, i + 1, m, nd, h1, h2, hk => by
    show bindL kindOf ((p, w) :: P.zip vs) m x = _
    unfold bindL
    exact bindL_get (i := i) (List.nodup_cons.mp nd).2 (by simpa using h1) (by simpa using h2) hk
theorem bindC_get {kindOf : Str → Option NameKind} {x : Str} {v : Value} : ∀ {P : List Str} {vs : List Value} {i : Nat} {m : Str → Option Value}, P.Nodup → P[i]? = some x → vs[i]? = some v → kindOf x ≠ some .local →
    bindC kindOf (P.zip vs) m x = some v
  | [], _, _, _, _, h, _, _ => by simp at h
  | _ :: _, [], _, _, _, _, h, _ => by simp at h
  | p :: P, w :: vs, 0, m, nd, h1, h2, hk => by
    simp at h1 h2; subst h1; subst h2
    show bindC kindOf ((p, w) :: P.zip vs) m p = _
    unfold bindC
    rw [bindC_out fun v hv => (List.nodup_cons.mp nd).1 (List.of_mem_zip hv).1, if_neg hk]
    simp
  | p :: P, w :: vs, i + 1, m, nd, h1, h2, hk => by
    show bindC kindOf ((p, w) :: P.zip vs) m x = _
    unfold bindC
    exact bindC_get (i := i) (List.nodup_cons.mp nd).2 (by simpa using h1) (by simpa using h2) hk

/-- the names' values at the entry -/
def start (N : List Str) (vs : List V) : St := vs.map some ++ List.replicate (N.length - vs.length) none

/-- the context of a def's body, at its entry; an exception leaves the frame, then lies as CX says -/
def cxOf (CX : CXT) (P : Program) (w : World) (K : PySem.W.Frag) (mg : Str → Option Value) (base : Heap) (N : List Str) (qual : Str) (scope : Scope) (f : Addr) (cd : Value) (A : Around) (outer : List Env) (s : Shared) (H : Hp) (E : XK) : Cx where
  prog := P
  w := w
  K := K
  mg := mg
  base := base
  A := A.deeper (envOfC qual scope s.heap.objs.size f cd)
  N := N
  s₀ := s
  H₀ := H
  env := envOfC qual scope s.heap.objs.size f cd
  outer := outer
  stack := envOfC qual scope s.heap.objs.size f cd :: outer
  ex := []
  calm := true
  fn := fun _ => true
  pn := []
  xe := fun e s' => wpAny (model P w) (A.deeper (envOfC qual scope s.heap.objs.size f cd)) (leaving (envOfC qual scope s.heap.objs.size f cd) e) (fun _ s'' => CX outer H s E e s'') (fun e' s'' => CX outer H s E e' s'') s'

theorem cell_has {sc : Scope} {n : Nat} {x : Str} (h : sc.names.lookup x = some .cell) : ∃ c, (cellsFrom n sc.names []).lookup x = some c := by
  have q := PySem.W.cellsFrom_some sc.names n [] (.inl h)
  exact Option.isSome_iff_exists.mp q

theorem inv_start {CX : CXT} {P : Program} {w : World} {K : PySem.W.Frag} {mg : Str → Option Value} {base : Heap} {N ps : List Str} {qual : Str} {scope : Scope} {f : Addr} {cd : Value} {A : Around} {outer : List Env} {s s1 : Shared} {H : Hp} {E : XK} {us : List Value} {vs : List V}
    (S : FnScope N ps scope) (hd : A.handled = none) (e0 : Env0 P w K mg base A outer s H) (hl : vs.length = ps.length) (r : Vals vs us)
    (x : InCallC s s.heap.objs.size (bindL (envOfC qual scope s.heap.objs.size f cd).kindOf (ps.zip us) fun _ => none) (cellsFrom (s.heap.objs.size + 1) scope.names []) (bindC (envOfC qual scope s.heap.objs.size f cd).kindOf (ps.zip us) fun _ => none) s1) :
    Inv (cxOf CX P w K mg base N qual scope f cd A outer s H E) [] (start N vs) H s1 := by
  have hpl : ps.length ≤ N.length := by have := congrArg List.length S.pre; rw [List.length_take] at this; omega
  obtain ⟨h1, tk, rfl, hk⟩ := x.done
  have noA : ∀ b : Addr, b ∉ (cxOf CX P w K mg base N qual scope f cd A outer s H E).ex := fun b z => absurd (show b ∈ ([] : List Addr) from z) (by simp)
  refine ⟨⟨e0.mod, S.kind, rfl, rfl, Nat.le_refl _, fun y z c h1 h2 => ?_, fun y hy => ?_, fun y c _ h => ?_, fun _ => hd, Around.frames_deeper e0.frames, .inr ⟨rfl, rfl⟩, fun b z => absurd z (noA b), e0.bs, e0.bsz, fun b _ _ => noA b, fun b z => absurd z (noA b), e0.funs, e0.frf⟩,
    rfl, e0.bare, Un.kept hk, ⟨_, x.toInCall.ns, fun i y v h1 h2 h3 => ?_⟩, fun y c h => ⟨_, x.cell y c h⟩, e0.hok.fresh (Nat.le_refl _), fun y c h => ?_, fun p hp => absurd (show p ∈ ([] : List (Addr × Obj)) from hp) (by simp), e0.hok.kept hk, ?_⟩
  · exact name_of_addr x.apart (PySem.mem_of_lookup h1) (PySem.mem_of_lookup h2)
  · have hy : scope.names.lookup y = some .cell ∨ scope.names.lookup y = some .free := hy
    rcases hy with hy | hy
    · exact cell_has hy
    · exact absurd rfl (S.nofree _ (PySem.mem_of_lookup hy))
  · exact Nat.le_of_lt (x.above y c (PySem.mem_of_lookup h))
  · have hi : i < vs.length := by
      unfold start at h2
      by_cases hi : i < vs.length
      · exact hi
      · rw [List.getElem?_append_right (by simpa using hi)] at h2
        rw [List.getElem?_replicate] at h2
        split at h2 <;> cases h2
    have ha : vs[i]? = some v := by
      unfold start at h2
      rw [List.getElem?_append_left (by simpa using hi), List.getElem?_map] at h2
      cases e : vs[i]? with
      | none => rw [e] at h2; cases h2
      | some a => rw [e] at h2; cases h2; rfl
    obtain ⟨u, hu, rv⟩ := r.get ha
    have hp : ps[i]? = some y := by
      rw [← S.pre, List.getElem?_take_of_lt (by omega)]; exact h1
    have ndP : ps.Nodup := by rw [← S.pre]; exact S.nd.sublist (List.take_sublist _ _)
    refine ⟨u, rv, ?_⟩
    rcases S.par y (List.mem_of_getElem? hp) with k | k
    · exact .inl ⟨k, bindL_get ndP hp hu k⟩
    · obtain ⟨c, e⟩ := cell_has (n := s.heap.objs.size + 1) k
      refine .inr ⟨.inl k, c, e, ?_⟩
      have q := x.cell y c e
      rw [bindC_get ndP hp hu (by show scope.names.lookup y ≠ _; rw [k]; decide)] at q
      exact q
  · exact e0.hok.fresh (Nat.le_of_lt (x.above y c (PySem.mem_of_lookup h)))
  · unfold start
    show _ = N.length
    rw [List.length_append, List.length_map, List.length_replicate]
    omega

/-- THE RULE: a def (or a method) of the text, by its body. The body's reading t is chosen for each entry; it is run at the parameters' values -/
theorem fn_of {CX : CXT} {P : Program} {w : World} {K : PySem.W.Frag} {mg : Str → Option Value} {base : Heap} {k : Nat} {f : Addr} {name qual : Str} {params : Arguments} {body : List Stmt} {scope : Scope} {dV kV doc pm cdv ct oc : Value} {an od : Option Addr}
    {osl : Array (Option Value)} {N ps : List Str} {sp : Sp} (lk : K.lookup f = some ⟨oc, od, .func (PySem.W.fnOf name qual params body scope dV kV doc pm an cdv ct), osl⟩) (hcd : PySem.W.codeIn K cdv qual = true) (S : FnScope N ps scope)
    (len : ∀ vs H Q E, sp vs H Q E → vs.length = ps.length)
    (hbody : ∀ (A : Around) (outer : List Env) (s : Shared) (H : Hp) (vs : List V) (Q : VK) (E : XK), Room k (A.deeper (envOfC qual scope s.heap.objs.size f cdv)) → sp vs H Q E →
      ∃ t, PSs (cxOf CX P w K mg base N qual scope f cdv A outer s H E) body t ∧ t { nx := fun _ H' => Q .non H', rt := Q } (start N vs) H) :
    FnOk P w K mg base CX (k + 1) f (PySem.W.fnOf name qual params body scope dV kV doc pm an cdv ct) ps sp := by
  refine ⟨len, fun A outer s H args us vs Q E hr e0 hb r hsp => ?_⟩
  have hl := len _ _ _ _ hsp
  have KX : K.In s.heap := e0.mod.kin.keeps fun b o e => (e0.bs b o e).1
  have lim : s.heap.NoLimit := e0.mod.nolimit.keeps fun b o e => (e0.bs b o e).1
  have hkind : ∀ y ∈ ps.zip us, scope.names.lookup y.1 = some .local ∨ (scope.names.lookup y.1 = some .cell ∧ ((cellsFrom (s.heap.objs.size + 1) scope.names []).lookup y.1).isSome = true) := fun ⟨n, v⟩ hy => by
    rcases S.par n (List.of_mem_zip hy).1 with q | q
    · exact .inl q
    · exact .inr ⟨q, PySem.W.cellsFrom_some _ _ _ (.inl q)⟩
  refine codeAny_call_function hr.depth (KX _ _ lk) rfl S.co S.gen rfl (PySem.W.codeRec_of KX hcd) (hb _ _ _ _ ?_)
  refine wpAny_newFunctionEnv_cells S.kind hkind fun env he s1 x => ?_
  subst he
  refine ⟨lim.keeps x.toInCall.keep, codeAny_func ?_⟩
  obtain ⟨t, ht, hq⟩ := hbody A outer s H vs Q E (hr.deeper _) hsp
  have I : Inv (cxOf CX P w K mg base N qual scope f cdv A outer s H E) [] (start N vs) H s1 := inv_start S hr.hd e0 hl r x
  refine wpAny_mono (ht [] s1 (start N vs) H _ I hq) (fun fl s' hs => ?_) fun e s' hs => hs
  have fin : ∀ {σ' : St} {H' : Hp} {v : V} {u : Value}, Inv (cxOf CX P w K mg base N qual scope f cdv A outer s H E) [] σ' H' s' → RelV v u → Q v H' → CE outer P w H s Q u s' :=
    fun {σ' H' v u} J rv q => ⟨v, H', J.os, J.bare, J.base, J.hok, rv, q⟩
  cases fl with
  | ret u =>
    obtain ⟨v, σ', H', J, rv, q⟩ := hs
    exact fin J rv q
  | next =>
    obtain ⟨σ', H', J, q⟩ := hs
    exact fin (v := V.non) (u := Value.none) J rfl q
  | brk =>
    obtain ⟨_, _, _, q⟩ := hs
    exact False.elim q
  | cont =>
    obtain ⟨_, _, _, q⟩ := hs
    exact False.elim q
end L2

namespace L2
open PySem PySem.Spec PyProof.Rows
section
variable {X : Cx} {x : Str} {p pos : Pos} {e : Expr} {es : List Expr} {t : TA} {id T : String} {r : List V → Hp → VK → Prop}

def tCB (r : List V → Hp → VK → Prop) (t : TA) : TE := fun σ H Q => t σ H fun vs H1 => r vs H1 Q
/-- f(e, ..), f a built-in function -/
theorem pe_callB (hc : CallR X (.builtin id) r) (hg : Gl X x) (hm : X.mg x = none) (hv : bootBuiltins x = some (.builtin id)) (ha : PA X (e :: es) t) (hn : x ≠ "__name__" := by decide) (hdb : (x == ("__debug__" : Str)) = false := by decide)
    (he : starEach (e :: es) X.env = (false, eval e X.env) :: starEach es X.env := by rfl) (hpl : (backTo pos (starEach es X.env)).any (·.1) = false := by rfl) : PE X (.Call (.Name x p) (e :: es) [] pos) (tCB r t) := by
  intro pins s σ H Q I h
  refine wpAny_Call_Name_kw (ld_blt I hg hm hv ?_ hn hdb)
  exact PyProof.Rows.callWith_builtin1 (thn (ha pos pins s σ H _ I h) fun us s1 ⟨vs, H1, I1, r1, q1⟩ => hc pins s1 σ H1 vs us Q I1 r1 q1) he hpl
/-- T(e, ..), T a built-in type -/
theorem pe_callTy (hc : CallR X (.type T) r) (hg : Gl X x) (hm : X.mg x = none) (hv : bootBuiltins x = some (.type T)) (ha : PA X (e :: es) t) (hn : x ≠ "__name__" := by decide) (hdb : (x == ("__debug__" : Str)) = false := by decide)
    (he : starEach (e :: es) X.env = (false, eval e X.env) :: starEach es X.env := by rfl) (hpl : (backTo pos (starEach es X.env)).any (·.1) = false := by rfl) : PE X (.Call (.Name x p) (e :: es) [] pos) (tCB r t) := by
  intro pins s σ H Q I h
  refine wpAny_Call_Name_kw (ld_blt I hg hm hv ?_ hn hdb)
  exact PyProof.Rows.callWith_type1 (thn (ha pos pins s σ H _ I h) fun us s1 ⟨vs, H1, I1, r1, q1⟩ => hc pins s1 σ H1 vs us Q I1 r1 q1) he hpl
end
end L2

namespace HT
open PySem PyProof.Rows

section
open PySem.SeqAt
open PySem.AutoSeq1 (wpAny_loadPart')
open PySem.MeetsSeq PySem.MeetsSeq2 PySem.MeetsSeq3

end

section
variable {prog : Program} {w : World} {A : Around} {E : Value → Shared → Prop} {s : Shared}

/-! ### t[a:b], not the whole -/
/-- a slice's bound as a place among n (d where it is left out) -/
def sIx (n d : Nat) : Option Int → Nat
  | none => d
  | some v => if v < 0 then (v + (n : Int)).toNat else min v.toNat n
theorem sIx_none (n d : Nat) : sIx n d none = d := rfl
theorem sIx_nat (n d k : Nat) : sIx n d (some (k : Int)) = min k n := by
  show (if (k : Int) < 0 then ((k : Int) + (n : Int)).toNat else min (k : Int).toNat n) = min k n
  rw [if_neg (by omega), Int.toNat_natCast]
theorem sIx_le (n d : Nat) (hd : d ≤ n) (o : Option Int) : sIx n d o ≤ n := by
  cases o with
  | none => exact hd
  | some v =>
    show (if v < 0 then (v + (n : Int)).toNat else min v.toNat n) ≤ n
    by_cases hv : v < 0
    · rw [if_pos hv]; omega
    · rw [if_neg hv]; exact Nat.min_le_right _ _
end
end HT

namespace L2
open PySem PySem.Spec PyProof.Rows

/-! ### the parts of a slice -/
abbrev TO := St → Hp → (Option Int → Hp → Prop) → Prop
/-- a slice's part (left out, or an int) -/
def PO (X : Cx) (e : Option Expr) (t : TO) : Prop :=
  ∀ (pins : List (Addr × Obj)) (s : Shared) (σ : St) (H : Hp) (Q : Option Int → Hp → Prop), Inv X pins σ H s → t σ H Q →
    wpAny (model X.prog X.w) X.A (evalPart e X.env) (fun u s' => ∃ o H', Inv X pins σ H' s' ∧ IsPart u o ∧ Q o H') X.xe s
def tNoPart : TO := fun _ H Q => Q none H
def tPart (t : TE) : TO := fun σ H Q => t σ H fun x H1 => ∃ i, x = .int i ∧ Q (some i) H1

theorem intsAre_of {ns : List Int} : ∀ {us : List Value}, Vals (ns.map V.int) us → IntsAre us ns := by
  induction ns with
  | nil => intro us r; rw [List.map_nil] at r; cases r; exact .nil
  | cons n ns ih =>
    intro us r
    rw [List.map_cons] at r
    cases r with
    | cons r1 r2 =>
      obtain ⟨t, e⟩ := r1
      subst e
      exact .cons n t (ih r2)

section
variable {X : Cx} {e : Expr} {te : TE} {lo hi : Option Expr} {tl th : TO} {pos p2 : Pos}

theorem po_none : PO X none tNoPart := by
  intro pins s σ H Q I h
  rw [evalPart_none]
  exact wpAny_pure ⟨none, H, I, .none, h⟩
theorem po_some (h : PE X e te) : PO X (some e) (tPart te) := by
  intro pins s σ H Q I hw
  rw [evalPart_some]
  refine thn (h pins s σ H _ I hw) fun u s1 ⟨x, H1, I1, r1, q1⟩ => ?_
  obtain ⟨i, rfl, q⟩ := q1
  obtain ⟨t, rfl⟩ := r1
  exact ⟨some i, H1, I1, .int i t, q⟩

/-- what a slice of a value is, by values: the slice object stands at sl -/
def SlR (X : Cx) (r : V → Option Int → Option Int → Hp → VK → Prop) : Prop :=
  ∀ (pins : List (Addr × Obj)) (s : Shared) (σ : St) (H : Hp) (x : V) (v vl vu : Value) (lo hi : Option Int) (sl : Addr) (Q : VK), Inv X pins σ H s → RelV x v → s.heap.IsSliceOf sl vl vu .none → IsPart vl lo → IsPart vu hi → r x lo hi H Q →
    ∃ T id, typeLookup (.type T) "__getitem__" = pure (some (.builtin id)) ∧ s.TypeIs v T ∧ wpAny (model X.prog X.w) X.A (getItem v (.ref sl)) (EP X pins σ Q) X.xe s
def tSl (r : V → Option Int → Option Int → Hp → VK → Prop) (te : TE) (tl th : TO) : TE := fun σ H Q => te σ H fun x H1 => tl σ H1 fun l H2 => th σ H2 fun u H3 => r x l u H3 Q
/-- a[lo:hi], any a -/
theorem pe_slice {r : V → Option Int → Option Int → Hp → VK → Prop} (hr : SlR X r) (he : PE X e te) (hl : PO X lo tl) (hu : PO X hi th) : PE X (.Subscript e (.Slice lo hi none p2) pos) (tSl r te tl th) := by
  intro pins s σ H Q I h
  refine Subscript_ (thn (he pins s σ H _ I h) fun v s1 ⟨x, H1, I1, r1, q1⟩ => ?_)
  refine wpAny_Slice (thn (hl pins s1 σ H1 _ I1 q1) fun vl s2 ⟨l, H2, I2, pl, q2⟩ => thn (hu pins s2 σ H2 _ I2 q2) fun vu s3 ⟨u, H3, I3, pu, q3⟩ => ?_)
  rw [evalPart_none]
  refine wpAny_pure ?_
  have I4 : Inv X pins σ H3 { s3 with heap := s3.heap.push { cls := .type "slice", data := .fields #[vl, vu, .none] } } := I3.kept (t' := s3.toks) fun b ob q => Heap.get?_push_of_some _ q
  obtain ⟨T, id, hT, ht, hg⟩ := hr pins { s3 with heap := s3.heap.push { cls := .type "slice", data := .fields #[vl, vu, .none] } } σ H3 x v vl vu l u s3.heap.objs.size Q I4 r1 (Heap.IsSliceOf.new ..) pl pu q3
  show wpAny (model X.prog X.w) X.A (subscriptTail e (.Slice lo hi none p2) v (.ref s3.heap.objs.size)) (EP X pins σ Q) X.xe { s3 with heap := s3.heap.push { cls := .type "slice", data := .fields #[vl, vu, .none] } }
  exact tail_any (ops := [.ref s3.heap.objs.size, v]) ht hT hg (by with_unfolding_all rfl)

/-- the items of xs[lo:hi] -/
def cutV (xs : List V) (lo hi : Option Int) : List V := (xs.drop (HT.sIx xs.length 0 lo)).take (HT.sIx xs.length xs.length hi - HT.sIx xs.length 0 lo)
theorem cutV_length (xs : List V) (lo hi : Option Int) : (cutV xs lo hi).length ≤ xs.length := by
  unfold cutV
  rw [List.length_take, List.length_drop]
  omega
/-! ### t < u, t + u -/
end
end L2

namespace L2
open PySem PySem.Spec PyProof.Rows

/-! ### places -/
/-- the place that an index of any sign means -/
def ixN (n : Nat) (i : Int) : Option Nat := if 0 ≤ i then (if i < n then some i.toNat else none) else if -(n : Int) ≤ i then some (i + n).toNat else none
def atI {α : Type} (xs : List α) (i : Int) : Option α := (ixN xs.length i).bind fun j => xs[j]?
theorem ixN_seq {n : Nat} {i : Int} {j : Nat} (h : ixN n i = some j) : seqIndex? i n = some j ∧ j < n ∧ -(n : Int) ≤ i ∧ i < n := by
  unfold ixN at h
  by_cases h0 : 0 ≤ i
  · rw [if_pos h0] at h
    by_cases h1 : i < n
    · rw [if_pos h1] at h
      have e : i.toNat = j := Option.some.inj h
      exact ⟨by rw [seqIndex_of h0 h1, e], by omega, by omega, h1⟩
    · rw [if_neg h1] at h; cases h
  · rw [if_neg h0] at h
    by_cases h1 : -(n : Int) ≤ i
    · rw [if_pos h1] at h
      have e : (i + n).toNat = j := Option.some.inj h
      exact ⟨by rw [seqIndex_neg (by omega) h1, e], by omega, h1, by omega⟩
    · rw [if_neg h1] at h; cases h
theorem atI_get {α : Type} {xs : List α} {i : Int} {v : α} (h : atI xs i = some v) : ∃ j, seqIndex? i xs.length = some j ∧ xs[j]? = some v ∧ j < xs.length ∧ -(xs.length : Int) ≤ i ∧ i < xs.length := by
  unfold atI at h
  cases e : ixN xs.length i with
  | none => rw [e] at h; cases h
  | some j =>
    rw [e] at h
    obtain ⟨h1, h2, h3, h4⟩ := ixN_seq e
    exact ⟨j, h1, h, h2, h3, h4⟩
theorem atI_nat {α : Type} {xs : List α} {j : Nat} {v : α} (h : xs[j]? = some v) : atI xs (j : Int) = some v := by
  have hj : j < xs.length := (List.getElem?_eq_some_iff.mp h).1
  have e : ixN xs.length (j : Int) = some j := by
    unfold ixN
    rw [if_pos (by omega), if_pos (by omega)]; simp
  unfold atI; rw [e]; exact h
/-! ### what may be subscripted -/
/-- what stands as an index of a plain subscript -/
def PlainIx (b : Expr) : Prop := ∀ o i, subscripted b false o i = operate [o, i] (getItem o i)
/-- a subscript by values -/
def IxR (X : Cx) (r : R2) : Prop :=
  ∀ (value slice : Expr) (pins : List (Addr × Obj)) (s : Shared) (σ : St) (H : Hp) (x y : V) (v u : Value) (Q : VK), Inv X pins σ H s → RelV x v → RelV y u → r x y H Q →
    subscripted slice false v u = operate [v, u] (getItem v u) → wpAny (model X.prog X.w) X.A (subscriptTail value slice v u) (EP X pins σ Q) X.xe s
/-- a call of a builtin's method by values: the receiver, the arguments -/
def MtR (X : Cx) (id : String) (r : V → List V → Hp → VK → Prop) : Prop :=
  ∀ (pins : List (Addr × Obj)) (s : Shared) (σ : St) (H : Hp) (x : V) (xs : List V) (v : Value) (us : List Value) (Q : VK), Inv X pins σ H s → RelV x v → Vals xs us → r x xs H Q →
    wpAny (model X.prog X.w) X.A (call (.builtin id) (v :: us)) (EP X pins σ Q) X.xe s
section
variable {X : Cx} {a b : Expr} {ta tb : TE} {pos : Pos}
/-- a[b] -/
theorem pe_ix {r : R2} (hr : IxR X r) (ha : PE X a ta) (hb : PE X b tb) (hs : PlainIx b) : PE X (.Subscript a b pos) (tOp r ta tb) := by
  intro pins s σ H Q I h
  exact Subscript_ (binT ha hb I h fun v u s2 x y H2 I2 rx ry q => hr a b pins s2 σ H2 x y v u Q I2 rx ry q (hs _ _))

def rIxL (K : PySem.W.Frag) : R2 := fun x y H Q => ∃ p xs i v, x = .ref p ∧ y = .int i ∧ SqL K H p xs ∧ atI xs i = some v ∧ Q v H
def rIxS : R2 := fun x y H Q => ∃ z i c, x = .str z ∧ y = .int i ∧ z.length ≤ sizeLine ∧ atI z.cps.toList i = some c ∧ Q (.str ⟨#[c]⟩) H
theorem ix_list : IxR X (rIxL X.K) := by
  intro value slice pins s σ H x y v u Q I rx ry h hs
  obtain ⟨p, xs, i, z, rfl, rfl, hq, he, q⟩ := h
  cases rx
  obtain ⟨t, rfl⟩ := ry
  obtain ⟨its, r, pl, hz⟩ := I.list hq
  obtain ⟨j, h1, h2, h3, h4, h5⟩ := atI_get he
  obtain ⟨w, ew, rw'⟩ := r.get h2
  have hl := r.length
  have hn := line63
  have fin : EP X pins σ Q w s := ⟨z, H, I, rw', q⟩
  by_cases h0 : 0 ≤ i
  · have hj : i.toNat = j := by
      rw [seqIndex_of h0 h5] at h1
      exact Option.some.inj h1
    exact item_listR pl.isList h0 (by omega) (by rw [hj]; simpa using ew) fin hs
  · have hj : (i + (its.toArray.size : Int)).toNat = j := by
      rw [seqIndex_neg (by omega) h4] at h1
      rw [List.size_toArray, ← hl]
      exact Option.some.inj h1
    exact subscriptTail_builtinR (x := w) pl.isList.typeIs slot_list_getitem.lookup
      (wpAny_getItem_list_neg (Q := fun r s' => r = w ∧ EP X pins σ Q r s') pl.isList (by omega) (by rw [List.size_toArray] <;> omega) (by omega) (by rw [hj]; simpa using ew) ⟨rfl, fin⟩) hs
theorem ix_str : IxR X rIxS := by
  intro value slice pins s σ H x y v u Q I rx ry h hs
  obtain ⟨z, i, c, rfl, rfl, hz, he, q⟩ := h
  obtain ⟨t, rfl⟩ := rx
  obtain ⟨t', rfl⟩ := ry
  obtain ⟨j, h1, h2, h3, h4, h5⟩ := atI_get he
  have hl : z.cps.toList.length = z.length := by simp [Str.length]
  rw [hl] at h1 h4 h5
  have hn := line63
  exact tail_any (typeIs_str s z t) slot_str_getitem.lookup (getItem_str (c := c) (by
    have e1 : decide (i < -(2 ^ 63 : Int)) = false := decide_eq_false (by omega)
    have e2 : decide (i ≥ 2 ^ 63) = false := decide_eq_false (by omega)
    rw [e1, e2, Bool.or_false]) (by rw [h1]; simpa using h2) ⟨.str ⟨#[c]⟩, H, I.tok _, ⟨_, rfl⟩, q⟩) hs
/-! ### xs[i] = v, any sign -/
/-- the list's object behind a store -/
theorem mapSeq_set (its : List Value) (n j : Nat) (u : Value) : Obj.mapSeq (·.setIfInBounds j u) { cls := .type "list", data := .seq its.toArray n } = { cls := .type "list", data := .seq (its.set j u).toArray n } := by
  simp [Obj.mapSeq]
theorem Inv.lst {pins : List (Addr × Obj)} {σ : St} {H : Hp} {s : Shared} {p : Addr} {xs : List V} (I : Inv X pins σ H s) (h : H p = some (.lst xs)) :
    ∃ (its : List Value) (n : Nat), Vals xs its ∧ s.heap.get? p = some { cls := .type "list", data := .seq its.toArray n } ∧ xs.length ≤ sizeLine := by
  obtain ⟨z, its, n, r, e⟩ := I.hok p _ h
  exact ⟨its, n, r, e, z⟩
/-- the list at p is written by an update of its object -/
theorem Inv.lstUpd {pins : List (Addr × Obj)} {σ : St} {H : Hp} {s : Shared} {p : Addr} {xs ys : List V} {its its' : List Value} {n n' : Nat} {f : Obj → Obj} (I : Inv X pins σ H s) (h : H p = some (.lst xs))
    (ho : s.heap.get? p = some { cls := .type "list", data := .seq its.toArray n }) (hf : f { cls := .type "list", data := .seq its.toArray n } = { cls := .type "list", data := .seq its'.toArray n' }) (r : Vals ys its') (hz : ys.length ≤ sizeLine) (t : Nat) :
    Inv X pins σ (upd H p (.lst ys)) { s with heap := s.heap.update p f, toks := t } := by
  have e : (s.heap.update p f).get? p = some { cls := .type "list", data := .seq its'.toArray n' } := by
    rw [Heap.get?_update_self f ho (by rw [hf] <;> rfl), hf]
  refine I.write (x := p) (e := p) (by rw [h]; trivial) (.inl rfl) (fun b u hb q => (Heap.get?_update_other _ _ (Ne.symm hb)).trans q) ⟨_, e⟩ ?_
  exact ⟨hz, its', n', r, e⟩
def rSetL : V → V → V → Hp → (Hp → Prop) → Prop := fun o i v H Q => ∃ p xs k j, o = .ref p ∧ i = .int k ∧ H p = some (.lst xs) ∧ ixN xs.length k = some j ∧ Q (upd H p (.lst (xs.set j v)))
theorem set_list : PSet X rSetL := by
  intro pins s σ H o i v ov iv u Q I ro ri rv h
  obtain ⟨p, xs, k, j, rfl, rfl, hp, hj, q⟩ := h
  cases ro
  obtain ⟨t, rfl⟩ := ri
  obtain ⟨its, n, r, ho, hz⟩ := I.lst hp
  obtain ⟨h1, h2, h3, h4⟩ := ixN_seq hj
  have hl := r.length
  have hn := line63
  have I' : Inv X pins σ (upd H p (.lst (xs.set j v))) { s with heap := s.heap.update p (Obj.mapSeq (·.setIfInBounds j u)) } :=
    I.lstUpd hp ho (mapSeq_set its n j u) (r.set rv j) (by rw [List.length_set]; exact hz) s.toks
  by_cases h0 : 0 ≤ k
  · have hk : k.toNat = j := by
      rw [seqIndex_of h0 h4] at h1
      exact Option.some.inj h1
    exact PySem.W.ki_setAt ho h0 (by omega) (by rw [List.size_toArray, ← hl]; exact h4) (by rw [hk]; exact ⟨_, I', q⟩)
  · have hk : (k + (its.toArray.size : Int)).toNat = j := by
      rw [seqIndex_neg (by omega) h3] at h1
      rw [List.size_toArray, ← hl]
      exact Option.some.inj h1
    exact PySem.W.ki_setBack ho (by omega) (by rw [List.size_toArray, ← hl]; exact h3) (by omega) (by rw [hk]; exact ⟨_, I', q⟩)

/-! ### slices -/
theorem slice_bounds (lo hi : Option Int) (n : Nat) : (sliceBounds lo hi none n).1 = ((HT.sIx n 0 lo : Nat) : Int) ∧ (sliceBounds lo hi none n).2.1 = ((HT.sIx n n hi : Nat) : Int) ∧ (sliceBounds lo hi none n).2.2 = 1 := by
  refine ⟨?_, ?_, rfl⟩
  · cases lo with
    | none => simp [sliceBounds, HT.sIx]
    | some i =>
      simp only [sliceBounds, HT.sIx, Option.getD_none, show (1 : Int) > 0 by decide, if_true]
      by_cases h : i < 0
      · simp only [h, if_true] <;> omega
      · simp only [h, if_false] <;> omega
  · cases hi with
    | none => simp [sliceBounds, HT.sIx]
    | some i =>
      simp only [sliceBounds, HT.sIx, Option.getD_none, show (1 : Int) > 0 by decide, if_true]
      by_cases h : i < 0
      · simp only [h, if_true] <;> omega
      · simp only [h, if_false] <;> omega
theorem slicePick_cut (its : List Value) (lo hi : Option Int) : slicePick its.toArray lo hi none = ((its.drop (HT.sIx its.length 0 lo)).take (HT.sIx its.length its.length hi - HT.sIx its.length 0 lo)).toArray := by
  obtain ⟨h1, h2, h3⟩ := slice_bounds lo hi its.toArray.size
  unfold slicePick
  rw [h1, h2, h3]
  simp only [sliceRange_one, pick_run, List.size_toArray] <;> rfl
/-- xs[lo:hi] of a list: a new list -/
def rSlL (K : PySem.W.Frag) : V → Option Int → Option Int → Hp → VK → Prop := fun x lo hi H Q => ∃ a xs, x = .ref a ∧ SqL K H a xs ∧ ∀ p, H p = none → Q (.ref p) (upd H p (.lst (cutV xs lo hi)))
theorem sl_list : SlR X (rSlL X.K) := by
  intro pins s σ H x v vl vu lo hi sl Q I rx hs pl pu h
  obtain ⟨a, xs, rfl, hx, q⟩ := h
  cases rx
  obtain ⟨its, r, ht, hz⟩ := I.list hx
  have hlen := r.length
  refine ⟨"list", _, slot_list_getitem.lookup, ht.isList.typeIs, ?_⟩
  refine wpAny_getItem_list_slice ht.isList hs pl pu .none (by simp) ?_ (by rw [List.size_toArray] <;> omega)
  rw [slicePick_cut, ← hlen]
  refine ⟨.ref s.heap.objs.size, _, I.laid (t' := s.toks) (o := .lst (cutV xs lo hi)) (fun b ob q => Heap.get?_push_of_some _ q) (Nat.le_refl _) ?_, rfl, q _ (I.hok.fresh (Nat.le_refl _))⟩
  exact ⟨Nat.le_trans (cutV_length xs lo hi) hz, _, 0, (r.drop (HT.sIx xs.length 0 lo)).take (HT.sIx xs.length xs.length hi - HT.sIx xs.length 0 lo), Heap.get?_push_size _ rfl⟩

/-! ### in, not in: flat items -/
def flatV : V → Bool
  | .non => true
  | .bl _ => true
  | .int _ => true
  | .str _ => true
  | _ => false
/-- == of flat values -/
def eqV : V → V → Bool
  | .non, .non => true
  | .bl a, .bl b => a == b
  | .bl a, .int b => (if a then 1 else 0) == b
  | .int a, .bl b => a == (if b then 1 else 0)
  | .int a, .int b => a == b
  | .str a, .str b => a == b
  | _, _ => false
theorem eqAt_V {A : Around} {s : Shared} {y x : V} {u v : Value} (ry : RelV y u) (rx : RelV x v) (fy : flatV y = true) (fx : flatV x = true) : SeqAt.EqAt A s u v (eqV y x) := by
  cases y with
  | non =>
    cases ry
    cases x with
    | non => cases rx; exact SeqAt.EqAt.same _
    | bl b => cases rx; exact SeqAt.EqAt.none_bool b
    | int b => obtain ⟨t, rfl⟩ := rx; exact SeqAt.EqAt.none_int b t
    | str b => obtain ⟨t, rfl⟩ := rx; exact SeqAt.EqAt.none_str b t
    | _ => exact absurd (show false = true from fx) Bool.false_ne_true
  | bl a =>
    cases ry
    cases x with
    | non => cases rx; exact SeqAt.EqAt.bool_none a
    | bl b => cases rx; exact SeqAt.EqAt.bool_bool a b
    | int b => obtain ⟨t, rfl⟩ := rx; exact SeqAt.EqAt.bool_int a b t
    | str b => obtain ⟨t, rfl⟩ := rx; exact SeqAt.EqAt.bool_str a b t
    | _ => exact absurd (show false = true from fx) Bool.false_ne_true
  | int a =>
    obtain ⟨t', rfl⟩ := ry
    cases x with
    | non => cases rx; exact SeqAt.EqAt.int_none a t'
    | bl b => cases rx; exact SeqAt.EqAt.int_bool a t' b
    | int b => obtain ⟨t, rfl⟩ := rx; exact SeqAt.EqAt.int_int a t' b t
    | str b => obtain ⟨t, rfl⟩ := rx; exact SeqAt.EqAt.int_str a t' b t
    | _ => exact absurd (show false = true from fx) Bool.false_ne_true
  | str a =>
    obtain ⟨t', rfl⟩ := ry
    cases x with
    | non => cases rx; exact SeqAt.EqAt.str_none a t'
    | bl b => cases rx; exact SeqAt.EqAt.str_bool a t' b
    | int b => obtain ⟨t, rfl⟩ := rx; exact SeqAt.EqAt.str_int a t' b t
    | str b => obtain ⟨t, rfl⟩ := rx; exact SeqAt.EqAt.str_str a t' b t
    | _ => exact absurd (show false = true from fx) Bool.false_ne_true
  | _ => exact absurd (show false = true from fy) Bool.false_ne_true
/-- the items' answers, read off the values (a value's own answer does not lean on its token) -/
def eqU (x : V) (u : Value) : Bool := match u with
  | .none => eqV .non x
  | .bool b => eqV (.bl b) x
  | .int i _ => eqV (.int i) x
  | .str z _ => eqV (.str z) x
  | _ => false
theorem eqU_of {x y : V} {u : Value} (r : RelV y u) (f : flatV y = true) : eqU x u = eqV y x := by
  cases y with
  | non => cases r; rfl
  | bl b => cases r; rfl
  | int i => obtain ⟨t, rfl⟩ := r; rfl
  | str z => obtain ⟨t, rfl⟩ := r; rfl
  | _ => exact absurd (show false = true from f) Bool.false_ne_true
theorem any_eqU {x : V} : ∀ {xs : List V} {us : List Value}, Vals xs us → xs.all flatV = true → us.any (eqU x) = xs.any fun y => eqV y x
  | _, _, .nil, _ => rfl
  | y :: xs, u :: us, .cons r t, f => by
    rw [List.all_cons, Bool.and_eq_true] at f
    rw [List.any_cons, List.any_cons, eqU_of r f.1, any_eqU t f.2]
theorem mem_eqAt {A : Around} {s : Shared} {x : V} {v : Value} (rx : RelV x v) (fx : flatV x = true) : ∀ {xs : List V} {us : List Value}, Vals xs us → xs.all flatV = true → ∀ u ∈ us, SeqAt.EqAt A s u v (eqU x u)
  | _, _, .nil, _ => fun u hu => by cases hu
  | y :: xs, u :: us, .cons r t, f => fun u' hu => by
    rw [List.all_cons, Bool.and_eq_true] at f
    rcases List.mem_cons.mp hu with rfl | hu
    · rw [eqU_of r f.1]; exact eqAt_V r rx f.1 fx
    · exact mem_eqAt rx fx t f.2 u' hu
def inV (x : V) (xs : List V) : Bool := xs.any fun y => eqV y x
/-- x in a list or tuple of flat items -/
def rIn (K : PySem.W.Frag) (neg : Bool) : R2 := fun x y H Q => ∃ p xs, y = .ref p ∧ (SqL K H p xs ∨ SqT K H p xs) ∧ flatV x = true ∧ xs.all flatV = true ∧ Q (.bl (if neg then !inV x xs else inV x xs)) H
theorem op_notIn_seq : OpR X (compareOp .NotIn) (rIn X.K true) := by
  intro pins s σ H x y v u Q I rx ry h
  obtain ⟨p, xs, rfl, hq, fx, fs, q⟩ := h
  cases ry
  rcases hq with hq | hq
  · obtain ⟨its, r, pl, hz⟩ := I.list hq
    refine SeqAt.notIn_listAt (eqU x) pl.isList (fun w hw => mem_eqAt rx fx r fs w (by simpa using hw)) ⟨.bl _, H, I, rfl, ?_⟩
    rw [show its.toArray.any (eqU x) = its.any (eqU x) by simp, any_eqU r fs]
    exact q
  · obtain ⟨its, r, pl, hz⟩ := I.tuple hq
    refine SeqAt.notIn_tupleAt (eqU x) pl (fun w hw => mem_eqAt rx fx r fs w (by simpa using hw)) ⟨.bl _, H, I, rfl, ?_⟩
    rw [show its.toArray.any (eqU x) = its.any (eqU x) by simp, any_eqU r fs]
    exact q
/-! ### len, list(x), tuple(x) of any list or tuple that is read -/
theorem call_len_seq : CallR X (.builtin "len") (fun xs H Q => ∃ p ys, xs = [.ref p] ∧ (SqL X.K H p ys ∨ SqT X.K H p ys) ∧ Q (.int ys.length) H) := by
  intro pins s σ H xs us Q I r h
  obtain ⟨p, ys, rfl, hq, q⟩ := h
  obtain ⟨u, rfl, rx⟩ := vals1 r
  cases rx
  have hn := line63
  rcases hq with hq | hq
  · obtain ⟨its, r', pl, hz⟩ := I.list hq
    have hlen := r'.length
    exact Calls.call_len_list pl.isList (by simp only [List.size_toArray] <;> omega) ⟨.int ys.length, H, I.tok _, ⟨s.toks + 1, by rw [List.size_toArray, hlen]⟩, q⟩
  · obtain ⟨its, r', pl, hz⟩ := I.tuple hq
    have hlen := r'.length
    exact len_tuple pl (by simp only [List.size_toArray] <;> omega) ⟨.int ys.length, H, I.tok _, ⟨s.toks + 1, by rw [List.size_toArray, hlen]⟩, q⟩
theorem call_len_str : CallR X (.builtin "len") (fun xs H Q => ∃ z, xs = [.str z] ∧ z.length ≤ sizeLine ∧ Q (.int z.length) H) := by
  intro pins s σ H xs us Q I r h
  obtain ⟨z, rfl, hz, q⟩ := h
  obtain ⟨u, rfl, t, rfl⟩ := vals1 r
  have hn := line63
  exact len_str (by omega) ⟨.int z.length, H, I.tok _, ⟨_, rfl⟩, q⟩
theorem call_list_of : CallR X (.type "list") (fun xs H Q => ∃ p ys, xs = [.ref p] ∧ (SqL X.K H p ys ∨ SqT X.K H p ys) ∧ ∀ l, H l = none → Q (.ref l) (upd H l (.lst ys))) := by
  intro pins s σ H xs us Q I r h
  obtain ⟨p, ys, rfl, hq, q⟩ := h
  obtain ⟨u, rfl, rx⟩ := vals1 r
  cases rx
  have fin : ∀ (its : List Value), Vals ys its → ys.length ≤ sizeLine → ∀ (h' : Heap) (c' : Nat), (∀ b o', s.heap.get? b = some o' → h'.get? b = some o') →
      h'.get? s.heap.objs.size = some { cls := .type "list", dict := none, data := .seq its.toArray c', slots := #[] } → EP X pins σ Q (.ref s.heap.objs.size) { s with heap := h' } := fun its r' hz h' c' kp e =>
    ⟨.ref s.heap.objs.size, _, I.laid (t' := s.toks) kp (Nat.le_refl _) (show ObjOk X.prog X.w _ h' _ (.lst ys) from ⟨hz, its, c', r', e⟩), rfl, q _ (I.hok.fresh (Nat.le_refl _))⟩
  rcases hq with hq | hq
  · obtain ⟨its, r', pl, hz⟩ := I.list hq
    have hlen := r'.length
    obtain ⟨o, ho, hc, n, hd⟩ := pl.isList
    exact call_list_seq p (.inl rfl) ho hc hd (fun h' c' kp e => fin its r' hz h' c' kp e) (by simp only [List.size_toArray] <;> omega)
  · obtain ⟨its, r', pl, hz⟩ := I.tuple hq
    have hlen := r'.length
    obtain ⟨o, ho, hc, n, hd⟩ := pl
    exact call_list_seq p (.inr rfl) ho hc hd (fun h' c' kp e => fin its r' hz h' c' kp e) (by simp only [List.size_toArray] <;> omega)
/-! ### the call of a builtin's method: o.m(..) -/
/-- the value is of that builtin type -/
def tyV (K : PySem.W.Frag) (T : String) (x : V) (H : Hp) : Prop := match x with
  | .str _ => T = "str"
  | .int _ => T = "int"
  | .ref p => (T = "list" ∧ ∃ xs, SqL K H p xs) ∨ (T = "tuple" ∧ ∃ o, K.lookup p = some o ∧ o.cls = .type "tuple" ∧ o.dict = none) ∨
      (T = "dict" ∧ ((∃ kvs, H p = some (.dK kvs)) ∨ ∃ kvs, H p = some (.dT kvs))) ∨ (T = "set" ∧ ∃ S n, H p = some (.set S n))
  | _ => False
theorem tyV_is {pins : List (Addr × Obj)} {σ : St} {H : Hp} {s : Shared} {T : String} {x : V} {v : Value} (I : Inv X pins σ H s) (r : RelV x v) (ty : tyV X.K T x H) :
    s.TypeIs v T ∧ ∀ a, v = .ref a → ∃ ob, s.heap.get? a = some ob ∧ ob.dict = none := by
  cases x with
  | str z =>
    obtain ⟨t, rfl⟩ := r
    cases (show T = "str" from ty)
    exact ⟨typeIs_str s z t, fun _ e => nomatch e⟩
  | int i =>
    obtain ⟨t, rfl⟩ := r
    cases (show T = "int" from ty)
    exact ⟨typeIs_int s i t, fun _ e => nomatch e⟩
  | ref p =>
    cases r
    rcases ty with ⟨rfl, xs, hq⟩ | ⟨rfl, o, hk, hc, hd⟩ | ⟨rfl, hk⟩ | ⟨rfl, S, n, hk⟩
    · obtain ⟨its, _, pl, _⟩ := I.list hq
      refine ⟨pl.isList.typeIs, fun a e => ?_⟩
      cases e
      obtain ⟨o, n, e, c, hd, _⟩ := pl
      exact ⟨o, e, hd⟩
    · refine ⟨⟨o, I.kIn p o hk, hc⟩, fun a e => ?_⟩
      cases e
      exact ⟨o, I.kIn _ o hk, hd⟩
    · have z : ∃ o, s.heap.get? p = some o ∧ o.ExactDict := by
        rcases hk with ⟨kvs, hk⟩ | ⟨kvs, hk⟩
        · obtain ⟨_, _, _, _, o, _, _, e, ex, _⟩ := I.hok p _ hk
          exact ⟨o, e, ex⟩
        · obtain ⟨_, _, _, _, o, _, _, e, ex, _⟩ := I.hok p _ hk
          exact ⟨o, e, ex⟩
      obtain ⟨o, e, ex⟩ := z
      refine ⟨⟨o, e, ex.1⟩, fun a e2 => ?_⟩
      cases e2
      exact ⟨o, e, ex.2.1⟩
    · obtain ⟨o, _, _, _, e, ex, _⟩ := I.hok p _ hk
      refine ⟨⟨o, e, ex.1⟩, fun a e2 => ?_⟩
      cases e2
      exact ⟨o, e, ex.2.1⟩
  | _ => exact False.elim ty
def tBM (K : PySem.W.Frag) (T : String) (r : V → List V → Hp → VK → Prop) (to : TE) (t : TA) : TE := fun σ H Q => to σ H fun x H1 => tyV K T x H1 ∧ t σ H1 fun xs H2 => r x xs H2 Q
variable {o e : Expr} {es : List Expr} {to : TE} {t : TA} {name : Str} {apos cpos : Pos} {T id : String} {r : V → List V → Hp → VK → Prop}
theorem pe_bm (pa : PlainAttrs T) (slot : Slot T name id) (hty : typeOf (.builtin id) = pure (.type "method_descriptor")) (hm : MtR X id r) (ho : PE X o to) (ha : PA X (e :: es) t)
    (hbase : attributeBase o name X.env (eval o X.env) = eval o X.env := by rfl)
    (hfew : ((backTo cpos (starEach (e :: es) X.env)).all (fun x => !x.1) && (backToKw cpos (keywordEach [] X.env)).all (fun x => x.1.isSome)
      && decide ((e :: es).length + ([] : List Keyword).length + (if ([] : List Keyword).isEmpty then 0 else 1) < 30)) = true := by rfl)
    (hline : (apos.endLine == cpos.line) = true := by rfl) (hs : starEach (e :: es) X.env = (false, eval e X.env) :: starEach es X.env := by rfl) (hplain : (backTo cpos (starEach es X.env)).any (·.1) = false := by rfl) :
    PE X (.Call (.Attribute o name apos) (e :: es) [] cpos) (tBM X.K T r to t) := by
  intro pins s σ H Q I h
  refine wpAny_Call_method_late hbase hfew hline rfl (thn (ho pins s σ H _ I h) fun v s1 ⟨x, H1, I1, r1, ty, q1⟩ => ?_)
  obtain ⟨h1, h2⟩ := tyV_is I1 r1 ty
  refine ⟨T, id, pa, slot, hty, h1, h2, ?_⟩
  have hA := ha cpos pins s1 σ H1 _ I1 q1
  rw [hs] at hA ⊢
  refine Calls.callWith_builtin (by show (false || (backTo cpos (starEach es X.env)).any (·.1)) = false; rw [hplain] <;> rfl) (Calls.evalArgs_plain ?_)
  exact thn hA fun us s2 ⟨vs, H2, I2, r2, q2⟩ => hm pins s2 σ H2 x vs v us Q I2 r1 r2 q2
/- xs.append(e), list.index on a module's tuple .. are MtR facts of 06m -/
end
end L2

namespace L2
open PySem PySem.Spec PyProof.Rows

def MtM (X : Cx) (id : String) (r : V → List V → Hp → VK → Prop) : Prop :=
  ∀ (pins : List (Addr × Obj)) (s : Shared) (σ : St) (H : Hp) (x : V) (xs : List V) (v : Value) (us : List Value) (Q : VK), Inv X pins σ H s → RelV x v → Vals xs us → r x xs H Q →
    wpAny (model X.prog X.w) X.A (call (.builtin id) (v :: us)) (EP X pins σ Q) X.xe s

/-! ### lists of values -/
theorem Vals.one : ∀ {x : V} {us : List Value}, Vals [x] us → ∃ u, us = [u] ∧ RelV x u
  | _, _, .cons r .nil => ⟨_, rfl, r⟩
section
variable {X : Cx} {pins : List (Addr × Obj)} {σ : St} {H : Hp} {s : Shared} {l b : Addr} {xs ys zs : List V}

/-! ### the two steps: a tracked list is rewritten, a new list is laid -/
theorem Inv.lset {its its' : List Value} {n : Nat} {f : Array Value → Array Value} {t' : Nat} (I : Inv X pins σ H s) (hH : H l = some (.lst xs))
    (e : s.heap.get? l = some { cls := .type "list", data := .seq its.toArray n }) (hf : f its.toArray = its'.toArray) (hv : Vals ys its') (hz : ys.length ≤ sizeLine) :
    Inv X pins σ (upd H l (.lst ys)) { s with heap := s.heap.update l (Obj.mapSeq f), toks := t' } := by
  have q := PySem.IsL.update e f
  rw [hf] at q
  refine I.write (x := l) (e := l) (by rw [hH]; exact trivial) (.inl rfl) (fun b' u hb hu => (Heap.get?_update_other s.heap (Obj.mapSeq f) (Ne.symm hb)).trans hu) ⟨_, q⟩ ?_
  exact ⟨hz, its', _, hv, q⟩
theorem Inv.lnew {its : List Value} {t' : Nat} (I : Inv X pins σ H s) (hv : Vals ys its) (hz : ys.length ≤ sizeLine) :
    Inv X pins σ (upd H s.heap.objs.size (.lst ys)) { s with heap := s.heap.push { cls := .type "list", data := .seq its.toArray }, toks := t' } :=
  I.laid (fun _ _ q => Heap.get?_push_of_some _ q) (Nat.le_refl _) ⟨hz, its, 0, hv, Heap.get?_push_size _ rfl⟩
theorem Inv.fresh (I : Inv X pins σ H s) : H s.heap.objs.size = none := I.hok.fresh (Nat.le_refl _)
theorem Inv.lstM (I : Inv X pins σ H s) (hH : H l = some (.lst xs)) : xs.length ≤ sizeLine ∧ ∃ (its : List Value) (n : Nat), Vals xs its ∧ xs.length = its.length ∧ s.heap.get? l = some { cls := .type "list", data := .seq its.toArray n } := by
  obtain ⟨z, its, n, r, e⟩ := I.hok l _ hH
  exact ⟨z, its, n, r, r.length, e⟩

theorem notLongL {n : Nat} (h : n ≤ sizeLine) : Builtin.List.listTooLong n = false := by
  unfold Builtin.List.listTooLong
  exact decide_eq_false (by omega)
end

section
variable {X : Cx}

/-! ### methods -/
def rAppend : V → List V → Hp → VK → Prop := fun x vs H Q => ∃ l xs y, x = .ref l ∧ vs = [y] ∧ H l = some (.lst xs) ∧ xs.length < sizeLine ∧ Q .non (upd H l (.lst (xs ++ [y])))
theorem mt_append : MtM X "list.append" rAppend := by
  intro pins s σ H x vs v us Q I rx rv h
  obtain ⟨l, xs, y, rfl, rfl, hH, hz, q⟩ := h
  cases rx
  obtain ⟨u, rfl, ru⟩ := rv.one
  obtain ⟨z, its, n, r, hl, e⟩ := I.lstM hH
  refine call_meets F.slot_list_append ⟨_, e, rfl⟩ F.entry_list_append (F.args_list_append_2 _ _) (PySem.list_append l its.toArray n u (by rw [List.size_toArray]; omega)) ⟨e, ?_⟩
  refine ⟨.non, _, I.lset (its' := its ++ [u]) hH e (by simp) (r.append (.cons ru .nil)) ?_, rfl, q⟩
  rw [List.length_append, List.length_singleton]
  omega

def rExtend : V → List V → Hp → VK → Prop := fun x vs H Q => ∃ l b xs zs, x = .ref l ∧ vs = [.ref b] ∧ H l = some (.lst xs) ∧ H b = some (.lst zs) ∧ xs.length + zs.length ≤ sizeLine ∧ Q .non (upd H l (.lst (xs ++ zs)))
theorem mt_extend : MtM X "list.extend" rExtend := by
  intro pins s σ H x vs v us Q I rx rv h
  obtain ⟨l, b, xs, zs, rfl, rfl, hH, hB, hz, q⟩ := h
  cases rx
  obtain ⟨u, rfl, ru⟩ := rv.one
  cases ru
  obtain ⟨z, its, n, r, hl, e⟩ := I.lstM hH
  obtain ⟨z2, its2, n2, r2, hl2, e2⟩ := I.lstM hB
  have hsz : its.toArray.size + its2.toArray.size ≤ sizeLine := by rw [List.size_toArray, List.size_toArray]; omega
  have hlong : ¬ (!its.toArray.isEmpty && Builtin.List.listTooLong (its.toArray.size + its2.toArray.size)) = true := by
    rw [notLongL hsz, Bool.and_false]
    exact Bool.false_ne_true
  refine call_meets F.slot_list_extend ⟨_, e, rfl⟩ F.entry_list_extend (F.args_list_extend_2 _ _)
    (AutoSeq1.list_extend_list_list_0 l its.toArray n b its2.toArray n2 hlong (by rw [List.size_toArray]; omega) (by omega)) ⟨e, e2, ?_⟩
  refine ⟨.non, _, I.lset (its' := its ++ its2) hH e (by simp) (r.append r2) ?_, rfl, q⟩
  rw [List.length_append]
  omega

/-! ### list + list, list += list, list * int -/
def rCat : R2 := fun x y H Q => ∃ l b xs zs, x = .ref l ∧ y = .ref b ∧ H l = some (.lst xs) ∧ H b = some (.lst zs) ∧ xs.length + zs.length ≤ sizeLine ∧ ∀ p, H p = none → Q (.ref p) (upd H p (.lst (xs ++ zs)))
theorem op_cat : OpR X (binaryOp .Add) rCat := by
  intro pins s σ H x y v u Q I rx ry h
  obtain ⟨l, b, xs, zs, rfl, rfl, hH, hB, hz, q⟩ := h
  cases rx
  cases ry
  obtain ⟨z, its, n, r, hl, e⟩ := I.lstM hH
  obtain ⟨z2, its2, n2, r2, hl2, e2⟩ := I.lstM hB
  refine PySem.P.add_list e e2 ?_ (by rw [List.size_toArray, List.size_toArray]; omega)
  have ea : its.toArray ++ its2.toArray = (its ++ its2).toArray := by simp
  rw [ea]
  exact ⟨.ref _, _, I.lnew (t' := s.toks) (r.append r2) (by rw [List.length_append]; omega), rfl, q _ I.fresh⟩
/-! ### del xs[i] -/
end

/-! ### xs[a:b] = ys -/
section
variable {prog : Program} {w : World} {A : Around} {E : Value → Shared → Prop} {s : Shared}
end

section
variable {X : Cx}
end
end L2

namespace Att
open PySem PySem.W PySem.Calls PyProof.Rows

/-! ### the script -/
theorem ints_of_wellAll {P : Params} {h : Heap} : ∀ (ns : List Int) (vs : List Value), WellAll P h vs (ns.map WData.int) → IntsAre vs ns := by
  intro ns
  induction ns with
  | nil =>
    intro vs w
    rw [List.map_nil] at w
    cases w
    exact .nil
  | cons n ns ih =>
    intro vs w
    rw [List.map_cons] at w
    cases w with
    | cons a b =>
      cases a
      exact .cons _ _ (ih _ b)

theorem script_of {l : OpenLaw} {n : Nat} (hn : l.most = some n) {P : Params} {h : Heap} {args : List WData} {vals : List Value}
    (hpre : l.row.toRowW.claim.pre args = true) (hwl : WellAll P h vals args) :
    ∃ a vs ns, vals = [Value.ref a] ∧ args = [WData.list (ns.map WData.int)] ∧ h.get? a = some { cls := .type "list", data := .seq vs.toArray } ∧ IntsAre vs ns ∧ ns.length ≤ n := by
  have hsh : WShape.hasAll [] args [.list .int] = true := (pre_splitW hpre).1
  have hc : l.pre.holds [] { args := args } = true := (pre_splitW hpre).2
  obtain ⟨d, r, rfl, h1, h2⟩ := hasAllW_cons hsh
  obtain rfl := hasAllW_nil h2
  obtain ⟨xs, rfl, h3⟩ := hasW_list h1
  obtain ⟨ns, rfl⟩ := items_int h3
  have hlen : ns.length ≤ n := by
    unfold OpenLaw.pre at hc
    have h4 : (WTm.not (.lt (.lit (.int (n : Int))) (.len (.arg 0)))).holds [] { args := [.list (ns.map .int)] } = true := by
      have h4 := (holds_andW hc).1
      rw [hn] at h4
      exact h4
    have h5 := condW_of h4 (w_not (w_lt w_lit (w_len_list (w_arg rfl))))
    rw [List.length_map] at h5
    refine Nat.le_of_not_lt fun q => ?_
    have q' : (n : Int) < ((ns.length : Nat) : Int) := by omega
    first
      | (rw [decide_eq_true q'] at h5; exact absurd h5 (by decide))
      | (simp at h5; omega)
  cases hwl with
  | cons w1 w2 =>
    cases w2
    cases w1 with
    | list ho hall => exact ⟨_, _, ns, rfl, rfl, ho, ints_of_wellAll ns _ hall, hlen⟩

theorem post_true (l : OpenLaw) (args : List WData) : l.row.toRowW.claim.post args (.bool true) args = true :=
  postW_of (r := l.row.toRowW) (X := (true == true))
    (show WShape.has [] (.bool true) .bool = true by first | rfl | decide | simp [WShape.has, WShape.arms, WShape.armsAll])
    (show (WTm.eq .res (.lit (.bool true))).value [] { args := args, res := some (.bool true), after := args } = some (.bool (true == true)) from w_eq_bool (w_res rfl) w_lit) rfl

/-! ### the attachment: holds_open's last premise (the goal 'hc' behind k_head) from a wpAny of the law's body -/
/-- the same from a codeAny of the CALL (for a layer whose function contracts speak of calls) -/
theorem attach_call {l : OpenLaw} {n : Nat} {q : Program} {loose : List Str} {XP : (Str → Option Value) → Heap → Prop} {YP : World → Heap → Prop} {d : DefRec}
    (hn : l.most = some n) (hdf : d.params.defaults = [])
    (call : ∀ (w : World) (s₀ s₁ : Shared) (mg mb : Str → Option Value) (fa : Addr) (o : Obj) (pm cd doc : Value) (a : Addr) (vs : List Value) (ns : List Int),
      Ground q loose [] XP w s₀ mg mb s₁.heap → YP w s₁.heap →
      s₁.heap.get? fa = some o → o.data = .func (docDef d.name d.params d.body d.scope pm cd doc) → s₁.heap.CodeRec cd d.name → mg d.name = some (.ref fa) →
      s₁.heap.get? a = some { cls := .type "list", data := .seq vs.toArray } → IntsAre vs ns → ns.length ≤ n → s₁.gens = #[] →
      codeAny (model l.prog w) callerA (.call (.ref fa) ⟨[.ref a], []⟩) (fun r s' => r = .ok (.ret (.bool true)) ∧ OldK s₁.heap s'.heap ∧ s'.os = s₁.os ∧ AllBare s'.gens) s₁) :
    WalkO q loose XP YP l.row.toRowW d [] (fun f vs => PySem.call f vs) := by
  intro w s₀ s₁ mg mb G Y fa o pm cd doc dV kV ho hd hcd hD hmg hg args vals as hpre hlay hrd hwl hlo
  obtain rfl : dV = .none := Dflts.none hD hdf
  obtain rfl : kV = .none := Dflts.noKw hD
  obtain ⟨a, vs, ns, rfl, rfl, hobj, hints, hlen⟩ := script_of hn hpre hwl
  refine enter_call (codeAny_mono (call w s₀ s₁ mg mb fa o pm cd doc a vs ns G Y ho (fd_plain hd) hcd hmg hobj hints hlen hg) fun r s' hq => ?_)
  obtain ⟨rfl, h2, h3, h4⟩ := hq
  exact ⟨.inl ⟨.bool true, .bool true, [], rfl, fun _ => rfl, .bool true, post_true l _, fun _ => ⟨List.Pairwise.nil, fun _ hm => (nomatch hm)⟩⟩, h2, h3, h4⟩

/-! ### rules over ANY heap (no ledger) from facts about the written part K: the library's own take a ledger (News) for what they write -/
section
variable {prog : Program} {w : World} {A : Around} {E : Value → Shared → Prop} {s : Shared} {K : Frag}

/-! the whole heap as the ledger: makes every rule that writes through a ledger a rule over any heap -/
def noObjs (h : Heap) : Heap := { h with objs := #[] }
theorem noObjs_get (h : Heap) (b : Addr) : (noObjs h).get? b = none := by
  cases e : (noObjs h).get? b with
  | none => rfl
  | some o => exact absurd (Heap.lt_size e) (Nat.not_lt_zero _)
theorem fr_all {h : Heap} {L : Addr} {m : Str → Option Value} (n : h.Ns L m) : Fr (noObjs h) L h m :=
  ⟨n, fun b o e => (by rw [noObjs_get] at e; cases e), Nat.zero_le _⟩
end
end Att

namespace L2
open PySem PySem.Spec PyProof.Rows

theorem vals_ints : ∀ {vs : List Value} {ns : List Int}, IntsAre vs ns → Vals (ns.map V.int) vs
  | _, _, .nil => .nil
  | _, _, .cons n t h => .cons ⟨t, rfl⟩ (vals_ints h)

/-- nothing is tracked but the script, known to the object (or it is an object of the module) -/
def Only (H : Hp) : Prop := ∀ b, H b = none ∨ ∃ o xs, H b = some (.frz o (.lst xs))

/-- THE HEAD: the law's promise, at the heap behind the top. F, the promise of the law's def, may use that base is part of the heap (so K.In base, base.Ns mainGlobals mg stand in Mod) -/
theorem law_call {P : Program} {w : World} {K : PySem.W.Frag} {mg mb : Str → Option Value} {CX : CXT} {k : Nat} {fa a : Addr} {fd : FuncData} {x : Str} {sp : Sp} {s₁ : Shared} {vs : List Value} {ns : List Int}
    (KX : K.In s₁.heap) (hns : s₁.heap.Ns mainGlobals mg) (hb : s₁.heap.Ns builtinsNs mb) (hbb : ∀ x : Str, x ≠ "__name__" → mb x = bootBuiltins x) (hlim : s₁.heap.NoLimit) (hseer : s₁.heap.NoSeer) (hg : s₁.gens = #[])
    (ha : s₁.heap.get? a = some { cls := .type "list", data := .seq vs.toArray }) (hi : IntsAre vs ns) (hl : ns.length ≤ sizeLine) (hr : Room k callerA)
    (F : ∀ base : Heap, K.In base → base.Ns mainGlobals mg → FnOk P w K mg base CX k fa fd [x] sp) (hbind : ∀ (s : Shared) (u : Value), BindsTo s fd ⟨[u], []⟩ [(x, u)])
    (hsp : ∀ H : Hp, Only H → SqL K H a (ns.map V.int) → sp [.ref a] H (fun v _ => v = .bl true) fun _ _ _ => False)
    (hCX : ∀ H e s', CX [] H s₁ (fun _ _ _ => False) e s' → False) :
    codeAny (model P w) callerA (.call (.ref fa) ⟨[.ref a], []⟩) (fun r s' => r = .ok (.ret (.bool true)) ∧ OldK s₁.heap s'.heap ∧ s'.os = s₁.os ∧ AllBare s'.gens) s₁ := by
  have rv := vals_ints hi
  have lenV := hi.length
  -- from an abstract heap in which nothing but the script may be tracked
  have core : ∀ H : Hp, Only H → SqL K H a (ns.map V.int) → HOk P w H s₁.heap → (∀ b, H b ≠ none → b = a) → (H a ≠ none → K.lookup a = none) →
      codeAny (model P w) callerA (.call (.ref fa) ⟨[.ref a], []⟩) (fun r s' => r = .ok (.ret (.bool true)) ∧ OldK s₁.heap s'.heap ∧ s'.os = s₁.os ∧ AllBare s'.gens) s₁ := by
    intro H hO hS hok hA hK
    have base_of : ∀ {b : Addr} {o : Obj}, s₁.heap.get? b = some o → H b = none → (hidT s₁.heap H).get? b = some o := fun e n => hidT_get e n
    have noA : ∀ {b : Addr} {o : Obj} {es : Array DictEntry} {ep : Nat}, s₁.heap.get? b = some o → o.data = .dict es ep → H b = none := fun {b o es ep} e d => by
      cases q : H b with
      | none => rfl
      | some u =>
        have e' : b = a := hA b (by rw [q]; simp)
        subst e'
        rw [ha] at e; cases e
        have d' : Data.seq vs.toArray _ = Data.dict es ep := d
        cases d'
    have nsK : ∀ {b : Addr} {m : Str → Option Value}, s₁.heap.Ns b m → (hidT s₁.heap H).Ns b m := fun {b m} ⟨o, es, ep, e, d, r⟩ => ⟨o, es, ep, base_of e (noA e d), d, r⟩
    have hKb : K.In (hidT s₁.heap H) := fun b o e => base_of (KX b o e) (by
      cases q : H b with
      | none => rfl
      | some u =>
        have e' : b = a := hA b (by rw [q]; simp)
        subst e'
        rw [hK (by rw [q]; simp)] at e; cases e)
    have noM : ∀ {b : Addr} {o : Obj}, s₁.heap.get? b = some o → o.cls = .type "module" → H b = none := fun {b o} e d => by
      cases q : H b with
      | none => rfl
      | some u =>
        have e' : b = a := hA b (by rw [q]; simp)
        subst e'
        rw [ha] at e; cases e
        exact absurd (show Value.type "list" = Value.type "module" from d) (by decide)
    have hSr : (hidT s₁.heap H).NoSeer := ⟨let ⟨mc, h1, h2⟩ := hseer.statics; ⟨mc, nsK h1, h2⟩, let ⟨mm, h1, h2⟩ := hseer.mods; ⟨mm, nsK h1, h2⟩, let ⟨mb, h1, h2⟩ := hseer.imp; ⟨mb, nsK h1, h2⟩,
      let ⟨mg, bm, ob, h1, h2, h3, h4, h5⟩ := hseer.main; ⟨mg, bm, ob, nsK h1, h2, base_of h3 (noM h3 h4), h4, h5⟩⟩
    have hM : Mod K mg (hidT s₁.heap H) := ⟨hKb, nsK hns, ⟨mb, nsK hb, hbb⟩, (let ⟨mc, h1, h2⟩ := hlim; ⟨mc, nsK h1, h2⟩), hSr⟩
    have e0 : Env0 P w K mg (hidT s₁.heap H) callerA [] s₁ H := ⟨rfl, hM, fun b o e => of_hidT e, Nat.le_of_eq (hidT_size _ _), trivial, fun b hb => absurd (show b ∈ ([] : List Addr) from hb) (by simp), hok, .of_eq hg⟩
    refine codeAny_mono ((F _ hKb (nsK hns)).run callerA [] s₁ H ⟨[.ref a], []⟩ [.ref a] [.ref a] _ _ hr e0 (hbind s₁ (.ref a)) (.cons rfl .nil) (hsp H hO hS)) fun r s' h => ?_
    cases r with
    | error e => exact (hCX H e s' h).elim
    | ok fl =>
      cases fl with
      | next => exact False.elim h
      | brk => exact False.elim h
      | cont => exact False.elim h
      | ret u =>
        obtain ⟨v, H', os, bare, un, hok', r', q⟩ := h
        have q' : v = .bl true := q
        subst q'
        obtain rfl : u = Value.bool true := r'
        refine ⟨rfl, OldK.of_keep fun b o e => ?_, os, bare⟩
        cases q : H b with
        | none => exact un.keep b o e q (by intro z; exact absurd (show b ∈ ([] : List Addr) from z) (by simp)) (by simp)
        | some u =>
          rcases hO b with z | ⟨ob, xs, z⟩
          · rw [q] at z; cases z
          · have z2 := un.frzs b ob _ z
            obtain ⟨e1, _⟩ := hok b _ z
            obtain ⟨e2, _⟩ := hok' b _ z2
            rw [e] at e1; cases e1
            exact e2
  cases hk : K.lookup a with
  | some o =>
    -- the script is one of the module's own objects
    have e := KX a o hk
    rw [ha] at e
    cases e
    refine core (fun _ => none) (fun _ => .inl rfl) (.inr ⟨_, vs.toArray, _, hk, rfl, rfl, rfl, by rw [List.size_toArray, lenV]; exact hl, by simpa using rv⟩) (fun b u z => by have z' : (none : Option HO) = some u := z; cases z') (fun b z => absurd rfl z) fun z => absurd rfl z
  | none =>
    refine core (fun b => if b = a then some (.frz { cls := .type "list", data := .seq vs.toArray } (.lst (ns.map V.int))) else none) (fun b => ?_) (.inl (.inr ⟨{ cls := .type "list", data := .seq vs.toArray }, if_pos rfl⟩)) (fun b u z => ?_) (fun b z => ?_) fun _ => hk
    · by_cases hb : b = a
      · exact .inr ⟨_, _, if_pos hb⟩
      · exact .inl (if_neg hb)
    · by_cases hb : b = a
      · have z' := (if_pos hb).symm.trans z
        cases z'
        subst hb
        exact ⟨ha, by rw [List.length_map]; exact hl, vs, _, rv, ha⟩
      · have z' := (if_neg hb).symm.trans z
        cases z'
    · by_cases hb : b = a
      · exact hb
      · exact absurd (if_neg hb) z
end L2

namespace L2
open PySem PySem.Spec PyProof.Rows

/-- the goal that k_head leaves (case hc), from the law's promise. F gives the function object fd (K's own) once, then the promise over every base -/
theorem walk_of {l : PySem.W.OpenLaw} {n k : Nat} {q : Program} {loose : List Str} {XP : (Str → Option Value) → Heap → Prop} {YP : World → Heap → Prop} {d : DefRec} {K : Params → PySem.W.Frag} {CX : World → CXT} {sp : World → Sp} {x : Str}
    (hi : PyProof.Rows.importsNone q = true) (hn : l.most = some n) (hn2 : n ≤ sizeLine) (hdf : d.params.defaults = []) (hr : Room k callerA)
    (hY : ∀ (w : World) (h : Heap), YP w h → (K w.params).In h)
    (F : ∀ (w : World) (mg : Str → Option Value) (fa : Addr) (h : Heap), (K w.params).In h → h.Ns mainGlobals mg → mg d.name = some (.ref fa) →
      ∃ fd : FuncData, (∀ (s : Shared) (u : Value), BindsTo s fd ⟨[u], []⟩ [(x, u)]) ∧
        ∀ base : Heap, (K w.params).In base → base.Ns mainGlobals mg → FnOk l.prog w (K w.params) mg base (CX w) k fa fd [x] (sp w))
    (hsp : ∀ (w : World) (H : Hp) (a : Addr) (ns : List Int), ns.length ≤ n → Only H → SqL (K w.params) H a (ns.map V.int) → sp w [.ref a] H (fun v _ => v = .bl true) fun _ _ _ => False)
    (hCX : ∀ (w : World) (H : Hp) (s : Shared) (e : Value) (s' : Shared), CX w [] H s (fun _ _ _ => False) e s' → False) :
    PySem.W.WalkO q loose XP YP l.row.toRowW d [] (fun f vs => PySem.call f vs) := by
  refine Att.attach_call hn hdf fun w s₀ s₁ mg mb fa o pm cd doc a vs ns G Y ho hd hcd hmg hobj hints hlen hg => ?_
  have KX := hY w _ Y
  obtain ⟨fd, hb, hF⟩ := F w mg fa _ KX G.T.g hmg
  exact law_call KX G.T.g G.T.b G.T.builtins G.T.nolimit (G.T.seer hi) hg hobj hints (Nat.le_trans hlen hn2) hr hF hb (fun H hO hS => hsp w H a ns hlen hO hS) fun H e s' => hCX w H s₁ e s'
end L2

/- THE LAST THEOREM (shape; LID, My.* are yours):
   My.Adr: a structure of the addresses that your layer names (classes, functions); My.Txt K t: a structure (Prop) of the equations over K;
   My.txt_mk : {K} {implicit addresses ..} (e1 : nsIn K mainGlobals "law" = some (some (.ref f))) (e2 : K.lookup f = some ⟨oc, od, .func (fnOf "law" "law" params body scope dV kV doc pm an cdv ct), sl⟩) (e3 : codeIn K cdv "law" = true) .. : ∃ t, My.Txt K t

set_option maxRecDepth 100000 in
set_option maxHeartbeats 0 in
theorem PySem.Challenge.cw_LID_holds : PySem.Challenge.rw_LID.Holds := by
  w_on; o_law; k_head; (case hw => w_witness2)
  k_fill
  refine L2.walk_of (l := PySem.Challenge.rw_LID) (n := 63) (k := 40) (x := "script") (CX := fun w => ..) (sp := fun _ => My.sp_law) rfl (by decide) rfl ⟨rfl, by decide, by decide⟩ (fun w h Y => PySem.W.kIn_of Y) ?F ?S ?C
  case F =>
    intro w mg fa h KX G hmg
    have T : ∃ t, My.Txt (L2.KOf KX) t := by
      dsimp only [L2.KOf]                          -- K must stand as «<heap const> w.params» for k_is
      refine' My.txt_mk ?e1 ?e2 ?e3 ..
      (case e1 => PySem.W.k_is)                    -- in the order: a name -> its address -> its object -> its parts
      (case e2 => PySem.W.k_is)
      ..
    obtain ⟨t, T⟩ := T
    have e0 := hmg.symm.trans (PySem.W.mg_of KX G T.law)
    cases e0                                       -- fa is the law's own address
    exact ⟨_, fun s u => .of_eq rfl, fun base kb nb => My.law_fn T kb nb⟩     -- if «.of_eq rfl» comes too early: refine' ⟨_, ?b, fun base kb nb => My.law_fn T kb nb⟩; exact fun s u => .of_eq rfl
  case S => exact fun w H a ns hl hO hS => ..
  case C => exact ..
(the tactic k_is has no namespace: write k_is) -/

/-! SHORT WORDS over the layer: a def of the text, its body, what a loop and a test want. -/
namespace L2
open PySem PySem.Spec PyProof.Rows

/-! ### the text by places -/
def defArgs (s : Stmt) : Arguments := match s with
  | .FunctionDef _ a _ _ _ _ _ _ _ _ => a
  | _ => { posonlyargs := [], args := [], vararg := none, kwonlyargs := [], kw_defaults := [], kwarg := none, defaults := [] }
def defBody (s : Stmt) : List Stmt := match s with
  | .FunctionDef _ _ b _ _ _ _ _ _ _ => b
  | _ => []
def defScope (s : Stmt) : Scope := match s with
  | .FunctionDef _ _ _ _ _ _ sc _ _ _ => sc
  | _ => { kind := .function, names := [], isGenerator := false, isCoroutine := false }

/-! ### no exception leaves a def -/
abbrev CX0 : CXT := fun _ _ _ _ _ _ => False
abbrev E0 : XK := fun _ _ _ => False
theorem pass0 {X : Cx} : Passes CX0 X E0 := fun _ _ _ _ _ _ _ h => h.elim

/-! ### a def (or method) of the text as it stands behind the top -/
structure Fun (K : PySem.W.Frag) (x qual : Str) (st : Stmt) (f : Addr) (fd : FuncData) : Prop where
  ex : ∃ (oc : Value) (od : Option Addr) (kV doc pm : Value) (an : Option Addr) (cdv ct : Value) (osl : Array (Option Value)),
    fd = PySem.W.fnOf x qual (defArgs st) (defBody st) (defScope st) .none kV doc pm an cdv ct ∧ K.lookup f = some ⟨oc, od, .func fd, osl⟩ ∧ PySem.W.codeIn K cdv qual = true
  kp : PySem.W.keepIn K (.ref f) = true
section
variable {P : Program} {w : World} {K : PySem.W.Frag} {mg : Str → Option Value} {base : Heap}
/-- THE RULE for a def: its body as a term of rules, and the reading of that term -/
theorem Fun.ok {x qual : Str} {st : Stmt} {f : Addr} {fd : FuncData} {N ps : List Str} {k : Nat} {sp : Sp} (F : Fun K x qual st f fd) (S : FnScope N ps (defScope st)) (len : ∀ vs H Q E, sp vs H Q E → vs.length = ps.length)
    (hbody : ∀ (cdv : Value) (A : Around) (outer : List Env) (s : Shared) (H : Hp) (vs : List V) (Q : VK) (E : XK), Room k (A.deeper (envOfC qual (defScope st) s.heap.objs.size f cdv)) → sp vs H Q E →
      ∃ t, PSs (cxOf CX0 P w K mg base N qual (defScope st) f cdv A outer s H E).nox (defBody st) t ∧ t { nx := fun _ H' => Q .non H', rt := Q } (start N vs) H) : FnOk P w K mg base CX0 (k + 1) f fd ps sp := by
  obtain ⟨oc, od, kV, doc, pm, an, cdv, ct, osl, rfl, lk, hcd⟩ := F.ex
  refine fn_of lk hcd S len fun A outer s H vs Q E hr hsp => ?_
  obtain ⟨t, h, q⟩ := hbody cdv A outer s H vs Q E hr hsp
  exact ⟨t, h.nox, q⟩
/-- how its arguments bind (no defaults): h is «fun _ _ _ _ _ _ us hl => match us, hl with | [_, _], _ => rfl», one _ a parameter -/
theorem Fun.binds {x qual : Str} {st : Stmt} {f : Addr} {fd : FuncData} {ps : List Str} (F : Fun K x qual st f fd)
    (h : ∀ (kV doc pm : Value) (an : Option Addr) (cdv ct : Value) (us : List Value), us.length = ps.length → bindArgs (PySem.W.fnOf x qual (defArgs st) (defBody st) (defScope st) .none kV doc pm an cdv ct) ⟨us, []⟩ = pure (ps.zip us)) : Binds K fd ps [] := by
  obtain ⟨oc, od, kV, doc, pm, an, cdv, ct, osl, rfl, lk, hcd⟩ := F.ex
  exact .all (h kV doc pm an cdv ct)
theorem fun_mk {x qual : Str} {st : Stmt} {f : Addr} {oc : Value} {od an : Option Addr} {osl : Array (Option Value)} {kV doc pm cdv ct : Value} (l : K.lookup f = some ⟨oc, od, .func (PySem.W.fnOf x qual (defArgs st) (defBody st) (defScope st) .none kV doc pm an cdv ct), osl⟩)
    (c : PySem.W.codeIn K cdv qual = true) (k : PySem.W.keepIn K (.ref f) = true) : Fun K x qual st f (PySem.W.fnOf x qual (defArgs st) (defBody st) (defScope st) .none kV doc pm an cdv ct) := ⟨⟨oc, od, kV, doc, pm, an, cdv, ct, osl, rfl, l, c⟩, k⟩
end
theorem hu_of {A : Around} {k : Nat} (hr : Room k A) : A.units + 1 < cLine := Nat.lt_of_le_of_lt (Nat.add_le_add_left (by decide : 1 ≤ 64) _) hr.units
theorem small1000 {n : Nat} (h : n ≤ 1000) : n < sizeLine := Nat.lt_of_le_of_lt h (by decide)

/-! ### expressions in short: the name that stands in the i-th slot -/
section
variable {X : Cx}
theorem pv (i : Nat) {x : Str} {pos : Pos} (hN : X.N[i]? = some x := by rfl) (hv : Vis X.env.scope x := by first | exact Or.inl rfl | exact Or.inr (Or.inl rfl) | exact Or.inr (Or.inr rfl)) (hd : (x == ("__debug__" : Str)) = false := by decide)
    (hcd : (x == ("__classdict__" : Str)) = false := by decide) : PE X (.Name x pos) (tVar i) := pe_var hN hv hd hcd
end

/-! ### tests -/
theorem iteF {A B : Prop} (h : B) : if false = true then A else B := by
  rw [if_neg Bool.false_ne_true]
  exact h
theorem iteT {A B : Prop} (h : A) : if true = true then A else B := by
  rw [if_pos rfl]
  exact h
theorem iteNS {c A B : Prop} [Decidable c] (hc : c) (h : B) : if (!decide c) = true then A else B := by
  rw [decide_eq_true hc]
  exact iteF h

/-! ### heaps -/
/-- all that was tracked is as it was -/
def Same (H H' : Hp) : Prop := ∀ b o, H b = some o → H' b = some o
theorem Same.refl (H : Hp) : Same H H := fun _ _ h => h
theorem Same.trans {H H1 H2 : Hp} (a : Same H H1) (b : Same H1 H2) : Same H H2 := fun c o h => b c o (a c o h)
theorem Same.free {H H' : Hp} (e : Same H H') {l : Addr} (h : H' l = Option.none) : H l = Option.none := by
  cases q : H l with
  | none => rfl
  | some o =>
    rw [e l o q] at h
    cases h
theorem Same.seq {K : PySem.W.Frag} {H H' : Hp} {a : Addr} {xs : List V} (e : Same H H') (h : SqL K H a xs) : SqL K H' a xs := by
  rcases h with (h | ⟨o, h⟩) | h
  · exact .inl (.inl (e _ _ h))
  · exact .inl (.inr ⟨o, e _ _ h⟩)
  · exact .inr h

end L2

set_option Elab.async false
set_option linter.all false
set_option maxRecDepth 100000
set_option maxHeartbeats 4000000
/-! Wordrace: rules beside the hand layer: comprehensions, texts, calls over lists. -/
namespace L2
open PySem PySem.Spec PyProof.Rows

theorem HOk.but {P : Program} {w : World} {H : Hp} {h h' : Heap} {it : Addr} (ok : HOk P w H h) (hn : H it = none) (k : ∀ b o, b ≠ it → h.get? b = some o → h'.get? b = some o) : HOk P w H h' := fun b u e => by
  have nit : ∀ b u, H b = some u → b ≠ it := fun b u e z => by rw [z, hn] at e; cases e
  refine (ok b u e).stay (fun c v hc q => k c v ?_ q) (fun _ q => q) fun _ _ q => q
  rcases hc with z | z
  · rw [z]; exact nit b u e
  · exact nit c _ z

/-! ### the closure of a block -/
def closL (names : List (Str × NameKind)) (cells : List (Str × Addr)) : List (Str × Addr) :=
  (names.filterMap fun x => if x.2 == .free then (cells.lookup x.1).map fun c => (x.1, c) else none).reverse
theorem closL_cons (x : Str × NameKind) (names : List (Str × NameKind)) (cells : List (Str × Addr)) :
    closL (x :: names) cells = closL names cells ++ (if x.2 == .free then (cells.lookup x.1).map fun c => (x.1, c) else none).toList := by
  unfold closL
  rw [List.filterMap_cons]
  cases (if x.2 == .free then (cells.lookup x.1).map fun c => (x.1, c) else none) <;> simp
theorem clos_aux (env : Env) : ∀ (names : List (Str × NameKind)) (cs : List (Str × Addr)), (∀ x ∈ names, x.2 = .free → ∃ c, env.cells.lookup x.1 = some c) →
    (forIn (m := Sem) names cs fun x r => (match x with | (name, kind) => if (kind == .free) = true then do let a ← cellOf env name; pure (ForInStep.yield ((name, a) :: r)) else pure (ForInStep.yield r))) = pure (closL names env.cells ++ cs)
  | [], cs, _ => rfl
  | (n, k) :: r, cs, h => by
    rw [List.forIn_cons, closL_cons]
    have ih := fun cs => clos_aux env r cs fun x hx => h x (List.mem_cons_of_mem _ hx)
    cases hk : (k == NameKind.free) with
    | false =>
      simp only [hk, Bool.false_eq_true, if_false, pure_bind]
      rw [ih]
      simp
    | true =>
      obtain ⟨c, e⟩ := h (n, k) List.mem_cons_self (by simpa using hk)
      have e' : env.cells.lookup n = some c := e
      have ec : cellOf env n = pure c := by unfold cellOf; rw [e']
      simp only [hk, if_true, ec, pure_bind, e', Option.map_some, Option.toList]
      rw [ih]
      simp
theorem closureFor_eq {scope : Scope} {env : Env} (h : ∀ x ∈ scope.names, x.2 = .free → ∃ c, env.cells.lookup x.1 = some c) : closureFor scope env = pure (closL scope.names env.cells) := by
  have e := clos_aux env scope.names [] h
  unfold closureFor
  rw [List.append_nil] at e
  simp only [bind_pure]
  exact e
theorem closL_sound {names : List (Str × NameKind)} {cells : List (Str × Addr)} {n : Str} {c : Addr} (h : (closL names cells).lookup n = some c) : cells.lookup n = some c := by
  have m := PySem.mem_of_lookup h
  unfold closL at m
  rw [List.mem_reverse, List.mem_filterMap] at m
  obtain ⟨x, _, e⟩ := m
  split at e
  · cases q : cells.lookup x.1 with
    | none => rw [q] at e; cases e
    | some c' =>
      rw [q] at e
      cases e
      exact q
  · cases e
theorem lookup_of_mem {n : Str} {c : Addr} : ∀ {l : List (Str × Addr)}, (n, c) ∈ l → ∃ c', l.lookup n = some c'
  | [], h => by simp at h
  | (k, v) :: r, h => by
    rw [List.lookup_cons]
    cases e : n == k with
    | true => exact ⟨v, rfl⟩
    | false =>
      rcases List.mem_cons.mp h with z | z
      · cases z; simp at e
      · exact lookup_of_mem z
theorem closL_has {names : List (Str × NameKind)} {cells : List (Str × Addr)} {n : Str} {c : Addr} (hm : (n, NameKind.free) ∈ names) (hc : cells.lookup n = some c) : (closL names cells).lookup n = some c := by
  have m : (n, c) ∈ closL names cells := by
    unfold closL
    rw [List.mem_reverse, List.mem_filterMap]
    exact ⟨(n, .free), hm, by simp [hc]⟩
  obtain ⟨c', e⟩ := lookup_of_mem m
  rw [e, ← hc, closL_sound e]

/-! ### the block's names -/
theorem relabel_some {env : Env} : ∀ {names : List (Str × NameKind)} {x : Str} {k : NameKind}, names.lookup x = some k → k ≠ .free →
    (names.map fun (n, k) => if (k == NameKind.free && env.scope.kind == .function && env.kindOf n == some .cell) then (n, NameKind.cell) else (n, k)).lookup x = some k
  | [], _, _, h, _ => by simp at h
  | (n, q) :: r, x, k, h, hk => by
    have ih := @relabel_some env r x k
    show List.lookup x ((if (q == NameKind.free && env.scope.kind == .function && env.kindOf n == some .cell) = true then (n, NameKind.cell) else (n, q)) :: _) = _
    cases hx : x == n with
    | true =>
      simp only [List.lookup_cons, hx] at h
      cases h
      have e : (q == NameKind.free) = false := by simpa using hk
      simp [List.lookup_cons, hx, e]
    | false =>
      simp only [List.lookup_cons, hx] at h
      by_cases hc : (q == NameKind.free && env.scope.kind == .function && env.kindOf n == some .cell) = true
      · rw [if_pos hc]; simp only [List.lookup_cons, hx]; exact ih h hk
      · rw [if_neg hc]; simp only [List.lookup_cons, hx]; exact ih h hk
theorem relabel_free {env : Env} : ∀ {names : List (Str × NameKind)} {x : Str}, names.lookup x = some .free →
    (names.map fun (n, k) => if (k == NameKind.free && env.scope.kind == .function && env.kindOf n == some .cell) then (n, NameKind.cell) else (n, k)).lookup x = some .cell ∨
    (names.map fun (n, k) => if (k == NameKind.free && env.scope.kind == .function && env.kindOf n == some .cell) then (n, NameKind.cell) else (n, k)).lookup x = some .free
  | [], _, h => by simp at h
  | (n, q) :: r, x, h => by
    have ih := @relabel_free env r x
    show List.lookup x ((if (q == NameKind.free && env.scope.kind == .function && env.kindOf n == some .cell) = true then (n, NameKind.cell) else (n, q)) :: _) = _ ∨
      List.lookup x ((if (q == NameKind.free && env.scope.kind == .function && env.kindOf n == some .cell) = true then (n, NameKind.cell) else (n, q)) :: _) = _
    cases hx : x == n with
    | true =>
      simp only [List.lookup_cons, hx] at h
      cases h
      by_cases hc : (NameKind.free == NameKind.free && env.scope.kind == .function && env.kindOf n == some .cell) = true
      · rw [if_pos hc]; simp [List.lookup_cons, hx]
      · rw [if_neg hc]; simp [List.lookup_cons, hx]
    | false =>
      simp only [List.lookup_cons, hx] at h
      by_cases hc : (q == NameKind.free && env.scope.kind == .function && env.kindOf n == some .cell) = true
      · rw [if_pos hc]; simp only [List.lookup_cons, hx]; exact ih h
      · rw [if_neg hc]; simp only [List.lookup_cons, hx]; exact ih h
theorem relabel_back {env : Env} : ∀ {names : List (Str × NameKind)} {x : Str} {k : NameKind},
    (names.map fun (n, k) => if (k == NameKind.free && env.scope.kind == .function && env.kindOf n == some .cell) then (n, NameKind.cell) else (n, k)).lookup x = some k →
    names.lookup x = some k ∨ names.lookup x = some .free
  | [], _, _, h => by simp at h
  | (n, q) :: r, x, k, h => by
    have ih := @relabel_back env r x k
    have h' : List.lookup x ((if (q == NameKind.free && env.scope.kind == .function && env.kindOf n == some .cell) = true then (n, NameKind.cell) else (n, q)) :: _) = _ := h
    cases hx : x == n with
    | true =>
      by_cases hc : (q == NameKind.free && env.scope.kind == .function && env.kindOf n == some .cell) = true
      · have hq : q = .free := by
          cases q <;> first | rfl | (exact absurd hc (by simp))
        subst hq
        simp [List.lookup_cons, hx]
      · rw [if_neg hc] at h'; simp only [List.lookup_cons, hx] at h' ⊢; exact .inl h'
    | false =>
      by_cases hc : (q == NameKind.free && env.scope.kind == .function && env.kindOf n == some .cell) = true
      · rw [if_pos hc] at h'; simp only [List.lookup_cons, hx] at h' ⊢; exact ih h'
      · rw [if_neg hc] at h'; simp only [List.lookup_cons, hx] at h' ⊢; exact ih h'

/-- a comprehension's scope within a def (or block) of scope sc0 whose names are N0; its own names N, mp: which slot of N0 each free one is -/
structure CompSc (sc0 : Scope) (N0 N : List Str) (mp : List (Option Nat)) (sc : Scope) : Prop where
  kind : sc.kind = .function
  nocell : ∀ y ∈ sc.names, y.2 ≠ .cell
  own : ∀ y ∈ sc.names, y.2 = .local → sc.names.lookup y.1 = some .local
  free : ∀ y ∈ sc.names, y.2 = .free → sc0.names.lookup y.1 = some .cell ∨ sc0.names.lookup y.1 = some .free
  nd : N.Nodup
  len : mp.length = N.length
  map : ((mp.zip N).all fun p => match p.1 with | none => true | some i => (N0[i]? == some p.2) && (sc.names.lookup p.2 == some .free)) = true

def pick (mp : List (Option Nat)) (σ : St) : St := mp.map fun o => o.bind fun i => (σ[i]?).bind id

def blk (X : Cx) (N : List Str) (sc : Scope) (s3 : Shared) (H3 : Hp) (C : Addr) (fp : List Addr) : Cx where
  prog := X.prog
  w := X.w
  K := X.K
  mg := X.mg
  base := X.base
  A := X.A
  N := N
  s₀ := s3
  H₀ := H3
  env := compEnvC sc (closL sc.names X.env.cells) C X.env
  outer := X.stack
  stack := X.stack
  ex := fp
  fn := fun _ => false
  calm := X.calm
  pn := []
  xe := fun _ _ => False

section
variable {X : Cx} {N : List Str} {mp : List (Option Nat)} {sc : Scope} {pins : List (Addr × Obj)} {σ : St} {H : Hp} {s : Shared}

theorem blk_inv {fp : List Addr} {h' : Heap} {m : Str → Option Value} {ob : Obj} {t' : Nat} (S : CompSc X.env.scope X.N N mp sc) (I : Inv X pins σ H s) (hf : ∀ b ∈ fp, FpOk X pins H b ∧ b < s.heap.objs.size)
    (hn : h'.Ns s.heap.objs.size m) (hsb : Heap.SameBut s.heap.objs.size (s.heap.push ob) h') :
    Inv (blk X N sc s H s.heap.objs.size fp) [] (pick mp σ) H { s with heap := h', toks := t' } := by
  have old : ∀ b u, s.heap.get? b = some u → h'.get? b = some u := fun b u e => hsb.extBut b u (Nat.ne_of_lt (Heap.lt_size e)) (Heap.get?_push_of_some _ e)
  have hC : ∀ x c, (closL sc.names X.env.cells).lookup x = some c → X.env.cells.lookup x = some c := fun x c e => closL_sound e
  refine ⟨⟨I.ok.mod, S.kind, I.ok.glob, I.ok.blt, Nat.le_refl _, fun x y c e1 e2 => I.ok.inj x y c (hC x c e1) (hC y c e2), fun x hx => ?_, fun _ _ z _ => absurd (show false = true from z) Bool.false_ne_true, I.ok.hd, I.ok.frames, .inl rfl, fun b hb => ?_, I.bs, Nat.le_trans I.ok.bsz I.sz, fun b o e hb => ?_, fun b hb z => ?_, I.stack, I.stkFree⟩,
    rfl, I.bare, Un.kept old, ⟨m, hn, fun i x v e1 e2 e3 => ?_⟩, fun x c e => ?_, I.hok.fresh (Nat.le_refl _), fun x c e => I.freeC x c (hC x c e), fun p hp => absurd (show p ∈ ([] : List (Addr × Obj)) from hp) (by simp), I.hok.kept old, ?_⟩
  · have hx' : (relabel sc X.env).names.lookup x = some .cell ∨ (relabel sc X.env).names.lookup x = some .free := hx
    have hl : sc.names.lookup x = some .free := by
      rcases hx' with z | z
      · rcases relabel_back z with y | y
        · exact absurd rfl (S.nocell _ (PySem.mem_of_lookup y))
        · exact y
      · rcases relabel_back z with y | y
        · exact y
        · exact y
    have hm := PySem.mem_of_lookup hl
    obtain ⟨c, e⟩ := I.ok.has x (S.free _ hm rfl)
    exact ⟨c, closL_has hm e⟩
  · obtain ⟨⟨f0, f1, f2, f3, f4, f5⟩, hlt⟩ := hf b hb
    exact ⟨Nat.ne_of_lt hlt, fun x c e => f4 x c (hC x c e)⟩
  · obtain ⟨⟨f0, f1, f2, f3, f4, f5⟩, hlt⟩ := hf b hb
    rcases f3 with z | z
    · exact I.ok.noex b o e z
    · exact absurd (Nat.lt_of_lt_of_le (Heap.lt_size (I.ok.bs b o e).1) z) (Nat.lt_irrefl _)
  · obtain ⟨⟨f0, f1, f2, f3, f4, f5⟩, hlt⟩ := hf b hb
    exact (List.mem_cons.mp (I.stkSub b z)).elim f1 f2
  · have e1 : N[i]? = some x := e1
    unfold pick at e2
    rw [List.getElem?_map] at e2
    cases hm : mp[i]? with
    | none => rw [hm] at e2; cases e2
    | some o =>
      rw [hm] at e2
      cases o with
      | none => cases e2
      | some j =>
        have e2' : (σ[j]?).bind id = some v := Option.some.inj e2
        have e4 : σ[j]? = some (some v) := by
          cases q : σ[j]? with
          | none => rw [q] at e2'; cases e2'
          | some z => rw [q] at e2'; exact congrArg some e2'
        have hz : (some j, x) ∈ mp.zip N := by
          refine List.mem_of_getElem? (i := i) ?_
          rw [List.getElem?_zip_eq_some]
          exact ⟨hm, e1⟩
        have ha := List.all_eq_true.mp S.map _ hz
        have ha' : ((X.N[j]? == some x) && (sc.names.lookup x == some .free)) = true := ha
        rw [Bool.and_eq_true] at ha'
        have hN : X.N[j]? = some x := eq_of_beq ha'.1
        have hl : sc.names.lookup x = some .free := eq_of_beq ha'.2
        have hm' := PySem.mem_of_lookup hl
        have hk := S.free _ hm' rfl
        obtain ⟨m0, hn0, hl0⟩ := I.loc
        obtain ⟨u, ru, lk⟩ := hl0 j x v hN e4 (hk.elim (fun z => .inr (.inl z)) fun z => .inr (.inr z))
        refine ⟨u, ru, ?_⟩
        rcases lk with ⟨z, _⟩ | ⟨_, c, ec, oc, hoc, hd⟩
        · have z : X.env.scope.names.lookup x = some .local := z
          rcases hk with y | y
          · rw [z] at y; cases y
          · rw [z] at y; cases y
        · exact .inr ⟨relabel_free hl, c, closL_has hm' ec, oc, old _ _ hoc, hd⟩
  · obtain ⟨v, oc, hoc, hd⟩ := I.cell x c (hC x c e)
    exact ⟨v, oc, old _ _ hoc, hd⟩
  · unfold pick
    rw [List.length_map]
    exact S.len

/-- the tests of a clause -/
def PIf (X : Cx) (ifs : List Expr) (t : TT) : Prop :=
  ∀ (pins : List (Addr × Obj)) (s : Shared) (σ : St) (H : Hp) (Q : Bool → Hp → Prop), Inv X pins σ H s → t σ H Q →
    wpAny (model X.prog X.w) X.A (forIn ifs true fun c r => if r = true then do let ok ← isTrue c X.env (eval c X.env); pure (ForInStep.yield ok) else pure (ForInStep.yield r)) (TP X pins σ Q) X.xe s
def tYes : TT := fun _ H Q => Q true H
theorem pif_nil : PIf X [] tYes := fun pins s σ H Q I h => wpAny_pure ⟨H, I, h⟩
theorem pif_one {c : Expr} {t : TT} (h : PT X c t) : PIf X [c] t := fun pins s σ H Q I q => wpAny_tests_one (h pins s σ H Q I q)

def CompW (J : It) (mp : List (Option Nat)) (g : TG) (ti : TT) (te : TE) (D : Addr) (Q : VK) (σ : St) (H1 : Hp) : Prop := ∃ W : Nat → Nat → St → Hp → Prop, (∃ m, W 0 m (pick mp σ) (upd H1 D (.lst []))) ∧
  ∀ i m σ' H', W i m σ' H' → (J.stop i H' ∧ Q (.ref D) H') ∨ (J.go i H' ∧ ∃ Nx : St → Hp → Prop, (∀ σ2 H2, Nx σ2 H2 → ∃ m', m' < m ∧ W (i + 1) m' σ2 H2) ∧
    ∀ x H'', J.yld i H' x H'' → g x σ' H'' fun σ2 H2 => ti σ2 H2 fun c H3 => if c = true then te σ2 H3 fun y H4 => ∃ ys, H4 D = some (.lst ys) ∧ ys.length < sizeLine ∧ Nx σ2 (upd H4 D (.lst (ys ++ [y]))) else Nx σ2 H3)
def tComp (mp : List (Option Nat)) (wi : TI) (g : TG) (ti : TT) (te : TE) : TE := fun σ H Q => wi σ H fun J H1 => ∀ D, H1 D = none → CompW J mp g ti te D Q σ H1

theorem codeAny_compLoop_go {prog : Program} {w : World} {A : Around} {R : Result → Shared → Prop} {s : Shared} {elt target iter : Expr} {ifs : List Expr} {scope : Scope} {pos : Pos} {it acc : Value} {env : Env} (I : Nat → Shared → Prop)
    (turn : ∀ n s, I n s → wpAny (model prog w) A (pyNext it) (fun r s₁ => match r with
      | none => R (.ok .next) s₁
      | some v => wpAny (model prog w) A (letOwnedTupleGo target it v) (fun _ s₁' => wpAny (model prog w) A (assign target env v) (fun _ s₂ =>
          wpAny (model prog w) A (forIn ifs true fun c r => if r = true then do let ok ← isTrue c env (eval c env); pure (ForInStep.yield ok) else pure (ForInStep.yield r)) (fun ok s₃ =>
            if ok = true then wpAny (model prog w) A (eval elt env) (fun x s₄ =>
              wpAny (model prog w) A (call (.builtin "list.append") [acc, x]) (fun _ s₅ => ∃ m, m < n ∧ I m s₅) (fun _ _ => False) s₄) (fun _ _ => False) s₃
            else ∃ m, m < n ∧ I m s₃) (fun _ _ => False) s₂) (fun _ _ => False) s₁') (fun _ _ => False) s₁) (fun _ _ => False) s)
    (n : Nat) (h : I n s) :
    codeAny (model prog w) A (.compLoop (.ListComp elt [⟨target, iter, ifs, 0⟩] scope pos) 0 it acc env) R s := by
  refine codeAny_loop rfl I (fun n s hI => ?_) n h
  show wpAny _ A ((compTurn (.ListComp elt [⟨target, iter, ifs, 0⟩] scope pos) 0 it acc env).onRaise (fun x => do noteFrame x env; theTreesLotGoes x)) _ _ s
  refine wpAny_noted (wpAny_noRaise ?_)
  rw [compTurn_list]
  refine wpAny_bind (wpAny_standAt (wpAny_bind (wpAny_mono (turn n s hI) (fun r s₁ h₁ => ?_) fun _ _ h' => h')))
  cases r with
  | none => exact wpAny_pure h₁
  | some v =>
    refine wpAny_bind (wpAny_mono h₁ (fun _ s₁' h₁' => ?_) fun _ _ h' => h')
    refine wpAny_bind (wpAny_mono h₁' (fun _ s₂ h₂ => wpAny_bind (wpAny_mono h₂ (fun ok s₃ h₃ => ?_) fun _ _ h' => h')) fun _ _ h' => h')
    cases ok with
    | false => exact wpAny_pure ⟨rfl, h₃⟩
    | true =>
      exact wpAny_bind (wpAny_bind (wpAny_mono h₃ (fun x s₄ h₄ => wpAny_bind (wpAny_mono h₄ (fun _ s₅ h₅ => wpAny_pure (wpAny_pure ⟨rfl, h₅⟩)) fun _ _ h' => h')) fun _ _ h' => h'))

theorem pe_comp {elt tg iter : Expr} {ifs : List Expr} {pos : Pos} {wi : TI} {g : TG} {ti : TT} {te : TE} (hc : X.calm = true) (S : CompSc X.env.scope X.N N mp sc) (hi : PI X tg iter wi)
    (hb : ∀ s3 H3 C fp, PG (blk X N sc s3 H3 C fp) tg g ∧ PIf (blk X N sc s3 H3 C fp) ifs ti ∧ PE (blk X N sc s3 H3 C fp) elt te)
    (hs : ∀ x, foldedSetIterable iter X.env x = pure x := by intro _; rfl) : PE X (.ListComp elt [⟨tg, iter, ifs, 0⟩] sc pos) (tComp mp wi g ti te) := by
  intro pins s σ H Q I h
  rw [eval_ListComp]
  refine wpAny_comprehension_free (use := none) rfl hs (closureFor_eq (fun x hx hf => I.ok.has x.1 (S.free x hx hf))) S.kind S.own (thn (hi pins s σ H _ I h) fun v s1 h1 => thn h1 fun itv s2 h2 => ?_)
  obtain ⟨it, fp, tn, J, H2, rfl, I2, T, st2, f2, q⟩ := h2
  refine wpAny_newObj_type (wpAny_newFunctionEnv S.nocell (by intro y hy; simp at hy) (fun h₁ hns₁ hsb₁ => ?_) S.kind)
  dsimp only at hns₁ hsb₁ ⊢
  have hD : H2 s2.heap.objs.size = none := I2.hok.fresh (Nat.le_refl _)
  obtain ⟨W, ⟨m0, w0⟩, turn⟩ := q _ hD
  have I3 : Inv X pins σ (upd H2 s2.heap.objs.size (.lst [])) { s2 with heap := s2.heap.push { cls := .type "list", dict := none, data := .seq ([] : List Value).toArray } } :=
    I2.laid (t' := s2.toks) (o := .lst []) (fun b o e => Heap.get?_push_of_some _ e) (Nat.le_refl _) ⟨Nat.zero_le _, [], 0, .nil, Heap.get?_push_size _ rfl⟩
  have hDfp : s2.heap.objs.size ∉ fp := fun z => by
    obtain ⟨o, e, _⟩ := T.obj 0 _ st2 _ z
    exact absurd (Heap.lt_size e) (Nat.lt_irrefl _)
  have hf3 : ∀ b ∈ fp, FpOk X pins (upd H2 s2.heap.objs.size (.lst [])) b ∧ b < (s2.heap.push { cls := .type "list", dict := none, data := .seq ([] : List Value).toArray }).objs.size := fun b hb => by
    obtain ⟨o, e, _⟩ := T.obj 0 _ st2 b hb
    have hlt := Heap.lt_size e
    obtain ⟨f0, f1⟩ := f2 b hb
    refine ⟨⟨?_, f1⟩, ?_⟩
    · rw [upd_ne (Nat.ne_of_lt hlt)]; exact f0
    · rw [Heap.size_push]; exact Nat.lt_succ_of_lt hlt
  have IY := blk_inv (N := N) (mp := mp) (sc := sc) (t' := s2.toks + ([] : List (Str × Value)).length) S I3 hf3 hns₁ hsb₁
  have old4 : ∀ b o, s2.heap.get? b = some o → h₁.get? b = some o := fun b o e => by
    have e3 : (s2.heap.push { cls := .type "list", dict := none, data := .seq ([] : List Value).toArray }).get? b = some o := Heap.get?_push_of_some _ e
    exact hsb₁.extBut b o (Nat.ne_of_lt (Heap.lt_size e3)) (Heap.get?_push_of_some _ e3)
  have st4 : tn 0 h₁ := T.keep _ _ _ st2 fun b _ o e => old4 b o e
  have fpY : ∀ {H' : Hp}, (∀ b ∈ fp, H' b = none) → ∀ b ∈ fp, FpOk (blk X N sc { s2 with heap := s2.heap.push { cls := .type "list", dict := none, data := .seq ([] : List Value).toArray } } (upd H2 s2.heap.objs.size (.lst [])) (s2.heap.push { cls := .type "list", dict := none, data := .seq ([] : List Value).toArray }).objs.size fp) [] H' b := fun hn b hb => by
    obtain ⟨x1, x2⟩ := hf3 b hb
    obtain ⟨f0, f1, f2', f3, f4, f5⟩ := x1
    exact ⟨hn b hb, Nat.ne_of_lt x2, fun z => (List.mem_cons.mp (I3.stkSub b z)).elim f1 f2', .inl hb, fun x c e => f4 x c (closL_sound e), fun p hp => absurd (show p ∈ ([] : List (Addr × Obj)) from hp) (by simp)⟩
  obtain ⟨hg, hif, he⟩ := id (hb { s2 with heap := s2.heap.push { cls := .type "list", dict := none, data := .seq ([] : List Value).toArray } } (upd H2 s2.heap.objs.size (.lst [])) (s2.heap.push { cls := .type "list", dict := none, data := .seq ([] : List Value).toArray }).objs.size fp)
  have loop : codeAny (model X.prog X.w) X.A (.compLoop (.ListComp elt [⟨tg, iter, ifs, 0⟩] sc pos) 0 (.ref it) (.ref s2.heap.objs.size) (compEnvC sc (closL sc.names X.env.cells) (s2.heap.push { cls := .type "list", dict := none, data := .seq ([] : List Value).toArray }).objs.size X.env))
      (compPost (model X.prog X.w) X.A X.xe none (EP X pins σ Q) (.ref s2.heap.objs.size) (s2.heap.push { cls := .type "list", dict := none, data := .seq ([] : List Value).toArray }).objs.size) { s2 with heap := h₁, toks := s2.toks + ([] : List (Str × Value)).length } := by
    refine codeAny_compLoop_go (fun n s' => ∃ i σ' H', Inv (blk X N sc { s2 with heap := s2.heap.push { cls := .type "list", dict := none, data := .seq ([] : List Value).toArray } } (upd H2 s2.heap.objs.size (.lst [])) (s2.heap.push { cls := .type "list", dict := none, data := .seq ([] : List Value).toArray }).objs.size fp) [] σ' H' s' ∧
      tn i s'.heap ∧ (∀ b ∈ fp, H' b = none) ∧ W i n σ' H') ?_ m0 ⟨0, _, _, IY, st4, fun b hb => (hf3 b hb).1.1, w0⟩
    rintro n s5 ⟨i, σ5, H5, I5, st5, fr5, w5⟩
    rcases turn i n σ5 H5 w5 with ⟨stop, qn⟩ | ⟨go, Nx, hN, step⟩
    · refine thn (T.done (blk X N sc { s2 with heap := s2.heap.push { cls := .type "list", dict := none, data := .seq ([] : List Value).toArray } } (upd H2 s2.heap.objs.size (.lst [])) (s2.heap.push { cls := .type "list", dict := none, data := .seq ([] : List Value).toArray }).objs.size fp) rfl rfl rfl hc i [] s5 σ5 H5 _ I5 (fpY fr5) st5 stop) fun r s6 ⟨hr, I6⟩ => ?_
      subst hr
      obtain ⟨m6, hn6, _⟩ := id I6.loc
      refine ⟨m6, hn6, fun h7 hs7 => ?_⟩
      have un : Un (frs X.stack) fp (upd H2 s2.heap.objs.size (.lst [])) H5 (s2.heap.push { cls := .type "list", dict := none, data := .seq ([] : List Value).toArray }) s6.heap := I6.base
      have ne : ∀ b o, (s2.heap.push { cls := .type "list", dict := none, data := .seq ([] : List Value).toArray }).get? b = some o → b ≠ (s2.heap.push { cls := .type "list", dict := none, data := .seq ([] : List Value).toArray }).objs.size := fun b o e => Nat.ne_of_lt (Heap.lt_size e)
      have un7 : Un (frs X.stack) fp (upd H2 s2.heap.objs.size (.lst [])) H5 (s2.heap.push { cls := .type "list", dict := none, data := .seq ([] : List Value).toArray }) h7 := by
        refine ⟨fun b o e nn hb hx => hs7.extBut b o (ne b o e) (un.keep b o e nn hb hx), fun b o e nn hb hx => ?_, un.free, fun b o e hx => ?_, un.tups, un.frzs, un.tbls⟩
        · obtain ⟨sl, z⟩ := un.slot b o e nn hb hx
          exact ⟨sl, hs7.extBut b _ (ne b o e) z⟩
        · obtain ⟨o', z⟩ := un.there b o e hx
          exact ⟨o', hs7.extBut b o' (ne b o e) z⟩
      have hok7 : HOk X.prog X.w H5 h7 := HOk.but I6.hok I6.free fun b o hb e => hs7.extBut b o hb e
      refine ⟨.ref s2.heap.objs.size, H5, I3.call' (s' := { s6 with heap := h7 }) (ch := fp) I6.os un7 hok7 I6.bare fun b hb => ?_, rfl, qn⟩
      obtain ⟨⟨f0, f1, f2', f3, f4, f5⟩, _⟩ := hf3 b hb
      exact ⟨f3, f1, f4, f5⟩
    · refine thn (T.item (blk X N sc { s2 with heap := s2.heap.push { cls := .type "list", dict := none, data := .seq ([] : List Value).toArray } } (upd H2 s2.heap.objs.size (.lst [])) (s2.heap.push { cls := .type "list", dict := none, data := .seq ([] : List Value).toArray }).objs.size fp) rfl rfl rfl hc i [] s5 σ5 H5 _ I5 (fpY fr5) st5 go) fun r s6 ⟨u, hr, h6⟩ => ?_
      subst hr
      refine thn h6 fun _ s7 ⟨x, H7, I7, r7, y7, st7, fr7⟩ => ?_
      have I7' := I7.pinned (fpY fr7) (T.obj _ _ st7)
      refine thn (hg _ s7 σ5 H7 x u _ I7' r7 (step x H7 y7)) fun _ s8 ⟨σ8, H8, I8, q8⟩ => ?_
      refine thn (hif _ s8 σ8 H8 _ I8 q8) fun ok s9 ⟨H9, I9, q9⟩ => ?_
      have again : ∀ {σ' : St} {H' : Hp} {s' : Shared}, Inv (blk X N sc { s2 with heap := s2.heap.push { cls := .type "list", dict := none, data := .seq ([] : List Value).toArray } } (upd H2 s2.heap.objs.size (.lst [])) (s2.heap.push { cls := .type "list", dict := none, data := .seq ([] : List Value).toArray }).objs.size fp) ([] ++ pinsAt fp s7.heap) σ' H' s' → Nx σ' H' →
          ∃ m, m < n ∧ ∃ i σ' H', Inv (blk X N sc { s2 with heap := s2.heap.push { cls := .type "list", dict := none, data := .seq ([] : List Value).toArray } } (upd H2 s2.heap.objs.size (.lst [])) (s2.heap.push { cls := .type "list", dict := none, data := .seq ([] : List Value).toArray }).objs.size fp) [] σ' H' s' ∧ tn i s'.heap ∧ (∀ b ∈ fp, H' b = none) ∧ W i m σ' H' := fun {σ' H' s'} J nx => by
        obtain ⟨m', hm, w'⟩ := hN σ' H' nx
        refine ⟨m', hm, i + 1, σ', H', J.unpinned, T.keep _ _ _ st7 fun b hb o e => (J.pin (b, o) (List.mem_append_right _ (List.mem_append_right _ (mem_pinsAt hb e)))).1, fun b hb => ?_, w'⟩
        obtain ⟨o, e, d⟩ := T.obj _ _ st7 b hb
        exact (J.pin (b, o) (List.mem_append_right _ (List.mem_append_right _ (mem_pinsAt hb e)))).2.1
      cases ok with
      | false =>
        rw [if_neg Bool.false_ne_true] at q9 ⊢
        exact again I9 q9
      | true =>
        rw [if_pos rfl] at q9 ⊢
        refine thn (he _ s9 σ8 H9 _ I9 q9) fun yv s10 ⟨y, H10, I10, ry, ys, hy, hl, nx⟩ => ?_
        refine thn (mt_append _ s10 σ8 H10 (.ref s2.heap.objs.size) [y] (.ref s2.heap.objs.size) [yv] (fun v H' => v = .non ∧ H' = upd H10 s2.heap.objs.size (.lst (ys ++ [y]))) I10 rfl (.cons ry .nil) ⟨_, ys, y, rfl, rfl, hy, hl, rfl, rfl⟩) fun _ s11 ⟨_, H11, I11, _, _, e11⟩ => ?_
        subst e11
        exact again I11 nx
  exact codeAny_compStart_list loop (T.self X.A 0 _ _ _ st4 loop)
end
end L2

set_option Elab.async false
set_option linter.all false
set_option maxRecDepth 100000
set_option maxHeartbeats 4000000
namespace L2
open PySem PySem.Spec PyProof.Rows

/-! ### texts by their codes -/
abbrev S (l : List Nat) : Str := ⟨l.toArray⟩
theorem S_length (l : List Nat) : (S l).length = l.length := by simp [Str.length]
theorem S_cps (l : List Nat) : (S l).cps.toList = l := by simp
theorem S_inj {a b : List Nat} : S a = S b ↔ a = b := by
  constructor
  · intro h
    have := congrArg (fun x : Str => x.cps.toList) h
    simpa using this
  · rintro rfl; rfl
theorem S_of (x : Str) : S x.cps.toList = x := by cases x; simp
theorem S_app (a b : List Nat) : S a ++ S b = S (a ++ b) := by
  show Str.mk _ = Str.mk _
  simp

def cutL {α : Type} (l : List α) (lo hi : Option Int) : List α := (l.drop (HT.sIx l.length 0 lo)).take (HT.sIx l.length l.length hi - HT.sIx l.length 0 lo)

section
variable {X : Cx}

theorem sIx_some (n d : Nat) (v : Int) : ((HT.sIx n d (some v) : Nat) : Int) = max 0 (min (if v < 0 then v + (n : Int) else v) (n : Int)) := by
  show (((if v < 0 then (v + (n : Int)).toNat else min v.toNat n) : Nat) : Int) = _
  by_cases h : v < 0
  · rw [if_pos h, if_pos h]; omega
  · rw [if_neg h, if_neg h]; omega
theorem idx_norm (lo hi : Option Int) (n : Nat) : Builtin.Str.strSliceIndices lo hi 1 n = Builtin.Str.strSliceIndices (some ((HT.sIx n 0 lo : Nat) : Int)) (some ((HT.sIx n n hi : Nat) : Int)) 1 n := by
  have a1 : ∀ k : Nat, ¬ ((k : Int) < 0) := fun k => by omega
  have b1 := HT.sIx_le n 0 (Nat.zero_le _) lo
  have b2 := HT.sIx_le n n (Nat.le_refl _) hi
  have c1 : ∀ k : Nat, k ≤ n → max (0 : Int) (min (k : Int) (n : Int)) = k := fun k hk => by omega
  unfold Builtin.Str.strSliceIndices
  simp only [show (1 : Int) > 0 by decide, if_true, a1, if_false, c1 _ b1, c1 _ b2]
  congr 1
  · cases lo with
    | none => rfl
    | some v => exact (sIx_some n 0 v).symm
  · cases hi with
    | none => rfl
    | some v => exact (sIx_some n n v).symm
theorem slice_S (l : List Nat) (lo hi : Option Int) : Txt.slice (S l) lo hi = S (cutL l lo hi) := by
  have hl : (S l).length = l.length := S_length l
  have b1 := HT.sIx_le l.length 0 (Nat.zero_le _) lo
  have b2 := HT.sIx_le l.length l.length (Nat.le_refl _) hi
  unfold Txt.slice
  rw [idx_norm lo hi, hl]
  by_cases hab : HT.sIx l.length 0 lo ≤ HT.sIx l.length l.length hi
  · have key := StrLaws.sliceText_nat (S l) hab (by rw [hl]; exact b2)
    unfold StrLaws.sliceText at key
    rw [hl] at key
    rw [key]
    unfold cutL
    simp
  · have e : Builtin.Str.strSliceIndices (some ((HT.sIx l.length 0 lo : Nat) : Int)) (some ((HT.sIx l.length l.length hi : Nat) : Int)) 1 l.length = [] := by
      have a1 : ∀ k : Nat, ¬ ((k : Int) < 0) := fun k => by omega
      have c1 : ∀ k : Nat, k ≤ l.length → max (0 : Int) (min (k : Int) (l.length : Int)) = k := fun k hk => by omega
      unfold Builtin.Str.strSliceIndices
      simp only [show (1 : Int) > 0 by decide, if_true, a1, if_false, c1 _ b1, c1 _ b2]
      unfold sliceRange
      simp
      omega
    rw [e]
    have hne : l.length ≠ 0 := by omega
    have hne' : ((1 : Int) == 1 && ([] : List Nat).length == l.length) = false := by
      simp only [beq_self_eq_true, Bool.true_and, List.length_nil]
      exact beq_false_of_ne (Ne.symm hne)
    rw [if_neg (by rw [hne']; decide)]
    unfold cutL
    have : HT.sIx l.length l.length hi - HT.sIx l.length 0 lo = 0 := by omega
    rw [this]
    simp
def rSlS : V → Option Int → Option Int → Hp → VK → Prop := fun x lo hi H Q => ∃ l, x = .str (S l) ∧ l.length ≤ sizeLine ∧ Q (.str (S (cutL l lo hi))) H
theorem sl_str : SlR X rSlS := by
  intro pins s σ H x v vl vu lo hi sl Q I rx hs pl pu h
  obtain ⟨l, rfl, hz, q⟩ := h
  obtain ⟨t, rfl⟩ := rx
  refine ⟨"str", _, F.slot_str_getitem.lookup, typeIs_str _ _ _, ?_⟩
  have key : ∀ l' u' : Option (Int × Tok), vl = partValue l' → vu = partValue u' → l'.map (·.1) = lo → u'.map (·.1) = hi → wpAny (model X.prog X.w) X.A (getItem (.str (S l) t) (.ref sl)) (EP X pins σ Q) X.xe s := by
    rintro l' u' rfl rfl rfl rfl
    refine wpAny_getItem_str_slice (l := l') (u := u') (st := none) hs rfl (post_val_or_str ?_)
    have e : (if ((((none : Option (Int × Tok)).map (·.1)).getD 1) == 1 && (slicePicked (S l) l' u' none).length == (S l).length) = true then S l else ⟨((slicePicked (S l) l' u' none).filterMap ((S l).cps[·]?)).toArray⟩) = S (cutL l (l'.map (·.1)) (u'.map (·.1))) := slice_S l _ _
    refine ⟨?_, fun t' k => ?_⟩
    · rw [e, S_length]
      unfold cutL
      rw [List.length_take, List.length_drop]
      omega
    · rw [e]
      exact ⟨.str _, H, I.tok _, ⟨_, rfl⟩, q⟩
  cases pl with
  | none =>
    cases pu with
    | none => exact key none none rfl rfl rfl rfl
    | int j t' => exact key none (some (j, t')) rfl rfl rfl rfl
  | int i t1 =>
    cases pu with
    | none => exact key (some (i, t1)) none rfl rfl rfl rfl
    | int j t' => exact key (some (i, t1)) (some (j, t')) rfl rfl rfl rfl

/-! ### startswith, endswith -/
theorem pre_take (a b : List Nat) : (b.length ≤ a.length ∧ a.take b.length = b) ↔ b.isPrefixOf a = true := by
  rw [List.isPrefixOf_iff_prefix]
  constructor
  · rintro ⟨_, h⟩; rw [List.prefix_iff_eq_take]; exact h.symm
  · intro h; exact ⟨h.length_le, (List.prefix_iff_eq_take.mp h).symm⟩
theorem endswith_S (a b : List Nat) : Txt.endswith (S a) (S b) = b.isSuffixOf a := by
  unfold Txt.endswith
  rw [StrLaws.subAt_eq, S_length, S_length, S_cps, S_cps, Nat.zero_add, Bool.eq_iff_iff, List.isSuffixOf_iff_suffix, List.suffix_iff_eq_drop]
  simp only [Bool.and_eq_true, decide_eq_true_eq, beq_iff_eq]
  constructor
  · rintro ⟨h1, h2⟩
    rw [List.take_of_length_le (by rw [List.length_drop]; omega)] at h2
    exact h2.symm
  · intro h
    have hl : b.length ≤ a.length := by have := congrArg List.length h; rw [List.length_drop] at this; omega
    refine ⟨hl, ?_⟩
    rw [List.take_of_length_le (by rw [List.length_drop]; omega)]
    exact h.symm
def rEw : V → List V → Hp → VK → Prop := fun x vs H Q => ∃ a b, x = .str (S a) ∧ vs = [.str (S b)] ∧ Q (.bl (b.isSuffixOf a)) H
theorem mt_endswith : MtR X "str.endswith" rEw := by
  intro pins s σ H x xs v us Q I rx rs h
  obtain ⟨a, b, rfl, rfl, q⟩ := h
  obtain ⟨t, rfl⟩ := rx
  obtain ⟨u, rfl, t', rfl⟩ := vals1 rs
  exact SC.endswith (by rw [endswith_S]; exact ⟨.bl _, H, I, rfl, q⟩)

/-! ### in -/
def within (a b : List Nat) : Bool := (List.range (b.length + 1)).any fun i => a.isPrefixOf (b.drop i)
theorem in_S (a b : List Nat) : (!(Builtin.Str.occurrences (S b) (S a) 0 (S b).length 1).isEmpty) = within a b := by
  rw [Bool.eq_iff_iff, StrLaws.found_iff]
  unfold within
  rw [List.any_eq_true]
  constructor
  · rintro ⟨i, h1, h2⟩
    rw [S_length, S_length] at h1
    rw [StrLaws.subAt_eq, S_length, S_cps, S_cps] at h2
    refine ⟨i, List.mem_range.mpr (by omega), ?_⟩
    rw [← pre_take]
    exact ⟨by rw [List.length_drop]; omega, by simpa using h2⟩
  · rintro ⟨i, hi, h⟩
    rw [← pre_take] at h
    have hi := List.mem_range.mp hi
    obtain ⟨h1, h2⟩ := h
    rw [List.length_drop] at h1
    refine ⟨i, by rw [S_length, S_length]; omega, ?_⟩
    rw [StrLaws.subAt_eq, S_length, S_cps, S_cps]
    simpa using h2
def rInS : R2 := fun x y H Q => ∃ a b, x = .str (S a) ∧ y = .str (S b) ∧ Q (.bl (within a b)) H
theorem op_inS : OpR X (compareOp .In) rInS := by
  intro pins s σ H x y v u Q I rx ry h
  obtain ⟨a, b, rfl, rfl, q⟩ := h
  exact op_in_str pins s σ H _ _ v u Q I rx ry ⟨S a, S b, rfl, rfl, by rw [in_S]; exact q⟩

/-! ### + and * -/
def rAddS : R2 := fun x y H Q => ∃ a b, x = .str (S a) ∧ y = .str (S b) ∧ a.length + b.length ≤ sizeLine ∧ Q (.str (S (a ++ b))) H
theorem op_addS : OpR X (binaryOp .Add) rAddS := by
  intro pins s σ H x y v u Q I rx ry h
  obtain ⟨a, b, rfl, rfl, hz, q⟩ := h
  exact op_add_str pins s σ H _ _ v u Q I rx ry ⟨S a, S b, rfl, rfl, by rw [S_length, S_length]; exact hz, by rw [S_app]; exact q⟩
theorem foldl_app (a : List Nat) : ∀ (n : Nat) (acc : Array Nat), (List.replicate n a.toArray).foldl (· ++ ·) acc = acc ++ (List.replicate n a).flatten.toArray
  | 0, acc => by simp
  | n + 1, acc => by
    rw [List.replicate_succ, List.foldl_cons, foldl_app a n, List.replicate_succ, List.flatten_cons]
    simp
theorem mul_S (a : List Nat) (n : Nat) : Txt.mul (S a) (n : Int) = S (List.replicate n a).flatten := by
  unfold Txt.mul
  by_cases h0 : (n : Int) < 1
  · have : n = 0 := by omega
    subst this
    rw [if_pos h0]
    rfl
  · rw [if_neg h0]
    by_cases h1 : ((n : Int) == 1 || (S a).length == 0) = true
    · rw [if_pos h1]
      rw [Bool.or_eq_true] at h1
      rcases h1 with h1 | h1
      · have : n = 1 := by have := eq_of_beq h1; omega
        subst this
        simp
      · rw [S_length] at h1
        have : a = [] := by simpa using h1
        subst this
        simp
    · rw [if_neg h1]
      show Str.mk _ = Str.mk _
      congr 1
      have e : (n : Int).toNat = n := by omega
      rw [e, foldl_app]
      simp
def rMulS : R2 := fun x y H Q => ∃ a, ∃ n : Nat, x = .str (S a) ∧ y = .int (n : Int) ∧ n ≤ 1000 ∧ a.length ≤ 1000 ∧ Q (.str (S (List.replicate n a).flatten)) H
theorem op_mulS : OpR X (binaryOp .Mult) rMulS := by
  intro pins s σ H x y v u Q I rx ry h
  obtain ⟨a, n, rfl, rfl, hn, ha, q⟩ := h
  obtain ⟨t, rfl⟩ := rx
  obtain ⟨t', rfl⟩ := ry
  have hs : sizeLine = 16777216 := sizeLine_eq
  have hm : a.length * n ≤ 1000 * 1000 := Nat.mul_le_mul ha hn
  refine SB.mul ⟨?_, fun h1 _ => ?_, fun _ _ => ?_⟩ fun t' k => by rw [mul_S]; exact ⟨.str _, H, I.tok _, ⟨_, rfl⟩, q⟩
  · have e1 : decide ((n : Int) < -(2 ^ 63 : Int)) = false := decide_eq_false (by omega)
    have e2 : decide ((n : Int) ≥ 2 ^ 63) = false := decide_eq_false (by omega)
    rw [e1, e2]; rfl
  · rw [S_length]
    have h2 : (2 ^ 63 - 1 : Int) / 1000 ≤ (2 ^ 63 - 1) / (n : Int) := by
      have : (1 : Int) ≤ n := by omega
      exact Int.le_ediv_of_mul_le (by omega) (by
        have h3 : (2 ^ 63 - 1 : Int) / 1000 * (n : Int) ≤ (2 ^ 63 - 1 : Int) / 1000 * 1000 := Int.mul_le_mul_of_nonneg_left (by omega) (by decide)
        have h4 : (2 ^ 63 - 1 : Int) / 1000 * 1000 ≤ 2 ^ 63 - 1 := by decide
        omega)
    have h5 : (1000 : Int) < (2 ^ 63 - 1 : Int) / 1000 := by decide
    omega
  · unfold Builtin.Str.tooLong
    rw [S_length]
    simp
    omega

/-! ### items, len -/
def rIxSS : R2 := fun x y H Q => ∃ l i c, x = .str (S l) ∧ y = .int i ∧ l.length ≤ sizeLine ∧ atI l i = some c ∧ Q (.str (S [c])) H
theorem ix_S : IxR X rIxSS := by
  intro value slice pins s σ H x y v u Q I rx ry h hs
  obtain ⟨l, i, c, rfl, rfl, hz, he, q⟩ := h
  exact ix_str value slice pins s σ H _ _ v u Q I rx ry ⟨S l, i, c, rfl, rfl, by rw [S_length]; exact hz, by rw [S_cps]; exact he, q⟩ hs

/-! ### walking a text -/
def Its (l : List Nat) : It := ⟨fun i _ => i < l.length, fun i H v H' => H' = H ∧ ∃ c, l[i]? = some c ∧ v = .str (S [c]), fun i _ => l.length ≤ i⟩
theorem turn_str {P : Program} {w : World} {K : PySem.W.Frag} {tg : Expr} {l : List Nat} {t : Tok} {it : Addr} {ty : String}
    (hW : ∀ A' : Around, A'.handled = none → Walks P w A' it [it] [it] (S l).cps.size (SignAt (S l)) (fun i h => h.IsStrIter it ty (S l) t i))
    (hself : ∀ (A : Around) (i : Nat) (s : Shared) (Q : Value → Shared → Prop) (E : Value → Shared → Prop), s.heap.IsStrIter it ty (S l) t i → Q (.ref it) s → wpAny (model P w) A (pyIter (.ref it)) Q E s)
    (hty : ["enumerate", "zip", "dict_itemiterator", "dict_reverseitemiterator", "odict_iterator", "itertools.zip_longest", "itertools.pairwise"].contains ty = false) :
    Turn P w K tg (Its l) [it] it (fun i h => i ≤ l.length ∧ h.IsStrIter it ty (S l) t i) where
  mem := by simp
  obj := fun i h st b hb => by
    have e : b = it := by simpa using hb
    subst e
    obtain ⟨_, o, e, c, d⟩ := st
    exact ⟨o, e, fun v z => by rw [d] at z; cases z⟩
  keep := fun i h h' st k => by
    obtain ⟨hi, o, e, r⟩ := st
    exact ⟨hi, o, k it (by simp) o e, r⟩
  item := by
    intro X hP hw hK hc i pins s σ H E I hf st hg
    subst hP hw hK
    obtain ⟨f0, f1, f2, f3, f4, f5⟩ := hf it (by simp)
    have hg' : i < l.length := hg
    refine (hW X.A (I.ok.hd hc)).item i s _ E (by simpa using hg') st.2 fun v h' tk hv st' hk => ?_
    have I1 : Inv X pins σ H { s with heap := h', toks := tk } := I.turned (t' := tk) (fun b o hb e => hk b o (by simpa using hb) e) f0 f1 f3 f4 f5
    obtain ⟨c, u, hc', rfl⟩ := hv
    obtain ⟨o, e, cl, d⟩ := id st'
    exact ⟨_, rfl, go_of (s := { s with heap := h', toks := tk }) e cl d hty ⟨.str (S [c]), H, I1, ⟨_, rfl⟩, ⟨rfl, c, by simpa using hc', rfl⟩, ⟨hg', st'⟩, fun b hb => (hf b hb).1⟩⟩
  done := by
    intro X hP hw hK hc i pins s σ H E I hf st hg
    subst hP hw hK
    obtain ⟨f0, f1, f2, f3, f4, f5⟩ := hf it (by simp)
    have hg' : l.length ≤ i := hg
    have e : i = (S l).cps.size := by have := st.1; simp; omega
    subst e
    exact (hW X.A (I.ok.hd hc)).done s _ E st.2 fun h' tk hk => ⟨rfl, I.turned (t' := tk) (fun b o hb e => hk b o (by simpa using hb) e) f0 f1 f3 f4 f5⟩
  self := fun A i s Q E st h => hself A i s Q E st.2 h
def iStr (tl : TE) : TI := fun σ H R => tl σ H fun x H1 => ∃ l, x = .str (S l) ∧ R (Its l) H1
theorem pi_str {tg l : Expr} {tl : TE} (hl : PE X l tl) : PI X tg l (iStr tl) := by
  intro pins s σ H R I h
  refine thn (hl pins s σ H _ I h) fun v s1 ⟨x, H1, I1, r1, q1⟩ => ?_
  obtain ⟨l, rfl, q⟩ := q1
  obtain ⟨t, rfl⟩ := r1
  have fin : ∀ b ∈ [s1.heap.objs.size], FpOk X pins H1 b := fun b hb => by
    have e : b = s1.heap.objs.size := by simpa using hb
    subst e
    exact I1.fpOk (Nat.le_refl _) (I1.hok.fresh (Nat.le_refl _))
  cases ha : (S l).cps.all (· < 128)
  · refine wpAny_pyIter_wide ha ?_
    exact ⟨s1.heap.objs.size, [s1.heap.objs.size], _, _, H1, rfl, I1.kept (t' := s1.toks) fun b o e => Heap.get?_push_of_some _ e,
      turn_str (fun A' hA => Walks.strWide hA _ (S l) t) (fun A i s Q E st h => wpAny_pyIter_striter_wide st h) (by decide), ⟨Nat.zero_le _, _, Heap.get?_push_size _ rfl, rfl, rfl⟩, fin, q⟩
  · refine wpAny_pyIter_ascii ha ?_
    exact ⟨s1.heap.objs.size, [s1.heap.objs.size], _, _, H1, rfl, I1.kept (t' := s1.toks) fun b o e => Heap.get?_push_of_some _ e,
      turn_str (fun A' hA => Walks.strAscii hA _ (S l) t) (fun A i s Q E st h => wpAny_pyIter_striter_ascii st h) (by decide), ⟨Nat.zero_le _, _, Heap.get?_push_size _ rfl, rfl, rfl⟩, fin, q⟩

/-! ### all, any, min, max of a list; isinstance -/
theorem vals_at : ∀ {xs : List V} {us : List Value} {i : Nat} {u : Value}, Vals xs us → us[i]? = some u → ∃ x, xs[i]? = some x ∧ RelV x u
  | _, _, _, _, .nil, e => by simp at e
  | _, _, 0, _, .cons r _, e => by simp at e; subst e; exact ⟨_, rfl, r⟩
  | _, _, i + 1, u, .cons _ t, e => by
    obtain ⟨x, h1, h2⟩ := vals_at (i := i) (u := u) t (by simpa using e)
    exact ⟨x, by simpa using h1, h2⟩
theorem all_range (bs : List Bool) : ((List.range bs.length).all fun i => bs.getD i false) = bs.all id := by
  rw [Bool.eq_iff_iff, List.all_eq_true, List.all_eq_true]
  constructor
  · intro h b hb
    obtain ⟨i, hi, rfl⟩ := List.mem_iff_getElem.mp hb
    have := h i (List.mem_range.mpr hi)
    simpa [List.getD, hi] using this
  · intro h i hi
    have hi := List.mem_range.mp hi
    have := h bs[i] (List.getElem_mem hi)
    simpa [List.getD, hi] using this
theorem any_range (bs : List Bool) : ((List.range bs.length).any fun i => bs.getD i false) = bs.any id := by
  rw [Bool.eq_iff_iff, List.any_eq_true, List.any_eq_true]
  constructor
  · rintro ⟨i, hi, h⟩
    have hi := List.mem_range.mp hi
    exact ⟨bs[i], List.getElem_mem hi, by simpa [List.getD, hi] using h⟩
  · rintro ⟨b, hb, h⟩
    obtain ⟨i, hi, rfl⟩ := List.mem_iff_getElem.mp hb
    exact ⟨i, List.mem_range.mpr hi, by simpa [List.getD, hi] using h⟩
theorem bools_truth {prog : Program} {w : World} {A : Around} {bs : List Bool} {its : List Value} (rv : Vals (bs.map V.bl) its) : TruthOf prog w A (fun i v => its.toArray[i]? = some v) (fun i => bs.getD i false) := by
  intro i v s Q E hv q
  obtain ⟨x, hx, r⟩ := vals_at rv (by simpa using hv)
  rw [List.getElem?_map] at hx
  cases e : bs[i]? with
  | none => rw [e] at hx; cases hx
  | some b =>
    rw [e] at hx
    cases hx
    cases r
    have eb : bs.getD i false = b := by simp [List.getD, e]
    have q' : Q (bs.getD i false) s := q
    rw [eb] at q'
    exact wpAny_truthy_bool q'
theorem call_all (hc : X.calm = true) : CallR X (.builtin "all") (fun xs H Q => ∃ p, ∃ bs : List Bool, xs = [.ref p] ∧ SqL X.K H p (bs.map V.bl) ∧ Q (.bl (bs.all id)) H) := by
  intro pins s σ H xs us Q I r h
  obtain ⟨p, bs, rfl, hq, q⟩ := h
  obtain ⟨u, rfl, r1⟩ := vals1 r
  cases r1
  obtain ⟨its, rv, pl, hz⟩ := I.list hq
  have hl := rv.length
  rw [List.length_map] at hl
  refine call_all_walk (wpAny_pyIter_list pl.isList ?_)
  have hne : p ≠ s.heap.objs.size := by
    obtain ⟨o, e, _⟩ := pl.isList
    exact Nat.ne_of_lt (Heap.lt_size e)
  refine ⟨_, _, _, _, _, _, _, rfl, Walks.list (A := X.A.in1) (I.ok.hd hc) _ p hne its.toArray, ⟨⟨_, Heap.get?_push_size _ rfl, rfl, rfl⟩, pl.isList.at fun o e => Heap.get?_push_of_some _ e⟩, bools_truth rv, fun h' tk hk => ?_⟩
  rw [List.size_toArray, ← hl, all_range]
  refine ⟨.bl _, H, I.kept fun b o e => hk b o ?_ (Heap.get?_push_of_some _ e), rfl, q⟩
  simpa using Nat.ne_of_lt (Heap.lt_size e)
theorem call_any (hc : X.calm = true) : CallR X (.builtin "any") (fun xs H Q => ∃ p, ∃ bs : List Bool, xs = [.ref p] ∧ SqL X.K H p (bs.map V.bl) ∧ Q (.bl (bs.any id)) H) := by
  intro pins s σ H xs us Q I r h
  obtain ⟨p, bs, rfl, hq, q⟩ := h
  obtain ⟨u, rfl, r1⟩ := vals1 r
  cases r1
  obtain ⟨its, rv, pl, hz⟩ := I.list hq
  have hl := rv.length
  rw [List.length_map] at hl
  refine call_any_walk (wpAny_pyIter_list pl.isList ?_)
  have hne : p ≠ s.heap.objs.size := by
    obtain ⟨o, e, _⟩ := pl.isList
    exact Nat.ne_of_lt (Heap.lt_size e)
  refine ⟨_, _, _, _, _, _, _, rfl, Walks.list (A := X.A.in1) (I.ok.hd hc) _ p hne its.toArray, ⟨⟨_, Heap.get?_push_size _ rfl, rfl, rfl⟩, pl.isList.at fun o e => Heap.get?_push_of_some _ e⟩, bools_truth rv, fun h' tk hk => ?_⟩
  rw [List.size_toArray, ← hl, any_range]
  refine ⟨.bl _, H, I.kept fun b o e => hk b o ?_ (Heap.get?_push_of_some _ e), rfl, q⟩
  simpa using Nat.ne_of_lt (Heap.lt_size e)
theorem call_minL (hc : X.calm = true) : CallR X (.builtin "min") (fun xs H Q => ∃ p, ∃ ns : List Int, xs = [.ref p] ∧ SqL X.K H p (ns.map V.int) ∧ ns ≠ [] ∧ ∀ M, M ∈ ns → (∀ a ∈ ns, M ≤ a) → Q (.int M) H) := by
  intro pins s σ H xs us Q I r h
  obtain ⟨p, ns, rfl, hq, hne, q⟩ := h
  obtain ⟨u, rfl, r1⟩ := vals1 r
  cases r1
  obtain ⟨its, rv, pl, hz⟩ := I.list hq
  have hi := intsAre_of rv
  obtain ⟨ys, e⟩ := hi.allInts.items
  have hns : ns = ys.toList.map (·.1) := by rw [← hi.numsOf, ← nums_intItems, ← e]
  have hsz : 0 < ys.size := by
    have h3 := List.length_pos_iff.mpr hne
    rw [hns, List.length_map, Array.length_toList] at h3; exact h3
  have hl := pl.isList
  rw [e] at hl
  refine min_intList (I.ok.hd hc) hl hsz fun v h' tk hv hk => ?_
  obtain ⟨t, rfl⟩ := intItems_at hv
  obtain ⟨h1, h2⟩ := argBest_lt (numAt ys) (ys.size - 1)
  refine ⟨.int _, H, I.kept hk, ⟨_, rfl⟩, q _ ?_ fun a ha => ?_⟩
  · rw [hns, numAt_eq]; exact getD_mem (by rw [List.length_map, Array.length_toList]; omega)
  · rw [hns] at ha
    obtain ⟨j, hj, rfl⟩ := mem_getD ha
    rw [List.length_map, Array.length_toList] at hj
    rw [← numAt_eq]; exact h2 j (by omega)
theorem call_maxL (hc : X.calm = true) : CallR X (.builtin "max") (fun xs H Q => ∃ p, ∃ ns : List Int, xs = [.ref p] ∧ SqL X.K H p (ns.map V.int) ∧ ns ≠ [] ∧ ∀ M, M ∈ ns → (∀ a ∈ ns, a ≤ M) → Q (.int M) H) := by
  intro pins s σ H xs us Q I r h
  obtain ⟨p, ns, rfl, hq, hne, q⟩ := h
  obtain ⟨u, rfl, r1⟩ := vals1 r
  cases r1
  obtain ⟨its, rv, pl, hz⟩ := I.list hq
  have hi := intsAre_of rv
  obtain ⟨ys, e⟩ := hi.allInts.items
  have hns : ns = ys.toList.map (·.1) := by rw [← hi.numsOf, ← nums_intItems, ← e]
  have hsz : 0 < ys.size := by
    have h3 := List.length_pos_iff.mpr hne
    rw [hns, List.length_map, Array.length_toList] at h3; exact h3
  have hl := pl.isList
  rw [e] at hl
  refine max_intList (I.ok.hd hc) hl hsz fun v h' tk hv hk => ?_
  obtain ⟨t, rfl⟩ := intItems_at hv
  obtain ⟨h1, h2⟩ := argBest_gt (numAt ys) (ys.size - 1)
  refine ⟨.int _, H, I.kept hk, ⟨_, rfl⟩, q _ ?_ fun a ha => ?_⟩
  · rw [hns, numAt_eq]; exact getD_mem (by rw [List.length_map, Array.length_toList]; omega)
  · rw [hns] at ha
    obtain ⟨j, hj, rfl⟩ := mem_getD ha
    rw [List.length_map, Array.length_toList] at hj
    rw [← numAt_eq]; exact h2 j (by omega)
/-! ### == and != of data -/
mutual
inductive DenV (K : PySem.W.Frag) (H : Hp) : V → PyData → Prop
  | non : DenV K H .non .none
  | bl (b : Bool) : DenV K H (.bl b) (.bool b)
  | int (i : Int) : DenV K H (.int i) (.int i)
  | str (x : Str) : DenV K H (.str x) (.str x)
  | lst {a : Addr} {xs : List V} {ds : List PyData} : SqL K H a xs → DenAll K H xs ds → DenV K H (.ref a) (.list ds)
  | tup {a : Addr} {xs : List V} {ds : List PyData} : SqT K H a xs → DenAll K H xs ds → DenV K H (.ref a) (.tuple ds)
inductive DenAll (K : PySem.W.Frag) (H : Hp) : List V → List PyData → Prop
  | nil : DenAll K H [] []
  | cons {x : V} {d : PyData} {xs : List V} {ds : List PyData} : DenV K H x d → DenAll K H xs ds → DenAll K H (x :: xs) (d :: ds)
end
mutual
theorem DenV.reads {pins : List (Addr × Obj)} {σ : St} {H : Hp} {s : Shared} (I : Inv X pins σ H s) : ∀ {x : V} {d : PyData} {u : Value}, DenV X.K H x d → RelV x u → ∃ as, Reads s.heap u d as
  | _, _, _, .non, r => by cases r; exact ⟨_, Reads.none⟩
  | _, _, _, .bl b, r => by cases r; exact ⟨_, Reads.bool b⟩
  | _, _, _, .int i, r => by obtain ⟨t, rfl⟩ := r; exact ⟨_, Reads.int i t⟩
  | _, _, _, .str x, r => by obtain ⟨t, rfl⟩ := r; exact ⟨_, Reads.str x t⟩
  | _, _, _, .lst hq ha, r => by
    cases r
    obtain ⟨its, rv, pl, hz⟩ := I.list hq
    obtain ⟨as, q⟩ := DenAll.reads I ha rv
    obtain ⟨o, e, c, n, hd⟩ := pl.isList
    exact ⟨_, reads_list_at e c hd (by simpa using q)⟩
  | _, _, _, .tup hq ha, r => by
    cases r
    obtain ⟨its, rv, pl, hz⟩ := I.tuple hq
    obtain ⟨as, q⟩ := DenAll.reads I ha rv
    obtain ⟨o, e, c, n, hd⟩ := pl
    exact ⟨_, reads_tuple_at e c hd (by simpa using q)⟩
theorem DenAll.reads {pins : List (Addr × Obj)} {σ : St} {H : Hp} {s : Shared} (I : Inv X pins σ H s) : ∀ {xs : List V} {ds : List PyData} {us : List Value}, DenAll X.K H xs ds → Vals xs us → ∃ as, ReadsAll s.heap us ds as
  | _, _, _, .nil, .nil => ⟨_, ReadsAll.nil⟩
  | _, _, _, .cons h t, .cons r rs => by
    obtain ⟨as, q⟩ := DenV.reads I h r
    obtain ⟨bs, p⟩ := DenAll.reads I t rs
    exact ⟨_, ReadsAll.cons q p⟩
end
end
end L2

set_option Elab.async false
set_option linter.all false
set_option maxRecDepth 100000
set_option maxHeartbeats 4000000
namespace L2
open PySem PySem.Spec PyProof.Rows

/-! ### names within a block -/
section
variable {X : Cx} {N : List Str} {sc : Scope} {s3 : Shared} {H3 : Hp} {C : Addr} {fp : List Addr}
theorem vis_blk {x : Str} (h : sc.names.lookup x = some .local ∨ sc.names.lookup x = some .free) : Vis (relabel sc X.env) x := by
  rcases h with h | h
  · exact .inl (relabel_some h (by decide))
  · rcases relabel_free (env := X.env) h with z | z
    · exact .inr (.inl z)
    · exact .inr (.inr z)
theorem pvb (i : Nat) {x : Str} {pos : Pos} (hN : N[i]? = some x := by rfl) (hv : sc.names.lookup x = some .local ∨ sc.names.lookup x = some .free := by first | exact Or.inl rfl | exact Or.inr rfl)
    (hd : (x == ("__debug__" : Str)) = false := by decide) (hcd : (x == ("__classdict__" : Str)) = false := by decide) : PE (blk X N sc s3 H3 C fp) (.Name x pos) (tVar i) :=
  pe_var (X := blk X N sc s3 H3 C fp) hN (vis_blk (X := X) hv) hd hcd
theorem glb {x : Str} (h : sc.names.lookup x = some .globalImplicit) : Gl (blk X N sc s3 H3 C fp) x := relabel_some h (by decide)
theorem pgb {i : Nat} {x : Str} {pos : Pos} (hnd : N.Nodup) (hN : N[i]? = some x) (h : sc.names.lookup x = some .local) : PG (blk X N sc s3 H3 C fp) (.Name x pos) (gName i) :=
  pg_name (X := blk X N sc s3 H3 C fp) hnd hN (.inl (relabel_some h (by decide))) (.inr (relabel_some h (by decide)))
end

theorem pe_compD (sc0 : Scope) (N0 N : List Str) (mp : List (Option Nat)) {X : Cx} {sc : Scope} {elt tg iter : Expr} {ifs : List Expr} {pos : Pos} {wi : TI} {g : TG} {ti : TT} {te : TE} (S : CompSc sc0 N0 N mp sc) (hi : PI X tg iter wi)
    (hb : ∀ s3 H3 C fp, PG (blk X N sc s3 H3 C fp) tg g ∧ PIf (blk X N sc s3 H3 C fp) ifs ti ∧ PE (blk X N sc s3 H3 C fp) elt te) (hc : X.calm = true := by rfl) (h0 : X.env.scope = sc0 := by rfl) (hN : X.N = N0 := by rfl)
    (hs : ∀ x, foldedSetIterable iter X.env x = pure x := by intro _; rfl) : PE X (.ListComp elt [⟨tg, iter, ifs, 0⟩] sc pos) (tComp mp wi g ti te) := by
  subst h0 hN
  exact pe_comp hc S hi hb hs

/-! ### defs of the text -/
structure Df (P : Program) (w : World) (K : PySem.W.Frag) (mg : Str → Option Value) (base : Heap) (x : Str) (k : Nat) (f : Addr) (fd : FuncData) (ps : List Str) (sp : Sp) : Prop where
  ok : FnOk P w K mg base CX0 k f fd ps sp
  m : mg x = some (.ref f)
  kp : PySem.W.keepIn K (.ref f) = true
  b : Binds K fd ps []
theorem pe_callD {X : Cx} {x : Str} {k k' : Nat} {f : Addr} {fd : FuncData} {ps : List Str} {sp : Sp} {p pos : Pos} {e : Expr} {es : List Expr} {t : TA} (D : Df X.prog X.w X.K X.mg X.base x k f fd ps sp) (hr : Room k' X.A) (hg : Gl X x) (ha : PA X (e :: es) t) (hk : k ≤ k' := by decide)
    (hdb : (x == ("__debug__" : Str)) = false := by decide) (he : starEach (e :: es) X.env = (false, eval e X.env) :: starEach es X.env := by rfl) (hpl : (backTo pos (starEach es X.env)).any (·.1) = false := by rfl) :
    PE X (.Call (.Name x p) (e :: es) [] pos) (tCall sp [] E0 t) := pe_call D.ok (hr.mono hk) hg D.m D.kp D.b .nil pass0 ha hdb he hpl

/-! ### the rules that name the text's written part, by a name for it -/
section
variable {X : Cx} (K : PySem.W.Frag)
theorem ix_listK (h : X.K = K) : IxR X (rIxL K) := by subst h; exact ix_list
theorem op_notInK (h : X.K = K) : OpR X (compareOp .NotIn) (rIn K true) := by subst h; exact op_notIn_seq
theorem call_lenK (h : X.K = K) : CallR X (.builtin "len") (fun xs H Q => ∃ p ys, xs = [.ref p] ∧ (SqL K H p ys ∨ SqT K H p ys) ∧ Q (.int ys.length) H) := by subst h; exact call_len_seq
theorem call_listK (h : X.K = K) : CallR X (.type "list") (fun xs H Q => ∃ p ys, xs = [.ref p] ∧ (SqL K H p ys ∨ SqT K H p ys) ∧ ∀ l, H l = none → Q (.ref l) (upd H l (.lst ys))) := by subst h; exact call_list_of
theorem sl_listK (h : X.K = K) : SlR X (rSlL K) := by subst h; exact sl_list
theorem pi_listK {tg l : Expr} {tl : TE} (h : X.K = K) (hl : PE X l tl) : PI X tg l (iList K tl) := by subst h; exact pi_list hl
theorem call_allK (h : X.K = K) (hc : X.calm = true) : CallR X (.builtin "all") (fun xs H Q => ∃ p, ∃ bs : List Bool, xs = [.ref p] ∧ SqL K H p (bs.map V.bl) ∧ Q (.bl (bs.all id)) H) := by subst h; exact call_all hc
theorem call_anyK (h : X.K = K) (hc : X.calm = true) : CallR X (.builtin "any") (fun xs H Q => ∃ p, ∃ bs : List Bool, xs = [.ref p] ∧ SqL K H p (bs.map V.bl) ∧ Q (.bl (bs.any id)) H) := by subst h; exact call_any hc
theorem call_minK (h : X.K = K) (hc : X.calm = true) : CallR X (.builtin "min") (fun xs H Q => ∃ p, ∃ ns : List Int, xs = [.ref p] ∧ SqL K H p (ns.map V.int) ∧ ns ≠ [] ∧ ∀ M, M ∈ ns → (∀ a ∈ ns, M ≤ a) → Q (.int M) H) := by subst h; exact call_minL hc
theorem call_maxK (h : X.K = K) (hc : X.calm = true) : CallR X (.builtin "max") (fun xs H Q => ∃ p, ∃ ns : List Int, xs = [.ref p] ∧ SqL K H p (ns.map V.int) ∧ ns ≠ [] ∧ ∀ M, M ∈ ns → (∀ a ∈ ns, a ≤ M) → Q (.int M) H) := by subst h; exact call_maxL hc
theorem pe_bmK (h : X.K = K) {o e : Expr} {es : List Expr} {to : TE} {t : TA} {name : Str} {apos cpos : Pos} {T id : String} {r : V → List V → Hp → VK → Prop} (pa : PlainAttrs T) (slot : Slot T name id) (hty : typeOf (.builtin id) = pure (.type "method_descriptor")) (hm : MtR X id r) (ho : PE X o to) (ha : PA X (e :: es) t)
    (hbase : attributeBase o name X.env (eval o X.env) = eval o X.env)
    (hfew : ((backTo cpos (starEach (e :: es) X.env)).all (fun x => !x.1) && (backToKw cpos (keywordEach [] X.env)).all (fun x => x.1.isSome)
      && decide ((e :: es).length + ([] : List Keyword).length + (if ([] : List Keyword).isEmpty then 0 else 1) < 30)) = true)
    (hline : (apos.endLine == cpos.line) = true) (hs : starEach (e :: es) X.env = (false, eval e X.env) :: starEach es X.env) (hplain : (backTo cpos (starEach es X.env)).any (·.1) = false) :
    PE X (.Call (.Attribute o name apos) (e :: es) [] cpos) (tBM K T r to t) := by subst h; exact pe_bm pa slot hty hm ho ha hbase hfew hline hs hplain
end
/-! ### constants -/
section
variable {X : Cx}
theorem pe_gI {x : Str} {i : Int} {pos : Pos} (hg : Gl X x) (h : ∃ t, X.mg x = some (.int i t)) (hd : (x == ("__debug__" : Str)) = false := by decide) : PE X (.Name x pos) (tC (.int i)) := by
  obtain ⟨t, h⟩ := h
  exact pe_glob hg h ⟨t, rfl⟩ hd
theorem pe_gS {x : Str} {l : List Nat} {pos : Pos} (hg : Gl X x) (h : ∃ t, X.mg x = some (.str (S l) t)) (hd : (x == ("__debug__" : Str)) = false := by decide) : PE X (.Name x pos) (tC (.str (S l))) := by
  obtain ⟨t, h⟩ := h
  exact pe_glob hg h ⟨t, rfl⟩ hd
theorem pe_strS (l : List Nat) {x : Str} {j : Nat} {pos : Pos} (h : x = S l := by decide +kernel) : PE X (.Constant (.str x) j pos) (tC (.str (S l))) := by
  subst h
  exact pe_str
theorem call_lenS : CallR X (.builtin "len") (fun xs H Q => ∃ l, xs = [.str (S l)] ∧ l.length ≤ sizeLine ∧ Q (.int l.length) H) := by
  intro pins s σ H xs us Q I r h
  obtain ⟨l, rfl, hz, q⟩ := h
  exact call_len_str pins s σ H _ us Q I r ⟨S l, rfl, by rw [S_length]; exact hz, by rw [S_length]; exact q⟩
end

/-! ### the readings, a step each -/
section
variable {σ : St} {H : Hp} {Q : VK} {D : Ends} {K : PySem.W.Frag}
theorem g_seq {t u : TS} (h : t { D with nx := u D } σ H) : tSeq t u D σ H := h
theorem g_next (h : D.nx σ H) : tNext D σ H := h
theorem g_ret {te : TE} (h : te σ H D.rt) : tRet te D σ H := h
theorem g_drop {te : TE} (h : te σ H fun _ H1 => D.nx σ H1) : tDrop te D σ H := h
theorem g_asg {te : TE} {g : TG} (h : te σ H fun x H1 => g x σ H1 D.nx) : tAsg te g D σ H := h
theorem g_name {i : Nat} {v : V} {R : St → Hp → Prop} (h : R (σ.set i (some v)) H) : gName i v σ H R := h
theorem g_if {c : TT} {t u : TS} (h : c σ H fun b H1 => if b = true then t D σ H1 else u D σ H1) : tIfS c t u D σ H := h
theorem g_varT {i : Nat} (h : ∃ v, σ[i]? = some (some v) ∧ Q v H) : tVar i σ H Q := h
theorem g_c {v : V} (h : Q v H) : tC v σ H Q := h
theorem g_op {r : R2} {ta tb : TE} (h : ta σ H fun x H1 => tb σ H1 fun y H2 => r x y H2 Q) : tOp r ta tb σ H Q := h
theorem g_un {r : V → Hp → VK → Prop} {ta : TE} (h : ta σ H fun x H1 => r x H1 Q) : tUn r ta σ H Q := h
theorem g_rI0 {g : Int → Int → V} {i j : Int} (h : Q (g i j) H) : rI0 g (.int i) (.int j) H Q := ⟨i, j, rfl, rfl, h⟩
theorem g_rI {P : Int → Int → Prop} {g : Int → Int → V} {i j : Int} (c : P i j) (h : Q (g i j) H) : rI P g (.int i) (.int j) H Q := ⟨i, j, rfl, rfl, c, h⟩
theorem g_test {t : TE} {R : Bool → Hp → Prop} (h : t σ H fun x H' => ∃ k, x = .bl k ∧ R k H') : tTest t σ H R := h
theorem g_tb {t : TE} {R : Bool → Hp → Prop} (h : t σ H fun x H' => ∃ k, x = .bl k ∧ R k H') : tB t σ H R := h
theorem g_and {t u : TT} {R : Bool → Hp → Prop} (h : t σ H fun c H1 => if c = true then u σ H1 R else R false H1) : tAnd t u σ H R := h
theorem g_or {t u : TT} {R : Bool → Hp → Prop} (h : t σ H fun c H1 => if c = true then R true H1 else u σ H1 R) : tOr t u σ H R := h
theorem g_not {t : TT} {R : Bool → Hp → Prop} (h : t σ H fun c H1 => R (!c) H1) : tNot t σ H R := h
theorem g_orV {ta tb : TE} (h : ta σ H fun x H1 => ∃ c, x = .bl c ∧ if c = true then Q (.bl true) H1 else tb σ H1 Q) : tOrV ta tb σ H Q := h
theorem g_cb {r : List V → Hp → VK → Prop} {t : TA} (h : t σ H fun vs H1 => r vs H1 Q) : tCB r t σ H Q := h
theorem g_nil {R : List V → Hp → Prop} (h : R [] H) : tNil σ H R := h
theorem g_cons {ta : TE} {tr : TA} {R : List V → Hp → Prop} (h : ta σ H fun x H1 => tr σ H1 fun xs H2 => R (x :: xs) H2) : tCons ta tr σ H R := h
theorem g_bm {T : String} {r : V → List V → Hp → VK → Prop} {to : TE} {t : TA} (h : to σ H fun x H1 => tyV K T x H1 ∧ t σ H1 fun xs H2 => r x xs H2 Q) : tBM K T r to t σ H Q := h
theorem g_sl {r : V → Option Int → Option Int → Hp → VK → Prop} {te : TE} {tl th : TO} (h : te σ H fun x H1 => tl σ H1 fun l H2 => th σ H2 fun u H3 => r x l u H3 Q) : tSl r te tl th σ H Q := h
theorem g_nopart {R : Option Int → Hp → Prop} (h : R none H) : tNoPart σ H R := h
theorem g_part {t : TE} {R : Option Int → Hp → Prop} (h : t σ H fun x H1 => ∃ i, x = .int i ∧ R (some i) H1) : tPart t σ H R := h
theorem g_call {sp : Sp} {E : XK} {t : TA} (h : t σ H fun vs H1 => sp (vs ++ []) H1 Q E) : tCall sp [] E t σ H Q := h
theorem g_lst {t : TA} (h : t σ H fun xs H1 => xs.length ≤ sizeLine ∧ ∀ p, H1 p = none → Q (.ref p) (upd H1 p (.lst xs))) : tLst t σ H Q := h
theorem g_tup {t : TA} (h : t σ H fun xs H1 => xs.length ≤ sizeLine ∧ ∀ p, H1 p = none → Q (.ref p) (upd H1 p (.tup xs))) : tTup t σ H Q := h
theorem g_addS {a b : List Nat} (c : a.length + b.length ≤ sizeLine) (h : Q (.str (S (a ++ b))) H) : rAddS (.str (S a)) (.str (S b)) H Q := ⟨a, b, rfl, rfl, c, h⟩
theorem g_inS {a b : List Nat} (h : Q (.bl (within a b)) H) : rInS (.str (S a)) (.str (S b)) H Q := ⟨a, b, rfl, rfl, h⟩
theorem tyL {p : Addr} {xs : List V} (h : SqL K H p xs) : tyV K "list" (.ref p) H := Or.inl ⟨rfl, xs, h⟩
theorem g_tyS {x : Str} {A : Prop} (h : A) : tyV K "str" (.str x) H ∧ A := ⟨rfl, h⟩
theorem g_tyL {p : Addr} {xs : List V} {A : Prop} (c : SqL K H p xs) (h : A) : tyV K "list" (.ref p) H ∧ A := ⟨tyL c, h⟩
theorem g_ew {a b : List Nat} (h : Q (.bl (b.isSuffixOf a)) H) : rEw (.str (S a)) [.str (S b)] H Q := ⟨a, b, rfl, rfl, h⟩
theorem g_slS {l : List Nat} {lo hi : Option Int} (c : l.length ≤ sizeLine) (h : Q (.str (S (cutL l lo hi))) H) : rSlS (.str (S l)) lo hi H Q := ⟨l, rfl, c, h⟩
end

theorem dec_S {a b : List Nat} : decide (V.str (S a) = V.str (S b)) = decide (a = b) := by
  by_cases h : a = b
  · subst h; simp
  · rw [decide_eq_false h, decide_eq_false]
    intro z
    exact h (S_inj.mp (V.str.inj z))
theorem dec_I {a b : Int} : decide (V.int a = V.int b) = decide (a = b) := by
  by_cases h : a = b
  · subst h; simp
  · rw [decide_eq_false h, decide_eq_false]
    intro z
    exact h (V.int.inj z)
section
variable {H : Hp} {Q : VK} {K : PySem.W.Frag}
theorem g_eqI {i j : Int} (h : Q (.bl (decide (i = j))) H) : rEq (.int i) (.int j) H Q := ⟨rfl, by rw [dec_I]; exact h⟩
theorem g_neI {i j : Int} (h : Q (.bl (!decide (i = j))) H) : rNe (.int i) (.int j) H Q := ⟨rfl, by rw [dec_I]; exact h⟩
theorem g_eqS {a b : List Nat} (h : Q (.bl (decide (a = b))) H) : rEq (.str (S a)) (.str (S b)) H Q := ⟨rfl, by rw [dec_S]; exact h⟩
theorem g_neS {a b : List Nat} (h : Q (.bl (!decide (a = b))) H) : rNe (.str (S a)) (.str (S b)) H Q := ⟨rfl, by rw [dec_S]; exact h⟩
theorem g_ixS {l : List Nat} {i : Int} {c : Nat} (hz : l.length ≤ sizeLine) (e : atI l i = some c) (h : Q (.str (S [c])) H) : rIxSS (.str (S l)) (.int i) H Q := ⟨l, i, c, rfl, rfl, hz, e, h⟩
theorem g_ixL {p : Addr} {xs : List V} {i : Int} {v : V} (c : SqL K H p xs) (e : atI xs i = some v) (h : Q v H) : rIxL K (.ref p) (.int i) H Q := ⟨p, xs, i, v, rfl, rfl, c, e, h⟩
end
theorem g_ite {c A B : Prop} [Decidable c] (h1 : c → A) (h2 : ¬ c → B) : if decide c = true then A else B := by
  by_cases h : c
  · rw [decide_eq_true h, if_pos rfl]; exact h1 h
  · rw [decide_eq_false h, if_neg Bool.false_ne_true]; exact h2 h
theorem g_iteN {c A B : Prop} [Decidable c] (h1 : ¬ c → A) (h2 : c → B) : if (!decide c) = true then A else B := by
  by_cases h : c
  · rw [decide_eq_true h]; exact iteF (h2 h)
  · rw [decide_eq_false h]; exact iteT (h1 h)
theorem iteTd {c A B : Prop} [Decidable c] (hc : c) (h : A) : if decide c = true then A else B := by rw [decide_eq_true hc]; exact iteT h
theorem iteFd {c A B : Prop} [Decidable c] (hc : ¬ c) (h : B) : if decide c = true then A else B := by rw [decide_eq_false hc]; exact iteF h

theorem small {n : Nat} (h : n ≤ 1000) : n ≤ sizeLine := Nat.le_of_lt (small1000 h)
/-! ### heaps that only grow -/
theorem same_upd {H H1 : Hp} {D : Addr} {o : HO} (e : Same H H1) (hD : H D = none) : Same H (upd H1 D o) := fun b u hb => by
  rw [upd_ne (ne_of_none hb hD)]; exact e b u hb
/-! ### a comprehension over known items -/
inductive All2 {α β : Type} (F : α → β → Prop) : List α → List β → Prop
  | nil : All2 F [] []
  | snoc {a : α} {b : β} {l : List α} {m : List β} : All2 F l m → F a b → All2 F (l ++ [a]) (m ++ [b])
theorem All2.mono {α β : Type} {F G : α → β → Prop} (h : ∀ a b, F a b → G a b) {l : List α} {m : List β} (x : All2 F l m) : All2 G l m := by
  induction x with
  | nil => exact .nil
  | snoc _ f ih => exact .snoc ih (h _ _ f)
theorem All2.map {α β : Type} {f : α → β} {l : List α} {m : List β} (x : All2 (fun a b => b = f a) l m) : m = l.map f := by
  induction x with
  | nil => rfl
  | snoc _ h ih => subst h; rw [ih]; simp
theorem All2.length {α β : Type} {F : α → β → Prop} {l : List α} {m : List β} (x : All2 F l m) : m.length = l.length := by
  induction x with
  | nil => rfl
  | snoc _ h ih => simp [ih]

/-- what an iterator must do to go through xs while the heap only grows -/
structure Goes (J : It) (H1 : Hp) (xs : List V) : Prop where
  go : ∀ i H', Same H1 H' → i < xs.length → J.go i H'
  yld : ∀ i H' x H'', Same H1 H' → i < xs.length → J.yld i H' x H'' → H'' = H' ∧ xs[i]? = some x
  stop : ∀ H', Same H1 H' → J.stop xs.length H'
theorem goes_range (lo : Int) (n : Nat) (H1 : Hp) : Goes (Itr lo n) H1 ((List.range n).map fun (k : Nat) => V.int (lo + (k : Int))) := by
  refine ⟨fun i H' _ hi => ?_, fun i H' x H'' _ hi y => ?_, fun H' _ => ?_⟩
  · rw [List.length_map, List.length_range] at hi; exact hi
  · rw [List.length_map, List.length_range] at hi
    obtain ⟨e, rfl⟩ := y
    refine ⟨e, ?_⟩
    rw [List.getElem?_map, List.getElem?_range hi]
    rfl
  · rw [List.length_map, List.length_range]; exact Nat.le_refl _
theorem goes_list {K : PySem.W.Frag} {a : Addr} {xs : List V} {H1 : Hp} (h : SqL K H1 a xs) : Goes (Itl K a) H1 xs := by
  refine ⟨fun i H' e hi => ⟨xs, xs[i], e.seq h, by simp [hi]⟩, fun i H' x H'' e hi y => ?_, fun H' e => ⟨xs, e.seq h, Nat.le_refl _⟩⟩
  obtain ⟨e', y⟩ := y
  exact ⟨e', y xs (e.seq h)⟩
theorem goes_str (l : List Nat) (H1 : Hp) : Goes (Its l) H1 (l.map fun c => V.str (S [c])) := by
  refine ⟨fun i H' _ hi => ?_, fun i H' x H'' _ hi y => ?_, fun H' _ => ?_⟩
  · rw [List.length_map] at hi; exact hi
  · obtain ⟨e, c, hc, rfl⟩ := y
    refine ⟨e, ?_⟩
    rw [List.getElem?_map, hc]
    rfl
  · rw [List.length_map]; exact Nat.le_refl _

theorem comp_gen {α : Type} {J : It} {src : List α} {gv : α → V} {mp : List (Option Nat)} {σ : St} {H1 : Hp} {ti : TT} {te : TE} {Dd : Addr} {Q : VK} (p : α → Bool) (F : α → V → Hp → Prop) (G : Goes J H1 (src.map gv)) (hD : H1 Dd = none) (hz : src.length ≤ sizeLine)
    (Fm : ∀ a y H H', (∀ b o, b ≠ Dd → H b = some o → H' b = some o) → F a y H → F a y H')
    (ht : ∀ a ∈ src, ∀ (H' : Hp) (R : Bool → Hp → Prop), Same H1 H' → (∀ H'', Same H' H'' → R (p a) H'') → ti ((pick mp σ).set 0 (some (gv a))) H' R)
    (he : ∀ a ∈ src, p a = true → ∀ (H' : Hp) (R : VK), Same H1 H' → H' Dd ≠ none → (∀ y H'', Same H' H'' → F a y H'' → R y H'') → te ((pick mp σ).set 0 (some (gv a))) H' R)
    (q : ∀ H' ys, Same H1 H' → H' Dd = some (.lst ys) → All2 (fun x y => F x y H') (src.filter p) ys → Q (.ref Dd) H') :
    CompW J mp (gName 0) ti te Dd Q σ H1 := by
  let W : Nat → Nat → St → Hp → Prop := fun i m σ' H' => m = src.length - i ∧ i ≤ src.length ∧ (∀ v, σ'.set 0 (some v) = (pick mp σ).set 0 (some v)) ∧ Same H1 H' ∧ ∃ ys, H' Dd = some (.lst ys) ∧ All2 (fun x y => F x y H') ((src.take i).filter p) ys
  have hlm : (src.map gv).length = src.length := List.length_map ..
  refine ⟨W, ⟨src.length, by simp, Nat.zero_le _, fun v => rfl, same_upd (Same.refl _) hD, [], upd_same, by simpa using All2.nil⟩, ?_⟩
  rintro i m σ' H' ⟨rfl, hi, hσ, hS, ys, hy, ha⟩
  by_cases hlt : i < src.length
  · refine .inr ⟨G.go i H' hS (by rw [hlm]; exact hlt), fun σ2 H2 => W (i + 1) (src.length - (i + 1)) σ2 H2, fun σ2 H2 w => ⟨_, by omega, w⟩, fun x H'' y => ?_⟩
    obtain ⟨rfl, hx⟩ := G.yld i H' x H'' hS (by rw [hlm]; exact hlt) y
    obtain ⟨a, hxa, rfl⟩ : ∃ a, src[i]? = some a ∧ gv a = x := by
      rw [List.getElem?_map] at hx
      cases e : src[i]? with
      | none => rw [e] at hx; cases hx
      | some a => rw [e] at hx; exact ⟨a, rfl, Option.some.inj hx⟩
    have hm : a ∈ src := List.mem_of_getElem? hxa
    show ti (σ'.set 0 (some (gv a))) _ _
    rw [hσ (gv a)]
    have hset : ∀ v, ((pick mp σ).set 0 (some (gv a))).set 0 (some v) = (pick mp σ).set 0 (some v) := fun v => List.set_set ..
    have htk : (src.take (i + 1)).filter p = (src.take i).filter p ++ (if p a then [a] else []) := take_succ_filter p src i a hxa
    refine ht a hm _ _ hS fun H3 s3 => ?_
    have hS3 : Same H1 H3 := hS.trans s3
    have hy3 : H3 Dd = some (.lst ys) := s3 _ _ hy
    have ha3 : All2 (fun x y => F x y H3) ((src.take i).filter p) ys := ha.mono fun a b f => Fm a b _ _ (fun c o _ e => s3 c o e) f
    cases hp : p a with
    | false =>
      rw [if_neg Bool.false_ne_true]
      refine ⟨rfl, hlt, hset, hS3, ys, hy3, ?_⟩
      rw [htk, hp]
      simpa using ha3
    | true =>
      rw [if_pos rfl]
      refine he a hm hp H3 _ hS3 (by rw [hy3]; exact fun z => nomatch z) fun y H4 s4 f => ?_
      have hy4 : H4 Dd = some (.lst ys) := s4 _ _ hy3
      have hlen : ys.length ≤ i := by
        rw [ha.length]
        exact Nat.le_trans (List.length_filter_le _ _) (by rw [List.length_take]; omega)
      refine ⟨ys, hy4, by omega, rfl, hlt, hset, same_upd (hS3.trans s4) hD, ys ++ [y], upd_same, ?_⟩
      rw [htk, hp]
      have up : ∀ (c : Addr) (o : HO), c ≠ Dd → H4 c = some o → upd H4 Dd (.lst (ys ++ [y])) c = some o := fun c o hc e => by rw [upd_ne hc]; exact e
      exact All2.snoc (ha3.mono fun a b f' => Fm a b _ _ (fun c o hc e => up c o hc (s4 c o e)) f') (Fm a y _ _ up f)
  · have e : i = src.length := by omega
    subst e
    rw [List.take_length] at ha
    exact .inl ⟨by rw [← hlm]; exact G.stop H' hS, q H' ys hS hy ha⟩

/-- .. whose tests and elements make nothing that is kept -/
theorem comp_pure {α : Type} {J : It} {src : List α} {gv : α → V} {mp : List (Option Nat)} {σ : St} {H1 : Hp} {ti : TT} {te : TE} {Dd : Addr} {Q : VK} (p : α → Bool) (f : α → V) (G : Goes J H1 (src.map gv)) (hD : H1 Dd = none) (hz : src.length ≤ sizeLine)
    (ht : ∀ a ∈ src, ∀ (H' : Hp) (R : Bool → Hp → Prop), Same H1 H' → (∀ H'', Same H' H'' → R (p a) H'') → ti ((pick mp σ).set 0 (some (gv a))) H' R)
    (he : ∀ a ∈ src, p a = true → ∀ (H' : Hp) (R : VK), Same H1 H' → (∀ H'', Same H' H'' → R (f a) H'') → te ((pick mp σ).set 0 (some (gv a))) H' R)
    (q : ∀ H', Same H1 H' → H' Dd = some (.lst ((src.filter p).map f)) → Q (.ref Dd) H') :
    CompW J mp (gName 0) ti te Dd Q σ H1 :=
  comp_gen p (fun x y _ => y = f x) G hD hz (fun _ _ _ _ _ h => h) ht (fun x hx hp H' R s1 _ k => he x hx hp H' R s1 fun H'' s2 => k _ H'' s2 rfl)
    fun H' ys s1 hy ha => q H' s1 (by rw [hy, ha.map])
theorem filter_yes {α : Type} (l : List α) : l.filter (fun _ => true) = l := by simp
theorem comp_genT {α : Type} {J : It} {src : List α} {gv : α → V} {mp : List (Option Nat)} {σ : St} {H1 : Hp} {te : TE} {Dd : Addr} {Q : VK} (F : α → V → Hp → Prop) (G : Goes J H1 (src.map gv)) (hD : H1 Dd = none) (hz : src.length ≤ sizeLine)
    (Fm : ∀ a y H H', (∀ b o, b ≠ Dd → H b = some o → H' b = some o) → F a y H → F a y H')
    (he : ∀ a ∈ src, ∀ (H' : Hp) (R : VK), Same H1 H' → H' Dd ≠ none → (∀ y H'', Same H' H'' → F a y H'' → R y H'') → te ((pick mp σ).set 0 (some (gv a))) H' R)
    (q : ∀ H' ys, Same H1 H' → H' Dd = some (.lst ys) → All2 (fun x y => F x y H') src ys → Q (.ref Dd) H') : CompW J mp (gName 0) tYes te Dd Q σ H1 :=
  comp_gen (fun _ => true) F G hD hz Fm (fun _ _ H' R _ k => k H' (Same.refl _)) (fun a ha _ H' R s1 h1 k => he a ha H' R s1 h1 k) fun H' ys s1 hy ha => q H' ys s1 hy (by rw [filter_yes] at ha; exact ha)
theorem comp_map {α : Type} {J : It} {src : List α} {gv : α → V} {mp : List (Option Nat)} {σ : St} {H1 : Hp} {te : TE} {Dd : Addr} {Q : VK} (f : α → V) (G : Goes J H1 (src.map gv)) (hD : H1 Dd = none) (hz : src.length ≤ sizeLine)
    (he : ∀ a ∈ src, ∀ (H' : Hp) (R : VK), Same H1 H' → (∀ H'', Same H' H'' → R (f a) H'') → te ((pick mp σ).set 0 (some (gv a))) H' R)
    (q : ∀ H', Same H1 H' → H' Dd = some (.lst (src.map f)) → Q (.ref Dd) H') : CompW J mp (gName 0) tYes te Dd Q σ H1 :=
  comp_genT (fun x y _ => y = f x) G hD hz (fun _ _ _ _ _ h => h) (fun x hx H' R s1 _ k => he x hx H' R s1 fun H'' s2 => k _ H'' s2 rfl) fun H' ys s1 hy ha => q H' s1 (by rw [hy, ha.map])
theorem all2_ints {α : Type} {P : Int → Prop} {src : List α} {ys : List V} (h : All2 (fun _ y => ∃ n : Int, y = V.int n ∧ P n) src ys) : ∃ ns : List Int, ys = ns.map V.int ∧ ns.length = src.length ∧ ∀ n ∈ ns, P n := by
  induction h with
  | nil => exact ⟨[], rfl, rfl, by simp⟩
  | snoc _ f ih =>
    obtain ⟨ns, rfl, hl, hp⟩ := ih
    obtain ⟨n, rfl, pn⟩ := f
    refine ⟨ns ++ [n], by simp, by simp [hl], fun m hm => ?_⟩
    rcases List.mem_append.mp hm with z | z
    · exact hp m z
    · have : m = n := by simpa using z
      subst this; exact pn
def ForW (J : It) (g : TG) (tb : TS) (D : Ends) (σ : St) (H1 : Hp) : Prop := ∃ W : Nat → Nat → St → Hp → Prop, (∃ m, W 0 m σ H1) ∧ ∀ i m σ H, W i m σ H →
  (J.stop i H ∧ D.nx σ H) ∨ (J.go i H ∧ ∃ N : St → Hp → Prop, (∀ σ' H', N σ' H' → ∃ m', m' < m ∧ W (i + 1) m' σ' H') ∧ ∀ x H', J.yld i H x H' → g x σ H' fun σ2 H2 => tb { D with nx := N, ct := N, bk := D.nx } σ2 H2)
theorem forR {lo : Int} {n : Nat} {g : TG} {tb : TS} {D : Ends} {σ : St} {H : Hp} (Pv : Nat → St → Hp → Prop) (h0 : Pv 0 σ H)
    (hs : ∀ i σ H, i < n → Pv i σ H → g (.int (lo + i)) σ H fun σ2 H2 => tb { D with nx := Pv (i + 1), ct := Pv (i + 1), bk := D.nx } σ2 H2) (hd : ∀ σ H, Pv n σ H → D.nx σ H) : ForW (Itr lo n) g tb D σ H := for_range Pv h0 hs hd
theorem forL {K : PySem.W.Frag} {a : Addr} {xs : List V} {g : TG} {tb : TS} {D : Ends} {σ : St} {H : Hp} (Pv : Nat → St → Hp → Prop) (h0 : Pv 0 σ H) (hl : ∀ i σ H, i ≤ xs.length → Pv i σ H → SqL K H a xs)
    (hs : ∀ i x σ H, xs[i]? = some x → Pv i σ H → g x σ H fun σ2 H2 => tb { D with nx := Pv (i + 1), ct := Pv (i + 1), bk := D.nx } σ2 H2) (hd : ∀ σ H, Pv xs.length σ H → D.nx σ H) : ForW (Itl K a) g tb D σ H := for_list Pv h0 hl hs hd
section
variable {mp : List (Option Nat)} {wi : TI} {g : TG} {ti : TT} {te : TE} {σ : St} {H : Hp} {Q : VK} {R : It → Hp → Prop} {K : PySem.W.Frag}
theorem g_comp (h : wi σ H fun J H1 => ∀ D, H1 D = none → CompW J mp g ti te D Q σ H1) : tComp mp wi g ti te σ H Q := h
theorem g_istr {tl : TE} (h : tl σ H fun x H1 => ∃ l, x = .str (S l) ∧ R (Its l) H1) : iStr tl σ H R := h
theorem g_ilist {tl : TE} (h : tl σ H fun x H1 => ∃ a, x = .ref a ∧ (∃ xs, SqL K H1 a xs) ∧ R (Itl K a) H1) : iList K tl σ H R := h
theorem g_rng1 {ta : TA} (h : ta σ H fun vs H1 => ∃ j : Int, vs = [.int j] ∧ -(2 ^ 62) ≤ j ∧ j < 2 ^ 62 ∧ R (Itr 0 j.toNat) H1) : iRng1 ta σ H R := h
theorem g_rng2 {ta : TA} (h : ta σ H fun vs H1 => ∃ i j : Int, vs = [.int i, .int j] ∧ (-(2 ^ 62) ≤ i ∧ i < 2 ^ 62 ∧ -(2 ^ 62) ≤ j ∧ j < 2 ^ 62) ∧ R (Itr i (j - i).toNat) H1) : iRng2 ta σ H R := h
theorem g_for {tb : TS} {D : Ends} (h : wi σ H fun J H1 => ForW J g tb D σ H1) : tFor wi g tb D σ H := h
end
theorem cutL_to {α : Type} (l : List α) (k : Nat) : cutL l none (some (k : Int)) = l.take k := by
  unfold cutL
  rw [HT.sIx_nat, HT.sIx_none, List.drop_zero, Nat.sub_zero]
  by_cases h : k ≤ l.length
  · rw [Nat.min_eq_left h]
  · rw [Nat.min_eq_right (by omega), List.take_length, List.take_of_length_le (by omega)]
theorem cutL_from {α : Type} (l : List α) (k : Nat) : cutL l (some (k : Int)) none = l.drop k := by
  unfold cutL
  rw [HT.sIx_nat, HT.sIx_none]
  by_cases h : k ≤ l.length
  · rw [Nat.min_eq_left h, List.take_of_length_le (by rw [List.length_drop]; omega)]
  · rw [Nat.min_eq_right (by omega), List.drop_length, List.drop_of_length_le (by omega)]
    simp
theorem within_one (c : Nat) (b : List Nat) : within [c] b = decide (c ∈ b) := by
  rw [Bool.eq_iff_iff, decide_eq_true_eq]
  unfold within
  rw [List.any_eq_true]
  constructor
  · rintro ⟨i, hi, h⟩
    rw [List.isPrefixOf_iff_prefix] at h
    exact List.mem_of_mem_drop (h.subset (by simp))
  · intro h
    obtain ⟨i, hi, rfl⟩ := List.mem_iff_getElem.mp h
    refine ⟨i, List.mem_range.mpr (by omega), ?_⟩
    rw [List.isPrefixOf_iff_prefix, List.drop_eq_getElem_cons hi]
    exact ⟨_, rfl⟩

end L2

set_option Elab.async false
set_option linter.all false
set_option maxRecDepth 100000
set_option maxHeartbeats 4000000
namespace L2
open PySem PySem.Spec PyProof.Rows
section
variable {X : Cx} {pins : List (Addr × Obj)} {σ : List (Option V)} {H H' : Hp} {s : Shared} {h' : Heap}
/-- several untracked records of ours have turned -/
theorem Inv.turnedL {t' : Nat} {ch : List Addr} (I : Inv X pins σ H s) (k : ∀ b o, b ∉ ch → s.heap.get? b = some o → h'.get? b = some o)
    (hc : ∀ b ∈ ch, FpOk X pins H b) : Inv X pins σ H { s with heap := h', toks := t' } := by
  have nit : ∀ b u, H b = some u → b ∉ ch := fun b u e z => by rw [(hc b z).1] at e; cases e
  refine I.step (g' := s.gens) (d' := s.drawn) (ch := ch) (fun b hb => ?_) (fun b o _ _ hn e _ => k b o hn e) (fun b o _ _ hn e _ => ⟨o.slots, k b o hn e⟩) (fun _ _ _ _ n => n)
    (fun b o hn e => ⟨o, k b o hn e⟩) (fun _ _ e => e) (fun _ _ _ e => e) (fun b ps e => ⟨#[], by rw [e]; simp⟩) (fun m hm => ?_) (fun b u e => ?_) I.bare
  · obtain ⟨_, f1, _, f3, f4, f5⟩ := hc b hb
    exact ⟨f3, f1, f4, f5⟩
  · obtain ⟨o, es, ep, ho, r⟩ := hm
    exact ⟨o, es, ep, k _ o (fun z => (hc _ z).2.1 rfl) ho, r⟩
  · refine (I.hok b u e).stay (fun c v hcc q => k c v ?_ q) (fun _ q => q) fun _ _ q => q
    rcases hcc with z | z
    · rw [z]; exact nit b u e
    · exact nit c _ z
/-- an object that stands there untracked (made since the entry) is tracked from now on -/
theorem Inv.track {a : Addr} {o : HO} (I : Inv X pins σ H s) (hn : FpOk X pins H a) (new : ObjOk X.prog X.w (upd H a o) s.heap a o) : Inv X pins σ (upd H a o) s := by
  obtain ⟨f0, f1, f2, f3, f4, f5⟩ := hn
  have hok : HOk X.prog X.w (upd H a o) s.heap := fun b u e => by
    by_cases hb : b = a
    · subst hb; rw [upd_same] at e; cases e; exact new
    · rw [upd_ne hb] at e
      exact (I.hok b u e).stay (fun c v _ q => q) (fun c q => by rw [upd_ne (ne_of_none q f0)]; exact q) fun c xs q => by rw [upd_ne (ne_of_none q f0)]; exact q
  have z := I.step (h' := s.heap) (H' := upd H a o) (g' := s.gens) (t' := s.toks) (d' := s.drawn) (ch := [a]) (fun b hb => by
      have e : b = a := by simpa using hb
      subst e
      exact ⟨f3, f1, f4, f5⟩) (fun b o _ _ _ e _ => e) (fun b o _ _ _ e _ => ⟨o.slots, e⟩) (fun b u hb e n => by rw [upd_ne (by simpa using hb)]; exact n) (fun b o _ e => ⟨o, e⟩)
    (fun b xs e => by rw [upd_ne (ne_of_none e f0)]; exact e) (fun b u xs e => by rw [upd_ne (ne_of_none e f0)]; exact e) (fun b ps e => ⟨#[], by rw [upd_ne (ne_of_none e f0), e]; simp⟩) (fun m hm => hm) hok I.bare
  exact z

/-- enumerate of the list at a: each turn a pair -/
def Ite (K : PySem.W.Frag) (a : Addr) : It :=
  ⟨fun i H => ∃ xs x, SqL K H a xs ∧ xs[i]? = some x, fun i H v H' => ∃ t x, v = .ref t ∧ H t = none ∧ H' = upd H t (.tup [.int (i : Int), x]) ∧ ∀ xs, SqL K H a xs → xs[i]? = some x, fun i H => ∃ xs, SqL K H a xs ∧ xs.length ≤ i⟩
theorem turn_enum {P : Program} {w : World} {K : PySem.W.Frag} {elts : List Expr} {kk : Nat} {tp : Pos} (a e it : Addr) (hne : e ≠ it)
    (hself : ∀ (A : Around) (i : Nat) (s : Shared) (Q : Value → Shared → Prop) (E : Value → Shared → Prop), (∃ old, IsEnum s.heap e it (i : Int) old ∧ s.heap.IsListIter it a i) → Q (.ref e) s → wpAny (model P w) A (pyIter (.ref e)) Q E s) :
    Turn P w K (.Tuple elts kk tp) (Ite K a) [e, it] e (fun i h => ∃ old, IsEnum h e it (i : Int) old ∧ h.IsListIter it a i) where
  mem := by simp
  obj := fun i h st b hb => by
    obtain ⟨old, h1, o, h2, c, d⟩ := st
    have hb' : b = e ∨ b = it := by simpa using hb
    rcases hb' with z | z
    · subst z; exact ⟨_, h1, fun v z => nomatch z⟩
    · subst z; exact ⟨o, h2, fun v z => by rw [d] at z; cases z⟩
  keep := fun i h h' st k => by
    obtain ⟨old, h1, h2⟩ := st
    exact ⟨old, k e (by simp) _ h1, h2.at fun o z => k it (by simp) o z⟩
  item := by
    intro X hP hw hK hc i pins s σ H E I hf st hg
    subst hP hw hK
    obtain ⟨xs, x, hq, hx⟩ := hg
    obtain ⟨its, rv, p, hz⟩ := I.list hq
    obtain ⟨u, hu, ru⟩ := rv.get hx
    obtain ⟨old, h1, h2⟩ := st
    refine wpAny_pyNext_enum_item h1 h2 p.isList (x := u) (by simpa using hu) hne fun hA heo hit1 ht1 hz1 hk1 => ?_
    refine ⟨_, rfl, wpAny_letOwnedTupleGo_enum heo fun hB he2 hs2 => ?_⟩
    have hs2 : Heap.SameBut e hA hB := hs2
    have hel : e < s.heap.objs.size := Heap.lt_size h1
    have hsz : H s.heap.objs.size = none := I.hok.fresh (Nat.le_refl _)
    have hpres : ∀ b o, b ∉ [e, it] → s.heap.get? b = some o → hB.get? b = some o := fun b o hb z => by
      have hb' : b ≠ e ∧ b ≠ it := by simpa using hb
      exact hs2.extBut b o hb'.1 (hk1 b o hb'.1 hb'.2 z)
    have I1 : Inv X pins σ H { s with heap := hB, toks := s.toks + 1 } := I.turnedL (t' := s.toks + 1) hpres hf
    have ht2 : hB.get? s.heap.objs.size = some { cls := .type "tuple", data := .seq #[.int i s.toks, u] } := hs2.extBut _ _ (Nat.ne_of_gt hel) ht1
    have fpt : FpOk X pins H s.heap.objs.size := I.fpOk (Nat.le_refl _) hsz
    have I2 := I1.track (o := .tup [.int (i : Int), x]) fpt ⟨by show 2 ≤ sizeLine; decide, [.int i s.toks, u], .cons ⟨_, rfl⟩ (.cons ru .nil), ⟨_, ht2, rfl, 0, rfl⟩⟩
    refine ⟨.ref s.heap.objs.size, _, I2, rfl, ⟨_, x, rfl, hsz, rfl, fun ys hy => by rw [I.list_inj hy hq]; exact hx⟩, ⟨u, ?_, ?_⟩, fun b hb => ?_⟩
    · have ec : ((i + 1 : Nat) : Int) = (i : Int) + 1 := by omega
      rw [ec]
      exact he2
    · exact hit1.extBut hs2.extBut (Ne.symm hne)
    · have hlt : b < s.heap.objs.size := by
        have hb' : b = e ∨ b = it := by simpa using hb
        obtain ⟨o, z, _⟩ := h2
        rcases hb' with y | y
        · rw [y]; exact hel
        · rw [y]; exact Heap.lt_size z
      rw [upd_ne (Nat.ne_of_lt hlt)]
      exact (hf b hb).1
  done := by
    intro X hP hw hK hc i pins s σ H E I hf st hg
    subst hP hw hK
    obtain ⟨xs, hq, hx⟩ := hg
    obtain ⟨its, rv, p, hz⟩ := I.list hq
    obtain ⟨old, h1, h2⟩ := st
    have hl := rv.length
    exact wpAny_pyNext_enum_end (I.ok.hd hc) h1 h2 p.isList (by simp; omega) fun hA eb => ⟨rfl, I.turnedL (t' := s.toks) (fun b o hb z => eb b o (fun y => hb (by simp [y])) z) hf⟩
  self := fun A i s Q E st h => hself A i s Q E st h
theorem boot_enum : bootBuiltins "enumerate" = some (.type "enumerate") := by decide +kernel
def iEnum (K : PySem.W.Frag) (ta : TA) : TI := fun σ H R => ta σ H fun vs H1 => ∃ a, vs = [.ref a] ∧ (∃ xs, SqL K H1 a xs) ∧ R (Ite K a) H1
theorem pi_enum (K : PySem.W.Frag) {e : Expr} {elts : List Expr} {kk : Nat} {tp : Pos} {ta : TA} {p pos : Pos} (hK : X.K = K) (hg : Gl X "enumerate") (hm : X.mg "enumerate" = none) (ha : PA X [e] ta) (hs : starEach [e] X.env = [(false, eval e X.env)]) :
    PI X (.Tuple elts kk tp) (.Call (.Name "enumerate" p) [e] [] pos) (iEnum K ta) := by
  subst hK
  intro pins s σ H R I h
  refine Call_ (ld_blt I hg hm boot_enum (PyProof.Rows.callWith_type1 (thn (ha pos pins s σ H _ I h) fun us s1 ⟨vs, H1, I1, r1, q1⟩ => ?_) hs rfl))
  obtain ⟨a, rfl, ⟨xs, hq⟩, q⟩ := q1
  obtain ⟨u, rfl, r2⟩ := vals1 r1
  cases r2
  obtain ⟨its, rv, pl, hz⟩ := I1.list hq
  refine call_enumerate_list pl.isList fun h' he hit hz hk => wpAny_pyIter_enum he ?_
  have I2 : Inv X pins σ H1 { s1 with heap := h' } := I1.kept (t' := s1.toks) hk
  refine ⟨s1.heap.objs.size + 1, [s1.heap.objs.size + 1, s1.heap.objs.size], _, _, H1, rfl, I2, turn_enum a _ _ (Nat.succ_ne_self _) (fun A i s Q E st h => by obtain ⟨old, z, _⟩ := st; exact wpAny_pyIter_enum z h), ⟨_, he, hit⟩, fun b hb => ?_, q⟩
  have hb' : b = s1.heap.objs.size + 1 ∨ b = s1.heap.objs.size := by simpa using hb
  rcases hb' with z | z
  · subst z; exact I1.fpOk (Nat.le_succ _) (I1.hok.fresh (Nat.le_succ _))
  · subst z; exact I1.fpOk (Nat.le_refl _) (I1.hok.fresh (Nat.le_refl _))
theorem pg_tupK (K : PySem.W.Frag) {es : List Expr} {k : Nat} {t : TGs} {n : Nat} {pos : Pos} (hK : X.K = K) (hc : X.calm = true) (h : PGs X es t) (hn : (assignEach es X.env).length = n) (hst : (assignEach es X.env).findIdx? (·.1) = none) : PG X (.Tuple es k pos) (gTup K n t) := by
  subst hK; exact pg_tup hc h hn hst
end
theorem g_ienum {K : PySem.W.Frag} {ta : TA} {σ : St} {H : Hp} {R : It → Hp → Prop} (h : ta σ H fun vs H1 => ∃ a, vs = [.ref a] ∧ (∃ xs, SqL K H1 a xs) ∧ R (Ite K a) H1) : iEnum K ta σ H R := h
theorem g_pair {K : PySem.W.Frag} {i j : Nat} {t : Addr} {x y : V} {σ : St} {H : Hp} {R : St → Hp → Prop} (c : SqT K H t [x, y]) (h : R ((σ.set i (some x)).set j (some y)) H) : gTup K 2 (gCons (gName i) (gCons (gName j) gNil)) (.ref t) σ H R :=
  ⟨t, [x, y], rfl, c, rfl, x, [y], rfl, y, [], rfl, rfl, h⟩
theorem forE {K : PySem.W.Frag} {a : Addr} {xs : List V} {g : TG} {tb : TS} {D : Ends} {σ : St} {H : Hp} (Pv : Nat → St → Hp → Prop) (h0 : Pv 0 σ H) (hl : ∀ i σ H, i ≤ xs.length → Pv i σ H → SqL K H a xs)
    (hs : ∀ i x σ H, xs[i]? = some x → Pv i σ H → ∀ t, H t = none → g (.ref t) σ (upd H t (.tup [.int (i : Int), x])) fun σ2 H2 => tb { D with nx := Pv (i + 1), ct := Pv (i + 1), bk := D.nx } σ2 H2) (hd : ∀ σ H, Pv xs.length σ H → D.nx σ H) :
    ForW (Ite K a) g tb D σ H := by
  refine ⟨fun i m σ H => m = xs.length - i ∧ i ≤ xs.length ∧ Pv i σ H, ⟨xs.length, by simp, Nat.zero_le _, h0⟩, ?_⟩
  rintro i m σ H ⟨rfl, hi, p⟩
  have q := hl i σ H hi p
  by_cases hlt : i < xs.length
  · refine .inr ⟨⟨xs, xs[i], q, by simp [hlt]⟩, Pv (i + 1), fun σ' H' p' => ⟨xs.length - (i + 1), by omega, rfl, hlt, p'⟩, fun v H' y => ?_⟩
    obtain ⟨t, x, rfl, hn, rfl, y⟩ := y
    exact hs i x σ _ (y xs q) p t hn
  · have e : i = xs.length := by omega
    subst e
    exact .inl ⟨⟨xs, q, Nat.le_refl _⟩, hd σ H p⟩
end L2
namespace L2
open PySem PySem.Spec PyProof.Rows
/-! ### data that may be compared -/
mutual
/-- flat or nested data of few layers, without dicts -/
def okD : PyData → Bool
  | .none | .bool _ | .int _ => true
  | .str x => PyData.strOk x
  | .list xs | .tuple xs => okDs xs
  | .dict _ => false
def okDs : List PyData → Bool
  | [] => true
  | x :: xs => okD x && okDs xs
end
mutual
theorem eqv_self : ∀ d : PyData, okD d = true → PyData.eqv d d = true
  | .none, _ => by simp [PyData.eqv]
  | .bool b, _ => by simp [PyData.eqv]
  | .int i, _ => by simp [PyData.eqv]
  | .str x, _ => by simp [PyData.eqv]
  | .list xs, h => by rw [PyData.eqv]; exact eqvAll_self xs (by simpa [okD] using h)
  | .tuple xs, h => by rw [PyData.eqv]; exact eqvAll_self xs (by simpa [okD] using h)
  | .dict _, h => by simp [okD] at h
theorem eqvAll_self : ∀ ds : List PyData, okDs ds = true → PyData.eqvAll ds ds = true
  | [], _ => by simp [PyData.eqvAll]
  | d :: r, h => by
    have h' : okD d = true ∧ okDs r = true := by simpa [okDs] using h
    rw [PyData.eqvAll, eqv_self d h'.1, eqvAll_self r h'.2]; rfl
end
mutual
theorem lay_ok : ∀ d : PyData, okD d = true → d.canLay0 = true
  | .none, _ => by simp [PyData.canLay0]
  | .bool b, _ => by simp [PyData.canLay0]
  | .int i, _ => by simp [PyData.canLay0]
  | .str x, h => by simpa [PyData.canLay0, okD] using h
  | .list xs, h => by rw [PyData.canLay0]; exact layAll_ok xs (by simpa [okD] using h)
  | .tuple xs, h => by rw [PyData.canLay0]; exact layAll_ok xs (by simpa [okD] using h)
  | .dict _, h => by simp [okD] at h
theorem layAll_ok : ∀ ds : List PyData, okDs ds = true → PyData.canLayAll0 ds = true
  | [], _ => by simp [PyData.canLayAll0]
  | d :: r, h => by
    have h' : okD d = true ∧ okDs r = true := by simpa [okDs] using h
    rw [PyData.canLayAll0, lay_ok d h'.1, layAll_ok r h'.2]; rfl
end
end L2

set_option Elab.async false
set_option linter.all false
set_option maxRecDepth 100000
set_option maxHeartbeats 4000000
/-! Wordrace: sets of texts, walked in whatever order. -/
namespace L2
open PySem PySem.Spec PyProof.Rows
open Sem (wp)

section
variable {M : Model} {A : Around} {E : Value → Shared → Prop}
theorem wpAny_choose {s : Shared} {src : Source} {n : Nat} {Q : Nat → Shared → Prop} (hn : n ≠ 0) (h : ∀ i, i < n → Q i { s with drawn := s.drawn.bump src }) : wpAny M A (choose src n) Q E s :=
  fun Γ p _ => ⟨hn, h _ (Nat.mod_lt _ (Nat.pos_of_ne_zero hn))⟩
theorem erase_perm {α : Type} : ∀ (l : List α) (i : Nat) (x : α), l[i]? = some x → (x :: l.eraseIdx i).Perm l
  | [], i, x, h => by simp at h
  | a :: l, 0, x, h => by simp at h; subst h; simp
  | a :: l, i + 1, x, h => by
    have ih := erase_perm l i x (by simpa using h)
    rw [List.eraseIdx_cons_succ]
    exact (List.Perm.swap a x _).trans (ih.cons a)
theorem wpAny_drawOrder {α : Type} : ∀ (n : Nat) (xs : List α) (s : Shared) {Q : List α → Shared → Prop}, xs.length = n → (∀ ys d', ys.Perm xs → Q ys { s with drawn := d' }) → wpAny M A (drawOrder n xs) Q E s
  | 0, xs, s, Q, hl, h => by
    have : xs = [] := List.eq_nil_of_length_eq_zero hl
    subst this
    unfold drawOrder
    exact wpAny_pure (h [] s.drawn (List.Perm.refl _))
  | n + 1, [], s, Q, hl, h => by simp at hl
  | n + 1, x :: xs, s, Q, hl, h => by
    unfold drawOrder
    refine wpAny_bind (wpAny_choose (by simp) fun i hi => ?_)
    have hx : (x :: xs)[i]? = some (x :: xs)[i] := List.getElem?_eq_getElem hi
    rw [hx]
    dsimp only
    refine wpAny_bind (wpAny_drawOrder n ((x :: xs).eraseIdx i) _ (by rw [List.length_eraseIdx, if_pos hi]; simpa using hl) fun ys d' hp => wpAny_pure (h _ d' ?_))
    exact (hp.cons _).trans (erase_perm _ i _ hx)
end
theorem pickGo_perm {α : Type} (next : Nat → Nat) : ∀ (fuel k : Nat) (left : List α) (out : Array α), left.length = fuel → (pickOrder.go next fuel k left out).toList.Perm (out.toList ++ left)
  | 0, k, left, out, h => by
    have : left = [] := List.eq_nil_of_length_eq_zero h
    subst this
    unfold pickOrder.go
    simp
  | fuel + 1, k, left, out, h => by
    unfold pickOrder.go
    have hi : next k % left.length < left.length := Nat.mod_lt _ (by omega)
    have hx : left[next k % left.length]? = some left[next k % left.length] := List.getElem?_eq_getElem hi
    rw [hx]
    dsimp only
    refine (pickGo_perm next fuel (k + 1) _ _ (by rw [List.length_eraseIdx]; simp [hi]; omega)).trans ?_
    rw [Array.toList_push, List.append_assoc]
    exact (erase_perm left _ _ hx).append_left _
theorem pickOrder_perm {α : Type} (next : Nat → Nat) (xs : Array α) : (pickOrder next xs).toList.Perm xs.toList := by
  unfold pickOrder
  have := pickGo_perm next xs.size 0 xs.toList #[] (by simp)
  simpa using this

/-! ### the set's iterator -/
namespace FS
theorem slot_next : Slot "set_iterator" "__next__" "set_iterator.__next__" :=
  .of (owner := "set_iterator") (n := "__next__") (by rw [typeLookup_type, builtinLookup_eq_fast]; kernel_rfl) (by decide +kernel) (by decide +kernel) (by decide +kernel)
    (by first | exact .inl (by decide +kernel) | exact .inr (by decide +kernel)) (by rw [isSubtype_type]; kernel_rfl)
theorem entry_next : entryFor table "set_iterator.__next__" = some Builtin.«set_iterator.__next__» := entryFor_of_tree (by kernel_rfl)
theorem args_next (a : Value) : argsOk "set_iterator.__next__" ⟨[a], []⟩ := by unfold argsOk; kernel_rfl
theorem slot_iter : Slot "set_iterator" "__iter__" "set_iterator.__iter__" :=
  .of (owner := "set_iterator") (n := "__iter__") (by rw [typeLookup_type, builtinLookup_eq_fast]; kernel_rfl) (by decide +kernel) (by decide +kernel) (by decide +kernel)
    (by first | exact .inl (by decide +kernel) | exact .inr (by decide +kernel)) (by rw [isSubtype_type]; kernel_rfl)
theorem entry_iter : entryFor table "set_iterator.__iter__" = some Builtin.«dict_keyiterator.__iter__» :=
  entryFor_alias (id' := "dict_keyiterator.__iter__") (by kernel_rfl) rfl (by decide +kernel) (by kernel_rfl)
theorem args_iter (a : Value) : argsOk "set_iterator.__iter__" ⟨[a], []⟩ := by unfold argsOk; kernel_rfl
theorem entry_set_iter : entryFor table "set.__iter__" = some Builtin.«frozenset.__iter__» :=
  entryFor_alias (id' := "frozenset.__iter__") (by kernel_rfl) rfl (by decide +kernel) (by kernel_rfl)
end FS
end L2

set_option Elab.async false
set_option linter.all false
set_option maxRecDepth 100000
set_option maxHeartbeats 4000000
namespace L2
open PySem PySem.Spec PyProof.Rows
open Sem (wp)
abbrev SIt (h : Heap) (I a : Addr) (first : Value) (i n ep : Nat) : Prop :=
  h.get? I = some { cls := .type "set_iterator", dict := none, data := .fields #[first, rawInt (i : Int), .ref a, rawInt (n : Int), rawInt (ep : Int)], slots := #[] }
section
variable {prog : Program} {w : World} {A : Around} {E : Value → Shared → Prop} {s : Shared}
theorem setEntries_of {a : Addr} {o : Obj} {es : Array (Int × Value)} {ep : Nat} {t : SetTable} {Q : Array (Int × Value) → Shared → Prop} (ho : s.heap.get? a = some o) (hd : o.data = .set es ep t) (hf : t.fits es.size = true) (h : Q es s) : wpAny (model prog w) A (setEntries a) Q E s := by
  unfold setEntries
  exact wpAny_bind (wpAny_setState_of ho hd hf (wpAny_pure h))
theorem byText_of {Q : Bool → Shared → Prop} (h : Q (w.params.followText "set-order") s) : wpAny (model prog w) A setsByText Q E s := by
  unfold setsByText
  exact wpAny_bind (wpAny_askSetting (wpAny_pure h))
theorem setWalkT {a : Addr} {o : Obj} {es : Array (Int × Value)} {ep : Nat} {t : SetTable} {Q : Array (Int × Value) → Shared → Prop} (hb : w.params.followText "set-order" = true) (ho : s.heap.get? a = some o) (hd : o.data = .set es ep t) (hf : t.fits es.size = true)
    (h : Q (pickOrder (w.params.setOrder a ep) es) s) : wpAny (model prog w) A (setWalk a) Q E s := by
  unfold setWalk
  refine wpAny_bind (wpAny_setState_of ho hd hf ?_)
  refine wpAny_bind (byText_of ?_)
  rw [hb]
  simp only [if_true]
  exact wpAny_bind (wpAny_askSetting (wpAny_pure h))
theorem setNextT {a : Addr} {o : Obj} {es : Array (Int × Value)} {ep i slot : Nat} {t : SetTable} {Q : Option (Value × Nat) → Shared → Prop} (hb : w.params.followText "set-order" = true) (ho : s.heap.get? a = some o) (hd : o.data = .set es ep t) (hf : t.fits es.size = true)
    (h : Q (((pickOrder (w.params.setOrder a ep) es)[i]?).map fun e => (e.2, slot)) s) : wpAny (model prog w) A (setNext a slot i ep) Q E s := by
  unfold setNext
  refine wpAny_bind (wpAny_setState_of ho hd hf ?_)
  refine wpAny_bind (byText_of ?_)
  rw [hb]
  simp only [if_true, bne_self_eq_false, Bool.false_eq_true, if_false]
  exact wpAny_bind (setWalkT hb ho hd hf (wpAny_pure h))
theorem stop_raise {I : Addr} {s : Shared} {o : Obj} {vs : Array Value} {k : Nat} {x : Value} {Q : Option Value → Shared → Prop} (hh : A.handled = none) (ho : s.heap.get? I = some o) (hd : o.data = .fields vs) (hk : k < vs.size)
    (hQ : ∀ h', Heap.ExtBut I s.heap h' → Q none { s with heap := h' }) :
    wpAny (model prog w) A.in1 (do setField (.ref I) k x; let e ← newExc (.type "StopIteration") []; raiseNew e) (fun fin s' => ∃ v, fin = PySem.Fin.done (Flow.ret v) ∧ wpAny (model prog w) A (pure (some v)) Q E s')
      (fun e s' => wpAny (model prog w) A (do let b ← isInstance e (.type "StopIteration"); if b = true then pure none else throw e) Q E s') s := by
  refine wpAny_bind (wpAny_setField ho hd hk ?_)
  refine wpAny_bind ?_
  simp only [newExc, newTuple]
  refine wpAny_bind (wpAny_newObj_type ?_ (by size_fits))
  refine wpAny_bind (m := firstArgMember _ _) (wpAny_of_eq (a := Value.none) (by first | rfl | (simp only [firstArgMember]; rfl)) ?_)
  refine wpAny_newObj_type ?_ (by size_fits)
  simp only [raiseNew]
  refine wpAny_bind (wpAny_handled ?_)
  rw [show A.in1.handled = none from hh]
  refine wpAny_bind (wpAny_pure (wpAny_throw ?_))
  refine wpAny_bind (wpAny_isInstance (T := "StopIteration") (b := true) ⟨_, Heap.get?_push_size _ rfl, rfl⟩ isSubtype_stop ?_)
  exact wpAny_pure (hQ _ (((Heap.SameBut.update ..).extBut.push _).push _))
theorem nextT_item {I a : Addr} {o : Obj} {es : Array (Int × Value)} {ep i : Nat} {t : SetTable} {v : Value} {Q : Option Value → Shared → Prop} (hb : w.params.followText "set-order" = true) (hi : SIt s.heap I a (rawInt 0) i es.size ep)
    (ho : s.heap.get? a = some o) (hd : o.data = .set es ep t) (hf : t.fits es.size = true) (hv : ((pickOrder (w.params.setOrder a ep) es)[i]?).map (·.2) = some v)
    (h : ∀ h', SIt h' I a (rawInt 0) (i + 1) es.size ep → Heap.SameBut I s.heap h' → Q (some v) { s with heap := h' }) : wpAny (model prog w) A (pyNext (.ref I)) Q E s := by
  have hT : s.TypeIs (.ref I) "set_iterator" := ⟨_, hi, rfl⟩
  obtain ⟨e, he, hev⟩ : ∃ e, (pickOrder (w.params.setOrder a ep) es)[i]? = some e ∧ e.2 = v := by
    cases q : (pickOrder (w.params.setOrder a ep) es)[i]? with
    | none => rw [q] at hv; cases hv
    | some e => rw [q] at hv; exact ⟨e, rfl, Option.some.inj hv⟩
  unfold pyNext
  refine wpAny_bind (wpAny_attempt (wpAny_callSpecial?_slot (name := Str.ofString "__next__") hT FS.slot_next (wpAny_call_entry FS.slot_next hT FS.entry_next ?_ (FS.args_next _))))
  unfold Builtin.«set_iterator.__next__»
  refine wpAny_bind (m := slotArgs "__next__" 0 ⟨[.ref I], []⟩) (wpAny_of_eq (a := (Value.ref I, [])) rfl ?_)
  refine wpAny_bind (wpAny_fieldsOf hi rfl ?_)
  show wpAny _ _ (setEntries a >>= _) _ _ _
  refine wpAny_bind (setEntries_of ho hd hf ?_)
  simp only [bne_self_eq_false, Bool.false_eq_true, if_false]
  show wpAny _ _ (setNext a (0 : Int).toNat (i : Int).toNat (ep : Int).toNat >>= _) _ _ _
  rw [Int.toNat_natCast, Int.toNat_natCast]
  refine wpAny_bind (setNextT hb ho hd hf ?_)
  rw [he]
  dsimp only [Option.map]
  refine wpAny_bind (wpAny_setField_rec hi (by simp) fun h1 hi1 sb1 => ?_)
  refine wpAny_bind (wpAny_setField_rec hi1 (by simp) fun h2 hi2 sb2 => ?_)
  refine wpAny_pure ⟨_, rfl, wpAny_pure ?_⟩
  rw [hev]
  refine h h2 ?_ (sb1.trans sb2)
  have e : ((i + 1 : Nat) : Int) = (i : Int) + 1 := by omega
  unfold SIt
  rw [e]
  simpa using hi2
theorem nextT_end {I a : Addr} {o : Obj} {es : Array (Int × Value)} {ep i : Nat} {t : SetTable} {Q : Option Value → Shared → Prop} (hh : A.handled = none) (hb : w.params.followText "set-order" = true) (hi : SIt s.heap I a (rawInt 0) i es.size ep)
    (ho : s.heap.get? a = some o) (hd : o.data = .set es ep t) (hf : t.fits es.size = true) (hv : (pickOrder (w.params.setOrder a ep) es)[i]? = none)
    (h : ∀ h', Heap.ExtBut I s.heap h' → Q none { s with heap := h' }) : wpAny (model prog w) A (pyNext (.ref I)) Q E s := by
  have hT : s.TypeIs (.ref I) "set_iterator" := ⟨_, hi, rfl⟩
  unfold pyNext
  refine wpAny_bind (wpAny_attempt (wpAny_callSpecial?_slot (name := Str.ofString "__next__") hT FS.slot_next (wpAny_call_entry FS.slot_next hT FS.entry_next ?_ (FS.args_next _))))
  unfold Builtin.«set_iterator.__next__»
  refine wpAny_bind (m := slotArgs "__next__" 0 ⟨[.ref I], []⟩) (wpAny_of_eq (a := (Value.ref I, [])) rfl ?_)
  refine wpAny_bind (wpAny_fieldsOf hi rfl ?_)
  show wpAny _ _ (setEntries a >>= _) _ _ _
  refine wpAny_bind (setEntries_of ho hd hf ?_)
  simp only [bne_self_eq_false, Bool.false_eq_true, if_false]
  show wpAny _ _ (setNext a (0 : Int).toNat (i : Int).toNat (ep : Int).toNat >>= _) _ _ _
  rw [Int.toNat_natCast, Int.toNat_natCast]
  refine wpAny_bind (setNextT hb ho hd hf ?_)
  rw [hv]
  dsimp only [Option.map]
  exact stop_raise hh hi rfl (by simp) h
/-! ### .. in a drawn order -/
theorem setNextD {a : Addr} {o : Obj} {es : Array (Int × Value)} {ep p : Nat} {t : SetTable} {e : Int × Value} {Q : Value → Shared → Prop} (ho : s.heap.get? a = some o) (hd : o.data = .set es ep t) (hf : t.fits es.size = true) (he : es[p]? = some e)
    (h : Q e.2 s) : wpAny (model prog w) A (setNextDrawn a p ep) Q E s := by
  unfold setNextDrawn
  refine wpAny_bind (wpAny_setState_of ho hd hf ?_)
  simp only [bne_self_eq_false, Bool.false_eq_true, if_false]
  rw [he]
  exact wpAny_pure h
theorem nextD_item {I a T : Addr} {o oT : Obj} {es : Array (Int × Value)} {ep i p nT : Nat} {t : SetTable} {e : Int × Value} {places : List Nat} {Q : Option Value → Shared → Prop} (hi : SIt s.heap I a (.ref T) i es.size ep)
    (hTo : s.heap.get? T = some oT) (hTd : oT.data = .seq (places.map fun (p : Nat) => rawInt (p : Int)).toArray nT)
    (ho : s.heap.get? a = some o) (hd : o.data = .set es ep t) (hf : t.fits es.size = true) (hp : places[i]? = some p) (he : es[p]? = some e)
    (h : ∀ h', SIt h' I a (.ref T) (i + 1) es.size ep → Heap.SameBut I s.heap h' → Q (some e.2) { s with heap := h' }) : wpAny (model prog w) A (pyNext (.ref I)) Q E s := by
  have hT : s.TypeIs (.ref I) "set_iterator" := ⟨_, hi, rfl⟩
  unfold pyNext
  refine wpAny_bind (wpAny_attempt (wpAny_callSpecial?_slot (name := Str.ofString "__next__") hT FS.slot_next (wpAny_call_entry FS.slot_next hT FS.entry_next ?_ (FS.args_next _))))
  unfold Builtin.«set_iterator.__next__»
  refine wpAny_bind (m := slotArgs "__next__" 0 ⟨[.ref I], []⟩) (wpAny_of_eq (a := (Value.ref I, [])) rfl ?_)
  refine wpAny_bind (wpAny_fieldsOf hi rfl ?_)
  show wpAny _ _ (setEntries a >>= _) _ _ _
  refine wpAny_bind (setEntries_of ho hd hf ?_)
  simp only [bne_self_eq_false, Bool.false_eq_true, if_false]
  show wpAny _ _ (seqItems? (.ref T) >>= _) _ _ _
  refine wpAny_bind ?_
  unfold seqItems?
  refine wpAny_bind (wpAny_load hTo ?_)
  rw [hTd]
  refine wpAny_pure ?_
  dsimp only
  have hpl : ((places.map fun (p : Nat) => rawInt (p : Int)).toArray)[(i : Int).toNat]? = some (rawInt (p : Int)) := by
    rw [Int.toNat_natCast]
    simp [hp]
  rw [hpl]
  show wpAny _ _ (setNextDrawn a (p : Int).toNat (ep : Int).toNat >>= _) _ _ _
  rw [Int.toNat_natCast, Int.toNat_natCast]
  refine wpAny_bind (setNextD ho hd hf he ?_)
  refine wpAny_bind (wpAny_setField_rec hi (by simp) fun h2 hi2 sb2 => ?_)
  refine wpAny_pure ⟨_, rfl, wpAny_pure ?_⟩
  refine h h2 ?_ sb2
  have e : ((i + 1 : Nat) : Int) = (i : Int) + 1 := by omega
  unfold SIt
  rw [e]
  simpa using hi2
theorem nextD_end {I a T : Addr} {o oT : Obj} {es : Array (Int × Value)} {ep i nT : Nat} {t : SetTable} {places : List Nat} {Q : Option Value → Shared → Prop} (hh : A.handled = none) (hi : SIt s.heap I a (.ref T) i es.size ep)
    (hTo : s.heap.get? T = some oT) (hTd : oT.data = .seq (places.map fun (p : Nat) => rawInt (p : Int)).toArray nT)
    (ho : s.heap.get? a = some o) (hd : o.data = .set es ep t) (hf : t.fits es.size = true) (hp : places[i]? = none)
    (h : ∀ h', Heap.ExtBut I s.heap h' → Q none { s with heap := h' }) : wpAny (model prog w) A (pyNext (.ref I)) Q E s := by
  have hT : s.TypeIs (.ref I) "set_iterator" := ⟨_, hi, rfl⟩
  unfold pyNext
  refine wpAny_bind (wpAny_attempt (wpAny_callSpecial?_slot (name := Str.ofString "__next__") hT FS.slot_next (wpAny_call_entry FS.slot_next hT FS.entry_next ?_ (FS.args_next _))))
  unfold Builtin.«set_iterator.__next__»
  refine wpAny_bind (m := slotArgs "__next__" 0 ⟨[.ref I], []⟩) (wpAny_of_eq (a := (Value.ref I, [])) rfl ?_)
  refine wpAny_bind (wpAny_fieldsOf hi rfl ?_)
  show wpAny _ _ (setEntries a >>= _) _ _ _
  refine wpAny_bind (setEntries_of ho hd hf ?_)
  simp only [bne_self_eq_false, Bool.false_eq_true, if_false]
  show wpAny _ _ (seqItems? (.ref T) >>= _) _ _ _
  refine wpAny_bind ?_
  unfold seqItems?
  refine wpAny_bind (wpAny_load hTo ?_)
  rw [hTd]
  refine wpAny_pure ?_
  dsimp only
  have hpl : ((places.map fun (p : Nat) => rawInt (p : Int)).toArray)[(i : Int).toNat]? = none := by
    rw [Int.toNat_natCast]
    simpa using hp
  rw [hpl]
  dsimp only
  refine wpAny_bind (wpAny_setField_rec hi (by simp) fun h2 hi2 sb2 => ?_)
  refine stop_raise (s := { s with heap := h2 }) hh hi2 rfl (by simp) fun h' eb => h h' fun b ob hb e => eb b ob hb (sb2.extBut b ob hb e)
/-! ### a set's iterator walks its elements, each once -/
/-- what stands of a set: its entries, their number -/
structure SetAt (h : Heap) (a : Addr) (es : Array (Int × Value)) (ep : Nat) (t : SetTable) : Prop where
  ob : ∃ o, h.get? a = some o ∧ o.ExactSet ∧ o.data = .set es ep t
  fits : t.fits es.size = true
theorem SetAt.at {h h' : Heap} {a : Addr} {es : Array (Int × Value)} {ep : Nat} {t : SetTable} (x : SetAt h a es ep t) (k : ∀ o, h.get? a = some o → h'.get? a = some o) : SetAt h' a es ep t := by
  obtain ⟨⟨o, e, r⟩, f⟩ := x
  exact ⟨⟨o, k o e, r⟩, f⟩
theorem SetAt.typeIs {s : Shared} {a : Addr} {es : Array (Int × Value)} {ep : Nat} {t : SetTable} (x : SetAt s.heap a es ep t) : s.TypeIs (.ref a) "set" := by
  obtain ⟨⟨o, e, r, _⟩, f⟩ := x
  exact ⟨o, e, r.1⟩
theorem pyIter_setiter {I a : Addr} {first : Value} {i n ep : Nat} {Q : Value → Shared → Prop} (hi : SIt s.heap I a first i n ep) (h : Q (.ref I) s) : wpAny (model prog w) A (pyIter (.ref I)) Q E s := by
  have hT : s.TypeIs (.ref I) "set_iterator" := ⟨_, hi, rfl⟩
  refine wpAny_pyIter_slot hT FS.slot_iter (wpAny_call_entry FS.slot_iter hT FS.entry_iter ?_ (FS.args_iter _))
  show wpAny _ _ (ret (.ref I)) _ _ s
  exact wpAny_pure ⟨_, rfl, "set_iterator", _, hT, FS.slot_next.lookup, h⟩
theorem walksT {I a : Addr} {es : Array (Int × Value)} {ep : Nat} {t : SetTable} (hh : A.handled = none) (hb : w.params.followText "set-order" = true) (hne : a ≠ I) :
    Walks prog w A I [I, a] [I] es.size (fun i v => ((pickOrder (w.params.setOrder a ep) es)[i]?).map (·.2) = some v) (fun i h => SIt h I a (rawInt 0) i es.size ep ∧ SetAt h a es ep t) where
  sub := fun b hb => by simp at hb; simp [hb]
  frame := fun i h h' st k => ⟨k I (by simp) _ st.1, st.2.at fun o e => k a (by simp) o e⟩
  item := fun i s Q E hi st hQ => by
    obtain ⟨⟨o, ho, hex, hd⟩, hf⟩ := id st.2
    have hsz : (pickOrder (w.params.setOrder a ep) es).size = es.size := by
      have := (pickOrder_perm (w.params.setOrder a ep) es).length_eq
      simpa using this
    have hlt : i < (pickOrder (w.params.setOrder a ep) es).size := by omega
    have hv : ((pickOrder (w.params.setOrder a ep) es)[i]?).map (·.2) = some (pickOrder (w.params.setOrder a ep) es)[i].2 := by rw [Array.getElem?_eq_getElem hlt]; rfl
    refine nextT_item hb st.1 ho hd hf hv fun h' hi' sb => ?_
    exact hQ _ h' s.toks hv ⟨hi', st.2.at fun o e => sb.extBut a o hne e⟩ fun b o hb e => sb.extBut b o (by simpa using hb) e
  done := fun s Q E st hQ => by
    obtain ⟨⟨o, ho, hex, hd⟩, hf⟩ := id st.2
    have hsz : (pickOrder (w.params.setOrder a ep) es).size = es.size := by
      have := (pickOrder_perm (w.params.setOrder a ep) es).length_eq
      simpa using this
    refine nextT_end hh hb st.1 ho hd hf (by rw [Array.getElem?_eq_none_iff]; omega) fun h' eb => hQ h' s.toks fun b o hb e => eb b o (by simpa using hb) e
  self := fun i s Q E st hQ => pyIter_setiter st.1 hQ
theorem walksD {I a T : Addr} {es : Array (Int × Value)} {ep nT : Nat} {t : SetTable} {places : List Nat} (hh : A.handled = none) (hp : places.Perm (List.range es.size)) (hne : a ≠ I) (hnT : T ≠ I) :
    Walks prog w A I [I, a, T] [I] es.size (fun i v => ((places[i]?).bind fun p => es[p]?).map (·.2) = some v) (fun i h => SIt h I a (.ref T) i es.size ep ∧ SetAt h a es ep t ∧ ∃ oT, h.get? T = some oT ∧ oT.data = .seq (places.map fun (p : Nat) => rawInt (p : Int)).toArray nT) where
  sub := fun b hb => by simp at hb; simp [hb]
  frame := fun i h h' st k => ⟨k I (by simp) _ st.1, st.2.1.at fun o e => k a (by simp) o e, by obtain ⟨oT, e, d⟩ := st.2.2; exact ⟨oT, k T (by simp) _ e, d⟩⟩
  item := fun i s Q E hi st hQ => by
    obtain ⟨⟨o, ho, hex, hd⟩, hf⟩ := id st.2.1
    obtain ⟨oT, hTo, hTd⟩ := id st.2.2
    have hl : places.length = es.size := by rw [hp.length_eq, List.length_range]
    have hlt : i < places.length := by omega
    have hpl : places[i] < es.size := List.mem_range.mp (hp.mem_iff.mp (List.getElem_mem hlt))
    have e1 : places[i]? = some places[i] := List.getElem?_eq_getElem hlt
    have e2 : es[places[i]]? = some es[places[i]] := Array.getElem?_eq_getElem hpl
    refine nextD_item st.1 hTo hTd ho hd hf e1 e2 fun h' hi' sb => ?_
    exact hQ _ h' s.toks (by rw [e1]; simp [e2]) ⟨hi', st.2.1.at fun o e => sb.extBut a o hne e, oT, sb.extBut T _ hnT hTo, hTd⟩ fun b o hb e => sb.extBut b o (by simpa using hb) e
  done := fun s Q E st hQ => by
    obtain ⟨⟨o, ho, hex, hd⟩, hf⟩ := id st.2.1
    obtain ⟨oT, hTo, hTd⟩ := id st.2.2
    have hl : places.length = es.size := by rw [hp.length_eq, List.length_range]
    refine nextD_end hh st.1 hTo hTd ho hd hf (List.getElem?_eq_none_iff.mpr (by omega)) fun h' eb => hQ h' s.toks fun b o hb e => eb b o (by simpa using hb) e
  self := fun i s Q E st hQ => pyIter_setiter st.1 hQ
/-- pyIter of a set of more than one element that are not told by value: whatever the order, the walk gives the elements' values, each once -/
theorem pyIter_set {a : Addr} {es : Array (Int × Value)} {ep : Nat} {t : SetTable} {Q : Value → Shared → Prop} (hS : SetAt s.heap a es ep t) (hp : t.plain = false) (h2 : 1 < es.size) (hz : es.size ≤ 1000)
    (h : ∀ (I : Addr) (fp : List Addr) (P : Nat → Value → Prop) (St : Nat → Heap → Prop) (h' : Heap) (d' : Drawn), (∀ A' : Around, A'.handled = none → Walks prog w A' I fp [I] es.size P St) → St 0 h' → s.heap.objs.size ≤ I → I ∈ fp → (∀ b ∈ fp, b = a ∨ s.heap.objs.size ≤ b) →
      (∀ b o, s.heap.get? b = some o → h'.get? b = some o) → (∀ vs : List Value, vs.length = es.size → (∀ j v, vs[j]? = some v → P j v) → vs.Perm (es.toList.map (·.2))) → Q (.ref I) { s with heap := h', drawn := d' }) : wpAny (model prog w) A (pyIter (.ref a)) Q E s := by
  obtain ⟨⟨o, ho, hex, hd⟩, hf⟩ := id hS
  have hT := hS.typeIs
  refine wpAny_pyIter_slot hT F.slot_set_iter (wpAny_call_entry F.slot_set_iter hT FS.entry_set_iter ?_ (F.args_set_iter_1 _))
  unfold Builtin.«frozenset.__iter__»
  refine wpAny_bind (m := Builtin.Frozenset.slot0 "__iter__" ⟨[.ref a], []⟩) (wpAny_of_eq (a := a) rfl ?_)
  refine wpAny_bind (m := Builtin.Frozenset.sizeOf a) ?_
  unfold Builtin.Frozenset.sizeOf
  refine wpAny_bind (setEntries_of ho hd hf (wpAny_pure ?_))
  refine wpAny_bind (m := setDrawn a) ?_
  unfold setDrawn
  refine wpAny_bind (wpAny_setState_of ho hd hf ?_)
  refine wpAny_bind (byText_of (wpAny_pure ?_))
  dsimp only
  cases hb : w.params.followText "set-order" with
  | true =>
    refine wpAny_ite_split (fun z => absurd z (by simp)) (fun _ => ?_)
    refine wpAny_bind (wpAny_pure ?_)
    refine wpAny_bind (wpAny_setEpoch_of ho hd hf ?_)
    refine wpAny_bind (m := newFields _ _) (wpAny_newObj_type ?_)
    have hI : (s.heap.push { cls := .type "set_iterator", data := .fields #[rawInt 0, rawInt ((0 : Nat) : Int), .ref a, rawInt (es.size : Int), rawInt (ep : Int)] }).get? s.heap.objs.size = some { cls := .type "set_iterator", data := .fields #[rawInt 0, rawInt ((0 : Nat) : Int), .ref a, rawInt (es.size : Int), rawInt (ep : Int)] } := Heap.get?_push_size _ rfl
    have hne : a ≠ s.heap.objs.size := Nat.ne_of_lt (Heap.lt_size ho)
    refine wpAny_pure ⟨_, rfl, "set_iterator", _, ⟨_, hI, rfl⟩, FS.slot_next.lookup, ?_⟩
    refine h s.heap.objs.size [s.heap.objs.size, a] _ _ _ s.drawn (fun A' hA' => walksT (t := t) hA' hb hne) ⟨hI, hS.at fun o e => Heap.get?_push_of_some _ e⟩ (Nat.le_refl _) (by simp) (fun b hb' => ?_) (fun b o e => Heap.get?_push_of_some _ e) fun vs hl hv => ?_
    · have hb2 : b = s.heap.objs.size ∨ b = a := by simpa using hb'
      rcases hb2 with z | z
      · rw [z]; exact .inr (Nat.le_refl _)
      · exact .inl z
    · have e : vs = ((pickOrder (w.params.setOrder a ep) es).toList.map (·.2)) := by
        have hl2 := (pickOrder_perm (w.params.setOrder a ep) es).length_eq
        apply List.ext_getElem?
        intro j
        by_cases hj : j < vs.length
        · have h1 := hv j vs[j] (List.getElem?_eq_getElem hj)
          rw [List.getElem?_eq_getElem hj, List.getElem?_map, Array.getElem?_toList]
          exact h1.symm
        · rw [List.getElem?_eq_none_iff.mpr (by omega), eq_comm, List.getElem?_eq_none_iff, List.length_map]
          simp at hl2
          simp
          omega
      rw [e]
      exact (pickOrder_perm _ _).map _
  | false =>
    have hdr : (!false && (!t.plain && decide (es.size > 1))) = true := by rw [hp]; simp [h2]
    refine wpAny_ite_split (fun _ => ?_) (fun z => absurd hdr z)
    refine wpAny_bind (wpAny_drawOrder es.size (List.range es.size) _ (List.length_range ..) fun places d' hpl => ?_)
    have hlp : places.length = es.size := by rw [hpl.length_eq, List.length_range]
    refine wpAny_bind (wpAny_newTuple ?_ (by rw [List.length_map, hlp]; exact small hz))
    have hT1 : (s.heap.push { cls := .type "tuple", data := .seq (places.map fun (p : Nat) => rawInt (p : Int)).toArray }).get? s.heap.objs.size = some { cls := .type "tuple", data := .seq (places.map fun (p : Nat) => rawInt (p : Int)).toArray } := Heap.get?_push_size _ rfl
    have ho1 : (s.heap.push { cls := .type "tuple", data := .seq (places.map fun (p : Nat) => rawInt (p : Int)).toArray }).get? a = some o := Heap.get?_push_of_some _ ho
    generalize hh1 : s.heap.push { cls := .type "tuple", data := .seq (places.map fun (p : Nat) => rawInt (p : Int)).toArray } = h1 at hT1 ho1 ⊢
    have hs1 : h1.objs.size = s.heap.objs.size + 1 := by rw [← hh1, Heap.size_push]
    refine wpAny_bind (wpAny_setEpoch_of (s := { s with heap := h1, drawn := d' }) ho1 hd hf ?_)
    refine wpAny_bind (m := newFields _ _) (wpAny_newObj_type ?_)
    have hI : (h1.push { cls := .type "set_iterator", data := .fields #[.ref s.heap.objs.size, rawInt ((0 : Nat) : Int), .ref a, rawInt (es.size : Int), rawInt (ep : Int)] }).get? h1.objs.size = some { cls := .type "set_iterator", data := .fields #[.ref s.heap.objs.size, rawInt ((0 : Nat) : Int), .ref a, rawInt (es.size : Int), rawInt (ep : Int)] } := Heap.get?_push_size _ rfl
    have hlta := Heap.lt_size ho
    have hne : a ≠ h1.objs.size := by rw [hs1]; exact Nat.ne_of_lt (Nat.lt_succ_of_lt hlta)
    have hnT : s.heap.objs.size ≠ h1.objs.size := by rw [hs1]; omega
    refine wpAny_pure ⟨_, rfl, "set_iterator", _, ⟨_, hI, rfl⟩, FS.slot_next.lookup, ?_⟩
    refine h h1.objs.size [h1.objs.size, a, s.heap.objs.size] _ _ _ d' (fun A' hA' => walksD (t := t) (nT := 0) hA' hpl hne hnT) ⟨hI, hS.at fun o e => Heap.get?_push_of_some _ (by rw [← hh1]; exact Heap.get?_push_of_some _ e), _, Heap.get?_push_of_some _ hT1, rfl⟩ (by rw [hs1]; omega) (by simp) (fun b hb' => ?_) (fun b o e => Heap.get?_push_of_some _ (by rw [← hh1]; exact Heap.get?_push_of_some _ e)) fun vs hl hv => ?_
    · have hb2 : b = h1.objs.size ∨ b = a ∨ b = s.heap.objs.size := by simpa using hb'
      rcases hb2 with z | z | z
      · rw [z, hs1]; exact .inr (Nat.le_succ _)
      · exact .inl z
      · rw [z]; exact .inr (Nat.le_refl _)
    · have e : vs.map some = places.map fun p => (es[p]?).map (·.2) := by
        apply List.ext_getElem?
        intro j
        by_cases hj : j < vs.length
        · have h1 := hv j vs[j] (List.getElem?_eq_getElem hj)
          have hjp : j < places.length := by omega
          rw [List.getElem?_map, List.getElem?_map, List.getElem?_eq_getElem hj, List.getElem?_eq_getElem hjp]
          rw [List.getElem?_eq_getElem hjp] at h1
          simp only [Option.bind_some] at h1
          simp [h1]
        · rw [List.getElem?_eq_none_iff.mpr (by rw [List.length_map]; omega), List.getElem?_eq_none_iff.mpr (by rw [List.length_map]; omega)]
      have p1 : (places.map fun p => (es[p]?).map (·.2)).Perm ((List.range es.size).map fun p => (es[p]?).map (·.2)) := hpl.map _
      have e2 : ((List.range es.size).map fun p => (es[p]?).map (·.2)) = (es.toList.map (·.2)).map some := by
        apply List.ext_getElem?
        intro j
        by_cases hj : j < es.size
        · rw [List.getElem?_map, List.getElem?_range hj, List.getElem?_map, List.getElem?_map]
          simp [hj]
        · rw [List.getElem?_eq_none_iff.mpr (by rw [List.length_map, List.length_range]; omega), List.getElem?_eq_none_iff.mpr (by simp; omega)]
      rw [← e, e2] at p1
      have := p1.filterMap id
      simpa using this
end
end L2

set_option Elab.async false
set_option linter.all false
set_option maxRecDepth 100000
set_option maxHeartbeats 4000000
/-! Wordrace: numbers of any size, sums, a sign's place. -/
namespace L2
open PySem PySem.Spec PyProof.Rows
section
variable {X : Cx} {pins : List (Addr × Obj)} {σ : List (Option V)} {H : Hp} {s : Shared}
theorem Inv.seer (I : Inv X pins σ H s) : s.heap.NoSeer := I.ok.mod.seer.keeps I.bk
/-- the frame that runs is a plain def's -/
def TopF (X : Cx) : Prop := ∃ env l, X.stack = env :: l ∧ env.scope.isGenerator = false ∧ env.scope.isCoroutine = false ∧ env.builtins = builtinsNs ∧ env.globals = mainGlobals
/-- // by any positive number -/
theorem op_fdivP {k : Nat} (hT : TopF X) (ht : X.prog.given.tree = none) (hr : Room k X.A) (hk : 32 ≤ k) : OpR X (binaryOp .FloorDiv) (rI (fun _ j => 0 < j) fun i j => .int (i / j)) := by
  intro pins s σ H x y v u Q I rx ry h
  obtain ⟨i, j, rfl, rfl, hc, q⟩ := h
  have hc : (0 : Int) < j := hc
  obtain ⟨t, rfl⟩ := rx
  obtain ⟨t', rfl⟩ := ry
  obtain ⟨env, l, h1, h2, h3, h4, h5⟩ := hT
  refine floordiv_int (by omega) ?_ (.inr (PylongRoom.of I.nolimit (by have := hr.dp; show X.A.depth + 100 < _; omega) (SeerAt.of I.seer ht (by rw [I.ok.frames, h1]) h2 h3 h4 h5)))
  rw [Int.fdiv_eq_ediv_of_nonneg i (by omega)]
  exact ⟨.int (i / j), H, I.tok _, ⟨_, rfl⟩, q⟩
theorem op_mulB : OpR X (binaryOp .Mult) (rI IntMulOk fun i j => .int (i * j)) := opI fun _ _ _ _ _ _ _ hc q => mul_int q hc
theorem intBits_pow {i : Int} {m : Nat} (h : i.natAbs ≤ 2 ^ m) : Builtin.Int.intBits i ≤ m + 1 := by
  unfold Builtin.Int.intBits
  split
  · exact Nat.zero_le _
  · rename_i h0
    have hne : i.natAbs ≠ 0 := by
      intro z
      have : i = 0 := by omega
      simp [this] at h0
    have : i.natAbs.log2 < m + 1 := (Nat.log2_lt hne).mpr (Nat.lt_of_le_of_lt h (Nat.pow_lt_pow_right (by decide) (Nat.lt_succ_self m)))
    omega
theorem mulOk {i j : Int} {m n : Nat} (hi : i.natAbs ≤ 2 ^ m) (hj : j.natAbs ≤ 2 ^ n) (h : m + n + 2 ≤ 134217728) : IntMulOk i j :=
  PyProof.Rows.mulOk_of_bits (intBits_pow hi) (intBits_pow hj) (by omega)
theorem g_mul {Q : VK} {g : Int → Int → V} {i j : Int} {m n : Nat} (hi : i.natAbs ≤ 2 ^ m) (hj : j.natAbs ≤ 2 ^ n) (c : m + n + 2 ≤ 134217728) (h : Q (g i j) H) : rI IntMulOk g (.int i) (.int j) H Q := ⟨i, j, rfl, rfl, mulOk hi hj c, h⟩

theorem preSum_list (ns : List Int) : preSum (fun i => ns.getD i 0) ns.length = ns.sum := by
  have key : ∀ (k : Nat), k ≤ ns.length → preSum (fun i => ns.getD i 0) k = (ns.take k).sum := by
    intro k
    induction k with
    | zero => intro _; rfl
    | succ k ih =>
      intro hk
      have e : ns.take (k + 1) = ns.take k ++ [ns[k]] := by rw [List.take_succ_eq_append_getElem (by omega)]
      show preSum (fun i => ns.getD i 0) k + ns.getD k 0 = _
      rw [ih (by omega), e, List.sum_append, List.getD_eq_getElem?_getD, List.getElem?_eq_getElem (by omega)]
      simp
  rw [key _ (Nat.le_refl _), List.take_length]
theorem call_sumL (hc : X.calm = true) : CallR X (.builtin "sum") (fun xs H Q => ∃ p, ∃ ns : List Int, xs = [.ref p] ∧ SqL X.K H p (ns.map V.int) ∧ Q (.int ns.sum) H) := by
  intro pins s σ H xs us Q I r h
  obtain ⟨p, ns, rfl, hq, q⟩ := h
  obtain ⟨u, rfl, r1⟩ := vals1 r
  cases r1
  obtain ⟨its, rv, pl, hz⟩ := I.list hq
  have hl := rv.length
  rw [List.length_map] at hl
  refine call_sum_walkAnyS (wpAny_pyIter_list pl.isList ?_)
  have hne : p ≠ s.heap.objs.size := by
    obtain ⟨o, e, _⟩ := pl.isList
    exact Nat.ne_of_lt (Heap.lt_size e)
  have hlt : p < s.heap.objs.size := by obtain ⟨o, e, _⟩ := pl.isList; exact Heap.lt_size e
  refine ⟨_, _, _, _, _, _, _, fun i => ns.getD i 0, rfl, (Walks.list (A := X.A.in1) (I.ok.hd hc) _ p hne its.toArray).toS, ⟨⟨_, Heap.get?_push_size _ rfl, rfl, rfl⟩, pl.isList.at fun o e => Heap.get?_push_of_some _ e⟩, fun b hb => ?_, fun i v hv => ?_, fun s' t' hm => ?_⟩
  · rw [Heap.size_push]
    have hb' : b = s.heap.objs.size ∨ b = p := by simpa using hb
    rcases hb' with z | z
    · rw [z]; exact Nat.lt_succ_self _
    · rw [z]; exact Nat.lt_succ_of_lt hlt
  · obtain ⟨x, hx, rx⟩ := vals_at rv (by simpa using hv)
    rw [List.getElem?_map] at hx
    cases e : ns[i]? with
    | none => rw [e] at hx; cases hx
    | some n =>
      rw [e] at hx
      cases hx
      obtain ⟨t, rfl⟩ := rx
      exact ⟨t, by show Value.int n t = Value.int (ns.getD i 0) t; rw [List.getD_eq_getElem?_getD, e]; rfl⟩
  · rw [List.size_toArray, ← hl, preSum_list]
    obtain ⟨h', g', d', tk', os'⟩ := s'
    have eg : g' = s.gens := hm.gens
    have ed : d' = s.drawn := hm.drawn
    have eo : os' = s.os := hm.os
    subst eg; subst ed; subst eo
    refine ⟨.int _, H, I.kept (t' := tk') fun b o e => hm.heap b o ?_ (Heap.get?_push_of_some _ e), ⟨_, rfl⟩, q⟩
    simpa using Nat.ne_of_lt (Heap.lt_size e)
theorem call_sumK (K : PySem.W.Frag) (h : X.K = K) (hc : X.calm = true) : CallR X (.builtin "sum") (fun xs H Q => ∃ p, ∃ ns : List Int, xs = [.ref p] ∧ SqL K H p (ns.map V.int) ∧ Q (.int ns.sum) H) := by subst h; exact call_sumL hc
/-! ### a sign's place in a text -/
end
/-! ### steps -/
section
variable {σ : St} {H : Hp} {Q : VK} {D : Ends} {K : PySem.W.Frag}
theorem g_neg {g : Int → V} {i : Int} (h : Q (g i) H) : rU g (.int i) H Q := ⟨i, rfl, h⟩
theorem forS {l : List Nat} {g : TG} {tb : TS} (Pv : Nat → St → Hp → Prop) (h0 : Pv 0 σ H)
    (hs : ∀ i c σ H, l[i]? = some c → Pv i σ H → g (.str (S [c])) σ H fun σ2 H2 => tb { D with nx := Pv (i + 1), ct := Pv (i + 1), bk := D.nx } σ2 H2) (hd : ∀ σ H, Pv l.length σ H → D.nx σ H) :
    ForW (Its l) g tb D σ H := by
  refine ⟨fun i m σ H => m = l.length - i ∧ i ≤ l.length ∧ Pv i σ H, ⟨l.length, by simp, Nat.zero_le _, h0⟩, ?_⟩
  rintro i m σ H ⟨rfl, hi, p⟩
  by_cases hlt : i < l.length
  · refine .inr ⟨hlt, Pv (i + 1), fun σ' H' p' => ⟨l.length - (i + 1), by omega, rfl, hlt, p'⟩, fun v H' y => ?_⟩
    obtain ⟨rfl, c, hc, rfl⟩ := y
    exact hs i c σ _ hc p
  · have e : i = l.length := by omega
    subst e
    exact .inl ⟨Nat.le_refl _, hd σ H p⟩
theorem g_sub {to ti : TE} {t : TSet} {v : V} {R : St → Hp → Prop} (h : to σ H fun o H1 => ti σ H1 fun i H2 => t o i v H2 fun H3 => R σ H3) : gSub to ti t v σ H R := h
theorem g_setL {p : Addr} {xs : List V} {k : Int} {j : Nat} {v : V} {R : Hp → Prop} (c : H p = some (.lst xs)) (e : ixN xs.length k = some j) (h : R (upd H p (.lst (xs.set j v)))) : rSetL (.ref p) (.int k) v H R := ⟨p, xs, k, j, rfl, rfl, c, e, h⟩
theorem ixN_nat {n j : Nat} (h : j < n) : ixN n (j : Int) = some j := by
  unfold ixN
  rw [if_pos (by omega), if_pos (by omega)]
  simp
end
/-- a share as a tuple's items -/
def sh (q : Rat) : List V := [.int q.num, .int (q.den : Int)]
end L2

set_option Elab.async false
set_option linter.all false
set_option maxRecDepth 100000
set_option maxHeartbeats 4000000
/-! Wordrace: a name that is given a comprehension: it is stored ahead of the block's names going. -/
namespace L2
open PySem PySem.Spec PyProof.Rows
section
variable {X : Cx} {N : List Str} {mp : List (Option Nat)} {sc : Scope}
theorem ps_setC {i : Nat} {y : Str} {py spos : Pos} {elt tg iter : Expr} {ifs : List Expr} {pos : Pos} {wi : TI} {g : TG} {ti : TT} {te : TE} (hst : PG X (.Name y py) (gName i)) (hc : X.calm = true) (S : CompSc X.env.scope X.N N mp sc) (hi : PI X tg iter wi)
    (hb : ∀ s3 H3 C fp, PG (blk X N sc s3 H3 C fp) tg g ∧ PIf (blk X N sc s3 H3 C fp) ifs ti ∧ PE (blk X N sc s3 H3 C fp) elt te)
    (hsw : swapsWith (.ListComp elt [⟨tg, iter, ifs, 0⟩] sc pos) (some (.Name y py)) spos.line X.env = pure true)
    (hs : ∀ x, foldedSetIterable iter X.env x = pure x := by intro _; rfl) : PS X (.Assign [.Name y py] (.ListComp elt [⟨tg, iter, ifs, 0⟩] sc pos) spos) (tAsg (tComp mp wi g ti te) (gName i)) := by
  intro pins s σ H DD I h
  rw [exec_Assign_Name_used _ _ _ _ hsw]
  refine wpAny_bind (wpAny_standAt (wpAny_bind ?_))
  show wpAny _ X.A (do let _ ← comprehension (.ListComp elt [⟨tg, iter, ifs, 0⟩] sc pos) sc X.env _ (newList []) false (eval iter X.env) (some (assign (.Name y py) X.env))) _ _ s
  refine wpAny_bind (wpAny_mono (wpAny_comprehension_free (use := some (assign (.Name y py) X.env)) (Q := fun _ s' => SP X pins DD .next s') rfl hs (closureFor_eq (fun x hx hf => I.ok.has x.1 (S.free x hx hf))) S.kind S.own
    (thn (hi pins s σ H _ I h) fun v s1 h1 => thn h1 fun itv s2 h2 => ?_)) (fun _ s' hq => wpAny_pure (wpAny_pure hq)) fun _ _ e => e)
  obtain ⟨it, fp, tn, J, H2, rfl, I2, T, st2, f2, q⟩ := h2
  refine wpAny_newObj_type (wpAny_newFunctionEnv S.nocell (by intro y hy; simp at hy) (fun h₁ hns₁ hsb₁ => ?_) S.kind)
  dsimp only at hns₁ hsb₁ ⊢
  have hD : H2 s2.heap.objs.size = none := I2.hok.fresh (Nat.le_refl _)
  obtain ⟨W, ⟨m0, w0⟩, turn⟩ := q _ hD
  have I3 : Inv X pins σ (upd H2 s2.heap.objs.size (.lst [])) { s2 with heap := s2.heap.push { cls := .type "list", dict := none, data := .seq ([] : List Value).toArray } } :=
    I2.laid (t' := s2.toks) (o := .lst []) (fun b o e => Heap.get?_push_of_some _ e) (Nat.le_refl _) ⟨Nat.zero_le _, [], 0, .nil, Heap.get?_push_size _ rfl⟩
  have hDfp : s2.heap.objs.size ∉ fp := fun z => by
    obtain ⟨o, e, _⟩ := T.obj 0 _ st2 _ z
    exact absurd (Heap.lt_size e) (Nat.lt_irrefl _)
  have hf3 : ∀ b ∈ fp, FpOk X pins (upd H2 s2.heap.objs.size (.lst [])) b ∧ b < (s2.heap.push { cls := .type "list", dict := none, data := .seq ([] : List Value).toArray }).objs.size := fun b hb => by
    obtain ⟨o, e, _⟩ := T.obj 0 _ st2 b hb
    have hlt := Heap.lt_size e
    obtain ⟨f0, f1⟩ := f2 b hb
    refine ⟨⟨?_, f1⟩, ?_⟩
    · rw [upd_ne (Nat.ne_of_lt hlt)]; exact f0
    · rw [Heap.size_push]; exact Nat.lt_succ_of_lt hlt
  have IY := blk_inv (N := N) (mp := mp) (sc := sc) (t' := s2.toks + ([] : List (Str × Value)).length) S I3 hf3 hns₁ hsb₁
  have old4 : ∀ b o, s2.heap.get? b = some o → h₁.get? b = some o := fun b o e => by
    have e3 : (s2.heap.push { cls := .type "list", dict := none, data := .seq ([] : List Value).toArray }).get? b = some o := Heap.get?_push_of_some _ e
    exact hsb₁.extBut b o (Nat.ne_of_lt (Heap.lt_size e3)) (Heap.get?_push_of_some _ e3)
  have st4 : tn 0 h₁ := T.keep _ _ _ st2 fun b _ o e => old4 b o e
  have fpY : ∀ {H' : Hp}, (∀ b ∈ fp, H' b = none) → ∀ b ∈ fp, FpOk (blk X N sc { s2 with heap := s2.heap.push { cls := .type "list", dict := none, data := .seq ([] : List Value).toArray } } (upd H2 s2.heap.objs.size (.lst [])) (s2.heap.push { cls := .type "list", dict := none, data := .seq ([] : List Value).toArray }).objs.size fp) [] H' b := fun hn b hb => by
    obtain ⟨x1, x2⟩ := hf3 b hb
    obtain ⟨f0, f1, f2', f3, f4, f5⟩ := x1
    exact ⟨hn b hb, Nat.ne_of_lt x2, fun z => (List.mem_cons.mp (I3.stkSub b z)).elim f1 f2', .inl hb, fun x c e => f4 x c (closL_sound e), fun p hp => absurd (show p ∈ ([] : List (Addr × Obj)) from hp) (by simp)⟩
  obtain ⟨hg, hif, he⟩ := id (hb { s2 with heap := s2.heap.push { cls := .type "list", dict := none, data := .seq ([] : List Value).toArray } } (upd H2 s2.heap.objs.size (.lst [])) (s2.heap.push { cls := .type "list", dict := none, data := .seq ([] : List Value).toArray }).objs.size fp)
  have loop : codeAny (model X.prog X.w) X.A (.compLoop (.ListComp elt [⟨tg, iter, ifs, 0⟩] sc pos) 0 (.ref it) (.ref s2.heap.objs.size) (compEnvC sc (closL sc.names X.env.cells) (s2.heap.push { cls := .type "list", dict := none, data := .seq ([] : List Value).toArray }).objs.size X.env))
      (compPost (model X.prog X.w) X.A X.xe (some (assign (.Name y py) X.env)) (fun _ s' => SP X pins DD .next s') (.ref s2.heap.objs.size) (s2.heap.push { cls := .type "list", dict := none, data := .seq ([] : List Value).toArray }).objs.size) { s2 with heap := h₁, toks := s2.toks + ([] : List (Str × Value)).length } := by
    refine codeAny_compLoop_go (fun n s' => ∃ i σ' H', Inv (blk X N sc { s2 with heap := s2.heap.push { cls := .type "list", dict := none, data := .seq ([] : List Value).toArray } } (upd H2 s2.heap.objs.size (.lst [])) (s2.heap.push { cls := .type "list", dict := none, data := .seq ([] : List Value).toArray }).objs.size fp) [] σ' H' s' ∧
      tn i s'.heap ∧ (∀ b ∈ fp, H' b = none) ∧ W i n σ' H') ?_ m0 ⟨0, _, _, IY, st4, fun b hb => (hf3 b hb).1.1, w0⟩
    rintro n s5 ⟨i, σ5, H5, I5, st5, fr5, w5⟩
    rcases turn i n σ5 H5 w5 with ⟨stop, qn⟩ | ⟨go, Nx, hN, step⟩
    · refine thn (T.done (blk X N sc { s2 with heap := s2.heap.push { cls := .type "list", dict := none, data := .seq ([] : List Value).toArray } } (upd H2 s2.heap.objs.size (.lst [])) (s2.heap.push { cls := .type "list", dict := none, data := .seq ([] : List Value).toArray }).objs.size fp) rfl rfl rfl hc i [] s5 σ5 H5 _ I5 (fpY fr5) st5 stop) fun r s6 ⟨hr, I6⟩ => ?_
      subst hr
      obtain ⟨m6, hn6, _⟩ := id I6.loc
      have hCeq : (blk X N sc { s2 with heap := s2.heap.push { cls := .type "list", dict := none, data := .seq ([] : List Value).toArray } } (upd H2 s2.heap.objs.size (.lst [])) (s2.heap.push { cls := .type "list", dict := none, data := .seq ([] : List Value).toArray }).objs.size fp).env.locals = (s2.heap.push { cls := .type "list", dict := none, data := .seq ([] : List Value).toArray }).objs.size := rfl
      rw [hCeq] at hn6
      have freeC : H5 (s2.heap.push { cls := .type "list", dict := none, data := .seq ([] : List Value).toArray }).objs.size = none := I6.free
      have fC : FpOk X pins H5 (s2.heap.push { cls := .type "list", dict := none, data := .seq ([] : List Value).toArray }).objs.size := I3.fpOk (Nat.le_refl _) freeC
      have un : Un (frs X.stack) fp (upd H2 s2.heap.objs.size (.lst [])) H5 (s2.heap.push { cls := .type "list", dict := none, data := .seq ([] : List Value).toArray }) s6.heap := I6.base
      have IX : Inv X pins σ H5 s6 := I3.call' (s' := s6) (ch := fp) I6.os un I6.hok I6.bare fun b hb => by
        obtain ⟨⟨f0, f1, f2', f3, f4, f5⟩, _⟩ := hf3 b hb
        exact ⟨f3, f1, f4, f5⟩
      obtain ⟨oC, esC, epC, eC, dC, rC⟩ := id hn6
      generalize hCC : (s2.heap.push { cls := .type "list", dict := none, data := .seq ([] : List Value).toArray }).objs.size = CC at *
      have IP := IX.pinned (fp := [CC]) (fun b hb => by
        have e : b = CC := by simpa using hb
        subst e; exact fC) (fun b hb => by
        have e : b = CC := by simpa using hb
        subst e; exact ⟨oC, eC, fun v z => by rw [dC] at z; cases z⟩)
      show wpAny _ X.A (assign (.Name y py) X.env (.ref s2.heap.objs.size)) _ _ s6
      refine thn (hst (pins ++ pinsAt [CC] s6.heap) s6 σ H5 (.ref s2.heap.objs.size) (.ref s2.heap.objs.size) (fun σ' H' => DD.nx σ' H' ∧ H' = H5) IP rfl ⟨qn, rfl⟩) fun _ s7 ⟨σ7, H7, I7, q7, e7⟩ => ?_
      subst e7
      have eC7 : s7.heap.get? CC = some oC := (I7.pin (CC, oC) (List.mem_append_right _ (List.mem_append_right _ (mem_pinsAt (by simp) eC)))).1
      refine ⟨m6, ⟨oC, esC, epC, eC7, dC, rC⟩, fun h8 hs8 => ⟨σ7, H7, ?_, q7⟩⟩
      exact I7.unpinned.turnedL (h' := h8) (t' := s7.toks) (ch := [CC]) (fun b o hb e => hs8.extBut b o (by simpa using hb) e) fun b hb => by
        have e : b = CC := by simpa using hb
        subst e; exact fC
    · refine thn (T.item (blk X N sc { s2 with heap := s2.heap.push { cls := .type "list", dict := none, data := .seq ([] : List Value).toArray } } (upd H2 s2.heap.objs.size (.lst [])) (s2.heap.push { cls := .type "list", dict := none, data := .seq ([] : List Value).toArray }).objs.size fp) rfl rfl rfl hc i [] s5 σ5 H5 _ I5 (fpY fr5) st5 go) fun r s6 ⟨u, hr, h6⟩ => ?_
      subst hr
      refine thn h6 fun _ s7 ⟨x, H7, I7, r7, y7, st7, fr7⟩ => ?_
      have I7' := I7.pinned (fpY fr7) (T.obj _ _ st7)
      refine thn (hg _ s7 σ5 H7 x u _ I7' r7 (step x H7 y7)) fun _ s8 ⟨σ8, H8, I8, q8⟩ => ?_
      refine thn (hif _ s8 σ8 H8 _ I8 q8) fun ok s9 ⟨H9, I9, q9⟩ => ?_
      have again : ∀ {σ' : St} {H' : Hp} {s' : Shared}, Inv (blk X N sc { s2 with heap := s2.heap.push { cls := .type "list", dict := none, data := .seq ([] : List Value).toArray } } (upd H2 s2.heap.objs.size (.lst [])) (s2.heap.push { cls := .type "list", dict := none, data := .seq ([] : List Value).toArray }).objs.size fp) ([] ++ pinsAt fp s7.heap) σ' H' s' → Nx σ' H' →
          ∃ m, m < n ∧ ∃ i σ' H', Inv (blk X N sc { s2 with heap := s2.heap.push { cls := .type "list", dict := none, data := .seq ([] : List Value).toArray } } (upd H2 s2.heap.objs.size (.lst [])) (s2.heap.push { cls := .type "list", dict := none, data := .seq ([] : List Value).toArray }).objs.size fp) [] σ' H' s' ∧ tn i s'.heap ∧ (∀ b ∈ fp, H' b = none) ∧ W i m σ' H' := fun {σ' H' s'} J nx => by
        obtain ⟨m', hm, w'⟩ := hN σ' H' nx
        refine ⟨m', hm, i + 1, σ', H', J.unpinned, T.keep _ _ _ st7 fun b hb o e => (J.pin (b, o) (List.mem_append_right _ (List.mem_append_right _ (mem_pinsAt hb e)))).1, fun b hb => ?_, w'⟩
        obtain ⟨o, e, d⟩ := T.obj _ _ st7 b hb
        exact (J.pin (b, o) (List.mem_append_right _ (List.mem_append_right _ (mem_pinsAt hb e)))).2.1
      cases ok with
      | false =>
        rw [if_neg Bool.false_ne_true] at q9 ⊢
        exact again I9 q9
      | true =>
        rw [if_pos rfl] at q9 ⊢
        refine thn (he _ s9 σ8 H9 _ I9 q9) fun yv s10 ⟨y, H10, I10, ry, ys, hy, hl, nx⟩ => ?_
        refine thn (mt_append _ s10 σ8 H10 (.ref s2.heap.objs.size) [y] (.ref s2.heap.objs.size) [yv] (fun v H' => v = .non ∧ H' = upd H10 s2.heap.objs.size (.lst (ys ++ [y]))) I10 rfl (.cons ry .nil) ⟨_, ys, y, rfl, rfl, hy, hl, rfl, rfl⟩) fun _ s11 ⟨_, H11, I11, _, _, e11⟩ => ?_
        subst e11
        exact again I11 nx
  exact codeAny_compStart_list loop (T.self X.A 0 _ _ _ st4 loop)
theorem ps_setCD (sc0 : Scope) (N0 N : List Str) (mp : List (Option Nat)) {i : Nat} {y : Str} {py spos : Pos} {elt tg iter : Expr} {ifs : List Expr} {pos : Pos} {wi : TI} {g : TG} {ti : TT} {te : TE} (hst : PG X (.Name y py) (gName i)) (S : CompSc sc0 N0 N mp sc) (hi : PI X tg iter wi)
    (hb : ∀ s3 H3 C fp, PG (blk X N sc s3 H3 C fp) tg g ∧ PIf (blk X N sc s3 H3 C fp) ifs ti ∧ PE (blk X N sc s3 H3 C fp) elt te) (hc : X.calm = true := by rfl) (h0 : X.env.scope = sc0 := by rfl) (hN : X.N = N0 := by rfl)
    (hsw : swapsWith (.ListComp elt [⟨tg, iter, ifs, 0⟩] sc pos) (some (.Name y py)) spos.line X.env = pure true := by rfl)
    (hs : ∀ x, foldedSetIterable iter X.env x = pure x := by intro _; rfl) : PS X (.Assign [.Name y py] (.ListComp elt [⟨tg, iter, ifs, 0⟩] sc pos) spos) (tAsg (tComp mp wi g ti te) (gName i)) := by
  subst h0 hN
  exact ps_setC hst hc S hi hb hsw hs
end
end L2

set_option Elab.async false
set_option linter.all false
set_option maxRecDepth 100000
set_option maxHeartbeats 4000000
/-! Wordrace: a set made of a list of texts. -/
namespace L2
open PySem PySem.Spec PyProof.Rows
open Sem (wp)
theorem laid_plain {mask finger moves : Nat} {led plain : Bool} {hashes : Array Int} {t : SetTable} {o : Array Nat} (h : SetTable.laid mask finger moves led plain hashes = some (t, o)) : t.plain = plain := by
  unfold SetTable.laid at h
  revert h
  intro h
  simp only [Option.bind_eq_bind, Option.bind_eq_some_iff, Option.pure_def, Option.some.injEq, Prod.mk.injEq] at h
  obtain ⟨_, _, rfl, _⟩ := h
  rfl
theorem relayAll_plain {t : SetTable} {es : Array (Int × Value)} {wanted : Nat} (h : t.plain = false) : (relayAll t es wanted).2.1.plain = false := by
  unfold relayAll
  split
  · rename_i t' order e
    dsimp only
    split
    · have := laid_plain (show SetTable.laid _ _ _ t.led t.plain _ = some (t', order) from e)
      rw [this]; exact h
    · rfl
  · rfl
/-- the text of a value -/
def tOf : Value → Str
  | .str x _ => x
  | _ => ⟨#[]⟩
structure TxtSet (prog : Program) (w : World) (h : Heap) (a : Addr) (L : List Str) : Prop where
  ex : ∃ o es ep t, h.get? a = some o ∧ o.ExactSet ∧ o.data = .set es ep t ∧ ElemsOf (mixKind prog w) es.toList ∧ (∀ e ∈ es.toList, ∃ x tk, e.2 = Value.str x tk) ∧ (es.toList.map fun e => tOf e.2).Perm L ∧ es.size < scanBound ∧ t.fits es.size = true ∧ (L ≠ [] → t.plain = false)
theorem TxtSet.at {prog : Program} {w : World} {h h' : Heap} {a : Addr} {L : List Str} (x : TxtSet prog w h a L) (k : ∀ o, h.get? a = some o → h'.get? a = some o) : TxtSet prog w h' a L := by
  obtain ⟨o, es, ep, t, e, r⟩ := x.ex
  exact ⟨⟨o, es, ep, t, k o e, r⟩⟩
section
variable {prog : Program} {w : World} {A : Around} {E : Value → Shared → Prop} {s : Shared}
theorem txt_store {a : Addr} {o : Obj} {es es' : Array (Int × Value)} {ep : Nat} {t t' : SetTable} {L : List Str} (ho : s.heap.get? a = some o) (hex : o.ExactSet) (hd : o.data = .set es ep t)
    (hel : ElemsOf (mixKind prog w) es'.toList) (hs : ∀ e ∈ es'.toList, ∃ x tk, e.2 = Value.str x tk) (hp : (es'.toList.map fun e => tOf e.2).Perm L) (hb : es'.size < scanBound) (hf : t'.fits es'.size = true) (hpl : t'.plain = false) :
    (s.heap.update a (Obj.putSet es' t')).get? a = some { o with data := .set es' (ep + 1) t' } ∧ TxtSet prog w (s.heap.update a (Obj.putSet es' t')) a L := by
  have hg : (s.heap.update a (Obj.putSet es' t')).get? a = some { o with data := .set es' (ep + 1) t' } := by
    have := Heap.get?_update_self (Obj.putSet es' t') ho (by rw [putSet_of es' t' hd]; rfl)
    rw [putSet_of es' t' hd] at this; exact this
  exact ⟨hg, ⟨_, es', ep + 1, t', hg, hex, rfl, hel, hs, hp, hb, hf, fun _ => hpl⟩⟩
/-- one more text -/
theorem add_txt {a : Addr} {L : List Str} {x : Str} {tk : Tok} {Q : Bool → Shared → Prop} (hS : TxtSet prog w s.heap a L) (hroom : L.length + 1 < scanBound)
    (h : ∀ (h' : Heap) (b : Bool), Heap.SameBut a s.heap h' → TxtSet prog w h' a (if x ∈ L then L else L ++ [x]) → Q b { s with heap := h' }) :
    wpAny (model prog w) A (setAddHashed a (.str x tk) ((mixKind prog w).hash (.inr x))) Q E s := by
  obtain ⟨o, es, ep, t, ho, hex, hd, hel, hstr, hperm, hb, hf, hpl⟩ := hS.ex
  have hkey : (mixKind prog w).is (.inr x) (.str x tk) = true := mixKind_str prog w x tk
  have hsc : (Value.str x tk).scannable = true := rfl
  have hn : es.size = L.length := by have := hperm.length_eq; simpa using this
  have hb1 : es.size + 1 < scanBound := by rw [hn]; exact hroom
  have his : ∀ e ∈ es.toList, ((mixKind prog w).is (.inr x) e.2 = true ↔ tOf e.2 = x) := fun e he => by
    obtain ⟨y, u, ey⟩ := hstr e he
    rw [ey]
    show keyIs (.inr x) (.str y u) = true ↔ y = x
    constructor
    · intro z
      rcases keyIs_shape z with ⟨i, t, q, _⟩ | ⟨x', t, q, q2⟩
      · cases q
      · cases q; injection q2
    · rintro rfl; exact keyIs_str _ _
  unfold setAddHashed setAddHashedIn
  refine wpAny_holding (wpAny_bind (wpAny_setState_of ho hd hf ?_))
  dsimp only
  rw [byScan_of hsc hb hel]
  simp only [↓reduceIte]
  unfold setAddByScan
  refine wpAny_bind ?_
  refine wpAny_bind (wpAny_rule ?_)
  refine wpAny_bind (wpAny_setScan_of hkey ho hd hf hel ?_)
  cases hr : List.findIdx? (fun e => (mixKind prog w).is (.inr x) e.2) es.toList with
  | some j =>
    dsimp only
    obtain ⟨hj, hpj, _⟩ := List.findIdx?_eq_some_iff_getElem.mp hr
    have hm : x ∈ L := hperm.mem_iff.mp (List.mem_map.mpr ⟨_, List.getElem_mem hj, (his _ (List.getElem_mem hj)).mp hpj⟩)
    refine wpAny_pure (wpAny_pure ?_)
    have e : s = { s with heap := s.heap } := by cases s; rfl
    have := h s.heap false (Heap.SameBut.refl a s.heap) (by rw [if_pos hm]; exact hS)
    rw [e]; exact this
  | none =>
    dsimp only
    have hm : x ∉ L := fun z => by
      obtain ⟨e, he, q⟩ := List.mem_map.mp (hperm.mem_iff.mpr z)
      have := List.findIdx?_eq_none_iff.mp hr e he
      rw [(his e he).mpr q] at this; exact Bool.noConfusion this
    have hgw : ∀ (b : Bool) {s₁ : Shared} {Q' : Unit → Shared → Prop}, Q' () s₁ → wpAny (model prog w) A (match b with | true => rule "set.scan.the-table-gave-way" | false => pure ()) Q' E s₁ :=
      fun b s₁ Q' hq => by cases b <;> first | exact wpAny_pure hq | exact wpAny_rule hq
    have hlp := layNew_perm t es ((mixKind prog w).hash (.inr x)) (.str x tk)
    have hlf := layNew_fits t es ((mixKind prog w).hash (.inr x)) (.str x tk)
    generalize hL : layNew t es ((mixKind prog w).hash (.inr x)) (.str x tk) = LL at hlp hlf ⊢
    obtain ⟨es1, t1, wasDummy, gave⟩ := LL
    dsimp only at hlp hlf ⊢
    rw [Array.toList_push] at hlp
    have hel1 : ElemsOf (mixKind prog w) es1.toList := (hel.push hkey hsc).perm hlp
    have hstr1 : ∀ e ∈ es1.toList, ∃ y u, e.2 = Value.str y u := fun e he => by
      rcases List.mem_append.mp (hlp.mem_iff.mp he) with z | z
      · exact hstr e z
      · rw [List.mem_singleton] at z; subst z; exact ⟨x, tk, rfl⟩
    have hp1 : (es1.toList.map fun e => tOf e.2).Perm (L ++ [x]) := by
      refine (hlp.map fun e => tOf e.2).trans ?_
      rw [List.map_append]
      exact hperm.append_right _
    have hb1' : es1.size < scanBound := by rw [← Array.length_toList, hlp.length_eq, List.length_append, Array.length_toList]; simpa using hb1
    refine wpAny_bind (hgw _ ?_)
    have key : ∀ t2 : SetTable, t2.plain = false → t2.fits es1.size = true → ∀ {R : Option Bool → Shared → Prop}, (∀ h', Heap.SameBut a s.heap h' → TxtSet prog w h' a (L ++ [x]) → R (some true) { s with heap := h' }) →
        wpAny (model prog w) A (do
          storeSet a es1 t2
          if (!wasDummy && t2.tooFull) = true then do
              (match (relayAll t2 es1 (SetTable.grown es1.size)).2.2 with | true => rule "set.scan.the-table-gave-way" | false => pure ())
              storeSet a (relayAll t2 es1 (SetTable.grown es1.size)).1 (relayAll t2 es1 (SetTable.grown es1.size)).2.1
              pure (some true)
            else pure (some true)) R E s := by
      intro t2 hpl2 hf2 R hR
      refine wpAny_bind (wpAny_storeSet_of ho hd ?_ (fits_of_scanBound hb1'))
      obtain ⟨ho1, hS1⟩ := txt_store (prog := prog) (w := w) ho hex hd hel1 hstr1 hp1 hb1' hf2 hpl2
      have hsb1 := Heap.SameBut.update s.heap a (Obj.putSet es1 t2)
      split
      · have hp := relayAll_perm t2 es1 (SetTable.grown es1.size)
        have hfr := relayAll_fits t2 es1 (SetTable.grown es1.size)
        have hplr := relayAll_plain (es := es1) (wanted := SetTable.grown es1.size) hpl2
        generalize hRl : relayAll t2 es1 (SetTable.grown es1.size) = Rl at hp hfr hplr ⊢
        obtain ⟨es2, t3, gave2⟩ := Rl
        dsimp only at hp hfr hplr ⊢
        have hel2 : ElemsOf (mixKind prog w) es2.toList := hel1.perm hp
        have hstr2 : ∀ e ∈ es2.toList, ∃ y u, e.2 = Value.str y u := fun e he => hstr1 e (hp.mem_iff.mp he)
        have hp2 : (es2.toList.map fun e => tOf e.2).Perm (L ++ [x]) := (hp.map fun e => tOf e.2).trans hp1
        have hsz : es2.size = es1.size := by rw [← Array.length_toList, hp.length_eq, Array.length_toList]
        have hb2 : es2.size < scanBound := by rw [hsz]; exact hb1'
        refine wpAny_bind (hgw _ ?_)
        refine wpAny_bind (wpAny_storeSet_of ho1 rfl ?_ (fits_of_scanBound hb2))
        obtain ⟨_, hS2⟩ := txt_store (prog := prog) (w := w) (s := { s with heap := s.heap.update a (Obj.putSet es1 t2) }) ho1 hex rfl hel2 hstr2 hp2 hb2 hfr hplr
        exact wpAny_pure (hR _ (hsb1.trans (Heap.SameBut.update _ a _)) hS2)
      · exact wpAny_pure (hR _ hsb1 hS1)
    have hend : ∀ h', Heap.SameBut a s.heap h' → TxtSet prog w h' a (L ++ [x]) → Q true { s with heap := h' } := by
      intro h' hsb hS'; refine h h' true hsb ?_; rw [if_neg hm]; exact hS'
    split
    · rename_i htp
      refine wpAny_bind ?_
      rw [hashByValue_scannable 8 hsc]
      refine wpAny_pure ?_
      have hk : plainKind (Value.str x tk) = false := rfl
      simp only [hk, Bool.false_eq_true, if_false]
      refine key { t1 with plain := false } rfl (SetTable.fits_plain_off hlf) ?_
      intro h' hsb hS'; exact wpAny_pure (hend h' hsb hS')
    · rename_i htp
      refine wpAny_bind (wpAny_pure ?_)
      simp only [↓reduceIte]
      refine key t1 (by simpa using htp) hlf ?_
      intro h' hsb hS'; exact wpAny_pure (hend h' hsb hS')
end
/-! ### a list of texts, each once -/
def metS (val : Nat → Str) : Nat → List Str
  | 0 => []
  | i + 1 => if val i ∈ metS val i then metS val i else metS val i ++ [val i]
theorem metS_len (val : Nat → Str) : ∀ i, (metS val i).length ≤ i
  | 0 => Nat.le_refl _
  | i + 1 => by
    have := metS_len val i
    unfold metS
    split
    · omega
    · rw [List.length_append, List.length_singleton]; omega
theorem metS_nodup (val : Nat → Str) : ∀ i, (metS val i).Nodup
  | 0 => by unfold metS; simp
  | i + 1 => by
    have := metS_nodup val i
    unfold metS
    split
    · exact this
    · rename_i h
      rw [List.nodup_append]
      exact ⟨this, by simp, fun a ha b hb e => by
        have : b = val i := by simpa using hb
        subst this; subst e; exact h ha⟩
theorem mem_metS (val : Nat → Str) {x : Str} : ∀ i, x ∈ metS val i ↔ ∃ j, j < i ∧ val j = x
  | 0 => by unfold metS; simp
  | i + 1 => by
    have ih := mem_metS val (x := x) i
    unfold metS
    split
    · rename_i h
      rw [ih]
      constructor
      · rintro ⟨j, h1, h2⟩; exact ⟨j, by omega, h2⟩
      · rintro ⟨j, h1, h2⟩
        by_cases e : j = i
        · subst e; subst h2
          exact (mem_metS val j).mp h
        · exact ⟨j, by omega, h2⟩
    · rw [List.mem_append, ih]
      constructor
      · rintro (⟨j, h1, h2⟩ | z)
        · exact ⟨j, by omega, h2⟩
        · exact ⟨i, by omega, (by simpa using z : x = val i).symm⟩
      · rintro ⟨j, h1, h2⟩
        by_cases e : j = i
        · subst e; exact .inr (by simp [h2])
        · exact .inl ⟨j, by omega, h2⟩
section
variable {prog : Program} {w : World} {A : Around} {R : Result → Shared → Prop} {I : Addr} {fp wr : List Addr} {G : Array GenState → Array GenState → Prop} {n : Nat} {P : Nat → Value → Prop} {St : Nat → Shared → Prop}
theorem update_loop_txt (W : WalksS prog w A.in1 I fp wr G n P St) (S : Addr) (hSf : S ∉ fp) (val : Nat → Str) (hval : ∀ i v, P i v → ∃ t, v = .str (val i) t) (hb : n + 1 < scanBound) :
    ∀ (k i : Nat) (s : Shared), n - i = k → i ≤ n → St i s → TxtSet prog w s.heap S (metS val i) →
      (∀ s', Moved (S :: wr) G s s' → TxtSet prog w s'.heap S (metS val n) → R (.ok (.ret .none)) s') →
      codeAny (model prog w) A (.builtin "set.update.loop" ⟨[.ref S, .ref I], []⟩) R s := by
  have hSw : S ∉ wr := fun h => hSf (W.sub _ h)
  have hsub : ∀ b ∈ wr, b ∈ S :: wr := fun b hb => List.mem_cons_of_mem _ hb
  intro k
  induction k with
  | zero =>
    intro i s hk hi hst hS hR
    have hin : i = n := by omega
    subst hin
    refine codeAny_builtin F.entry_set_update_loop ?_
    rw [Around.under_plainId F.plain_set_update_loop _]
    show wpAny _ A.in1 (pyNext (.ref I) >>= _) _ _ s
    refine wpAny_bind (W.done s _ _ hst fun s' hm => ?_)
    show wpAny _ A.in1 (ret Value.none) _ _ s'
    exact wpAny_pure (hR s' (hm.mono hsub) (hS.at fun o e => hm.heap S _ hSw e))
  | succ k ih =>
    intro i s hk hi hst hS hR
    have hlt : i < n := by omega
    refine codeAny_builtin F.entry_set_update_loop ?_
    rw [Around.under_plainId F.plain_set_update_loop _]
    show wpAny _ A.in1 (pyNext (.ref I) >>= _) _ _ s
    refine wpAny_bind (W.item i s _ _ hlt hst fun v s' hP hst' hm => ?_)
    obtain ⟨t, rfl⟩ := hval i v hP
    have hS' : TxtSet prog w s'.heap S (metS val i) := hS.at fun o e => hm.heap S _ hSw e
    show wpAny _ A.in1 (holding [Value.str (val i) t] (setAdd S (.str (val i) t)) >>= _) _ _ s'
    refine wpAny_bind (wpAny_holding ?_)
    unfold setAdd
    refine wpAny_holding ?_
    refine wpAny_bind ((mixKind prog w).pyHash (k := .inr (val i)) (mixKind_str _ _ _ _) ?_)
    have hroom : (metS val i).length + 1 < scanBound := by have := metS_len val i; omega
    refine add_txt (s := { s' with toks := s'.toks + 1 }) hS' hroom fun h' b hsb hS2 => ?_
    have hSi : TxtSet prog w h' S (metS val (i + 1)) := hS2
    refine wpAny_pure ⟨plainId_quiet F.plain_set_update_loop _, ih (i + 1) _ (by omega) hlt (W.frame _ s' _ _ hst' (Nat.le_succ _) fun b hb o e => ?_) hSi fun s'' hm'' hS'' => ?_⟩
    · rw [hsb.2 b (fun h : b = S => hSf (by rw [← h]; exact hb))]; exact e
    · refine hR s'' (Moved.trans W.gtrans ((hm.mono hsub).then_heap (Nat.le_succ _) fun b o hb e => ?_) hm'') hS''
      rw [hsb.2 b (fun h : b = S => hb (by rw [h]; exact List.mem_cons_self))]; exact e
end
section
variable {prog : Program} {w : World} {A : Around} {E : Value → Shared → Prop} {s : Shared}
theorem TxtSet.fresh {led : Bool} {a : Addr} {h : Heap} (e : h.get? a = some { cls := .type "set", dict := none, data := .set #[] 0 (.fresh 0 0 led) }) : TxtSet prog w h a [] :=
  ⟨_, #[], 0, _, e, ⟨rfl, rfl, rfl⟩, rfl, fun e he => by simp at he, fun e he => by simp at he, by simp, by decide, by rfl, fun z => absurd rfl z⟩
set_option maxHeartbeats 8000000 in
theorem call_set_txts {l : Addr} {items : Array Value} {val : Nat → Str} {Q : Value → Shared → Prop}
    (hh : A.handled = none) (hl : s.heap.IsList l items) (hi : ∀ (i : Nat) (v : Value), items[i]? = some v → ∃ t, v = Value.str (val i) t) (hb : items.size + 1 < scanBound)
    (h : ∀ (h' : Heap) (tk : Nat), TxtSet prog w h' s.heap.objs.size (metS val items.size) →
      (∀ b o, b < s.heap.objs.size → s.heap.get? b = some o → h'.get? b = some o) → Q (.ref s.heap.objs.size) { s with heap := h', toks := tk }) :
    wpAny (model prog w) A (call (.type "set") [.ref l]) Q E s := by
  obtain ⟨c, tl, hmro⟩ := F.called_set.mro
  have hmade := F.called_set.made
  have hsub := F.called_set.sub
  refine wpAny_call (codeAny_of_tree ?_)
  show wpAny _ _ (callAny (.type "set") _) _ _ _
  refine wpAny_pure ⟨Code.quiet_builtin _ (by decide +kernel), codeAny_builtin F.entry_type_call ?_⟩
  rw [Around.under_plain (weight_type_call_type "set" [.ref l] []) rfl]
  have h1 := F.called_set.notType
  have h2 := F.called_set.canCreate
  have hct := F.typeCall_set_1 (.ref l)
  repeat (any_goals (first | assumption | wp_step))
  refine codeAny_mono (code_set_new_1 (.ref l) (E := E) (Q₁ := fun obj s₁ => ∃ led : Bool, obj = .ref s.heap.objs.size ∧ s₁ = { s with heap := s.heap.push { cls := .type "set", dict := none, data := .set #[] 0 (.fresh 0 0 led) } }) fun led => ⟨led, rfl, rfl⟩) fun r s₁ hr => ?_
  cases r with
  | error e => exact hr
  | ok fl =>
    cases fl with
    | ret obj =>
      obtain ⟨led, rfl, rfl⟩ := hr
      have hS : (s.heap.push { cls := .type "set", dict := none, data := .set #[] 0 (.fresh 0 0 led) }).get? s.heap.objs.size = some { cls := .type "set", dict := none, data := .set #[] 0 (.fresh 0 0 led) } := Heap.get?_push_size _ rfl
      have hT : Shared.TypeIs { s with heap := s.heap.push { cls := .type "set", dict := none, data := .set #[] 0 (.fresh 0 0 led) } } (.ref s.heap.objs.size) "set" := ⟨_, hS, rfl⟩
      have hli := F.called_set.init.lookup
      have hbi := F.called_set.init.bind (.ref s.heap.objs.size)
      repeat (any_goals (first | assumption | wp_step))
      refine codeAny_mono (codeAny_call_builtin (R := wants (fun r s₂ => r = .none ∧ ∃ h' tk, s₂ = { s with heap := h', toks := tk } ∧ TxtSet prog w h' s.heap.objs.size (metS val items.size) ∧
          (∀ b o, b < s.heap.objs.size → s.heap.get? b = some o → h'.get? b = some o)) E) F.called_set.init.plain F.entry_set_init (check_set_init_1 hT ?_)) fun r₂ s₂ hr₂ => ?_
      · obtain ⟨ol, hol, hcl, nl, hdl⟩ := hl
        obtain ⟨ocls, odict, odata, oslots⟩ := ol
        simp only at hcl hdl
        subst hcl; subst hdl
        have hol' : (s.heap.push { cls := .type "set", dict := none, data := .set #[] 0 (.fresh 0 0 led) }).get? l = some { cls := .type "list", dict := odict, data := .seq items nl, slots := oslots } := Heap.get?_push_of_some _ hol
        have hsls := F.sub_list_set
        have hslf := F.sub_list_frozenset
        have hne : (Value.type "list" == Value.type "dict") = false := by decide
        have hl1 : (s.heap.push { cls := .type "set", dict := none, data := .set #[] 0 (.fresh 0 0 led) }).IsList l items := ⟨_, hol', rfl, nl, rfl⟩
        unfold Builtin.«set.__init__» noKeywords Builtin.Frozenset.updateFrom
        generalize hPI : pyIter = PI
        wp_walk
        subst hPI
        refine wpAny_pyIter_list hl1 ?_
        refine wpAny_bind (wpAny_runValue ?_)
        have hlS : l < s.heap.objs.size := Heap.lt_size hol
        have hh3 : A.in1.in1.in1.handled = none := by simp [hh]
        have hneI : l ≠ (s.heap.push { cls := .type "set", dict := none, data := .set #[] 0 (.fresh 0 0 led) }).objs.size := by
          rw [Heap.size_push]; exact Nat.ne_of_lt (Nat.lt_succ_of_lt hlS)
        have hSf : s.heap.objs.size ∉ [(s.heap.push { cls := .type "set", dict := none, data := .set #[] 0 (.fresh 0 0 led) }).objs.size, l] := by
          rw [Heap.size_push]; simp only [List.mem_cons, List.mem_singleton, List.not_mem_nil, or_false, not_or]
          exact ⟨Nat.ne_of_lt (Nat.lt_succ_self _), Nat.ne_of_gt hlS⟩
        refine update_loop_txt ((Walks.list hh3 _ l hneI items).toS) s.heap.objs.size
          hSf val hi hb (items.size - 0) 0 _ (by omega) (Nat.zero_le _)
          ⟨⟨_, Heap.get?_push_size _ rfl, rfl, rfl⟩, (hl1.push _)⟩ ?hS0 ?hR
        case hS0 =>
          have hget : ((s.heap.push { cls := .type "set", dict := none, data := .set #[] 0 (.fresh 0 0 led) }).push { cls := .type "list_iterator", data := .fields #[.ref l, .int 0 0] }).get? s.heap.objs.size
              = some { cls := .type "set", dict := none, data := .set #[] 0 (.fresh 0 0 led) } := Heap.get?_push_of_some _ hS
          exact TxtSet.fresh hget
        case hR =>
          intro s' hm hS'
          obtain ⟨h', g', d', tk', os'⟩ := s'
          have eg : g' = s.gens := hm.gens
          have ed : d' = s.drawn := hm.drawn
          have eo : os' = s.os := hm.os
          subst eg; subst ed; subst eo
          show wpAny _ _ _ _ _ _
          refine wpAny_pure ?_
          show wpAny _ _ (ret Value.none) _ _ _
          refine wpAny_pure ⟨rfl, h', tk', rfl, hS', fun b o hb e => ?_⟩
          have hb1 : b ≠ s.heap.objs.size := Nat.ne_of_lt hb
          have hb2 : b ≠ (s.heap.push { cls := .type "set", dict := none, data := .set #[] 0 (.fresh 0 0 led) }).objs.size := by
            rw [Heap.size_push]; exact Nat.ne_of_lt (Nat.lt_succ_of_lt hb)
          exact hm.heap b o (by simp only [List.mem_cons, List.mem_singleton, List.not_mem_nil, or_false, not_or]; exact ⟨hb1, hb2⟩) (Heap.get?_push_of_some _ (Heap.get?_push_of_some _ e))
      · cases r₂ with
        | error e => exact hr₂
        | ok fl₂ =>
          cases fl₂ with
          | ret r =>
            obtain ⟨rfl, h', tk, rfl, hS', hk'⟩ := hr₂
            repeat (any_goals (first | assumption | wp_step))
            exact h _ _ hS' hk'
          | _ => exact hr₂.elim
    | _ => exact hr.elim
end
end L2

set_option Elab.async false
set_option linter.all false
set_option maxRecDepth 100000
set_option maxHeartbeats 4000000
/-! Wordrace: a set of texts, sorted; sorted and max by the length. -/
namespace L2
open PySem PySem.Spec PyProof.Rows
open Sem (wp)
section
variable {prog : Program} {w : World} {A : Around} {E : Value → Shared → Prop} {s : Shared}
/-- all elements of a set of texts, in whatever order -/
theorem collect_set {a : Addr} {L : List Str} {Q : List Value → Shared → Prop} (hh : A.handled = none) (hS : TxtSet prog w s.heap a L) (h2 : 2 ≤ L.length) (hz : L.length ≤ 1000)
    (hQ : ∀ (h' : Heap) (d' : Drawn) (tk : Nat) (vs : List Value), s.heap.objs.size ≤ h'.objs.size → (∀ b o, s.heap.get? b = some o → h'.get? b = some o) → (vs.map tOf).Perm L → (∀ v ∈ vs, ∃ x t, v = Value.str x t) → Q vs { s with heap := h', drawn := d', toks := tk }) :
    wpAny (model prog w) A (collect (.ref a)) Q E s := by
  obtain ⟨o, es, ep, t, ho, hex, hd, hel, hstr, hperm, hb, hf, hpl⟩ := hS.ex
  have hn : es.size = L.length := by have := hperm.length_eq; simpa using this
  have hlt : a < s.heap.objs.size := Heap.lt_size ho
  have hpl' : t.plain = false := hpl (by intro z; subst z; simp at h2)
  unfold collect
  refine wpAny_bind (wpAny_runValue (codeAny_builtin F.entry_proto_collect ?_))
  rw [Around.under_plainId F.plain_proto_collect _]
  show wpAny _ A.in1 (newList [] >>= fun l => again (.builtin "list.__iadd__" ⟨[l, .ref a], []⟩)) _ _ s
  refine wpAny_bind (wpAny_newObj_type ?_)
  refine wpAny_pure ⟨plainId_quiet F.plain_list_iadd _, codeAny_builtin F.entry_list_iadd ?_⟩
  rw [Around.under_plainId F.plain_list_iadd _]
  have hS1 : SetAt (s.heap.push { cls := .type "list", data := .seq ([] : List Value).toArray }) a es ep t := ⟨⟨o, Heap.get?_push_of_some _ ho, hex, hd⟩, hf⟩
  have hT1 := SetAt.typeIs (s := { s with heap := s.heap.push { cls := .type "list", data := .seq ([] : List Value).toArray } }) hS1
  show wpAny _ A.in1 (Builtin.List.listExtendWith (.ref s.heap.objs.size) (.ref a) (.ref s.heap.objs.size)) _ _ _
  unfold Builtin.List.listExtendWith
  refine wpAny_bind (wpAny_typeOf hT1 ?_)
  have h1 : Builtin.List.listSameRef (.ref s.heap.objs.size) (.ref a) = false := by simp [Builtin.List.listSameRef]; exact Nat.ne_of_gt hlt
  have h2' : (Value.type "set" == Value.type "list") = false := by decide
  have h3 : (Value.type "set" == Value.type "tuple") = false := by decide
  simp only [h1, h2', h3, Bool.or_false, Bool.false_eq_true, if_false]
  refine wpAny_bind (pyIter_set hS1 hpl' (by omega) (by omega) fun I fp P St h' d' hW hst hI hIf hfp hk hvs => ?_)
  have hk0 : ∀ b o, s.heap.get? b = some o → h'.get? b = some o := fun b o e => hk b o (Heap.get?_push_of_some _ e)
  have hS2 : SetAt h' a es ep t := hS1.at fun o e => hk a o e
  have hT2 := SetAt.typeIs (s := { s with heap := h', drawn := d' }) hS2
  have hL2 : h'.get? s.heap.objs.size = some { cls := .type "list", data := .seq ([] : List Value).toArray } := hk _ _ (Heap.get?_push_size _ rfl)
  refine wpAny_bind (wpAny_holding ?_)
  unfold Builtin.List.listLengthHint
  refine wpAny_bind (wpAny_specialOf hT2 F.slot_set_len.lookup ?_)
  dsimp only
  rw [show splitId "set.__len__" = some ("set", "__len__") from by decide +kernel]
  dsimp only
  refine wpAny_bind (wpAny_isInstance hT2 sub_set_self ?_)
  refine wpAny_ite_split (fun z => absurd z (by decide)) (fun _ => ?_)
  refine wpAny_ite_split (fun _ => ?_) (fun z => absurd (by rfl) z)
  refine wpAny_bind (wpAny_typeOf hT2 ?_)
  refine wpAny_pure ?_
  show wpAny _ A.in1 (rule "list.extend.makes-room" >>= fun _ => Builtin.List.listTouch (.ref s.heap.objs.size) >>= fun _ =>
    again (.builtin "list.extend.loop" ⟨[.ref s.heap.objs.size, .ref I, .ref s.heap.objs.size], []⟩)) _ _ _
  refine wpAny_bind (wpAny_rule ?_)
  refine wpAny_bind ?_
  show wpAny _ A.in1 (updateSeq s.heap.objs.size (·.push .none) >>= fun _ => updateSeq s.heap.objs.size (·.pop)) _ _ _
  refine wpAny_bind (wpAny_updateSeq hL2 rfl ?_)
  have hS₂ := Heap.get?_update_self (Obj.mapSeq (·.push Value.none)) hL2 rfl
  refine wpAny_updateSeq hS₂ rfl ?_
  have hS₃ := Heap.get?_update_self (Obj.mapSeq (·.pop)) hS₂ rfl
  have oth : ∀ b o, b ≠ s.heap.objs.size → h'.get? b = some o → ((h'.update s.heap.objs.size (Obj.mapSeq (·.push Value.none))).update s.heap.objs.size (Obj.mapSeq (·.pop))).get? b = some o :=
    fun b o hb e => (Heap.get?_update_other _ _ (Ne.symm hb)).trans ((Heap.get?_update_other _ _ (Ne.symm hb)).trans e)
  have hsz1 : (s.heap.push { cls := .type "list", data := .seq ([] : List Value).toArray }).objs.size = s.heap.objs.size + 1 := Heap.size_push ..
  have hSf : s.heap.objs.size ∉ fp := fun z => by
    rcases hfp _ z with y | y
    · exact Nat.ne_of_gt hlt y
    · have y' : s.heap.objs.size + 1 ≤ s.heap.objs.size := by rw [← hsz1]; exact y
      exact absurd y' (Nat.not_succ_le_self _)
  have W := (hW A.in1 (by simpa using hh)).toS
  refine wpAny_pure ⟨plainId_quiet F.plain_extend_loop _, codeAny_extend_loopS W (by rw [sizeLine_eq]; omega) s.heap.objs.size hSf _ es.size 0 _ _ _ rfl (Nat.zero_le _)
    ((hW A.in1 (by simpa using hh)).frame 0 _ _ hst fun b hb o e => oth b o (fun z => hSf (z ▸ hb)) e) hS₃ (ItemsOf.nil P) fun s' acc' c' hm hS' hacc => ?_⟩
  show wpAny _ A (load s.heap.objs.size >>= _) _ _ s'
  refine wpAny_bind (wpAny_load hS' ?_)
  obtain ⟨h3', g3, d3, tk3, os3⟩ := s'
  have eg : g3 = s.gens := hm.gens
  have ed : d3 = d' := hm.drawn
  have eo : os3 = s.os := hm.os
  subst eg; subst ed; subst eo
  refine wpAny_pure ?_
  obtain ⟨a1, a2⟩ := hacc
  have pv := hvs acc'.toList (by simpa using a1) (fun j v e => a2 j v (by simpa using e))
  refine hQ h3' d3 tk3 acc'.toList (Nat.le_of_lt (Heap.lt_size hS')) (fun b o e => ?_) ?_ (fun v hv => ?_)
  · have hbl := Heap.lt_size e
    refine hm.heap b o ?_ (oth b o (Nat.ne_of_lt hbl) (hk0 b o e))
    have hI' : s.heap.objs.size + 1 ≤ I := by rw [← hsz1]; exact hI
    simp only [List.mem_cons, List.mem_singleton, List.not_mem_nil, or_false, not_or]
    exact ⟨Nat.ne_of_lt hbl, Nat.ne_of_lt (Nat.lt_of_lt_of_le (Nat.lt_succ_of_lt hbl) hI')⟩
  · refine (pv.map tOf).trans ?_
    rw [List.map_map]
    exact hperm
  · obtain ⟨e, he, rfl⟩ := List.mem_map.mp (pv.mem_iff.mp hv)
    exact hstr e he
theorem tOf_eq : ∀ v : Value, tOf v = strOf v := fun v => by cases v <;> rfl
theorem strsAre_tOf {vs : List Value} (h : ∀ v ∈ vs, ∃ x t, v = Value.str x t) : StrsAre vs (vs.map tOf) := by
  have := strsAre_map vs h
  rwa [show vs.map strOf = vs.map tOf from List.map_congr_left fun v _ => (tOf_eq v).symm] at this
theorem sorted_set {a : Addr} {L : List Str} {Q : Value → Shared → Prop} (hh : A.handled = none) (hS : TxtSet prog w s.heap a L) (h2 : 2 ≤ L.length) (h64 : L.length < 64)
    (hQ : ∀ (h' : Heap) (d' : Drawn) (tk : Nat) (r : Addr) (out : Array Value) (c : Nat) (ys : List Str), (∀ b o, s.heap.get? b = some o → h'.get? b = some o) → s.heap.objs.size ≤ r → h'.get? r = some (seqObj "list" out c) → StrsAre out.toList ys → ys.Perm L → sortedS ys = true →
      Q (.ref r) { s with heap := h', drawn := d', toks := tk }) : wpAny (model prog w) A (call (.builtin "sorted") [.ref a]) Q E s := by
  refine Calls.call_function_entry kind_sorted plain_sorted entry_sorted (args_sorted1 _) ?_
  unfold Builtin.«sorted»
  refine wpAny_bind (m := checkCount "sorted" 1 1 _) (wpAny_pure ?_)
  refine wpAny_bind (collect_set (by simpa using hh) hS h2 (by omega) fun h1 d1 tk vs hle hk hp hstr => ?_)
  have hl : vs.length = L.length := by have := hp.length_eq; simpa using this
  have hA := strsAre_tOf hstr
  refine wpAny_bind (wpAny_newList ?_ (by rw [sizeLine_eq]; omega))
  have hoL : (h1.push (seqObj "list" vs.toArray 0)).get? h1.objs.size = some (seqObj "list" vs.toArray 0) := Heap.get?_push_size _ rfl
  show wpAny _ _ _ _ _ { s with heap := h1.push (seqObj "list" vs.toArray 0), drawn := d1, toks := tk }
  refine wpAny_bind (wpAny_holding (wpAny_call_entry slot_list_sort ⟨_, hoL, rfl⟩ entry_list_sort (list_sort_treeK strKind_oneLt hoL hA.keysOf (fun v₁ v₂ rest e => keyKind_strs (by rw [← e]; exact hA)) (by omega) fun st' a1 a2 => ⟨_, rfl, ?_⟩) (args_list_sort _)))
  obtain ⟨ys, y1, y2, y3⟩ := sorted_out_str hA a1 a2
  obtain ⟨e, he⟩ := sortedHeap_at (out := (arrOf st').map (·.2)) hoL
  refine wpAny_pure ⟨_, rfl, hQ _ d1 tk h1.objs.size _ e ys (fun b o q => ?_) hle he y1 (y2.trans hp) y3⟩
  have hb := hk b o q
  have hlt := Heap.lt_size hb
  rw [sortedHeap_old (Nat.ne_of_lt hlt) (by rw [Heap.size_push]; exact Nat.lt_succ_of_lt hlt)]
  exact Heap.get?_push_of_some _ hb
end
/-! ### the rules -/
section
variable {X : Cx} {pins : List (Addr × Obj)} {σ : List (Option V)} {H : Hp} {s : Shared}
/-- a set of texts -/
def TxtO (P : Program) (w : World) (a : Addr) (L : List Str) : HO := .ext fun h => TxtSet P w h a L
theorem TxtO.ok {P : Program} {w : World} {H : Hp} {h : Heap} {a : Addr} {L : List Str} (x : TxtSet P w h a L) : ObjOk P w H h a (TxtO P w a L) := by
  obtain ⟨o, es, ep, t, ho, _⟩ := id x.ex
  exact ⟨x, ⟨o, ho⟩, fun h1 h2 y k => y.at k⟩
/-- all objects kept, whatever was drawn -/
theorem Inv.keptD {h' : Heap} {t' : Nat} {d' : Drawn} (I : Inv X pins σ H s) (k : ∀ b u, s.heap.get? b = some u → h'.get? b = some u) : Inv X pins σ H { s with heap := h', drawn := d', toks := t' } :=
  I.call (g' := s.gens) (t' := t') (d' := d') (ch := []) (Un.kept k) (I.hok.kept k) I.bare fun b z => absurd z (by simp)
/-- .. and a new one is tracked -/
theorem Inv.laidD {h' : Heap} {t' : Nat} {d' : Drawn} {a : Addr} {o : HO} (I : Inv X pins σ H s) (k : ∀ b u, s.heap.get? b = some u → h'.get? b = some u) (hp : s.heap.objs.size ≤ a) (new : ObjOk X.prog X.w (upd H a o) h' a o) :
    Inv X pins σ (upd H a o) { s with heap := h', drawn := d', toks := t' } := by
  have I1 : Inv X pins σ H { s with heap := h', drawn := d', toks := t' } := I.keptD k
  exact I1.track (I.fpOk hp (I.hok.fresh hp)) new
def metL (ts : List (List Nat)) : List Str := metS (fun i => S (ts.getD i [])) ts.length
theorem metL_len (ts : List (List Nat)) : (metL ts).length ≤ ts.length := metS_len _ _
theorem metL_nodup (ts : List (List Nat)) : (metL ts).Nodup := metS_nodup _ _
theorem mem_metL {ts : List (List Nat)} {x : Str} : x ∈ metL ts ↔ ∃ t ∈ ts, S t = x := by
  unfold metL
  rw [mem_metS]
  constructor
  · rintro ⟨j, hj, e⟩
    exact ⟨ts[j], List.getElem_mem hj, by rw [← e, List.getD_eq_getElem?_getD, List.getElem?_eq_getElem hj]; rfl⟩
  · rintro ⟨t, ht, e⟩
    obtain ⟨j, hj, rfl⟩ := List.mem_iff_getElem.mp ht
    exact ⟨j, hj, by rw [← e, List.getD_eq_getElem?_getD, List.getElem?_eq_getElem hj]; rfl⟩
theorem call_setT (K : PySem.W.Frag) (P : Program) (w : World) (hK : X.K = K) (hP : X.prog = P) (hw : X.w = w) (hc : X.calm = true) : CallR X (.type "set") (fun xs H Q => ∃ p, ∃ ts : List (List Nat), xs = [.ref p] ∧ SqL K H p (ts.map fun l => V.str (S l)) ∧ ts.length ≤ 1000 ∧ ∀ r, H r = none → Q (.ref r) (upd H r (TxtO P w r (metL ts)))) := by
  subst hK hP hw
  intro pins s σ H xs us Q I r h
  obtain ⟨p, ts, rfl, hq, hz, q⟩ := h
  obtain ⟨u, rfl, r1⟩ := vals1 r
  cases r1
  obtain ⟨its, rv, pl, _⟩ := I.list hq
  have hl := rv.length
  rw [List.length_map] at hl
  refine call_set_txts (val := fun i => S (ts.getD i [])) (I.ok.hd hc) pl.isList (fun i v hv => ?_) (by rw [List.size_toArray]; unfold scanBound; omega) fun h' tk hS hk => ?_
  · obtain ⟨x, hx, rx⟩ := vals_at rv (by simpa using hv)
    rw [List.getElem?_map] at hx
    cases e : ts[i]? with
    | none => rw [e] at hx; cases hx
    | some t =>
      rw [e] at hx
      cases hx
      obtain ⟨tk, rfl⟩ := rx
      exact ⟨tk, by show Value.str (S t) tk = Value.str (S (ts.getD i [])) tk; rw [List.getD_eq_getElem?_getD, e]; rfl⟩
  · have e : metS (fun i => S (ts.getD i [])) its.toArray.size = metL ts := by rw [List.size_toArray, ← hl]; rfl
    rw [e] at hS
    exact ⟨.ref _, _, I.laid (t' := tk) (fun b o e => hk b o (Heap.lt_size e) e) (Nat.le_refl _) (TxtO.ok hS), rfl, q _ I.fresh⟩
theorem vals_strs : ∀ {vs : List Value} {ys : List Str}, StrsAre vs ys → Vals (ys.map V.str) vs
  | _, _, .nil => .nil
  | _, _, .cons y t h => .cons ⟨t, rfl⟩ (vals_strs h)
theorem call_sortedT (P : Program) (w : World) (hP : X.prog = P) (hw : X.w = w) (hc : X.calm = true) : CallR X (.builtin "sorted") (fun xs H Q => ∃ p L, xs = [.ref p] ∧ H p = some (TxtO P w p L) ∧ 2 ≤ L.length ∧ L.length < 64 ∧ ∀ r ys, H r = none → ys.Perm L → sortedS ys = true → Q (.ref r) (upd H r (.lst (ys.map V.str)))) := by
  subst hP hw
  intro pins s σ H xs us Q I r h
  obtain ⟨p, L, rfl, hp, h2, h64, q⟩ := h
  obtain ⟨u, rfl, r1⟩ := vals1 r
  cases r1
  obtain ⟨hS, _⟩ := I.hok p _ hp
  have hS : TxtSet X.prog X.w s.heap p L := hS
  refine sorted_set (I.ok.hd hc) hS h2 h64 fun h' d' tk r out c ys hk hr hget hA hpm hso => ?_
  have hl : ys.length = L.length := hpm.length_eq
  refine ⟨.ref r, _, I.laidD (t' := tk) (d' := d') (o := .lst (ys.map V.str)) hk hr ⟨by rw [List.length_map, sizeLine_eq]; omega, out.toList, c, vals_strs hA, ?_⟩, rfl, q r ys (I.hok.fresh hr) hpm hso⟩
  rw [hget]; try rfl
/-! ### by the length -/
/-- the frame's own record may have turned, all else is kept -/
theorem Inv.byFr {h' : Heap} {t' : Nat} {m : Str → Option Value} (I : Inv X pins σ H s) (hm : s.heap.Ns X.env.locals m) (F : Fr (Att.noObjs s.heap) X.env.locals h' m) (N : News (Att.noObjs s.heap) X.env.locals h' (allNews (Att.noObjs s.heap) s.heap X.env.locals)) :
    (∀ b o, b ≠ X.env.locals → s.heap.get? b = some o → h'.get? b = some o) ∧ Inv X pins σ H { s with heap := h', toks := t' } := by
  have keep : ∀ b o, b ≠ X.env.locals → s.heap.get? b = some o → h'.get? b = some o := fun b o hb e => (N (b, o) (mem_allNews hb (Att.noObjs_get _ _) e)).1
  refine ⟨keep, ?_⟩
  refine I.step (g' := s.gens) (d' := s.drawn) (t' := t') (ch := []) (fun _ z => nomatch z) (fun b o hb _ _ e _ => keep b o hb e) (fun b o hb _ _ e _ => ⟨o.slots, keep b o hb e⟩) (fun _ _ _ _ n => n) (fun b o _ e => ?_)
    (fun _ _ e => e) (fun _ _ _ e => e) (fun b ps e => ⟨#[], by rw [e]; simp⟩) (fun m' hm' => ?_) (fun b u e => ?_) I.bare
  · by_cases hb : b = X.env.locals
    · subst hb
      obtain ⟨o', _, _, e', _⟩ := F.ns
      exact ⟨o', e'⟩
    · exact ⟨o, keep b o hb e⟩
  · have : m' = m := by
      obtain ⟨o, es, ep, e, d, k, f⟩ := hm
      obtain ⟨o', es', ep', e', d', k', f'⟩ := hm'
      rw [e] at e'; cases e'
      rw [d] at d'; cases d'
      funext x
      rw [← f x, ← f' x]
    subst this
    exact F.ns
  · have nb : ∀ c v, H c = some v → c ≠ X.env.locals := fun c v q z => by rw [z, I.free] at q; cases q
    refine (I.hok b u e).stay (fun c v hc q => keep c v ?_ q) (fun _ q => q) fun _ _ q => q
    rcases hc with z | z
    · rw [z]; exact nb b u e
    · exact nb c _ z
theorem fr_all' {h : Heap} {L : Addr} {m : Str → Option Value} (n : h.Ns L m) : Fr (Att.noObjs h) L h m := Att.fr_all n
theorem len_turn {prog : Program} {w : World} {A : Around} {h₀ : Heap} {L : Addr} {m : Str → Option Value} {need : List (Addr × Obj)} {s : Shared} {x : Str} {t : Tok} (hz : x.length ≤ sizeLine) (F : Fr h₀ L s.heap m) (N : News h₀ L s.heap need) :
    wpAny (model prog w) A (call (.builtin "len") [.str x t]) (KskEnd h₀ L m need (x.length : Int) s) (fun _ _ => False) s := by
  refine PySem.P.len_str ?_ ?_
  · rw [sizeLine_eq] at hz; omega
  · exact ⟨s.heap, _, _, rfl, rfl, F, N⟩
section
variable {prog : Program} {w : World} {A : Around} {E : Value → Shared → Prop} {s : Shared} {h₀ : Heap} {L l : Addr} {m : Str → Option Value} {news : List (Addr × Obj)} {b : Bool} {vs : List Value} {Q : Value → Shared → Prop}
end
/-- the codes of a value's text -/
def cOf (v : Value) : List Nat := (tOf v).cps.toList
theorem vals_cOf : ∀ {ts : List (List Nat)} {its : List Value}, Vals (ts.map fun l => V.str (S l)) its → its.map cOf = ts ∧ ∀ v ∈ its, ∃ t, v = Value.str (S (cOf v)) t
  | [], _, .nil => ⟨rfl, fun v hv => by simp at hv⟩
  | t :: ts, _, .cons a b => by
    obtain ⟨tk, rfl⟩ := a
    obtain ⟨h1, h2⟩ := vals_cOf b
    have e : cOf (Value.str (S t) tk) = t := S_cps t
    refine ⟨by rw [List.map_cons, h1, e], fun v hv => ?_⟩
    rcases List.mem_cons.mp hv with z | z
    · subst z; exact ⟨tk, by rw [e]⟩
    · exact h2 v z
theorem vals_of_cOf : ∀ {out : List Value}, (∀ v ∈ out, ∃ t, v = Value.str (S (cOf v)) t) → Vals ((out.map cOf).map fun l => V.str (S l)) out
  | [], _ => .nil
  | v :: out, h => .cons (h v List.mem_cons_self) (vals_of_cOf fun u hu => h u (List.mem_cons_of_mem _ hu))
theorem boot_sorted' : bootBuiltins "sorted" = some (.builtin "sorted") := by decide +kernel
theorem boot_max' : bootBuiltins "max" = some (.builtin "max") := by decide +kernel
/-- f(e, key=len) comes to the call -/
theorem call_keyLen {f : Str} {id : String} {e : Expr} {te : TE} {p q kp pos : Pos} {pins : List (Addr × Obj)} {s : Shared} {σ : St} {H : Hp} {Q : Value → Shared → Prop} {R : V → Hp → Prop} (he : PE X e te) (hg : Gl X f) (hm : X.mg f = none) (hb : bootBuiltins f = some (.builtin id)) (hn : f ≠ "__name__") (hd : (f == ("__debug__" : Str)) = false) (hgl : Gl X "len") (hml : X.mg "len" = none)
    (h1 : starEach [e] X.env = [(false, eval e X.env)]) (I : Inv X pins σ H s) (h : te σ H R)
    (k : ∀ x H1 u s1, Inv X pins σ H1 s1 → RelV x u → R x H1 → wpAny (model X.prog X.w) X.A (call (.builtin id) [u] [(Str.ofString "key", .builtin "len")]) Q X.xe s1) :
    wpAny (model X.prog X.w) X.A (eval (.Call (.Name f p) [e] [⟨some "key", .Name "len" q, kp⟩] pos) X.env) Q X.xe s := by
  refine wpAny_Call_Name_kw (ld_blt I hg hm hb ?_ hn hd)
  have ha : PA X [e] (tCons te tNil) := pa_cons he pa_nil (by rw [h1]; rfl)
  refine callWith_kw (thn (ha pos pins s σ H (fun vs H1 => match vs with | [x] => R x H1 | _ => False) I h) fun us s1 ⟨vs, H1, I1, r, q1⟩ => ?_) (by rw [h1]; rfl) (by rw [h1]; rfl) rfl rfl
  match vs, r, q1 with
  | [x], r, q1 =>
    obtain ⟨u, rfl, r1⟩ := vals1 r
    show wpAny _ _ (evalAll [do let v ← eval (.Name "len" q) X.env; standAt pos; pure v]) _ _ s1
    refine wpAny_evalAll_cons (wpAny_bind (ld_blt I1 hgl hml boot_len (wpAny_bind (wpAny_standAt (wpAny_pure (wpAny_evalAll_nil ?_))))))
    exact k x H1 u s1 I1 r1 q1
/-- max(e, key=len): the first of the longest -/
def tMaxLen (K : PySem.W.Frag) (te : TE) : TE := fun σ H Q => te σ H fun x H1 => ∃ a, ∃ ts : List (List Nat), x = .ref a ∧ SqL K H1 a (ts.map fun l => V.str (S l)) ∧ ts ≠ [] ∧ (∀ t ∈ ts, t.length ≤ 1000) ∧ ∀ t, t ∈ ts → (∀ u ∈ ts, u.length ≤ t.length) → Q (.str (S t)) H1
theorem pe_maxLen (K : PySem.W.Frag) (hK : X.K = K) (hc : X.calm = true) {e : Expr} {te : TE} {p q kp pos : Pos} (he : PE X e te) (hg : Gl X "max") (hm : X.mg "max" = none) (hgl : Gl X "len") (hml : X.mg "len" = none) (h1 : starEach [e] X.env = [(false, eval e X.env)]) :
    PE X (.Call (.Name "max" p) [e] [⟨some "key", .Name "len" q, kp⟩] pos) (tMaxLen K te) := by
  subst hK
  intro pins s σ H Q I h
  refine call_keyLen he hg hm boot_max' (by decide) (by decide) hgl hml h1 I h fun x H1 u s1 I1 rx hx => ?_
  obtain ⟨a, ts, rfl, hq, hne, hz, qq⟩ := hx
  cases rx
  obtain ⟨its, rv, pl, _⟩ := I1.list hq
  have hl := rv.length
  rw [List.length_map] at hl
  obtain ⟨c1, c2⟩ := vals_cOf rv
  obtain ⟨m, hn, _⟩ := id I1.loc
  obtain ⟨oa, ea, ca, na, da⟩ := pl.isList
  have haL : a ≠ X.env.locals := fun z => by
    obtain ⟨o, es, ep, e, d, _⟩ := hn
    rw [← z, ea] at e; cases e
    rw [da] at d; cases d
  have hpos : 0 < its.length := by
    have := List.length_pos_iff.mpr hne
    omega
  refine kmb_max (kf := fun i => ((ts.getD i []).length : Int)) (I1.ok.hd hc) (fr_all' hn) news_all (fun h F' N' => ⟨oa, (N' (a, oa) (mem_allNews haL (Att.noObjs_get _ _) ea)).1, ca, na, da⟩) hpos (fun i v hv h tk own F' N' => ?_) fun i v h' tk hv hbest F' N' => ?_
  · have hvm := List.mem_of_getElem? hv
    obtain ⟨t, ev⟩ := c2 v hvm
    have hlen : (S (cOf v)).length = (cOf v).length := S_length _
    have hm' : cOf v ∈ ts := by rw [← c1]; exact List.mem_map.mpr ⟨v, hvm, rfl⟩
    have ei : ts.getD i [] = cOf v := by rw [← c1, List.getD_eq_getElem?_getD, List.getElem?_map, hv]; rfl
    have := len_turn (prog := X.prog) (w := X.w) (A := X.A.in1) (s := { s1 with heap := h, toks := tk }) (x := S (cOf v)) (t := t) (by rw [hlen]; exact small (hz _ hm')) F' N'
    rw [hlen, ← ev, ← ei] at this
    exact this
  · have hvm := List.mem_of_getElem? hv
    obtain ⟨t, ev⟩ := c2 v hvm
    have hm' : cOf v ∈ ts := by rw [← c1]; exact List.mem_map.mpr ⟨v, hvm, rfl⟩
    have ei : ts.getD i [] = cOf v := by rw [← c1, List.getD_eq_getElem?_getD, List.getElem?_map, hv]; rfl
    obtain ⟨_, I2⟩ := I1.byFr (t' := tk) hn F' N'
    refine ⟨.str (S (cOf v)), H1, I2, ⟨t, ev⟩, qq _ hm' fun u hu => ?_⟩
    obtain ⟨j, hj, rfl⟩ := List.mem_iff_getElem.mp hu
    have := (hbest j (by omega)).1
    have ej : ts.getD j [] = ts[j] := by rw [List.getD_eq_getElem?_getD, List.getElem?_eq_getElem hj]; rfl
    rw [ei, ej] at this
    omega
section
variable {σ : St} {H : Hp} {Q : VK} {K : PySem.W.Frag} {te : TE}
theorem g_maxLen (h : te σ H fun x H1 => ∃ a, ∃ ts : List (List Nat), x = .ref a ∧ SqL K H1 a (ts.map fun l => V.str (S l)) ∧ ts ≠ [] ∧ (∀ t ∈ ts, t.length ≤ 1000) ∧ ∀ t, t ∈ ts → (∀ u ∈ ts, u.length ≤ t.length) → Q (.str (S t)) H1) : tMaxLen K te σ H Q := h
end
end
end L2

set_option Elab.async false
set_option linter.all false
set_option maxRecDepth 100000
set_option maxHeartbeats 4000000
/-! Wordrace: places of texts in lists. -/
namespace L2
open PySem PySem.Spec PyProof.Rows
theorem eqV_S {a b : List Nat} : eqV (V.str (S a)) (V.str (S b)) = decide (a = b) := by
  show (S a == S b) = _
  by_cases h : a = b
  · subst h; simp
  · rw [decide_eq_false h]
    exact beq_eq_false_iff_ne.mpr fun z => h (S_inj.mp z)
theorem inV_txs {t : List Nat} {ts : List (List Nat)} : inV (V.str (S t)) (ts.map fun l => V.str (S l)) = decide (t ∈ ts) := by
  unfold inV
  rw [List.any_map, Bool.eq_iff_iff, List.any_eq_true, decide_eq_true_eq]
  constructor
  · rintro ⟨u, hu, h⟩
    have h' : eqV (V.str (S u)) (V.str (S t)) = true := h
    rw [eqV_S, decide_eq_true_eq] at h'
    subst h'; exact hu
  · intro h
    refine ⟨t, h, ?_⟩
    show eqV (V.str (S t)) (V.str (S t)) = true
    rw [eqV_S]; simp
theorem flat_txs (ts : List (List Nat)) : (ts.map fun l => V.str (S l)).all flatV = true := by
  rw [List.all_eq_true]
  intro v hv
  obtain ⟨l, _, rfl⟩ := List.mem_map.mp hv
  rfl
section
variable {X : Cx} {H : Hp} {Q : VK} {K : PySem.W.Frag}
theorem g_notInT {p : Addr} {t : List Nat} {ts : List (List Nat)} (c : SqL K H p (ts.map fun l => V.str (S l))) (h : Q (.bl (!decide (t ∈ ts))) H) : rIn K true (.str (S t)) (.ref p) H Q :=
  ⟨p, _, rfl, .inl c, rfl, flat_txs ts, by rw [inV_txs]; exact h⟩
def rIdxL (K : PySem.W.Frag) : V → List V → Hp → VK → Prop := fun x vs H Q => ∃ p t, ∃ ts : List (List Nat), x = .ref p ∧ vs = [.str (S t)] ∧ SqL K H p (ts.map fun l => V.str (S l)) ∧ t ∈ ts ∧ Q (.int (ts.idxOf t : Nat)) H
theorem mt_indexL (K : PySem.W.Frag) (hK : X.K = K) : MtR X "list.index" (rIdxL K) := by
  subst hK
  intro pins s σ H x xs v us Q I rx rs h
  obtain ⟨p, t, ts, rfl, rfl, hq, hm, q⟩ := h
  cases rx
  obtain ⟨u, rfl, ru⟩ := vals1 rs
  obtain ⟨its, rv, pl, hz⟩ := I.list hq
  have hl := rv.length
  rw [List.length_map] at hl
  rw [List.length_map, sizeLine_eq] at hz
  obtain ⟨o, ho, hc, n, hd⟩ := pl.isList
  have hj : ts.idxOf t < ts.length := List.idxOf_lt_length_of_mem hm
  obtain ⟨oc, odd, odt, osl⟩ := o
  simp only at hc hd
  subst hc; subst hd
  have item : ∀ m (h1 : m < its.toArray.size) (h2 : m < ts.length), eqU (.str (S t)) its.toArray[m] = decide (ts[m] = t) := fun m h1 h2 => by
    have h3 : m < its.length := by rw [List.size_toArray] at h1; exact h1
    have e1 : its[m]? = some its.toArray[m] := by rw [List.getElem?_eq_getElem h3]; rfl
    obtain ⟨x, hx, r⟩ := vals_at rv e1
    rw [List.getElem?_map, List.getElem?_eq_getElem h2] at hx
    cases hx
    rw [eqU_of r rfl, eqV_S]
  refine call_meets PySem.F.slot_list_index ⟨_, ho, rfl⟩ PySem.F.entry_list_index (PySem.F.args_list_index_2 _ _)
    (SeqAt.list_indexAt p its.toArray n odd osl u (eqU (.str (S t))) (ts.idxOf t) (by rw [List.size_toArray]; omega) (by omega) ?_ ?_) ⟨ho, fun y hy => mem_eqAt ru rfl rv (flat_txs ts) y (by simpa using hy), ?_⟩
  · rw [item _ _ hj, List.getElem_idxOf]; simp
  · intro m h1 h2
    rw [item m h1 (by omega)]
    refine decide_eq_false fun z => ?_
    have := List.not_of_lt_findIdx (p := fun x => x == t) (xs := ts) (i := m) h2
    rw [z] at this
    simp at this
  · exact ⟨.int _, H, I.tok _, ⟨_, rfl⟩, q⟩
theorem g_idxL {p : Addr} {t : List Nat} {ts : List (List Nat)} (c : SqL K H p (ts.map fun l => V.str (S l))) (hm : t ∈ ts) (h : Q (.int (ts.idxOf t : Nat)) H) : rIdxL K (.ref p) [.str (S t)] H Q := ⟨p, t, ts, rfl, rfl, c, hm, h⟩
end
/-- an if whose ways meet again -/
theorem g_ifJ {c : TT} {t u : TS} {D : Ends} {σ : St} {H : Hp} (P : St → Hp → Prop) (hr : ∀ σ' H', P σ' H' → D.nx σ' H') (h : (∀ σ' H', P σ' H' → D.nx σ' H') → c σ H fun b H1 => if b = true then t D σ H1 else u D σ H1) : tIfS c t u D σ H := h hr
end L2

set_option linter.all false
/-! Wordrace: the mathematics of texts, beginnings and states; no library. -/
namespace Wr
abbrev Tx := List Nat
/-- a beginning of one of the words -/
def Beg (ws : List Tx) (t : Tx) : Prop := ∃ w ∈ ws, t <+: w
/-- the state of a row: the longest end of it that begins a word -/
def stF (ws : List Tx) (row : Tx) : Tx := ((List.range (row.length + 1)).findSome? fun k => if (ws.any fun w => (row.drop k).isPrefixOf w) = true then some (row.drop k) else none).getD []
theorem beg_iff {ws : List Tx} {t : Tx} : (ws.any fun w => t.isPrefixOf w) = true ↔ Beg ws t := by
  rw [List.any_eq_true]
  constructor
  · rintro ⟨w, h1, h2⟩; exact ⟨w, h1, List.isPrefixOf_iff_prefix.mp h2⟩
  · rintro ⟨w, h1, h2⟩; exact ⟨w, h1, List.isPrefixOf_iff_prefix.mpr h2⟩
theorem beg_nil {ws : List Tx} (h : ws ≠ []) : Beg ws [] := by
  cases ws with
  | nil => exact absurd rfl h
  | cons w r => exact ⟨w, List.mem_cons_self, List.nil_prefix⟩
/-- the first k that does -/
theorem find_first {α : Type} {f : Nat → Option α} : ∀ {n : Nat} {r : α}, (List.range n).findSome? f = some r → ∃ k, k < n ∧ f k = some r ∧ ∀ j, j < k → f j = none := by
  intro n
  induction n with
  | zero => intro r h; simp at h
  | succ n ih =>
    intro r h
    rw [List.range_succ, List.findSome?_append] at h
    cases e : (List.range n).findSome? f with
    | some q =>
      rw [e] at h
      cases h
      obtain ⟨k, h1, h2, h3⟩ := ih e
      exact ⟨k, by omega, h2, h3⟩
    | none =>
      rw [e] at h
      simp at h
      exact ⟨n, by omega, h, fun j hj => List.findSome?_eq_none_iff.mp e j (List.mem_range.mpr hj)⟩
theorem suf_drop {t row : Tx} (h : t <:+ row) : row.drop (row.length - t.length) = t := (List.suffix_iff_eq_drop.mp h).symm
theorem stF_spec {ws : List Tx} (hw : ws ≠ []) (row : Tx) : ∃ k, k ≤ row.length ∧ stF ws row = row.drop k ∧ Beg ws (row.drop k) ∧ ∀ j, j < k → ¬ Beg ws (row.drop j) := by
  unfold stF
  cases e : (List.range (row.length + 1)).findSome? fun k => if (ws.any fun w => (row.drop k).isPrefixOf w) = true then some (row.drop k) else none with
  | none =>
    have := List.findSome?_eq_none_iff.mp e row.length (List.mem_range.mpr (by omega))
    rw [if_pos (beg_iff.mpr (by rw [List.drop_length]; exact beg_nil hw))] at this
    cases this
  | some q =>
    obtain ⟨k, h1, h2, h3⟩ := find_first e
    by_cases hb : (ws.any fun w => (row.drop k).isPrefixOf w) = true
    · rw [if_pos hb] at h2
      cases h2
      refine ⟨k, by omega, rfl, beg_iff.mp hb, fun j hj hb' => ?_⟩
      have := h3 j hj
      rw [if_pos (beg_iff.mpr hb')] at this
      cases this
    · rw [if_neg hb] at h2; cases h2
theorem stF_suffix {ws : List Tx} (hw : ws ≠ []) (row : Tx) : stF ws row <:+ row := by
  obtain ⟨k, _, e, _⟩ := stF_spec hw row
  rw [e]; exact List.drop_suffix _ _
theorem stF_beg {ws : List Tx} (hw : ws ≠ []) (row : Tx) : Beg ws (stF ws row) := by
  obtain ⟨k, _, e, h, _⟩ := stF_spec hw row
  rw [e]; exact h
theorem stF_max {ws : List Tx} (hw : ws ≠ []) {row t : Tx} (h1 : t <:+ row) (h2 : Beg ws t) : t.length ≤ (stF ws row).length := by
  obtain ⟨k, hk, e, _, hn⟩ := stF_spec hw row
  rw [e, List.length_drop]
  have hl := h1.length_le
  rcases Nat.lt_or_ge (row.length - t.length) k with z | z
  · exact absurd (by rw [suf_drop h1]; exact h2) (hn _ z)
  · omega
theorem stF_uniq {ws : List Tx} (hw : ws ≠ []) {row s : Tx} (h1 : s <:+ row) (h2 : Beg ws s) (h3 : ∀ t, t <:+ row → Beg ws t → t.length ≤ s.length) : stF ws row = s := by
  have a := stF_max hw h1 h2
  have b := h3 _ (stF_suffix hw row) (stF_beg hw row)
  have e : (stF ws row).length = s.length := by omega
  rw [← suf_drop h1, ← suf_drop (stF_suffix hw row), e]
theorem stF_self {ws : List Tx} (hw : ws ≠ []) {s : Tx} (h : Beg ws s) : stF ws s = s :=
  stF_uniq hw List.suffix_rfl h fun _ ht _ => ht.length_le
/-- no word stands within another one -/
def Apart (ws : List Tx) : Prop := ∀ w ∈ ws, ∀ w' ∈ ws, w <:+: w' → w = w'
/-- behind a state that is no word some sign leads one sign farther -/
theorem beg_more {ws : List Tx} {s : Tx} (hb : Beg ws s) (hn : s ∉ ws) : ∃ w ∈ ws, ∃ c ∈ w, s ++ [c] <+: w := by
  obtain ⟨w, hw, p, hp⟩ := hb
  cases p with
  | nil => rw [List.append_nil] at hp; subst hp; exact absurd hw hn
  | cons c r => exact ⟨w, hw, c, by rw [← hp]; simp, r, by rw [← hp]; simp⟩
end Wr

set_option linter.all false
/-! Wordrace: rows of numbers, and how a state falls out of them. -/
namespace Wr
def dot : List Int → (Nat → Rat) → Rat
  | [], _ => 0
  | a :: r, x => (a : Rat) * x 0 + dot r (fun i => x (i + 1))
theorem dot_ext : ∀ {r : List Int} {x y : Nat → Rat}, (∀ i, i < r.length → x i = y i) → dot r x = dot r y
  | [], _, _, _ => rfl
  | a :: r, x, y, h => by
    show (a : Rat) * x 0 + dot r _ = (a : Rat) * y 0 + dot r _
    rw [h 0 (by simp), dot_ext (r := r) (x := fun i => x (i + 1)) (y := fun i => y (i + 1)) fun i hi => h (i + 1) (by simpa using hi)]
theorem dot_set : ∀ {r : List Int} {i : Nat} {v : Int} {x : Nat → Rat}, i < r.length → dot (r.set i v) x = dot r x + ((v : Rat) - (r.getD i 0 : Int)) * x i
  | [], _, _, _, h => by simp at h
  | a :: r, 0, v, x, _ => by
    show (v : Rat) * x 0 + dot r _ = (a : Rat) * x 0 + dot r _ + ((v : Rat) - (a : Int)) * x 0
    grind
  | a :: r, i + 1, v, x, h => by
    have ih := dot_set (r := r) (i := i) (v := v) (x := fun i => x (i + 1)) (by simpa using h)
    show (a : Rat) * x 0 + dot (r.set i v) _ = (a : Rat) * x 0 + dot r _ + ((v : Rat) - ((r.getD i 0 : Int) : Rat)) * x (i + 1)
    rw [ih]; grind
theorem dot_upd : ∀ {r : List Int} {i : Nat} {t : Rat} {x : Nat → Rat}, dot r (fun j => if j = i then t else x j) = dot r x + ((r.getD i 0 : Int) : Rat) * (t - x i)
  | [], i, t, x => by simp [dot]; grind
  | a :: r, 0, t, x => by
    have e : dot r (fun j => (fun j => if j = 0 then t else x j) (j + 1)) = dot r fun j => x (j + 1) := dot_ext fun j _ => by simp
    show (a : Rat) * (if 0 = 0 then t else x 0) + dot r (fun j => (fun j => if j = 0 then t else x j) (j + 1)) = (a : Rat) * x 0 + dot r (fun j => x (j + 1)) + (a : Rat) * (t - x 0)
    rw [e]
    simp
    grind
  | a :: r, i + 1, t, x => by
    have ih := dot_upd (r := r) (i := i) (t := t) (x := fun j => x (j + 1))
    have e : dot r (fun j => (fun j => if j = i + 1 then t else x j) (j + 1)) = dot r (fun j => if j = i then t else x (j + 1)) := dot_ext fun j _ => by
      by_cases h : j = i <;> simp [h]
    show (a : Rat) * (if 0 = i + 1 then t else x 0) + dot r (fun j => (fun j => if j = i + 1 then t else x j) (j + 1)) = (a : Rat) * x 0 + dot r (fun j => x (j + 1)) + ((r.getD i 0 : Int) : Rat) * (t - x (i + 1))
    rw [e, ih]
    simp
    grind
def comb (p e : Int) (r q : List Int) : List Int := List.zipWith (fun own oth => own * p - oth * e) r q
theorem dot_comb {p e : Int} : ∀ {r q : List Int} {x : Nat → Rat}, r.length = q.length → dot (comb p e r q) x = (p : Rat) * dot r x - (e : Rat) * dot q x
  | [], [], x, _ => by simp [comb, dot]; grind
  | [], _ :: _, _, h => by simp at h
  | _ :: _, [], _, h => by simp at h
  | a :: r, b :: q, x, h => by
    have ih := dot_comb (p := p) (e := e) (r := r) (q := q) (x := fun i => x (i + 1)) (by simpa using h)
    show ((a * p - b * e : Int) : Rat) * x 0 + dot (comb p e r q) _ = (p : Rat) * ((a : Rat) * x 0 + dot r _) - (e : Rat) * ((b : Rat) * x 0 + dot q _)
    rw [ih, Rat.intCast_sub, Rat.intCast_mul, Rat.intCast_mul]
    grind
theorem comb_len {p e : Int} {r q : List Int} (h : r.length = q.length) : (comb p e r q).length = r.length := by
  unfold comb; rw [List.length_zipWith]; omega
theorem comb_at {p e : Int} : ∀ {r q : List Int} (j : Nat), r.length = q.length → (comb p e r q).getD j 0 = r.getD j 0 * p - q.getD j 0 * e
  | [], [], j, _ => by simp [comb]
  | [], _ :: _, _, h => by simp at h
  | _ :: _, [], _, h => by simp at h
  | a :: r, b :: q, 0, h => by simp [comb]
  | a :: r, b :: q, j + 1, h => by
    have ih := comb_at (p := p) (e := e) (r := r) (q := q) j (by simpa using h)
    simpa [comb] using ih
theorem dot_map_div {g : Int} (hg : g ≠ 0) : ∀ {r : List Int} {x : Nat → Rat}, (∀ a ∈ r, g ∣ a) → (g : Rat) * dot (r.map (· / g)) x = dot r x
  | [], x, _ => by simp [dot]
  | a :: r, x, h => by
    have ih := dot_map_div hg (r := r) (x := fun i => x (i + 1)) fun b hb => h b (List.mem_cons_of_mem _ hb)
    have ea : g * (a / g) = a := Int.mul_ediv_cancel' (h a List.mem_cons_self)
    have ea' : (g : Rat) * ((a / g : Int) : Rat) = (a : Rat) := by rw [← Rat.intCast_mul, ea]
    show (g : Rat) * (((a / g : Int) : Rat) * x 0 + dot (r.map (· / g)) _) = (a : Rat) * x 0 + dot r _
    grind
theorem dot_append : ∀ {r : List Int} {c : Int} {x : Nat → Rat}, dot (r ++ [c]) x = dot r x + (c : Rat) * x r.length
  | [], c, x => by simp [dot]; grind
  | a :: r, c, x => by
    have ih := dot_append (r := r) (c := c) (x := fun i => x (i + 1))
    show (a : Rat) * x 0 + dot (r ++ [c]) _ = (a : Rat) * x 0 + dot r _ + (c : Rat) * x (r.length + 1)
    rw [ih]; grind
theorem dot_zeros : ∀ {n : Nat} {x : Nat → Rat}, dot (List.replicate n 0) x = 0
  | 0, _ => rfl
  | n + 1, x => by
    show ((0 : Int) : Rat) * x 0 + dot (List.replicate n 0) _ = 0
    rw [dot_zeros]; simp; grind
theorem dot_nonpos : ∀ {r : List Int} {x : Nat → Rat}, (∀ j, ((r.getD j 0 : Int) : Rat) * x j ≤ 0) → dot r x ≤ 0
  | [], _, _ => by simp [dot]
  | a :: r, x, h => by
    have ih := dot_nonpos (r := r) (x := fun i => x (i + 1)) fun j => by simpa using h (j + 1)
    have h0 : (a : Rat) * x 0 ≤ 0 := by simpa using h 0
    show (a : Rat) * x 0 + dot r _ ≤ 0
    grind
/-- all but one of the products are at most nought -/
theorem dot_le_at {r : List Int} {x : Nat → Rat} {i : Nat} (h : ∀ j, j ≠ i → ((r.getD j 0 : Int) : Rat) * x j ≤ 0) : dot r x ≤ ((r.getD i 0 : Int) : Rat) * x i := by
  have e := dot_upd (r := r) (i := i) (t := 0) (x := x)
  have n := dot_nonpos (r := r) (x := fun j => if j = i then 0 else x j) fun j => by
    by_cases hj : j = i
    · simp [hj]
    · simpa [hj] using h j hj
  grind
/-- only one of the numbers is not nought, but for those where x is told -/
theorem dot_at {r : List Int} {x : Nat → Rat} {i : Nat} (h : ∀ j, j ≠ i → ((r.getD j 0 : Int) : Rat) * x j = 0) : dot r x = ((r.getD i 0 : Int) : Rat) * x i := by
  have a := dot_le_at (r := r) (x := x) (i := i) fun j hj => by rw [h j hj]; exact Rat.le_refl
  have b := dot_le_at (r := r) (x := fun j => - x j) (i := i) fun j hj => by have := h j hj; grind
  have e : ∀ (r : List Int) (x : Nat → Rat), dot r (fun j => - x j) = - dot r x := by
    intro r
    induction r with
    | nil => intro x; simp [dot]
    | cons a r ih =>
      intro x
      show (a : Rat) * (- x 0) + dot r (fun j => - x (j + 1)) = - ((a : Rat) * x 0 + dot r _)
      rw [ih fun j => x (j + 1)]; grind
  rw [e] at b
  grind
/-- a state's row: its own number may be above nought, the others are not; weighed by v it is above nought -/
structure Good (N : Nat) (v : Nat → Rat) (i : Nat) (r : List Int) : Prop where
  len : r.length = N
  off : ∀ j, j ≠ i → r.getD j 0 ≤ 0
  pot : 0 < dot r v
theorem cast_le {a : Int} (h : a ≤ 0) : (a : Rat) ≤ 0 := by
  have := Rat.intCast_le_intCast.mpr h
  simpa using this
theorem cast_lt {a : Int} (h : 0 < a) : (0 : Rat) < (a : Rat) := by
  have := Rat.intCast_lt_intCast.mpr h
  simpa using this
theorem Good.own {N : Nat} {v : Nat → Rat} {i : Nat} {r : List Int} (hv : ∀ j, 0 ≤ v j) (g : Good N v i r) : 0 < r.getD i 0 := by
  have h := dot_le_at (r := r) (x := v) (i := i) fun j hj => by
    have a := cast_le (g.off j hj)
    have b := hv j
    have := Rat.mul_nonneg (a := -((r.getD j 0 : Int) : Rat)) (b := v j) (by grind) b
    grind
  have p := g.pot
  rcases Int.lt_or_le 0 (r.getD i 0) with z | z
  · exact z
  · have a := cast_le z
    have b := hv i
    have := Rat.mul_nonneg (a := -((r.getD i 0 : Int) : Rat)) (b := v i) (by grind) b
    grind
/-- one state freed of another one -/
theorem Good.comb {N : Nat} {v : Nat → Rat} {i p : Nat} {r q : List Int} (hv : ∀ j, 0 ≤ v j) (hr : Good N v i r) (hq : Good N v p q) (hne : p ≠ i) : Good N v i (comb (q.getD p 0) (r.getD p 0) r q) ∧ (Wr.comb (q.getD p 0) (r.getD p 0) r q).getD p 0 = 0 := by
  have hl : r.length = q.length := by rw [hr.len, hq.len]
  have o := hq.own hv
  have rp := hr.off p hne
  refine ⟨⟨by rw [comb_len hl, hr.len], fun j hj => ?_, ?_⟩, ?_⟩
  · rw [comb_at j hl]
    by_cases hjp : j = p
    · subst hjp
      have : r.getD j 0 * q.getD j 0 - q.getD j 0 * r.getD j 0 = 0 := by rw [Int.mul_comm]; omega
      omega
    · have a := hr.off j hj
      have b := hq.off j hjp
      have c1 : r.getD j 0 * q.getD p 0 ≤ 0 := Int.mul_nonpos_of_nonpos_of_nonneg a (by omega)
      have c2 : 0 ≤ q.getD j 0 * r.getD p 0 := Int.mul_nonneg_of_nonpos_of_nonpos b rp
      omega
  · rw [dot_comb hl]
    have a := Rat.mul_pos (cast_lt o) hr.pot
    have b := Rat.mul_nonneg (a := -((r.getD p 0 : Int) : Rat)) (b := dot q v) (by have := cast_le rp; grind) (Rat.le_of_lt hq.pot)
    grind
  · rw [comb_at p hl, Int.mul_comm]; omega
/-- every system of such rows has a solution, whatever stands elsewhere -/
theorem exists_sol {N : Nat} {v : Nat → Rat} (hv : ∀ j, 0 ≤ v j) : ∀ (n : Nat) (L : List (Nat × List Int)), L.length = n → (L.map (·.1)).Nodup → (∀ e ∈ L, Good N v e.1 e.2) → ∀ y : Nat → Rat, ∃ x : Nat → Rat, (∀ j, j ∉ L.map (·.1) → x j = y j) ∧ ∀ e ∈ L, dot e.2 x = 0
  | 0, L, hl, _, _, y => by
    have : L = [] := List.eq_nil_of_length_eq_zero hl
    subst this
    exact ⟨y, fun _ _ => rfl, by simp⟩
  | n + 1, [], hl, _, _, _ => by simp at hl
  | n + 1, (u, r) :: L, hl, nd, hg, y => by
    have nd' : u ∉ L.map (·.1) ∧ (L.map (·.1)).Nodup := by simpa using nd
    have gu := hg (u, r) List.mem_cons_self
    have ou := gu.own hv
    have ne : ∀ e ∈ L, u ≠ e.1 := fun e he z => nd'.1 (List.mem_map.mpr ⟨e, he, z.symm⟩)
    let L' := L.map fun e => (e.1, comb (r.getD u 0) (e.2.getD u 0) e.2 r)
    have hk : L'.map (·.1) = L.map (·.1) := by simp [L']
    have hg' : ∀ e ∈ L', Good N v e.1 e.2 := fun e he => by
      obtain ⟨f, hf, rfl⟩ := List.mem_map.mp he
      exact ((hg f (List.mem_cons_of_mem _ hf)).comb hv gu (ne f hf)).1
    obtain ⟨x', h1, h2⟩ := exists_sol hv n L' (by simpa [L'] using hl) (by rw [hk]; exact nd'.2) hg' y
    have ru : ((r.getD u 0 : Int) : Rat) ≠ 0 := fun z => by have := cast_lt ou; grind
    let t : Rat := x' u - dot r x' / ((r.getD u 0 : Int) : Rat)
    refine ⟨fun j => if j = u then t else x' j, fun j hj => ?_, fun e he => ?_⟩
    · have hj' : j ≠ u ∧ j ∉ L.map (·.1) := by simpa using hj
      show (if j = u then t else x' j) = y j
      rw [if_neg hj'.1]
      exact h1 j (by rw [hk]; exact hj'.2)
    · have hr : dot r (fun j => if j = u then t else x' j) = 0 := by
        rw [dot_upd]
        show dot r x' + ((r.getD u 0 : Int) : Rat) * (x' u - dot r x' / ((r.getD u 0 : Int) : Rat) - x' u) = 0
        grind
      rcases List.mem_cons.mp he with z | z
      · subst z; exact hr
      · have hl' : e.2.length = r.length := by rw [(hg e he).len, gu.len]
        have c := h2 (e.1, comb (r.getD u 0) (e.2.getD u 0) e.2 r) (List.mem_map.mpr ⟨e, z, rfl⟩)
        have c' : dot (comb (r.getD u 0) (e.2.getD u 0) e.2 r) x' = 0 := c
        have z0 := ((hg e he).comb hv gu (ne e z)).2
        have d : dot (comb (r.getD u 0) (e.2.getD u 0) e.2 r) (fun j => if j = u then t else x' j) = 0 := by
          rw [dot_upd, c', z0]; simp; grind
        rw [dot_comb hl', hr] at d
        have : ((r.getD u 0 : Int) : Rat) * dot e.2 (fun j => if j = u then t else x' j) = 0 := by grind
        grind
/-! ### the common factor -/
def gcdL (l : List Int) : Nat := l.foldl (fun g a => Nat.gcd g a.natAbs) 0
theorem gcd_fold_dvd : ∀ (l : List Int) (g : Nat), (l.foldl (fun g a => Nat.gcd g a.natAbs) g) ∣ g ∧ ∀ a ∈ l, ((l.foldl (fun g a => Nat.gcd g a.natAbs) g : Nat) : Int) ∣ a
  | [], g => ⟨Nat.dvd_refl _, by simp⟩
  | a :: l, g => by
    obtain ⟨h1, h2⟩ := gcd_fold_dvd l (Nat.gcd g a.natAbs)
    rw [List.foldl_cons]
    refine ⟨Nat.dvd_trans h1 (Nat.gcd_dvd_left _ _), fun b hb => ?_⟩
    rcases List.mem_cons.mp hb with z | z
    · subst z
      exact Int.ofNat_dvd_left.mpr (Nat.dvd_trans h1 (Nat.gcd_dvd_right _ _))
    · exact h2 b z
theorem gcdL_dvd {l : List Int} {a : Int} (h : a ∈ l) : ((gcdL l : Nat) : Int) ∣ a := (gcd_fold_dvd l 0).2 a h
theorem gcdL_pos {l : List Int} {a : Int} (h : a ∈ l) (ha : a ≠ 0) : 0 < gcdL l := by
  rcases Nat.eq_zero_or_pos (gcdL l) with z | z
  · have := gcdL_dvd h
    rw [z] at this
    exact absurd (Int.zero_dvd.mp this) ha
  · exact z
theorem mem_getD {l : List Int} {j : Nat} (h : l.getD j 0 ≠ 0) : l.getD j 0 ∈ l := by
  by_cases hj : j < l.length
  · rw [List.getD_eq_getElem?_getD, List.getElem?_eq_getElem hj]; exact List.getElem_mem hj
  · rw [List.getD_eq_getElem?_getD, List.getElem?_eq_none_iff.mpr (by omega)] at h; simp at h
/-- what freed_of tells -/
def freedF (p : Nat) (used eq : List Int) : List Int :=
  (comb (used.getD p 0) (eq.getD p 0) eq used).map fun a => a / (gcdL (comb (used.getD p 0) (eq.getD p 0) eq used) : Nat)
theorem map_getD (l : List Int) (g : Int) (j : Nat) : (l.map (· / g)).getD j 0 = l.getD j 0 / g := by
  simp only [List.getD_eq_getElem?_getD, List.getElem?_map]
  cases l[j]? <;> simp
theorem freedF_pos {N : Nat} {v : Nat → Rat} {i p : Nat} {r q : List Int} (hv : ∀ j, 0 ≤ v j) (hr : Good N v i r) (hq : Good N v p q) (hne : p ≠ i) : 0 < gcdL (comb (q.getD p 0) (r.getD p 0) r q) := by
  have g := (hr.comb hv hq hne).1
  have o := g.own hv
  exact gcdL_pos (a := (Wr.comb (q.getD p 0) (r.getD p 0) r q).getD i 0) (mem_getD (by omega)) (by omega)
theorem freedF_ok {N : Nat} {v : Nat → Rat} {i p : Nat} {r q : List Int} (hv : ∀ j, 0 ≤ v j) (hr : Good N v i r) (hq : Good N v p q) (hne : p ≠ i) :
    Good N v i (freedF p q r) ∧ (freedF p q r).getD p 0 = 0 ∧ (∀ j, r.getD j 0 = 0 → q.getD j 0 = 0 → (freedF p q r).getD j 0 = 0) ∧ ∀ x : Nat → Rat, dot r x = 0 → dot q x = 0 → dot (freedF p q r) x = 0 := by
  have hl : r.length = q.length := by rw [hr.len, hq.len]
  obtain ⟨g, z⟩ := hr.comb hv hq hne
  have hp := freedF_pos hv hr hq hne
  have hp' : (0 : Int) < ((gcdL (comb (q.getD p 0) (r.getD p 0) r q) : Nat) : Int) := by omega
  have hd : ∀ a ∈ comb (q.getD p 0) (r.getD p 0) r q, ((gcdL (comb (q.getD p 0) (r.getD p 0) r q) : Nat) : Int) ∣ a := fun a ha => gcdL_dvd ha
  have hs := fun x : Nat → Rat => dot_map_div (g := ((gcdL (comb (q.getD p 0) (r.getD p 0) r q) : Nat) : Int)) (by omega) (x := x) hd
  have hc := cast_lt hp'
  unfold freedF
  generalize ((gcdL (comb (q.getD p 0) (r.getD p 0) r q) : Nat) : Int) = G at *
  refine ⟨⟨by rw [List.length_map]; exact g.len, fun j hj => ?_, ?_⟩, ?_, fun j h1 h2 => ?_, fun x h1 h2 => ?_⟩
  · have := g.off j hj
    rw [map_getD]
    exact Int.ediv_nonpos_of_nonpos_of_neg this hp'
  · have h1 := hs v
    have h2 := g.pot
    refine Rat.not_le.mp (fun z => ?_)
    · have := Rat.mul_nonneg (a := (G : Rat)) (b := - dot ((comb (q.getD p 0) (r.getD p 0) r q).map (· / G)) v) (Rat.le_of_lt hc) (by grind)
      grind
  · rw [map_getD, z]; simp
  · rw [map_getD, comb_at j hl, h1, h2]; simp
  · have h3 := hs x
    rw [dot_comb hl, h1, h2] at h3
    have : (G : Rat) ≠ 0 := fun z => by grind
    grind
end Wr

set_option linter.all false
namespace My
def abcd : List Nat := [97, 98, 99, 100]
structure DieOk (ns : List Int) : Prop where
  lo : 2 ≤ ns.length
  hi : ns.length ≤ 4
  w : ∀ n ∈ ns, 1 ≤ n ∧ n ≤ 9
structure WordOk (n : Nat) (l : List Nat) : Prop where
  lo : 1 ≤ l.length
  hi : l.length ≤ 6
  s : ∀ c ∈ l, c ∈ abcd.take n
end My
/-! Wordrace: point 10's sums over the states of a race. -/
namespace Wr
open My
/-- the signs with their weights -/
def prs (dn : List Int) : List (Nat × Int) := (abcd.take dn.length).zip dn
theorem sum_int_bounds : ∀ {l : List Int} {a b : Int}, (∀ n ∈ l, a ≤ n ∧ n ≤ b) → a * l.length ≤ l.sum ∧ l.sum ≤ b * l.length
  | [], a, b, _ => by simp
  | n :: l, a, b, h => by
    have ih := sum_int_bounds (l := l) (a := a) (b := b) fun m hm => h m (List.mem_cons_of_mem _ hm)
    have h0 := h n List.mem_cons_self
    simp only [List.sum_cons, List.length_cons, Int.natCast_add, Int.mul_add]
    omega
theorem die_sum {dn : List Int} (h : DieOk dn) : 2 ≤ dn.sum ∧ dn.sum ≤ 36 := by
  have := sum_int_bounds (l := dn) (a := 1) (b := 9) h.w
  have h1 := h.lo
  have h2 := h.hi
  omega
theorem prs_sum {dn : List Int} (h : DieOk dn) : ((prs dn).map (·.2)).sum = dn.sum := by
  unfold prs
  rw [List.map_snd_zip]
  rw [List.length_take]
  have h2 := h.hi
  have : abcd.length = 4 := rfl
  omega
theorem prs_mem {dn : List Int} {c : Nat} {w : Int} (h : (c, w) ∈ prs dn) : c ∈ abcd.take dn.length ∧ w ∈ dn := ⟨(List.of_mem_zip h).1, (List.of_mem_zip h).2⟩
theorem prs_has {dn : List Int} (h : DieOk dn) {c : Nat} (hc : c ∈ abcd.take dn.length) : ∃ w, (c, w) ∈ prs dn := by
  obtain ⟨i, hi, e⟩ := List.mem_iff_getElem.mp hc
  have hd : i < dn.length := by rw [List.length_take] at hi; omega
  refine ⟨dn[i], ?_⟩
  unfold prs
  rw [List.mem_iff_getElem]
  exact ⟨i, by rw [List.length_zip]; omega, by rw [List.getElem_zip, e]⟩
/-- the sum over the signs of the weight times what f tells -/
def avg (dn : List Int) (f : Nat → Rat) : Rat := ((prs dn).map fun p => (p.2 : Rat) * f p.1).sum
/-- X satisfies point 10's sums, c throws counted a throw -/
def Solves (dn : List Int) (ws : List Tx) (c : Rat) (X : Tx → Rat) : Prop :=
  ∀ s, Beg ws s → s ∉ ws → (dn.sum : Rat) * X s = avg dn (fun g => X (stF ws (s ++ [g]))) + (dn.sum : Rat) * c
/-- the list of beginnings: each once -/
structure BegL (ws bs : List Tx) : Prop where
  nd : bs.Nodup
  mem : ∀ t, t ∈ bs ↔ Beg ws t
def eqFold (ws bs : List Tx) (s : Tx) (l : List (Nat × Int)) (r : List Int) : List Int :=
  l.foldl (fun r p => r.set (bs.idxOf (stF ws (s ++ [p.1]))) (r.getD (bs.idxOf (stF ws (s ++ [p.1]))) 0 - p.2)) r
def eqRow (dn : List Int) (ws bs : List Tx) (s : Tx) : List Int := eqFold ws bs s (prs dn) ((List.replicate bs.length 0).set (bs.idxOf s) dn.sum) ++ [-dn.sum]
theorem idx_lt {bs : List Tx} {t : Tx} (h : t ∈ bs) : bs.idxOf t < bs.length := List.idxOf_lt_length_of_mem h
theorem idx_get {bs : List Tx} {t : Tx} (h : t ∈ bs) : bs[bs.idxOf t]? = some t := by
  rw [List.getElem?_eq_getElem (idx_lt h), List.getElem_idxOf]
theorem idx_inj {bs : List Tx} {t u : Tx} (h : t ∈ bs) (h' : u ∈ bs) (e : bs.idxOf t = bs.idxOf u) : t = u := by
  have a := idx_get h
  rw [e, idx_get h'] at a
  exact (Option.some.inj a).symm
theorem eqFold_len {ws bs : List Tx} {s : Tx} : ∀ {l : List (Nat × Int)} {r : List Int}, (eqFold ws bs s l r).length = r.length
  | [], _ => rfl
  | p :: l, r => by
    show (eqFold ws bs s l (r.set _ _)).length = _
    rw [eqFold_len, List.length_set]
theorem eqFold_dot {ws bs : List Tx} {s : Tx} (hb : ∀ g, stF ws (s ++ [g]) ∈ bs) : ∀ {l : List (Nat × Int)} {r : List Int} {x : Nat → Rat}, r.length = bs.length →
    dot (eqFold ws bs s l r) x = dot r x - (l.map fun p => (p.2 : Rat) * x (bs.idxOf (stF ws (s ++ [p.1])))).sum
  | [], r, x, _ => by simp [eqFold]; grind
  | p :: l, r, x, hl => by
    have ih := eqFold_dot hb (l := l) (r := r.set (bs.idxOf (stF ws (s ++ [p.1]))) (r.getD (bs.idxOf (stF ws (s ++ [p.1]))) 0 - p.2)) (x := x) (by rw [List.length_set, hl])
    show dot (eqFold ws bs s l (r.set _ _)) x = _
    rw [ih, dot_set (by rw [hl]; exact idx_lt (hb _)), Rat.intCast_sub, List.map_cons, List.sum_cons]
    grind
theorem eqRow_len {dn : List Int} {ws bs : List Tx} {s : Tx} : (eqRow dn ws bs s).length = bs.length + 1 := by
  unfold eqRow
  rw [List.length_append, eqFold_len, List.length_set, List.length_replicate]
  rfl
theorem eqRow_dot {dn : List Int} {ws bs : List Tx} {s : Tx} (B : BegL ws bs) (hne : ws ≠ []) (hs : s ∈ bs) (x : Nat → Rat) :
    dot (eqRow dn ws bs s) x = (dn.sum : Rat) * x (bs.idxOf s) - avg dn (fun g => x (bs.idxOf (stF ws (s ++ [g])))) - (dn.sum : Rat) * x bs.length := by
  unfold eqRow
  rw [dot_append, eqFold_dot (fun g => (B.mem _).mpr (stF_beg hne _)) (by simp), dot_set (by simp; exact idx_lt hs), dot_zeros, eqFold_len, List.length_set, List.length_replicate]
  have z : (List.replicate bs.length (0 : Int)).getD (bs.idxOf s) 0 = 0 := by
    simp only [List.getD_eq_getElem?_getD, List.getElem?_replicate]
    split <;> rfl
  rw [z, Rat.intCast_neg]
  unfold avg
  have : ((0 : Int) : Rat) = 0 := rfl
  grind
theorem getD_set (r : List Int) (i j : Nat) (v : Int) : (r.set i v).getD j 0 = if i = j ∧ i < r.length then v else r.getD j 0 := by
  simp only [List.getD_eq_getElem?_getD, List.getElem?_set]
  by_cases h : i = j
  · subst h
    by_cases hl : i < r.length
    · simp [hl]
    · simp [hl]
  · simp [h]
theorem eqFold_off {ws bs : List Tx} {s : Tx} {i : Nat} : ∀ {l : List (Nat × Int)} {r : List Int}, (∀ p ∈ l, 0 ≤ p.2) → (∀ j, j ≠ i → r.getD j 0 ≤ 0) → ∀ j, j ≠ i → (eqFold ws bs s l r).getD j 0 ≤ 0
  | [], r, _, h => h
  | p :: l, r, hp, h => by
    refine eqFold_off (l := l) (r := r.set _ _) (fun q hq => hp q (List.mem_cons_of_mem _ hq)) fun j hj => ?_
    rw [getD_set]
    have h0 := hp p List.mem_cons_self
    have h1 := h j hj
    by_cases e : bs.idxOf (stF ws (s ++ [p.1])) = j ∧ bs.idxOf (stF ws (s ++ [p.1])) < r.length
    · rw [if_pos e, e.1]; omega
    · rw [if_neg e]; exact h1
theorem eqRow_off {dn : List Int} {ws bs : List Tx} {s : Tx} (hd : DieOk dn) (hs : s ∈ bs) : ∀ j, j ≠ bs.idxOf s → (eqRow dn ws bs s).getD j 0 ≤ 0 := by
  intro j hj
  have hS := die_sum hd
  unfold eqRow
  have hl : (eqFold ws bs s (prs dn) ((List.replicate bs.length 0).set (bs.idxOf s) dn.sum)).length = bs.length := by rw [eqFold_len, List.length_set, List.length_replicate]
  have off := eqFold_off (ws := ws) (bs := bs) (s := s) (i := bs.idxOf s) (l := prs dn) (r := (List.replicate bs.length 0).set (bs.idxOf s) dn.sum) (fun p hp => by
    have := (hd.w p.2 (prs_mem (c := p.1) (w := p.2) hp).2).1; omega) (fun j hj => by
    rw [getD_set, if_neg (fun z => hj z.1.symm)]
    simp only [List.getD_eq_getElem?_getD, List.getElem?_replicate]
    split <;> simp) j hj
  rcases Nat.lt_trichotomy j bs.length with z | z | z
  · rw [List.getD_eq_getElem?_getD, List.getElem?_append_left (by omega), ← List.getD_eq_getElem?_getD]; exact off
  · rw [List.getD_eq_getElem?_getD, List.getElem?_append_right (by omega), hl, z]; simp; omega
  · rw [List.getD_eq_getElem?_getD, List.getElem?_append_right (by omega), hl, List.getElem?_eq_none_iff.mpr (by simp; omega)]; simp
/-! ### a weight for each state that falls along every way -/
def vq (ws : List Tx) (t : Tx) : Rat := if t ∈ ws then 0 else 37 ^ 6 - 37 ^ t.length
def vI (ws bs : List Tx) (j : Nat) : Rat := match bs[j]? with | some t => vq ws t | none => 0
structure Race (n : Nat) (ws : List Tx) : Prop where
  lo : 1 ≤ ws.length
  hi : ws.length ≤ 4
  w : ∀ l ∈ ws, WordOk n l
  nd : ws.Nodup
  apart : Apart ws
theorem Race.ne {n : Nat} {ws : List Tx} (R : Race n ws) : ws ≠ [] := by intro z; subst z; have := R.lo; simp at this
theorem Race.len {n : Nat} {ws : List Tx} (R : Race n ws) {t : Tx} (h : Beg ws t) : t.length ≤ 6 := by
  obtain ⟨w, hw, p⟩ := h
  have := (R.w w hw).hi
  have := p.length_le
  omega
theorem Race.len5 {n : Nat} {ws : List Tx} (R : Race n ws) {t : Tx} (h : Beg ws t) (hn : t ∉ ws) : t.length ≤ 5 := by
  obtain ⟨w, hw, c, hc, p⟩ := beg_more h hn
  have := (R.w w hw).hi
  have := p.length_le
  simp at this
  omega
theorem pow_le {a b : Nat} (h : a ≤ b) : (37 : Rat) ^ a ≤ 37 ^ b := by
  have : ((37 ^ a : Nat) : Rat) ≤ ((37 ^ b : Nat) : Rat) := Rat.natCast_le_natCast.mpr (Nat.pow_le_pow_right (by decide) h)
  simpa using this
theorem pow_ge_one (a : Nat) : (1 : Rat) ≤ 37 ^ a := by
  have := pow_le (Nat.zero_le a)
  simpa using this
theorem vq_nonneg {n : Nat} {ws : List Tx} (R : Race n ws) {t : Tx} (h : Beg ws t) : 0 ≤ vq ws t := by
  unfold vq
  by_cases hw : t ∈ ws
  · rw [if_pos hw]; exact Rat.le_refl
  · rw [if_neg hw]
    have := pow_le (R.len h)
    grind
theorem vq_le {ws : List Tx} (t : Tx) : vq ws t ≤ 37 ^ 6 - 1 := by
  unfold vq
  have h1 := pow_ge_one t.length
  by_cases hw : t ∈ ws
  · rw [if_pos hw]; have := pow_ge_one 6; grind
  · rw [if_neg hw]; grind
theorem vI_nonneg {n : Nat} {ws bs : List Tx} (R : Race n ws) (B : BegL ws bs) (j : Nat) : 0 ≤ vI ws bs j := by
  unfold vI
  cases e : bs[j]? with
  | none => exact Rat.le_refl
  | some t => exact vq_nonneg R ((B.mem t).mp (List.mem_of_getElem? e))
theorem vI_idx {ws bs : List Tx} {t : Tx} (h : t ∈ bs) : vI ws bs (bs.idxOf t) = vq ws t := by
  unfold vI
  rw [idx_get h]
theorem sum_le_of : ∀ {l : List (Nat × Int)} {f : Nat → Rat} {M : Rat}, (∀ p ∈ l, 1 ≤ p.2) → (∀ g, f g ≤ M) → (l.map fun p => (p.2 : Rat) * f p.1).sum ≤ ((l.map (·.2)).sum : Int) * M
  | [], f, M, _, _ => by simp
  | p :: l, f, M, h, hf => by
    have ih := sum_le_of (l := l) (f := f) (M := M) (fun q hq => h q (List.mem_cons_of_mem _ hq)) hf
    have h0 : (0 : Rat) ≤ (p.2 : Rat) := by
      have := Rat.intCast_le_intCast.mpr (show (0 : Int) ≤ p.2 by have := h p List.mem_cons_self; omega)
      simpa using this
    have := Rat.mul_nonneg h0 (show 0 ≤ M - f p.1 by have := hf p.1; grind)
    simp only [List.map_cons, List.sum_cons, Rat.intCast_add]
    grind
theorem sum_le_of1 : ∀ {l : List (Nat × Int)} {f : Nat → Rat} {M m : Rat} {c : Nat} {w : Int}, (∀ p ∈ l, 1 ≤ p.2) → (∀ g, f g ≤ M) → (c, w) ∈ l → f c ≤ m → m ≤ M → (l.map fun p => (p.2 : Rat) * f p.1).sum ≤ ((l.map (·.2)).sum : Int) * M - (M - m)
  | [], f, M, m, c, w, _, _, h, _, _ => by simp at h
  | p :: l, f, M, m, c, w, h, hf, hc, hm, hM => by
    have h1 : (1 : Rat) ≤ (p.2 : Rat) := by
      have := Rat.intCast_le_intCast.mpr (h p List.mem_cons_self)
      simpa using this
    rcases List.mem_cons.mp hc with z | z
    · subst z
      have ih := sum_le_of (l := l) (f := f) (M := M) (fun q hq => h q (List.mem_cons_of_mem _ hq)) hf
      have a := Rat.mul_nonneg (show 0 ≤ (w : Rat) - 1 by have : (1 : Rat) ≤ (w : Rat) := h1; grind) (show 0 ≤ M - f c by have := hf c; grind)
      simp only [List.map_cons, List.sum_cons, Rat.intCast_add]
      grind
    · have ih := sum_le_of1 (l := l) (f := f) (M := M) (m := m) (c := c) (w := w) (fun q hq => h q (List.mem_cons_of_mem _ hq)) hf z hm hM
      have a := Rat.mul_nonneg (show 0 ≤ (p.2 : Rat) by grind) (show 0 ≤ M - f p.1 by have := hf p.1; grind)
      simp only [List.map_cons, List.sum_cons, Rat.intCast_add]
      grind
/-- the sum falls behind every state that is no word -/
theorem vq_falls {dn : List Int} {ws : List Tx} {s : Tx} (hd : DieOk dn) (R : Race dn.length ws) (hb : Beg ws s) (hn : s ∉ ws) : 0 < (dn.sum : Rat) * vq ws s - avg dn (fun g => vq ws (stF ws (s ++ [g]))) := by
  obtain ⟨w, hw, c, hc, hp⟩ := beg_more hb hn
  have hS := die_sum hd
  have hcs := (R.w w hw).s c hc
  obtain ⟨q, hq⟩ := prs_has hd hcs
  have l5 := R.len5 hb hn
  have hB : Beg ws (s ++ [c]) := ⟨w, hw, hp⟩
  have e : stF ws (s ++ [c]) = s ++ [c] := stF_self R.ne hB
  have pm : (37 : Rat) ^ (s.length + 1) = 37 ^ s.length * 37 := Rat.pow_succ ..
  have h6 := pow_le (show s.length + 1 ≤ 6 by omega)
  have h1 := pow_ge_one s.length
  have hm : vq ws (stF ws (s ++ [c])) ≤ 37 ^ 6 - 37 ^ s.length * 37 := by
    rw [e]
    unfold vq
    by_cases z : s ++ [c] ∈ ws
    · rw [if_pos z]; grind
    · rw [if_neg z, List.length_append, List.length_singleton]; grind
  have key := sum_le_of1 (l := prs dn) (f := fun g => vq ws (stF ws (s ++ [g]))) (M := 37 ^ 6 - 1) (m := 37 ^ 6 - 37 ^ s.length * 37) (fun p hp => (hd.w p.2 (prs_mem (c := p.1) (w := p.2) hp).2).1) (fun g => vq_le _) hq hm (by grind)
  rw [prs_sum hd] at key
  have ev : vq ws s = 37 ^ 6 - 37 ^ s.length := by unfold vq; rw [if_neg hn]
  rw [ev]
  have hT : (dn.sum : Rat) ≤ 36 := by
    have := Rat.intCast_le_intCast.mpr hS.2
    simpa using this
  have := Rat.mul_nonneg (show 0 ≤ 36 - (dn.sum : Rat) by grind) (show 0 ≤ (37 : Rat) ^ s.length - 1 by grind)
  unfold avg
  grind
theorem eqRow_good {dn : List Int} {ws bs : List Tx} {s : Tx} (hd : DieOk dn) (R : Race dn.length ws) (B : BegL ws bs) (hb : Beg ws s) (hn : s ∉ ws) : Good (bs.length + 1) (vI ws bs) (bs.idxOf s) (eqRow dn ws bs s) := by
  have hs := (B.mem s).mpr hb
  refine ⟨eqRow_len, eqRow_off hd hs, ?_⟩
  rw [eqRow_dot B R.ne hs]
  have e1 : (fun g => vI ws bs (bs.idxOf (stF ws (s ++ [g])))) = fun g => vq ws (stF ws (s ++ [g])) := by
    funext g; exact vI_idx ((B.mem _).mpr (stF_beg R.ne _))
  have e2 : vI ws bs bs.length = 0 := by unfold vI; simp
  rw [e1, e2, vI_idx hs]
  have := vq_falls hd R hb hn
  grind
/-- what is told behind each beginning, by places; c at the last place -/
def xOf (bs : List Tx) (X : Tx → Rat) (c : Rat) (j : Nat) : Rat := match bs[j]? with | some t => X t | none => c
theorem xOf_idx {bs : List Tx} {X : Tx → Rat} {c : Rat} {t : Tx} (h : t ∈ bs) : xOf bs X c (bs.idxOf t) = X t := by
  unfold xOf
  rw [idx_get h]
theorem xOf_last {bs : List Tx} {X : Tx → Rat} {c : Rat} : xOf bs X c bs.length = c := by unfold xOf; simp
theorem eqRow_solves {dn : List Int} {ws bs : List Tx} {s : Tx} {X : Tx → Rat} {c : Rat} (R : Race dn.length ws) (B : BegL ws bs) (hb : Beg ws s) (hn : s ∉ ws) (h : Solves dn ws c X) : dot (eqRow dn ws bs s) (xOf bs X c) = 0 := by
  have hs := (B.mem s).mpr hb
  rw [eqRow_dot B R.ne hs, xOf_idx hs, xOf_last]
  have e1 : (fun g => xOf bs X c (bs.idxOf (stF ws (s ++ [g])))) = fun g => X (stF ws (s ++ [g])) := by
    funext g; exact xOf_idx ((B.mem _).mpr (stF_beg R.ne _))
  rw [e1]
  have := h s hb hn
  grind
/-- there is a solution for whatever stands behind the words -/
theorem exists_solves {dn : List Int} {ws bs : List Tx} (hd : DieOk dn) (R : Race dn.length ws) (B : BegL ws bs) (b : Tx → Rat) (c : Rat) : ∃ X, Solves dn ws c X ∧ ∀ w ∈ ws, X w = b w := by
  let L := (bs.filter fun s => decide (s ∉ ws)).map fun s => (bs.idxOf s, eqRow dn ws bs s)
  have mL : ∀ s, Beg ws s → s ∉ ws → (bs.idxOf s, eqRow dn ws bs s) ∈ L := fun s h1 h2 => List.mem_map.mpr ⟨s, List.mem_filter.mpr ⟨(B.mem s).mpr h1, decide_eq_true h2⟩, rfl⟩
  have oL : ∀ e ∈ L, ∃ s, Beg ws s ∧ s ∉ ws ∧ e = (bs.idxOf s, eqRow dn ws bs s) := fun e he => by
    obtain ⟨s, hs, rfl⟩ := List.mem_map.mp he
    have := List.mem_filter.mp hs
    exact ⟨s, (B.mem s).mp this.1, of_decide_eq_true this.2, rfl⟩
  have nd : (L.map (·.1)).Nodup := by
    have e : L.map (·.1) = (bs.filter fun s => decide (s ∉ ws)).map fun s => bs.idxOf s := by simp [L]
    rw [e]
    have n2 : (bs.filter fun s => decide (s ∉ ws)).Nodup := B.nd.filter _
    unfold List.Nodup at n2 ⊢
    rw [List.pairwise_map]
    exact n2.imp_of_mem fun ha hb hne z => hne (idx_inj (List.mem_filter.mp ha).1 (List.mem_filter.mp hb).1 z)
  obtain ⟨x, h1, h2⟩ := exists_sol (N := bs.length + 1) (v := vI ws bs) (vI_nonneg R B) L.length L rfl nd (fun e he => by
    obtain ⟨s, s1, s2, rfl⟩ := oL e he
    exact eqRow_good hd R B s1 s2) (xOf bs b c)
  refine ⟨fun t => x (bs.idxOf t), fun s s1 s2 => ?_, fun w hw => ?_⟩
  · have e := h2 _ (mL s s1 s2)
    have e' : dot (eqRow dn ws bs s) x = 0 := e
    rw [eqRow_dot B R.ne ((B.mem s).mpr s1)] at e'
    have hc : x bs.length = c := by
      rw [h1 _ fun z => ?_, xOf_last]
      obtain ⟨e, he, z⟩ := List.mem_map.mp z
      obtain ⟨s, s1, s2, rfl⟩ := oL e he
      have := idx_lt ((B.mem s).mpr s1)
      have z' : bs.idxOf s = bs.length := z
      omega
    rw [hc] at e'
    grind
  · have hwb : w ∈ bs := (B.mem w).mpr ⟨w, hw, List.prefix_rfl⟩
    show x (bs.idxOf w) = b w
    rw [h1 _ fun z => ?_, xOf_idx hwb]
    obtain ⟨e, he, z⟩ := List.mem_map.mp z
    obtain ⟨s, s1, s2, rfl⟩ := oL e he
    have := idx_inj ((B.mem s).mpr s1) hwb z
    subst this
    exact s2 hw
end Wr

set_option linter.all false
namespace Wr
open My
/-! ### what solved tells -/
def solvedF (bs : List Tx) : List Tx → List (List Int) → List Int
  | [], eqs => eqs.headD []
  | o :: os, eqs => solvedF bs os (eqs.tail.map (freedF (bs.idxOf o) (eqs.headD [])))
/-- numbers of at most so many bits -/
def Bits (n : Nat) (r : List Int) : Prop := ∀ a ∈ r, a.natAbs ≤ 2 ^ n
theorem Bits.at {n : Nat} {r : List Int} (h : Bits n r) (j : Nat) : (r.getD j 0).natAbs ≤ 2 ^ n := by
  by_cases e : r.getD j 0 = 0
  · rw [e]; exact Nat.zero_le _
  · exact h _ (mem_getD e)
theorem Bits.mono {n m : Nat} {r : List Int} (h : Bits n r) (hm : n ≤ m) : Bits m r := fun a ha => Nat.le_trans (h a ha) (Nat.pow_le_pow_right (by decide) hm)
theorem bits_sub {a b c d : Int} {n : Nat} (ha : a.natAbs ≤ 2 ^ n) (hb : b.natAbs ≤ 2 ^ n) (hc : c.natAbs ≤ 2 ^ n) (hd : d.natAbs ≤ 2 ^ n) : (a * b - c * d).natAbs ≤ 2 ^ (2 * n + 1) := by
  have h1 : (a * b).natAbs ≤ 2 ^ n * 2 ^ n := by rw [Int.natAbs_mul]; exact Nat.mul_le_mul ha hb
  have h2 : (c * d).natAbs ≤ 2 ^ n * 2 ^ n := by rw [Int.natAbs_mul]; exact Nat.mul_le_mul hc hd
  have e : 2 ^ (2 * n + 1) = 2 ^ n * 2 ^ n + 2 ^ n * 2 ^ n := by rw [Nat.pow_succ, Nat.two_mul, Nat.pow_add]; omega
  omega
theorem comb_bits {n : Nat} {p : Nat} {r q : List Int} (hr : Bits n r) (hq : Bits n q) : Bits (2 * n + 1) (comb (q.getD p 0) (r.getD p 0) r q) := by
  intro a ha
  unfold comb at ha
  obtain ⟨i, hi, rfl⟩ := List.mem_iff_getElem.mp ha
  rw [List.getElem_zipWith]
  have hl := hi
  rw [List.length_zipWith] at hl
  exact bits_sub (hr _ (List.getElem_mem (by omega))) (hq.at p) (hq _ (List.getElem_mem (by omega))) (hr.at p)
theorem freedF_bits {n : Nat} {p : Nat} {r q : List Int} (hr : Bits n r) (hq : Bits n q) : Bits (2 * n + 1) (freedF p q r) := by
  intro a ha
  obtain ⟨b, hb, rfl⟩ := List.mem_map.mp ha
  have h1 := comb_bits (p := p) hr hq b hb
  have h2 : (b / ((gcdL (comb (q.getD p 0) (r.getD p 0) r q) : Nat) : Int)).natAbs ≤ b.natAbs := Int.natAbs_ediv_le_natAbs _ _
  omega
/-- the rows for the states rem, freed of those of done -/
structure RowsOk (dn : List Int) (ws bs : List Tx) (n : Nat) (done rem : List Tx) (eqs : List (List Int)) : Prop where
  len : eqs.length = rem.length
  good : ∀ i (h : i < rem.length) (h' : i < eqs.length), Good (bs.length + 1) (vI ws bs) (bs.idxOf rem[i]) eqs[i]
  zero : ∀ i (h : i < eqs.length), ∀ t ∈ done, eqs[i].getD (bs.idxOf t) 0 = 0
  sol : ∀ i (h : i < eqs.length), ∀ (X : Tx → Rat) (c : Rat), Solves dn ws c X → dot eqs[i] (xOf bs X c) = 0
  bits : ∀ r ∈ eqs, Bits n r
theorem rows_start {dn : List Int} {ws bs : List Tx} {rem : List Tx} (hd : DieOk dn) (R : Race dn.length ws) (B : BegL ws bs) (hr : ∀ t ∈ rem, Beg ws t ∧ t ∉ ws) : RowsOk dn ws bs 6 [] rem (rem.map (eqRow dn ws bs)) where
  len := List.length_map ..
  good := fun i h h' => by
    rw [List.getElem_map]
    have := hr _ (List.getElem_mem h)
    exact eqRow_good hd R B this.1 this.2
  zero := fun i h t ht => by simp at ht
  sol := fun i h X c hX => by
    rw [List.getElem_map]
    have hi : i < rem.length := by simpa using h
    have := hr _ (List.getElem_mem hi)
    exact eqRow_solves R B this.1 this.2 hX
  bits := fun r hr' => by
    obtain ⟨t, ht, rfl⟩ := List.mem_map.mp hr'
    have hS := die_sum hd
    have key : ∀ (l : List (Nat × Int)) (r : List Int) (m : Int), (∀ p ∈ l, 0 ≤ p.2) → (∀ a ∈ r, -m ≤ a ∧ a ≤ 36) → 0 ≤ m → ∀ a ∈ eqFold ws bs t l r, -(m + (l.map (·.2)).sum) ≤ a ∧ a ≤ 36 := by
      intro l
      induction l with
      | nil => intro r m _ h hm a ha; simpa using h a ha
      | cons p l ih =>
        intro r m hp h hm a ha
        have h0 := hp p List.mem_cons_self
        have := ih (r.set (bs.idxOf (stF ws (t ++ [p.1]))) (r.getD (bs.idxOf (stF ws (t ++ [p.1]))) 0 - p.2)) (m + p.2) (fun q hq => hp q (List.mem_cons_of_mem _ hq)) (fun b hb => by
          rcases List.mem_or_eq_of_mem_set hb with z | z
          · have := h b z; omega
          · by_cases e : r.getD (bs.idxOf (stF ws (t ++ [p.1]))) 0 = 0
            · omega
            · have := h _ (mem_getD e); omega) (by omega) a ha
        simp only [List.map_cons, List.sum_cons]
        omega
    have k2 := key (prs dn) ((List.replicate bs.length 0).set (bs.idxOf t) dn.sum) 0 (fun p hp => by
      have := (hd.w p.2 (prs_mem (c := p.1) (w := p.2) hp).2).1; omega) (fun a ha => by
      rcases List.mem_or_eq_of_mem_set ha with z | z
      · have := List.eq_of_mem_replicate z; omega
      · omega) (by omega)
    rw [prs_sum hd] at k2
    intro a ha
    unfold eqRow at ha
    rcases List.mem_append.mp ha with z | z
    · have := k2 a z; omega
    · have : a = -dn.sum := by simpa using z
      omega
theorem rows_step {dn : List Int} {ws bs : List Tx} {n : Nat} {done rem : List Tx} {o : Tx} {eqs : List (List Int)} (R : Race dn.length ws) (B : BegL ws bs) (hm : ∀ t ∈ o :: rem, t ∈ bs) (nd : (o :: rem).Nodup) (h : RowsOk dn ws bs n done (o :: rem) eqs) :
    RowsOk dn ws bs (2 * n + 1) (done ++ [o]) rem (eqs.tail.map (freedF (bs.idxOf o) (eqs.headD []))) := by
  cases eqs with
  | nil => have := h.len; simp at this
  | cons q eqs =>
    have hl : eqs.length = rem.length := by simpa using h.len
    have gq : Good (bs.length + 1) (vI ws bs) (bs.idxOf o) q := h.good 0 (by simp) (by simp)
    have hv := vI_nonneg R B
    have nd' : o ∉ rem := by have := List.nodup_cons.mp nd; exact this.1
    have gi : ∀ i (h1 : i < rem.length) (h2 : i < eqs.length), Good (bs.length + 1) (vI ws bs) (bs.idxOf rem[i]) eqs[i] := fun i h1 h2 => h.good (i + 1) (by simpa using h1) (by simpa using h2)
    have ne : ∀ i (h1 : i < rem.length), bs.idxOf o ≠ bs.idxOf rem[i] := fun i h1 z => nd' (by
      have := idx_inj (hm o List.mem_cons_self) (hm _ (List.mem_cons_of_mem _ (List.getElem_mem h1))) z
      rw [this]; exact List.getElem_mem h1)
    refine ⟨by simpa using hl, fun i h1 h2 => ?_, fun i h2 t ht => ?_, fun i h2 X c hX => ?_, fun r hr => ?_⟩
    · simp only [List.tail_cons, List.headD_cons, List.getElem_map]
      have h2' : i < eqs.length := by omega
      exact (freedF_ok hv (gi i h1 h2') gq (ne i h1)).1
    · have h2' : i < eqs.length := by simpa using h2
      have h1 : i < rem.length := by omega
      obtain ⟨_, z1, z2, _⟩ := freedF_ok hv (gi i h1 h2') gq (ne i h1)
      simp only [List.tail_cons, List.headD_cons, List.getElem_map]
      rcases List.mem_append.mp ht with z | z
      · exact z2 _ (h.zero (i + 1) (by simpa using h2') t z) (h.zero 0 (by simp) t z)
      · have : t = o := by simpa using z
        subst this; exact z1
    · have h2' : i < eqs.length := by simpa using h2
      have h1 : i < rem.length := by omega
      obtain ⟨_, _, _, z3⟩ := freedF_ok hv (gi i h1 h2') gq (ne i h1)
      simp only [List.tail_cons, List.headD_cons, List.getElem_map]
      exact z3 _ (h.sol (i + 1) (by simpa using h2') X c hX) (h.sol 0 (by simp) X c hX)
    · simp only [List.tail_cons, List.headD_cons] at hr
      obtain ⟨r', hr', rfl⟩ := List.mem_map.mp hr
      exact freedF_bits (h.bits r' (List.mem_cons_of_mem _ hr')) (h.bits q List.mem_cons_self)
/-- the row told for a state -/
structure Told (dn : List Int) (ws bs : List Tx) (n : Nat) (s : Tx) (r : List Int) : Prop where
  good : Good (bs.length + 1) (vI ws bs) (bs.idxOf s) r
  zero : ∀ t, Beg ws t → t ∉ ws → t ≠ s → r.getD (bs.idxOf t) 0 = 0
  sol : ∀ (X : Tx → Rat) (c : Rat), Solves dn ws c X → dot r (xOf bs X c) = 0
  bits : Bits n r
/-- how far the bits have grown -/
def bitsAt : Nat → Nat
  | 0 => 6
  | n + 1 => 2 * bitsAt n + 1
theorem bitsAt_eq (n : Nat) : bitsAt n + 1 = 7 * 2 ^ n := by
  induction n with
  | zero => rfl
  | succ n ih => rw [Nat.pow_succ]; show 2 * bitsAt n + 1 + 1 = _; omega
theorem bitsAt_mono {n m : Nat} (h : n ≤ m) : bitsAt n ≤ bitsAt m := by
  have a := bitsAt_eq n
  have b := bitsAt_eq m
  have := Nat.pow_le_pow_right (show 0 < 2 by decide) h
  omega
theorem told_of {dn : List Int} {ws bs : List Tx} {s : Tx} (R : Race dn.length ws) (B : BegL ws bs) : ∀ (others : List Tx) (k : Nat) (done : List Tx) (eqs : List (List Int)), (∀ t ∈ others ++ [s], t ∈ bs) → (others ++ [s]).Nodup → (∀ t, Beg ws t → t ∉ ws → t ≠ s → t ∈ done ++ others) →
    RowsOk dn ws bs (bitsAt k) done (others ++ [s]) eqs → Told dn ws bs (bitsAt (k + others.length)) s (solvedF bs others eqs)
  | [], k, done, eqs, hm, nd, hall, h => by
    have hl := h.len
    match eqs, hl with
    | [r], _ =>
      refine ⟨h.good 0 (by simp) (by simp), fun t h1 h2 h3 => h.zero 0 (by simp) t (by simpa using hall t h1 h2 h3), fun X c hX => h.sol 0 (by simp) X c hX, h.bits r (by simp)⟩
  | o :: os, k, done, eqs, hm, nd, hall, h => by
    have st := rows_step R B hm nd h
    have := told_of R B os (k + 1) (done ++ [o]) _ (fun t ht => hm t (List.mem_cons_of_mem _ ht)) (List.nodup_cons.mp nd).2 (fun t h1 h2 h3 => by simpa using hall t h1 h2 h3) st
    rw [show k + (o :: os).length = k + 1 + os.length by simp; omega]
    exact this
/-! ### how many states -/
theorem len_of_subset : ∀ {l m : List Tx}, l.Nodup → (∀ t ∈ l, t ∈ m) → l.length ≤ m.length
  | [], m, _, _ => Nat.zero_le _
  | a :: l, m, nd, h => by
    have nd' := List.nodup_cons.mp nd
    have ha := h a List.mem_cons_self
    have := len_of_subset (l := l) (m := m.erase a) nd'.2 fun t ht => by
      rw [List.mem_erase_of_ne (fun z => nd'.1 (by rw [← z]; exact ht))]
      exact h t (List.mem_cons_of_mem _ ht)
    rw [List.length_erase_of_mem ha] at this
    have hp := List.length_pos_of_mem ha
    simp only [List.length_cons]
    omega
def heads (ws : List Tx) : List Tx := [] :: ws.flatMap fun w => (List.range (w.length - 1)).map fun k => w.take (k + 1)
theorem heads_len {n : Nat} : ∀ {ws : List Tx}, (∀ l ∈ ws, WordOk n l) → (ws.flatMap fun w => (List.range (w.length - 1)).map fun k => w.take (k + 1)).length ≤ 5 * ws.length
  | [], _ => by simp
  | w :: ws, h => by
    have ih := heads_len (ws := ws) fun l hl => h l (List.mem_cons_of_mem _ hl)
    have := (h w List.mem_cons_self).hi
    rw [List.flatMap_cons, List.length_append, List.length_map, List.length_range, List.length_cons]
    omega
theorem mem_heads {ws : List Tx} {t : Tx} (h : Beg ws t) (hn : t ∉ ws) : t ∈ heads ws := by
  obtain ⟨w, hw, c, hc, hp⟩ := beg_more h hn
  unfold heads
  by_cases e : t = []
  · rw [e]; exact List.mem_cons_self
  · refine List.mem_cons_of_mem _ (List.mem_flatMap.mpr ⟨w, hw, List.mem_map.mpr ⟨t.length - 1, ?_, ?_⟩⟩)
    · have hpl := hp.length_le
      rw [List.length_append, List.length_singleton] at hpl
      have : t.length ≠ 0 := fun z => e (List.eq_nil_of_length_eq_zero z)
      rw [List.mem_range]
      omega
    · have : t.length ≠ 0 := fun z => e (List.eq_nil_of_length_eq_zero z)
      have ht : t <+: w := (List.prefix_append t [c]).trans hp
      rw [show t.length - 1 + 1 = t.length by omega]
      exact (List.prefix_iff_eq_take.mp ht).symm
theorem states_few {n : Nat} {ws l : List Tx} (R : Race n ws) (nd : l.Nodup) (h : ∀ t ∈ l, Beg ws t ∧ t ∉ ws) : l.length ≤ 21 := by
  have h1 := len_of_subset nd fun t ht => mem_heads (h t ht).1 (h t ht).2
  have h2 := heads_len R.w
  have := R.hi
  unfold heads at h1
  rw [List.length_cons] at h1
  omega
/-- the row that solved tells for s -/
theorem solved_told {dn : List Int} {ws bs others : List Tx} {s : Tx} (hd : DieOk dn) (R : Race dn.length ws) (B : BegL ws bs) (hs : Beg ws s) (hn : s ∉ ws) (nd : others.Nodup) (ho : ∀ t, t ∈ others ↔ Beg ws t ∧ t ∉ ws ∧ t ≠ s) :
    others.length ≤ 20 ∧ Told dn ws bs (bitsAt 20) s (solvedF bs others ((others ++ [s]).map (eqRow dn ws bs))) := by
  have hall : ∀ t ∈ others ++ [s], Beg ws t ∧ t ∉ ws := fun t ht => by
    rcases List.mem_append.mp ht with z | z
    · have := (ho t).mp z; exact ⟨this.1, this.2.1⟩
    · have : t = s := by simpa using z
      subst this; exact ⟨hs, hn⟩
  have nd2 : (others ++ [s]).Nodup := by
    rw [List.nodup_append]
    refine ⟨nd, by simp, fun a ha b hb => ?_⟩
    have : b = s := by simpa using hb
    subst this
    exact ((ho a).mp ha).2.2
  have few := states_few R nd2 hall
  rw [List.length_append, List.length_singleton] at few
  have T := told_of R B others 0 [] _ (fun t ht => (B.mem t).mpr (hall t ht).1) nd2 (fun t h1 h2 h3 => by simpa using (ho t).mpr ⟨h1, h2, h3⟩) (rows_start hd R B hall)
  refine ⟨by omega, T.good, T.zero, T.sol, T.bits.mono (bitsAt_mono (by omega))⟩
/-! ### the shares that the row tells -/
theorem Told.split {dn : List Int} {ws bs : List Tx} {n : Nat} {s : Tx} {r : List Int} (R : Race dn.length ws) (B : BegL ws bs) (hs : Beg ws s) (T : Told dn ws bs n s r) {X : Tx → Rat} {c : Rat} (hX : Solves dn ws c X) {i : Nat} (hi : i ≠ bs.idxOf s)
    (h0 : ∀ j, j ≠ bs.idxOf s → j ≠ i → ((r.getD j 0 : Int) : Rat) * xOf bs X c j = 0) : ((r.getD (bs.idxOf s) 0 : Int) : Rat) * X s = - (((r.getD i 0 : Int) : Rat) * xOf bs X c i) := by
  have e := T.sol X c hX
  have u := dot_upd (r := r) (i := i) (t := 0) (x := xOf bs X c)
  have d := dot_at (r := r) (x := fun j => if j = i then 0 else xOf bs X c j) (i := bs.idxOf s) fun j hj => by
    by_cases z : j = i
    · simp [z]
    · simpa [z] using h0 j hj z
  rw [d, e] at u
  have : (if bs.idxOf s = i then 0 else xOf bs X c (bs.idxOf s)) = X s := by rw [if_neg (Ne.symm hi), xOf_idx ((B.mem s).mpr hs)]
  rw [this] at u
  grind
theorem Told.own {dn : List Int} {ws bs : List Tx} {n : Nat} {s : Tx} {r : List Int} (R : Race dn.length ws) (B : BegL ws bs) (T : Told dn ws bs n s r) : 0 < r.getD (bs.idxOf s) 0 := T.good.own (vI_nonneg R B)
theorem xOf_get {bs : List Tx} {X : Tx → Rat} {c : Rat} {j : Nat} {t : Tx} (h : bs[j]? = some t) : xOf bs X c j = X t := by unfold xOf; rw [h]
theorem idx_of_get {bs : List Tx} (nd : bs.Nodup) {j : Nat} {t : Tx} (h : bs[j]? = some t) : bs.idxOf t = j := by
  obtain ⟨hj, e⟩ := List.getElem?_eq_some_iff.mp h
  subst e
  exact nd.idxOf_getElem j hj
/-- a word's share -/
theorem Told.share {dn : List Int} {ws bs : List Tx} {n : Nat} {s w : Tx} {r : List Int} (R : Race dn.length ws) (B : BegL ws bs) (hs : Beg ws s) (hn : s ∉ ws) (T : Told dn ws bs n s r) (hw : w ∈ ws) {X : Tx → Rat} (hX : Solves dn ws 0 X) (hb : ∀ u ∈ ws, X u = if u = w then 1 else 0) :
    X s = Rat.divInt (-(r.getD (bs.idxOf w) 0)) (r.getD (bs.idxOf s) 0) := by
  have own := T.own R B
  have hwb : w ∈ bs := (B.mem w).mpr ⟨w, hw, List.prefix_rfl⟩
  have hsb : s ∈ bs := (B.mem s).mpr hs
  have hne : bs.idxOf w ≠ bs.idxOf s := fun z => hn (by rw [← idx_inj hwb hsb z]; exact hw)
  have := T.split R B hs hX hne fun j h1 h2 => by
    by_cases hj : j < bs.length
    · have e := List.getElem?_eq_getElem hj
      rw [xOf_get e]
      have hb' : Beg ws bs[j] := (B.mem _).mp (List.getElem_mem hj)
      have ej := idx_of_get B.nd e
      by_cases hjw : bs[j] ∈ ws
      · rw [hb _ hjw, if_neg (fun z => h2 (by rw [← ej, z]))]; grind
      · have := T.zero _ hb' hjw (fun z => h1 (by rw [← ej, z]))
        rw [ej] at this
        rw [this]; grind
    · have : xOf bs X 0 j = 0 := by unfold xOf; rw [List.getElem?_eq_none_iff.mpr (by omega)]
      rw [this]; grind
  rw [xOf_idx hwb, hb w hw, if_pos rfl] at this
  have nz : ((r.getD (bs.idxOf s) 0 : Int) : Rat) ≠ 0 := fun z => by have := cast_lt own; grind
  rw [Rat.divInt_eq_div, Rat.intCast_neg]
  grind
/-- the mean -/
theorem Told.mean {dn : List Int} {ws bs : List Tx} {n : Nat} {s : Tx} {r : List Int} (R : Race dn.length ws) (B : BegL ws bs) (hs : Beg ws s) (hn : s ∉ ws) (T : Told dn ws bs n s r) {X : Tx → Rat} (hX : Solves dn ws 1 X) (hb : ∀ u ∈ ws, X u = 0) :
    X s = Rat.divInt (-(r.getD bs.length 0)) (r.getD (bs.idxOf s) 0) := by
  have own := T.own R B
  have hsb : s ∈ bs := (B.mem s).mpr hs
  have hlt := idx_lt hsb
  have := T.split R B hs hX (i := bs.length) (by omega) fun j h1 h2 => by
    by_cases hj : j < bs.length
    · have e := List.getElem?_eq_getElem hj
      rw [xOf_get e]
      have hb' : Beg ws bs[j] := (B.mem _).mp (List.getElem_mem hj)
      have ej := idx_of_get B.nd e
      by_cases hjw : bs[j] ∈ ws
      · rw [hb _ hjw]; grind
      · have := T.zero _ hb' hjw (fun z => h1 (by rw [← ej, z]))
        rw [ej] at this
        rw [this]; grind
    · have : r.getD j 0 = 0 := by
        rw [List.getD_eq_getElem?_getD, List.getElem?_eq_none_iff.mpr (by rw [T.good.len]; omega)]; rfl
      rw [this]; grind
  rw [xOf_last] at this
  have nz : ((r.getD (bs.idxOf s) 0 : Int) : Rat) ≠ 0 := fun z => by have := cast_lt own; grind
  rw [Rat.divInt_eq_div, Rat.intCast_neg]
  grind
end Wr

set_option linter.all false
namespace Wr
open My
/-! ### sums over the signs -/
theorem isSuf {a b : Tx} : a.isSuffixOf b = true ↔ a <:+ b := List.isSuffixOf_iff_suffix
/-! ### solutions -/
def ddup : List Tx → List Tx
  | [] => []
  | a :: l => if a ∈ l then ddup l else a :: ddup l
theorem mem_ddup {t : Tx} : ∀ {l : List Tx}, t ∈ ddup l ↔ t ∈ l
  | [] => by simp [ddup]
  | a :: l => by
    unfold ddup
    by_cases h : a ∈ l
    · rw [if_pos h, mem_ddup, List.mem_cons]
      exact ⟨.inr, fun z => z.elim (fun e => e ▸ h) id⟩
    · rw [if_neg h, List.mem_cons, List.mem_cons, mem_ddup]
theorem nodup_ddup : ∀ l : List Tx, (ddup l).Nodup
  | [] => by simp [ddup]
  | a :: l => by
    unfold ddup
    by_cases h : a ∈ l
    · rw [if_pos h]; exact nodup_ddup l
    · rw [if_neg h, List.nodup_cons]
      exact ⟨fun z => h (mem_ddup.mp z), nodup_ddup l⟩
def begL (ws : List Tx) : List Tx := ddup (ws.flatMap fun w => (List.range (w.length + 1)).map fun k => w.take k)
theorem begL_ok (ws : List Tx) : BegL ws (begL ws) := by
  refine ⟨nodup_ddup _, fun t => ?_⟩
  unfold begL
  rw [mem_ddup, List.mem_flatMap]
  constructor
  · rintro ⟨w, hw, h⟩
    obtain ⟨k, _, rfl⟩ := List.mem_map.mp h
    exact ⟨w, hw, List.take_prefix _ _⟩
  · rintro ⟨w, hw, h⟩
    exact ⟨w, hw, List.mem_map.mpr ⟨t.length, List.mem_range.mpr (by have := h.length_le; omega), (List.prefix_iff_eq_take.mp h).symm⟩⟩
open Classical in
noncomputable def sol (dn : List Int) (ws : List Tx) (b : Tx → Rat) (c : Rat) : Tx → Rat := if h : ∃ X, Solves dn ws c X ∧ ∀ w ∈ ws, X w = b w then h.choose else fun _ => 0
theorem sol_ok {dn : List Int} {ws : List Tx} (hd : DieOk dn) (R : Race dn.length ws) (b : Tx → Rat) (c : Rat) : Solves dn ws c (sol dn ws b c) ∧ ∀ w ∈ ws, sol dn ws b c w = b w := by
  have h := exists_solves hd R (begL_ok ws) b c
  unfold sol
  rw [dif_pos h]
  exact h.choose_spec
/-- the share of w behind a state, the mean behind it -/
noncomputable def shq (dn : List Int) (ws : List Tx) (w : Tx) : Tx → Rat := sol dn ws (fun u => if u = w then 1 else 0) 0
noncomputable def mnq (dn : List Int) (ws : List Tx) : Tx → Rat := sol dn ws (fun _ => 0) 1
end Wr

set_option linter.all false
namespace Wr
open My
/-! ### one word against itself and against another one -/
/-! ### two words of one length -/
end Wr

set_option linter.all false
namespace Wr
open My
/-! ### shares: a fraction in lowest terms -/
def Sz (n : Nat) (q : Rat) : Prop := q.num.natAbs ≤ 2 ^ n ∧ ((q.den : Nat) : Int).natAbs ≤ 2 ^ n
theorem gcdL_two (t b : Int) : gcdL [t, b] = Nat.gcd t.natAbs b.natAbs := by
  unfold gcdL
  simp
theorem divInt_parts {t b : Int} (hb : 0 < b) : (Rat.divInt t b).num = t / ((gcdL [t, b] : Nat) : Int) ∧ (((Rat.divInt t b).den : Nat) : Int) = b / ((gcdL [t, b] : Nat) : Int) := by
  obtain ⟨n, rfl⟩ := Int.eq_ofNat_of_zero_le (show 0 ≤ b by omega)
  have hn : n ≠ 0 := by omega
  have e : Rat.divInt t (n : Int) = Rat.normalize t n hn := by
    show mkRat t n = _
    rw [Rat.normalize_eq_mkRat]
  rw [e, Rat.normalize_eq, gcdL_two]
  refine ⟨rfl, ?_⟩
  show ((n / t.natAbs.gcd n : Nat) : Int) = _
  simp
theorem divInt_sz {t b : Int} {n : Nat} (hb : 0 < b) (h1 : t.natAbs ≤ 2 ^ n) (h2 : b.natAbs ≤ 2 ^ n) : Sz n (Rat.divInt t b) := by
  obtain ⟨e1, e2⟩ := divInt_parts (t := t) hb
  refine ⟨?_, ?_⟩
  · rw [e1]; exact Nat.le_trans (Int.natAbs_ediv_le_natAbs _ _) h1
  · rw [e2]; exact Nat.le_trans (Int.natAbs_ediv_le_natAbs _ _) h2
/-! ### the worth of at most six signs -/
end Wr

set_option Elab.async false
set_option linter.all false
set_option maxRecDepth 100000
set_option maxHeartbeats 4000000
/-! Wordrace: what the program's values are. -/
namespace My
open PySem L2 PySem.Spec PyProof.Rows Wr
/-- texts as values -/
abbrev txs (ws : List (List Nat)) : List V := ws.map fun l => V.str (S l)
structure RaceOk (n : Nat) (ws : List (List Nat)) : Prop where
  lo : 1 ≤ ws.length
  hi : ws.length ≤ 4
  w : ∀ l ∈ ws, WordOk n l
  apart : ws.Pairwise fun a b => within a b = false ∧ within b a = false
theorem txs_len (ws : List (List Nat)) : (txs ws).length = ws.length := List.length_map ..
theorem txs_at {ws : List (List Nat)} {i : Nat} (h : i < ws.length) : (txs ws)[i]? = some (.str (S ws[i])) := by
  rw [List.getElem?_map, List.getElem?_eq_getElem h]; rfl
theorem cutV_eq (xs : List V) (lo hi : Option Int) : cutV xs lo hi = cutL xs lo hi := rfl
def others (ws : List (List Nat)) (p : Nat) : List (List Nat) := ws.take p ++ ws.drop (p + 1)
theorem RaceOk.not_within {n : Nat} {ws : List (List Nat)} (h : RaceOk n ws) {p : Nat} (hp : p < ws.length) : (others ws p).any (fun o => within ws[p] o) = false := by
  rw [List.any_eq_false]
  intro o ho hw
  have key : ∀ i j (hi : i < ws.length) (hj : j < ws.length), i < j → within ws[i] ws[j] = false ∧ within ws[j] ws[i] = false := fun i j hi hj hij => List.pairwise_iff_getElem.mp h.apart i j hi hj hij
  rcases List.mem_append.mp ho with z | z
  · obtain ⟨i, hi, rfl⟩ := List.mem_take_iff_getElem.mp z
    have := (key i p (by omega) hp (by omega)).2
    rw [this] at hw; cases hw
  · obtain ⟨i, hi, rfl⟩ := List.mem_drop_iff_getElem.mp z
    have := (key p (p + 1 + i) hp (by omega) (by omega)).1
    rw [this] at hw; cases hw
/-- where a word ends the row: throws and place -/
def endAt (ws : List (List Nat)) (row : List Nat) (t : Nat) : Option (Nat × Nat) := (ws.findIdx? fun w => w.isSuffixOf (row.take (t + 1))).map fun p => (t + 1, p)
def endedF (ws : List (List Nat)) (row : List Nat) : Option (Nat × Nat) := (List.range row.length).findSome? (endAt ws row)
/-- the value that tells it -/
def EndV (o : Option (Nat × Nat)) (v : V) (H : Hp) : Prop := match o with
  | none => v = .non
  | some (t, p) => ∃ a, v = .ref a ∧ H a = some (.tup [.int (t : Int), .int (p : Int)])
theorem endedF_none {ws : List (List Nat)} {row : List Nat} (h : ∀ t, t < row.length → endAt ws row t = none) : endedF ws row = none := by
  unfold endedF
  rw [List.findSome?_eq_none_iff]
  exact fun t ht => h t (List.mem_range.mp ht)
theorem endedF_some {ws : List (List Nat)} {row : List Nat} {t : Nat} {r : Nat × Nat} (ht : t < row.length) (h : ∀ s, s < t → endAt ws row s = none) (e : endAt ws row t = some r) : endedF ws row = some r := by
  unfold endedF
  have key : ∀ n, t < n → (List.range n).findSome? (endAt ws row) = some r := by
    intro n hn
    induction n with
    | zero => omega
    | succ n ih =>
      rw [List.range_succ, List.findSome?_append]
      by_cases hnt : t < n
      · rw [ih hnt]; rfl
      · have : t = n := by omega
        subst this
        have hno : (List.range t).findSome? (endAt ws row) = none := by
          rw [List.findSome?_eq_none_iff]
          exact fun s hs => h s (List.mem_range.mp hs)
        rw [hno]
        simp [e]
  exact key _ ht
theorem endAt_none {ws : List (List Nat)} {row : List Nat} {t : Nat} (h : ∀ p (hp : p < ws.length), ws[p].isSuffixOf (row.take (t + 1)) = false) : endAt ws row t = none := by
  unfold endAt
  rw [Option.map_eq_none_iff, List.findIdx?_eq_none_iff]
  intro w hw
  obtain ⟨p, hp, rfl⟩ := List.mem_iff_getElem.mp hw
  simpa using h p hp
theorem endAt_some {ws : List (List Nat)} {row : List Nat} {t p : Nat} (hp : p < ws.length) (h : ∀ q (hq : q < ws.length), q < p → ws[q].isSuffixOf (row.take (t + 1)) = false) (e : ws[p].isSuffixOf (row.take (t + 1)) = true) : endAt ws row t = some (t + 1, p) := by
  unfold endAt
  have : (ws.findIdx? fun w => w.isSuffixOf (row.take (t + 1))) = some p := by
    rw [List.findIdx?_eq_some_iff_getElem]
    exact ⟨hp, e, fun j hj => by rw [h j (by omega) hj]; exact Bool.false_ne_true⟩
  rw [this]
  rfl
theorem gcdL_snoc (l : List Int) (a : Int) : gcdL (l ++ [a]) = Nat.gcd (gcdL l) a.natAbs := by unfold gcdL; rw [List.foldl_append]; rfl

theorem within_iff {a b : List Nat} : within a b = true ↔ a <:+: b := by
  unfold within
  rw [List.any_eq_true]
  constructor
  · rintro ⟨i, _, h⟩
    exact (List.isPrefixOf_iff_prefix.mp h).isInfix.trans (List.drop_suffix i b).isInfix
  · rintro ⟨p, q, h⟩
    refine ⟨p.length, List.mem_range.mpr (by have := congrArg List.length h; simp at this; omega), ?_⟩
    rw [List.isPrefixOf_iff_prefix, ← h, List.append_assoc, List.drop_left]
    exact List.prefix_append _ _
theorem RaceOk.race {n : Nat} {ws : List (List Nat)} (h : RaceOk n ws) : Race n ws := by
  have key : ∀ i j (hi : i < ws.length) (hj : j < ws.length), i < j → within ws[i] ws[j] = false ∧ within ws[j] ws[i] = false := fun i j hi hj hij => List.pairwise_iff_getElem.mp h.apart i j hi hj hij
  have ap : ∀ i j (hi : i < ws.length) (hj : j < ws.length), ws[i] <:+: ws[j] → i = j := fun i j hi hj hin => by
    rcases Nat.lt_trichotomy i j with z | z | z
    · have := (key i j hi hj z).1; rw [within_iff.mpr hin] at this; cases this
    · exact z
    · have := (key j i hj hi z).2; rw [within_iff.mpr hin] at this; cases this
  refine ⟨h.lo, h.hi, h.w, ?_, fun a ha b hb hin => ?_⟩
  · unfold List.Nodup
    rw [List.pairwise_iff_getElem]
    intro i j hi hj hij z
    have := ap i j hi hj (by rw [z]; exact List.infix_rfl)
    omega
  · obtain ⟨i, hi, rfl⟩ := List.mem_iff_getElem.mp ha
    obtain ⟨j, hj, rfl⟩ := List.mem_iff_getElem.mp hb
    have := ap i j hi hj hin
    subst this; rfl
end My

set_option Elab.async false
set_option linter.all false
set_option maxRecDepth 100000
set_option maxHeartbeats 4000000
/-! Wordrace: odds, all words, answers. -/
namespace My
open PySem L2 PySem.Spec PyProof.Rows Wr
end My

set_option Elab.async false
set_option linter.all false
set_option maxRecDepth 100000
set_option maxHeartbeats 4000000
/-! Wordrace: beginnings and states as the program makes them. -/
namespace My
open PySem L2 PySem.Spec PyProof.Rows Wr
structure RowOk (n : Nat) (row : List Nat) : Prop where
  hi : row.length ≤ 60
  s : ∀ c ∈ row, c ∈ abcd.take n
/-- all that beginnings_of puts into its list -/
def begT (ws : List (List Nat)) : List (List Nat) := [] :: ws.flatMap fun w => (List.range w.length).map fun k => w.take (k + 1)
theorem begT_mem {ws : List (List Nat)} (hne : ws ≠ []) {t : List Nat} : t ∈ begT ws ↔ Beg ws t := by
  unfold begT
  rw [List.mem_cons, List.mem_flatMap]
  constructor
  · rintro (h | ⟨w, hw, h⟩)
    · subst h; exact beg_nil hne
    · obtain ⟨k, _, rfl⟩ := List.mem_map.mp h
      exact ⟨w, hw, List.take_prefix _ _⟩
  · rintro ⟨w, hw, h⟩
    by_cases e : t = []
    · exact .inl e
    · have hl : t.length ≠ 0 := fun z => e (List.eq_nil_of_length_eq_zero z)
      have := h.length_le
      refine .inr ⟨w, hw, List.mem_map.mpr ⟨t.length - 1, List.mem_range.mpr (by omega), ?_⟩⟩
      rw [show t.length - 1 + 1 = t.length by omega]
      exact (List.prefix_iff_eq_take.mp h).symm
theorem begT_len {n : Nat} : ∀ {ws : List (List Nat)}, (∀ l ∈ ws, WordOk n l) → (ws.flatMap fun w => (List.range w.length).map fun k => w.take (k + 1)).length ≤ 6 * ws.length
  | [], _ => by simp
  | w :: ws, h => by
    have ih := begT_len (ws := ws) fun l hl => h l (List.mem_cons_of_mem _ hl)
    have := (h w List.mem_cons_self).hi
    rw [List.flatMap_cons, List.length_append, List.length_map, List.length_range, List.length_cons]
    omega
theorem begT_step (ws : List (List Nat)) (i : Nat) (h : i < ws.length) : begT (ws.take (i + 1)) = begT (ws.take i) ++ (List.range ws[i].length).map fun k => ws[i].take (k + 1) := by
  unfold begT
  rw [List.take_succ_eq_append_getElem h, List.flatMap_append]
  simp
theorem two_of {L : List Str} {a b : Str} (ha : a ∈ L) (hb : b ∈ L) (hne : a ≠ b) : 2 ≤ L.length := by
  match L, ha, hb with
  | [], ha, _ => simp at ha
  | [x], ha, hb =>
    have e1 : a = x := by simpa using ha
    have e2 : b = x := by simpa using hb
    exact absurd (e1.trans e2.symm) hne
  | _ :: _ :: _, _, _ => simp
theorem met_two {n : Nat} {ws : List (List Nat)} (R : RaceOk n ws) : 2 ≤ (metL (begT ws)).length := by
  have hne : ws ≠ [] := R.race.ne
  obtain ⟨w, hw⟩ := List.exists_mem_of_ne_nil ws hne
  have hlo := (R.w w hw).lo
  refine two_of (a := S []) (b := S (w.take 1)) (mem_metL.mpr ⟨[], (begT_mem hne).mpr (beg_nil hne), rfl⟩) (mem_metL.mpr ⟨w.take 1, (begT_mem hne).mpr ⟨w, hw, List.take_prefix _ _⟩, rfl⟩) fun z => ?_
  have := congrArg List.length (S_inj.mp z)
  rw [List.length_take] at this
  simp at this
  omega
/-- texts out of strs -/
theorem strs_back (ys : List Str) : ys.map V.str = (ys.map fun x => x.cps.toList).map fun l => V.str (S l) := by
  rw [List.map_map]
  apply List.map_congr_left
  intro x _
  show V.str x = V.str (S x.cps.toList)
  rw [S_of]
theorem beg_of {ws bs : List (List Nat)} {ys : List Str} (hne : ws ≠ []) (h1 : ys.Perm (metL (begT ws))) (h2 : bs.Perm (ys.map fun x => x.cps.toList)) : BegL ws bs := by
  have inj : (ys.map fun x => x.cps.toList).Nodup := by
    have : ys.Nodup := h1.nodup_iff.mpr (metL_nodup _)
    unfold List.Nodup at this ⊢
    rw [List.pairwise_map]
    exact this.imp fun {a b} hne z => hne (by rw [← S_of a, ← S_of b]; exact congrArg S z)
  refine ⟨h2.nodup_iff.mpr inj, fun t => ?_⟩
  rw [h2.mem_iff, ← begT_mem hne]
  constructor
  · intro h
    obtain ⟨x, hx, e⟩ := List.mem_map.mp h
    obtain ⟨u, hu, e2⟩ := mem_metL.mp (h1.mem_iff.mp hx)
    have : t = u := by
      rw [← e, ← e2]; try exact S_cps u
    subst this; exact hu
  · intro h
    exact List.mem_map.mpr ⟨S t, h1.mem_iff.mpr (mem_metL.mpr ⟨t, h, rfl⟩), S_cps t⟩
theorem beg_few {n : Nat} {ws bs : List (List Nat)} (R : RaceOk n ws) (B : BegL ws bs) : bs.length ≤ 25 := by
  have h1 := len_of_subset (l := bs) (m := begT ws) B.nd fun t ht => (begT_mem R.race.ne).mpr ((B.mem t).mp ht)
  have h2 := begT_len R.w
  have := R.hi
  unfold begT at h1
  rw [List.length_cons] at h1
  omega
/-- the longest of the beginnings with which the row ends -/
theorem st_of_max {ws bs : List (List Nat)} (hne : ws ≠ []) (B : BegL ws bs) {row t : List Nat} (h1 : t ∈ bs.filter fun b => b.isSuffixOf row) (h2 : ∀ u ∈ bs.filter fun b => b.isSuffixOf row, u.length ≤ t.length) : t = stF ws row := by
  obtain ⟨a, b⟩ := List.mem_filter.mp h1
  refine (stF_uniq hne (isSuf.mp b) ((B.mem t).mp a) fun u hu hb => ?_).symm
  exact h2 u (List.mem_filter.mpr ⟨(B.mem u).mpr hb, isSuf.mpr hu⟩)
end My

set_option linter.all false

namespace L2
open PySem PySem.Spec PyProof.Rows

/-! ### lists of pairs as tables -/
section
variable {κ : Type} [DecidableEq κ]
def valV (kvs : List (κ × V)) (k : κ) : Option V := (kvs.find? fun kv => decide (kv.1 = k)).map (·.2)
/-- in its place, or at the end -/
def putK (kvs : List (κ × V)) (k : κ) (v : V) : List (κ × V) :=
  if (kvs.any fun kv => decide (kv.1 = k)) = true then kvs.map (fun kv => if kv.1 = k then (kv.1, v) else kv) else kvs ++ [(k, v)]
theorem valV_pos {p : κ × V} {r : List (κ × V)} {k : κ} (e : p.1 = k) : valV (p :: r) k = some p.2 := by simp [valV, List.find?_cons, e]
theorem valV_neg {p : κ × V} {r : List (κ × V)} {k : κ} (e : ¬ p.1 = k) : valV (p :: r) k = valV r k := by simp [valV, List.find?_cons, e]
theorem valV_any (k : κ) : ∀ kvs : List (κ × V), (kvs.any fun kv => decide (kv.1 = k)) = (valV kvs k).isSome
  | [] => rfl
  | p :: r => by
    rw [List.any_cons]
    by_cases e : p.1 = k
    · simp only [valV_pos e, decide_eq_true e, Bool.true_or, Option.isSome_some]
    · rw [valV_neg e, decide_eq_false e, Bool.false_or]; exact valV_any k r
theorem length_putK (kvs : List (κ × V)) (k : κ) (v : V) : (putK kvs k v).length ≤ kvs.length + 1 := by
  unfold putK
  split
  · rw [List.length_map]; omega
  · rw [List.length_append, List.length_cons, List.length_nil]; omega
theorem RelO.isSome_eq {o : Option V} {u : Option Value} (r : RelO o u) : o.isSome = u.isSome := by
  cases o with
  | none => cases u with
    | none => rfl
    | some _ => exact (show False from r).elim
  | some _ => cases u with
    | none => exact (show False from r).elim
    | some _ => rfl
theorem RelO.getD {o : Option V} {u : Option Value} {d : V} {d' : Value} (r : RelO o u) (rd : RelV d d') : RelV (o.getD d) (u.getD d') := by
  cases o with
  | none => cases u with
    | none => exact rd
    | some _ => exact (show False from r).elim
  | some _ => cases u with
    | none => exact (show False from r).elim
    | some _ => exact r

/-- raw tables of the same keys -/
theorem KV.val {kvs : List (κ × V)} {vs : List (κ × Value)} (r : KV kvs vs) (k : κ) : RelO (valV kvs k) (valueAt vs k) := by
  unfold KV at r
  induction r with
  | nil => exact True.intro
  | @cons p q ps qs h t ih =>
    obtain ⟨h1, h2⟩ := h
    by_cases e : p.1 = k
    · have e' : q.1 = k := h1.symm.trans e
      have b : valueAt (q :: qs) k = some q.2 := by simp [valueAt, List.find?_cons, e']
      rw [valV_pos e, b]; exact h2
    · have e' : ¬ q.1 = k := fun z => e (h1.trans z)
      have b : valueAt (q :: qs) k = valueAt qs k := by simp [valueAt, List.find?_cons, e']
      rw [valV_neg e, b]; exact ih
theorem KV.any {kvs : List (κ × V)} {vs : List (κ × Value)} (r : KV kvs vs) (k : κ) : (kvs.any fun kv => decide (kv.1 = k)) = vs.any fun kv => decide (kv.1 = k) := by
  unfold KV at r
  induction r with
  | nil => rfl
  | cons h t ih => rw [List.any_cons, List.any_cons, ih, h.1]
theorem KV.repl {kvs : List (κ × V)} {vs : List (κ × Value)} (r : KV kvs vs) (k : κ) {y : V} {u : Value} (ry : RelV y u) :
    KV (kvs.map fun kv => if kv.1 = k then (kv.1, y) else kv) (vs.map fun kv => if kv.1 = k then (kv.1, u) else kv) := by
  unfold KV at r ⊢
  induction r with
  | nil => exact .nil
  | @cons p q ps qs h t ih =>
    rw [List.map_cons, List.map_cons]
    refine .cons ?_ ih
    obtain ⟨h1, h2⟩ := h
    by_cases e : p.1 = k
    · rw [if_pos e, if_pos (h1.symm.trans e)]; exact ⟨h1, ry⟩
    · rw [if_neg e, if_neg (fun z => e (h1.trans z))]; exact ⟨h1, h2⟩
theorem KV.put {kvs : List (κ × V)} {vs : List (κ × Value)} (r : KV kvs vs) (k : κ) {y : V} {u : Value} (ry : RelV y u) : KV (putK kvs k y) (stored vs k u) := by
  unfold putK stored
  rw [r.any k]
  by_cases e : (vs.any fun kv => decide (kv.1 = k)) = true
  · rw [if_pos e, if_pos e]; exact r.repl k ry
  · rw [if_neg e, if_neg e]; exact Paired.snoc r ⟨rfl, ry⟩
theorem KV.length {kvs : List (κ × V)} {vs : List (κ × Value)} (r : KV kvs vs) : kvs.length = vs.length := Paired.length r
end


/-! ### a tracked dict, its keys ints and texts or tuples of these -/
theorem kV_is {P : Program} {w : World} {k : Key} {u : Value} (r : RelV (kV k) u) : (mixKind P w).is k u = true := by
  cases k with
  | inl i => obtain ⟨t, e⟩ := (show ∃ t, u = Value.int i t from r); subst e; exact mixKind_int P w i t
  | inr x => obtain ⟨t, e⟩ := (show ∃ t, u = Value.str x t from r); subst e; exact mixKind_str P w x t
theorem items_are {P : Program} {w : World} : ∀ {ks : List Key} {us : List Value}, Vals (ks.map kV) us → ItemsAre (mixKind P w) ks us
  | [], _, r => by rw [List.map_nil] at r; cases r; exact .nil
  | k :: ks, _, r => by
    rw [List.map_cons] at r
    cases r with
    | cons h t => exact .cons (kV_is h) (items_are t)

/-- raw entries of a dict with tuple keys -/
abbrev KT (H : Hp) : List (List Key × V) → List (List Key × Addr × Value) → Prop := Paired fun p q => p.1 = q.1 ∧ H q.2.1 = some (.tup (p.1.map kV)) ∧ RelV p.2 q.2.2
theorem KT.val {H : Hp} {kvs : List (List Key × V)} {xs : List (List Key × Addr × Value)} (r : KT H kvs xs) (k : List Key) : RelO (valV kvs k) ((atKey xs k).map (·.2)) := by
  induction r with
  | nil => exact True.intro
  | @cons p q ps qs h t ih =>
    obtain ⟨h1, _, h2⟩ := h
    by_cases e : p.1 = k
    · have e' : q.1 = k := h1.symm.trans e
      have b : atKey (q :: qs) k = some q.2 := by simp [atKey, List.find?_cons, e']
      rw [valV_pos e, b]; exact h2
    · have e' : ¬ q.1 = k := fun z => e (h1.trans z)
      have b : atKey (q :: qs) k = atKey qs k := by simp [atKey, List.find?_cons, e']
      rw [valV_neg e, b]; exact ih
theorem KT.repl {H : Hp} {kvs : List (List Key × V)} {xs : List (List Key × Addr × Value)} (r : KT H kvs xs) (k : List Key) {y : V} {u : Value} (ry : RelV y u) :
    KT H (kvs.map fun kv => if kv.1 = k then (kv.1, y) else kv) (xs.map (putAt k u)) := by
  induction r with
  | nil => exact .nil
  | @cons p q ps qs h t ih =>
    rw [List.map_cons, List.map_cons]
    refine .cons ?_ ih
    obtain ⟨h1, h2, h3⟩ := h
    unfold putAt
    by_cases e : p.1 = k
    · rw [if_pos e, if_pos (h1.symm.trans e)]; exact ⟨h1, h2, ry⟩
    · rw [if_neg e, if_neg (fun z => e (h1.trans z))]; exact ⟨h1, h2, h3⟩
theorem KT.put {H : Hp} {kvs : List (List Key × V)} {xs : List (List Key × Addr × Value)} (r : KT H kvs xs) (k : List Key) {b : Addr} {y : V} {u : Value} (hb : H b = some (.tup (k.map kV))) (ry : RelV y u) :
    KT H (putK kvs k y) (storedH xs k b u) := by
  have e : (kvs.any fun kv => decide (kv.1 = k)) = (atKey xs k).isSome := by
    rw [valV_any, (r.val k).isSome_eq, Option.isSome_map]
  unfold putK storedH
  rw [e]
  by_cases q : (atKey xs k).isSome = true
  · rw [if_pos q, if_pos q]; exact r.repl k ry
  · rw [if_neg q, if_neg q]; exact Paired.snoc r ⟨rfl, hb, ry⟩
theorem KT.keeps {H H' : Hp} {kvs : List (List Key × V)} {xs : List (List Key × Addr × Value)} (r : KT H kvs xs) (ht : ∀ b ys, H b = some (.tup ys) → H' b = some (.tup ys)) : KT H' kvs xs :=
  Paired.mapP r fun _ _ z => ⟨z.1, ht _ _ z.2.1, z.2.2⟩

section
variable {P : Program} {w : World} {H : Hp} {h : Heap} {a : Addr}
theorem rd_of {u : HO} (ok : HOk P w H h) (e : Rd H a u) : ObjOk P w H h a u := e.ok ok
theorem dk_rd {kvs : List (Key × V)} (ok : HOk P w H h) (e : Rd H a (.dK kvs)) : kvs.length ≤ sizeLine ∧ (a == sysModules) = false ∧ ∃ vs, KV kvs vs ∧ h.DictOf (mixKind P w) a vs :=
  show ObjOk P w H h a (.dK kvs) from rd_of ok e
theorem dk_of {kvs : List (Key × V)} (ok : HOk P w H h) (e : H a = some (.dK kvs)) : kvs.length ≤ sizeLine ∧ (a == sysModules) = false ∧ ∃ vs, KV kvs vs ∧ h.DictOf (mixKind P w) a vs := dk_rd ok (.inl e)
/-- a tracked tuple of ints and texts is a key -/
theorem key_of {ks : List Key} (ok : HOk P w H h) (e : H a = some (.tup (ks.map kV))) : (tupleKind (mixKind P w)).is h ks a := by
  obtain ⟨_, its, r, o, h1, h2, n, h3⟩ := (show ObjOk P w H h a (.tup (ks.map kV)) from ok a _ e)
  exact ⟨o, its.toArray, n, h1, h2, h3, by simpa using items_are r⟩
theorem dt_rd {kvs : List (List Key × V)} (ok : HOk P w H h) (e : Rd H a (.dT kvs)) : kvs.length ≤ sizeLine ∧ (a == sysModules) = false ∧
    ∃ xs, KT H kvs xs ∧ h.DictOfH (tupleKind (mixKind P w)) a xs := by
  obtain ⟨z, y, xs, r, o, es, ep, h1, h2, h3, h4, h5⟩ := (show ObjOk P w H h a (.dT kvs) from rd_of ok e)
  refine ⟨z, y, xs, r, o, es, ep, h1, h2, h3, h4, fun x hx => ?_, h5⟩
  have all : ∀ {l : List (List Key × V)} {m : List (List Key × Addr × Value)}, KT H l m → ∀ x ∈ m, (tupleKind (mixKind P w)).is h x.1 x.2.1 := by
    intro l m q
    induction q with
    | nil => intro x hx; exact nomatch hx
    | @cons p q ps qs hq t ih =>
      intro x hx
      rcases List.mem_cons.mp hx with e | hx
      · subst e
        exact key_of ok (by rw [← hq.1]; exact hq.2.1)
      · exact ih x hx
  exact all r x hx
theorem dt_of {kvs : List (List Key × V)} (ok : HOk P w H h) (e : H a = some (.dT kvs)) : kvs.length ≤ sizeLine ∧ (a == sysModules) = false ∧
    ∃ xs, KT H kvs xs ∧ h.DictOfH (tupleKind (mixKind P w)) a xs := dt_rd ok (.inl e)
end

/-- what the dict at a holds at the key y -/
def DGet (H : Hp) (a : Addr) (y : V) (r : Option V) : Prop :=
  (∃ kvs k, Rd H a (.dK kvs) ∧ y = kV k ∧ r = valV kvs k) ∨ ∃ kvs k b, Rd H a (.dT kvs) ∧ y = .ref b ∧ H b = some (.tup (k.map kV)) ∧ r = valV kvs k
/-- the heap behind a[y] = v -/
def DPut (H : Hp) (a : Addr) (y v : V) (H' : Hp) : Prop :=
  (∃ kvs k, H a = some (.dK kvs) ∧ y = kV k ∧ kvs.length < sizeLine ∧ H' = upd H a (.dK (putK kvs k v))) ∨
  ∃ kvs k b, H a = some (.dT kvs) ∧ y = .ref b ∧ H b = some (.tup (k.map kV)) ∧ kvs.length < sizeLine ∧ H' = upd H a (.dT (putK kvs k v))
section
variable {X : Cx} {pins : List (Addr × Obj)} {σ : St} {H : Hp} {s : Shared} {a : Addr} {y v : V} {u r : Value} {o : Option V} {A : Around} {E : Value → Shared → Prop}

theorem Inv.big (I : Inv X pins σ H s) : sysModules < s.heap.objs.size := by
  have h : mainGlobals < s.heap.objs.size := (I.mod.glob.keeps I.bk).lt
  exact Nat.lt_trans (by decide) h

/-- a dict's object is replaced -/
theorem d_write {h' : Heap} {t' : Nat} {ob : HO} (I : Inv X pins σ H s) (mu : Mut (H a)) (hs : Heap.SameBut a s.heap h') (he : ∃ q, h'.get? a = some q) (new : ObjOk X.prog X.w (upd H a ob) h' a ob) :
    Inv X pins σ (upd H a ob) { s with heap := h', toks := t' } :=
  I.write (x := a) (e := a) mu (.inl rfl) (fun b q hb z => (hs.2 b hb).trans z) he new
theorem dk_new {P : Program} {w : World} {H' : Hp} {h' : Heap} {kvs : List (Key × V)} {vs : List (Key × Value)} (z : kvs.length ≤ sizeLine) (hd : (a == sysModules) = false) (rel : KV kvs vs) (dd : h'.DictOf (mixKind P w) a vs) :
    ObjOk P w H' h' a (.dK kvs) := ⟨z, hd, vs, rel, dd⟩
/-- d[y] = v -/
theorem d_setItem {H' : Hp} {Q : Unit → Shared → Prop} (hu : A.units + 1 < cLine) (I : Inv X pins σ H s) (g : DPut H a y v H') (ry : RelV y u) (rv : RelV v r) (h : ∀ s', Inv X pins σ H' s' → Q () s') :
    wpAny (model X.prog X.w) A (setItem (.ref a) u r) Q E s := by
  rcases g with ⟨kvs, k, e, ey, l, eH⟩ | ⟨kvs, k, b, e, ey, eb, l, eH⟩
  · subst ey eH
    obtain ⟨z, hd, vs, rel, dd⟩ := dk_of I.hok e
    have hz : vs.length ≤ sizeLine := by rw [← rel.length]; exact z
    have hl : (putK kvs k v).length ≤ sizeLine := by have := length_putK kvs k v; omega
    refine wpAny_setItem_pairs (hsz := hz) (kV_is ry) dd fun h' dd' hs => h _ ?_
    have he : ∃ q, h'.get? a = some q := let ⟨q, _, _, hq, _⟩ := dd'; ⟨q, hq⟩
    exact d_write I (by rw [e]; exact True.intro) hs he (dk_new hl hd (rel.put k rv) dd')
  · subst ey eH
    cases (show u = Value.ref b from ry)
    obtain ⟨z, hd, xs, rel, dd⟩ := dt_of I.hok e
    have hz : xs.length ≤ sizeLine := by rw [← Paired.length rel]; exact z
    have hl : (putK kvs k v).length ≤ sizeLine := by have := length_putK kvs k v; omega
    refine wpAny_setItem_heap (hsz := hz) (tupleKind_room_in1 hu) (key_of I.hok eb) dd fun h' dd' hs => h _ ?_
    obtain ⟨q, es, ep, hq, h2, h3, h4, _, h5⟩ := dd'
    refine d_write I (by rw [e]; exact True.intro) hs ⟨q, hq⟩ ⟨hl, hd, _, (rel.put k eb rv).keeps fun c ys ec => ?_, q, es, ep, hq, h2, h3, h4, h5⟩
    rw [upd_ne (ne_of ec e (fun z => nomatch z))]
    exact ec
end

section
variable {X : Cx} {pins : List (Addr × Obj)} {σ : St} {H : Hp} {s : Shared} {a : Addr} {kvs : List (Key × V)} {k : Key} {u : Value} {A : Around} {E : Value → Shared → Prop}
end


/-! ### readings and rules -/
/-- d[y] = v -/
def sDPut (td ty tv : TE) : TS := fun D σ H => tv σ H fun v H1 => td σ H1 fun x H2 => ty σ H2 fun y H3 => ∃ a H4, x = .ref a ∧ DPut H3 a y v H4 ∧ D.nx σ H4
section
variable {X : Cx} {o i e value : Expr} {pos pos' tpos : Pos} {td ty tv : TE}
theorem ps_dput (hu : X.A.units + 1 < cLine) (ho : PE X o td) (hi : PE X i ty) (hv : PE X value tv) (hs : swapsWith value (some (.Subscript o i pos')) pos.line X.env = pure false) :
    PS X (.Assign [.Subscript o i pos'] value pos) (sDPut td ty tv) := by
  intro pins s σ H D I h
  refine wpAny_Assign_Subscript (thn (hv pins s σ H _ I h) fun r s1 ⟨v, H1, I1, rv, q1⟩ => thn (ho pins s1 σ H1 _ I1 q1) fun u s2 ⟨x, H2, I2, rx, q2⟩ => thn (hi pins s2 σ H2 _ I2 q2) fun iv s3 ⟨y, H3, I3, ry, a, H4, ex, g, q3⟩ => ?_) hs
  subst ex
  obtain rfl : u = Value.ref a := rx
  exact d_setItem hu I3 g ry rv fun s4 I4 => ⟨σ, H4, I4, q3⟩
end


/-! ### displays -/
theorem dk_empty {P : Program} {w : World} {H : Hp} (h : Heap) (hb : sysModules < h.objs.size) : ObjOk P w H (h.push { cls := .type "dict", data := .dict #[] }) h.objs.size (.dK []) :=
  ⟨Nat.zero_le _, beq_eq_false_iff_ne.mpr (Ne.symm (Nat.ne_of_lt hb)), [], .nil, Heap.DictOf.new h⟩
/-- {}, to be a dict of the kind that is wanted -/
def tDNewK : TE := fun _ H Q => ∀ p, H p = none → Q (.ref p) (upd H p (.dK []))
section
variable {X : Cx} {pos : Pos}
theorem pe_dnewK : PE X (.Dict [] [] pos) tDNewK := fun pins s σ H Q I h =>
  wpAny_Dict_empty ⟨.ref s.heap.objs.size, _, I.laid (a := s.heap.objs.size) (o := .dK []) (t' := s.toks) (fun _ _ q => Heap.get?_push_of_some _ q) (Nat.le_refl _) (dk_empty s.heap I.big), rfl, h _ (I.hok.fresh (Nat.le_refl _))⟩
end

/-- the pairs of a display, from the left -/
def tPairs : List (TE × TE) → St → Hp → (List (V × V) → Hp → Prop) → Prop
  | [], _, H, Q => Q [] H
  | (tk, tv) :: r, σ, H, Q => tk σ H fun x H1 => tv σ H1 fun y H2 => tPairs r σ H2 fun ps H3 => Q ((x, y) :: ps) H3
abbrev VV : List (V × V) → List (Value × Value) → Prop := Paired fun p q => RelV p.1 q.1 ∧ RelV p.2 q.2
def PPs (X : Cx) (pos : Pos) (keys : List (Option Expr)) (values : List Expr) (trs : List (TE × TE)) : Prop :=
  ∀ (pins : List (Addr × Obj)) (s : Shared) (σ : St) (H : Hp) (Q : List (V × V) → Hp → Prop), Inv X pins σ H s → tPairs trs σ H Q →
    wpAny (model X.prog X.w) X.A (evalPairs (pairTrees keys values X.env pos)) (fun vs s' => ∃ ps H', Inv X pins σ H' s' ∧ VV ps vs ∧ Q ps H') X.xe s
theorem pps_nil {X : Cx} {pos : Pos} : PPs X pos [] [] [] := fun pins s σ H Q I h => pairTrees_nil_walk ⟨[], H, I, .nil, h⟩
theorem pps_cons {X : Cx} {pos : Pos} {k v : Expr} {ks : List (Option Expr)} {vs : List Expr} {tk tv : TE} {trs : List (TE × TE)} (hk : PE X k tk) (hv : PE X v tv) (hr : PPs X pos ks vs trs) :
    PPs X pos (some k :: ks) (v :: vs) ((tk, tv) :: trs) := fun pins s σ H Q I h =>
  pairTrees_cons_walk (thn (hk pins s σ H _ I h) fun u s1 ⟨x, H1, I1, rx, q1⟩ => thn (hv pins s1 σ H1 _ I1 q1) fun w2 s2 ⟨y, H2, I2, ry, q2⟩ =>
    thn (hr pins s2 σ H2 _ I2 q2) fun ws s3 ⟨ps, H3, I3, rel, q3⟩ => ⟨(x, y) :: ps, H3, I3, .cons ⟨rx, ry⟩ rel, q3⟩)

def mergeK (kvs more : List (Key × V)) : List (Key × V) := more.foldl (fun acc kv => putK acc kv.1 kv.2) kvs
theorem KV.merge : ∀ {more : List (Key × V)} {rs : List (Key × Value)} {kvs : List (Key × V)} {vs : List (Key × Value)}, KV more rs → KV kvs vs → KV (mergeK kvs more) (merged vs rs) := by
  intro more rs kvs vs r
  unfold KV at r
  induction r generalizing kvs vs with
  | nil => intro q; exact q
  | @cons p q ps qs h t ih =>
    intro r0
    have e : KV (putK kvs p.1 p.2) (stored vs q.1 q.2) := by
      have := r0.put p.1 h.2
      rw [← h.1]; exact this
    exact ih e
theorem length_mergeK : ∀ (more kvs : List (Key × V)), (mergeK kvs more).length ≤ kvs.length + more.length
  | [], kvs => by show kvs.length ≤ kvs.length + 0; omega
  | p :: r, kvs => by
    have h1 := length_mergeK r (putK kvs p.1 p.2)
    have h2 := length_putK kvs p.1 p.2
    show (mergeK (putK kvs p.1 p.2) r).length ≤ _
    rw [List.length_cons]; omega
theorem carries_of {P : Program} {w : World} : ∀ {kvs : List (Key × V)} {ws : List (Value × Value)}, VV (kvs.map fun kv => (kV kv.1, kv.2)) ws → ∃ rs, Carries (mixKind P w) ws rs ∧ KV kvs rs
  | [], _, r => by rw [List.map_nil] at r; cases r; exact ⟨[], True.intro, .nil⟩
  | p :: kvs, _, r => by
    rw [List.map_cons] at r
    cases r with
    | @cons a b as bs h t =>
      obtain ⟨rs, c, q⟩ := carries_of (P := P) (w := w) t
      obtain ⟨b1, b2⟩ := b
      exact ⟨(p.1, b2) :: rs, ⟨kV_is h.1, rfl, c⟩, .cons ⟨rfl, h.2⟩ q⟩
/-- {k: v, ..} with keys ints and texts; the new dict stands empty while the pairs are made -/
def tDisp (trs : List (TE × TE)) : TE := fun σ H Q => ∀ p, H p = none → tPairs trs σ (upd H p (.dK [])) fun ps H2 => H2 p = some (.dK []) ∧ ∃ kvs : List (Key × V), ps = kvs.map (fun kv => (kV kv.1, kv.2)) ∧ kvs.length ≤ 15 ∧ Q (.ref p) (upd H2 p (.dK (mergeK [] kvs)))
theorem pe_disp {X : Cx} {pos : Pos} {keys : List (Option Expr)} {values : List Expr} {trs : List (TE × TE)} (h : PPs X pos keys values trs) (hall : keys.all (·.isSome) = true) (hl : keys.length = values.length) (h0 : keys ≠ [])
    (h15 : keys.length ≤ 15) : PE X (.Dict keys values pos) (tDisp trs) := by
  intro pins s σ H Q I q
  have hn := I.hok.fresh (Nat.le_refl s.heap.objs.size)
  have I1 := I.laid (a := s.heap.objs.size) (o := .dK []) (h' := s.heap.push { cls := .type "dict", data := .dict #[] }) (t' := s.toks) (fun _ _ q => Heap.get?_push_of_some _ q) (Nat.le_refl _) (dk_empty s.heap I.big)
  refine wpAny_Dict_walk (knd := mixKind X.prog X.w) hall hl h0 h15 (thn (h pins _ σ _ _ I1 (q _ hn)) fun ws s2 ⟨ps, H2, I2, rel, e, kvs, ep, lk, q2⟩ => ?_)
  subst ep
  obtain ⟨rs, c, rk⟩ := carries_of (P := X.prog) (w := X.w) rel
  obtain ⟨z, hd, vs0, r0, dd⟩ := dk_of I2.hok e
  cases r0
  refine ⟨rs, c, dd, fun h' dd' hs => ⟨.ref s.heap.objs.size, _, ?_, rfl, q2⟩⟩
  have hz : (mergeK [] kvs).length ≤ sizeLine := by
    have h1 := length_mergeK kvs []
    rw [List.length_nil] at h1
    rw [sizeLine_eq]; omega
  have he : ∃ q, h'.get? s.heap.objs.size = some q := let ⟨q, _, _, hq, _⟩ := dd'; ⟨q, hq⟩
  exact d_write I2 (by rw [e]; exact True.intro) hs he (dk_new hz hd (rk.merge .nil) dd')


/-! ### methods -/
structure M2 (X : Cx) (o : Expr) (m : Str) (apos : Pos) (e f : Expr) (cpos : Pos) : Prop where
  base : attributeBase o m X.env (eval o X.env) = eval o X.env
  few : ((backTo cpos (starEach [e, f] X.env)).all (fun x => !x.1) && (backToKw cpos (keywordEach [] X.env)).all (fun x => x.1.isSome)
    && decide (([e, f] : List Expr).length + ([] : List Keyword).length + (if ([] : List Keyword).isEmpty then 0 else 1) < 30)) = true
  line : (apos.endLine == cpos.line) = true
  trees : backTo cpos (starEach [e, f] X.env) = [(false, eval e X.env), (false, eval f X.env)]

/-- a is a dict, whatever its keys -/
def IsD (H : Hp) (a : Addr) : Prop := (∃ kvs, Rd H a (.dK kvs)) ∨ ∃ kvs, Rd H a (.dT kvs)
theorem isD_at {X : Cx} {pins : List (Addr × Obj)} {σ : St} {H : Hp} {s : Shared} {a : Addr} (I : Inv X pins σ H s) (d : IsD H a) :
    s.TypeIs (.ref a) "dict" ∧ (∀ b, Value.ref a = .ref b → ∃ ob, s.heap.get? b = some ob ∧ ob.dict = none) ∧ (a == sysModules) = false := by
  rcases d with ⟨kvs, e⟩ | ⟨kvs, e⟩
  · obtain ⟨_, hd, vs, _, dd⟩ := dk_rd I.hok e
    refine ⟨dd.typeIs, fun b q => ?_, hd⟩
    cases q
    obtain ⟨ob, _, _, h1, h2, _⟩ := dd
    exact ⟨ob, h1, h2.2.1⟩
  · obtain ⟨_, hd, xs, _, dd⟩ := dt_rd I.hok e
    refine ⟨dd.typeIs, fun b q => ?_, hd⟩
    cases q
    obtain ⟨ob, _, _, h1, h2, _⟩ := dd
    exact ⟨ob, h1, h2.2.1⟩

section
variable {X : Cx} {pins : List (Addr × Obj)} {σ : St} {H : Hp} {s : Shared} {a : Addr} {y d : V} {u r : Value} {o : Option V} {A : Around} {E : Value → Shared → Prop}
/-- d.get(y, x) -/
theorem d_get2 {Q : Value → Shared → Prop} (hu : A.units + 1 < cLine) (I : Inv X pins σ H s) (g : DGet H a y o) (ry : RelV y u) (rd : RelV d r) (h : ∀ w' s', Inv X pins σ H s' → RelV (o.getD d) w' → Q w' s') :
    wpAny (model X.prog X.w) A (call (.builtin "dict.get") [.ref a, u, r]) Q E s := by
  rcases g with ⟨kvs, k, e, ey, l⟩ | ⟨kvs, k, b, e, ey, eb, l⟩
  · subst ey
    obtain ⟨z, hd, vs, rel, dd⟩ := dk_rd I.hok e
    refine call_meetsIn PySem.F.slot_dict_get dd.typeIs PySem.F.entry_dict_get (PySem.F.args_dict_get_3 _ _ _) (meets_dict_get_default (mixKind X.prog X.w) a (kV_is ry) hd r) ⟨_, dd.mapOf, h _ _ (I.tok _) ?_⟩
    rw [l]
    exact (rel.val k).getD rd
  · subst ey
    cases (show u = Value.ref b from ry)
    obtain ⟨z, hd, xs, rel, dd⟩ := dt_rd I.hok e
    refine call_meetsIn PySem.F.slot_dict_get dd.typeIs PySem.F.entry_dict_get (PySem.F.args_dict_get_3 _ _ _) (meetsH_dict_get_default (tupleKind (mixKind X.prog X.w)) a b hd r) ⟨tupleKind_room_in1 hu, k, xs, key_of I.hok eb, dd, h _ _ (I.tok _) ?_⟩
    rw [l]
    exact (rel.val k).getD rd
end

def tDGet2 (td ty tx : TE) : TE := fun σ H Q => td σ H fun x H1 => ∃ a, x = .ref a ∧ IsD H1 a ∧ ty σ H1 fun y H2 => tx σ H2 fun z H3 => ∃ o, DGet H3 a y o ∧ Q (o.getD z) H3
section
variable {X : Cx} {o e f : Expr} {apos cpos : Pos} {td ty tx : TE}
theorem pe_dget2 (hu : X.A.units + 1 < cLine) (ho : PE X o td) (he : PE X e ty) (hf : PE X f tx) (m : M2 X o "get" apos e f cpos) : PE X (.Call (.Attribute o "get" apos) [e, f] [] cpos) (tDGet2 td ty tx) := by
  intro pins s σ H Q I h
  refine wpAny_Call_method m.base m.few m.line PySem.F.plainAttrs_dict PySem.F.slot_dict_get PySem.F.type_dict_get (thn (ho pins s σ H _ I h) fun u s1 ⟨x, H1, I1, rx, a, ex, d, q1⟩ => ?_)
  subst ex
  obtain rfl : u = Value.ref a := rx
  obtain ⟨t1, t2, _⟩ := isD_at I1 d
  refine ⟨t1, t2, ?_⟩
  rw [m.trees]
  refine Calls.callWith_builtin rfl (Calls.evalArgs_plain (Calls.spliced_cons (thn (he pins s1 σ H1 _ I1 q1) fun iv s2 ⟨y, H2, I2, ry, q2⟩ =>
    Calls.spliced_cons (thn (hf pins s2 σ H2 _ I2 q2) fun fv s3 ⟨z, H3, I3, rz, ov, g, q3⟩ => Calls.spliced_nil ?_))))
  exact d_get2 hu I3 g ry rz fun w' s4 I4 rw' => ⟨_, H3, I4, rw', q3⟩
end

/-! ### dict(d): a copy -/
section
variable {X : Cx} {pins : List (Addr × Obj)} {σ : St} {H : Hp} {s : Shared} {a : Addr} {kvs : List (Key × V)} {A : Around} {E : Value → Shared → Prop}
end


section
variable {X : Cx} {pins : List (Addr × Obj)} {σ : St} {H : Hp} {s : Shared} {a : Addr} {y : V} {u : Value} {A : Around} {E : Value → Shared → Prop}
end
end L2

namespace L2
open PySem PySem.Spec PyProof.Rows
/-! ### a dict's pairs: keys that differ -/
section
variable {κ : Type} [DecidableEq κ]
end
end L2

set_option Elab.async false
set_option linter.all false
set_option maxRecDepth 100000
set_option maxHeartbeats 4000000
namespace L2
open PySem PySem.Spec PyProof.Rows
section
variable {X : Cx} {pins : List (Addr × Obj)} {σ : List (Option V)} {H H' : Hp} {s : Shared} {h' : Heap}
/-- a dict is known by its object from now on -/
theorem Inv.freeze {d : Addr} {kvs : List (Key × V)} {o : Obj} (I : Inv X pins σ H s) (hd : H d = some (.dK kvs)) (ho : s.heap.get? d = some o) : Inv X pins σ (upd H d (.frz o (.dK kvs))) s := by
  have hok : HOk X.prog X.w (upd H d (.frz o (.dK kvs))) s.heap := fun b u e => by
    by_cases hb : b = d
    · subst hb; rw [upd_same] at e; cases e
      exact ⟨ho, (I.hok b _ hd).stay (fun c v _ q => q) (fun c q => by rw [upd_ne (ne_of q hd (fun z => nomatch z))]; exact q) fun c xs q => by rw [upd_ne (ne_of q hd (fun z => nomatch z))]; exact q⟩
    · rw [upd_ne hb] at e
      exact (I.hok b u e).stay (fun c v _ q => q) (fun c q => by rw [upd_ne (ne_of q hd (fun z => nomatch z))]; exact q) fun c xs q => by rw [upd_ne (ne_of q hd (fun z => nomatch z))]; exact q
  exact I.step (h' := s.heap) (H' := upd H d (.frz o (.dK kvs))) (g' := s.gens) (t' := s.toks) (d' := s.drawn) (ch := []) (fun _ z => nomatch z) (fun b o _ _ _ e _ => e) (fun b o _ _ _ e _ => ⟨o.slots, e⟩)
    (fun b u _ e n => by rw [upd_ne (fun z => by rw [z, hd] at n; cases n)]; exact n) (fun b o _ e => ⟨o, e⟩)
    (fun b xs e => by rw [upd_ne (ne_of e hd (fun z => nomatch z))]; exact e) (fun b u xs e => by rw [upd_ne (ne_of e hd (fun z => nomatch z))]; exact e) (fun b ps e => ⟨#[], by rw [upd_ne (ne_of e hd (fun z => nomatch z)), e]; simp⟩) (fun m hm => hm) hok I.bare
end
/-- the pairs of the dict at d, known -/
def Itd (d : Addr) (o : Obj) (kvs : List (Key × V)) : It :=
  ⟨fun i H => H d = some (.frz o (.dK kvs)) ∧ i < kvs.length, fun i H v H' => ∃ t p, v = .ref t ∧ H t = none ∧ H' = upd H t (.tup [kV p.1, p.2]) ∧ kvs[i]? = some p, fun i H => H d = some (.frz o (.dK kvs)) ∧ kvs.length ≤ i⟩
theorem rel_kV {P : Program} {w : World} {k : Key} {u : Value} (h : (mixKind P w).is k u = true) : RelV (kV k) u := by
  rcases keyIs_shape (show keyIs k u = true from h) with ⟨i, t, rfl, rfl⟩ | ⟨x, t, rfl, rfl⟩
  · exact ⟨t, rfl⟩
  · exact ⟨t, rfl⟩
theorem KV.at {kvs : List (Key × V)} {vs : List (Key × Value)} (r : KV kvs vs) : ∀ {i : Nat} {p : Key × V}, kvs[i]? = some p → ∃ v, vs[i]? = some (p.1, v) ∧ RelV p.2 v := by
  unfold KV at r
  induction r with
  | nil => intro i p e; simp at e
  | @cons a b as bs h t ih =>
    intro i p e
    cases i with
    | zero => simp at e; subst e; exact ⟨b.2, by simp [h.1], h.2⟩
    | succ i => simp at e ⊢; exact ih e
theorem turn_items {P : Program} {w : World} {K : PySem.W.Frag} {elts : List Expr} {kk : Nat} {tp : Pos} (d it : Addr) (o : Obj) (kvs : List (Key × V)) (es : Array DictEntry) (ep : Nat) (hod : o.data = .dict es ep)
    (hself : ∀ (A : Around) (i : Nat) (s : Shared) (Q : Value → Shared → Prop) (E : Value → Shared → Prop), (∃ ok ov, IsItemIter s.heap it d i kvs.length ep ok ov) → Q (.ref it) s → wpAny (model P w) A (pyIter (.ref it)) Q E s) :
    Turn P w K (.Tuple elts kk tp) (Itd d o kvs) [it] it (fun i h => ∃ ok ov, IsItemIter h it d i kvs.length ep ok ov) where
  mem := by simp
  obj := fun i h st b hb => by
    have e : b = it := by simpa using hb
    subst e
    obtain ⟨ok, ov, e⟩ := st
    exact ⟨_, e, fun v z => nomatch z⟩
  keep := fun i h h' st k => by
    obtain ⟨ok, ov, e⟩ := st
    exact ⟨ok, ov, k it (by simp) _ e⟩
  item := by
    intro X hP hw hK hc i pins s σ H E I hf st hg
    subst hP hw hK
    obtain ⟨hd, hi⟩ := hg
    obtain ⟨ok, ov, h1⟩ := st
    obtain ⟨ho, hz, hm, vs, rel, o', es', ep', h2, h3, h4, h5, h6, h7⟩ := (show ObjOk X.prog X.w H s.heap d (.frz o (.dK kvs)) from I.hok d _ hd)
    obtain rfl : o = o' := by rw [ho] at h2; exact Option.some.inj h2
    obtain ⟨rfl, rfl⟩ : es = es' ∧ ep = ep' := by rw [hod] at h4; exact ⟨by cases h4; rfl, by cases h4; rfl⟩
    have hp : kvs[i]? = some kvs[i] := by simp [hi]
    obtain ⟨v, hv, rv⟩ := rel.at hp
    rw [rel.length] at h1
    refine wpAny_pyNext_items_item (knd := mixKind X.prog X.w) h1 ⟨o, es, h2, h3, h4, h5, h6, h7⟩ hv fun key hA hk heo ht1 hz1 hk1 => ?_
    refine ⟨_, rfl, wpAny_letOwnedTupleGo_items heo fun hB he2 hs2 => ?_⟩
    have hs2 : Heap.SameBut it hA hB := hs2
    have hel : it < s.heap.objs.size := Heap.lt_size h1
    have hsz : H s.heap.objs.size = none := I.hok.fresh (Nat.le_refl _)
    have hpres : ∀ b o, b ∉ [it] → s.heap.get? b = some o → hB.get? b = some o := fun b o hb z => by
      have hb' : b ≠ it := by simpa using hb
      exact hs2.extBut b o hb' (hk1 b o hb' z)
    have I1 : Inv X pins σ H { s with heap := hB, toks := s.toks } := I.turnedL (t' := s.toks) hpres hf
    have ht2 : hB.get? s.heap.objs.size = some { cls := .type "tuple", data := .seq #[key, v] } := hs2.extBut _ _ (Nat.ne_of_gt hel) ht1
    have fpt : FpOk X pins H s.heap.objs.size := I.fpOk (Nat.le_refl _) hsz
    have I2 := I1.track (o := .tup [kV kvs[i].1, kvs[i].2]) fpt ⟨by show 2 ≤ sizeLine; decide, [key, v], .cons (rel_kV hk) (.cons rv .nil), ⟨_, ht2, rfl, 0, rfl⟩⟩
    refine ⟨.ref s.heap.objs.size, _, I2, rfl, ⟨_, kvs[i], rfl, hsz, rfl, hp⟩, ⟨key, v, ?_⟩, fun b hb => ?_⟩
    · rw [rel.length]; exact he2
    · have e : b = it := by simpa using hb
      rw [e, upd_ne (Nat.ne_of_lt hel)]
      exact (hf it (by simp)).1
  done := by
    intro X hP hw hK hc i pins s σ H E I hf st hg
    subst hP hw hK
    obtain ⟨hd, hi⟩ := hg
    obtain ⟨ok, ov, h1⟩ := st
    obtain ⟨ho, hz, hm, vs, rel, o', es', ep', h2, h3, h4, h5, h6, h7⟩ := (show ObjOk X.prog X.w H s.heap d (.frz o (.dK kvs)) from I.hok d _ hd)
    obtain rfl : o = o' := by rw [ho] at h2; exact Option.some.inj h2
    obtain ⟨rfl, rfl⟩ : es = es' ∧ ep = ep' := by rw [hod] at h4; exact ⟨by cases h4; rfl, by cases h4; rfl⟩
    rw [rel.length] at h1 hi
    exact wpAny_pyNext_items_end (knd := mixKind X.prog X.w) (I.ok.hd hc) h1 ⟨o, es, h2, h3, h4, h5, h6, h7⟩ (by simp; omega) fun hA eb => ⟨rfl, I.turnedL (t' := s.toks) (fun b o hb z => eb b o (fun y => hb (by simp [y])) z) hf⟩
  self := fun A i s Q E st h => hself A i s Q E st h
/-- d.items() -/
def iItems (td : TE) : TI := fun σ H R => td σ H fun x H1 => ∃ d kvs, x = .ref d ∧ H1 d = some (.dK kvs) ∧ ∀ o, R (Itd d o kvs) (upd H1 d (.frz o (.dK kvs)))
section
variable {X : Cx}
theorem pi_items {o : Expr} {elts : List Expr} {kk : Nat} {tp apos cpos : Pos} {td : TE} (ho : PE X o td) (hbase : attributeBase o "items" X.env (eval o X.env) = eval o X.env := by rfl) (hline : (apos.endLine == cpos.line) = true := by rfl) :
    PI X (.Tuple elts kk tp) (.Call (.Attribute o "items" apos) [] [] cpos) (iItems td) := by
  intro pins s σ H R I h
  refine wpAny_Call_method0_late hbase hline (thn (ho pins s σ H _ I h) fun v s1 ⟨x, H1, I1, r1, d, kvs, ex, hd, q1⟩ => ?_)
  subst ex
  obtain rfl : v = Value.ref d := r1
  obtain ⟨hz, hm, vs, rel, o', es, ep, h2, h3, h4, h5, h6, h7⟩ := dk_of I1.hok hd
  have dd : s1.heap.DictOf (mixKind X.prog X.w) d vs := ⟨o', es, ep, h2, h3, h4, h5, h6, h7⟩
  refine ⟨"dict", "dict.items", PySem.F.plainAttrs_dict, PySem.F.slot_dict_items, PySem.F.type_dict_items, dd.typeIs, fun b e => by cases e; exact ⟨o', h2, h3.2.1⟩, ?_⟩
  refine Calls.callWith_builtin rfl (PySem.evalArgs_none ?_)
  refine call_meetsIn PySem.F.slot_dict_items dd.typeIs PySem.F.entry_dict_items (PySem.F.args_dict_items_1 _) (meets_dict_items (mixKind X.prog X.w) d hm) ⟨⟨vs, dd⟩, ?_⟩
  have I2 : Inv X pins σ H1 { s1 with heap := s1.heap.push { cls := .type "dict_items", data := .fields #[.ref d] } } := I1.kept (t' := s1.toks) fun b u e => Heap.get?_push_of_some _ e
  refine wpAny_pyIter_items (knd := mixKind X.prog X.w) (kvs := vs) (ep := ep) ⟨_, Heap.get?_push_size _ rfl, rfl, rfl⟩ ⟨o', es, Heap.get?_push_of_some _ h2, h3, h4, h5, h6, h7⟩ ?_
  have I3 := I2.kept (t' := s1.toks) (h' := (s1.heap.push { cls := .type "dict_items", data := .fields #[.ref d] }).push { cls := .type "dict_itemiterator", data := .fields #[.none, .bool false, .ref d, .int 0 0, .int vs.length 0, .int ep 0, .none, .none] }) fun b u e => Heap.get?_push_of_some _ e
  have I4 := I3.freeze hd (Heap.get?_push_of_some _ (Heap.get?_push_of_some _ h2))
  refine ⟨(s1.heap.push { cls := .type "dict_items", data := .fields #[.ref d] }).objs.size, [(s1.heap.push { cls := .type "dict_items", data := .fields #[.ref d] }).objs.size], _, _, _, rfl, I4, turn_items d _ o' kvs es ep h4 (fun A i s Q E st h => by obtain ⟨ok, ov, z⟩ := st; exact PySem.W.kcp_self z h), ⟨.none, .none, ?_⟩, fun b hb => ?_, q1 o'⟩
  · rw [rel.length]; exact Heap.get?_push_size _ rfl
  · have e : b = (s1.heap.push { cls := .type "dict_items", data := .fields #[.ref d] }).objs.size := by simpa using hb
    subst e
    have nd : d < (s1.heap.push { cls := .type "dict_items", data := .fields #[.ref d] }).objs.size := Heap.lt_size (Heap.get?_push_of_some _ h2)
    refine I2.fpOk (Nat.le_refl _) ?_
    rw [upd_ne (Nat.ne_of_gt nd)]
    exact I2.hok.fresh (Nat.le_refl _)
end
theorem forI {d : Addr} {o : Obj} {kvs : List (Key × V)} {g : TG} {tb : TS} {D : Ends} {σ : St} {H : Hp} (Pv : Nat → St → Hp → Prop) (h0 : Pv 0 σ H) (hl : ∀ i σ H, i ≤ kvs.length → Pv i σ H → H d = some (.frz o (.dK kvs)))
    (hs : ∀ i p σ H, kvs[i]? = some p → Pv i σ H → ∀ t, H t = none → g (.ref t) σ (upd H t (.tup [kV p.1, p.2])) fun σ2 H2 => tb { D with nx := Pv (i + 1), ct := Pv (i + 1), bk := D.nx } σ2 H2) (hd : ∀ σ H, Pv kvs.length σ H → D.nx σ H) :
    ForW (Itd d o kvs) g tb D σ H := by
  refine ⟨fun i m σ H => m = kvs.length - i ∧ i ≤ kvs.length ∧ Pv i σ H, ⟨kvs.length, by simp, Nat.zero_le _, h0⟩, ?_⟩
  rintro i m σ H ⟨rfl, hi, p⟩
  have q := hl i σ H hi p
  by_cases hlt : i < kvs.length
  · refine .inr ⟨⟨q, hlt⟩, Pv (i + 1), fun σ' H' p' => ⟨kvs.length - (i + 1), by omega, rfl, hlt, p'⟩, fun v H' y => ?_⟩
    obtain ⟨t, x, rfl, hn, rfl, y⟩ := y
    exact hs i x σ _ y p t hn
  · have e : i = kvs.length := by omega
    subst e
    exact .inl ⟨⟨q, Nat.le_refl _⟩, hd σ H p⟩
theorem g_iitems {td : TE} {σ : St} {H : Hp} {R : It → Hp → Prop} (h : td σ H fun x H1 => ∃ d kvs, x = .ref d ∧ H1 d = some (.dK kvs) ∧ ∀ o, R (Itd d o kvs) (upd H1 d (.frz o (.dK kvs)))) : iItems td σ H R := h

/-! ### comprehensions over pairs -/
structure GoesP (J : It) (H1 : Hp) (xs : List (V × V)) : Prop where
  go : ∀ i H', Same H1 H' → i < xs.length → J.go i H'
  yld : ∀ i H' x H'', Same H1 H' → i < xs.length → J.yld i H' x H'' → ∃ t p, x = .ref t ∧ H' t = none ∧ H'' = upd H' t (.tup [p.1, p.2]) ∧ xs[i]? = some p
  stop : ∀ H', Same H1 H' → J.stop xs.length H'
theorem goes_items {d : Addr} {o : Obj} {kvs : List (Key × V)} {H1 : Hp} (h : H1 d = some (.frz o (.dK kvs))) : GoesP (Itd d o kvs) H1 (kvs.map fun p => (kV p.1, p.2)) := by
  refine ⟨fun i H' e hi => ⟨e _ _ h, by simpa using hi⟩, fun i H' x H'' e hi y => ?_, fun H' e => ⟨e _ _ h, by simp⟩⟩
  obtain ⟨t, p, rfl, hn, rfl, y⟩ := y
  exact ⟨t, (kV p.1, p.2), rfl, hn, rfl, by rw [List.getElem?_map, y]; rfl⟩
theorem comp_genP (K : PySem.W.Frag) {α : Type} {J : It} {src : List α} {gv : α → V × V} {mp : List (Option Nat)} {σ : St} {H1 : Hp} {ti : TT} {te : TE} {Dd : Addr} {Q : VK} (p : α → Bool) (F : α → V → Hp → Prop) (G : GoesP J H1 (src.map gv)) (hD : H1 Dd = none) (hz : src.length ≤ sizeLine)
    (Fm : ∀ a y H H', (∀ b o, b ≠ Dd → H b = some o → H' b = some o) → F a y H → F a y H')
    (ht : ∀ a ∈ src, ∀ (H' : Hp) (R : Bool → Hp → Prop), Same H1 H' → (∀ H'', Same H' H'' → R (p a) H'') → ti (((pick mp σ).set 0 (some (gv a).1)).set 1 (some (gv a).2)) H' R)
    (he : ∀ a ∈ src, p a = true → ∀ (H' : Hp) (R : VK), Same H1 H' → H' Dd ≠ none → (∀ y H'', Same H' H'' → F a y H'' → R y H'') → te (((pick mp σ).set 0 (some (gv a).1)).set 1 (some (gv a).2)) H' R)
    (q : ∀ H' ys, Same H1 H' → H' Dd = some (.lst ys) → All2 (fun x y => F x y H') (src.filter p) ys → Q (.ref Dd) H') :
    CompW J mp (gTup K 2 (gCons (gName 0) (gCons (gName 1) gNil))) ti te Dd Q σ H1 := by
  let W : Nat → Nat → St → Hp → Prop := fun i m σ' H' => m = src.length - i ∧ i ≤ src.length ∧ (∀ v u, (σ'.set 0 (some v)).set 1 (some u) = ((pick mp σ).set 0 (some v)).set 1 (some u)) ∧ Same H1 H' ∧ ∃ ys, H' Dd = some (.lst ys) ∧ All2 (fun x y => F x y H') ((src.take i).filter p) ys
  have hlm : (src.map gv).length = src.length := List.length_map ..
  refine ⟨W, ⟨src.length, by simp, Nat.zero_le _, fun v u => rfl, same_upd (Same.refl _) hD, [], upd_same, by simpa using All2.nil⟩, ?_⟩
  rintro i m σ' H' ⟨rfl, hi, hσ, hS, ys, hy, ha⟩
  by_cases hlt : i < src.length
  · refine .inr ⟨G.go i H' hS (by rw [hlm]; exact hlt), fun σ2 H2 => W (i + 1) (src.length - (i + 1)) σ2 H2, fun σ2 H2 w => ⟨_, by omega, w⟩, fun x H'' y => ?_⟩
    obtain ⟨t, pr, rfl, htn, rfl, hx⟩ := G.yld i H' x H'' hS (by rw [hlm]; exact hlt) y
    obtain ⟨a, hxa, rfl⟩ : ∃ a, src[i]? = some a ∧ gv a = pr := by
      rw [List.getElem?_map] at hx
      cases e : src[i]? with
      | none => rw [e] at hx; cases hx
      | some a => rw [e] at hx; exact ⟨a, rfl, Option.some.inj hx⟩
    have hm : a ∈ src := List.mem_of_getElem? hxa
    have hS1 : Same H' (upd H' t (.tup [(gv a).1, (gv a).2])) := same_upd (Same.refl _) htn
    refine g_pair (SqT.of upd_same) ?_
    rw [hσ (gv a).1 (gv a).2]
    have hset : ∀ v u, (((((pick mp σ).set 0 (some (gv a).1)).set 1 (some (gv a).2)).set 0 (some v)).set 1 (some u)) = ((pick mp σ).set 0 (some v)).set 1 (some u) := fun v u => by
      rw [List.set_comm (some (gv a).2) (some v) (by decide : (1 : Nat) ≠ 0), List.set_set, List.set_set]
    have htk : (src.take (i + 1)).filter p = (src.take i).filter p ++ (if p a then [a] else []) := take_succ_filter p src i a hxa
    refine ht a hm _ _ (hS.trans hS1) fun H3 s3' => ?_
    have s3 : Same H' H3 := hS1.trans s3'
    have hS3 : Same H1 H3 := hS.trans s3
    have hy3 : H3 Dd = some (.lst ys) := s3 _ _ hy
    have ha3 : All2 (fun x y => F x y H3) ((src.take i).filter p) ys := ha.mono fun a b f => Fm a b _ _ (fun c o _ e => s3 c o e) f
    cases hp : p a with
    | false =>
      rw [if_neg Bool.false_ne_true]
      refine ⟨rfl, hlt, hset, hS3, ys, hy3, ?_⟩
      rw [htk, hp]
      simpa using ha3
    | true =>
      rw [if_pos rfl]
      refine he a hm hp H3 _ hS3 (by rw [hy3]; exact fun z => nomatch z) fun y H4 s4 f => ?_
      have hy4 : H4 Dd = some (.lst ys) := s4 _ _ hy3
      have hlen : ys.length ≤ i := by
        rw [ha.length]
        exact Nat.le_trans (List.length_filter_le _ _) (by rw [List.length_take]; omega)
      refine ⟨ys, hy4, by omega, rfl, hlt, hset, same_upd (hS3.trans s4) hD, ys ++ [y], upd_same, ?_⟩
      rw [htk, hp]
      have up : ∀ (c : Addr) (o : HO), c ≠ Dd → H4 c = some o → upd H4 Dd (.lst (ys ++ [y])) c = some o := fun c o hc e => by rw [upd_ne hc]; exact e
      exact All2.snoc (ha3.mono fun a b f' => Fm a b _ _ (fun c o hc e => up c o hc (s4 c o e)) f') (Fm a y _ _ up f)
  · have e : i = src.length := by omega
    subst e
    rw [List.take_length] at ha
    exact .inl ⟨by rw [← hlm]; exact G.stop H' hS, q H' ys hS hy ha⟩
theorem comp_pureP (K : PySem.W.Frag) {α : Type} {J : It} {src : List α} {gv : α → V × V} {mp : List (Option Nat)} {σ : St} {H1 : Hp} {ti : TT} {te : TE} {Dd : Addr} {Q : VK} (p : α → Bool) (f : α → V) (G : GoesP J H1 (src.map gv)) (hD : H1 Dd = none) (hz : src.length ≤ sizeLine)
    (ht : ∀ a ∈ src, ∀ (H' : Hp) (R : Bool → Hp → Prop), Same H1 H' → (∀ H'', Same H' H'' → R (p a) H'') → ti (((pick mp σ).set 0 (some (gv a).1)).set 1 (some (gv a).2)) H' R)
    (he : ∀ a ∈ src, p a = true → ∀ (H' : Hp) (R : VK), Same H1 H' → (∀ H'', Same H' H'' → R (f a) H'') → te (((pick mp σ).set 0 (some (gv a).1)).set 1 (some (gv a).2)) H' R)
    (q : ∀ H', Same H1 H' → H' Dd = some (.lst ((src.filter p).map f)) → Q (.ref Dd) H') :
    CompW J mp (gTup K 2 (gCons (gName 0) (gCons (gName 1) gNil))) ti te Dd Q σ H1 :=
  comp_genP K p (fun x y _ => y = f x) G hD hz (fun _ _ _ _ _ h => h) ht (fun x hx hp H' R s1 _ k => he x hx hp H' R s1 fun H'' s2 => k _ H'' s2 rfl)
    fun H' ys s1 hy ha => q H' s1 (by rw [hy, ha.map])
end L2

set_option linter.all false
/-! Wordrace: rows counted by their states. -/
namespace My
open Wr
abbrev Cnt := List (Tx × Int)
def cget (m : Cnt) (k : Tx) : Int := ((m.find? fun p => decide (p.1 = k)).map (·.2)).getD 0
def cput (m : Cnt) (k : Tx) (v : Int) : Cnt := if (m.any fun p => decide (p.1 = k)) = true then m.map (fun p => if p.1 = k then (p.1, v) else p) else m ++ [(k, v)]
def cadd (m : Cnt) (k : Tx) (n : Int) : Cnt := cput m k (cget m k + n)
def putS (ws : List Tx) (p : Tx × Int) (l : List Nat) (acc : Cnt) : Cnt := l.foldl (fun acc c => cadd acc (stF ws (p.1 ++ [c])) p.2) acc
def stepC (ws : List Tx) (G : Nat) (l : Cnt) (acc : Cnt) : Cnt := l.foldl (fun acc p => if p.1 ∈ ws then acc else putS ws p (abcd.take G) acc) acc
def cntR (ws : List Tx) (G : Nat) : Nat → Cnt
  | 0 => [([], 1)]
  | n + 1 => stepC ws G (cntR ws G n) []
abbrev keys (m : Cnt) : List Tx := m.map (·.1)
/-- keys that differ, each a beginning -/
structure CntOk (ws : List Tx) (m : Cnt) : Prop where
  nd : (keys m).Nodup
  beg : ∀ k ∈ keys m, Beg ws k
theorem any_key {m : Cnt} {k : Tx} : (m.any fun p => decide (p.1 = k)) = true ↔ k ∈ keys m := by
  rw [List.any_eq_true]
  constructor
  · rintro ⟨p, h1, h2⟩; exact List.mem_map.mpr ⟨p, h1, of_decide_eq_true h2⟩
  · intro h; obtain ⟨p, h1, h2⟩ := List.mem_map.mp h; exact ⟨p, h1, decide_eq_true h2⟩
theorem keys_cput {m : Cnt} {k : Tx} {v : Int} : keys (cput m k v) = if k ∈ keys m then keys m else keys m ++ [k] := by
  unfold cput
  by_cases h : k ∈ keys m
  · rw [if_pos (any_key.mpr h), if_pos h]
    unfold keys
    rw [List.map_map]
    apply List.map_congr_left
    intro p hp
    show (if p.1 = k then (p.1, v) else p).1 = p.1
    split <;> rfl
  · rw [if_neg (fun z => h (any_key.mp z)), if_neg h]
    simp [keys]
theorem CntOk.put {ws : List Tx} {m : Cnt} (h : CntOk ws m) {k : Tx} {v : Int} (hk : Beg ws k) : CntOk ws (cput m k v) := by
  refine ⟨?_, fun t ht => ?_⟩
  · rw [keys_cput]
    split
    · exact h.nd
    · rename_i hn
      rw [List.nodup_append]
      refine ⟨h.nd, by simp, fun a ha b hb => ?_⟩
      simp at hb
      subst hb
      exact fun z => hn (z ▸ ha)
  · rw [keys_cput] at ht
    split at ht
    · exact h.beg t ht
    · rcases List.mem_append.mp ht with z | z
      · exact h.beg t z
      · simp at z; subst z; exact hk
theorem CntOk.putS {ws : List Tx} (hw : ws ≠ []) {p : Tx × Int} : ∀ {l : List Nat} {m : Cnt}, CntOk ws m → CntOk ws (putS ws p l m)
  | [], m, h => h
  | c :: l, m, h => by
    show CntOk ws (My.putS ws p l (cadd m (stF ws (p.1 ++ [c])) p.2))
    exact CntOk.putS hw (h.put (stF_beg hw _))
theorem CntOk.step {ws : List Tx} (hw : ws ≠ []) {G : Nat} : ∀ {l m : Cnt}, CntOk ws m → CntOk ws (stepC ws G l m)
  | [], m, h => h
  | p :: l, m, h => by
    show CntOk ws (stepC ws G l (if p.1 ∈ ws then m else My.putS ws p (abcd.take G) m))
    refine CntOk.step hw ?_
    split
    · exact h
    · exact h.putS hw
theorem cnt_nil (ws : List Tx) : CntOk ws [] := ⟨List.nodup_nil, fun k hk => by simp at hk⟩
theorem cntR_ok {ws : List Tx} (hw : ws ≠ []) (G : Nat) : ∀ n, CntOk ws (cntR ws G n)
  | 0 => ⟨by simp [cntR], fun k hk => by simp [cntR] at hk; subst hk; exact beg_nil hw⟩
  | n + 1 => (cnt_nil ws).step hw
/-- the open ones of the counts, together; the counts at the words -/
def openC (ws : List Tx) (m : Cnt) : Int := ((m.filter fun p => !decide (p.1 ∈ ws)).map (·.2)).sum
def endC (ws : List Tx) (m : Cnt) : List Int := ws.map fun w => cget m w
/-! nothing is below nought -/
end My

set_option Elab.async false
set_option linter.all false
set_option maxRecDepth 100000
set_option maxHeartbeats 4000000
namespace My
open PySem L2 PySem.Spec PyProof.Rows Wr
/-- counts as a dict's pairs -/
abbrev kvC (m : Cnt) : List (Key × V) := m.map fun p => ((Sum.inr (S p.1) : Key), V.int p.2)
theorem inr_S {a b : List Nat} : ((Sum.inr (S a) : Key) = Sum.inr (S b)) ↔ a = b :=
  ⟨fun h => S_inj.mp (Sum.inr.inj h), fun h => by rw [h]⟩
theorem valV_kvC (k : Tx) : ∀ m : Cnt, valV (kvC m) (Sum.inr (S k)) = (m.find? fun p => decide (p.1 = k)).map fun p => V.int p.2
  | [] => rfl
  | p :: m => by
    by_cases e : p.1 = k
    · rw [show kvC (p :: m) = ((Sum.inr (S p.1) : Key), V.int p.2) :: kvC m from rfl, valV_pos (by rw [e]), List.find?_cons]
      simp [e]
    · rw [show kvC (p :: m) = ((Sum.inr (S p.1) : Key), V.int p.2) :: kvC m from rfl, valV_neg (fun z => e (inr_S.mp z)), valV_kvC k m, List.find?_cons]
      simp [e]
theorem getD_kvC (m : Cnt) (k : Tx) : (valV (kvC m) (Sum.inr (S k))).getD (.int 0) = V.int (cget m k) := by
  rw [valV_kvC]
  unfold cget
  cases m.find? fun p => decide (p.1 = k) <;> rfl
theorem putK_kvC (m : Cnt) (k : Tx) (v : Int) : putK (kvC m) (Sum.inr (S k)) (V.int v) = kvC (cput m k v) := by
  have ha : ((kvC m).any fun kv => decide (kv.1 = (Sum.inr (S k) : Key))) = m.any fun p => decide (p.1 = k) := by
    rw [List.any_map]
    apply congrArg (fun f => m.any f)
    funext p
    simp only [Function.comp, inr_S]
  unfold putK cput
  rw [ha]
  split
  · rw [List.map_map, kvC, List.map_map]
    apply List.map_congr_left
    intro p _
    simp only [Function.comp, inr_S]
    split <;> rfl
  · simp
theorem kvC_len (m : Cnt) : (kvC m).length = m.length := List.length_map ..
theorem kvC_at {m : Cnt} {i : Nat} (h : i < m.length) : (kvC m)[i]? = some ((Sum.inr (S m[i].1) : Key), V.int m[i].2) := by
  rw [List.getElem?_map, List.getElem?_eq_getElem h]; rfl
theorem cnt_few {n : Nat} {ws : List (List Nat)} (R : RaceOk n ws) {m : Cnt} (h : CntOk ws m) : m.length ≤ 25 := by
  have h1 := len_of_subset (l := keys m) (m := begT ws) h.nd fun t ht => (begT_mem R.race.ne).mpr (h.beg t ht)
  have h2 := begT_len R.w
  have := R.hi
  unfold begT at h1
  rw [List.length_cons, List.length_map] at h1
  omega
theorem RaceOk.take {n : Nat} {ws : List (List Nat)} (R : RaceOk n ws) {k : Nat} (hk : 1 ≤ k) : RaceOk n (ws.take k) :=
  ⟨by rw [List.length_take]; have := R.lo; omega, by rw [List.length_take]; have := R.hi; omega, fun l hl => R.w l (List.mem_of_mem_take hl), R.apart.sublist (List.take_sublist k ws)⟩
theorem stepC_take (ws : List Tx) (G : Nat) (l acc : Cnt) (i : Nat) (h : i < l.length) :
    stepC ws G (l.take (i + 1)) acc = if l[i].1 ∈ ws then stepC ws G (l.take i) acc else putS ws l[i] (abcd.take G) (stepC ws G (l.take i) acc) := by
  unfold stepC
  rw [List.take_succ_eq_append_getElem h, List.foldl_append]
  rfl
theorem putS_take (ws : List Tx) (p : Tx × Int) (l : List Nat) (acc : Cnt) (i : Nat) (h : i < l.length) :
    putS ws p (l.take (i + 1)) acc = cadd (putS ws p (l.take i) acc) (stF ws (p.1 ++ [l[i]])) p.2 := by
  unfold putS
  rw [List.take_succ_eq_append_getElem h, List.foldl_append]
  rfl
end My
namespace L2
open PySem PySem.Spec PyProof.Rows My Wr
/-- d.get(k, 0), d[k] = v, d[k] in their readings -/
theorem g_dget2 {td ty tx : TE} {σ : St} {H : Hp} {Q : VK} (h : td σ H fun x H1 => ∃ a, x = .ref a ∧ IsD H1 a ∧ ty σ H1 fun y H2 => tx σ H2 fun z H3 => ∃ o, DGet H3 a y o ∧ Q (o.getD z) H3) : tDGet2 td ty tx σ H Q := h
theorem g_dput {td ty tv : TE} {D : Ends} {σ : St} {H : Hp} (h : tv σ H fun v H1 => td σ H1 fun x H2 => ty σ H2 fun y H3 => ∃ a H4, x = .ref a ∧ DPut H3 a y v H4 ∧ D.nx σ H4) : sDPut td ty tv D σ H := h
theorem g_dnew {σ : St} {H : Hp} {Q : VK} (h : ∀ p, H p = none → Q (.ref p) (upd H p (.dK []))) : tDNewK σ H Q := h
theorem g_disp1 {tk tv : TE} {σ : St} {H : Hp} {Q : VK} (h : ∀ p, H p = none → tk σ (upd H p (.dK [])) fun x H1 => tv σ H1 fun y H2 => H2 p = some (.dK []) ∧ ∃ kvs : List (Key × V), [(x, y)] = kvs.map (fun kv => (kV kv.1, kv.2)) ∧ kvs.length ≤ 15 ∧ Q (.ref p) (upd H2 p (.dK (mergeK [] kvs)))) : tDisp [(tk, tv)] σ H Q := h
theorem g_leaf1 {k : List Nat} {n : Int} {R : Hp → Prop} {p : Addr} {H : Hp} (h : R (upd H p (.dK (kvC [(k, n)])))) : ∃ kvs : List (Key × V), [(V.str (S k), V.int n)] = kvs.map (fun kv => (kV kv.1, kv.2)) ∧ kvs.length ≤ 15 ∧ R (upd H p (.dK (mergeK [] kvs))) :=
  ⟨[((Sum.inr (S k) : Key), V.int n)], rfl, (by show (1 : Nat) ≤ 15; decide), h⟩
theorem dgetC {H : Hp} {a : Addr} {m : Cnt} {k : List Nat} (e : Rd H a (.dK (kvC m))) : DGet H a (.str (S k)) (valV (kvC m) (Sum.inr (S k))) := .inl ⟨_, Sum.inr (S k), e, rfl, rfl⟩
theorem g_putC {H : Hp} {a : Addr} {m : Cnt} {k : List Nat} {v : Int} {R : Hp → Prop} (e : H a = some (.dK (kvC m))) (hl : m.length ≤ 1000) (h : R (upd H a (.dK (kvC (cput m k v))))) : ∃ a' H4, V.ref a = .ref a' ∧ DPut H a' (.str (S k)) (.int v) H4 ∧ R H4 :=
  ⟨a, _, rfl, .inl ⟨_, Sum.inr (S k), e, rfl, by rw [kvC_len]; exact Nat.lt_of_le_of_lt hl (by decide), by rw [putK_kvC]⟩, h⟩
/-- all but the thing at c stays -/
def SameX (c : Addr) (H H' : Hp) : Prop := ∀ b o, b ≠ c → H b = some o → H' b = some o
theorem SameX.seq {K : PySem.W.Frag} {H H' : Hp} {a c : Addr} {xs : List V} {kvs : List (Key × V)} (e : SameX c H H') (hc : H c = some (.dK kvs)) (h : SqL K H a xs) : SqL K H' a xs := by
  rcases h with (h | ⟨o, h⟩) | h
  · exact .inl (.inl (e _ _ (ne_of h hc (fun z => nomatch z)) h))
  · exact .inl (.inr ⟨o, e _ _ (ne_of h hc (fun z => nomatch z)) h⟩)
  · exact .inr h
theorem SameX.of {c : Addr} {H H' : Hp} (s : Same H H') : SameX c H H' := fun b o _ e => s b o e
theorem SameX.trans {c : Addr} {H H' H'' : Hp} (s : SameX c H H') (t : Same H' H'') : SameX c H H'' := fun b o hb e => t b o (s b o hb e)
theorem SameX.upd {c a : Addr} {H H' : Hp} {u : HO} (s : SameX c H H') (hn : H a = none) : SameX c H (upd H' a u) := fun b o hb e => by
  rw [upd_ne (ne_of_none e hn)]; exact s b o hb e
theorem SameX.updC {c : Addr} {H H' : Hp} {u : HO} (s : SameX c H H') : SameX c H (L2.upd H' c u) := fun b o hb e => by
  rw [upd_ne hb]; exact s b o hb e
theorem SameX.same {c : Addr} {H0 H H' : Hp} (s : SameX c H H') (s0 : Same H0 H) (hn : H0 c = none) : Same H0 H' := fun b o e => s b o (ne_of_none e hn) (s0 b o e)
theorem iteF' {b : Bool} {A B : Prop} (hb : b = false) (h : B) : if b = true then A else B := by subst hb; exact iteF h
theorem iteT' {b : Bool} {A B : Prop} (hb : b = true) (h : A) : if b = true then A else B := by subst hb; exact iteT h
end L2

set_option Elab.async false
set_option linter.all false
set_option maxRecDepth 100000
set_option maxHeartbeats 4000000


namespace PySem
open Sem (wp)
/-! ### zip of two things that are drawn from -/
structure ZipApartD (z TI TO i1 i2 : Addr) (fp1 fp2 : List Addr) : Prop where
  TIz : TI ≠ z
  TOz : TO ≠ z
  i1z : i1 ≠ z
  i2z : i2 ≠ z
  TITO : TI ≠ TO
  TIi1 : TI ≠ i1
  TIi2 : TI ≠ i2
  TOi1 : TO ≠ i1
  TOi2 : TO ≠ i2
  f1 : ∀ b ∈ fp1, b ≠ z ∧ b ≠ TO ∧ b ≠ i2
  f2 : ∀ b ∈ fp2, b ≠ z ∧ b ≠ TO ∧ b ≠ i1
section
variable {prog : Program} {w : World} {A : Around} {E : Value → Shared → Prop} {s : Shared} {n1 n2 : Nat} {P1 P2 : Nat → Value → Prop} {St1 St2 : Nat → Heap → Prop} {fp1 fp2 : List Addr}
theorem zip_next_itemD {z TI TO i1 i2 : Addr} {k1 k2 : Nat} {a b : Value} {Q : Value → Shared → Prop} (D : ZipApartD z TI TO i1 i2 fp1 fp2) (D1 : Draws prog w A i1 fp1 n1 P1 St1) (D2 : Draws prog w A i2 fp2 n2 P2 St2)
    (hz : IsZip s.heap z TI TO .none) (hTI : IsPair s.heap TI (.ref i1) (.ref i2)) (hTO : IsPair s.heap TO a b) (h1 : St1 k1 s.heap) (h2 : St2 k2 s.heap) (hk1 : k1 < n1) (hk2 : k2 < n2)
    (hQ : ∀ h' tk x y, P1 k1 x → P2 k2 y → IsZip h' z TI TO (rawInt s.heap.objs.size) → IsPair h' TO x y → St1 (k1 + 1) h' → St2 (k2 + 1) h' → IsPair h' s.heap.objs.size x y → h'.objs.size = s.heap.objs.size + 1 →
      (∀ c o, c ≠ z → c ≠ TO → c ≠ i1 → c ≠ i2 → s.heap.get? c = some o → h'.get? c = some o) → Q (.ref s.heap.objs.size) { s with heap := h', toks := tk }) :
    wpAny (model prog w) A (Builtin.«zip.__next__» ⟨[.ref z], []⟩) (fun fin s' => ∃ v, fin = .done (.ret v) ∧ Q v s') E s := by
  show wpAny _ _ (field (.ref z) 2 >>= _) _ _ _
  refine wpAny_bind (wpAny_field hz rfl (x := .bool false) rfl ?_)
  show wpAny _ _ (field (.ref z) 3 >>= _) _ _ _
  refine wpAny_bind (wpAny_field hz rfl (x := .ref TI) rfl ?_)
  refine wpAny_bind (wpAny_seqItems hTI rfl ?_)
  show wpAny _ _ (Builtin.SmallTypes.ownedTupleIsFree (.ref z) >>= _) _ _ _
  refine wpAny_bind ?_
  unfold Builtin.SmallTypes.ownedTupleIsFree
  refine wpAny_bind (wpAny_field hz rfl (x := .none) rfl (wpAny_pure ?_))
  simp only [if_true]
  refine wpAny_bind (wpAny_rule ?_)
  refine wpAny_bind (wpAny_field hz rfl (x := .ref TO) rfl ?_)
  refine wpAny_bind (wpAny_setField_rec hz (by simp) fun h₁ hz₁ hs₁ => ?_)
  replace hz₁ : IsZip h₁ z TI TO .ellipsis := hz₁
  refine wpAny_bind ?_
  simp only [List.zipIdx_cons, List.zipIdx_nil, List.forIn_cons, List.forIn_nil]
  have f1z : ∀ b ∈ fp1, ∀ o, s.heap.get? b = some o → h₁.get? b = some o := fun b hb o e => hs₁.extBut _ _ (D.f1 b hb).1 e
  have f2z : ∀ b ∈ fp2, ∀ o, s.heap.get? b = some o → h₁.get? b = some o := fun b hb o e => hs₁.extBut _ _ (D.f2 b hb).1 e
  refine wpAny_bind (wpAny_bind (wpAny_onRaise ?_))
  show wpAny _ _ (Builtin.SmallTypes.nextOf (.ref i1) >>= _) _ _ _
  refine wpAny_bind (D1.item k1 _ _ _ hk1 (D1.frame _ _ _ h1 f1z) fun x h₂ tk₂ hx h1₂ hs₂ => wpAny_pure ?_)
  replace hs₂ : Heap.SameBut i1 h₁ h₂ := hs₂
  have hTO₂ : IsPair h₂ TO a b := hs₂.extBut _ _ D.TOi1 (hs₁.extBut _ _ D.TOz hTO)
  refine wpAny_bind (wpAny_seqItems hTO₂ rfl ?_)
  refine wpAny_bind (wpAny_updateSeq_pair hTO₂ fun h₃ hTO₃ hs₃ => ?_)
  replace hTO₃ : IsPair h₃ TO x b := hTO₃
  replace hs₃ : Heap.SameBut TO h₂ h₃ := hs₃
  refine wpAny_bind (wpAny_letGo (wpAny_pure ?_))
  refine wpAny_bind (wpAny_bind (wpAny_onRaise ?_))
  show wpAny _ _ (Builtin.SmallTypes.nextOf (.ref i2) >>= _) _ _ _
  refine wpAny_bind (D2.item k2 _ _ _ hk2 (D2.frame _ _ _ h2 fun b hb o e => hs₃.extBut _ _ (D.f2 b hb).2.1 (hs₂.extBut _ _ (D.f2 b hb).2.2 (f2z b hb o e))) fun y h₄ tk₄ hy h2₄ hs₄ => wpAny_pure ?_)
  replace hs₄ : Heap.SameBut i2 h₃ h₄ := hs₄
  have hTO₄ : IsPair h₄ TO x b := hs₄.extBut _ _ D.TOi2 hTO₃
  refine wpAny_bind (wpAny_seqItems hTO₄ rfl ?_)
  refine wpAny_bind (wpAny_updateSeq_pair hTO₄ fun h₅ hTO₅ hs₅ => ?_)
  replace hTO₅ : IsPair h₅ TO x y := hTO₅
  replace hs₅ : Heap.SameBut TO h₄ h₅ := hs₅
  refine wpAny_bind (wpAny_letGo (wpAny_pure (wpAny_pure ?_)))
  refine wpAny_bind (wpAny_seqItems hTO₅ rfl ?_)
  refine wpAny_bind (wpAny_newTuple ?_)
  have hsz : h₅.objs.size = s.heap.objs.size := by rw [hs₅.1, hs₄.1, hs₃.1, hs₂.1, hs₁.1]
  have hz₅ : IsZip h₅ z TI TO .ellipsis := hs₅.extBut _ _ D.TOz.symm (hs₄.extBut _ _ D.i2z.symm (hs₃.extBut _ _ D.TOz.symm (hs₂.extBut _ _ D.i1z.symm hz₁)))
  have hk₅ : ∀ c o, c ≠ z → c ≠ TO → c ≠ i1 → c ≠ i2 → s.heap.get? c = some o → h₅.get? c = some o := fun c o c1 c2 c3 c4 e =>
    hs₅.extBut _ _ c2 (hs₄.extBut _ _ c4 (hs₃.extBut _ _ c2 (hs₂.extBut _ _ c3 (hs₁.extBut _ _ c1 e))))
  have h1₅ : St1 (k1 + 1) h₅ := D1.frame _ _ _ h1₂ fun b hb o e => hs₅.extBut _ _ (D.f1 b hb).2.1 (hs₄.extBut _ _ (D.f1 b hb).2.2 (hs₃.extBut _ _ (D.f1 b hb).2.1 e))
  have h2₅ : St2 (k2 + 1) h₅ := D2.frame _ _ _ h2₄ fun b hb o e => hs₅.extBut _ _ (D.f2 b hb).2.1 e
  have hzlt : z < h₅.objs.size := Heap.lt_size hz₅
  show wpAny _ _ (Builtin.SmallTypes.ownedTupleHandOut (.ref z) (.ref h₅.objs.size) >>= _) _ _ _
  refine wpAny_bind ?_
  unfold Builtin.SmallTypes.ownedTupleHandOut
  have hz₆ : IsZip (h₅.push { cls := .type "tuple", data := .seq #[x, y] }) z TI TO .ellipsis := Heap.get?_push_of_some _ hz₅
  refine wpAny_bind (wpAny_setField_rec hz₆ (by simp) fun h₇ hz₇ hs₇ => ?_)
  replace hz₇ : IsZip h₇ z TI TO (rawInt h₅.objs.size) := hz₇
  refine wpAny_setField_rec hz₇ (by simp) fun h₈ hz₈ hs₈ => ?_
  replace hz₈ : IsZip h₈ z TI TO (rawInt h₅.objs.size) := hz₈
  have up : ∀ c o, c ≠ z → h₅.get? c = some o → h₈.get? c = some o := fun c o c1 e => hs₈.extBut _ _ c1 (hs₇.extBut _ _ c1 (Heap.get?_push_of_some _ e))
  have hT₈ : IsPair h₈ h₅.objs.size x y := hs₈.extBut _ _ (Nat.ne_of_gt hzlt) (hs₇.extBut _ _ (Nat.ne_of_gt hzlt) (Heap.get?_push_size _ rfl))
  have hz8 : h₈.objs.size = h₅.objs.size + 1 := by rw [hs₈.1, hs₇.1, Heap.size_push]
  rw [hsz] at hz₈ hT₈ hz8
  refine wpAny_pure ⟨_, rfl, ?_⟩
  show Q (.ref h₅.objs.size) _
  rw [hsz]
  exact hQ h₈ tk₄ x y hx hy hz₈ (up _ _ D.TOz hTO₅) (D1.frame _ _ _ h1₅ fun b hb o e => up _ o (D.f1 b hb).1 e) (D2.frame _ _ _ h2₅ fun b hb o e => up _ o (D.f2 b hb).1 e) hT₈ hz8 fun c o c1 c2 c3 c4 e => up c o c1 (hk₅ c o c1 c2 c3 c4 e)
/-- both are at their end at once -/
theorem zip_next_endD {z TI TO i1 i2 : Addr} {a b : Value} {Q : Fin → Shared → Prop} (D : ZipApartD z TI TO i1 i2 fp1 fp2) (D1 : Draws prog w A i1 fp1 n1 P1 St1)
    (hz : IsZip s.heap z TI TO .none) (hTI : IsPair s.heap TI (.ref i1) (.ref i2)) (hTO : IsPair s.heap TO a b) (h1 : St1 n1 s.heap)
    (hE : ∀ h' e, (∀ c o, c ≠ z → c ≠ TO → c ≠ i1 → c ≠ i2 → s.heap.get? c = some o → h'.get? c = some o) → (∃ o, h'.get? e = some o ∧ o.cls = .type "StopIteration") → E (.ref e) { s with heap := h' }) :
    wpAny (model prog w) A (Builtin.«zip.__next__» ⟨[.ref z], []⟩) Q E s := by
  show wpAny _ _ (field (.ref z) 2 >>= _) _ _ _
  refine wpAny_bind (wpAny_field hz rfl (x := .bool false) rfl ?_)
  show wpAny _ _ (field (.ref z) 3 >>= _) _ _ _
  refine wpAny_bind (wpAny_field hz rfl (x := .ref TI) rfl ?_)
  refine wpAny_bind (wpAny_seqItems hTI rfl ?_)
  show wpAny _ _ (Builtin.SmallTypes.ownedTupleIsFree (.ref z) >>= _) _ _ _
  refine wpAny_bind ?_
  unfold Builtin.SmallTypes.ownedTupleIsFree
  refine wpAny_bind (wpAny_field hz rfl (x := .none) rfl (wpAny_pure ?_))
  simp only [if_true]
  refine wpAny_bind (wpAny_rule ?_)
  refine wpAny_bind (wpAny_field hz rfl (x := .ref TO) rfl ?_)
  refine wpAny_bind (wpAny_setField_rec hz (by simp) fun h₁ hz₁ hs₁ => ?_)
  replace hz₁ : IsZip h₁ z TI TO .ellipsis := hz₁
  refine wpAny_bind ?_
  simp only [List.zipIdx_cons, List.zipIdx_nil, List.forIn_cons, List.forIn_nil]
  refine wpAny_bind (wpAny_bind (wpAny_onRaise ?_))
  show wpAny _ _ (Builtin.SmallTypes.nextOf (.ref i1) >>= _) _ _ _
  refine wpAny_bind (D1.done _ _ _ (D1.frame _ _ _ h1 fun b hb o e => hs₁.extBut _ _ (D.f1 b hb).1 e) fun h₂ e hs₂ he => ?_)
  obtain ⟨oe, hoe, hce⟩ := he
  have hz₂ : IsZip h₂ z TI TO .ellipsis := hs₂ _ _ D.i1z.symm hz₁
  have hez : e ≠ z := fun x => by subst x; rw [hz₂] at hoe; cases hoe; simp at hce
  refine wpAny_setField_rec hz₂ (by simp) fun h₃ _ hs₃ => hE h₃ e (fun c o c1 _ c3 _ x => hs₃.extBut _ _ c1 (hs₂ _ _ c3 (hs₁.extBut _ _ c1 x))) ⟨oe, hs₃.extBut _ _ hez hoe, hce⟩
end
section
variable {prog : Program} {w : World} {A : Around} {E : Value → Shared → Prop} {s : Shared} {n1 n2 : Nat} {P1 P2 : Nat → Value → Prop} {St1 St2 : Nat → Heap → Prop} {fp1 fp2 : List Addr}
theorem pyNext_zip_itemD {z TI TO i1 i2 : Addr} {k1 k2 : Nat} {a b : Value} {Q : Option Value → Shared → Prop} (D : ZipApartD z TI TO i1 i2 fp1 fp2) (D1 : Draws prog w A.in1 i1 fp1 n1 P1 St1) (D2 : Draws prog w A.in1 i2 fp2 n2 P2 St2)
    (hz : IsZip s.heap z TI TO .none) (hTI : IsPair s.heap TI (.ref i1) (.ref i2)) (hTO : IsPair s.heap TO a b) (h1 : St1 k1 s.heap) (h2 : St2 k2 s.heap) (hk1 : k1 < n1) (hk2 : k2 < n2)
    (hQ : ∀ h' tk x y, P1 k1 x → P2 k2 y → IsZip h' z TI TO (rawInt s.heap.objs.size) → IsPair h' TO x y → St1 (k1 + 1) h' → St2 (k2 + 1) h' → IsPair h' s.heap.objs.size x y → h'.objs.size = s.heap.objs.size + 1 →
      (∀ c o, c ≠ z → c ≠ TO → c ≠ i1 → c ≠ i2 → s.heap.get? c = some o → h'.get? c = some o) → Q (some (.ref s.heap.objs.size)) { s with heap := h', toks := tk }) :
    wpAny (model prog w) A (pyNext (.ref z)) Q E s := by
  have hT : s.TypeIs (.ref z) "zip" := ⟨_, hz, rfl⟩
  unfold pyNext
  exact wpAny_bind (wpAny_attempt (wpAny_callSpecial?_slot (name := Str.ofString "__next__") hT F.slot_zip_next
    (wpAny_call_entry F.slot_zip_next hT F.entry_zip_next
      (zip_next_itemD D D1 D2 hz hTI hTO h1 h2 hk1 hk2 fun h' tk x y a1 a2 a3 a4 a5 a6 a7 a8 a9 => wpAny_pure (hQ h' tk x y a1 a2 a3 a4 a5 a6 a7 a8 a9)) (F.args_zip_next_1 _))))
theorem pyNext_zip_endD {z TI TO i1 i2 : Addr} {a b : Value} {Q : Option Value → Shared → Prop} (D : ZipApartD z TI TO i1 i2 fp1 fp2) (D1 : Draws prog w A.in1 i1 fp1 n1 P1 St1)
    (hz : IsZip s.heap z TI TO .none) (hTI : IsPair s.heap TI (.ref i1) (.ref i2)) (hTO : IsPair s.heap TO a b) (h1 : St1 n1 s.heap)
    (hQ : ∀ h', (∀ c o, c ≠ z → c ≠ TO → c ≠ i1 → c ≠ i2 → s.heap.get? c = some o → h'.get? c = some o) → Q none { s with heap := h' }) : wpAny (model prog w) A (pyNext (.ref z)) Q E s := by
  have hT : s.TypeIs (.ref z) "zip" := ⟨_, hz, rfl⟩
  unfold pyNext
  refine wpAny_bind (wpAny_attempt (wpAny_callSpecial?_slot (name := Str.ofString "__next__") hT F.slot_zip_next
    (wpAny_call_entry F.slot_zip_next hT F.entry_zip_next (zip_next_endD D D1 hz hTI hTO h1 fun h' e hk he => ?_) (F.args_zip_next_1 _))))
  obtain ⟨o, ho, hc⟩ := he
  refine wpAny_bind (wpAny_isInstance (T := "StopIteration") (b := true) ⟨o, ho, hc⟩ isSubtype_stop ?_)
  exact wpAny_pure (hQ _ hk)
end
end PySem
-- second part
namespace PySem
theorem meets_zip_newS (x : Str) (t : Tok) (l2 : Addr) (ys : Array Value) (ha : x.cps.all (· < 128) = true) :
    Meets (Builtin.«zip.__new__» ⟨[.type "zip", .str x t, .ref l2], []⟩) (fun _ R s => s.heap.IsList l2 ys ∧
      R (.ok (.ret (.ref (s.heap.objs.size + 4)))) { s with heap := ((((s.heap.push { cls := .type "str_ascii_iterator", data := .fields #[.str x t, .int 0 0] }).push { cls := .type "list_iterator", data := .fields #[.ref l2, .int 0 0] }).push { cls := .type "tuple", data := .seq #[.ref s.heap.objs.size, .ref (s.heap.objs.size + 1)] }).push
        { cls := .type "tuple", data := .seq #[.none, .none] }).push { cls := .type "zip", data := .fields #[.none, .bool false, .bool false, .ref (s.heap.objs.size + 2), .ref (s.heap.objs.size + 3)] } }) :=
  .of_wp fun prog w A R s h => by
    obtain ⟨hp, g, d, tk, os⟩ := s; obtain ⟨hl2, h⟩ := h
    have hsub := sub_zip
    have hL2 : Heap.IsList (Shared.heap ⟨hp.push { cls := .type "str_ascii_iterator", data := .fields #[.str x t, .int 0 0] }, g, d, tk, os⟩) l2 ys := Heap.IsList.push hl2 _
    wp_walk using wpAny_pyIter_ascii ha, wpAny_pyIter_list hL2
    simp only [Heap.size_push] at h ⊢
    exact ⟨_, rfl, h⟩
theorem call_zip_S {prog : Program} {w : World} {A : Around} {E : Value → Shared → Prop} {s : Shared} {x : Str} {t : Tok} {l2 : Addr} {ys : Array Value} {Q : Value → Shared → Prop} (ha : x.cps.all (· < 128) = true) (hl2 : s.heap.IsList l2 ys)
    (h : ∀ h', IsZip h' (s.heap.objs.size + 4) (s.heap.objs.size + 2) (s.heap.objs.size + 3) .none → IsPair h' (s.heap.objs.size + 2) (.ref s.heap.objs.size) (.ref (s.heap.objs.size + 1)) →
      IsPair h' (s.heap.objs.size + 3) .none .none → h'.IsStrIter s.heap.objs.size "str_ascii_iterator" x t 0 → h'.IsListIter (s.heap.objs.size + 1) l2 0 → h'.objs.size = s.heap.objs.size + 5 →
      (∀ c o, s.heap.get? c = some o → h'.get? c = some o) → Q (.ref (s.heap.objs.size + 4)) { s with heap := h' }) :
    wpAny (model prog w) A (call (.type "zip") [.str x t, .ref l2]) Q E s := by
  refine callType_new F.called_zip (by decide) (F.typeCall_zip_2 _ _) (F.newCall_zip_2 _ _) (fun obj => F.args_object_init_3 obj _ _) F.entry_zip_new
    (meets_zip_newS x t l2 ys ha) ⟨hl2, ?_⟩
  have sz : ∀ (h : Heap) (o : Obj), (h.push o).objs.size = h.objs.size + 1 := fun h o => Heap.size_push ..
  have at_ : ∀ (h : Heap) (o : Obj) (n : Nat), h.objs.size = n → o.isFreed = false → (h.push o).get? n = some o := fun h o n e f => by subst e; exact Heap.get?_push_size _ f
  have up : ∀ (h : Heap) (o u : Obj) (n : Nat), h.get? n = some u → (h.push o).get? n = some u := fun h o u n e => Heap.get?_push_of_some _ e
  show _ ∧ _
  refine ⟨⟨_, at_ _ _ _ (by simp only [sz]) rfl, rfl⟩, h _ (at_ _ _ _ (by simp only [sz]) rfl) (up _ _ _ _ (up _ _ _ _ (at_ _ _ _ (by simp only [sz]) rfl))) (up _ _ _ _ (at_ _ _ _ (by simp only [sz]) rfl))
    ⟨_, up _ _ _ _ (up _ _ _ _ (up _ _ _ _ (up _ _ _ _ (at_ _ _ _ rfl rfl)))), rfl, rfl⟩ ⟨_, up _ _ _ _ (up _ _ _ _ (up _ _ _ _ (at_ _ _ _ (by simp only [sz]) rfl))), rfl, rfl⟩ (by simp only [sz]) fun c o e => ?_⟩
  exact up _ _ _ _ (up _ _ _ _ (up _ _ _ _ (up _ _ _ _ (up _ _ _ _ e))))
end PySem
namespace L2
open PySem PySem.Spec PyProof.Rows
theorem boot_zip : bootBuiltins "zip" = some (.type "zip") := by decide +kernel
/-- a text and a list, as long as one another -/
def ItzS (K : PySem.W.Frag) (l : List Nat) (a : Addr) : It :=
  ⟨fun i H => i < l.length ∧ ∃ xs, SqL K H a xs ∧ xs.length = l.length, fun i H v H' => ∃ t c x, v = .ref t ∧ H t = none ∧ H' = upd H t (.tup [.str (S [c]), x]) ∧ l[i]? = some c ∧ ∀ xs, SqL K H a xs → xs[i]? = some x, fun i H => l.length ≤ i⟩
/-- two lists, as long as one another -/
def ItzL (K : PySem.W.Frag) (b a : Addr) : It :=
  ⟨fun i H => ∃ ys xs, SqL K H b ys ∧ SqL K H a xs ∧ xs.length = ys.length ∧ i < ys.length, fun i H v H' => ∃ t y x, v = .ref t ∧ H t = none ∧ H' = upd H t (.tup [y, x]) ∧ (∀ ys, SqL K H b ys → ys[i]? = some y) ∧ ∀ xs, SqL K H a xs → xs[i]? = some x,
    fun i H => ∃ ys, SqL K H b ys ∧ ys.length = i⟩
theorem apartL {h : Heap} {a z TI TO i j : Addr} {its : Array Value} {x y : Value} {k : Nat} {m : Addr} (p : PlainL h a its) (hz : IsZip h z TI TO .none) (hTO : IsPair h TO x y) (hi : h.IsListIter i m k) (hj : ∃ o ty, h.get? j = some o ∧ o.cls = .type ty ∧ ty ≠ "list") : a ≠ z ∧ a ≠ TO ∧ a ≠ i ∧ a ≠ j := by
  obtain ⟨oa, n, ea, ca, da, dda⟩ := p
  refine ⟨fun e => ?_, fun e => ?_, fun e => ?_, fun e => ?_⟩
  · subst e; rw [hz] at ea; cases ea; exact absurd (show Value.type "zip" = Value.type "list" from ca) (by decide)
  · subst e; rw [hTO] at ea; cases ea; exact absurd (show Value.type "tuple" = Value.type "list" from ca) (by decide)
  · subst e
    obtain ⟨o, ho, c, _⟩ := hi
    rw [ho] at ea; cases ea
    rw [c] at ca
    exact absurd ca (by decide)
  · subst e
    obtain ⟨o, ty, ho, c, hty⟩ := hj
    rw [ho] at ea; cases ea
    rw [c] at ca
    exact hty (by cases ca; rfl)
theorem turn_zipS {P : Program} {w : World} {K : PySem.W.Frag} {elts : List Expr} {kk : Nat} {tp : Pos} {l : List Nat} {t : Tok} (a z TI TO i1 i2 : Addr) (ap : TI ≠ z ∧ TO ≠ z ∧ i1 ≠ z ∧ i2 ≠ z ∧ TI ≠ TO ∧ TI ≠ i1 ∧ TI ≠ i2 ∧ TO ≠ i1 ∧ TO ≠ i2 ∧ i1 ≠ i2) :
    Turn P w K (.Tuple elts kk tp) (ItzS K l a) [z, TI, TO, i1, i2] z (fun i h => i ≤ l.length ∧ IsZip h z TI TO .none ∧ IsPair h TI (.ref i1) (.ref i2) ∧ (∃ a b, IsPair h TO a b) ∧ h.IsStrIter i1 "str_ascii_iterator" (S l) t i ∧ h.IsListIter i2 a i) where
  mem := by simp
  obj := fun i h st b hb => by
    obtain ⟨hil, hz, hTI, ⟨x, y, hTO⟩, ⟨o1, e1, c1, d1⟩, ⟨o2, e2, c2, d2⟩⟩ := st
    have hb' : b = z ∨ b = TI ∨ b = TO ∨ b = i1 ∨ b = i2 := by simpa using hb
    rcases hb' with q | q | q | q | q
    · subst q; exact ⟨_, hz, fun v z => nomatch z⟩
    · subst q; exact ⟨_, hTI, fun v z => nomatch z⟩
    · subst q; exact ⟨_, hTO, fun v z => nomatch z⟩
    · subst q; exact ⟨o1, e1, fun v z => by rw [d1] at z; cases z⟩
    · subst q; exact ⟨o2, e2, fun v z => by rw [d2] at z; cases z⟩
  keep := fun i h h' st k => by
    obtain ⟨hil, hz, hTI, ⟨x, y, hTO⟩, ⟨o1, e1, r1⟩, ⟨o2, e2, r2⟩⟩ := st
    exact ⟨hil, k z (by simp) _ hz, k TI (by simp) _ hTI, ⟨x, y, k TO (by simp) _ hTO⟩, ⟨o1, k i1 (by simp) _ e1, r1⟩, ⟨o2, k i2 (by simp) _ e2, r2⟩⟩
  item := by
    intro X hP hw hK hc i pins s σ H E I hf st hg
    subst hP hw hK
    obtain ⟨hil, hz, hTI, ⟨x0, y0, hTO⟩, h1, h2⟩ := st
    obtain ⟨hg1, xs, hq, hxl⟩ := hg
    obtain ⟨its, rv, p, hzz⟩ := I.list hq
    have hpl := p.isList
    have ne := apartL p hz hTO h2 (let ⟨o1, e1, c1, _⟩ := h1; ⟨o1, _, e1, c1, by decide⟩)
    have D1 := Draws.strAscii (prog := X.prog) (w := X.w) (A := X.A.in1) (I.ok.hd hc) i1 (S l) t
    have hin : i < xs.length := by omega
    have hl2 := rv.length
    have D2 := Draws.list (prog := X.prog) (w := X.w) (A := X.A.in1) (I.ok.hd hc) i2 a ne.2.2.1 its.toArray
    obtain ⟨a1, a2, a3, a4, a5, a6, a7, a8, a9, a10⟩ := id ap
    refine pyNext_zip_itemD (k1 := i) (k2 := i) ⟨a1, a2, a3, a4, a5, a6, a7, a8, a9, fun b hb => by (have e : b = i1 := by simpa using hb); rw [e]; exact ⟨a3, Ne.symm a8, a10⟩, fun b hb => ?_⟩ D1 D2 hz hTI hTO h1 ⟨h2, hpl⟩ (by simp; omega) (by simp; omega) fun hA tk u v hu hv heo hto hst1 hst2 ht1 hz1 hk1 => ?_
    · have hb' : b = i2 ∨ b = a := by simpa using hb
      rcases hb' with q | q
      · rw [q]; exact ⟨a4, Ne.symm a9, Ne.symm a10⟩
      · rw [q]; exact ⟨ne.1, ne.2.1, ne.2.2.2⟩
    refine ⟨_, rfl, wpAny_letOwnedTupleGo_zip heo fun hB he2 hs2 => ?_⟩
    have hs2 : Heap.SameBut z hA hB := hs2
    have hel : z < s.heap.objs.size := Heap.lt_size hz
    have hsz : H s.heap.objs.size = none := I.hok.fresh (Nat.le_refl _)
    have hpres : ∀ b o, b ∉ [z, TI, TO, i1, i2] → s.heap.get? b = some o → hB.get? b = some o := fun b o hb q => by
      have hb' : b ≠ z ∧ b ≠ TI ∧ b ≠ TO ∧ b ≠ i1 ∧ b ≠ i2 := by simpa using hb
      exact hs2.extBut b o hb'.1 (hk1 b o hb'.1 hb'.2.2.1 hb'.2.2.2.1 hb'.2.2.2.2 q)
    have I1 : Inv X pins σ H { s with heap := hB, toks := tk } := I.turnedL (t' := tk) hpres hf
    have ht2 : hB.get? s.heap.objs.size = some { cls := .type "tuple", data := .seq #[u, v] } := hs2.extBut _ _ (Nat.ne_of_gt hel) ht1
    have fpt : FpOk X pins H s.heap.objs.size := I.fpOk (Nat.le_refl _) hsz
    obtain ⟨c, uu, hcc, hue⟩ := hu
    have ryv : RelV (.str (S [c])) u := ⟨uu, hue⟩
    obtain ⟨xv, hxv, rxv⟩ := vals_at (i := i) (u := v) rv (by simpa using hv)
    have I2 := I1.track (o := .tup [.str (S [c]), xv]) fpt ⟨by show 2 ≤ sizeLine; decide, [u, v], .cons ryv (.cons rxv .nil), ⟨_, ht2, rfl, 0, rfl⟩⟩
    refine ⟨.ref s.heap.objs.size, _, I2, rfl, ⟨_, c, xv, rfl, hsz, rfl, (by simpa using hcc), fun zs hy => by rw [I.list_inj hy hq]; exact hxv⟩, ⟨hg1, he2, hs2.extBut _ _ a1 (hk1 _ _ a1 a5 a6 a7 hTI), ⟨u, v, hs2.extBut _ _ a2 hto⟩, hst1.extBut hs2.extBut a3, hst2.1.extBut hs2.extBut a4⟩, fun b hb => ?_⟩
    have hlt : b < s.heap.objs.size := by
      have hb' : b = z ∨ b = TI ∨ b = TO ∨ b = i1 ∨ b = i2 := by simpa using hb
      obtain ⟨o1, e1, _⟩ := h1
      obtain ⟨o2, e2, _⟩ := h2
      rcases hb' with q | q | q | q | q
      · rw [q]; exact hel
      · rw [q]; exact Heap.lt_size hTI
      · rw [q]; exact Heap.lt_size hTO
      · rw [q]; exact Heap.lt_size e1
      · rw [q]; exact Heap.lt_size e2
    rw [upd_ne (Nat.ne_of_lt hlt)]
    exact (hf b hb).1
  done := by
    intro X hP hw hK hc i pins s σ H E I hf st hg
    subst hP hw hK
    obtain ⟨hil, hz, hTI, ⟨x0, y0, hTO⟩, h1, h2⟩ := st
    obtain ⟨a1, a2, a3, a4, a5, a6, a7, a8, a9, a10⟩ := id ap
    have hg' : l.length ≤ i := hg
    have ei : i = (S l).cps.size := by simp; omega
    have D1 := Draws.strAscii (prog := X.prog) (w := X.w) (A := X.A.in1) (I.ok.hd hc) i1 (S l) t
    refine pyNext_zip_endD (fp2 := []) ⟨a1, a2, a3, a4, a5, a6, a7, a8, a9, fun b hb => by (have e : b = i1 := by simpa using hb); rw [e]; exact ⟨a3, Ne.symm a8, a10⟩, fun b hb => by simp at hb⟩ D1 hz hTI hTO (by rw [← ei]; exact h1) fun hA eb => ⟨rfl, I.turnedL (t' := s.toks) (fun b o hb q => ?_) hf⟩
    have hb' : b ≠ z ∧ b ≠ TI ∧ b ≠ TO ∧ b ≠ i1 ∧ b ≠ i2 := by simpa using hb
    exact eb b o hb'.1 hb'.2.2.1 hb'.2.2.2.1 hb'.2.2.2.2 q
  self := fun A i s Q E st h => by
    obtain ⟨hil, hz, _⟩ := st
    exact wpAny_pyIter_zip hz h
theorem turn_zipL {P : Program} {w : World} {K : PySem.W.Frag} {elts : List Expr} {kk : Nat} {tp : Pos} (b : Addr) (a z TI TO i1 i2 : Addr) (ap : TI ≠ z ∧ TO ≠ z ∧ i1 ≠ z ∧ i2 ≠ z ∧ TI ≠ TO ∧ TI ≠ i1 ∧ TI ≠ i2 ∧ TO ≠ i1 ∧ TO ≠ i2 ∧ i1 ≠ i2) :
    Turn P w K (.Tuple elts kk tp) (ItzL K b a) [z, TI, TO, i1, i2] z (fun i h => IsZip h z TI TO .none ∧ IsPair h TI (.ref i1) (.ref i2) ∧ (∃ a b, IsPair h TO a b) ∧ h.IsListIter i1 b i ∧ h.IsListIter i2 a i) where
  mem := by simp
  obj := fun i h st b hb => by
    obtain ⟨hz, hTI, ⟨x, y, hTO⟩, ⟨o1, e1, c1, d1⟩, ⟨o2, e2, c2, d2⟩⟩ := st
    have hb' : b = z ∨ b = TI ∨ b = TO ∨ b = i1 ∨ b = i2 := by simpa using hb
    rcases hb' with q | q | q | q | q
    · subst q; exact ⟨_, hz, fun v z => nomatch z⟩
    · subst q; exact ⟨_, hTI, fun v z => nomatch z⟩
    · subst q; exact ⟨_, hTO, fun v z => nomatch z⟩
    · subst q; exact ⟨o1, e1, fun v z => by rw [d1] at z; cases z⟩
    · subst q; exact ⟨o2, e2, fun v z => by rw [d2] at z; cases z⟩
  keep := fun i h h' st k => by
    obtain ⟨hz, hTI, ⟨x, y, hTO⟩, ⟨o1, e1, r1⟩, ⟨o2, e2, r2⟩⟩ := st
    exact ⟨k z (by simp) _ hz, k TI (by simp) _ hTI, ⟨x, y, k TO (by simp) _ hTO⟩, ⟨o1, k i1 (by simp) _ e1, r1⟩, ⟨o2, k i2 (by simp) _ e2, r2⟩⟩
  item := by
    intro X hP hw hK hc i pins s σ H E I hf st hg
    subst hP hw hK
    obtain ⟨hz, hTI, ⟨x0, y0, hTO⟩, h1, h2⟩ := st
    obtain ⟨ys, xs, hb1, hq, hxl, hg1⟩ := hg
    obtain ⟨its, rv, p, hzz⟩ := I.list hq
    have hpl := p.isList
    have ne := apartL p hz hTO h2 (let ⟨o1, e1, c1, _⟩ := h1; ⟨o1, _, e1, c1, by decide⟩)
    obtain ⟨its1, rv1, p1, hzz1⟩ := I.list hb1
    have ne1 := apartL p1 hz hTO h1 (let ⟨o1, e1, c1, _⟩ := h2; ⟨o1, _, e1, c1, by decide⟩)
    have hl1 := rv1.length
    have D1 := Draws.list (prog := X.prog) (w := X.w) (A := X.A.in1) (I.ok.hd hc) i1 b ne1.2.2.1 its1.toArray
    have hin : i < xs.length := by omega
    have hl2 := rv.length
    have D2 := Draws.list (prog := X.prog) (w := X.w) (A := X.A.in1) (I.ok.hd hc) i2 a ne.2.2.1 its.toArray
    obtain ⟨a1, a2, a3, a4, a5, a6, a7, a8, a9, a10⟩ := id ap
    refine pyNext_zip_itemD (k1 := i) (k2 := i) ⟨a1, a2, a3, a4, a5, a6, a7, a8, a9, fun c hc' => by
      have hb' : c = i1 ∨ c = b := by simpa using hc'
      rcases hb' with q | q
      · rw [q]; exact ⟨a3, Ne.symm a8, a10⟩
      · rw [q]; exact ⟨ne1.1, ne1.2.1, ne1.2.2.2⟩, fun b hb => ?_⟩ D1 D2 hz hTI hTO ⟨h1, p1.isList⟩ ⟨h2, hpl⟩ (by simp; omega) (by simp; omega) fun hA tk u v hu hv heo hto hst1 hst2 ht1 hz1 hk1 => ?_
    · have hb' : b = i2 ∨ b = a := by simpa using hb
      rcases hb' with q | q
      · rw [q]; exact ⟨a4, Ne.symm a9, Ne.symm a10⟩
      · rw [q]; exact ⟨ne.1, ne.2.1, ne.2.2.2⟩
    refine ⟨_, rfl, wpAny_letOwnedTupleGo_zip heo fun hB he2 hs2 => ?_⟩
    have hs2 : Heap.SameBut z hA hB := hs2
    have hel : z < s.heap.objs.size := Heap.lt_size hz
    have hsz : H s.heap.objs.size = none := I.hok.fresh (Nat.le_refl _)
    have hpres : ∀ b o, b ∉ [z, TI, TO, i1, i2] → s.heap.get? b = some o → hB.get? b = some o := fun b o hb q => by
      have hb' : b ≠ z ∧ b ≠ TI ∧ b ≠ TO ∧ b ≠ i1 ∧ b ≠ i2 := by simpa using hb
      exact hs2.extBut b o hb'.1 (hk1 b o hb'.1 hb'.2.2.1 hb'.2.2.2.1 hb'.2.2.2.2 q)
    have I1 : Inv X pins σ H { s with heap := hB, toks := tk } := I.turnedL (t' := tk) hpres hf
    have ht2 : hB.get? s.heap.objs.size = some { cls := .type "tuple", data := .seq #[u, v] } := hs2.extBut _ _ (Nat.ne_of_gt hel) ht1
    have fpt : FpOk X pins H s.heap.objs.size := I.fpOk (Nat.le_refl _) hsz
    obtain ⟨yv, hyv, ryv⟩ := vals_at (i := i) (u := u) rv1 (by simpa using hu)
    obtain ⟨xv, hxv, rxv⟩ := vals_at (i := i) (u := v) rv (by simpa using hv)
    have I2 := I1.track (o := .tup [yv, xv]) fpt ⟨by show 2 ≤ sizeLine; decide, [u, v], .cons ryv (.cons rxv .nil), ⟨_, ht2, rfl, 0, rfl⟩⟩
    refine ⟨.ref s.heap.objs.size, _, I2, rfl, ⟨_, yv, xv, rfl, hsz, rfl, fun zs hy => by rw [I.list_inj hy hb1]; exact hyv, fun zs hy => by rw [I.list_inj hy hq]; exact hxv⟩, ⟨he2, hs2.extBut _ _ a1 (hk1 _ _ a1 a5 a6 a7 hTI), ⟨u, v, hs2.extBut _ _ a2 hto⟩, hst1.1.extBut hs2.extBut a3, hst2.1.extBut hs2.extBut a4⟩, fun b hb => ?_⟩
    have hlt : b < s.heap.objs.size := by
      have hb' : b = z ∨ b = TI ∨ b = TO ∨ b = i1 ∨ b = i2 := by simpa using hb
      obtain ⟨o1, e1, _⟩ := h1
      obtain ⟨o2, e2, _⟩ := h2
      rcases hb' with q | q | q | q | q
      · rw [q]; exact hel
      · rw [q]; exact Heap.lt_size hTI
      · rw [q]; exact Heap.lt_size hTO
      · rw [q]; exact Heap.lt_size e1
      · rw [q]; exact Heap.lt_size e2
    rw [upd_ne (Nat.ne_of_lt hlt)]
    exact (hf b hb).1
  done := by
    intro X hP hw hK hc i pins s σ H E I hf st hg
    subst hP hw hK
    obtain ⟨hz, hTI, ⟨x0, y0, hTO⟩, h1, h2⟩ := st
    obtain ⟨a1, a2, a3, a4, a5, a6, a7, a8, a9, a10⟩ := id ap
    obtain ⟨ys, hb1, hyl⟩ := hg
    obtain ⟨its1, rv1, p1, hzz1⟩ := I.list hb1
    have ne1 := apartL p1 hz hTO h1 (let ⟨o1, e1, c1, _⟩ := h2; ⟨o1, _, e1, c1, by decide⟩)
    have hl1 := rv1.length
    have ei : i = its1.toArray.size := by simp; omega
    have D1 := Draws.list (prog := X.prog) (w := X.w) (A := X.A.in1) (I.ok.hd hc) i1 b ne1.2.2.1 its1.toArray
    refine pyNext_zip_endD (fp2 := []) ⟨a1, a2, a3, a4, a5, a6, a7, a8, a9, fun c hc' => by
      have hb' : c = i1 ∨ c = b := by simpa using hc'
      rcases hb' with q | q
      · rw [q]; exact ⟨a3, Ne.symm a8, a10⟩
      · rw [q]; exact ⟨ne1.1, ne1.2.1, ne1.2.2.2⟩, fun b hb => by simp at hb⟩ D1 hz hTI hTO (by rw [← ei]; exact ⟨h1, p1.isList⟩) fun hA eb => ⟨rfl, I.turnedL (t' := s.toks) (fun b o hb q => ?_) hf⟩
    have hb' : b ≠ z ∧ b ≠ TI ∧ b ≠ TO ∧ b ≠ i1 ∧ b ≠ i2 := by simpa using hb
    exact eb b o hb'.1 hb'.2.2.1 hb'.2.2.2.1 hb'.2.2.2.2 q
  self := fun A i s Q E st h => by
    obtain ⟨hz, _⟩ := st
    exact wpAny_pyIter_zip hz h
def iZipS (K : PySem.W.Frag) (ta : TA) : TI := fun σ H R => ta σ H fun vs H1 => ∃ l a xs, vs = [.str (S l), .ref a] ∧ SqL K H1 a xs ∧ xs.length = l.length ∧ l.all (· < 128) = true ∧ R (ItzS K l a) H1
theorem pi_zipS {X : Cx} (K : PySem.W.Frag) {e1 e2 : Expr} {elts : List Expr} {kk : Nat} {tp : Pos} {ta : TA} {p pos : Pos} (hK : X.K = K) (hg : Gl X "zip") (hm : X.mg "zip" = none) (ha : PA X [e1, e2] ta) (hs : starEach [e1, e2] X.env = (false, eval e1 X.env) :: starEach [e2] X.env) (hpl : (backTo pos (starEach [e2] X.env)).any (·.1) = false := by rfl) :
    PI X (.Tuple elts kk tp) (.Call (.Name "zip" p) [e1, e2] [] pos) (iZipS K ta) := by
  subst hK
  intro pins s σ H R I h
  refine Call_ (ld_blt I hg hm boot_zip (PyProof.Rows.callWith_type1 (thn (ha pos pins s σ H _ I h) fun us s1 ⟨vs, H1, I1, r1, q1⟩ => ?_) hs hpl))
  obtain ⟨l, a, xs, rfl, hq, hlen, ha', q⟩ := q1
  obtain ⟨u1, u2, rfl, r2, r3⟩ := vals2 r1
  obtain ⟨t, rfl⟩ := r2
  cases r3
  obtain ⟨its, rv, pl, hz⟩ := I1.list hq
  have fin : ∀ b ∈ [s1.heap.objs.size + 4, s1.heap.objs.size + 2, s1.heap.objs.size + 3, s1.heap.objs.size, s1.heap.objs.size + 1], FpOk X pins H1 b := fun b hb => by
    have hb' : b = s1.heap.objs.size + 4 ∨ b = s1.heap.objs.size + 2 ∨ b = s1.heap.objs.size + 3 ∨ b = s1.heap.objs.size ∨ b = s1.heap.objs.size + 1 := by simpa using hb
    have hle : s1.heap.objs.size ≤ b := by rcases hb' with q | q | q | q | q <;> rw [q] <;> first | exact Nat.le_refl _ | exact Nat.le_add_right _ _
    exact I1.fpOk hle (I1.hok.fresh hle)
  have ap : ∀ n : Nat, n + 2 ≠ n + 4 ∧ n + 3 ≠ n + 4 ∧ n ≠ n + 4 ∧ n + 1 ≠ n + 4 ∧ n + 2 ≠ n + 3 ∧ n + 2 ≠ n ∧ n + 2 ≠ n + 1 ∧ n + 3 ≠ n ∧ n + 3 ≠ n + 1 ∧ n ≠ n + 1 := fun n => by omega
  refine call_zip_S (by rw [← ha']; simp) pl.isList fun h' g1 g2 g3 g4 g5 g6 hk => wpAny_pyIter_zip g1 ?_
  have I2 : Inv X pins σ H1 { s1 with heap := h' } := I1.kept (t' := s1.toks) hk
  exact ⟨s1.heap.objs.size + 4, [s1.heap.objs.size + 4, s1.heap.objs.size + 2, s1.heap.objs.size + 3, s1.heap.objs.size, s1.heap.objs.size + 1], _, _, H1, rfl, I2, turn_zipS a _ _ _ _ _ (ap _), ⟨Nat.zero_le _, g1, g2, ⟨_, _, g3⟩, g4, g5⟩, fin, q⟩
def iZipL (K : PySem.W.Frag) (ta : TA) : TI := fun σ H R => ta σ H fun vs H1 => ∃ b a ys xs, vs = [.ref b, .ref a] ∧ SqL K H1 b ys ∧ SqL K H1 a xs ∧ xs.length = ys.length ∧ R (ItzL K b a) H1
theorem pi_zipL {X : Cx} (K : PySem.W.Frag) {e1 e2 : Expr} {elts : List Expr} {kk : Nat} {tp : Pos} {ta : TA} {p pos : Pos} (hK : X.K = K) (hg : Gl X "zip") (hm : X.mg "zip" = none) (ha : PA X [e1, e2] ta) (hs : starEach [e1, e2] X.env = (false, eval e1 X.env) :: starEach [e2] X.env) (hpl : (backTo pos (starEach [e2] X.env)).any (·.1) = false := by rfl) :
    PI X (.Tuple elts kk tp) (.Call (.Name "zip" p) [e1, e2] [] pos) (iZipL K ta) := by
  subst hK
  intro pins s σ H R I h
  refine Call_ (ld_blt I hg hm boot_zip (PyProof.Rows.callWith_type1 (thn (ha pos pins s σ H _ I h) fun us s1 ⟨vs, H1, I1, r1, q1⟩ => ?_) hs hpl))
  obtain ⟨b, a, ys, xs, rfl, hb1, hq, hlen, q⟩ := q1
  obtain ⟨u1, u2, rfl, r2, r3⟩ := vals2 r1
  cases r2
  cases r3
  obtain ⟨its1, rv1, pl1, hz1⟩ := I1.list hb1
  obtain ⟨its, rv, pl, hz⟩ := I1.list hq
  have fin : ∀ b ∈ [s1.heap.objs.size + 4, s1.heap.objs.size + 2, s1.heap.objs.size + 3, s1.heap.objs.size, s1.heap.objs.size + 1], FpOk X pins H1 b := fun b hb => by
    have hb' : b = s1.heap.objs.size + 4 ∨ b = s1.heap.objs.size + 2 ∨ b = s1.heap.objs.size + 3 ∨ b = s1.heap.objs.size ∨ b = s1.heap.objs.size + 1 := by simpa using hb
    have hle : s1.heap.objs.size ≤ b := by rcases hb' with q | q | q | q | q <;> rw [q] <;> first | exact Nat.le_refl _ | exact Nat.le_add_right _ _
    exact I1.fpOk hle (I1.hok.fresh hle)
  have ap : ∀ n : Nat, n + 2 ≠ n + 4 ∧ n + 3 ≠ n + 4 ∧ n ≠ n + 4 ∧ n + 1 ≠ n + 4 ∧ n + 2 ≠ n + 3 ∧ n + 2 ≠ n ∧ n + 2 ≠ n + 1 ∧ n + 3 ≠ n ∧ n + 3 ≠ n + 1 ∧ n ≠ n + 1 := fun n => by omega
  refine call_zip_2 pl1.isList pl.isList fun h' g1 g2 g3 g4 g5 g6 hk => wpAny_pyIter_zip g1 ?_
  have I2 : Inv X pins σ H1 { s1 with heap := h' } := I1.kept (t' := s1.toks) hk
  exact ⟨s1.heap.objs.size + 4, [s1.heap.objs.size + 4, s1.heap.objs.size + 2, s1.heap.objs.size + 3, s1.heap.objs.size, s1.heap.objs.size + 1], _, _, H1, rfl, I2, turn_zipL b a _ _ _ _ _ (ap _), ⟨g1, g2, ⟨_, _, g3⟩, g4, g5⟩, fin, q⟩
end L2

set_option Elab.async false
set_option linter.all false
set_option maxRecDepth 100000
set_option maxHeartbeats 4000000
/-! Walks over zip. -/
namespace L2
open PySem PySem.Spec PyProof.Rows
theorem forZ {K : PySem.W.Frag} {l : List Nat} {a : Addr} {xs : List V} {g : TG} {tb : TS} {D : Ends} {σ : St} {H : Hp} (hlen : xs.length = l.length) (Pv : Nat → St → Hp → Prop) (h0 : Pv 0 σ H) (hl : ∀ i σ H, i ≤ l.length → Pv i σ H → SqL K H a xs)
    (hs : ∀ i c x σ H, l[i]? = some c → xs[i]? = some x → Pv i σ H → ∀ t, H t = none → g (.ref t) σ (upd H t (.tup [.str (S [c]), x])) fun σ2 H2 => tb { D with nx := Pv (i + 1), ct := Pv (i + 1), bk := D.nx } σ2 H2) (hd : ∀ σ H, Pv l.length σ H → D.nx σ H) :
    ForW (ItzS K l a) g tb D σ H := by
  refine ⟨fun i m σ H => m = l.length - i ∧ i ≤ l.length ∧ Pv i σ H, ⟨l.length, by simp, Nat.zero_le _, h0⟩, ?_⟩
  rintro i m σ H ⟨rfl, hi, p⟩
  have q := hl i σ H hi p
  by_cases hlt : i < l.length
  · refine .inr ⟨⟨hlt, xs, q, hlen⟩, Pv (i + 1), fun σ' H' p' => ⟨l.length - (i + 1), by omega, rfl, hlt, p'⟩, fun v H' y => ?_⟩
    obtain ⟨t, c, x, rfl, hn, rfl, hc, y⟩ := y
    exact hs i c x σ _ hc (y xs q) p t hn
  · have e : i = l.length := by omega
    subst e
    exact .inl ⟨Nat.le_refl _, hd σ H p⟩
theorem goes_zipL {K : PySem.W.Frag} {b a : Addr} {ys xs : List V} {H1 : Hp} (hb : SqL K H1 b ys) (ha : SqL K H1 a xs) (hlen : xs.length = ys.length) : GoesP (ItzL K b a) H1 (ys.zip xs) := by
  have hz : (ys.zip xs).length = ys.length := by rw [List.length_zip, hlen, Nat.min_self]
  refine ⟨fun i H' e hi => ⟨ys, xs, e.seq hb, e.seq ha, hlen, by omega⟩, fun i H' x H'' e hi y => ?_, fun H' e => ⟨ys, e.seq hb, hz.symm⟩⟩
  obtain ⟨t, y1, x1, rfl, hn, rfl, h1, h2⟩ := y
  have e1 := h1 ys (e.seq hb)
  have e2 := h2 xs (e.seq ha)
  exact ⟨t, (y1, x1), rfl, hn, rfl, by rw [List.getElem?_zip_eq_some]; exact ⟨e1, e2⟩⟩
section
variable {K : PySem.W.Frag} {ta : TA} {σ : St} {H : Hp} {R : It → Hp → Prop}
theorem g_izipS (h : ta σ H fun vs H1 => ∃ l a xs, vs = [.str (S l), .ref a] ∧ SqL K H1 a xs ∧ xs.length = l.length ∧ l.all (· < 128) = true ∧ R (ItzS K l a) H1) : iZipS K ta σ H R := h
theorem g_izipL (h : ta σ H fun vs H1 => ∃ b a ys xs, vs = [.ref b, .ref a] ∧ SqL K H1 b ys ∧ SqL K H1 a xs ∧ xs.length = ys.length ∧ R (ItzL K b a) H1) : iZipL K ta σ H R := h
end
end L2

set_option Elab.async false
set_option linter.all false
set_option maxRecDepth 100000
set_option maxHeartbeats 4000000
/-! A sort that keeps the order of equals: the pure part. -/
namespace Stb
open PySem PyProof.Rows
variable (r : Keyed → Int)
def R (xs : Array Keyed) (i : Nat) : Int := match xs[i]? with | some p => r p | none => 0
theorem R_congr {xs ys : Array Keyed} {i j : Nat} (h : xs[i]? = ys[j]?) : R r xs i = R r ys j := by unfold R; rw [h]
def Lx (xs : Array Keyed) (i j : Nat) : Prop := K xs i < K xs j ∨ (K xs i = K xs j ∧ R r xs i < R r xs j)
def Up (xs : Array Keyed) (n : Nat) : Prop := ∀ i j, i < j → j < n → Lx r xs i j
def Dn (xs : Array Keyed) (n : Nat) : Prop := ∀ i j, i < j → j < n → Lx r xs j i
def Un (xs : Array Keyed) (n m : Nat) : Prop := ∀ i j, i < j → n ≤ j → j < m → R r xs i < R r xs j
variable {r}
theorem Lx.trans {xs : Array Keyed} {i j k : Nat} (a : Lx r xs i j) (b : Lx r xs j k) : Lx r xs i k := by
  rcases a with a | ⟨a1, a2⟩ <;> rcases b with b | ⟨b1, b2⟩
  · exact .inl (by omega)
  · exact .inl (by omega)
  · exact .inl (by omega)
  · exact .inr ⟨by omega, by omega⟩
theorem Lx.congr {xs ys : Array Keyed} {i j i' j' : Nat} (a : Lx r xs i j) (h1 : ys[i']? = xs[i]?) (h2 : ys[j']? = xs[j]?) : Lx r ys i' j' := by
  unfold Lx
  rw [K_congr h1, K_congr h2, R_congr r h1, R_congr r h2]
  exact a
theorem Un.mono {xs : Array Keyed} {n n' m : Nat} (h : Un r xs n m) (hn : n ≤ n') : Un r xs n' m := fun i j hij hj hm => h i j hij (by omega) hm
theorem Un.shuffle {xs ys : Array Keyed} {n m : Nat} (h : Un r xs n m) (hn : ∀ k, n ≤ k → ys[k]? = xs[k]?) (hl : ∀ k, k < n → ∃ k', k' < n ∧ ys[k]? = xs[k']?) : Un r ys n m := fun i j hij hj hm => by
  rw [R_congr r (hn j hj)]
  by_cases hi : i < n
  · obtain ⟨i', hi', e⟩ := hl i hi
    rw [R_congr r e]
    exact h i' j (by omega) hj hm
  · rw [R_congr r (hn i (by omega))]
    exact h i j hij hj hm
theorem mirror_hi {xs : Array Keyed} {i j n : Nat} (hj : j ≤ xs.size) (hn : j ≤ n) (k : Nat) (hk : n ≤ k) : (mirror xs i j ((j - i) / 2))[k]? = xs[k]? := by
  rw [getElem?_mirror_all hj, if_neg (by omega)]
theorem mirror_lo {xs : Array Keyed} {i j n : Nat} (hj : j ≤ xs.size) (hn : j ≤ n) (k : Nat) (hk : k < n) : ∃ k', k' < n ∧ (mirror xs i j ((j - i) / 2))[k]? = xs[k']? := by
  rw [getElem?_mirror_all hj]
  by_cases h : i ≤ k ∧ k < j
  · rw [if_pos h]; exact ⟨_, by omega, rfl⟩
  · rw [if_neg h]; exact ⟨k, hk, rfl⟩
theorem Un.mirror {xs : Array Keyed} {i j n m : Nat} (h : Un r xs n m) (hj : j ≤ xs.size) (hn : j ≤ n) : Un r (mirror xs i j ((j - i) / 2)) n m :=
  h.shuffle (fun k hk => mirror_hi hj hn k hk) fun k hk => mirror_lo hj hn k hk
theorem Dn.turn {xs : Array Keyed} {n : Nat} (h : Dn r xs n) (hn : n ≤ xs.size) : Up r (mirror xs 0 n ((n - 0) / 2)) n := fun i j hij hj => by
  have e1 := getElem?_mirror_all (i := 0) hn i
  have e2 := getElem?_mirror_all (i := 0) hn j
  rw [if_pos (by omega)] at e1 e2
  exact (h _ _ (show 0 + n - 1 - j < 0 + n - 1 - i by omega) (by omega)).congr e1 e2
theorem Up.turn {xs : Array Keyed} {n : Nat} (h : Up r xs n) (hn : n ≤ xs.size) : Dn r (mirror xs 0 n ((n - 0) / 2)) n := fun i j hij hj => by
  have e1 := getElem?_mirror_all (i := 0) hn i
  have e2 := getElem?_mirror_all (i := 0) hn j
  rw [if_pos (by omega)] at e1 e2
  exact (h _ _ (show 0 + n - 1 - j < 0 + n - 1 - i by omega) (by omega)).congr e2 e1
theorem Up.more {xs : Array Keyed} {n m : Nat} (h : Up r xs n) (hu : Un r xs n m) (hn : n < m) (h1 : 1 ≤ n) (hk : ¬ K xs n < K xs (n - 1)) : Up r xs (n + 1) := fun i j hij hj => by
  by_cases hjn : j < n
  · exact h i j hij hjn
  · have e : j = n := by omega
    subst e
    have last : Lx r xs (j - 1) j := by
      by_cases q : K xs (j - 1) < K xs j
      · exact .inl q
      · exact .inr ⟨by omega, hu _ _ (by omega) (Nat.le_refl _) hn⟩
    by_cases hi : i = j - 1
    · subst hi; exact last
    · exact (h i (j - 1) (by omega) (by omega)).trans last
structure Dq (r : Keyed → Int) (xs : Array Keyed) (n q : Nat) : Prop where
  le : q + 1 ≤ n
  dn : Dn r xs (n - (q + 1))
  cross : ∀ i j, i < n - (q + 1) → n - (q + 1) ≤ j → j < n → K xs j < K xs i
  eq : ∀ i, n - (q + 1) ≤ i → i < n → K xs i = K xs (n - 1)
  up : ∀ i j, n - (q + 1) ≤ i → i < j → j < n → R r xs i < R r xs j
theorem Dq.turn {xs : Array Keyed} {n q : Nat} (h : Dq r xs n q) (hn : n ≤ xs.size) : Dn r (mirror xs (n - (q + 1)) n ((n - (n - (q + 1))) / 2)) n := fun i j hij hj => by
  have e1 := getElem?_mirror_all (i := n - (q + 1)) hn i
  have e2 := getElem?_mirror_all (i := n - (q + 1)) hn j
  have hl := h.le
  by_cases hi : n - (q + 1) ≤ i
  · rw [if_pos (by omega)] at e1 e2
    refine Lx.congr (xs := xs) (i := n - (q + 1) + n - 1 - j) (j := n - (q + 1) + n - 1 - i) ?_ e2 e1
    refine .inr ⟨?_, h.up _ _ (by omega) (by omega) (by omega)⟩
    rw [h.eq _ (by omega) (by omega), h.eq (n - (q + 1) + n - 1 - i) (by omega) (by omega)]
  · rw [if_neg (by omega)] at e1
    by_cases hjq : n - (q + 1) ≤ j
    · rw [if_pos (by omega)] at e2
      exact Lx.congr (xs := xs) (.inl (h.cross i _ (by omega) (by omega) (by omega))) e2 e1
    · rw [if_neg (by omega)] at e2
      exact (h.dn i j hij (by omega)).congr e2 e1
theorem Dq.one {xs : Array Keyed} {n : Nat} (h : Dn r xs n) (hs : ∀ i, i < n → K xs n < K xs i) : Dq r xs (n + 1) 0 where
  le := by omega
  dn := fun i j hij hj => h i j hij (by omega)
  cross := fun i j hi hj hn => by
    have : j = n := by omega
    subst this; exact hs i (by omega)
  eq := fun i h1 h2 => by congr 1; omega
  up := fun i j h1 h2 h3 => by omega
theorem Dq.zero {xs : Array Keyed} {n : Nat} (h : Dq r xs n 0) : Dn r xs n := fun i j hij hj => by
  by_cases hjn : j < n - 1
  · exact h.dn i j hij (by omega)
  · exact .inl (h.cross i j (by omega) (by omega) hj)
theorem Dq.all_less {xs : Array Keyed} {n q : Nat} (h : Dq r xs n q) {v : Int} (hv : v < K xs (n - 1)) (i : Nat) (hi : i < n) : v < K xs i := by
  by_cases hq : n - (q + 1) ≤ i
  · rw [h.eq i hq hi]; exact hv
  · have := h.cross i (n - 1) (by omega) (by have := h.le; omega) (by omega)
    omega
theorem Dq.more {xs : Array Keyed} {n q m : Nat} (h : Dq r xs n q) (hu : Un r xs n m) (hn : n < m) (he : K xs n = K xs (n - 1)) : Dq r xs (n + 1) (q + 1) := by
  have hl := h.le
  have e0 : n + 1 - (q + 1 + 1) = n - (q + 1) := by omega
  refine ⟨by omega, by rw [e0]; exact h.dn, fun i j hi hj hn' => ?_, fun i h1 h2 => ?_, fun i j h1 h2 h3 => ?_⟩
  · rw [e0] at hi hj
    by_cases hjn : j < n
    · exact h.cross i j hi hj hjn
    · have : j = n := by omega
      subst this
      rw [he]
      exact h.cross i (j - 1) hi (by omega) (by omega)
  · rw [e0] at h1
    rw [show n + 1 - 1 = n by omega]
    by_cases hin : i < n
    · rw [he]; exact h.eq i h1 hin
    · have : i = n := by omega
      rw [this]
  · rw [e0] at h1
    by_cases hjn : j < n
    · exact h.up i j h1 h2 hjn
    · exact hu i j h2 (by omega) (by omega)
theorem K_of_mirror {xs : Array Keyed} {i j n : Nat} (hj : j ≤ xs.size) (hn : j ≤ n) (k : Nat) (hk : n ≤ k) : K (mirror xs i j ((j - i) / 2)) k = K xs k := K_congr (mirror_hi hj hn k hk)
end Stb

set_option Elab.async false
set_option linter.all false
set_option maxRecDepth 100000
set_option maxHeartbeats 4000000
/-! A sort that keeps the order of equals: the model's sort walked with the sharper invariants. -/
namespace Stb
open PySem PyProof.Rows
variable {prog : Program} {w : World} {A : Around} {E : Value → Shared → Prop} {s : Shared} {a₀ : Array Keyed} {r : Keyed → Int}
abbrev Wp (prog : Program) (w : World) (A : Around) (E : Value → Shared → Prop) (s : Shared) {α : Type} (m : StateT SortSt Sem α) (Q : α → SortSt → Prop) (st : SortSt) : Prop := wpS (model prog w) A E s m Q st
/-- what a run tells: its length, risen, and the rest untouched behind it -/
abbrev Told (a₀ : Array Keyed) (r : Keyed → Int) (Q : Option Nat → SortSt → Prop) : Prop :=
  ∀ m st', SBase a₀ st' → 1 ≤ m → m ≤ a₀.size → Up r (arrOf st') m → Un r (arrOf st') m a₀.size → Q (some m) st'
theorem asc {st : SortSt} {a : Nat} {Q : AscSt → SortSt → Prop} (kk : IntKeys a₀) (a1 : 1 ≤ a) (an : a ≤ a₀.size) (b : SBase a₀ st) (up : Up r (arrOf st) a) (un : Un r (arrOf st) a a₀.size)
    (go : ∀ n, a ≤ n → n ≤ a₀.size → Up r (arrOf st) n → (n = a₀.size ∨ K (arrOf st) n < K (arrOf st) (n - 1)) → Q (none, n) st) : Wp prog w A E s (ascLoop a a₀.size) Q st := by
  unfold ascLoop
  refine wpS_forRange (I := fun x c st' => st' = st ∧ c = (none, x) ∧ Up r (arrOf st) x) ?turn ?over ⟨rfl, rfl, up⟩
  case over =>
    rintro c st' ⟨rfl, rfl, u⟩
    have e : max a a₀.size = a₀.size := by omega
    rw [e] at u ⊢
    exact go _ an (Nat.le_refl _) u (.inl rfl)
  case turn =>
    rintro x c st' ax xn ⟨rfl, rfl, u⟩
    dsimp only
    refine wpS_bind (wpS_ltK b kk (by omega) (by omega) ?_)
    by_cases less : K (arrOf st') x < K (arrOf st') (x - 1)
    · simp only [less, decide_true, if_true]
      exact wpS_pure (go x ax (by omega) u (.inr less))
    · simp only [less, decide_false, Bool.false_eq_true, if_false]
      exact wpS_pure ⟨rfl, rfl, u.more (un.mono ax) xn (by omega) less⟩
theorem turnUp {st : SortSt} {n : Nat} {Q : Option Nat → SortSt → Prop} (kk : IntKeys a₀) (n1 : 1 ≤ n) (nn : n ≤ a₀.size) (b : SBase a₀ st) (dn : Dn r (arrOf st) n) (un : Un r (arrOf st) n a₀.size) (go : Told a₀ r Q) :
    Wp prog w A E s (tail3 n a₀.size) Q st := by
  unfold tail3
  have sz : n ≤ (arrOf st).size := by rw [b.size]; exact nn
  refine wpS_bind (wpS_reverse ?_)
  have b' := b.setArr (mirror_perm (arrOf st) 0 n ((n - 0) / 2))
  have un' : Un r (mirror (arrOf st) 0 n ((n - 0) / 2)) n a₀.size := un.mirror sz (Nat.le_refl _)
  exact wpS_bind (asc kk n1 nn b' (dn.turn sz) un' fun m m1 m2 u _ => wpS_pure (go m _ b' (by omega) m2 u (un'.mono m1)))
theorem desc {st : SortSt} {n : Nat} {Q : DescSt → SortSt → Prop} (kk : IntKeys a₀) (n1 : 1 ≤ n) (nn : n ≤ a₀.size) (b : SBase a₀ st) (dq : Dq r (arrOf st) n 0) (un : Un r (arrOf st) n a₀.size)
    (go : ∀ m q st', SBase a₀ st' → n ≤ m → m ≤ a₀.size → Dq r (arrOf st') m q → Un r (arrOf st') m a₀.size → Q (none, m, q) st') : Wp prog w A E s (descLoop n a₀.size) Q st := by
  unfold descLoop
  refine wpS_forRange (I := fun x c st' => ∃ q, c = (none, x, q) ∧ SBase a₀ st' ∧ Dq r (arrOf st') x q ∧ Un r (arrOf st') x a₀.size) ?turn ?over ⟨0, rfl, b, dq, un⟩
  case over =>
    rintro c st' ⟨q, rfl, b', d', u'⟩
    have e : max n a₀.size = a₀.size := by omega
    rw [e] at d' u' ⊢
    exact go _ q st' b' nn (Nat.le_refl _) d' u'
  case turn =>
    rintro x c st' ax xn ⟨q, rfl, b', d', u'⟩
    dsimp only
    have sz : x ≤ (arrOf st').size := by rw [b'.size]; omega
    refine wpS_bind (wpS_ltK b' kk (by omega) (by omega) ?_)
    by_cases less : K (arrOf st') x < K (arrOf st') (x - 1)
    · simp only [less, decide_true, if_true]
      by_cases q0 : q > 0
      · rw [if_pos q0]
        refine wpS_bind (wpS_reverse (wpS_pure ⟨0, rfl, b'.setArr (mirror_perm _ _ _ _), ?_, ?_⟩))
        · refine Dq.one (d'.turn sz) fun i hi => ?_
          obtain ⟨i', hi', e⟩ := mirror_lo (i := x - (q + 1)) sz (Nat.le_refl _) i hi
          rw [K_congr e, K_of_mirror sz (Nat.le_refl _) x (Nat.le_refl _)]
          exact d'.all_less less i' hi'
        · exact (u'.mirror sz (Nat.le_refl _)).mono (by omega)
      · rw [if_neg q0]
        obtain rfl : q = 0 := by omega
        exact wpS_pure ⟨0, rfl, b', Dq.one d'.zero fun i hi => d'.all_less less i hi, u'.mono (by omega)⟩
    · simp only [less, decide_false, Bool.false_eq_true, if_false]
      refine wpS_bind (wpS_ltK b' kk (by omega) (by omega) ?_)
      by_cases more : K (arrOf st') (x - 1) < K (arrOf st') x
      · simp only [more, decide_true, if_true]
        exact wpS_pure (go x q st' b' ax (by omega) d' u')
      · simp only [more, decide_false, Bool.false_eq_true, if_false]
        exact wpS_pure ⟨q + 1, rfl, b', d'.more u' xn (by omega), u'.mono (by omega)⟩
theorem descUp {st : SortSt} {n : Nat} {Q : Option Nat → SortSt → Prop} (kk : IntKeys a₀) (nn : n + 1 ≤ a₀.size) (b : SBase a₀ st) (dq : Dq r (arrOf st) (n + 1) 0) (un : Un r (arrOf st) (n + 1) a₀.size) (go : Told a₀ r Q) :
    Wp prog w A E s (descPart n a₀.size) Q st := by
  unfold descPart
  refine wpS_bind (wpS_lift (wpAny_rule ⟨rfl, ?_⟩))
  refine wpS_bind (desc kk (by omega) nn b dq un fun m q st' b' m1 m2 d' u' => ?_)
  dsimp only
  have sz : m ≤ (arrOf st').size := by rw [b'.size]; omega
  by_cases q0 : q > 0
  · rw [if_pos q0]
    exact wpS_bind (wpS_reverse (turnUp kk (by omega) m2 (b'.setArr (mirror_perm _ _ _ _)) (d'.turn sz) (u'.mirror sz (Nat.le_refl _)) go))
  · rw [if_neg q0]
    obtain rfl : q = 0 := by omega
    exact turnUp kk (by omega) m2 b' d'.zero u' go
theorem run {st : SortSt} {Q : Option Nat → SortSt → Prop} (kk : IntKeys a₀) (s1 : 1 ≤ a₀.size) (b : SBase a₀ st) (un : Un r (arrOf st) 0 a₀.size) (go : Told a₀ r Q) : Wp prog w A E s (countRun' 0 a₀.size) Q st := by
  rw [countRun0_eq]
  refine wpS_bind (asc kk (Nat.le_refl 1) s1 b (fun i j ij j1 => by omega) (un.mono (by omega)) fun n n1 n2 u out => ?_)
  dsimp only
  by_cases nn : n = a₀.size
  · rw [if_pos (by simpa using nn)]
    exact wpS_pure (go n st b n1 n2 u (un.mono (by omega)))
  · rw [if_neg (by simpa using nn)]
    have less := out.resolve_left nn
    have sz : n ≤ (arrOf st).size := by rw [b.size]; omega
    by_cases g1 : n > 1
    · rw [if_pos g1]
      refine wpS_bind (wpS_ltK b kk (by omega) (by omega) ?_)
      by_cases rose : K (arrOf st) 0 < K (arrOf st) (n - 1)
      · simp only [rose, decide_true, if_true]
        exact wpS_pure (go n st b n1 n2 u (un.mono (by omega)))
      · simp only [rose, decide_false, Bool.false_eq_true, if_false]
        refine wpS_bind (wpS_reverse (descUp kk (by omega) (b.setArr (mirror_perm _ _ _ _)) ?_ ?_ go))
        · refine Dq.one (u.turn sz) fun i hi => ?_
          obtain ⟨i', hi', e⟩ := mirror_lo (i := 0) sz (Nat.le_refl _) i hi
          rw [K_congr e, K_of_mirror sz (Nat.le_refl _) n (Nat.le_refl _)]
          have h0 : K (arrOf st) 0 ≤ K (arrOf st) i' := by
            by_cases z : i' = 0
            · rw [z]; exact Int.le_refl _
            · rcases u 0 i' (by omega) hi' with q | ⟨q, _⟩ <;> omega
          have hn : K (arrOf st) (n - 1) ≤ K (arrOf st) 0 := Int.not_lt.mp rose
          omega
        · exact (un.mono (Nat.zero_le n)).mirror sz (Nat.le_refl _) |>.mono (by omega)
    · rw [if_neg g1]
      obtain rfl : n = 1 := by omega
      exact descUp kk (by omega) b (Dq.one (fun i j ij j1 => by omega) fun i hi => by
        obtain rfl : i = 0 := by omega
        exact less) (un.mono (by omega)) go
theorem insert {st : SortSt} {ok : Nat} {Q : Bool → SortSt → Prop} (kk : IntKeys a₀) (hok : ok ≤ a₀.size) (b : SBase a₀ st) (up : Up r (arrOf st) ok) (un : Un r (arrOf st) ok a₀.size)
    (go : ∀ st', SBase a₀ st' → Up r (arrOf st') a₀.size → Q true st') : Wp prog w A E s (binarySort' 0 a₀.size ok) Q st := by
  rw [binarySort'_eq]
  simp only [Nat.zero_add]
  refine wpS_bind (wpS_mono (wpS_forRange (I := fun k c st' => c = (none, ()) ∧ SBase a₀ st' ∧ Up r (arrOf st') (min k a₀.size) ∧ Un r (arrOf st') k a₀.size)
    (Q := fun c st' => c = (none, ()) ∧ SBase a₀ st' ∧ Up r (arrOf st') a₀.size) ?turn ?over ?first) ?thn)
  case thn =>
    rintro c st' ⟨rfl, b', u'⟩
    exact wpS_pure (go st' b' u')
  case first =>
    refine ⟨rfl, b, fun i j ij j1 => ?_, un.mono (by omega)⟩
    by_cases z : ok = 0
    · omega
    · exact up i j ij (by omega)
  case over =>
    rintro c st' ⟨e, b', u', _⟩
    refine ⟨e, b', ?_⟩
    have z : min (max (max ok 1) a₀.size) a₀.size = a₀.size := by omega
    rw [z] at u'
    exact u'
  case turn =>
    rintro k c st' ak kn ⟨rfl, b', u', n'⟩
    have z : min k a₀.size = k := by omega
    rw [z] at u'
    have mono : ∀ i j, i ≤ j → j < k → K (arrOf st') i ≤ K (arrOf st') j := fun i j ij jk => by
      by_cases e : i = j
      · rw [e]; exact Int.le_refl _
      · rcases u' i j (by omega) jk with q | ⟨q, _⟩ <;> omega
    refine wpS_bind (wpS_mono (wpS_forRange (I := fun x c st2 => st2 = st' ∧ ∃ lo hi, c = (none, lo, hi) ∧ lo ≤ hi ∧ hi ≤ k ∧ hi - lo ≤ k - x ∧
        (∀ i, i < lo → K (arrOf st') i ≤ K (arrOf st') k) ∧ (∀ i, hi ≤ i → i < k → K (arrOf st') k < K (arrOf st') i))
      (Q := fun c st2 => st2 = st' ∧ ∃ lo hi, c = (none, lo, hi) ∧ lo ≤ k ∧
        (∀ i, i < lo → K (arrOf st') i ≤ K (arrOf st') k) ∧ (∀ i, lo ≤ i → i < k → K (arrOf st') k < K (arrOf st') i)) ?look ?found ?start) ?move)
    case start => exact ⟨rfl, 0, k, rfl, Nat.zero_le _, Nat.le_refl _, by omega, fun i h => by omega, fun i h1 h2 => by omega⟩
    case found =>
      rintro c st2 ⟨rfl, lo, hi, rfl, lh, hk, room, low, high⟩
      obtain rfl : lo = hi := by omega
      exact ⟨rfl, lo, lo, rfl, hk, low, high⟩
    case look =>
      rintro x c st2 _ xk ⟨rfl, lo, hi, rfl, lh, hk, room, low, high⟩
      dsimp only
      by_cases met : lo ≥ hi
      · rw [if_pos met]
        obtain rfl : lo = hi := by omega
        exact wpS_pure ⟨rfl, lo, lo, rfl, hk, low, high⟩
      · rw [if_neg met]
        obtain ⟨m, hm⟩ : ∃ m, m = (lo + hi) / 2 := ⟨_, rfl⟩
        have m1 : lo ≤ m := by omega
        have m2 : m < hi := by omega
        rw [← hm]
        clear hm met
        refine wpS_bind (wpS_ltK b' kk kn (by omega) ?_)
        by_cases less : K (arrOf st2) k < K (arrOf st2) m
        · simp only [less, decide_true, if_true]
          refine wpS_pure ⟨rfl, lo, m, rfl, m1, by omega, by omega, low, fun i h1 h2 => ?_⟩
          exact Int.lt_of_lt_of_le less (mono _ _ h1 h2)
        · simp only [less, decide_false, Bool.false_eq_true, if_false]
          refine wpS_pure ⟨rfl, m + 1, hi, rfl, m2, hk, by omega, fun i h1 => ?_, high⟩
          exact Int.le_trans (mono i m (Nat.le_of_lt_succ h1) (Nat.lt_of_lt_of_le m2 hk)) (Int.not_lt.mp less)
    case move =>
      rintro c st2 ⟨rfl, lo, hi, rfl, lk, low, high⟩
      show wpS _ _ _ _ (do moveDown' k lo; pure (ForInStep.yield (none, ()))) _ _
      rw [moveDown'_eq]
      have ks : k < (arrOf st2).size := by rw [b'.size]; exact kn
      have at_ : ∀ i, (bubble (arrOf st2) k (k - lo))[i]? = if i = lo then (arrOf st2)[k]? else if lo < i ∧ i ≤ k then (arrOf st2)[i - 1]? else (arrOf st2)[i]? := fun i => by
        rw [getElem?_bubble ks _ (by omega), show k - (k - lo) = lo by omega]
      refine wpS_bind (wpS_modify (wpS_pure ⟨rfl, b'.setArr (bubble_perm _ _ _), ?_, ?_⟩))
      · rw [show min (k + 1) a₀.size = k + 1 by omega]
        intro i j ij jk
        show Lx r (bubble (arrOf st2) k (k - lo)) i j
        have ei := at_ i
        have ej := at_ j
        have sm : ∀ p : Nat, p < lo → Lx r (arrOf st2) p k := fun p h => by
          have := low p h
          by_cases z : K (arrOf st2) p < K (arrOf st2) k
          · exact .inl z
          · exact .inr ⟨by omega, n' p k (by omega) (Nat.le_refl _) kn⟩
        by_cases i1 : i = lo
        · rw [if_pos i1] at ei
          rw [if_neg (by omega), if_pos (by omega)] at ej
          exact Lx.congr (.inl (high (j - 1) (by omega) (by omega))) ei ej
        · rw [if_neg i1] at ei
          by_cases j1 : j = lo
          · rw [if_pos j1] at ej
            rw [if_neg (by omega)] at ei
            exact (sm i (by omega)).congr ei ej
          · rw [if_neg j1] at ej
            by_cases i2 : lo < i ∧ i ≤ k
            · rw [if_pos i2] at ei
              rw [if_pos (by omega)] at ej
              exact (u' (i - 1) (j - 1) (by omega) (by omega)).congr ei ej
            · rw [if_neg i2] at ei
              by_cases j2 : lo < j ∧ j ≤ k
              · rw [if_pos j2] at ej
                exact (u' i (j - 1) (by omega) (by omega)).congr ei ej
              · rw [if_neg j2] at ej
                exact (u' i j ij (by omega)).congr ei ej
      · refine Un.shuffle (n'.mono (Nat.le_succ k)) (fun i hi => ?_) fun i hi => ?_
        · show (bubble (arrOf st2) k (k - lo))[i]? = _
          rw [at_, if_neg (by omega), if_neg (by omega)]
        · show ∃ k', k' < k + 1 ∧ (bubble (arrOf st2) k (k - lo))[i]? = _
          rw [at_]
          by_cases i1 : i = lo
          · rw [if_pos i1]; exact ⟨k, by omega, rfl⟩
          · rw [if_neg i1]
            by_cases i2 : lo < i ∧ i ≤ k
            · rw [if_pos i2]; exact ⟨i - 1, by omega, rfl⟩
            · rw [if_neg i2]; exact ⟨i, hi, rfl⟩
/-- what is left when all is sorted -/
abbrev Dd (a₀ : Array Keyed) (r : Keyed → Int) (st : SortSt) : Prop := (arrOf st).Perm a₀ ∧ failedOf st = none ∧ pendingOf st = #[(0, a₀.size, 0)] ∧ Up r (arrOf st) a₀.size
theorem dd {st : SortSt} (b : SBase a₀ st) (u : Up r (arrOf st) a₀.size) : Dd a₀ r (setPending st ((pendingOf st).push (0, a₀.size, 0))) :=
  ⟨b.perm, b.failed, (by show (pendingOf st).push _ = _; rw [b.pend]; rfl), u⟩
theorem sorts {st : SortSt} {Q : Unit → SortSt → Prop} (kk : IntKeys a₀) (b : SBase a₀ st) (un : Un r (arrOf st) 0 a₀.size) (s2 : 2 ≤ a₀.size) (s64 : a₀.size < 64)
    (go : ∀ st', (arrOf st').Perm a₀ → failedOf st' = none → Up r (arrOf st') a₀.size → Q () st') : Wp prog w A E s sortRuns' Q st := by
  show wpS _ _ _ _ sortRuns' _ _
  rw [sortRuns'_eq]
  refine wpS_bind (wpS_get ?_)
  dsimp only
  have mr : minRun' a₀.size a₀.size 0 = a₀.size := by
    obtain ⟨f, e⟩ : ∃ f, a₀.size = f + 1 := ⟨a₀.size - 1, by omega⟩
    have z : minRun' (f + 1) a₀.size 0 = a₀.size := by rw [minRun'_succ, if_pos s64]; rfl
    rw [← e] at z; exact z
  simp only [b.size, mr]
  refine wpS_bind (wpS_mono (wpS_forRange
    (I := fun x c st' => (x = 0 ∧ c = (none, 0) ∧ SBase a₀ st' ∧ Un r (arrOf st') 0 a₀.size) ∨ (1 ≤ x ∧ c = (none, a₀.size) ∧ Dd a₀ r st'))
    (Q := fun c st' => c = (none, a₀.size) ∧ Dd a₀ r st') ?turn ?over (.inl ⟨rfl, rfl, b, un⟩)) ?thn)
  case over =>
    rintro c st' (⟨z, _⟩ | ⟨_, e, d⟩)
    · omega
    · exact ⟨e, d⟩
  case turn =>
    rintro x c st' _ xn (⟨rfl, rfl, b', u'⟩ | ⟨x1, rfl, d⟩)
    · dsimp only
      rw [if_neg (by omega)]
      simp only [Nat.sub_zero, Nat.min_self, Nat.zero_add]
      refine wpS_bind (run kk (by omega) b' u' fun m st2 b2 m1 m2 up2 un2 => ?_)
      dsimp only
      by_cases lt : m < a₀.size
      · rw [if_pos lt]
        refine wpS_bind (wpS_lift (wpAny_rule ⟨rfl, ?_⟩))
        refine wpS_bind (insert kk m2 b2 up2 un2 fun st3 b3 u3 => ?_)
        simp only [Bool.not_true, Bool.false_eq_true, if_false]
        refine wpS_bind (wpS_get ?_)
        have bk : (pendingOf st3).back? = none := by rw [b3.pend]; rfl
        rw [bk]
        dsimp only
        exact wpS_bind (wpS_modify (wpS_pure (.inr ⟨by omega, rfl, dd b3 u3⟩)))
      · rw [if_neg lt]
        obtain rfl : m = a₀.size := by omega
        refine wpS_bind (wpS_get ?_)
        have bk : (pendingOf st2).back? = none := by rw [b2.pend]; rfl
        rw [bk]
        dsimp only
        exact wpS_bind (wpS_modify (wpS_pure (.inr ⟨by omega, rfl, dd b2 up2⟩)))
    · dsimp only
      rw [if_pos (Nat.le_refl _)]
      exact wpS_pure ⟨rfl, d⟩
  case thn =>
    rintro c st' ⟨rfl, d⟩
    dsimp only
    refine wpS_bind (wpS_mono (wpS_forRange (I := fun _ c st2 => st2 = st' ∧ c = (none, ())) (Q := fun c st2 => st2 = st' ∧ c = (none, ())) ?_ (fun _ _ hh => hh) ⟨rfl, rfl⟩) ?_)
    · rintro x c st2 _ _ ⟨rfl, rfl⟩
      refine wpS_bind (wpS_get ?_)
      rw [if_pos (by rw [d.2.2.1]; exact Nat.le_refl 1)]
      exact wpS_pure ⟨rfl, rfl⟩
    · rintro c st2 ⟨rfl, rfl⟩
      exact wpS_pure (go _ d.1 d.2.1 d.2.2.2)
end Stb

set_option Elab.async false
set_option linter.all false
set_option maxRecDepth 100000
set_option maxHeartbeats 4000000
/-! sorted(.., key=..) that keeps the order of equals. -/
namespace Stb
open PySem PyProof.Rows
/-- the outcome: by the keys, equals by a rank that rose in the list handed in -/
def Out (rk : Value → Int) (kz : List Int) (vs out : List Value) : Prop :=
  ∃ ps : List (Int × Value), ps.Perm (kz.zip vs) ∧ out = ps.map Prod.snd ∧ ps.Pairwise fun p q => p.1 < q.1 ∨ (p.1 = q.1 ∧ rk p.2 < rk q.2)
def Rising (rk : Value → Int) (vs : List Value) : Prop := ∀ (i j : Nat) (u v : Value), i < j → vs[i]? = some u → vs[j]? = some v → rk u < rk v
variable {prog : Program} {w : World} {A : Around} {E : Value → Shared → Prop} {s : Shared} {h₀ : Heap} {L : Addr} {m : Str → Option Value} {news : List (Addr × Obj)} {a kS : Addr} {vs : List Value} {kz : List Int} {keys : Array Value} {e e1 : Nat} {P : PySem.Fin → Shared → Prop} {rk : Value → Int}
theorem out_of (ks : IntsAre keys.toList kz) {xs : Array Keyed} (pm : xs.Perm (keys.zip vs.toArray)) (up : Up (fun p => rk p.2) xs xs.size) : Out rk kz vs (xs.map (·.2)).toList := by
  have pl : xs.toList.Perm (keys.toList.zip vs) := by rw [← ksk_zip]; exact Array.perm_iff_toList_perm.mp pm
  have ez : (keys.toList.zip vs).map (fun p : Keyed => (numOf p.1, p.2)) = kz.zip vs := by
    rw [← ks.nums, List.zip_map_left]
    exact List.map_congr_left fun ⟨_, _⟩ _ => rfl
  refine ⟨xs.toList.map fun p : Keyed => (numOf p.1, p.2), by rw [← ez]; exact pl.map _, by rw [Array.toList_map, List.map_map]; rfl, ?_⟩
  rw [List.pairwise_iff_getElem]
  intro i j li lj ij
  have i' : i < xs.size := by simpa using li
  have j' : j < xs.size := by simpa using lj
  have z := up i j ij j'
  unfold Lx R at z
  rw [K_eq i', K_eq j', getElem?_pos xs i i', getElem?_pos xs j j'] at z
  simpa using z
theorem un_start (ks : IntsAre keys.toList kz) (len : kz.length = vs.length) (rise : Rising rk vs) : Un (fun p => rk p.2) (keys.zip vs.toArray) 0 (keys.zip vs.toArray).size := by
  intro i j ij _ js
  have at_ : ∀ k, k < (keys.zip vs.toArray).size → ∃ v, vs[k]? = some v ∧ R (fun p => rk p.2) (keys.zip vs.toArray) k = rk v := fun k hk => by
    have hk2 : k < vs.length := by
      have e6 : vs.toArray.size = vs.length := List.size_toArray ..
      rw [Array.size_zip, e6] at hk
      omega
    refine ⟨vs[k], List.getElem?_eq_getElem hk2, ?_⟩
    unfold R
    rw [getElem?_pos _ k hk]
    simp
  obtain ⟨u, eu, ru⟩ := at_ i (by omega)
  obtain ⟨v, ev, rv⟩ := at_ j js
  rw [ru, rv]
  exact rise i j u v ij eu ev
theorem tail_ {st : SortSt} (F : Fr h₀ L s.heap m) (N : News h₀ L s.heap (news ++ [(kS, seqObj "list" keys e), (a, seqObj "list" #[] e1)])) (ap : kS ≠ a) (nk : ∀ p ∈ news, p.1 ≠ kS) (na : ∀ p ∈ news, p.1 ≠ a)
    (ks : IntsAre keys.toList kz) (len : kz.length = vs.length) (few : vs.length < 64) (pm : (arrOf st).Perm (keys.zip vs.toArray)) (up : Up (fun p => rk p.2) (arrOf st) (arrOf st).size) (nofail : failedOf st = none)
    (go : ∀ g tk out c, Fr h₀ L g m → News h₀ L g ((a, seqObj "list" out c) :: news) → Out rk kz vs out.toList → P (.done (.ret .none)) { s with heap := g, toks := tk }) :
    wpAny (model prog w) A (ksk_tail a false e1 (.ref kS) st) P E s := by
  have Nk := N (kS, seqObj "list" keys e) (List.mem_append_right _ (.head _))
  have Na := N (a, seqObj "list" #[] e1) (List.mem_append_right _ (.tail _ (.head _)))
  have kl : keys.size = vs.length := by have := ks.length; rw [Array.length_toList] at this; omega
  have al : ((arrOf st).map (·.2)).size = vs.length := by rw [Array.size_map, pm.size_eq, Array.size_zip, kl, List.size_toArray, Nat.min_self]
  have b1 := Heap.SameBut.update s.heap kS (Obj.mapSeq fun _ => (#[] : Array Value))
  have Na1 := (b1.2 a ap.symm).trans Na.1
  have b2 := Heap.SameBut.update (s.heap.update kS (Obj.mapSeq fun _ => (#[] : Array Value))) a (Obj.mapSeq fun _ => (arrOf st).map (·.2))
  obtain ⟨c2, g2⟩ : ∃ c2, ((s.heap.update kS (Obj.mapSeq fun _ => (#[] : Array Value))).update a (Obj.mapSeq fun _ => (arrOf st).map (·.2))).get? a = some (seqObj "list" ((arrOf st).map (·.2)) c2) :=
    ⟨_, get?_update_seq Na1 fun _ => (arrOf st).map (·.2)⟩
  have N2 := ksk_news (ksk_news (fun p hp => N p (List.mem_append_left _ hp) : News h₀ L s.heap news) b1 nk) b2 na
  unfold ksk_tail
  try dsimp only
  refine wpAny_bind (listUpdate_at Nk.1 rfl ?_ (by rw [kl, sizeLine_eq]; omega) (Nat.zero_le _))
  refine wpAny_bind (wpAny_letGo (wpAny_bind (seqEpoch_at Na1 rfl ?_)))
  refine wpAny_bind (listUpdate_at Na1 rfl ?_ (Nat.zero_le _) (Nat.le_trans (Nat.le_of_eq al) (by rw [sizeLine_eq]; omega)))
  rw [nofail]
  simp only [bne_self_eq_false, Bool.false_eq_true, if_false]
  refine wpAny_pure (go _ _ _ c2 (ksk_fr (ksk_fr F b1 Nk.2.1 Nk.2.2) b2 Na.2.1 Na.2.2) (fun p hp => ?_) (out_of ks pm up))
  rcases List.mem_cons.mp hp with rfl | q
  · exact ⟨g2, Na.2⟩
  · exact N2 p q
theorem end_ (F : Fr h₀ L s.heap m) (N : News h₀ L s.heap (news ++ [(kS, seqObj "list" keys e), (a, seqObj "list" #[] e1)])) (ap : kS ≠ a) (nk : ∀ p ∈ news, p.1 ≠ kS) (na : ∀ p ∈ news, p.1 ≠ a)
    (ks : IntsAre keys.toList kz) (len : kz.length = vs.length) (few : vs.length < 64) (two : 2 ≤ vs.length) (rise : Rising rk vs)
    (go : ∀ g tk out c, Fr h₀ L g m → News h₀ L g ((a, seqObj "list" out c) :: news) → Out rk kz vs out.toList → P (.done (.ret .none)) { s with heap := g, toks := tk }) :
    wpAny (model prog w) A (ksk_end a false vs.toArray e1 (.ref kS) keys) P E s := by
  have kl : keys.size = vs.length := by have := ks.length; rw [Array.length_toList] at this; omega
  have zl : (keys.zip vs.toArray).size = vs.length := by rw [Array.size_zip, kl, List.size_toArray, Nat.min_self]
  have no2 : ¬ vs.toArray.size < 2 := by rw [List.size_toArray]; omega
  unfold ksk_end
  try dsimp only
  rw [if_neg no2, if_neg no2, ksk_kind ks (by omega)]
  simp only [Bool.false_eq_true, if_false]
  refine wpAny_bind (wpAny_pure ?_)
  refine wpAny_bind (wpAny_mono (sorts (r := fun p => rk p.2) (a₀ := keys.zip vs.toArray) (st := SortSt.mk' oneType' (keys.zip vs.toArray) #[] 7 none)
    (Q := fun _ st' => (arrOf st').Perm (keys.zip vs.toArray) ∧ failedOf st' = none ∧ Up (fun p => rk p.2) (arrOf st') (keys.zip vs.toArray).size)
    (ksk_intKeys ks) ⟨Array.Perm.refl _, rfl, rfl, rfl⟩ (un_start ks len rise) (by omega) (by omega) fun st' q1 q2 q3 => ⟨q1, q2, q3⟩) ?_ fun _ _ z => z)
  rintro ⟨⟨⟩, st'⟩ s' ⟨rfl, pm, nf, up⟩
  try dsimp only
  have hz : (arrOf st').size = (keys.zip vs.toArray).size := pm.size_eq
  exact tail_ F N ap nk na ks len few pm (by rw [hz]; exact up) nf go
theorem rest_ {f : Value} (F : Fr h₀ L s.heap m) (N : News h₀ L s.heap (news ++ [(kS, seqObj "list" #[] 0), (a, seqObj "list" #[] e1)])) (ap : kS ≠ a) (nk : ∀ p ∈ news, p.1 ≠ kS) (na : ∀ p ∈ news, p.1 ≠ a)
    (len : kz.length = vs.length) (few : vs.length < 64) (two : 2 ≤ vs.length) (rise : Rising rk vs)
    (turn : ∀ (i : Nat) (v : Value) (k : Int), vs[i]? = some v → kz[i]? = some k → ∀ (g : Heap) (tk : Nat) (own : List (Addr × Obj)), Fr h₀ L g m → News h₀ L g (news ++ own) →
      wpAny (model prog w) A (call f [v]) (KskEnd h₀ L m (news ++ own) k { s with heap := g, toks := tk }) (fun _ _ => False) { s with heap := g, toks := tk })
    (go : ∀ g tk out c, Fr h₀ L g m → News h₀ L g ((a, seqObj "list" out c) :: news) → Out rk kz vs out.toList → P (.done (.ret .none)) { s with heap := g, toks := tk }) :
    wpAny (model prog w) A (ksk_rest a f false vs.toArray e1 (.ref kS)) P E s := by
  unfold ksk_rest
  refine wpAny_bind (wpAny_rule ?_)
  first
    | rw [List.forIn_toArray]
    | (rw [← Array.forIn_toList]; simp only [List.toList_toArray])
  refine wpAny_bind (ksk_fold (fun i s' => ∃ g tk kA c, s' = { s with heap := g, toks := tk } ∧ Fr h₀ L g m ∧ News h₀ L g (news ++ [(kS, seqObj "list" kA c), (a, seqObj "list" #[] e1)]) ∧ IntsAre kA.toList (kz.take i)) vs 0 s
    ⟨s.heap, s.toks, #[], 0, rfl, F, N, by simpa using IntsAre.nil⟩ ?one ?all)
  case one =>
    rintro j x s' hx ⟨g, tk, kA, c, rfl, F', N', ks⟩
    simp only [Nat.zero_add] at ks ⊢
    have jl : j < vs.length := (List.getElem?_eq_some_iff.mp hx).1
    obtain ⟨k, kj⟩ : ∃ k, kz[j]? = some k := ⟨_, List.getElem?_eq_getElem (by omega)⟩
    have kl : kA.size ≤ vs.length := by have := ks.length; rw [Array.length_toList, List.length_take] at this; omega
    refine wpAny_bind (wpAny_attempt (wpAny_mono (turn j x k hx kj g tk _ F' N') (fun v s2 q => ?_) fun _ _ z => z.elim))
    obtain ⟨g2, tk2, t2, rfl, rfl, F2, N2⟩ := q
    try dsimp only
    have Nk := N2 (kS, seqObj "list" kA c) (List.mem_append_right _ (.head _))
    have Na := N2 (a, seqObj "list" #[] e1) (List.mem_append_right _ (.tail _ (.head _)))
    have b1 := Heap.SameBut.update g2 kS (Obj.mapSeq (·.push (.int k t2)))
    obtain ⟨c2, q2⟩ : ∃ c2, (g2.update kS (Obj.mapSeq (·.push (.int k t2)))).get? kS = some (seqObj "list" (kA.push (.int k t2)) c2) := ⟨_, get?_update_seq Nk.1 (·.push (.int k t2))⟩
    have e3 : kz.take (j + 1) = kz.take j ++ [k] := by rw [List.take_add_one, kj]; simp
    have e4 : (kA.push (Value.int k t2)).toList = kA.toList ++ [Value.int k t2] := by simp
    refine wpAny_bind (listUpdate_at Nk.1 rfl ?_ (by rw [sizeLine_eq]; omega) (Nat.le_trans (Nat.le_of_eq (Array.size_push ..)) (by rw [sizeLine_eq]; omega)))
    refine wpAny_pure ⟨rfl, _, _, kA.push (.int k t2), c2, rfl, ksk_fr F2 b1 Nk.2.1 Nk.2.2, fun p hp => ?_, by rw [e4, e3]; exact ksk_snoc ks⟩
    rcases List.mem_append.mp hp with q | q
    · exact ksk_news (fun q hq => N2 q (List.mem_append_left _ hq)) b1 nk p q
    · rcases List.mem_cons.mp q with rfl | q
      · exact ⟨q2, Nk.2⟩
      · rw [List.mem_singleton.mp q]
        exact ⟨(b1.2 a ap.symm).trans Na.1, Na.2⟩
  case all =>
    rintro s' ⟨g, tk, kA, c, rfl, F', N', ks⟩
    have e5 : kz.take (0 + vs.length) = kz := List.take_of_length_le (by omega)
    rw [e5] at ks
    try dsimp only
    refine wpAny_bind (listItems_at (N' (kS, seqObj "list" kA c) (List.mem_append_right _ (.head _))).1 rfl ?_)
    exact end_ F' N' ap nk na ks len few two rise fun g3 tk3 out c3 F3 N3 k3 => go g3 tk3 out c3 F3 N3 k3
theorem sort_ {f : Value} {n : Nat} (F : Fr h₀ L s.heap m) (N : News h₀ L s.heap news) (ho : s.heap.get? a = some (seqObj "list" vs.toArray n)) (aL : a ≠ L) (a0 : h₀.get? a = none) (na : ∀ p ∈ news, p.1 ≠ a)
    (len : kz.length = vs.length) (few : vs.length < 64) (two : 2 ≤ vs.length) (rise : Rising rk vs)
    (turn : ∀ (i : Nat) (v : Value) (k : Int), vs[i]? = some v → kz[i]? = some k → ∀ (g : Heap) (tk : Nat) (own : List (Addr × Obj)), Fr h₀ L g m → News h₀ L g (news ++ own) →
      wpAny (model prog w) A (call f [v]) (KskEnd h₀ L m (news ++ own) k { s with heap := g, toks := tk }) (fun _ _ => False) { s with heap := g, toks := tk })
    (go : ∀ g tk out c, Fr h₀ L g m → News h₀ L g ((a, seqObj "list" out c) :: news) → Out rk kz vs out.toList → P (.done (.ret .none)) { s with heap := g, toks := tk }) :
    wpAny (model prog w) A (ksk_tree a f false) P E s := by
  have al : a < s.heap.objs.size := Heap.lt_size ho
  have b1 := Heap.SameBut.update s.heap a (Obj.mapSeq fun _ => (#[] : Array Value))
  obtain ⟨e1, o1⟩ : ∃ e1, (s.heap.update a (Obj.mapSeq fun _ => (#[] : Array Value))).get? a = some (seqObj "list" #[] e1) := ⟨_, get?_update_seq ho fun _ => #[]⟩
  have F1 := ksk_fr F b1 aL a0
  have N1 := ksk_news N b1 na
  have sz1 : (s.heap.update a (Obj.mapSeq fun _ => (#[] : Array Value))).objs.size = s.heap.objs.size := Heap.size_update ..
  unfold ksk_tree
  refine wpAny_bind (listItems_at ho rfl ?_)
  refine wpAny_bind (listUpdate_at ho rfl ?_ (by rw [List.size_toArray, sizeLine_eq]; omega) (Nat.zero_le _))
  show wpAny _ _ _ _ _ { s with heap := s.heap.update a (Obj.mapSeq fun _ => (#[] : Array Value)) }
  generalize s.heap.update a (Obj.mapSeq fun _ => (#[] : Array Value)) = g1 at *
  refine wpAny_bind (seqEpoch_at o1 rfl ?_)
  refine wpAny_bind (wpAny_newTuple ?_ (by show vs.length ≤ _; rw [sizeLine_eq]; omega))
  refine wpAny_bind (wpAny_newList ?_ (Nat.zero_le _))
  refine wpAny_holding ?_
  have hkS : (g1.push (seqObj "tuple" vs.toArray 0)).objs.size = s.heap.objs.size + 1 := by rw [size_push', sz1]
  have Lk : L < (g1.push (seqObj "tuple" vs.toArray 0)).objs.size := (F1.push _).ns.lt
  refine rest_ (s := { s with heap := (g1.push (seqObj "tuple" vs.toArray 0)).push (seqObj "list" #[] 0) }) (kS := (g1.push (seqObj "tuple" vs.toArray 0)).objs.size)
    ((F1.push _).push _) (fun p hp => ?_) (by rw [hkS]; exact Nat.ne_of_gt (Nat.lt_succ_of_lt al)) (fun p hp => by rw [hkS]; exact Nat.ne_of_lt (Nat.lt_succ_of_lt (Heap.lt_size (N p hp).1))) na len few two rise turn go
  rcases List.mem_append.mp hp with q | q
  · exact ⟨Heap.get?_push_of_some _ (Heap.get?_push_of_some _ (N1 p q).1), (N1 p q).2⟩
  · rcases List.mem_cons.mp q with rfl | q
    · exact ⟨Heap.get?_push_size _ rfl, Nat.ne_of_gt Lk, Heap.get?_none_of_le (Nat.le_trans F.above (Nat.le_of_lt Lk))⟩
    · rw [List.mem_singleton.mp q]
      exact ⟨Heap.get?_push_of_some _ (Heap.get?_push_of_some _ o1), aL, a0⟩
end Stb
namespace L2
open PySem PySem.Spec PyProof.Rows
open Sem (wp)
section
variable {prog : Program} {w : World} {A : Around} {E : Value → Shared → Prop} {s : Shared} {h₀ : Heap} {L l : Addr} {m : Str → Option Value} {news : List (Addr × Obj)} {vs : List Value} {Q : Value → Shared → Prop}
theorem sorted_keyS {rk : Value → Int} {kz : List Int} {f : Value} {kw : List (Str × Value)} (F : Fr h₀ L s.heap m) (N : News h₀ L s.heap news) (hl : s.heap.IsList l vs.toArray) (hlen : kz.length = vs.length) (h64 : vs.length < 64) (h2 : 2 ≤ vs.length) (hr : Stb.Rising rk vs)
    (ha1 : argsOk "sorted" ⟨[.ref l], kw⟩) (ha2 : ∀ x, argsOk "list.sort" ⟨[.ref x], kw⟩) (ht : ∀ x, Builtin.«list.sort» ⟨[.ref x], kw⟩ = ksk_tree x f false)
    (turn : ∀ (i : Nat) (v : Value) (k : Int), vs[i]? = some v → kz[i]? = some k → ∀ (h : Heap) (tk : Nat) (own : List (Addr × Obj)), Fr h₀ L h m → News h₀ L h (news ++ own) →
      wpAny (model prog w) A.in1.in1 (call f [v]) (KskEnd h₀ L m (news ++ own) k { s with heap := h, toks := tk }) (fun _ _ => False) { s with heap := h, toks := tk })
    (h : ∀ h' tk out c, Fr h₀ L h' m → News h₀ L h' ((s.heap.objs.size + 1, seqObj "list" out c) :: news) → Stb.Out rk kz vs out.toList → Q (.ref (s.heap.objs.size + 1)) { s with heap := h', toks := tk }) :
    wpAny (model prog w) A (call (.builtin "sorted") [.ref l] kw) Q E s := by
  refine call_function_entry_kw kind_sorted plain_sorted entry_sorted ha1 ?_
  unfold Builtin.«sorted»
  refine wpAny_bind (m := checkCount "sorted" 1 1 _) (wpAny_pure ?_)
  refine wpAny_bind (collect_list hl ?_ (by rw [sizeLine_eq]; omega))
  refine wpAny_bind (wpAny_newList ?_ (by rw [sizeLine_eq]; omega))
  have hsz : ((s.heap.push (seqObj "list" #[] 0)).update s.heap.objs.size (Obj.mapSeq (· ++ vs.toArray))).objs.size = s.heap.objs.size + 1 := by
    rw [Heap.size_update, size_push']
  have hoL : (((s.heap.push (seqObj "list" #[] 0)).update s.heap.objs.size (Obj.mapSeq (· ++ vs.toArray))).push (seqObj "list" vs.toArray 0)).get? (s.heap.objs.size + 1) = some (seqObj "list" vs.toArray 0) := by
    rw [← hsz]; exact Heap.get?_push_size _ rfl
  have keep : ∀ b o, s.heap.get? b = some o → (((s.heap.push (seqObj "list" #[] 0)).update s.heap.objs.size (Obj.mapSeq (· ++ vs.toArray))).push (seqObj "list" vs.toArray 0)).get? b = some o := fun b o q => by
    have hlt : b < s.heap.objs.size := Heap.lt_size q
    rw [Heap.get?_push_ne _ _ _ (by rw [hsz]; exact Nat.ne_of_lt (Nat.lt_succ_of_lt hlt)), Heap.get?_update_ne _ _ _ _ (Nat.ne_of_lt hlt), Heap.get?_push_ne _ _ _ (Nat.ne_of_lt hlt)]
    exact q
  have hL : L < s.heap.objs.size := F.ns.lt
  show wpAny _ _ _ _ _ { s with heap := ((s.heap.push (seqObj "list" #[] 0)).update s.heap.objs.size (Obj.mapSeq (· ++ vs.toArray))).push (seqObj "list" vs.toArray 0) }
  rw [hsz]
  refine wpAny_bind (wpAny_holding (wpAny_call_entry_kw slot_list_sort ⟨_, hoL, rfl⟩ entry_list_sort ?body (ha2 _)))
  case body =>
    have ht' := ht (s.heap.objs.size + 1)
    show wpAny (model prog w) A.in1.in1 (Builtin.«list.sort» ⟨[.ref (s.heap.objs.size + 1)], kw⟩) _ _ _
    rw [ht']
    refine Stb.sort_ (rk := rk) (s := { s with heap := ((s.heap.push (seqObj "list" #[] 0)).update s.heap.objs.size (Obj.mapSeq (· ++ vs.toArray))).push (seqObj "list" vs.toArray 0) })
      (F.kept keep) (N.grown keep) hoL (Nat.ne_of_gt (Nat.lt_succ_of_lt hL)) (Heap.get?_none_of_le (Nat.le_trans F.above (Nat.le_succ_of_le (Nat.le_of_lt hL))))
      (fun p hp => Nat.ne_of_lt (Nat.lt_succ_of_lt (Heap.lt_size (N p hp).1))) hlen h64 h2 hr turn fun h' tk out c F' N' k' => ⟨_, rfl, ?_⟩
    exact wpAny_pure ⟨_, rfl, h h' tk out c F' N' k'⟩
end
def tSortS (K : PySem.W.Frag) (te : TE) : TE := fun σ H Q => te σ H fun x H1 => ∃ a, ∃ ts : List (List Nat), x = .ref a ∧ SqL K H1 a (ts.map fun l => V.str (S l)) ∧ ts.length < 64 ∧ 2 ≤ ts.length ∧ ts.Nodup ∧ (∀ t ∈ ts, t.length ≤ 1000) ∧ ∀ r (ys : List (List Nat)), H1 r = none → ys.Perm ts → ys.Pairwise (fun a b => a.length < b.length ∨ (a.length = b.length ∧ ts.idxOf a < ts.idxOf b)) → Q (.ref r) (upd H1 r (.lst (ys.map fun l => V.str (S l))))
section
variable {X : Cx} {pins : List (Addr × Obj)} {σ : List (Option V)} {H : Hp} {s : Shared}
theorem pe_sortS (K : PySem.W.Frag) (hK : X.K = K) {e : Expr} {te : TE} {p q kp pos : Pos} (he : PE X e te) (hg : Gl X "sorted") (hm : X.mg "sorted" = none) (hgl : Gl X "len") (hml : X.mg "len" = none) (h1 : starEach [e] X.env = [(false, eval e X.env)]) :
    PE X (.Call (.Name "sorted" p) [e] [⟨some "key", .Name "len" q, kp⟩] pos) (tSortS K te) := by
  subst hK
  intro pins s σ H Q I h
  refine call_keyLen he hg hm boot_sorted' (by decide) (by decide) hgl hml h1 I h fun x H1 u s1 I1 rx hx => ?_
  obtain ⟨a, ts, rfl, hq, h64, h2, nd, hz, qq⟩ := hx
  cases rx
  obtain ⟨its, rv, pl, _⟩ := I1.list hq
  have hl := rv.length
  rw [List.length_map] at hl
  obtain ⟨c1, c2⟩ := vals_cOf rv
  obtain ⟨m, hn, _⟩ := id I1.loc
  have hrise : Stb.Rising (fun v => ((ts.idxOf (cOf v) : Nat) : Int)) its := fun i j u v ij eu ev => by
    have z : ∀ (k : Nat) (x : Value), its[k]? = some x → ts.idxOf (cOf x) = k := fun k x hx => by
      have e : ts[k]? = some (cOf x) := by rw [← c1, List.getElem?_map, hx]; rfl
      obtain ⟨hk, e2⟩ := List.getElem?_eq_some_iff.mp e
      rw [← e2]
      exact nd.idxOf_getElem k hk
    show ((ts.idxOf (cOf u) : Nat) : Int) < ((ts.idxOf (cOf v) : Nat) : Int)
    rw [z i u eu, z j v ev]
    omega
  refine sorted_keyS (rk := fun v => ((ts.idxOf (cOf v) : Nat) : Int)) (kz := its.map fun v => ((cOf v).length : Int)) (fr_all' hn) news_all pl.isList (by rw [List.length_map]) (by omega) (by omega) hrise (ksk_s1 _ _) (fun x => ksk_l1 _ _) (fun x => ksk_t4 "len" x) (fun i v k hv hk h tk own F' N' => ?_) fun h' tk out c F' N' hout => ?_
  · have hvm := List.mem_of_getElem? hv
    obtain ⟨t, ev⟩ := c2 v hvm
    rw [List.getElem?_map, hv] at hk
    have ek : ((cOf v).length : Int) = k := Option.some.inj hk
    have hlen : (S (cOf v)).length = (cOf v).length := S_length _
    have hm' : cOf v ∈ ts := by rw [← c1]; exact List.mem_map.mpr ⟨v, hvm, rfl⟩
    have := len_turn (prog := X.prog) (w := X.w) (A := X.A.in1.in1) (s := { s1 with heap := h, toks := tk }) (x := S (cOf v)) (t := t) (by rw [hlen]; exact small (hz _ hm')) F' N'
    rw [hlen, ek, ← ev] at this
    exact this
  · obtain ⟨ps, hp, he', hs⟩ := hout
    have ez : (its.map fun v => ((cOf v).length : Int)).zip its = its.map fun v => (((cOf v).length : Int), v) := by
      have : ∀ l : List Value, (l.map fun v => ((cOf v).length : Int)).zip l = l.map fun v => (((cOf v).length : Int), v) := by
        intro l
        induction l with
        | nil => rfl
        | cons a l ih => simp [ih]
      exact this its
    rw [ez] at hp
    have hk1 : ∀ p ∈ ps, p.1 = ((cOf p.2).length : Int) ∧ p.2 ∈ its := fun p hpm => by
      obtain ⟨v, hv, rfl⟩ := List.mem_map.mp (hp.mem_iff.mp hpm)
      exact ⟨rfl, hv⟩
    have hperm : out.toList.Perm its := by
      have := hp.map Prod.snd
      rw [List.map_map, show (Prod.snd ∘ fun v : Value => (((cOf v).length : Int), v)) = id from rfl, List.map_id] at this
      rw [he']
      exact this
    obtain ⟨keep, I2⟩ := I1.byFr (t' := tk) hn F' (fun p hp => N' p (List.mem_cons_of_mem _ hp))
    have hD : h'.get? (s1.heap.objs.size + 1) = some (seqObj "list" out c) := (N' _ (List.mem_cons_self)).1
    have hys : (out.toList.map cOf).Perm ts := by rw [← c1]; exact hperm.map cOf
    refine ⟨.ref _, _, I2.track (o := .lst ((out.toList.map cOf).map fun l => V.str (S l))) (I1.fpOk (Nat.le_succ _) (I1.hok.fresh (Nat.le_succ _))) ⟨?_, out.toList, c, vals_of_cOf fun v hv => c2 v (hperm.mem_iff.mp hv), ?_⟩, rfl, qq _ _ (I1.hok.fresh (Nat.le_succ _)) hys ?_⟩
    · rw [List.length_map, List.length_map, hperm.length_eq, sizeLine_eq]; omega
    · rw [hD]; try rfl
    · rw [he', List.map_map, List.pairwise_map]
      refine hs.imp_of_mem fun {p q} hp1 hq1 hpq => ?_
      have e1 := (hk1 p hp1).1
      have e2 := (hk1 q hq1).1
      show (cOf p.2).length < (cOf q.2).length ∨ ((cOf p.2).length = (cOf q.2).length ∧ ts.idxOf (cOf p.2) < ts.idxOf (cOf q.2))
      rcases hpq with z | ⟨z1, z2⟩
      · exact .inl (by omega)
      · have z3 : ((ts.idxOf (cOf p.2) : Nat) : Int) < ((ts.idxOf (cOf q.2) : Nat) : Int) := z2
        exact .inr ⟨by omega, by omega⟩
end
section
variable {σ : St} {H : Hp} {Q : VK} {K : PySem.W.Frag} {te : TE}
theorem g_sortS (h : te σ H fun x H1 => ∃ a, ∃ ts : List (List Nat), x = .ref a ∧ SqL K H1 a (ts.map fun l => V.str (S l)) ∧ ts.length < 64 ∧ 2 ≤ ts.length ∧ ts.Nodup ∧ (∀ t ∈ ts, t.length ≤ 1000) ∧ ∀ r (ys : List (List Nat)), H1 r = none → ys.Perm ts → ys.Pairwise (fun a b => a.length < b.length ∨ (a.length = b.length ∧ ts.idxOf a < ts.idxOf b)) → Q (.ref r) (upd H1 r (.lst (ys.map fun l => V.str (S l))))) : tSortS K te σ H Q := h
end
end L2

set_option Elab.async false
set_option linter.all false
set_option maxRecDepth 100000
set_option maxHeartbeats 4000000
/-! Wordrace: the beginnings in their order: the shorter ahead, of as long ones by the alphabet. -/
namespace My
open PySem L2 PySem.Spec PyProof.Rows Wr
theorem ltC_irr : ∀ a : List Nat, ltCps a a = false
  | [] => rfl
  | x :: a => by simp [ltCps, ltC_irr a]
theorem ltC_cons {x y : Nat} {a b : List Nat} : ltCps (x :: a) (y :: b) = true ↔ x < y ∨ (x = y ∧ ltCps a b = true) := by simp [ltCps]
theorem ltC_trans : ∀ {a b c : List Nat}, ltCps a b = true → ltCps b c = true → ltCps a c = true
  | [], [], _, h, _ => by simp [ltCps] at h
  | [], _ :: _, [], _, h => by simp [ltCps] at h
  | [], _ :: _, _ :: _, _, _ => rfl
  | _ :: _, [], _, h, _ => by simp [ltCps] at h
  | _ :: _, _ :: _, [], _, h => by simp [ltCps] at h
  | x :: a, y :: b, z :: c, h1, h2 => by
    rw [ltC_cons] at h1 h2 ⊢
    rcases h1 with h1 | ⟨rfl, h1⟩
    · rcases h2 with h2 | ⟨rfl, h2⟩
      · exact .inl (by omega)
      · exact .inl h1
    · rcases h2 with h2 | ⟨rfl, h2⟩
      · exact .inl h2
      · exact .inr ⟨rfl, ltC_trans h1 h2⟩
theorem ltC_tri : ∀ {a b : List Nat}, a ≠ b → ltCps b a = false → ltCps a b = true
  | [], [], h, _ => absurd rfl h
  | [], _ :: _, _, _ => rfl
  | _ :: _, [], _, h => by simp [ltCps] at h
  | x :: a, y :: b, h, h2 => by
    rw [ltC_cons]
    have n2 : ¬ ltCps (y :: b) (x :: a) = true := by rw [h2]; decide
    rw [ltC_cons] at n2
    by_cases e : x = y
    · subst e
      refine .inr ⟨rfl, ltC_tri (fun z => h (by rw [z])) ?_⟩
      cases q : ltCps b a
      · rfl
      · exact absurd (.inr ⟨rfl, q⟩) n2
    · exact .inl (by
        have : ¬ y < x := fun z => n2 (.inl z)
        omega)
/-- the shorter ahead, of as long ones by the alphabet -/
def Ord (a b : List Nat) : Prop := a.length < b.length ∨ (a.length = b.length ∧ ltCps a b = true)
theorem Ord.irr {a : List Nat} (h : Ord a a) : False := by
  rcases h with h | ⟨_, h⟩
  · omega
  · rw [ltC_irr] at h; cases h
theorem Ord.trans {a b c : List Nat} (h : Ord a b) (g : Ord b c) : Ord a c := by
  rcases h with h | ⟨e, h⟩
  · rcases g with g | ⟨f, _⟩
    · exact .inl (by omega)
    · exact .inl (by omega)
  · rcases g with g | ⟨f, g⟩
    · exact .inl (by omega)
    · exact .inr ⟨by omega, ltC_trans h g⟩
theorem Ord.asym {a b : List Nat} (h : Ord a b) (g : Ord b a) : False := (h.trans g).irr
theorem ord_uniq : ∀ {l m : List (List Nat)}, l.Pairwise Ord → m.Pairwise Ord → (∀ t, t ∈ l ↔ t ∈ m) → l = m
  | [], [], _, _, _ => rfl
  | [], b :: m, _, _, h => absurd ((h b).mpr List.mem_cons_self) (by simp)
  | a :: l, [], _, _, h => absurd ((h a).mp List.mem_cons_self) (by simp)
  | a :: l, b :: m, hl, hm, h => by
    have l1 := List.pairwise_cons.mp hl
    have m1 := List.pairwise_cons.mp hm
    have e : a = b := by
      rcases List.mem_cons.mp ((h a).mp List.mem_cons_self) with z | z
      · exact z
      · rcases List.mem_cons.mp ((h b).mpr List.mem_cons_self) with y | y
        · exact y.symm
        · exact ((m1.1 a z).asym (l1.1 b y)).elim
    subst e
    congr 1
    refine ord_uniq l1.2 m1.2 fun t => ⟨fun ht => ?_, fun ht => ?_⟩
    · rcases List.mem_cons.mp ((h t).mp (List.mem_cons_of_mem _ ht)) with z | z
      · subst z; exact (l1.1 t ht).irr.elim
      · exact z
    · rcases List.mem_cons.mp ((h t).mpr (List.mem_cons_of_mem _ ht)) with z | z
      · subst z; exact (m1.1 t ht).irr.elim
      · exact z
structure BegO (ws bs : List (List Nat)) : Prop where
  l : BegL ws bs
  ord : bs.Pairwise Ord
theorem BegO.uniq {ws bs cs : List (List Nat)} (h : BegO ws bs) (g : BegO ws cs) : bs = cs :=
  ord_uniq h.ord g.ord fun t => (h.l.mem t).trans (g.l.mem t).symm
theorem rising_tail : ∀ {l : List Str} {p : Str}, risingS p l = true → p ∉ l → l.Nodup → (∀ x ∈ l, ltCps p.cps.toList x.cps.toList = true) ∧ l.Pairwise fun a b => ltCps a.cps.toList b.cps.toList = true
  | [], p, _, _, _ => ⟨fun x hx => by simp at hx, .nil⟩
  | x :: l, p, h, hp, nd => by
    have h' : ltCps x.cps.toList p.cps.toList = false ∧ risingS x l = true := by simpa [risingS] using h
    have nd' := List.nodup_cons.mp nd
    obtain ⟨i1, i2⟩ := rising_tail h'.2 nd'.1 nd'.2
    have px : ltCps p.cps.toList x.cps.toList = true := ltC_tri (fun z => hp (by rw [show p = x by rw [← S_of p, ← S_of x, z]]; exact List.mem_cons_self)) h'.1
    refine ⟨fun y hy => ?_, List.pairwise_cons.mpr ⟨i1, i2⟩⟩
    rcases List.mem_cons.mp hy with z | z
    · rw [z]; exact px
    · exact ltC_trans px (i1 y z)
theorem pair_of_sorted : ∀ {l : List Str}, sortedS l = true → l.Nodup → l.Pairwise fun a b => ltCps a.cps.toList b.cps.toList = true
  | [], _, _ => .nil
  | x :: l, h, nd => by
    have nd' := List.nodup_cons.mp nd
    obtain ⟨i1, i2⟩ := rising_tail (show risingS x l = true from h) nd'.1 nd'.2
    exact List.pairwise_cons.mpr ⟨i1, i2⟩
theorem idx_order {ts : List (List Nat)} (hs : ts.Pairwise fun a b => ltCps a b = true) {a b : List Nat} (ha : a ∈ ts) (hb : b ∈ ts) (h : ts.idxOf a < ts.idxOf b) : ltCps a b = true := by
  have la := List.idxOf_lt_length_of_mem ha
  have lb := List.idxOf_lt_length_of_mem hb
  have := List.pairwise_iff_getElem.mp hs _ _ la lb h
  rwa [List.getElem_idxOf, List.getElem_idxOf] at this
theorem begO_of {ws bs : List (List Nat)} {ys : List Str} (hne : ws ≠ []) (h1 : ys.Perm (metL (begT ws))) (nd : ys.Nodup) (hs : sortedS ys = true) (h2 : bs.Perm (ys.map fun x => x.cps.toList))
    (h3 : bs.Pairwise fun a b => a.length < b.length ∨ (a.length = b.length ∧ (ys.map fun x => x.cps.toList).idxOf a < (ys.map fun x => x.cps.toList).idxOf b)) : BegO ws bs := by
  refine ⟨beg_of hne h1 h2, h3.imp_of_mem fun {a b} ha hb h => ?_⟩
  rcases h with h | ⟨e, h⟩
  · exact .inl h
  · exact .inr ⟨e, idx_order (by rw [List.pairwise_map]; exact pair_of_sorted hs nd) (h2.mem_iff.mp ha) (h2.mem_iff.mp hb) h⟩
end My

set_option Elab.async false
set_option linter.all false
set_option maxRecDepth 100000
set_option maxHeartbeats 4000000
/-! int of a truth value. -/
namespace L2
open PySem PySem.Spec PyProof.Rows
end L2

set_option Elab.async false
set_option linter.all false
set_option maxRecDepth 100000
set_option maxHeartbeats 4000000
/-! Tables: a dict from texts to things that lie elsewhere. -/
namespace My
open PySem L2 PySem.Spec PyProof.Rows Wr
end My

set_option Elab.async false
set_option linter.all false
set_option maxRecDepth 100000
set_option maxHeartbeats 4000000
/-! Wordrace: the beginnings, length by length. -/
namespace My
open PySem L2 PySem.Spec PyProof.Rows Wr
end My

set_option Elab.async false
set_option linter.all false
set_option maxRecDepth 100000
set_option maxHeartbeats 4000000
/-! Texts written and read: join, split, str, int, f-strings, a try whose body goes through. -/
namespace L2
open PySem PySem.Spec PyProof.Rows
section
variable {X : Cx}
/-- a try whose body goes through -/
def calmX (X : Cx) : Cx := { X with xe := fun _ _ => False }
theorem inv_calm {pins : List (Addr × Obj)} {σ : St} {H : Hp} {s : Shared} (I : Inv X pins σ H s) : Inv (calmX X) pins σ H s :=
  ⟨⟨I.ok.mod, I.ok.kind, I.ok.glob, I.ok.blt, I.ok.above, I.ok.inj, I.ok.has, I.ok.cab, I.ok.hd, I.ok.frames, I.ok.stk, I.ok.exf, I.ok.bs, I.ok.bsz, I.ok.noex, I.ok.exfs, I.ok.funs, I.ok.frf⟩, I.os, I.bare, I.base, I.loc, I.cell, I.free, I.freeC, I.pin, I.hok, I.len⟩
theorem calm_inv {pins : List (Addr × Obj)} {σ : St} {H : Hp} {s : Shared} (I : Inv (calmX X) pins σ H s) : Inv X pins σ H s :=
  ⟨⟨I.ok.mod, I.ok.kind, I.ok.glob, I.ok.blt, I.ok.above, I.ok.inj, I.ok.has, I.ok.cab, I.ok.hd, I.ok.frames, I.ok.stk, I.ok.exf, I.ok.bs, I.ok.bsz, I.ok.noex, I.ok.exfs, I.ok.funs, I.ok.frf⟩, I.os, I.bare, I.base, I.loc, I.cell, I.free, I.freeC, I.pin, I.hok, I.len⟩
theorem ps_try0 {body : List Stmt} {h₀ : ExceptHandler} {hs : List ExceptHandler} {pos : Pos} {t : TS} (hb : PSs (calmX X) body t) : PS X (.Try body (h₀ :: hs) [] [] pos) t := by
  intro pins s σ H D I q
  refine wpAny_Try_except (wpAny_mono (hb pins s σ H D (inv_calm I) q) (fun f s1 h => ?_) fun _ _ z => z.elim)
  cases f with
  | next =>
    obtain ⟨σ', H', I', d⟩ := h
    exact pss_nil pins s1 σ' H' D (calm_inv I') d
  | brk => obtain ⟨σ', H', I', d⟩ := h; exact ⟨σ', H', calm_inv I', d⟩
  | cont => obtain ⟨σ', H', I', d⟩ := h; exact ⟨σ', H', calm_inv I', d⟩
  | ret u => obtain ⟨v, σ', H', I', r, d⟩ := h; exact ⟨v, σ', H', calm_inv I', r, d⟩
end
end L2

set_option Elab.async false
set_option linter.all false
set_option maxRecDepth 100000
set_option maxHeartbeats 4000000
/-! Wordrace: the line that writes a race. -/
namespace L2
open PySem PySem.Spec PyProof.Rows
end L2
namespace My
open PySem L2 PySem.Spec PyProof.Rows Wr
end My

set_option linter.all false
/-! How parameters are bound, by their number. -/
namespace L2
open PySem
theorem by1 {P : List Value → Prop} (h : ∀ a, P [a]) : ∀ us : List Value, us.length = 1 → P us
  | [a], _ => h a
theorem by2 {P : List Value → Prop} (h : ∀ a b, P [a, b]) : ∀ us : List Value, us.length = 2 → P us
  | [a, b], _ => h a b
theorem by3 {P : List Value → Prop} (h : ∀ a b c, P [a, b, c]) : ∀ us : List Value, us.length = 3 → P us
  | [a, b, c], _ => h a b c
theorem by4 {P : List Value → Prop} (h : ∀ a b c d, P [a, b, c, d]) : ∀ us : List Value, us.length = 4 → P us
  | [a, b, c, d], _ => h a b c d
theorem bz1 {fd : FuncData} {ps : List Str} (h : ∀ a, bindArgs fd ⟨[a], []⟩ = pure (ps.zip [a])) (us : List Value) (hl : us.length = 1) : bindArgs fd ⟨us, []⟩ = pure (ps.zip us) := by1 (P := fun us => bindArgs fd ⟨us, []⟩ = pure (ps.zip us)) h us hl
theorem bz2 {fd : FuncData} {ps : List Str} (h : ∀ a b, bindArgs fd ⟨[a, b], []⟩ = pure (ps.zip [a, b])) (us : List Value) (hl : us.length = 2) : bindArgs fd ⟨us, []⟩ = pure (ps.zip us) := by2 (P := fun us => bindArgs fd ⟨us, []⟩ = pure (ps.zip us)) h us hl
theorem bz3 {fd : FuncData} {ps : List Str} (h : ∀ a b c, bindArgs fd ⟨[a, b, c], []⟩ = pure (ps.zip [a, b, c])) (us : List Value) (hl : us.length = 3) : bindArgs fd ⟨us, []⟩ = pure (ps.zip us) := by3 (P := fun us => bindArgs fd ⟨us, []⟩ = pure (ps.zip us)) h us hl
theorem bz4 {fd : FuncData} {ps : List Str} (h : ∀ a b c d, bindArgs fd ⟨[a, b, c, d], []⟩ = pure (ps.zip [a, b, c, d])) (us : List Value) (hl : us.length = 4) : bindArgs fd ⟨us, []⟩ = pure (ps.zip us) := by4 (P := fun us => bindArgs fd ⟨us, []⟩ = pure (ps.zip us)) h us hl
end L2

set_option linter.all false
namespace L2
open PySem PySem.Spec PyProof.Rows
section
variable {σ : St} {H : Hp} {Q : VK} {K : PySem.W.Frag} {D : Ends}
theorem g_seqL {t u : TS} (h : let d := D; t { d with nx := u d } σ H) : tSeq t u D σ H := h
theorem g_asgL {te : TE} {g : TG} (h : let n := D.nx; te σ H fun x H1 => g x σ H1 n) : tAsg te g D σ H := h
theorem g_ifL {c : TT} {t u : TS} (h : let d := D; c σ H fun b H1 => if b = true then t d σ H1 else u d σ H1) : tIfS c t u D σ H := h
theorem g_opL {r : R2} {ta tb : TE} (h : let q := Q; ta σ H fun x H1 => tb σ H1 fun y H2 => r x y H2 q) : tOp r ta tb σ H Q := h
theorem g_cbL {r : List V → Hp → VK → Prop} {t : TA} (h : let q := Q; t σ H fun vs H1 => r vs H1 q) : tCB r t σ H Q := h
theorem g_bmL {T : String} {r : V → List V → Hp → VK → Prop} {to : TE} {t : TA} (h : let q := Q; to σ H fun x H1 => tyV K T x H1 ∧ t σ H1 fun xs H2 => r x xs H2 q) : tBM K T r to t σ H Q := h
theorem g_callL {sp : Sp} {E : XK} {t : TA} (h : let q := Q; t σ H fun vs H1 => sp (vs ++ []) H1 q E) : tCall sp [] E t σ H Q := h
end
end L2

set_option Elab.async false
set_option linter.all false
set_option maxRecDepth 100000
set_option maxHeartbeats 4000000
/-! Exceptions of own classes: how one lies behind a call, how it passes through a def. -/
namespace L2
open PySem PySem.Spec PyProof.Rows
/-- the exception at ea, of the class cls, its last station at T -/
def ExcAt (h : Heap) (ea : Addr) (cls : Value) (T : Addr) : Prop :=
  ∃ a0 oe vs oT ts, h.get? ea = some oe ∧ (oe.cls = cls ∧ vs[0]? = some a0) ∧ oe.data = .fields vs ∧ vs[1]? = some (.ref T) ∧ T ≠ ea ∧ h.get? T = some oT ∧ oT.data = .fields ts ∧ ts[3]? = some .none
def CX1 (P : Program) (w : World) : CXT := fun outer H s E e s' => ∃ ea cls T H', e = .ref ea ∧ s'.os = s.os ∧ AllBare s'.gens ∧ Un (frs outer) [] H H' s.heap s'.heap ∧ HOk P w H' s'.heap ∧ ExcAt s'.heap ea cls T ∧
  H' ea = none ∧ H' T = none ∧ s.heap.get? ea = none ∧ s.heap.get? T = none ∧ E cls (some ea) H'
theorem hidF {h : Heap} {B : Heap} : ∀ {l : List Env} {L : List Addr}, (∀ b ∈ frs l, b ∈ L) → h.FunFrames B l → h.FunFrames (PySem.W.hideAll h L) l
  | [], _, _, _ => trivial
  | env :: l, L, hs, ⟨k, ⟨A, o, hf, hn, ho, hd⟩, r⟩ => by
    have hm : A ∈ L := hs A (by unfold frs; rw [List.filterMap_cons, hf]; exact List.mem_cons_self)
    refine ⟨k, ⟨A, o, hf, PySem.W.hideAll_none L hm, ho, hd⟩, hidF (fun b hb => hs b ?_) r⟩
    unfold frs at hb ⊢
    rw [List.filterMap_cons, hf]
    exact List.mem_cons_of_mem _ hb
theorem ObjOk.there {P : Program} {w : World} {H : Hp} {h : Heap} {a : Addr} {o : HO} (x : ObjOk P w H h a o) : ∃ ob, h.get? a = some ob := by
  cases o with
  | lst xs => obtain ⟨_, _, _, _, e⟩ := x; exact ⟨_, e⟩
  | tup xs => obtain ⟨_, _, _, ob, e, _⟩ := x; exact ⟨_, e⟩
  | dK kvs => obtain ⟨_, _, _, _, o, _, _, e, _⟩ := x; exact ⟨_, e⟩
  | dT kvs => obtain ⟨_, _, _, _, o, _, _, e, _⟩ := x; exact ⟨_, e⟩
  | set S n => obtain ⟨o, _, _, _, e, _⟩ := x; exact ⟨_, e⟩
  | ins C dx fs => obtain ⟨_, _, _, e, _⟩ := x; exact ⟨_, e⟩
  | own y => obtain ⟨_, e⟩ := x; exact ⟨_, e⟩
  | xd fs => obtain ⟨_, ⟨_, _, _, e, _⟩, _⟩ := x; exact ⟨_, e⟩
  | rng lo hi => obtain ⟨_, _, _, e⟩ := x; exact ⟨_, e⟩
  | frz ob u => obtain ⟨e, _⟩ := x; exact ⟨_, e⟩
  | tbl ps => exact ⟨_, show h.get? a = some _ from x⟩
  | met f y => exact ⟨_, show h.get? a = some _ from x⟩
  | ext φ => obtain ⟨_, ⟨_, e⟩, _⟩ := x; exact ⟨_, e⟩
section
variable {P : Program} {w : World} {K : PySem.W.Frag} {mg : Str → Option Value} {base : Heap} {N : List Str} {qual : Str} {scope : Scope} {f : Addr} {cd : Value} {A : Around} {outer : List Env} {s : Shared} {H : Hp} {E : XK} {CX : CXT}
/-- the last step: the state behind the frame, out of the body's state s2 and the heap h' that the station was written to -/
theorem cx_of {pins : List (Addr × Obj)} {σ : St} {H2 : Hp} {s2 : Shared} {L : List Addr} {ea : Addr} {cls a0 : Value} {h' : Heap}
    (J : Inv (cxOf CX P w K mg base N qual scope f cd A outer s H E) pins σ H2 s2) (hL : ∀ b ∈ L, H2 b = none ∧ (b ∈ frs outer ∨ s.heap.get? b = none)) (hLf : ∀ b ∈ frs outer, b ∈ L) (hea : s.heap.get? ea = none) (heH : H2 ea = none)
    (fl : Heap.FlyingW (PySem.W.hideAll s2.heap L) outer ea cls a0 h') (up : s2.heap.UpToSlots h') (q : E cls (some ea) H2) : CX1 P w outer H s E (.ref ea) { s2 with heap := h' } := by
  obtain ⟨f1, f2, f3, oe, vs, T, oT, ts, he, hc, hd, h1, hnT, hTe, hT, hdT, h3⟩ := fl
  have kp : ∀ b o, b ∉ L → s2.heap.get? b = some o → h'.get? b = some o := fun b o hb e => f1 b o (PySem.W.hideAll_get L e hb)
  have trk : ∀ b u, H2 b = some u → b ∉ L := fun b u e hb => by rw [(hL b hb).1] at e; cases e
  have hTH : H2 T = none := by
    cases e : H2 T with
    | none => rfl
    | some u =>
      obtain ⟨o, ho⟩ := (J.hok T u e).there
      have := PySem.W.hideAll_get L ho (trk T u e)
      rw [hnT] at this; cases this
  refine ⟨ea, cls, T, H2, rfl, J.os, J.bare, ?_, ?_, ⟨a0, oe, vs, oT, ts, he, hc, hd, h1, hTe, hT, hdT, h3⟩, heH, hTH, hea, ?_, q⟩
  · refine ⟨fun b o e n hb hx => ?_, fun b o e n hb hx => ?_, fun b o e n hx => ?_, fun b o e hx => ?_, J.base.tups, J.base.frzs, J.base.tbls⟩
    · have e2 := J.base.keep b o e n hb hx
      exact kp b o (fun hl => by rcases (hL b hl).2 with z | z; exact hb z; rw [e] at z; cases z) e2
    · obtain ⟨sl, e2⟩ := J.base.slot b o e n hb hx
      obtain ⟨_, o', ho', hnf⟩ := J.ok.funs.mem hb
      have eo : o = o' := Option.some.inj ((show s.heap.get? b = some o from e).symm.trans ho')
      subst eo
      obtain ⟨sl', e3⟩ := up b _ e2 (fun ws z => hnf ws z)
      exact ⟨sl', e3⟩
    · exact J.base.free b o e n hx
    · obtain ⟨o', e2⟩ := J.base.there b o e hx
      by_cases hl : b ∈ L
      · rcases (hL b hl).2 with z | z
        · obtain ⟨sl, e3⟩ := J.base.slot b o e (J.ok.frf b z) z hx
          obtain ⟨_, o4, ho4, hnf⟩ := J.ok.funs.mem z
          have eo : o = o4 := Option.some.inj ((show s.heap.get? b = some o from e).symm.trans ho4)
          subst eo
          obtain ⟨sl', e4⟩ := up b _ e3 (fun ws z => hnf ws z)
          exact ⟨_, e4⟩
        · rw [e] at z; cases z
      · exact ⟨o', kp b o' hl e2⟩
  · intro b u e
    refine (J.hok b u e).stay (fun c v hc q => kp c v ?_ q) (fun _ q => q) fun _ _ q => q
    rcases hc with z | z
    · rw [z]; exact trk b u e
    · exact trk c _ z
  · cases e : s.heap.get? T with
    | none => rfl
    | some o =>
      obtain ⟨o', e2⟩ := J.base.there T o e (by simp [cxOf])
      by_cases hl : T ∈ L
      · rcases (hL T hl).2 with z | z
        · obtain ⟨_, o4, ho4, hnf⟩ := f3.mem z
          rw [hT] at ho4
          cases ho4
          exact absurd hdT (hnf ts)
        · rw [e] at z; cases z
      · have := PySem.W.hideAll_get L e2 hl
        rw [hnT] at this; cases this
/-- an exception of a callee leaves this def too -/
theorem pass1 : Passes (CX1 P w) (cxOf (CX1 P w) P w K mg base N qual scope f cd A outer s H E) E := by
  intro pins σ H1 s1 e s2 I c
  obtain ⟨ea, cls, T, H', rfl, os, bare, un, hok, ⟨a0, oe, vs, oT, ts, he, hc, hd, h1, hTe, hT, hdT, h3⟩, hea, hTH, nea, nT, q⟩ := c
  have J : Inv (cxOf (CX1 P w) P w K mg base N qual scope f cd A outer s H E) pins σ H' s2 := I.call' (s' := s2) (ch := []) os un hok bare fun b hb => by simp at hb
  have up0 : ∀ b, s1.heap.get? b = none → s.heap.get? b = none := fun b hb => by
    cases e : s.heap.get? b with
    | none => rfl
    | some o =>
      obtain ⟨o', e2⟩ := I.base.there b o e (by simp [cxOf])
      rw [hb] at e2; cases e2
  have hloc := J.ok.above
  have stk := J.stack
  have nloc : s.heap.get? (cxOf (CX1 P w) P w K mg base N qual scope f cd A outer s H E).env.locals = none := Heap.get?_none_of_le hloc
  let L : List Addr := ea :: T :: (cxOf (CX1 P w) P w K mg base N qual scope f cd A outer s H E).env.locals :: frs outer
  have hLs : ∀ b ∈ frs ((cxOf (CX1 P w) P w K mg base N qual scope f cd A outer s H E).env :: outer), b ∈ L := fun b hb => by
    have := J.stkSub b hb
    exact List.mem_cons_of_mem _ (List.mem_cons_of_mem _ this)
  refine wpAny_leaves_onW (base := PySem.W.hideAll s2.heap L) (L := (cxOf (CX1 P w) P w K mg base N qual scope f cd A outer s H E).env.locals) (cls := cls) (a0 := a0) J.ok.frames ?_ ?_ fun h' fl up => ?_
  · rfl
  · exact ⟨fun b o e => PySem.W.of_hideAll L e, PySem.W.hideAll_none L (by simp [L]), hidF hLs stk, oe, vs, T, oT, ts, he, hc, hd, h1, PySem.W.hideAll_none L (by simp [L]), hTe, hT, hdT, h3⟩
  · refine cx_of J (L := L) (fun b hb => ?_) (fun b hb => by simp [L, hb]) (up0 ea nea) hea fl up q
    rcases List.mem_cons.mp hb with z | hb
    · rw [z]; exact ⟨hea, .inr (up0 ea nea)⟩
    · rcases List.mem_cons.mp hb with z | hb
      · rw [z]; exact ⟨hTH, .inr (up0 T nT)⟩
      · rcases List.mem_cons.mp hb with z | hb
        · rw [z]; exact ⟨J.free, .inr nloc⟩
        · exact ⟨J.stkFree b (by
            obtain ⟨e, he', hf⟩ := List.mem_filterMap.mp (show b ∈ outer.filterMap (·.frame) from hb)
            exact List.mem_filterMap.mpr ⟨e, List.mem_cons_of_mem _ he', hf⟩), .inl hb⟩
end
end L2

set_option Elab.async false
set_option linter.all false
set_option maxRecDepth 100000
set_option maxHeartbeats 4000000
/-! Exceptions of own classes: raise; defs that refuse. -/
namespace L2
open PySem PySem.Spec PyProof.Rows
section
variable {P : Program} {w : World} {K : PySem.W.Frag} {mg : Str → Option Value} {base : Heap}
structure DfX (P : Program) (w : World) (K : PySem.W.Frag) (mg : Str → Option Value) (base : Heap) (x : Str) (k : Nat) (f : Addr) (fd : FuncData) (ps : List Str) (sp : Sp) : Prop where
  ok : FnOk P w K mg base (CX1 P w) k f fd ps sp
  m : mg x = some (.ref f)
  kp : PySem.W.keepIn K (.ref f) = true
  b : Binds K fd ps []
end
/-- a call of a def that may refuse: what E wants of the refusal -/
theorem pe_callX {X : Cx} {E : XK} {x : Str} {k k' : Nat} {f : Addr} {fd : FuncData} {ps : List Str} {sp : Sp} {p pos : Pos} {e : Expr} {es : List Expr} {t : TA} (hx : Passes (CX1 X.prog X.w) X E) (D : DfX X.prog X.w X.K X.mg X.base x k f fd ps sp) (hr : Room k' X.A) (hg : Gl X x) (ha : PA X (e :: es) t) (hk : k ≤ k' := by decide)
    (hdb : (x == ("__debug__" : Str)) = false := by decide) (he : starEach (e :: es) X.env = (false, eval e X.env) :: starEach es X.env := by rfl) (hpl : (backTo pos (starEach es X.env)).any (·.1) = false := by rfl) :
    PE X (.Call (.Name x p) (e :: es) [] pos) (tCall sp [] E t) := pe_call D.ok (hr.mono hk) hg D.m D.kp D.b .nil hx ha hdb he hpl
/-- an own class of exceptions, over the base -/
structure Exc (K : PySem.W.Frag) (mg : Str → Option Value) (x : Str) (C : Addr) : Prop where
  m : mg x = some (.ref C)
  cl : ∃ bmB newId, PySem.W.excIn K C bmB newId = true ∧ ∃ B initId, ExcBaseFacts B newId initId bmB
def tRaise (C : Addr) (E : XK) : TS := fun _ _ H => ∀ ea, H ea = none → E (.ref C) (some ea) H
theorem own_obj {K : PySem.W.Frag} {h : Heap} {C : Addr} {bmB : List Value} {newId : String} (X : K.In h) (q : PySem.W.excIn K C bmB newId = true) :
    ∃ bm N nm q bs hdct sn sub ab col dd k0 k1 k2 k3 k5 mN, h.get? C = some (excClassObj nm q C N bs bm hdct sn sub ab col dd k0 k1 k2 k3 k5 newId) ∧ h.Ns N mN ∧ mN "__init__" = none ∧ OwnTail h bmB bm := by
  unfold PySem.W.excIn at q
  split at q
  · rename_i dd cd sl ho
    split at q
    · rename_i C' bm k0 k1 k2 k3 n k5 hm hs
      simp only [Bool.and_eq_true, beq_iff_eq, Bool.not_eq_true'] at q
      obtain ⟨⟨⟨⟨⟨rfl, rfl⟩, hdel⟩, ht⟩, hok⟩, hni⟩ := q
      obtain ⟨nm, bs, mro, ns, qn, hd, sn, sub, ab, col, del⟩ := cd
      dsimp only at hm hdel hok hni
      subst hm hdel
      have hsl : sl = #[k0, k1, k2, k3, some (.builtin n), k5] := by
        obtain ⟨l⟩ := sl
        simp only at hs
        rw [hs]
      subst hsl
      exact ⟨bm, ns, nm, qn, bs, hd, sn, sub, ab, col, dd, k0, k1, k2, k3, k5, _, X _ _ ho, .of_isNs (PySem.W.isNs_of_in X hok), PySem.W.nsMap_none_of_in X hok hni, PySem.W.tail_of_in X ht⟩
    · cases q
  · cases q
section
variable {P : Program} {w : World} {K : PySem.W.Frag} {mg : Str → Option Value} {base : Heap} {N : List Str} {qual : Str} {scope : Scope} {f : Addr} {cd : Value} {A : Around} {outer : List Env} {s : Shared} {H : Hp} {E : XK}
theorem xe_made {pins : List (Addr × Obj)} {σ : St} {H2 : Hp} {s2 : Shared} {h' : Heap} {ea : Addr} {cls : Value} {vs : List Value} (J : Inv (cxOf (CX1 P w) P w K mg base N qual scope f cd A outer s H E) pins σ H2 s2) (mk : Heap.MadeExcOf s2.heap h' ea cls vs)
    (q : E cls (some ea) H2) : (cxOf (CX1 P w) P w K mg base N qual scope f cd A outer s H E).xe (.ref ea) { s2 with heap := h' } := by
  have up0 : ∀ b, s2.heap.get? b = none → s.heap.get? b = none := fun b hb => by
    cases e : s.heap.get? b with
    | none => rfl
    | some o =>
      obtain ⟨o', e2⟩ := J.base.there b o e (by simp [cxOf])
      rw [hb] at e2; cases e2
  have nloc : s.heap.get? (cxOf (CX1 P w) P w K mg base N qual scope f cd A outer s H E).env.locals = none := Heap.get?_none_of_le J.ok.above
  let L : List Addr := (cxOf (CX1 P w) P w K mg base N qual scope f cd A outer s H E).env.locals :: frs outer
  have hLs : ∀ b ∈ frs ((cxOf (CX1 P w) P w K mg base N qual scope f cd A outer s H E).env :: outer), b ∈ L := fun b hb => J.stkSub b hb
  have heH : H2 ea = none := by
    cases e : H2 ea with
    | none => rfl
    | some u =>
      obtain ⟨o, ho⟩ := (J.hok ea u e).there
      rw [mk.new] at ho; cases ho
  refine wpAny_leaves_madeW (base := PySem.W.hideAll s2.heap L) (h := s2.heap) (L := (cxOf (CX1 P w) P w K mg base N qual scope f cd A outer s H E).env.locals) (cls := cls) (args := vs) J.ok.frames rfl (fun b o e => PySem.W.of_hideAll L e) (hidF hLs J.stack) mk fun h2 t fl _ _ up => ?_
  refine cx_of (s2 := s2) (h' := h2) J (L := L) (fun b hb => ?_) (fun b hb => List.mem_cons_of_mem _ hb) (up0 ea mk.new) heH fl ((Heap.UpToSlots.of_keeps mk.keeps).trans up) q
  rcases List.mem_cons.mp hb with z | hb
  · rw [z]; exact ⟨J.free, .inr nloc⟩
  · exact ⟨J.stkFree b (by
      obtain ⟨e, he', hf⟩ := List.mem_filterMap.mp (show b ∈ outer.filterMap (·.frame) from hb)
      exact List.mem_filterMap.mpr ⟨e, List.mem_cons_of_mem _ he', hf⟩), .inl hb⟩
theorem ps_raise {x : Str} {C : Addr} {np cpos pos : Pos} {e₀ : Expr} {ta : TE} (hh : A.handled = none) (X : Exc K mg x C) (hg : Gl (cxOf (CX1 P w) P w K mg base N qual scope f cd A outer s H E) x) (he : PE (cxOf (CX1 P w) P w K mg base N qual scope f cd A outer s H E) e₀ ta)
    (hst : starEach [e₀] (cxOf (CX1 P w) P w K mg base N qual scope f cd A outer s H E).env = [(false, eval e₀ (cxOf (CX1 P w) P w K mg base N qual scope f cd A outer s H E).env)] := by rfl) (hd : (x == ("__debug__" : Str)) = false := by decide) :
    PS (cxOf (CX1 P w) P w K mg base N qual scope f cd A outer s H E) (.Raise (some (.Call (.Name x np) [e₀] [] cpos)) none pos) (fun D σ H1 => ta σ H1 fun _ H2 => tRaise C E D σ H2) := by
  intro pins s1 σ H1 D I q
  obtain ⟨bmB, newId, hx, B, initId, FB⟩ := X.cl
  obtain ⟨tl, N', nm, q', bs, hdct, sn, sub, ab, col, dd, k0, k1, k2, k3, k5, mN, hC, hN, hni, T⟩ := own_obj (h := base) I.ok.mod.kin hx
  have ha : PA (cxOf (CX1 P w) P w K mg base N qual scope f cd A outer s H E) [e₀] (tCons ta tNil) := pa_cons he pa_nil (by rw [hst]; rfl)
  refine wpAny_Raise_call_subT (C := C) (nm := nm) (q := q') (N := N') (bs := bs) (bm := tl) (hdct := hdct) (sn := sn) (sub := sub) (ab := ab) (col := col) (dd := dd) (k0 := k0) (k1 := k1) (k2 := k2) (k3 := k3) (k5 := k5)
    FB (mN := mN) (T.hasType FB.hasBase) (I.ok.hd rfl) (by rw [hst]; rfl) hni (ld_glob I hg X.m ⟨rfl, ?_⟩ hd)
  have hsp := ha cpos pins s1 σ H1 (fun vs H2 => match vs with | [_] => tRaise C E D σ H2 | _ => False) I q
  rw [hst] at hsp ⊢
  refine Calls.evalArgs_plain (thn hsp fun us s2 ⟨vs, H2, I2, r, q2⟩ => ?_)
  match vs, r, q2 with
  | [v], r, q2 =>
    refine ⟨rfl, by rw [← r.length, sizeLine_eq]; exact (by decide : 1 ≤ 16777216), I2.bk _ _ hC, hN.keeps I2.bk, T.keeps I2.bk, fun h' e mk => xe_made I2 mk (q2 e ?_)⟩
    cases z : H2 e with
    | none => rfl
    | some u =>
      obtain ⟨o, ho⟩ := (I2.hok e u z).there
      rw [mk.new] at ho; cases ho
end
end L2

set_option Elab.async false
set_option linter.all false
set_option maxRecDepth 100000
set_option maxHeartbeats 4000000
/-! Exceptions of own classes: isinstance. -/
namespace L2
open PySem PySem.Spec PyProof.Rows PySem.W
/-- what the fragment tells of an own class of exceptions -/
structure ExcK (K : PySem.W.Frag) (C : Addr) : Prop where
  hc : (clsIn K C).isSome = true
  g1 : findIn K (.ref C) "__getattribute__" = some (some (.builtin "BaseException.__getattribute__"))
  g3 : findIn K (.ref C) "__getattr__" = some none
  g2 : findIn K (.ref C) "__class__" = some (some (.builtin "object.__class__"))
  sB : subIn K (.ref C) (.type "BaseException") = some true
  sO : subIn K (.ref C) (.type "object") = some true
section
variable {K : PySem.W.Frag} {C : Addr} {prog : Program} {w : World} {A : Around} {E : Value → Shared → Prop} {h : Heap} {g : Array GenState} {d : Drawn} {t : Nat} {os : OsState} {a : Addr} {o : Obj}
theorem xc_get {R : Result → Shared → Prop} (Z : ExcK K C) (X : K.In h) (hx : h.get? a = some o) (hc : o.cls = .ref C) (hq : R (.ok (.ret (.ref C))) ⟨h, g, d, t, os⟩) :
    codeAny (model prog w) A (.call (.builtin "getset_descriptor.__get__") ⟨[.builtin "object.__class__", .ref a, .ref C], []⟩) R ⟨h, g, d, t, os⟩ := by
  have hT5 : (⟨h, g, d, t, os⟩ : Shared).TypeIs (.builtin "object.__class__") "getset_descriptor" := F.typeOf_object_class
  have sO : subIn K (.ref C) (.type (".".intercalate ("object.__class__".cutAt '.').dropLast)) = some true := by rw [F.owner_object_class]; exact Z.sO
  refine codeAny_call_builtin F.slot_gs_get.plain F.entry_gs_get (F.slot_gs_get.check _ _ _ _ _ _ _ _ hT5 (F.args_gs_get _ _ _) ?_)
  repeat (any_goals (first | assumption | (with_reducible refine wpAny_loadPart_at hx ?_; rw [hc]) | with_reducible refine (looks_subIn X sO).at ?_ | wp_step))
  refine ⟨Code.quiet_builtin _ (by decide +kernel), codeAny_builtin F.entry_object_class ?_⟩
  repeat (any_goals (first | assumption | (with_reducible refine wpAny_loadPart_at hx ?_; rw [hc]) | wp_step))
theorem xc_entry {tk : Tok} {Q : Fin → Shared → Prop} (Z : ExcK K C) (X : K.In h) (hx : h.get? a = some o) (hc : o.cls = .ref C) (hq : Q (.done (.ret (.ref C))) ⟨h, g, d, t, os⟩) :
    wpAny (model prog w) A (Builtin.«object.__getattribute__» ⟨[.ref a, .str "__class__" tk], []⟩) Q E ⟨h, g, d, t, os⟩ := by
  have hT5 : (⟨h, g, d, t, os⟩ : Shared).TypeIs (.builtin "object.__class__") "getset_descriptor" := F.typeOf_object_class
  have f5 := F.typeOf_object_class
  have f6 := F.slot_gs_get.lookup
  have f7 := F.slot_gs_set.lookup
  repeat (any_goals (first | assumption | (with_reducible refine wpAny_loadPart_at hx ?_; rw [hc]) | with_reducible refine (looks_findIn X Z.g2).at ?_ | wp_step))
  refine xc_get Z X hx hc ?_
  repeat (any_goals (first | assumption | wp_step))
theorem xc_check {M : Model} {nameV : Value} {Q : Unit → Shared → Prop} (Z : ExcK K C) (X : K.In h) (hx : h.get? a = some o) (hc : o.cls = .ref C) (hq : Q () ⟨h, g, d, t, os⟩) :
    wpAny M A (checkBuiltinCall "BaseException.__getattribute__" ⟨[.ref a, nameV], []⟩) Q E ⟨h, g, d, t, os⟩ := by
  have hk : builtinKind "BaseException.__getattribute__" = some .slot := by decide +kernel
  have hsplit : splitId "BaseException.__getattribute__" = some ("BaseException", "__getattribute__") := by decide +kernel
  have ha := F.args_bexc_ga (.ref a) nameV
  simp only [checkBuiltinCall, hk, hsplit]
  refine wpAny_bind ?_
  · unfold isInstance
    repeat (first | (with_reducible refine wpAny_loadPart_at hx ?_; rw [hc]) | with_reducible refine (looks_subIn X Z.sB).at ?_ | wp_step)
    exact hq
theorem xc_call {tk : Tok} {R : Result → Shared → Prop} (Z : ExcK K C) (X : K.In h) (hx : h.get? a = some o) (hc : o.cls = .ref C) (hq : R (.ok (.ret (.ref C))) ⟨h, g, d, t, os⟩) :
    codeAny (model prog w) A (.call (.builtin "BaseException.__getattribute__") ⟨[.ref a, .str "__class__" tk], []⟩) R ⟨h, g, d, t, os⟩ :=
  codeAny_call_builtin PySem.F.excAttr_ValueError.ga.plain F.entry_bexc_ga (xc_check Z X hx hc (xc_entry Z X hx hc hq))
theorem xc_by {tk : Tok} {Q : Value → Shared → Prop} (Z : ExcK K C) (X : K.In h) (hx : h.get? a = some o) (hc : o.cls = .ref C) (hq : Q (.ref C) ⟨h, g, d, t, os⟩) :
    wpAny (model prog w) A (getAttrBy (.ref a) (.str "__class__" tk) false) Q E ⟨h, g, d, t, os⟩ := by
  have f3 := PySem.F.excAttr_ValueError.ga.bind (.ref a)
  have hx2 : (Value.builtin "BaseException.__getattribute__" == Value.builtin "object.__getattribute__") = false := by decide +kernel
  have hx1 : (onTheHeap (Value.ref C) && Value.builtin "BaseException.__getattribute__" == Value.builtin "object.__getattribute__") = false := by rw [hx2]; rfl
  repeat (any_goals (first | assumption | (with_reducible refine wpAny_loadPart_at hx ?_; rw [hc]) | with_reducible refine (looks_findIn X Z.g1).at ?_ | with_reducible refine (looks_findIn X Z.g3).at ?_ | wp_step))
  refine xc_call Z X hx hc ?_
  repeat (any_goals (first | assumption | wp_step))
theorem xc_attr {Q : Option Value → Shared → Prop} (Z : ExcK K C) (X : K.In h) (hx : h.get? a = some o) (hc : o.cls = .ref C) (hq : Q (some (.ref C)) ⟨h, g, d, t + 1, os⟩) : wpAny (model prog w) A (getAttr? (.ref a) "__class__") Q E ⟨h, g, d, t, os⟩ := by
  unfold getAttr? getAttrBy?
  repeat (any_goals (first | assumption | with_reducible apply xc_by Z X hx hc | wp_step))
end
/-- an exception's object -/
def ExcIs (a C : Addr) (h : Heap) : Prop := ∃ o, h.get? a = some o ∧ o.cls = .ref C
theorem kitx_exc {K : PySem.W.Frag} {a C : Addr} (Z : ExcK K C) : KitX K (.ref a) (.ref C) (ExcIs a C) where
  ty := fun _ _ _ ⟨o, h1, h2⟩ => h2 ▸ (Looks.ld h1).andThen .now
  it := fun _ _ X _ => by
    have hcD := Z.hc
    unfold clsIn at hcD
    split at hcD
    · rename_i c' d' cd' sl' ho
      intro A' Q' E' s' k q
      unfold isType loadHead
      exact wpAny_bind (wpAny_loadPart (k _ _ (X _ _ ho)) (wpAny_pure q))
    · cases hcD
  ne := fun h tp dd its n sl X htp => by
    have hcD := Z.hc
    refine Bool.eq_false_iff.mpr fun q => ?_
    have e : C = tp := Value.ref.inj (beq_iff_eq.mp q)
    subst e
    unfold clsIn at hcD
    split at hcD
    · rename_i c' d' cd' sl' ho
      have z := (X _ _ ho).symm.trans htp
      cases z
    · cases hcD
  ca := fun {_ _ _ _ _ s} X p k => by
    obtain ⟨h, g, d, t, os⟩ := s
    obtain ⟨o, h1, h2⟩ := p
    exact xc_attr Z X h1 h2 k
end L2

set_option Elab.async false
set_option linter.all false
set_option maxRecDepth 100000
set_option maxHeartbeats 4000000
/-! Exceptions of own classes: a try whose handler returns. -/
namespace L2
open PySem PySem.Spec PyProof.Rows PySem.W
section
variable {M : Model} {A : Around} {E : Value → Shared → Prop} {h : Heap} {g : Array GenState} {d : Drawn} {t : Nat} {os : OsState} {e C CR : Addr} {oe : Obj} {K : PySem.W.Frag}
  {nm q : Str} {N : Addr} {bs bm : List Value} {hdct : Bool} {sn : List Str} {sub : List Value} {ab : Bool} {col : Option Bool} {dd : Option Addr} {k0 k1 k2 k3 k5 : Option Value} {newId : String}
theorem xm_sub {Q : Bool → Shared → Prop} (X : K.In h) (hC : h.get? CR = some (excClassObj nm q CR N bs bm hdct sn sub ab col dd k0 k1 k2 k3 k5 newId)) (hbase : bm.contains (.type "BaseException") = true) (he : h.get? e = some oe) (hcls : oe.cls = .ref C)
    (sb : subIn K (.ref C) (.ref CR) = some true) (hq : Q true ⟨h, g, d, t, os⟩) : wpAny M A (excMatches (.ref e) (.ref CR)) Q E ⟨h, g, d, t, os⟩ := by
  have hcB : (Value.ref CR :: bm).contains (.type "BaseException") = true := by rw [List.contains_cons, hbase, Bool.or_true]
  have f := tc_notTuple
  unfold excMatches
  repeat (first | (with_reducible refine wpAny_loadPart_at he ?_; rw [hcls]) | with_reducible refine wpAny_loadPart_at hC ?_ | (with_reducible refine wpAny_isSubtype_exc hC ?_; rw [hcB]) | with_reducible refine (looks_subIn X sb).at ?_ | wp_step)
  exact hq
end
/-- an exception that is held -/
def EO (ea C : Addr) : HO := .ext (ExcIs ea C)
/-- within an except suite -/
def mkX (X : Cx) (ea : Addr) : Cx := { X with A := X.A.mark (some (.ref ea)), calm := false, xe := fun _ _ => False }
def trX (X : Cx) (xe : Value → Shared → Prop) (pn : List (Addr × Obj)) : Cx := { X with xe := xe, pn := pn }
section
variable {X : Cx} {pins : List (Addr × Obj)} {σ : St} {H : Hp} {s : Shared}
theorem inv_mk {ea : Addr} (I : Inv X pins σ H s) : Inv (mkX X ea) pins σ H s :=
  ⟨⟨I.ok.mod, I.ok.kind, I.ok.glob, I.ok.blt, I.ok.above, I.ok.inj, I.ok.has, I.ok.cab, (fun z => nomatch z), I.ok.frames, I.ok.stk, I.ok.exf, I.ok.bs, I.ok.bsz, I.ok.noex, I.ok.exfs, I.ok.funs, I.ok.frf⟩, I.os, I.bare, I.base, I.loc, I.cell, I.free, I.freeC, I.pin, I.hok, I.len⟩
theorem inv_tr {xe : Value → Shared → Prop} (I : Inv X pins σ H s) : Inv (trX X xe (X.pn ++ pins)) [] σ H s :=
  ⟨⟨I.ok.mod, I.ok.kind, I.ok.glob, I.ok.blt, I.ok.above, I.ok.inj, I.ok.has, I.ok.cab, I.ok.hd, I.ok.frames, I.ok.stk, I.ok.exf, I.ok.bs, I.ok.bsz, I.ok.noex, I.ok.exfs, I.ok.funs, I.ok.frf⟩, I.os, I.bare, I.base, I.loc, I.cell, I.free, I.freeC, fun p hp => I.pin p (by simpa [trX] using hp), I.hok, I.len⟩
theorem tr_inv {xe : Value → Shared → Prop} {p1 : List (Addr × Obj)} (k : X.Ok) (I : Inv (trX X xe (X.pn ++ pins)) p1 σ H s) : Inv X pins σ H s :=
  ⟨k, I.os, I.bare, I.base, I.loc, I.cell, I.free, I.freeC, fun p hp => I.pin p (List.mem_append_left _ hp), I.hok, I.len⟩
theorem mk_inv {ea : Addr} (k : X.Ok) (I : Inv (mkX X ea) pins σ H s) : Inv X pins σ H s := ⟨k, I.os, I.bare, I.base, I.loc, I.cell, I.free, I.freeC, I.pin, I.hok, I.len⟩
/-- the handler's name goes; all names are forgotten -/
theorem Inv.name_goes {h' : Heap} {m' : Str → Option Value} {t' : Nat} (I : Inv X pins σ H s) (hn : h'.Ns X.env.locals m') (sb : Heap.SameBut X.env.locals s.heap h') : Inv X pins (List.replicate X.N.length none) H { s with heap := h', toks := t' } := by
  have kp : ∀ b o, b ≠ X.env.locals → s.heap.get? b = some o → h'.get? b = some o := fun b o hb e => (sb.2 b hb).trans e
  have neL : ∀ b o, X.s₀.heap.get? b = some o → b ≠ X.env.locals := fun b o e => Nat.ne_of_lt (Nat.lt_of_lt_of_le (Heap.lt_size e) I.ok.above)
  refine ⟨I.ok, I.os, I.bare, ⟨fun b o e n f x => kp b o (neL b o e) (I.base.keep b o e n f x), fun b o e n f x => ?_, I.base.free, fun b o e x => ?_, I.base.tups, I.base.frzs, I.base.tbls⟩, ⟨m', hn, fun i x v _ e => ?_⟩, fun x c e => ?_, I.free, I.freeC, fun p hp => ?_, fun b u e => ?_, List.length_replicate⟩
  · obtain ⟨sl, z⟩ := I.base.slot b o e n f x
    exact ⟨sl, kp b _ (neL b o e) z⟩
  · obtain ⟨o', z⟩ := I.base.there b o e x
    exact ⟨o', kp b _ (neL b o e) z⟩
  · rw [List.getElem?_replicate] at e
    split at e <;> cases e
  · obtain ⟨v, z⟩ := I.cell x c e
    exact ⟨v, z.sameBut sb (I.cne x c e)⟩
  · obtain ⟨a, b, c, r⟩ := I.pin p hp
    exact ⟨kp _ _ c a, b, c, r⟩
  · have nl : ∀ b u, H b = some u → b ≠ X.env.locals := fun b u e z => by rw [z, I.free] at e; cases e
    refine (I.hok b u e).stay (fun c v hc q => kp c v ?_ q) (fun _ q => q) fun _ _ q => q
    rcases hc with z | z
    · rw [z]; exact nl b u e
    · exact nl c _ z
end
/-- what a handler is asked: the exception ea of the class C, what it is run on -/
def tTry (i : Nat) (Sub : Addr → Prop) (ts : TS) (tb : XK → TS) : TS := fun D σ H =>
  tb (fun cls a H' => ∃ ea C, a = some ea ∧ cls = .ref C ∧ Sub C ∧ ∀ σ', σ'[i]? = some (some (.ref ea)) → ts { nx := fun _ _ => False, rt := D.rt } σ' (upd H' ea (EO ea C))) D σ H
section
variable {P : Program} {w : World} {K : PySem.W.Frag} {mg : Str → Option Value} {base : Heap} {N : List Str} {qual : Str} {scope : Scope} {f : Addr} {cd : Value} {A : Around} {outer : List Env} {s : Shared} {H : Hp} {E : XK} {CX : CXT}
/-- the state behind the refused call, the exception landed in this frame -/
theorem landed {pins : List (Addr × Obj)} {σ : St} {H1 H' : Hp} {s1 s2 : Shared} {ea T C : Addr} {a0 : Value} {h' : Heap} {xe : Value → Shared → Prop} {pn : List (Addr × Obj)}
    (I : Inv (trX (cxOf CX P w K mg base N qual scope f cd A outer s H E) xe pn) pins σ H1 s1) (os : s2.os = s1.os) (bare : AllBare s2.gens) (un : Un (frs (cxOf CX P w K mg base N qual scope f cd A outer s H E).stack) [] H1 H' s1.heap s2.heap) (hok : HOk P w H' s2.heap) (hea : H' ea = none) (hTH : H' T = none) (nea : s1.heap.get? ea = none) (nT : s1.heap.get? T = none)
    (fl : Heap.FlyingW (PySem.W.hideAll s2.heap (ea :: T :: frs (cxOf CX P w K mg base N qual scope f cd A outer s H E).stack)) (cxOf CX P w K mg base N qual scope f cd A outer s H E).stack ea (.ref C) a0 h') (up : s2.heap.UpToSlots h') : Inv (trX (cxOf CX P w K mg base N qual scope f cd A outer s H E) xe pn) pins σ (upd H' ea (EO ea C)) { s2 with heap := h' } := by
  obtain ⟨f1, f2, f3, oe, vs, T', oT, ts, he, hc, hd, r⟩ := fl
  have stk := I.stack
  have sfr : ∀ b ∈ frs (cxOf CX P w K mg base N qual scope f cd A outer s H E).stack, H' b = none := fun b hb => by
    obtain ⟨_, o, ho, _⟩ := stk.mem hb
    exact un.free b o ho (I.stkFree b hb) (by simp)
  have kp : ∀ b o, b ∉ (ea :: T :: frs (cxOf CX P w K mg base N qual scope f cd A outer s H E).stack) → s2.heap.get? b = some o → h'.get? b = some o := fun b o hb e => f1 b o (PySem.W.hideAll_get _ e hb)
  have trk : ∀ b u, H' b = some u → b ∉ (ea :: T :: frs (cxOf CX P w K mg base N qual scope f cd A outer s H E).stack) := fun b u e hb => by
    rcases List.mem_cons.mp hb with z | hb
    · rw [z, hea] at e; cases e
    · rcases List.mem_cons.mp hb with z | hb
      · rw [z, hTH] at e; cases e
      · rw [sfr b hb] at e; cases e
  have ne1 : ∀ b o, s1.heap.get? b = some o → b ≠ ea := fun b o e z => by rw [z, nea] at e; cases e
  have ne2 : ∀ b o, s1.heap.get? b = some o → b ≠ T := fun b o e z => by rw [z, nT] at e; cases e
  have uo : ∀ b, b ≠ ea → upd H' ea (EO ea C) b = H' b := fun b hb => upd_ne hb
  have ue : ∀ b u, H1 b = some u → b ≠ ea := fun b u e => by
    obtain ⟨o, ho⟩ := (I.hok b u e).there
    exact ne1 b o ho
  refine I.call' (s' := { s2 with heap := h' }) (ch := []) os ⟨fun b o e n hb _ => ?_, fun b o e n hb _ => ?_, fun b o e n _ => ?_, fun b o e _ => ?_, fun b xs e => ?_, fun b o u e => ?_, fun b ps e => ?_⟩ (fun b u e => ?_) bare fun b hb => by simp at hb
  · refine kp b o ?_ (un.keep b o e n hb (by simp))
    intro z
    rcases List.mem_cons.mp z with z | z
    · exact ne1 b o e z
    · rcases List.mem_cons.mp z with z | z
      · exact ne2 b o e z
      · exact hb z
  · obtain ⟨sl, e2⟩ := un.slot b o e n hb (by simp)
    obtain ⟨_, o', ho', hnf⟩ := stk.mem hb
    have eo : o = o' := Option.some.inj (e.symm.trans ho')
    subst eo
    obtain ⟨sl', e3⟩ := up b _ e2 (fun ws z => hnf ws z)
    exact ⟨sl', e3⟩
  · rw [uo b (ne1 b o e)]; exact un.free b o e n (by simp)
  · obtain ⟨o', e2⟩ := un.there b o e (by simp)
    by_cases hb : b ∈ frs (cxOf CX P w K mg base N qual scope f cd A outer s H E).stack
    · obtain ⟨_, o4, ho4, hnf⟩ := f3.mem hb
      exact ⟨o4, ho4⟩
    · exact ⟨o', kp b o' (fun z => by
        rcases List.mem_cons.mp z with z | z
        · exact ne1 b o e z
        · rcases List.mem_cons.mp z with z | z
          · exact ne2 b o e z
          · exact hb z) e2⟩
  · rw [uo b (ue b _ e)]; exact un.tups b xs e
  · rw [uo b (ue b _ e)]; exact un.frzs b o u e
  · obtain ⟨more, z⟩ := un.tbls b ps e
    exact ⟨more, by rw [uo b (ue b _ e)]; exact z⟩
  · by_cases hb : b = ea
    · subst hb
      rw [upd_same] at e
      cases e
      exact ⟨⟨oe, he, hc.1⟩, ⟨oe, he⟩, fun h1 h2 ⟨o, z1, z2⟩ k => ⟨o, k o z1, z2⟩⟩
    · rw [uo b hb] at e
      refine (hok b u e).stay (fun c v hc q => kp c v ?_ q) (fun c q => ?_) fun c x q => ?_
      · rcases hc with z | z
        · rw [z]; exact trk b u e
        · exact trk c _ z
      · rw [uo c (fun z => by rw [z, hea] at q; cases q)]; exact q
      · rw [uo c (fun z => by rw [z, hea] at q; cases q)]; exact q
theorem ps_tryR {x n : Str} {i : Nat} {CR : Addr} {body suite : List Stmt} {b₀ : Stmt} {np hpos pos : Pos} {tb : XK → TS} {ts : TS} (hN : (cxOf CX P w K mg base N qual scope f cd A outer s H E).N.Nodup) (hi : (cxOf CX P w K mg base N qual scope f cd A outer s H E).N[i]? = some n) (hl : (cxOf CX P w K mg base N qual scope f cd A outer s H E).env.kindOf n = some .local)
    (Z : Exc K mg x CR) (hg : Gl (cxOf CX P w K mg base N qual scope f cd A outer s H E) x) (hb : ∀ xe pn E', Passes (CX1 P w) (trX (cxOf CX P w K mg base N qual scope f cd A outer s H E) xe pn) E' → PSs (trX (cxOf CX P w K mg base N qual scope f cd A outer s H E) xe pn) body (tb E'))
    (hs : ∀ ea, PSs (mkX (cxOf CX P w K mg base N qual scope f cd A outer s H E) ea) (b₀ :: suite) ts) (hd : (x == ("__debug__" : Str)) = false := by decide) :
    PS (cxOf CX P w K mg base N qual scope f cd A outer s H E) (.Try body [.ExceptHandler (some (.Name x np)) (some n) (b₀ :: suite) hpos] [] [] pos) (tTry i (fun C => subIn K (.ref C) (.ref CR) = some true) ts tb) := by
  intro pins s0 σ H0 D I q
  refine wpAny_Try_except ?_
  refine wpAny_mono (hb (fun e s₁ => wpAny (model P w) (cxOf CX P w K mg base N qual scope f cd A outer s H E).A (noteFrame e (cxOf CX P w K mg base N qual scope f cd A outer s H E).env) (fun _ s₂ => wpAny (model P w) (cxOf CX P w K mg base N qual scope f cd A outer s H E).A (setFlight e none) (fun _ s₃ => wpAny (model P w) (cxOf CX P w K mg base N qual scope f cd A outer s H E).A (handleBy e (cxOf CX P w K mg base N qual scope f cd A outer s H E).env [.ExceptHandler (some (.Name x np)) (some n) (b₀ :: suite) hpos]) (SP (cxOf CX P w K mg base N qual scope f cd A outer s H E) pins D) (cxOf CX P w K mg base N qual scope f cd A outer s H E).xe s₃) (cxOf CX P w K mg base N qual scope f cd A outer s H E).xe s₂) (cxOf CX P w K mg base N qual scope f cd A outer s H E).xe s₁) ((cxOf CX P w K mg base N qual scope f cd A outer s H E).pn ++ pins)
    _ ?_ [] s0 σ H0 D (inv_tr I) q) (fun fl s1 hh => ?_) fun _ _ z => z
  · intro pins1 σ1 H1 s1 e s2 I1 c
    obtain ⟨ea, cls, T, H', rfl, os, bare, un, hok, ⟨a0, oe, vs, oT, ts', he, hc, hd', h1, hTe, hT, hdT, h3⟩, hea, hTH, nea, nT, ea2, C, eae, rfl, hsub, kq⟩ := c
    cases eae
    have stk := I1.stack
    have sfr : ∀ b ∈ frs (cxOf CX P w K mg base N qual scope f cd A outer s H E).stack, b ∈ (ea :: T :: frs (cxOf CX P w K mg base N qual scope f cd A outer s H E).stack) := fun b hb => List.mem_cons_of_mem _ (List.mem_cons_of_mem _ hb)
    have stk2 : s2.heap.FunFrames base (cxOf CX P w K mg base N qual scope f cd A outer s H E).stack := (I1.call' (s' := s2) (ch := []) os un hok bare fun b hb => by simp at hb).stack
    have land : ∀ h', Heap.FlyingW (PySem.W.hideAll s2.heap (ea :: T :: frs (cxOf CX P w K mg base N qual scope f cd A outer s H E).stack)) (cxOf CX P w K mg base N qual scope f cd A outer s H E).stack ea (.ref C) a0 h' → s2.heap.UpToSlots h' → Inv (cxOf CX P w K mg base N qual scope f cd A outer s H E) pins σ1 (upd H' ea (EO ea C)) { s2 with heap := h' } := fun h' fl up =>
      tr_inv I.ok (landed I1 os bare un hok hea hTH nea nT fl up)
    refine wpAny_looks_onW (base := PySem.W.hideAll s2.heap (ea :: T :: frs (cxOf CX P w K mg base N qual scope f cd A outer s H E).stack)) (L := (cxOf CX P w K mg base N qual scope f cd A outer s H E).env.locals) (cls := .ref C) (a0 := a0) I.ok.frames rfl ?_ fun h4 held sm4 => ?_
    · exact ⟨fun b o e => PySem.W.of_hideAll _ e, PySem.W.hideAll_none _ (by simp), hidF sfr stk2, oe, vs, T, oT, ts', he, hc, hd', h1, PySem.W.hideAll_none _ (by simp), hTe, hT, hdT, h3⟩
    refine wpAny_landsW held fun h5 fl5 sm5 => ?_
    have sm25 := sm4.trans sm5
    have J5 := land h5 fl5 sm25
    refine wpAny_handleBy_cons (codeAny_handlers_test (ld_glob (X := mkX (cxOf CX P w K mg base N qual scope f cd A outer s H E) ea) (inv_mk J5) hg Z.m ?_ hd)) (by intro q; cases q)
    obtain ⟨bmB, newId, hx, B, initId, FB⟩ := Z.cl
    obtain ⟨tl, N', nm, q', bs, hdct, sn, sub, ab, col, dd, k0, k1, k2, k3, k5, mN, hC, hN', hni, TT⟩ := own_obj (h := h5) J5.kIn hx
    obtain ⟨ob, hob, hobc⟩ := fl5.there
    refine xm_sub (K := K) J5.kIn hC (TT.hasType FB.hasBase) hob hobc hsub (codeAny_handlers_suite_as ?_)
    refine lands_againW fl5 fun h6 fl6 sm6 => ?_
    have J6 := land h6 fl6 (sm25.trans sm6)
    refine store_ok (X := (cxOf CX P w K mg base N qual scope f cd A outer s H E)) (v := .ref ea) J6 hN hi (.inl hl) rfl (fun s7 J7 => ?_) (.inr hl)
    have hli : i < σ1.length := by rw [I1.len]; exact (List.getElem?_eq_some_iff.mp hi).1
    refine wpAny_mono (hs ea pins s7 _ _ _ (inv_mk J7) (kq _ (by rw [List.getElem?_set_self hli]))) (fun fl s8 h8 => ?_) fun _ _ z => z.elim
    cases fl with
    | ret u =>
      obtain ⟨v, σ8, H8, J8, r8, q8⟩ := h8
      obtain ⟨m8, ns8, _⟩ := J8.loc
      refine wpAny_nameGoes hl ns8 (by rw [I.ok.kind]; rfl) fun h9 m9 ns9 sb9 => ?_
      exact ⟨v, _, H8, (mk_inv I.ok J8).name_goes ns9 sb9, r8, q8⟩
    | next => obtain ⟨_, _, _, z⟩ := h8; exact z.elim
    | brk => obtain ⟨_, _, _, z⟩ := h8; exact z.elim
    | cont => obtain ⟨_, _, _, z⟩ := h8; exact z.elim
  · cases fl with
    | next =>
      obtain ⟨σ', H', I', d⟩ := hh
      exact pss_nil pins s1 σ' H' D (tr_inv I.ok I') d
    | brk => obtain ⟨σ', H', I', d⟩ := hh; exact ⟨σ', H', tr_inv I.ok I', d⟩
    | cont => obtain ⟨σ', H', I', d⟩ := hh; exact ⟨σ', H', tr_inv I.ok I', d⟩
    | ret u => obtain ⟨v, σ', H', I', r, d⟩ := hh; exact ⟨v, σ', H', tr_inv I.ok I', r, d⟩
end
end L2

set_option Elab.async false
set_option linter.all false
set_option maxRecDepth 100000
set_option maxHeartbeats 4000000
/-! Exceptions of own classes: isinstance, lists of bools, calls within an except suite. -/
namespace L2
open PySem PySem.Spec PyProof.Rows PySem.W
/-- a class as a value -/
def cV : V → Value
  | .ref D => .ref D
  | .ty T => .type T
  | _ => .none
/-- isinstance(e, c) of an exception that is held -/
def rIsX (K : PySem.W.Frag) : List V → Hp → VK → Prop := fun xs H Q => ∃ ea c C b, xs = [.ref ea, c] ∧ H ea = some (EO ea C) ∧ ExcK K C ∧ kitOne K (.ref C) (cV c) = some b ∧ Q (.bl b) H
section
variable {X : Cx} {H : Hp} {Q : VK} {K : PySem.W.Frag}
theorem call_isX (K : PySem.W.Frag) (hK : X.K = K) : CallR X (.builtin "isinstance") (rIsX K) := by
  subst hK
  intro pins s σ H xs us Q I r h
  obtain ⟨ea, c, C, b, rfl, hE, Z, e, q⟩ := h
  obtain ⟨u, w', rfl, r1, r2⟩ := vals2 r
  cases r1
  have p : ExcIs ea C s.heap := (show ObjOk X.prog X.w H s.heap ea (EO ea C) from I.hok ea _ hE).1
  have hw : w' = cV c := by
    cases c with
    | ref D => exact r2
    | ty T => exact r2
    | _ =>
      exfalso
      unfold kitOne cV at e
      rw [if_neg (by simp)] at e
      cases e
  subst hw
  exact kia_one (kitx_exc Z) I.kIn p e (fun z => nomatch z) fun tk => ⟨.bl b, H, I.tok tk, rfl, q⟩
theorem flat_bls (bs : List Bool) : (bs.map V.bl).all flatV = true := by
  rw [List.all_eq_true]
  intro v hv
  obtain ⟨l, _, rfl⟩ := List.mem_map.mp hv
  rfl
theorem countP_bls : ∀ {bs : List Bool} {us : List Value}, Vals (bs.map V.bl) us → us.countP (eqU (.bl true)) = bs.countP id
  | [], _, .nil => rfl
  | b :: bs, _, .cons r t => by
    rw [List.countP_cons, List.countP_cons, countP_bls t, eqU_of r rfl]
    cases b <;> rfl
def rCntB (K : PySem.W.Frag) : V → List V → Hp → VK → Prop := fun x vs H Q => ∃ p, ∃ bs : List Bool, x = .ref p ∧ vs = [.bl true] ∧ SqL K H p (bs.map V.bl) ∧ Q (.int (bs.countP id : Nat)) H
theorem mt_countB (K : PySem.W.Frag) (hK : X.K = K) : MtR X "list.count" (rCntB K) := by
  subst hK
  intro pins s σ H x xs v us Q I rx rs h
  obtain ⟨p, bs, rfl, rfl, hq, q⟩ := h
  cases rx
  obtain ⟨u, rfl, ru⟩ := vals1 rs
  obtain ⟨its, rv, pl, hz⟩ := I.list hq
  obtain ⟨o, ho, hc, n, hd⟩ := pl.isList
  obtain ⟨oc, odd, odt, osl⟩ := o
  simp only at hc hd
  subst hc; subst hd
  refine call_meets PySem.F.slot_list_count ⟨_, ho, rfl⟩ PySem.F.entry_list_count (PySem.F.args_list_count_2 _ _) (SeqAt.list_countAt p its.toArray n odd osl u (eqU (.bl true))) ⟨ho, fun y hy => mem_eqAt ru rfl rv (flat_bls bs) y (by simpa using hy), ?_⟩
  rw [show its.toArray.toList = its from rfl, countP_bls rv]
  exact ⟨.int _, H, I.tok _, ⟨_, rfl⟩, q⟩
def rIdxB (K : PySem.W.Frag) : V → List V → Hp → VK → Prop := fun x vs H Q => ∃ p j, ∃ bs : List Bool, x = .ref p ∧ vs = [.bl true] ∧ SqL K H p (bs.map V.bl) ∧ bs[j]? = some true ∧ (∀ m, m < j → bs[m]? = some false) ∧ Q (.int (j : Nat)) H
theorem mt_indexB (K : PySem.W.Frag) (hK : X.K = K) : MtR X "list.index" (rIdxB K) := by
  subst hK
  intro pins s σ H x xs v us Q I rx rs h
  obtain ⟨p, j, bs, rfl, rfl, hq, hj, hlt, q⟩ := h
  cases rx
  obtain ⟨u, rfl, ru⟩ := vals1 rs
  obtain ⟨its, rv, pl, hz⟩ := I.list hq
  have hl := rv.length
  rw [List.length_map] at hl
  rw [List.length_map, sizeLine_eq] at hz
  have hjl := (List.getElem?_eq_some_iff.mp hj).1
  obtain ⟨o, ho, hc, n, hd⟩ := pl.isList
  obtain ⟨oc, odd, odt, osl⟩ := o
  simp only at hc hd
  subst hc; subst hd
  have item : ∀ m b (h1 : m < its.toArray.size), bs[m]? = some b → eqU (.bl true) its.toArray[m] = (b == true) := fun m b h1 h2 => by
    have h3 : m < its.length := by rw [List.size_toArray] at h1; exact h1
    have e1 : its[m]? = some its.toArray[m] := by rw [List.getElem?_eq_getElem h3]; rfl
    obtain ⟨x, hx, r⟩ := vals_at rv e1
    rw [List.getElem?_map, h2] at hx
    cases hx
    rw [eqU_of r rfl]; rfl
  refine call_meets PySem.F.slot_list_index ⟨_, ho, rfl⟩ PySem.F.entry_list_index (PySem.F.args_list_index_2 _ _)
    (SeqAt.list_indexAt p its.toArray n odd osl u (eqU (.bl true)) j (by rw [List.size_toArray]; omega) (by omega) ?_ ?_) ⟨ho, fun y hy => mem_eqAt ru rfl rv (flat_bls bs) y (by simpa using hy), ?_⟩
  · rw [item _ _ _ hj]; rfl
  · intro m h1 h2
    rw [item m _ h1 (hlt m h2)]; rfl
  · exact ⟨.int _, H, I.tok _, ⟨_, rfl⟩, q⟩
end
/-! ### calls within an except suite -/
structure RoomM (k : Nat) (A : Around) : Prop where
  dp : A.depth + 3 * k + 5 < recursionLimit
  un : A.units + 16 * k + 200 < cLine
theorem Room.toM {k : Nat} {A : Around} (r : Room k A) (x : Option Value) : RoomM k (A.mark x) := ⟨r.dp, r.un⟩
theorem RoomM.deeper {k : Nat} {A : Around} (r : RoomM (k + 1) A) (env : Env) : RoomM k (A.deeper env) :=
  ⟨by have := r.dp; show A.depth + 1 + 3 * k + 5 < _; omega, by have := r.un; show A.units + 3 + 16 * k + 200 < _; omega⟩
theorem RoomM.mono {j k : Nat} {A : Around} (r : RoomM k A) (h : j ≤ k) : RoomM j A := ⟨by have := r.dp; omega, by have := r.un; omega⟩
structure FnOkM (P : Program) (w : World) (K : PySem.W.Frag) (mg : Str → Option Value) (base : Heap) (k : Nat) (f : Addr) (fd : FuncData) (ps : List Str) (sp : Sp) : Prop where
  len : ∀ vs H Q E, sp vs H Q E → vs.length = ps.length
  run : ∀ (A : Around) (outer : List Env) (s : Shared) (H : Hp) (args : Args) (us : List Value) (vs : List V) (Q : VK) (E : XK), RoomM k A → Env0 P w K mg base A outer s H → BindsTo s fd args (ps.zip us) → Vals vs us → sp vs H Q E →
    codeAny (model P w) A (.call (.ref f) args) (CR CX0 outer P w H s Q E) s
/-- the context of a def that is called within an except suite -/
def cxM (P : Program) (w : World) (K : PySem.W.Frag) (mg : Str → Option Value) (base : Heap) (N : List Str) (qual : Str) (scope : Scope) (f : Addr) (cd : Value) (A : Around) (outer : List Env) (s : Shared) (H : Hp) : Cx :=
  { cxOf CX0 P w K mg base N qual scope f cd A outer s H E0 with calm := false, xe := fun _ _ => False }
theorem inv_startM {P : Program} {w : World} {K : PySem.W.Frag} {mg : Str → Option Value} {base : Heap} {N ps : List Str} {qual : Str} {scope : Scope} {f : Addr} {cd : Value} {A : Around} {outer : List Env} {s s1 : Shared} {H : Hp} {us : List Value} {vs : List V}
    (S : FnScope N ps scope) (e0 : Env0 P w K mg base A outer s H) (hl : vs.length = ps.length) (r : Vals vs us)
    (x : InCallC s s.heap.objs.size (bindL (envOfC qual scope s.heap.objs.size f cd).kindOf (ps.zip us) fun _ => none) (cellsFrom (s.heap.objs.size + 1) scope.names []) (bindC (envOfC qual scope s.heap.objs.size f cd).kindOf (ps.zip us) fun _ => none) s1) :
    Inv (cxM P w K mg base N qual scope f cd A outer s H) [] (start N vs) H s1 := by
  have e1 : Env0 P w K mg base { A with handled := none } outer s H := ⟨e0.frames, e0.mod, e0.bs, e0.bsz, e0.funs, e0.frf, e0.hok, e0.bare⟩
  have I : Inv (cxOf CX0 P w K mg base N qual scope f cd { A with handled := none } outer s H E0) [] (start N vs) H s1 := inv_start S rfl e1 hl r x
  exact ⟨⟨I.ok.mod, I.ok.kind, I.ok.glob, I.ok.blt, I.ok.above, I.ok.inj, I.ok.has, I.ok.cab, (fun z => nomatch z), Around.frames_deeper e0.frames, I.ok.stk, I.ok.exf, I.ok.bs, I.ok.bsz, I.ok.noex, I.ok.exfs, I.ok.funs, I.ok.frf⟩, I.os, I.bare, I.base, I.loc, I.cell, I.free, I.freeC, I.pin, I.hok, I.len⟩
theorem fn_ofM {P : Program} {w : World} {K : PySem.W.Frag} {mg : Str → Option Value} {base : Heap} {k : Nat} {f : Addr} {name qual : Str} {params : Arguments} {body : List Stmt} {scope : Scope} {dV kV doc pm cdv ct oc : Value} {an od : Option Addr}
    {osl : Array (Option Value)} {N ps : List Str} {sp : Sp} (lk : K.lookup f = some ⟨oc, od, .func (PySem.W.fnOf name qual params body scope dV kV doc pm an cdv ct), osl⟩) (hcd : PySem.W.codeIn K cdv qual = true) (S : FnScope N ps scope)
    (len : ∀ vs H Q E, sp vs H Q E → vs.length = ps.length)
    (hbody : ∀ (A : Around) (outer : List Env) (s : Shared) (H : Hp) (vs : List V) (Q : VK) (E : XK), RoomM k (A.deeper (envOfC qual scope s.heap.objs.size f cdv)) → sp vs H Q E →
      ∃ t, PSs (cxM P w K mg base N qual scope f cdv A outer s H) body t ∧ t { nx := fun _ H' => Q .non H', rt := Q } (start N vs) H) :
    FnOkM P w K mg base (k + 1) f (PySem.W.fnOf name qual params body scope dV kV doc pm an cdv ct) ps sp := by
  refine ⟨len, fun A outer s H args us vs Q E hr e0 hb r hsp => ?_⟩
  have hl := len _ _ _ _ hsp
  have KX : K.In s.heap := e0.mod.kin.keeps fun b o e => (e0.bs b o e).1
  have lim : s.heap.NoLimit := e0.mod.nolimit.keeps fun b o e => (e0.bs b o e).1
  have hkind : ∀ y ∈ ps.zip us, scope.names.lookup y.1 = some .local ∨ (scope.names.lookup y.1 = some .cell ∧ ((cellsFrom (s.heap.objs.size + 1) scope.names []).lookup y.1).isSome = true) := fun ⟨n, v⟩ hy => by
    rcases S.par n (List.of_mem_zip hy).1 with q | q
    · exact .inl q
    · exact .inr ⟨q, PySem.W.cellsFrom_some _ _ _ (.inl q)⟩
  refine codeAny_call_function (by have := hr.dp; omega) (KX _ _ lk) rfl S.co S.gen rfl (PySem.W.codeRec_of KX hcd) (hb _ _ _ _ ?_)
  refine wpAny_newFunctionEnv_cells S.kind hkind fun env he s1 x => ?_
  subst he
  refine ⟨lim.keeps x.toInCall.keep, codeAny_func ?_⟩
  obtain ⟨t, ht, hq⟩ := hbody A outer s H vs Q E (hr.deeper _) hsp
  have I : Inv (cxM P w K mg base N qual scope f cdv A outer s H) [] (start N vs) H s1 := inv_startM S e0 hl r x
  refine wpAny_mono (ht [] s1 (start N vs) H _ I hq) (fun fl s' hs => ?_) fun e s' hs => hs.elim
  have fin : ∀ {σ' : St} {H' : Hp} {v : V} {u : Value}, Inv (cxM P w K mg base N qual scope f cdv A outer s H) [] σ' H' s' → RelV v u → Q v H' → CE outer P w H s Q u s' :=
    fun {σ' H' v u} J rv q => ⟨v, H', J.os, J.bare, J.base, J.hok, rv, q⟩
  cases fl with
  | ret u =>
    obtain ⟨v, σ', H', J, rv, q⟩ := hs
    exact fin J rv q
  | next =>
    obtain ⟨σ', H', J, q⟩ := hs
    exact fin (v := V.non) (u := Value.none) J rfl q
  | brk =>
    obtain ⟨_, _, _, q⟩ := hs
    exact False.elim q
  | cont =>
    obtain ⟨_, _, _, q⟩ := hs
    exact False.elim q
section
variable {P : Program} {w : World} {K : PySem.W.Frag} {mg : Str → Option Value} {base : Heap}
theorem Fun.okM {x qual : Str} {st : Stmt} {f : Addr} {fd : FuncData} {N ps : List Str} {k : Nat} {sp : Sp} (F : Fun K x qual st f fd) (S : FnScope N ps (defScope st)) (len : ∀ vs H Q E, sp vs H Q E → vs.length = ps.length)
    (hbody : ∀ (cdv : Value) (A : Around) (outer : List Env) (s : Shared) (H : Hp) (vs : List V) (Q : VK) (E : XK), RoomM k (A.deeper (envOfC qual (defScope st) s.heap.objs.size f cdv)) → sp vs H Q E →
      ∃ t, PSs (cxM P w K mg base N qual (defScope st) f cdv A outer s H) (defBody st) t ∧ t { nx := fun _ H' => Q .non H', rt := Q } (start N vs) H) : FnOkM P w K mg base (k + 1) f fd ps sp := by
  obtain ⟨oc, od, kV, doc, pm, an, cdv, ct, osl, rfl, lk, hcd⟩ := F.ex
  exact fn_ofM lk hcd S len fun A outer s H vs Q E hr hsp => hbody cdv A outer s H vs Q E hr hsp
structure DfM (P : Program) (w : World) (K : PySem.W.Frag) (mg : Str → Option Value) (base : Heap) (x : Str) (k : Nat) (f : Addr) (fd : FuncData) (ps : List Str) (sp : Sp) : Prop where
  ok : FnOkM P w K mg base k f fd ps sp
  m : mg x = some (.ref f)
  kp : PySem.W.keepIn K (.ref f) = true
  b : Binds K fd ps []
end
theorem pe_callM {X : Cx} {x : Str} {k k' : Nat} {f : Addr} {fd : FuncData} {ps : List Str} {sp : Sp} {p pos : Pos} {e : Expr} {es : List Expr} {t : TA} (D : DfM X.prog X.w X.K X.mg X.base x k f fd ps sp) (hr : RoomM k' X.A) (hg : Gl X x) (ha : PA X (e :: es) t) (hk : k ≤ k')
    (hdb : (x == ("__debug__" : Str)) = false) (he : starEach (e :: es) X.env = (false, eval e X.env) :: starEach es X.env) (hpl : (backTo pos (starEach es X.env)).any (·.1) = false) :
    PE X (.Call (.Name x p) (e :: es) [] pos) (tCall sp [] E0 t) := by
  intro pins s σ H Q I h
  refine wpAny_Call_Name_kw (ld_glob I hg D.m ?_ hdb)
  refine PySem.W.callWith_K (h₀ := X.base) I.ok.mod.kin D.kp (thn (ha pos pins s σ H _ I h) fun us s1 ⟨vs, H1, I1, r, q⟩ => ⟨I1.kIn, ?_⟩) he hpl
  have q' : sp vs H1 Q E0 := by have z : sp (vs ++ []) H1 Q E0 := q; rw [List.append_nil] at z; exact z
  have hl : us.length = ps.length := by rw [← r.length]; exact D.ok.len _ _ _ _ q'
  refine wpAny_call (codeAny_mono (D.ok.run X.A X.stack s1 H1 ⟨us, []⟩ us vs Q E0 (hr.mono hk) I1.env0 (by have := D.b s1 us I1.kIn (by rw [List.append_nil]; exact hl); rw [List.append_nil] at this; exact this) r q') fun r s' hq => ?_)
  cases r with
  | error e => exact hq.elim
  | ok fl =>
    cases fl with
    | ret u => exact I1.after hq
    | next => exact False.elim hq
    | brk => exact False.elim hq
    | cont => exact False.elim hq
end L2

set_option Elab.async false
set_option linter.all false
set_option maxRecDepth 100000
set_option maxHeartbeats 4000000
/-! The refusals' classes; defs that refuse. -/
namespace L2
open PySem PySem.Spec PyProof.Rows PySem.W
def bmV : List Value := [.type "ValueError", .type "Exception", .type "BaseException", .type "object"]
def x1In (K : PySem.W.Frag) (cR c : Addr) : Bool := (clsIn K c).isSome && findIn K (.ref c) "__getattribute__" == some (some (.builtin "BaseException.__getattribute__")) && findIn K (.ref c) "__getattr__" == some none
  && findIn K (.ref c) "__class__" == some (some (.builtin "object.__class__")) && subIn K (.ref c) (.type "BaseException") == some true && subIn K (.ref c) (.type "object") == some true
  && subIn K (.ref c) (.ref cR) == some true && kitOne K (.ref c) (.type "ValueError") == some true && excIn K c bmV "ValueError.__new__"
def xcIn (K : PySem.W.Frag) (cs : List Addr) (cR : Addr) : Bool := cs.all (x1In K cR) && excIn K cR bmV "ValueError.__new__" && (cs.zipIdx.all fun x => cs.zipIdx.all fun y => kitOne K (.ref x.1) (.ref y.1) == some (x.2 == y.2))
/-- the classes: NoDie, NoWord, NoRace, NoRow, Over, TooMany, NoNote; RaceError -/
structure Xc (K : PySem.W.Frag) (mg : Str → Option Value) (c : Nat → Addr) : Prop where
  m0 : mg "NoDie" = some (.ref (c 0))
  m1 : mg "NoWord" = some (.ref (c 1))
  m2 : mg "NoRace" = some (.ref (c 2))
  m3 : mg "NoRow" = some (.ref (c 3))
  m4 : mg "Over" = some (.ref (c 4))
  m5 : mg "TooMany" = some (.ref (c 5))
  m6 : mg "NoNote" = some (.ref (c 6))
  m7 : mg "RaceError" = some (.ref (c 7))
  ex : ∀ j, j < 8 → excIn K (c j) bmV "ValueError.__new__" = true
  k : ∀ j, j < 7 → ExcK K (c j)
  sb : ∀ j, j < 7 → subIn K (.ref (c j)) (.ref (c 7)) = some true
  iv : ∀ j, j < 7 → kitOne K (.ref (c j)) (.type "ValueError") = some true
  ix : ∀ i j, i < 7 → j < 7 → kitOne K (.ref (c i)) (.ref (c j)) = some (i == j)
theorem Xc.e {K : PySem.W.Frag} {mg : Str → Option Value} {c : Nat → Addr} (Y : Xc K mg c) (j : Nat) (hj : j < 8) {x : Str} (h : mg x = some (.ref (c j))) : Exc K mg x (c j) :=
  ⟨h, bmV, _, Y.ex j hj, _, _, PySem.F.excBase_ValueError⟩
theorem xc_of {K : PySem.W.Frag} {mg : Str → Option Value} {a0 a1 a2 a3 a4 a5 a6 a7 : Addr} (h : xcIn K [a0, a1, a2, a3, a4, a5, a6] a7 = true) (m0 : mg "NoDie" = some (.ref a0)) (m1 : mg "NoWord" = some (.ref a1)) (m2 : mg "NoRace" = some (.ref a2)) (m3 : mg "NoRow" = some (.ref a3))
    (m4 : mg "Over" = some (.ref a4)) (m5 : mg "TooMany" = some (.ref a5)) (m6 : mg "NoNote" = some (.ref a6)) (m7 : mg "RaceError" = some (.ref a7)) : ∃ c, Xc K mg c := by
  unfold xcIn at h
  rw [Bool.and_eq_true, Bool.and_eq_true] at h
  obtain ⟨⟨h1, h2⟩, h3⟩ := h
  rw [List.all_eq_true] at h1 h3
  let l := [a0, a1, a2, a3, a4, a5, a6]
  have hl : ∀ j, j < 7 → [a0, a1, a2, a3, a4, a5, a6, a7].getD j 0 ∈ l := fun j hj => by
    match j, hj with
    | 0, _ => simp [l]
    | 1, _ => simp [l]
    | 2, _ => simp [l]
    | 3, _ => simp [l]
    | 4, _ => simp [l]
    | 5, _ => simp [l]
    | 6, _ => simp [l]
  have hz : ∀ j, j < 7 → ([a0, a1, a2, a3, a4, a5, a6, a7].getD j 0, j) ∈ l.zipIdx := fun j hj => by
    match j, hj with
    | 0, _ => simp [l]
    | 1, _ => simp [l]
    | 2, _ => simp [l]
    | 3, _ => simp [l]
    | 4, _ => simp [l]
    | 5, _ => simp [l]
    | 6, _ => simp [l]
  have h1' : ∀ j, j < 7 → x1In K a7 ([a0, a1, a2, a3, a4, a5, a6, a7].getD j 0) = true := fun j hj => h1 _ (hl j hj)
  refine ⟨fun j => [a0, a1, a2, a3, a4, a5, a6, a7].getD j 0, m0, m1, m2, m3, m4, m5, m6, m7, fun j hj => ?_, fun j hj => ?_, fun j hj => ?_, fun j hj => ?_, fun i j hi hj => ?_⟩
  · by_cases h7 : j < 7
    · have z := h1' j h7
      unfold x1In at z
      rw [Bool.and_eq_true] at z
      exact z.2
    · obtain rfl : j = 7 := by omega
      exact h2
  all_goals first
    | (have z := h1' j hj
       unfold x1In at z
       simp only [Bool.and_eq_true, beq_iff_eq] at z
       obtain ⟨⟨⟨⟨⟨⟨⟨⟨z1, z2⟩, z3⟩, z4⟩, z5⟩, z6⟩, z7⟩, z8⟩, z9⟩ := z
       first | exact ⟨z1, z2, z3, z4, z5, z6⟩ | exact z7 | exact z8)
    | skip
  have z := h3 _ (hz i hi)
  rw [List.all_eq_true] at z
  exact beq_iff_eq.mp (z _ (hz j hj))
/-- what a refusal is called -/
def kindT (j : Nat) : List Nat := [[100, 105, 101], [119, 111, 114, 100], [114, 97, 99, 101], [114, 111, 119], [111, 118, 101, 114], [109, 97, 110, 121], [110, 111, 116, 101]].getD j []
theorem boot_ValueError : bootBuiltins "ValueError" = some (.type "ValueError") := by decide +kernel
section
variable {P : Program} {w : World} {K : PySem.W.Frag} {mg : Str → Option Value} {base : Heap} {CX : CXT}
theorem Fun.okG {x qual : Str} {st : Stmt} {f : Addr} {fd : FuncData} {N ps : List Str} {k : Nat} {sp : Sp} (F : Fun K x qual st f fd) (S : FnScope N ps (defScope st)) (len : ∀ vs H Q E, sp vs H Q E → vs.length = ps.length)
    (hbody : ∀ (cdv : Value) (A : Around) (outer : List Env) (s : Shared) (H : Hp) (vs : List V) (Q : VK) (E : XK), Room k (A.deeper (envOfC qual (defScope st) s.heap.objs.size f cdv)) → sp vs H Q E →
      ∃ t, PSs (cxOf CX P w K mg base N qual (defScope st) f cdv A outer s H E) (defBody st) t ∧ t { nx := fun _ H' => Q .non H', rt := Q } (start N vs) H) : FnOk P w K mg base CX (k + 1) f fd ps sp := by
  obtain ⟨oc, od, kV, doc, pm, an, cdv, ct, osl, rfl, lk, hcd⟩ := F.ex
  exact fn_of lk hcd S len fun A outer s H vs Q E hr hsp => hbody cdv A outer s H vs Q E hr hsp
end
theorem g_try {i : Nat} {Sub : Addr → Prop} {ts : TS} {tb : XK → TS} {D : Ends} {σ : St} {H : Hp}
    (h : tb (fun cls a H' => ∃ ea C, a = some ea ∧ cls = .ref C ∧ Sub C ∧ ∀ σ', σ'[i]? = some (some (.ref ea)) → ts { nx := fun _ _ => False, rt := D.rt } σ' (upd H' ea (EO ea C))) D σ H) : tTry i Sub ts tb D σ H := h
section
variable {X : Cx} {H : Hp} {Q : VK} {K : PySem.W.Frag} {mg : Str → Option Value} {c : Nat → Addr}
theorem g_isX {ea : Addr} {i j : Nat} (Y : Xc K mg c) (h : H ea = some (EO ea (c i))) (hi : i < 7) (hj : j < 7) (k : Q (.bl (i == j)) H) : rIsX K [.ref ea, .ref (c j)] H Q := ⟨ea, _, c i, _, rfl, h, Y.k i hi, Y.ix i j hi hj, k⟩
theorem g_isV {ea : Addr} {i : Nat} (Y : Xc K mg c) (h : H ea = some (EO ea (c i))) (hi : i < 7) (k : Q (.bl true) H) : rIsX K [.ref ea, .ty "ValueError"] H Q := ⟨ea, _, c i, _, rfl, h, Y.k i hi, Y.iv i hi, k⟩
end
end L2

set_option Elab.async false
set_option linter.all false
set_option maxRecDepth 100000
set_option maxHeartbeats 4000000
/-! What is refused, and by which class. -/
namespace My
open PySem L2 PySem.Spec PyProof.Rows Wr
end My


set_option Elab.async false
set_option linter.all false
set_option maxRecDepth 100000
set_option maxHeartbeats 4000000
namespace My
open PySem L2 PySem.Spec PyProof.Rows Wr
/-! no twin is laid for what follows: it would be large -/
def _root_.PySem.W.Fast.tw4521228860807490198 : Unit := ()
def _root_.PySem.W.Fast.tw10775850951696761945 : Unit := ()
def _root_.PySem.W.Fast.tw10608746945565589651 : Unit := ()
def _root_.PySem.W.Fast.tw9232343339566368212 : Unit := ()
def _root_.PySem.W.Fast.tw9655134278406799329 : Unit := ()
def _root_.PySem.W.Fast.tw17324412961721863981 : Unit := ()
def _root_.PySem.W.Fast.tw11179219413716466262 : Unit := ()
def _root_.PySem.W.Fast.tw17436959662521065291 : Unit := ()
def _root_.PySem.W.Fast.tw15864330276554347196 : Unit := ()
def _root_.PySem.W.Fast.tw2607429116587559021 : Unit := ()
def _root_.PySem.W.Fast.tw6100439362077473569 : Unit := ()
def _root_.PySem.W.Fast.tw17362653624065633743 : Unit := ()
def _root_.PySem.W.Fast.tw14423306527160869247 : Unit := ()
def _root_.PySem.W.Fast.tw5002107311022593853 : Unit := ()
def _root_.PySem.W.Fast.tw11024987353410507569 : Unit := ()
def _root_.PySem.W.Fast.tw10659474355405065418 : Unit := ()
def top (i : Nat) : Stmt := PySem.Challenge.pw_wordrace_k17_no_row_and_over.main.body.getD i (.Pass ⟨0, 0, 0, 0⟩)
abbrev s_signs_of : Stmt := top 18
abbrev s_is_thrown : Stmt := top 19
abbrev s_check_die : Stmt := top 20
abbrev s_check_word : Stmt := top 21
abbrev s_stands_within_another : Stmt := top 22
abbrev s_check_race : Stmt := top 23
abbrev s_check_row : Stmt := top 24
abbrev s_beginnings_of : Stmt := top 25
abbrev s_longest_at_end : Stmt := top 26
abbrev s_state_of : Stmt := top 28
abbrev s_ended : Stmt := top 29
abbrev s_common_factor : Stmt := top 31
abbrev s_share_of : Stmt := top 32
abbrev s_equation_of : Stmt := top 33
abbrev s_freed_of : Stmt := top 34
abbrev s_solved : Stmt := top 35
abbrev s_state_of_open : Stmt := top 36
abbrev s_shares : Stmt := top 37
abbrev s_mean : Stmt := top 38
abbrev s_check_many : Stmt := top 40
abbrev s_one_throw_more : Stmt := top 41
abbrev s_rows_by_state : Stmt := top 42
abbrev s_open_rows : Stmt := top 43
abbrev s_ended_rows : Stmt := top 44
abbrev s_law_cell_at : Stmt := top 46
abbrev s_law_next : Stmt := top 47
abbrev s_law_die : Stmt := top 48
abbrev s_law_thrown : Stmt := top 49
abbrev s_law_word : Stmt := top 50
abbrev s_law_words : Stmt := top 51
abbrev s_law_open : Stmt := top 52
abbrev s_law_kind : Stmt := top 53
abbrev s_law_asked : Stmt := top 54
abbrev s_law_tried : Stmt := top 55
abbrev s_law : Stmt := top 56
structure Bl (mg : Str → Option Value) : Prop where
  len : mg "len" = none
  min : mg "min" = none
  max : mg "max" = none
  all : mg "all" = none
  any : mg "any" = none
  isinstance : mg "isinstance" = none
  sum : mg "sum" = none
  abs : mg "abs" = none
  list : mg "list" = none
  sorted : mg "sorted" = none
  range : mg "range" = none
  enumerate : mg "enumerate" = none
  set : mg "set" = none
  zip : mg "zip" = none
  ValueError : mg "ValueError" = none
structure Cs (P : Program) (mg : Str → Option Value) : Prop where
  tree : P.given.tree = none
  SIGNS : ∃ t_SIGNS, mg "SIGNS" = some (.str (S [97, 98, 99, 100]) t_SIGNS)
  LEAST_WEIGHTS : ∃ t_LEAST_WEIGHTS, mg "LEAST_WEIGHTS" = some (.int 2 t_LEAST_WEIGHTS)
  MOST_WEIGHTS : ∃ t_MOST_WEIGHTS, mg "MOST_WEIGHTS" = some (.int 4 t_MOST_WEIGHTS)
  LEAST_WEIGHT : ∃ t_LEAST_WEIGHT, mg "LEAST_WEIGHT" = some (.int 1 t_LEAST_WEIGHT)
  MOST_WEIGHT : ∃ t_MOST_WEIGHT, mg "MOST_WEIGHT" = some (.int 9 t_MOST_WEIGHT)
  MOST_SIGNS : ∃ t_MOST_SIGNS, mg "MOST_SIGNS" = some (.int 6 t_MOST_SIGNS)
  MOST_WORDS : ∃ t_MOST_WORDS, mg "MOST_WORDS" = some (.int 4 t_MOST_WORDS)
  MOST_THROWS : ∃ t_MOST_THROWS, mg "MOST_THROWS" = some (.int 60 t_MOST_THROWS)
local macro_rules | `(tactic| walk_at "go0") => `(tactic| first
  | with_reducible refine g_seq ?_ | with_reducible refine g_asg ?_ | with_reducible refine g_name ?_ | with_reducible refine g_drop ?_ | with_reducible refine g_ret ?_ | with_reducible refine g_next ?_
  | with_reducible refine g_par ?_ | with_reducible refine g_un ?_ | with_reducible refine g_neg ?_ | with_reducible refine g_retN ?_ | with_reducible refine g_sub ?_
  | with_reducible refine g_op ?_ | with_reducible refine g_c ?_ | ((with_reducible refine g_varT ?_); refine ⟨_, rfl, ?_⟩) | with_reducible refine g_rI0 ?_ | ((with_reducible refine g_rI ?c ?_); (case c => first | exact ⟨by decide, by decide⟩ | exact (show (0 : Int) < _ by first | decide | omega) | exact Or.inl ⟨by decide, by decide⟩ | exact Or.inr ⟨by decide, by decide⟩ | exact Or.inl ⟨by omega, by omega⟩ | exact Or.inr ⟨by omega, by omega⟩))
  | with_reducible refine g_test ?_ | with_reducible refine g_tb ?_ | with_reducible refine g_cb ?_ | with_reducible refine g_cons ?_ | with_reducible refine g_nil ?_
  | with_reducible refine g_sl ?_ | with_reducible refine g_nopart ?_ | with_reducible refine g_part ?_ | with_reducible refine g_and ?_ | with_reducible refine g_or ?_ | with_reducible refine g_not ?_
  | with_reducible refine g_andV ?_ | with_reducible refine g_orV ?_ | with_reducible refine g_notV ?_ | with_reducible refine g_call ?_ | with_reducible refine g_bm ?_ | with_reducible refine g_lst ?_ | with_reducible refine g_tup ?_
  | with_reducible refine g_comp ?_ | with_reducible refine g_istr ?_ | with_reducible refine g_ienum ?_ | with_reducible refine g_ilist ?_ | with_reducible refine g_rng1 ?_ | with_reducible refine g_rng2 ?_ | with_reducible refine g_yes ?_ | with_reducible refine g_for ?_
  | with_reducible refine g_dget2 ?_ | with_reducible refine g_dget ?_ | with_reducible refine g_dput ?_ | with_reducible refine g_dnew ?_ | with_reducible refine g_disp1 ?_ | with_reducible refine g_iitems ?_ | with_reducible refine g_izipS ?_ | with_reducible refine g_izipL ?_
  | with_reducible refine g_eqI ?_ | with_reducible refine g_neI ?_ | with_reducible refine g_eqS ?_ | with_reducible refine g_neS ?_ | with_reducible refine g_inS ?_ | with_reducible refine g_ew ?_ | with_reducible refine g_sw ?_ | with_reducible refine g_tyS ?_ | with_reducible refine g_tyL (by assumption) ?_ | with_reducible refine g_tyL (SqL.of (by assumption)) ?_ | with_reducible refine ⟨_, rfl, ?_⟩ | with_reducible refine And.intro rfl ?_ | ((with_reducible refine And.intro (a := _ ≤ sizeLine) ?hz ?_); (case hz => first | decide | exact small (by omega) | exact small (by simp))))
local macro_rules | `(tactic| walk_at "go1") => `(tactic| first | walk_at "go0" | with_reducible refine g_if ?_)
local macro_rules | `(tactic| walk_at "go") => `(tactic| repeat walk_at "go1")
local macro_rules | `(tactic| walk_at "goJ") => `(tactic| repeat walk_at "go0")
local macro_rules | `(tactic| walk_at "goL0") => `(tactic| first
  | ((with_reducible refine g_seqL ?_); intro _q) | ((with_reducible refine g_asgL ?_); intro _q) | with_reducible refine g_name ?_ | with_reducible refine g_drop ?_ | with_reducible refine g_ret ?_ | with_reducible refine g_next ?_
  | with_reducible refine g_par ?_ | with_reducible refine g_un ?_ | with_reducible refine g_neg ?_ | with_reducible refine g_retN ?_ | with_reducible refine g_sub ?_
  | ((with_reducible refine g_opL ?_); intro _q) | with_reducible refine g_c ?_ | ((with_reducible refine g_varT ?_); refine ⟨_, rfl, ?_⟩) | with_reducible refine g_rI0 ?_ | ((with_reducible refine g_rI ?c ?_); (case c => first | exact ⟨by decide, by decide⟩ | exact (show (0 : Int) < _ by first | decide | omega) | exact Or.inl ⟨by decide, by decide⟩ | exact Or.inr ⟨by decide, by decide⟩ | exact Or.inl ⟨by omega, by omega⟩ | exact Or.inr ⟨by omega, by omega⟩))
  | with_reducible refine g_test ?_ | with_reducible refine g_tb ?_ | ((with_reducible refine g_cbL ?_); intro _q) | with_reducible refine g_cons ?_ | with_reducible refine g_nil ?_
  | with_reducible refine g_sl ?_ | with_reducible refine g_nopart ?_ | with_reducible refine g_part ?_ | with_reducible refine g_and ?_ | with_reducible refine g_or ?_ | with_reducible refine g_not ?_
  | with_reducible refine g_andV ?_ | with_reducible refine g_orV ?_ | with_reducible refine g_notV ?_ | ((with_reducible refine g_callL ?_); intro _q) | ((with_reducible refine g_bmL ?_); intro _q) | with_reducible refine g_lst ?_ | with_reducible refine g_tup ?_
  | with_reducible refine g_comp ?_ | with_reducible refine g_istr ?_ | with_reducible refine g_ienum ?_ | with_reducible refine g_ilist ?_ | with_reducible refine g_rng1 ?_ | with_reducible refine g_rng2 ?_ | with_reducible refine g_yes ?_ | with_reducible refine g_for ?_
  | with_reducible refine g_dget2 ?_ | with_reducible refine g_dget ?_ | with_reducible refine g_dput ?_ | with_reducible refine g_dnew ?_ | with_reducible refine g_disp1 ?_ | with_reducible refine g_iitems ?_ | with_reducible refine g_izipS ?_ | with_reducible refine g_izipL ?_
  | with_reducible refine g_eqI ?_ | with_reducible refine g_neI ?_ | with_reducible refine g_eqS ?_ | with_reducible refine g_neS ?_ | with_reducible refine g_inS ?_ | with_reducible refine g_ew ?_ | with_reducible refine g_sw ?_ | with_reducible refine g_tyS ?_ | with_reducible refine g_tyL (by assumption) ?_ | with_reducible refine g_tyL (SqL.of (by assumption)) ?_ | with_reducible refine ⟨_, rfl, ?_⟩ | with_reducible refine And.intro rfl ?_ | ((with_reducible refine And.intro (a := _ ≤ sizeLine) ?hz ?_); (case hz => first | decide | exact small (by omega) | exact small (by simp))))
local macro_rules | `(tactic| walk_at "goL1") => `(tactic| first | walk_at "goL0" | ((with_reducible refine g_ifL ?_); intro _q))
local macro_rules | `(tactic| walk_at "goL") => `(tactic| repeat walk_at "goL1")
local macro_rules | `(tactic| walk_at "goLJ") => `(tactic| repeat walk_at "goL0")
section
variable {P : Program} {w : World} {K : PySem.W.Frag} {mg : Str → Option Value} {base : Heap} {c : Nat → Addr}


def sp_law_next (_ : PySem.W.Frag) : Sp := fun vs H Q _ => ∃ i, vs = [.int i] ∧ ∀ v : Int, 0 ≤ v → v < 2147483629 → Q (.int v) H
theorem sc_law_next : FnScope ["seed"] ["seed"] (defScope s_law_next) := ⟨rfl, rfl, rfl, by decide +kernel, rfl, by decide +kernel, by decide +kernel⟩
theorem ok_law_next {f : Addr} {fd : FuncData} (F : Fun K "_law_next" "_law_next" s_law_next f fd) (M : Bl mg) (T : Cs P mg)  : FnOk P w K mg base CX0 37 f fd ["seed"] (sp_law_next K) := by
  refine F.ok sc_law_next (fun vs H Q E h => ?_) (fun cdv A outer s H vs Q E hr h => ?_)
  · obtain ⟨i, rfl, _⟩ := h; rfl
  · obtain ⟨i, rfl, k⟩ := h
    have b1 := Int.emod_nonneg (i + 7919) (show (2147483647 : Int) ≠ 0 by decide)
    have b2 := Int.emod_lt_of_pos (i + 7919) (show (0 : Int) < 2147483647 by decide)
    refine ⟨_, (pss_cons (ps_set (i := 0) sc_law_next.nd rfl (Or.inl rfl) (pe_op op_mod (pe_op op_add (pv 0) pe_int) pe_int) rfl (Or.inl rfl))
  (pss_one (ps_ret (pe_op op_mod (pe_op op_add (pe_op op_add (pe_op op_mul (pv 0) (pv 0)) (pe_op op_mul pe_int (pv 0))) pe_int) pe_int)))), ?_⟩
    walk_at "goL"
    exact k _ (Int.emod_nonneg _ (by decide)) (Int.emod_lt_of_pos _ (by decide))


def sp_law_die (_ : PySem.W.Frag) : Sp := fun vs H Q _ => ∃ c : Int, vs = [.int c] ∧ ∀ a ns H', DieOk ns → H a = none → Same H H' → H' a = some (.lst (ns.map V.int)) → Q (.ref a) H'
theorem sc_law_die : FnScope ["cell", "many"] ["cell"] (defScope s_law_die) := ⟨rfl, rfl, rfl, by decide +kernel, rfl, by decide +kernel, by decide +kernel⟩
theorem ok_law_die {f : Addr} {fd : FuncData} (F : Fun K "_law_die" "_law_die" s_law_die f fd) (M : Bl mg) (T : Cs P mg) {f_law_next : Addr} {fd_law_next : FuncData} (D_law_next : Df P w K mg base "_law_next" 37 f_law_next fd_law_next ["seed"] (sp_law_next K)) : FnOk P w K mg base CX0 38 f fd ["cell"] (sp_law_die K) := by
  refine F.ok sc_law_die (fun vs H Q E h => ?_) (fun cdv A outer s H vs Q E hr h => ?_)
  · obtain ⟨c, rfl, _⟩ := h; rfl
  · obtain ⟨c, rfl, k⟩ := h
    have b1 := Int.emod_nonneg c (show (3 : Int) ≠ 0 by decide)
    have b2 := Int.emod_lt_of_pos c (show (0 : Int) < 3 by decide)
    have fin : ∀ {D : Addr} {H' : Hp} {ys : List V}, H D = none → Same H H' → H' D = some (.lst ys) → All2 (fun (_ : Nat) y => ∃ n : Int, y = V.int n ∧ 1 ≤ n ∧ n ≤ 9) (List.range (2 + c % 3).toNat) ys → Q (.ref D) H' := fun {D H' ys} hD t1 hy ha => by
      obtain ⟨ns, rfl, hl, hp⟩ := all2_ints ha
      rw [List.length_range] at hl
      exact k D ns H' ⟨by omega, by omega, hp⟩ hD t1 hy
    refine ⟨_, (pss_cons (ps_set (i := 1) sc_law_die.nd rfl (Or.inl rfl) (pe_op op_add pe_int (pe_op op_mod (pv 0) pe_int)) rfl (Or.inl rfl))
  (pss_cons (ps_if (pt_cmpR op_eq (pe_op op_mod (pe_op op_fdiv (pv 0) pe_int) pe_int) pe_int (nomark _))
  (pss_one (ps_ret (pe_compD (defScope s_law_die) ["cell", "many"] ["k"] [none] ⟨rfl, by decide +kernel, by decide +kernel, by decide +kernel, by decide +kernel, rfl, by decide +kernel⟩ (pi_range1 (by rfl) M.range (pa_cons (pv 1) pa_nil rfl) rfl) (fun s3 H3 C fp => ⟨pgb (i := 0) (by decide +kernel) rfl rfl, pif_nil, pe_int⟩) rfl rfl rfl (fun _ => rfl))))
  pss_nil)
  (pss_one (ps_ret (pe_compD (defScope s_law_die) ["cell", "many"] ["k", "cell"] [none, some 0] ⟨rfl, by decide +kernel, by decide +kernel, by decide +kernel, by decide +kernel, rfl, by decide +kernel⟩ (pi_range1 (by rfl) M.range (pa_cons (pv 1) pa_nil rfl) rfl) (fun s3 H3 C fp => ⟨pgb (i := 0) (by decide +kernel) rfl rfl, pif_nil, (pe_op op_add pe_int (pe_op op_mod (pe_op op_fdiv (pe_callD D_law_next hr (glb rfl) (pa_cons (pe_op op_add (pe_op op_fdiv (pvb 1) pe_int) (pe_op op_mul pe_int (pvb 0))) pa_nil rfl) (by decide) (by decide) rfl rfl) pe_int) pe_int))⟩) rfl rfl rfl (fun _ => rfl)))))), ?_⟩
    walk_at "goL"
    refine g_ite (fun _ => ?_) (fun _ => ?_)
    · walk_at "goL"
      refine ⟨by omega, by omega, ?_⟩
      intro D hD
      refine comp_genT (fun _ y _ => ∃ n : Int, y = V.int n ∧ 1 ≤ n ∧ n ≤ 9) (goes_range 0 _ _) hD (by rw [List.length_range]; exact small (by omega)) (fun _ _ _ _ _ h => h) (fun j hj H' R t1 _ k1 => ?_) (fun H' ys t1 hy ha => fin hD t1 hy ha)
      walk_at "goL"
      exact k1 _ _ (Same.refl _) ⟨1, rfl, by decide, by decide⟩
    · walk_at "goL"
      refine ⟨by omega, by omega, ?_⟩
      intro D hD
      refine comp_genT (fun _ y _ => ∃ n : Int, y = V.int n ∧ 1 ≤ n ∧ n ≤ 9) (goes_range 0 _ _) hD (by rw [List.length_range]; exact small (by omega)) (fun _ _ _ _ _ h => h) (fun j hj H' R t1 _ k1 => ?_) (fun H' ys t1 hy ha => fin hD t1 hy ha)
      walk_at "goL"
      refine ⟨_, rfl, fun v v0 v1 => ?_⟩
      walk_at "goL"
      have c1 := Int.emod_nonneg (v / 7) (show (9 : Int) ≠ 0 by decide)
      have c2 := Int.emod_lt_of_pos (v / 7) (show (0 : Int) < 9 by decide)
      exact k1 _ _ (Same.refl _) ⟨_, rfl, by omega, by omega⟩


def sp_law_thrown (_ : PySem.W.Frag) : Sp := fun vs H Q _ => ∃ c m g : Int, vs = [.int c, .int m, .int g] ∧ 0 ≤ m ∧ m ≤ 100 ∧ 1 ≤ g ∧ g ≤ 4 ∧ ∀ l : List Nat, l.length = m.toNat → (∀ x ∈ l, x ∈ abcd.take g.toNat) → Q (.str (S l)) H
theorem abcd_at {v g : Int} (h1 : 1 ≤ g) (h2 : g ≤ 4) : ∃ x, atI abcd (v % g) = some x ∧ x ∈ abcd.take g.toNat := by
  have c1 := Int.emod_nonneg v (show g ≠ 0 by omega)
  have c2 := Int.emod_lt_of_pos v (show 0 < g by omega)
  obtain ⟨n, hn⟩ := Int.eq_ofNat_of_zero_le c1
  have hn' : v % g = (n : Int) := hn
  rw [hn'] at c2 ⊢
  have hl : abcd.length = 4 := rfl
  have h4 : n < abcd.length := by omega
  refine ⟨abcd[n], atI_nat (List.getElem?_eq_getElem h4), ?_⟩
  rw [List.mem_take_iff_getElem]
  exact ⟨n, by omega, rfl⟩
theorem sc_law_thrown : FnScope ["cell", "many", "signs", "text", "seed", "k"] ["cell", "many", "signs"] (defScope s_law_thrown) := ⟨rfl, rfl, rfl, by decide +kernel, rfl, by decide +kernel, by decide +kernel⟩
theorem ok_law_thrown {f : Addr} {fd : FuncData} (F : Fun K "_law_thrown" "_law_thrown" s_law_thrown f fd) (M : Bl mg) (T : Cs P mg) {f_law_next : Addr} {fd_law_next : FuncData} (D_law_next : Df P w K mg base "_law_next" 37 f_law_next fd_law_next ["seed"] (sp_law_next K)) : FnOk P w K mg base CX0 38 f fd ["cell", "many", "signs"] (sp_law_thrown K) := by
  refine F.ok sc_law_thrown (fun vs H Q E h => ?_) (fun cdv A outer s H vs Q E hr h => ?_)
  · obtain ⟨c, m, g, rfl, _⟩ := h; rfl
  · obtain ⟨c, m, g, rfl, m0, m1, g0, g1, k⟩ := h
    refine ⟨_, (pss_cons (ps_set (i := 3) sc_law_thrown.nd rfl (Or.inl rfl) (pe_strS [] (by decide +kernel)) rfl (Or.inl rfl))
  (pss_cons (ps_set (i := 4) sc_law_thrown.nd rfl (Or.inl rfl) (pe_callD D_law_next hr (by rfl) (pa_cons (pv 0) pa_nil rfl) (by decide) (by decide) rfl rfl) rfl (Or.inl rfl))
  (pss_cons (ps_for PassesOwn.never rfl (pi_range1 (by rfl) M.range (pa_cons (pv 1) pa_nil rfl) rfl) (pg_name (i := 5) sc_law_thrown.nd rfl (Or.inl rfl) (Or.inl rfl))
  (pss_cons (ps_set (i := 3) sc_law_thrown.nd rfl (Or.inl rfl) (pe_op op_addS (pv 3) (pe_ix ix_S (pe_strS [97, 98, 99, 100] (by decide +kernel)) (pe_op op_mod (pe_op op_fdiv (pv 4) pe_int) (pv 2)) (fun _ _ => rfl))) rfl (Or.inl rfl))
    (pss_one (ps_set (i := 4) sc_law_thrown.nd rfl (Or.inl rfl) (pe_callD D_law_next hr (by rfl) (pa_cons (pe_op op_add (pv 4) (pv 5)) pa_nil rfl) (by decide) (by decide) rfl rfl) rfl (Or.inl rfl)))) (fun _ => rfl))
  (pss_one (ps_ret (pv 3)))))), ?_⟩
    walk_at "goL"
    refine ⟨_, rfl, fun v v0 v1 => ?_⟩
    walk_at "goL"
    refine ⟨by omega, by omega, ?_⟩
    let Pv0 : Nat → L2.St → Hp → Prop := (fun i σ H2 => ∃ (l : List Nat) (u : Int) (kk : Option V), H2 = H ∧ σ = [some (.int c), some (.int m), some (.int g), some (.str (S l)), some (.int u), kk] ∧ l.length = i ∧ ∀ x ∈ l, x ∈ abcd.take g.toNat)
    refine forR Pv0 ⟨[], v, none, rfl, rfl, rfl, by simp⟩ ?_ ?_
    · rintro i σ H2 hi ⟨l, u, kk, rfl, rfl, hl, hx⟩
      walk_at "goL"
      obtain ⟨x, e, hx'⟩ := abcd_at (v := u / 7) g0 g1
      refine g_ixS (by decide) e ?_
      refine g_addS (by rw [List.length_singleton]; exact small (by omega)) ?_
      walk_at "goL"
      refine ⟨_, rfl, fun u' _ _ => ?_⟩
      walk_at "goL"
      refine ⟨l ++ [x], u', some (.int (0 + i)), rfl, rfl, by simp [hl], fun y hy => ?_⟩
      rcases List.mem_append.mp hy with z | z
      · exact hx y z
      · have : y = x := by simpa using z
        subst this; exact hx'
    · rintro σ H2 ⟨l, u, kk, rfl, rfl, hl, hx⟩
      walk_at "goL"
      exact k l hl hx


def sp_law_word (_ : PySem.W.Frag) : Sp := fun vs H Q _ => ∃ c g : Int, vs = [.int c, .int g] ∧ 1 ≤ g ∧ g ≤ 4 ∧ ∀ l : List Nat, WordOk g.toNat l → Q (.str (S l)) H
theorem rep_take {n : Nat} {l : List Nat} (hw : WordOk n l) {k : Nat} (hk : 1 ≤ k) : WordOk n ((List.replicate 6 (l.take k)).flatten.take l.length) := by
  have h1 := hw.lo
  have h2 := hw.hi
  have hlen : 1 ≤ (l.take k).length := by rw [List.length_take]; omega
  have hf : (List.replicate 6 (l.take k)).flatten.length = 6 * (l.take k).length := by simp; omega
  have ht : ((List.replicate 6 (l.take k)).flatten.take l.length).length = l.length := by rw [List.length_take, hf]; omega
  refine ⟨by rw [ht]; exact h1, by rw [ht]; exact h2, fun c hc => ?_⟩
  have hc := List.mem_of_mem_take hc
  rw [List.mem_flatten] at hc
  obtain ⟨r, hr, hcr⟩ := hc
  have := List.eq_of_mem_replicate hr
  subst this
  exact hw.s c (List.mem_of_mem_take hcr)
theorem sc_law_word : FnScope ["cell", "signs", "word"] ["cell", "signs"] (defScope s_law_word) := ⟨rfl, rfl, rfl, by decide +kernel, rfl, by decide +kernel, by decide +kernel⟩
theorem ok_law_word {f : Addr} {fd : FuncData} (F : Fun K "_law_word" "_law_word" s_law_word f fd) (M : Bl mg) (T : Cs P mg) {f_law_thrown : Addr} {fd_law_thrown : FuncData} (D_law_thrown : Df P w K mg base "_law_thrown" 38 f_law_thrown fd_law_thrown ["cell", "many", "signs"] (sp_law_thrown K)) : FnOk P w K mg base CX0 39 f fd ["cell", "signs"] (sp_law_word K) := by
  refine F.ok sc_law_word (fun vs H Q E h => ?_) (fun cdv A outer s H vs Q E hr h => ?_)
  · obtain ⟨c, g, rfl, _⟩ := h; rfl
  · obtain ⟨c, g, rfl, g0, g1, k⟩ := h
    have b1 := Int.emod_nonneg c (show (6 : Int) ≠ 0 by decide)
    have b2 := Int.emod_lt_of_pos c (show (0 : Int) < 6 by decide)
    refine ⟨_, (pss_cons (ps_set (i := 2) sc_law_word.nd rfl (Or.inl rfl) (pe_callD D_law_thrown hr (by rfl) (pa_cons (pe_op op_fdiv (pv 0) pe_int) (pa_cons (pe_op op_add pe_int (pe_op op_mod (pv 0) pe_int)) (pa_cons (pv 1) pa_nil rfl) rfl) rfl) (by decide) (by decide) rfl rfl) rfl (Or.inl rfl))
  (pss_cons (ps_if (pt_cmpR op_eq (pe_op op_mod (pe_op op_fdiv (pv 0) pe_int) pe_int) pe_int (nomark _))
  (pss_one (ps_set (i := 2) sc_law_word.nd rfl (Or.inl rfl) (pe_slice sl_str (pe_op op_mulS (pe_slice sl_str (pv 2) po_none (po_some (pe_op op_add pe_int (pe_op op_mod (pe_op op_fdiv (pv 0) pe_int) pe_int)))) pe_int) po_none (po_some (pe_callB call_lenS (by rfl) M.len PySem.boot_len (pa_cons (pv 2) pa_nil rfl) (by decide) (by decide) rfl rfl))) rfl (Or.inl rfl)))
  pss_nil)
  (pss_one (ps_ret (pv 2))))), ?_⟩
    walk_at "goL"
    refine ⟨_, _, _, rfl, by omega, by omega, by omega, by omega, fun l hl hx => ?_⟩
    have hw : WordOk g.toNat l := ⟨by omega, by omega, hx⟩
    walk_at "goL"
    refine g_ite (fun _ => ?_) (fun _ => ?_)
    · have d1 := Int.emod_nonneg (c / 24) (show (2 : Int) ≠ 0 by decide)
      have d2 := Int.emod_lt_of_pos (c / 24) (show (0 : Int) < 2 by decide)
      walk_at "goL"
      refine g_slS (small (by omega)) ?_
      obtain ⟨n, hn⟩ := Int.eq_ofNat_of_zero_le (show 0 ≤ 1 + c / 24 % 2 by omega)
      have hn' : 1 + c / 24 % 2 = (n : Int) := hn
      rw [hn', cutL_to]
      walk_at "goL"
      refine ⟨_, 6, rfl, rfl, by decide, by rw [List.length_take]; omega, ?_⟩
      walk_at "goL"
      refine g_slS (by
        have : (List.replicate 6 (l.take n)).flatten.length = 6 * (l.take n).length := by simp; omega
        rw [this, List.length_take]; exact small (by omega)) ?_
      rw [cutL_to]
      walk_at "goL"
      exact k _ (rep_take hw (by omega))
    · walk_at "goL"
      exact k l hw


def sp_law_cell_at (K : PySem.W.Frag) : Sp := fun vs H Q _ => ∃ a, ∃ ns : List Int, ∃ k : Nat, vs = [.ref a, .int k] ∧ SqL K H a (ns.map V.int) ∧ ∀ v, Q (.int v) H
theorem sc_law_cell_at : FnScope ["script", "k"] ["script", "k"] (defScope s_law_cell_at) := ⟨rfl, rfl, rfl, by decide +kernel, rfl, by decide +kernel, by decide +kernel⟩
theorem ok_law_cell_at {f : Addr} {fd : FuncData} (F : Fun K "_law_cell_at" "_law_cell_at" s_law_cell_at f fd) (M : Bl mg) (T : Cs P mg)  : FnOk P w K mg base CX0 37 f fd ["script", "k"] (sp_law_cell_at K) := by
  refine F.ok sc_law_cell_at (fun vs H Q E h => ?_) (fun cdv A outer s H vs Q E hr h => ?_)
  · obtain ⟨a, ns, k, rfl, _⟩ := h; rfl
  · obtain ⟨a, ns, k, rfl, hS, q⟩ := h
    have hl : (ns.map V.int).length = ns.length := List.length_map ..
    refine ⟨_, (pss_cons (ps_if (pt_cmpR op_lt (pv 1) (pe_callB (call_lenK K rfl) (by rfl) M.len PySem.boot_len (pa_cons (pv 0) pa_nil rfl) (by decide) (by decide) rfl rfl) (nomark _))
  (pss_one (ps_ret (pe_ix (ix_listK K rfl) (pv 0) (pv 1) (fun _ _ => rfl))))
  pss_nil)
  (pss_one (ps_ret pe_int))), ?_⟩
    walk_at "goL"
    refine ⟨_, _, rfl, .inl hS, ?_⟩
    walk_at "goL"
    refine g_ite (fun hk => ?_) (fun hk => ?_)
    · walk_at "goL"
      have hk' : k < ns.length := by omega
      exact g_ixL hS (atI_nat (v := V.int ns[k]) (by rw [List.getElem?_map, List.getElem?_eq_getElem hk']; rfl)) (q _)
    · walk_at "goL"
      exact q _


def sp_law_words (K : PySem.W.Frag) : Sp := fun vs H Q _ => ∃ a, ∃ ns : List Int, ∃ p : Nat, ∃ g : Int, vs = [.ref a, .int p, .int g] ∧ SqL K H a (ns.map V.int) ∧ 1 ≤ g ∧ g ≤ 4 ∧ ∀ b ws H', RaceOk g.toNat ws → H b = none → Same H H' → H' b = some (.lst (txs ws)) → Q (.ref b) H'
theorem sc_law_words : FnScope ["script", "at", "signs", "words", "k", "word"] ["script", "at", "signs"] (defScope s_law_words) := ⟨rfl, rfl, rfl, by decide +kernel, rfl, by decide +kernel, by decide +kernel⟩
theorem ok_law_words {f : Addr} {fd : FuncData} (F : Fun K "_law_words" "_law_words" s_law_words f fd) (M : Bl mg) (T : Cs P mg) {f_law_word : Addr} {fd_law_word : FuncData} (D_law_word : Df P w K mg base "_law_word" 39 f_law_word fd_law_word ["cell", "signs"] (sp_law_word K)) {f_law_cell_at : Addr} {fd_law_cell_at : FuncData} (D_law_cell_at : Df P w K mg base "_law_cell_at" 37 f_law_cell_at fd_law_cell_at ["script", "k"] (sp_law_cell_at K)) : FnOk P w K mg base CX0 40 f fd ["script", "at", "signs"] (sp_law_words K) := by
  refine F.ok sc_law_words (fun vs H Q E h => ?_) (fun cdv A outer s H vs Q E hr h => ?_)
  · obtain ⟨a, ns, p, g, rfl, _⟩ := h; rfl
  · obtain ⟨a, ns, p, g, rfl, hS, g0, g1, k⟩ := h
    refine ⟨_, (pss_cons (ps_set (i := 3) sc_law_words.nd rfl (Or.inl rfl) (pe_lst pa_nil) rfl (Or.inl rfl))
  (pss_cons (ps_for PassesOwn.never rfl (pi_range1 (by rfl) M.range (pa_cons (pe_op op_add pe_int (pe_op op_mod (pe_callD D_law_cell_at hr (by rfl) (pa_cons (pv 0) (pa_cons (pv 1) pa_nil rfl) rfl) (by decide) (by decide) rfl rfl) pe_int)) pa_nil rfl) rfl) (pg_name (i := 4) sc_law_words.nd rfl (Or.inl rfl) (Or.inl rfl))
  (pss_cons (ps_set (i := 5) sc_law_words.nd rfl (Or.inr rfl) (pe_callD D_law_word hr (by rfl) (pa_cons (pe_op op_add (pe_op op_mod (pe_callD D_law_cell_at hr (by rfl) (pa_cons (pv 0) (pa_cons (pe_op op_add (pe_op op_add (pv 1) pe_int) (pv 4)) pa_nil rfl) rfl) (by decide) (by decide) rfl rfl) pe_int) (pe_op op_mul pe_int (pv 4))) (pa_cons (pv 2) pa_nil rfl) rfl) (by decide) (by decide) rfl rfl) rfl (Or.inl rfl))
    (pss_one (ps_if (pt_not (pt_val (pe_callB (call_anyK K rfl rfl) (by rfl) M.any boot_any (pa_cons (pe_compD (defScope s_law_words) ["script", "at", "signs", "words", "k", "word"] ["one", "word"] [none, some 5] ⟨rfl, by decide +kernel, by decide +kernel, by decide +kernel, by decide +kernel, rfl, by decide +kernel⟩ (pi_listK K rfl (pv 3)) (fun s3 H3 C fp => ⟨pgb (i := 0) (by decide +kernel) rfl rfl, pif_nil, (pe_or (pe_cmpR op_inS (pvb 1) (pvb 0) (by with_unfolding_all rfl)) (pe_one (pe_cmpR op_inS (pvb 0) (pvb 1) (by with_unfolding_all rfl))))⟩) rfl rfl rfl (fun _ => rfl)) pa_nil rfl) (by decide) (by decide) rfl rfl) (fun _ => rfl)))
    (pss_one (ps_expr (pe_bmK K rfl PySem.F.plainAttrs_list PySem.F.slot_list_append PySem.F.type_list_append mt_append (pv 3) (pa_cons (pv 5) pa_nil rfl) rfl rfl rfl rfl rfl) rfl))
    pss_nil))) (fun _ => rfl))
  (pss_one (ps_ret (pv 3))))), ?_⟩
    walk_at "goL"
    intro b hb
    have s0 : Same H (upd H b (.lst [])) := same_upd (Same.refl _) hb
    walk_at "goL"
    refine ⟨a, ns, p, rfl, s0.seq hS, fun v => ?_⟩
    have b1 := Int.emod_nonneg v (show (4 : Int) ≠ 0 by decide)
    have b2 := Int.emod_lt_of_pos v (show (0 : Int) < 4 by decide)
    walk_at "goL"
    refine ⟨by omega, by omega, ?_⟩
    let Pv0 : Nat → L2.St → Hp → Prop := (fun i σ H2 => ∃ (ws : List (List Nat)) (x y : Option V), Same H H2 ∧ H2 b = some (.lst (txs ws)) ∧ σ = [some (.ref a), some (.int p), some (.int g), some (.ref b), x, y] ∧ ws.length ≤ i ∧ (0 < i → 1 ≤ ws.length) ∧ (∀ l ∈ ws, WordOk g.toNat l) ∧ ws.Pairwise fun a b => within a b = false ∧ within b a = false)
    refine forR Pv0
      ⟨[], none, none, s0, upd_same, rfl, Nat.zero_le _, by omega, by simp, .nil⟩ ?_ ?_
    · rintro i σ H2 hi ⟨ws, x, y, s2, hy2, rfl, hl, hpos, hw, hap⟩
      walk_at "goL"
      refine ⟨a, ns, p + 1 + i, by
        show [V.ref a, V.int ((p : Int) + 1 + (0 + (i : Int)))] = _
        rw [show (p : Int) + 1 + (0 + (i : Int)) = ((p + 1 + i : Nat) : Int) by omega], s2.seq hS, fun u => ?_⟩
      walk_at "goL"
      refine ⟨_, _, rfl, g0, g1, fun wd hwd => ?_⟩
      walk_at "goL"
      refine ⟨⟨_, (SqL.of hy2)⟩, ?_⟩
      intro D hD
      refine comp_map (src := ws) (gv := fun l => V.str (S l)) (fun l => V.bl (within wd l || within l wd)) (goes_list (SqL.of hy2)) hD (small (by omega)) (fun l hl' H' R t1 k1 => ?_) (fun H' t1 hy => ?_)
      · walk_at "goL"
        cases e1 : within wd l with
        | true =>
          refine iteT ?_
          have := k1 _ (Same.refl _)
          rw [e1] at this
          exact this
        | false =>
          refine iteF ?_
          walk_at "goL"
          have := k1 _ (Same.refl _)
          rw [e1] at this
          exact this
      · walk_at "goL"
        refine ⟨D, ws.map fun l => within wd l || within l wd, rfl, SqL.of (by rw [hy]; simp), ?_⟩
        have e : (ws.map fun l => within wd l || within l wd).any id = ws.any fun l => within wd l || within l wd := by rw [List.any_map]; rfl
        rw [e]
        have hy' : H' b = some (.lst (txs ws)) := t1 _ _ hy2
        cases ha : ws.any fun l => within wd l || within l wd with
        | true =>
          walk_at "goL"
          refine iteF ?_
          walk_at "goL"
          have hne : 1 ≤ ws.length := by
            cases ws with
            | nil => simp at ha
            | cons _ _ => simp
          exact ⟨ws, _, _, s2.trans t1, hy', rfl, by omega, fun _ => hne, hw, hap⟩
        | false =>
          walk_at "goL"
          refine iteT ?_
          walk_at "goL"
          refine ⟨b, _, _, rfl, rfl, hy', by rw [txs_len]; exact small1000 (by omega), ?_⟩
          refine ⟨ws ++ [wd], _, _, same_upd (s2.trans t1) hb, by rw [upd_same]; simp, rfl, by simp; omega, fun _ => by simp, fun l hl' => ?_, ?_⟩
          · rcases List.mem_append.mp hl' with z | z
            · exact hw l z
            · have : l = wd := by simpa using z
              subst this; exact hwd
          · rw [List.pairwise_append]
            refine ⟨hap, List.pairwise_singleton _ _, fun l hl' m hm => ?_⟩
            have : m = wd := by simpa using hm
            subst this
            have := List.any_eq_false.mp ha l hl'
            simp only [Bool.or_eq_true, not_or, Bool.not_eq_true] at this
            exact ⟨this.2, this.1⟩
    · rintro σ H2 ⟨ws, x, y, s2, hy2, rfl, hl, hpos, hw, hap⟩
      walk_at "goL"
      exact k b ws H2 ⟨hpos (by omega), by omega, hw, hap⟩ hb s2 hy2

theorem open_take {ws : List (List Nat)} {row : List Nat} {m : Nat} (hm : m ≤ row.length) (h : ∀ j, j ≤ m → (ws.any fun w => w.isSuffixOf (row.take j)) = false) : endedF ws (row.take m) = none := by
  refine endedF_none fun t ht => endAt_none fun p hp => ?_
  rw [List.length_take] at ht
  rw [List.take_take, Nat.min_eq_left (by omega)]
  have := h (t + 1) (by omega)
  rw [List.any_eq_false] at this
  exact Bool.eq_false_iff.mpr (this _ (List.getElem_mem hp))
def sp_law_open (K : PySem.W.Frag) : Sp := fun vs H Q _ => ∃ a ws row, vs = [.ref a, .str (S row)] ∧ SqL K H a (txs ws) ∧ ws.length ≤ 1000 ∧ row.length ≤ 1000 ∧ (∀ w ∈ ws, 1 ≤ w.length) ∧ ∀ H' m, Same H H' → m ≤ row.length → endedF ws (row.take m) = none → Q (.str (S (row.take m))) H'
theorem sc_law_open : FnScope ["words", "row", "many"] ["words", "row"] (defScope s_law_open) := ⟨rfl, rfl, rfl, by decide +kernel, rfl, by decide +kernel, by decide +kernel⟩
theorem ok_law_open {f : Addr} {fd : FuncData} (F : Fun K "_law_open" "_law_open" s_law_open f fd) (M : Bl mg) (T : Cs P mg)  : FnOk P w K mg base CX0 37 f fd ["words", "row"] (sp_law_open K) := by
  refine F.ok sc_law_open (fun vs H Q E h => ?_) (fun cdv A outer s H vs Q E hr h => ?_)
  · obtain ⟨a, ws, row, rfl, _⟩ := h; rfl
  · obtain ⟨a, ws, row, rfl, hS, hwl, hrl, hw1, k⟩ := h
    refine ⟨_, (pss_cons (ps_for PassesOwn.never rfl (pi_range1 (by rfl) M.range (pa_cons (pe_op op_add (pe_callB call_lenS (by rfl) M.len PySem.boot_len (pa_cons (pv 1) pa_nil rfl) (by decide) (by decide) rfl rfl) pe_int) pa_nil rfl) rfl) (pg_name (i := 2) sc_law_open.nd rfl (Or.inr rfl) (Or.inl rfl))
  (pss_one (ps_if (pt_val (pe_callB (call_anyK K rfl rfl) (by rfl) M.any boot_any (pa_cons (pe_compD (defScope s_law_open) ["words", "row", "many"] ["word", "row", "many"] [none, some 1, some 2] ⟨rfl, by decide +kernel, by decide +kernel, by decide +kernel, by decide +kernel, rfl, by decide +kernel⟩ (pi_listK K rfl (pv 0)) (fun s3 H3 C fp => ⟨pgb (i := 0) (by decide +kernel) rfl rfl, pif_nil, (pe_bmK K rfl PySem.F.plainAttrs_str PySem.F.slot_str_endswith PySem.F.type_str_endswith mt_endswith (pe_slice sl_str (pvb 1) po_none (po_some (pvb 2))) (pa_cons (pvb 0) pa_nil rfl) rfl rfl rfl rfl rfl)⟩) rfl rfl rfl (fun _ => rfl)) pa_nil rfl) (by decide) (by decide) rfl rfl) (fun _ => rfl))
    (pss_one (ps_ret (pe_slice sl_str (pv 1) po_none (po_some (pe_op op_sub (pv 2) pe_int)))))
    pss_nil)) (fun _ => rfl))
  (pss_one (ps_ret (pv 1)))), ?_⟩
    walk_at "goL"
    refine ⟨by omega, by omega, ?_⟩
    rw [show ((row.length : Int) + 1).toNat = row.length + 1 by omega]
    let Pv0 : Nat → L2.St → Hp → Prop := (fun i σ H2 => ∃ x : Option V, Same H H2 ∧ σ = [some (.ref a), some (.str (S row)), x] ∧ ∀ j, j < i → (ws.any fun w => w.isSuffixOf (row.take j)) = false)
    refine forR Pv0 ⟨none, Same.refl _, rfl, by omega⟩ ?_ ?_
    · rintro i σ H2 hi ⟨x, s1, rfl, hno⟩
      walk_at "goL"
      refine ⟨⟨_, s1.seq hS⟩, ?_⟩
      intro D hD
      refine comp_map (src := ws) (gv := fun l => V.str (S l)) (fun l => V.bl (l.isSuffixOf (row.take i))) (goes_list (s1.seq hS)) hD (small hwl) (fun l hl' H' R t1 k1 => ?_) (fun H' t1 hy => ?_)
      · walk_at "goL"
        refine g_slS (small hrl) ?_
        rw [show (0 : Int) + (i : Int) = (i : Int) by omega, cutL_to]
        walk_at "goL"
        exact k1 _ (Same.refl _)
      · walk_at "goL"
        refine ⟨D, ws.map fun l => l.isSuffixOf (row.take i), rfl, SqL.of (by rw [hy]; simp), ?_⟩
        have e : (ws.map fun l => l.isSuffixOf (row.take i)).any id = ws.any fun l => l.isSuffixOf (row.take i) := by rw [List.any_map]; rfl
        rw [e]
        cases ha : ws.any fun l => l.isSuffixOf (row.take i) with
        | true =>
          have i1 : 1 ≤ i := by
            obtain ⟨w, hw, hs⟩ := List.any_eq_true.mp ha
            have h1 := (isSuf.mp hs).length_le
            have h2 := hw1 w hw
            rw [List.length_take] at h1
            omega
          walk_at "goL"
          refine iteT ?_
          walk_at "goL"
          refine g_slS (small hrl) ?_
          rw [show (0 : Int) + (i : Int) - 1 = ((i - 1 : Nat) : Int) by omega, cutL_to]
          exact k _ (i - 1) (s1.trans t1) (by omega) (open_take (by omega) fun j hj => hno j (by omega))
        | false =>
          walk_at "goL"
          refine iteF ?_
          walk_at "goL"
          refine ⟨_, s1.trans t1, rfl, fun j hj => ?_⟩
          by_cases hji : j < i
          · exact hno j hji
          · have : j = i := by omega
            subst this; exact ha
    · rintro σ H2 ⟨x, s1, rfl, hno⟩
      walk_at "goL"
      have := k H2 row.length s1 (Nat.le_refl _) (open_take (Nat.le_refl _) fun j hj => hno j (by omega))
      rw [List.take_length] at this
      exact this


def sp_check_die (K : PySem.W.Frag) : Sp := fun vs H Q _ => ∃ a ns, vs = [.ref a] ∧ SqL K H a (ns.map V.int) ∧ DieOk ns ∧ Q .non H
theorem sc_check_die : FnScope ["die"] ["die"] (defScope s_check_die) := ⟨rfl, rfl, rfl, by decide +kernel, rfl, by decide +kernel, by decide +kernel⟩
theorem ok_check_die {f : Addr} {fd : FuncData} (F : Fun K "check_die" "check_die" s_check_die f fd) (M : Bl mg) (T : Cs P mg)  : FnOk P w K mg base CX0 37 f fd ["die"] (sp_check_die K) := by
  refine F.ok sc_check_die (fun vs H Q E h => ?_) (fun cdv A outer s H vs Q E hr h => ?_)
  · obtain ⟨a, ns, rfl, _⟩ := h; rfl
  · obtain ⟨a, ns, rfl, hS, hd, k⟩ := h
    have hl : (ns.map V.int).length = ns.length := List.length_map ..
    have h1 := hd.lo
    have h2 := hd.hi
    have hne : ns ≠ [] := by intro z; subst z; simp at h1
    refine ⟨_, (pss_cons (ps_if (PW.pt (pw_or (pt_cmpR op_lt (pe_callB (call_lenK K rfl) (by rfl) M.len PySem.boot_len (pa_cons (pv 0) pa_nil rfl) (by decide) (by decide) rfl rfl) (pe_gI (by rfl) T.LEAST_WEIGHTS (by decide)) (nomark _)) (pw_or1 (pt_cmpR op_gt (pe_callB (call_lenK K rfl) (by rfl) M.len PySem.boot_len (pa_cons (pv 0) pa_nil rfl) (by decide) (by decide) rfl rfl) (pe_gI (by rfl) T.MOST_WEIGHTS (by decide)) (nomark _)))))
  (pss_one ps_never)
  pss_nil)
  (pss_one (ps_if (PW.pt (pw_or (pt_cmpR op_lt (pe_callB (call_minK K rfl rfl) (by rfl) M.min boot_min (pa_cons (pv 0) pa_nil rfl) (by decide) (by decide) rfl rfl) (pe_gI (by rfl) T.LEAST_WEIGHT (by decide)) (nomark _)) (pw_or1 (pt_cmpR op_gt (pe_callB (call_maxK K rfl rfl) (by rfl) M.max boot_max (pa_cons (pv 0) pa_nil rfl) (by decide) (by decide) rfl rfl) (pe_gI (by rfl) T.MOST_WEIGHT (by decide)) (nomark _)))))
  (pss_one ps_never)
  pss_nil))), ?_⟩
    walk_at "goL"
    refine ⟨_, _, rfl, .inl hS, ?_⟩
    walk_at "goL"
    refine iteFd (by omega) ?_
    walk_at "goL"
    refine ⟨_, _, rfl, .inl hS, ?_⟩
    walk_at "goL"
    refine iteFd (by omega) ?_
    walk_at "goL"
    refine ⟨a, ns, rfl, hS, hne, fun M hM _ => ?_⟩
    have hM' := hd.w M hM
    walk_at "goL"
    refine iteFd (by omega) ?_
    walk_at "goL"
    refine ⟨a, ns, rfl, hS, hne, fun M2 hM2 _ => ?_⟩
    have hM2' := hd.w M2 hM2
    walk_at "goL"
    refine iteFd (by omega) ?_
    walk_at "goL"
    exact k


def sp_signs_of (K : PySem.W.Frag) : Sp := fun vs H Q _ => ∃ a xs, vs = [.ref a] ∧ SqL K H a xs ∧ Q (.str (S (abcd.take xs.length))) H
theorem sc_signs_of : FnScope ["die"] ["die"] (defScope s_signs_of) := ⟨rfl, rfl, rfl, by decide +kernel, rfl, by decide +kernel, by decide +kernel⟩
theorem ok_signs_of {f : Addr} {fd : FuncData} (F : Fun K "signs_of" "signs_of" s_signs_of f fd) (M : Bl mg) (T : Cs P mg)  : FnOk P w K mg base CX0 37 f fd ["die"] (sp_signs_of K) := by
  refine F.ok sc_signs_of (fun vs H Q E h => ?_) (fun cdv A outer s H vs Q E hr h => ?_)
  · obtain ⟨a, xs, rfl, _⟩ := h; rfl
  · obtain ⟨a, xs, rfl, hS, k⟩ := h
    refine ⟨_, (pss_one (ps_ret (pe_slice sl_str (pe_gS (by rfl) T.SIGNS (by decide)) po_none (po_some (pe_callB (call_lenK K rfl) (by rfl) M.len PySem.boot_len (pa_cons (pv 0) pa_nil rfl) (by decide) (by decide) rfl rfl))))), ?_⟩
    walk_at "goL"
    refine ⟨_, _, rfl, .inl hS, ?_⟩
    walk_at "goL"
    refine g_slS (by decide) ?_
    rw [cutL_to]
    exact k


def sp_is_thrown (K : PySem.W.Frag) : Sp := fun vs H Q _ => ∃ a xs l, vs = [.ref a, .str (S l)] ∧ SqL K H a xs ∧ l.length ≤ 1000 ∧ ∀ H', Same H H' → Q (.bl (l.all fun c => decide (c ∈ abcd.take xs.length))) H'
theorem sc_is_thrown : FnScope ["die", "text", "signs"] ["die", "text"] (defScope s_is_thrown) := ⟨rfl, rfl, rfl, by decide +kernel, rfl, by decide +kernel, by decide +kernel⟩
theorem ok_is_thrown {f : Addr} {fd : FuncData} (F : Fun K "is_thrown" "is_thrown" s_is_thrown f fd) (M : Bl mg) (T : Cs P mg) {f_signs_of : Addr} {fd_signs_of : FuncData} (D_signs_of : Df P w K mg base "signs_of" 37 f_signs_of fd_signs_of ["die"] (sp_signs_of K)) : FnOk P w K mg base CX0 38 f fd ["die", "text"] (sp_is_thrown K) := by
  refine F.ok sc_is_thrown (fun vs H Q E h => ?_) (fun cdv A outer s H vs Q E hr h => ?_)
  · obtain ⟨a, xs, l, rfl, _⟩ := h; rfl
  · obtain ⟨a, xs, l, rfl, hS, hl, k⟩ := h
    refine ⟨_, (pss_cons (ps_set (i := 2) sc_is_thrown.nd rfl (Or.inr rfl) (pe_callD D_signs_of hr (by rfl) (pa_cons (pv 0) pa_nil rfl) (by decide) (by decide) rfl rfl) rfl (Or.inl rfl))
  (pss_one (ps_ret (pe_callB (call_allK K rfl rfl) (by rfl) M.all boot_all (pa_cons (pe_compD (defScope s_is_thrown) ["die", "text", "signs"] ["sign", "signs"] [none, some 2] ⟨rfl, by decide +kernel, by decide +kernel, by decide +kernel, by decide +kernel, rfl, by decide +kernel⟩ (pi_str (pv 1)) (fun s3 H3 C fp => ⟨pgb (i := 0) (by decide +kernel) rfl rfl, pif_nil, (pe_cmpR op_inS (pvb 0) (pvb 1) (by with_unfolding_all rfl))⟩) rfl rfl rfl (fun _ => rfl)) pa_nil rfl) (by decide) (by decide) rfl rfl)))), ?_⟩
    walk_at "goL"
    refine ⟨a, xs, rfl, hS, ?_⟩
    walk_at "goL"
    intro D hD
    refine comp_map (fun c => V.bl (decide (c ∈ abcd.take xs.length))) (goes_str l _) hD (small hl) (fun c hc H' R s1 k1 => ?_) (fun H' s1 hy => ?_)
    · walk_at "goL"
      rw [within_one]
      exact k1 _ (Same.refl _)
    · walk_at "goL"
      refine ⟨D, l.map fun c => decide (c ∈ abcd.take xs.length), rfl, SqL.of (by rw [hy]; simp), ?_⟩
      have e : (l.map fun c => decide (c ∈ abcd.take xs.length)).all id = l.all fun c => decide (c ∈ abcd.take xs.length) := by rw [List.all_map]; rfl
      rw [e]
      exact k H' s1


def sp_check_word (K : PySem.W.Frag) : Sp := fun vs H Q _ => ∃ a xs l, vs = [.ref a, .str (S l)] ∧ SqL K H a xs ∧ WordOk xs.length l ∧ ∀ H', Same H H' → Q .non H'
theorem sc_check_word : FnScope ["die", "word"] ["die", "word"] (defScope s_check_word) := ⟨rfl, rfl, rfl, by decide +kernel, rfl, by decide +kernel, by decide +kernel⟩
theorem ok_check_word {f : Addr} {fd : FuncData} (F : Fun K "check_word" "check_word" s_check_word f fd) (M : Bl mg) (T : Cs P mg) {f_is_thrown : Addr} {fd_is_thrown : FuncData} (D_is_thrown : Df P w K mg base "is_thrown" 38 f_is_thrown fd_is_thrown ["die", "text"] (sp_is_thrown K)) : FnOk P w K mg base CX0 39 f fd ["die", "word"] (sp_check_word K) := by
  refine F.ok sc_check_word (fun vs H Q E h => ?_) (fun cdv A outer s H vs Q E hr h => ?_)
  · obtain ⟨a, xs, l, rfl, _⟩ := h; rfl
  · obtain ⟨a, xs, l, rfl, hS, hw, k⟩ := h
    have h1 := hw.lo
    have h2 := hw.hi
    refine ⟨_, (pss_cons (ps_if (PW.pt (pw_or (pt_cmpR op_lt (pe_callB call_lenS (by rfl) M.len PySem.boot_len (pa_cons (pv 1) pa_nil rfl) (by decide) (by decide) rfl rfl) pe_int (nomark _)) (pw_or1 (pt_cmpR op_gt (pe_callB call_lenS (by rfl) M.len PySem.boot_len (pa_cons (pv 1) pa_nil rfl) (by decide) (by decide) rfl rfl) (pe_gI (by rfl) T.MOST_SIGNS (by decide)) (nomark _)))))
  (pss_one ps_never)
  pss_nil)
  (pss_one (ps_if (pt_not (pt_val (pe_callD D_is_thrown hr (by rfl) (pa_cons (pv 0) (pa_cons (pv 1) pa_nil rfl) rfl) (by decide) (by decide) rfl rfl) (fun _ => rfl)))
  (pss_one ps_never)
  pss_nil))), ?_⟩
    walk_at "goL"
    refine iteFd (by omega) ?_
    walk_at "goL"
    refine iteFd (by omega) ?_
    walk_at "goL"
    refine ⟨a, xs, l, rfl, hS, by omega, fun H' s1 => ?_⟩
    have e : (l.all fun c => decide (c ∈ abcd.take xs.length)) = true := by
      rw [List.all_eq_true]
      exact fun c hc => decide_eq_true (hw.s c hc)
    rw [e]
    walk_at "goL"
    refine iteF ?_
    walk_at "goL"
    exact k H' s1


def sp_stands_within_another (K : PySem.W.Frag) : Sp := fun vs H Q _ => ∃ a ws, ∃ p : Nat, ∃ hp : p < ws.length, vs = [.ref a, .int p] ∧ SqL K H a (txs ws) ∧ ws.length ≤ 1000 ∧ ∀ H', Same H H' → Q (.bl ((others ws p).any fun o => within ws[p] o)) H'
theorem sc_stands_within_another : FnScope ["words", "place", "others"] ["words", "place"] (defScope s_stands_within_another) := ⟨rfl, rfl, rfl, by decide +kernel, rfl, by decide +kernel, by decide +kernel⟩
theorem ok_stands_within_another {f : Addr} {fd : FuncData} (F : Fun K "stands_within_another" "stands_within_another" s_stands_within_another f fd) (M : Bl mg) (T : Cs P mg)  : FnOk P w K mg base CX0 37 f fd ["words", "place"] (sp_stands_within_another K) := by
  refine F.ok sc_stands_within_another (fun vs H Q E h => ?_) (fun cdv A outer s H vs Q E hr h => ?_)
  · obtain ⟨a, ws, p, hp, rfl, _⟩ := h; rfl
  · obtain ⟨a, ws, p, hp, rfl, hS, hl, k⟩ := h
    refine ⟨_, (pss_cons (ps_set (i := 2) sc_stands_within_another.nd rfl (Or.inl rfl) (pe_op op_cat (pe_slice (sl_listK K rfl) (pv 0) po_none (po_some (pv 1))) (pe_slice (sl_listK K rfl) (pv 0) (po_some (pe_op op_add (pv 1) pe_int)) po_none)) rfl (Or.inl rfl))
  (pss_one (ps_ret (pe_callB (call_anyK K rfl rfl) (by rfl) M.any boot_any (pa_cons (pe_compD (defScope s_stands_within_another) ["words", "place", "others"] ["other", "words", "place"] [none, some 0, some 1] ⟨rfl, by decide +kernel, by decide +kernel, by decide +kernel, by decide +kernel, rfl, by decide +kernel⟩ (pi_listK K rfl (pv 2)) (fun s3 H3 C fp => ⟨pgb (i := 0) (by decide +kernel) rfl rfl, pif_nil, (pe_cmpR op_inS (pe_ix (ix_listK K rfl) (pvb 1) (pvb 2) (fun _ _ => rfl)) (pvb 0) (by with_unfolding_all rfl))⟩) rfl rfl rfl (fun _ => rfl)) pa_nil rfl) (by decide) (by decide) rfl rfl)))), ?_⟩
    walk_at "goL"
    refine ⟨a, _, rfl, hS, fun b1 n1 => ?_⟩
    rw [cutV_eq, cutL_to]
    have s1 : Same H (upd H b1 (.lst ((txs ws).take p))) := same_upd (Same.refl _) n1
    walk_at "goL"
    refine ⟨a, _, rfl, s1.seq hS, fun b2 n2 => ?_⟩
    rw [cutV_eq, show (p : Int) + 1 = ((p + 1 : Nat) : Int) by omega, cutL_from]
    have n12 : b1 ≠ b2 := ne_of_none upd_same n2
    refine ⟨b1, b2, _, _, rfl, rfl, by rw [upd_ne n12]; exact upd_same, upd_same, by rw [List.length_take, List.length_drop, txs_len]; exact small (by omega), fun b3 n3 => ?_⟩
    have s2 : Same H (upd (upd H b1 (.lst ((txs ws).take p))) b2 (.lst ((txs ws).drop (p + 1)))) := same_upd s1 (s1.free n2)
    have s3 := same_upd (o := .lst ((txs ws).take p ++ (txs ws).drop (p + 1))) s2 (s2.free n3)
    have eo : (txs ws).take p ++ (txs ws).drop (p + 1) = txs (others ws p) := by unfold others; simp [List.map_take, List.map_drop]
    walk_at "goL"
    refine ⟨⟨_, (SqL.of upd_same)⟩, ?_⟩
    intro D hD
    refine comp_map (src := others ws p) (gv := fun l => V.str (S l)) (fun l => V.bl (within ws[p] l)) (show Goes _ _ (txs (others ws p)) from by rw [← eo]; exact goes_list (SqL.of upd_same)) hD (by unfold others; rw [List.length_append, List.length_take, List.length_drop]; exact small (by omega)) (fun l hl' H' R t1 k1 => ?_) (fun H' t1 hy => ?_)
    · walk_at "goL"
      refine g_ixL (t1.seq (s3.seq hS)) (atI_nat (txs_at hp)) ?_
      walk_at "goL"
      exact k1 _ (Same.refl _)
    · walk_at "goL"
      refine ⟨D, (others ws p).map fun l => within ws[p] l, rfl, SqL.of (by rw [hy]; simp), ?_⟩
      have e : ((others ws p).map fun l => within ws[p] l).any id = (others ws p).any fun o => within ws[p] o := by rw [List.any_map]; rfl
      rw [e]
      exact k H' (s3.trans t1)

def sp_check_race (K : PySem.W.Frag) : Sp := fun vs H Q _ => ∃ d a, ∃ ns : List Int, ∃ ws, vs = [.ref d, .ref a] ∧ SqL K H d (ns.map V.int) ∧ DieOk ns ∧ SqL K H a (txs ws) ∧ RaceOk ns.length ws ∧ ∀ H', Same H H' → Q .non H'
theorem sc_check_race : FnScope ["die", "words", "word"] ["die", "words"] (defScope s_check_race) := ⟨rfl, rfl, rfl, by decide +kernel, rfl, by decide +kernel, by decide +kernel⟩
theorem ok_check_race {f : Addr} {fd : FuncData} (F : Fun K "check_race" "check_race" s_check_race f fd) (M : Bl mg) (T : Cs P mg) {f_check_die : Addr} {fd_check_die : FuncData} (D_check_die : Df P w K mg base "check_die" 37 f_check_die fd_check_die ["die"] (sp_check_die K)) {f_check_word : Addr} {fd_check_word : FuncData} (D_check_word : Df P w K mg base "check_word" 39 f_check_word fd_check_word ["die", "word"] (sp_check_word K)) {f_stands_within_another : Addr} {fd_stands_within_another : FuncData} (D_stands_within_another : Df P w K mg base "stands_within_another" 37 f_stands_within_another fd_stands_within_another ["words", "place"] (sp_stands_within_another K)) : FnOk P w K mg base CX0 40 f fd ["die", "words"] (sp_check_race K) := by
  refine F.ok sc_check_race (fun vs H Q E h => ?_) (fun cdv A outer s H vs Q E hr h => ?_)
  · obtain ⟨d, a, ns, ws, rfl, _⟩ := h; rfl
  · obtain ⟨d, a, ns, ws, rfl, hd, hdo, hS, hw, k⟩ := h
    have hl : (ns.map V.int).length = ns.length := List.length_map ..
    have q1 := hw.lo
    have q2 := hw.hi
    have hsl := txs_len ws
    refine ⟨_, (pss_cons (ps_expr (pe_callD D_check_die hr (by rfl) (pa_cons (pv 0) pa_nil rfl) (by decide) (by decide) rfl rfl) rfl)
  (pss_cons (ps_for PassesOwn.never rfl (pi_listK K rfl (pv 1)) (pg_name (i := 2) sc_check_race.nd rfl (Or.inl rfl) (Or.inl rfl))
  (pss_one (ps_expr (pe_callD D_check_word hr (by rfl) (pa_cons (pv 0) (pa_cons (pv 2) pa_nil rfl) rfl) (by decide) (by decide) rfl rfl) rfl)) (fun _ => rfl))
  (pss_cons (ps_if (PW.pt (pw_or (pt_cmpR op_lt (pe_callB (call_lenK K rfl) (by rfl) M.len PySem.boot_len (pa_cons (pv 1) pa_nil rfl) (by decide) (by decide) rfl rfl) pe_int (nomark _)) (pw_or1 (pt_cmpR op_gt (pe_callB (call_lenK K rfl) (by rfl) M.len PySem.boot_len (pa_cons (pv 1) pa_nil rfl) (by decide) (by decide) rfl rfl) (pe_gI (by rfl) T.MOST_WORDS (by decide)) (nomark _)))))
  (pss_one ps_never)
  pss_nil)
  (pss_one (ps_if (pt_val (pe_callB (call_anyK K rfl rfl) (by rfl) M.any boot_any (pa_cons (pe_compD (defScope s_check_race) ["die", "words", "word"] ["place", "words"] [none, some 1] ⟨rfl, by decide +kernel, by decide +kernel, by decide +kernel, by decide +kernel, rfl, by decide +kernel⟩ (pi_range1 (by rfl) M.range (pa_cons (pe_callB (call_lenK K rfl) (by rfl) M.len PySem.boot_len (pa_cons (pv 1) pa_nil rfl) (by decide) (by decide) rfl rfl) pa_nil rfl) rfl) (fun s3 H3 C fp => ⟨pgb (i := 0) (by decide +kernel) rfl rfl, pif_nil, (pe_callD D_stands_within_another hr (glb rfl) (pa_cons (pvb 1) (pa_cons (pvb 0) pa_nil rfl) rfl) (by decide) (by decide) rfl rfl)⟩) rfl rfl rfl (fun _ => rfl)) pa_nil rfl) (by decide) (by decide) rfl rfl) (fun _ => rfl))
  (pss_one ps_never)
  pss_nil))))), ?_⟩
    walk_at "goL"
    refine ⟨d, ns, rfl, hd, hdo, ?_⟩
    walk_at "goL"
    refine ⟨⟨_, hS⟩, ?_⟩
    let Pv0 : Nat → L2.St → Hp → Prop := (fun i σ H2 => ∃ v : Option V, Same H H2 ∧ σ = [some (.ref d), some (.ref a), v])
    refine forL (xs := txs ws) Pv0 ⟨none, Same.refl _, rfl⟩ (by rintro i σ H2 _ ⟨_, s1, _⟩; exact s1.seq hS) ?_ ?_
    · rintro i x σ H2 hi ⟨v, s1, rfl⟩
      have hlt : i < ws.length := by have := (List.getElem?_eq_some_iff.mp hi).1; omega
      rw [txs_at hlt] at hi
      obtain rfl := (Option.some.inj hi).symm
      walk_at "goL"
      refine ⟨d, _, ws[i], rfl, s1.seq hd, by rw [hl]; exact hw.w _ (List.getElem_mem hlt), fun H3 s3 => ?_⟩
      exact ⟨_, s1.trans s3, rfl⟩
    · rintro σ H2 ⟨v, s1, rfl⟩
      walk_at "goL"
      refine ⟨_, _, rfl, .inl (s1.seq hS), ?_⟩
      walk_at "goL"
      refine iteFd (by omega) ?_
      walk_at "goL"
      refine ⟨_, _, rfl, .inl (s1.seq hS), ?_⟩
      walk_at "goL"
      refine iteFd (by omega) ?_
      walk_at "goL"
      refine ⟨_, _, rfl, .inl (s1.seq hS), ?_⟩
      walk_at "goL"
      refine ⟨by omega, by omega, ?_⟩
      intro D hD
      refine comp_map (src := List.range ((txs ws).length : Int).toNat) (fun _ => V.bl false) (goes_range 0 _ _) hD (by rw [List.length_range]; exact small (by omega)) (fun j hj H' R t1 k1 => ?_) (fun H' t1 hy => ?_)
      · have hj' : j < ws.length := by have := List.mem_range.mp hj; omega
        walk_at "goL"
        refine ⟨a, ws, j, hj', by rw [show (0 : Int) + (j : Int) = (j : Int) by omega]; rfl, t1.seq (s1.seq hS), by omega, fun H3 s3 => ?_⟩
        rw [hw.not_within hj']
        exact k1 H3 s3
      · walk_at "goL"
        refine ⟨D, (List.range ((txs ws).length : Int).toNat).map fun _ => false, rfl, SqL.of (by rw [hy]; simp), ?_⟩
        have e : ((List.range ((txs ws).length : Int).toNat).map fun _ => false).any id = false := by simp
        rw [e]
        walk_at "goL"
        refine iteF ?_
        walk_at "goL"
        exact k H' (s1.trans t1)

def sp_check_many (K : PySem.W.Frag) : Sp := fun vs H Q _ => ∃ n : Int, vs = [.int n] ∧ 0 ≤ n ∧ n ≤ 60 ∧ Q .non H
theorem sc_check_many : FnScope ["many"] ["many"] (defScope s_check_many) := ⟨rfl, rfl, rfl, by decide +kernel, rfl, by decide +kernel, by decide +kernel⟩
theorem ok_check_many {f : Addr} {fd : FuncData} (F : Fun K "check_many" "check_many" s_check_many f fd) (M : Bl mg) (T : Cs P mg)  : FnOk P w K mg base CX0 37 f fd ["many"] (sp_check_many K) := by
  refine F.ok sc_check_many (fun vs H Q E h => ?_) (fun cdv A outer s H vs Q E hr h => ?_)
  · obtain ⟨n, rfl, _⟩ := h; rfl
  · obtain ⟨n, rfl, h1, h2, k⟩ := h
    refine ⟨_, (pss_one (ps_if (PW.pt (pw_or (pt_cmpR op_lt (pv 0) pe_int (nomark _)) (pw_or1 (pt_cmpR op_gt (pv 0) (pe_gI (by rfl) T.MOST_THROWS (by decide)) (nomark _)))))
  (pss_one ps_never)
  pss_nil)), ?_⟩
    walk_at "goL"
    refine iteFd (by omega) ?_
    walk_at "goL"
    refine iteFd (by omega) ?_
    walk_at "goL"
    exact k

def sp_check_manyR (K : PySem.W.Frag) (c : Nat → Addr) : Sp := fun vs H Q E => ∃ n : Int, vs = [.int n] ∧ (n < 0 ∨ 60 < n) ∧ ∀ H' ea, Same H H' → H' ea = none → E (.ref (c 3)) (some ea) H'
theorem okR_check_many {f : Addr} {fd : FuncData} (F : Fun K "check_many" "check_many" s_check_many f fd) (M : Bl mg) (T : Cs P mg) (Y : Xc K mg c)  : FnOk P w K mg base (CX1 P w) 37 f fd ["many"] (sp_check_manyR K c) := by
  refine F.okG sc_check_many (fun vs H Q E h => ?_) (fun cdv A outer s H vs Q E hr h => ?_)
  · obtain ⟨n, rfl, _⟩ := h; rfl
  · obtain ⟨n, rfl, hn, k⟩ := h
    refine ⟨_, (pss_one (ps_if (PW.pt (pw_or (pt_cmpR op_lt (pv 0) pe_int (nomark _)) (pw_or1 (pt_cmpR op_gt (pv 0) (pe_gI (by rfl) T.MOST_THROWS (by decide)) (nomark _)))))
  (pss_one (ps_raise hr.hd (Y.e 3 (by decide) Y.m3) (by rfl) (pe_strS [97, 32, 114, 111, 119, 32, 104, 97, 115, 32, 48, 32, 116, 111, 32, 54, 48, 32, 116, 104, 114, 111, 119, 115] (by decide +kernel)) rfl (by decide)))
  pss_nil)), ?_⟩
    walk_at "goL"
    refine g_ite (fun _ => ?_) (fun h1 => ?_)
    · walk_at "goL"
      exact fun ea he => k H ea (Same.refl _) he
    · walk_at "goL"
      refine iteTd (by omega) ?_
      walk_at "goL"
      exact fun ea he => k H ea (Same.refl _) he


def sp_beginnings_of (K : PySem.W.Frag) : Sp := fun vs H Q _ => ∃ a ws, ∃ n : Nat, vs = [.ref a] ∧ SqL K H a (txs ws) ∧ RaceOk n ws ∧ ∀ r bs H', Same H H' → H r = none → H' r = some (.lst (txs bs)) → BegO ws bs → Q (.ref r) H'
theorem sc_beginnings_of : FnScope ["words", "texts", "word"] ["words"] (defScope s_beginnings_of) := ⟨rfl, rfl, rfl, by decide +kernel, rfl, by decide +kernel, by decide +kernel⟩
theorem ok_beginnings_of {f : Addr} {fd : FuncData} (F : Fun K "beginnings_of" "beginnings_of" s_beginnings_of f fd) (M : Bl mg) (T : Cs P mg)  : FnOk P w K mg base CX0 37 f fd ["words"] (sp_beginnings_of K) := by
  refine F.ok sc_beginnings_of (fun vs H Q E h => ?_) (fun cdv A outer s H vs Q E hr h => ?_)
  · obtain ⟨a, ws, n, rfl, _⟩ := h; rfl
  · obtain ⟨a, ws, n, rfl, hS, hR, k⟩ := h
    have hsl := txs_len ws
    have hw4 := hR.hi
    refine ⟨_, (pss_cons (ps_set (i := 1) sc_beginnings_of.nd rfl (Or.inl rfl) (pe_lst (pa_cons (pe_strS [] (by decide +kernel)) pa_nil rfl)) rfl (Or.inl rfl))
  (pss_cons (ps_for PassesOwn.never rfl (pi_listK K rfl (pv 0)) (pg_name (i := 2) sc_beginnings_of.nd rfl (Or.inr rfl) (Or.inl rfl))
  (pss_one (ps_expr (pe_bmK K rfl PySem.F.plainAttrs_list PySem.F.slot_list_extend PySem.F.type_list_extend mt_extend (pv 1) (pa_cons (pe_compD (defScope s_beginnings_of) ["words", "texts", "word"] ["many", "word"] [none, some 2] ⟨rfl, by decide +kernel, by decide +kernel, by decide +kernel, by decide +kernel, rfl, by decide +kernel⟩ (pi_range2 (by rfl) M.range (pa_cons pe_int (pa_cons (pe_op op_add (pe_callB call_lenS (by rfl) M.len PySem.boot_len (pa_cons (pv 2) pa_nil rfl) (by decide) (by decide) rfl rfl) pe_int) pa_nil rfl) rfl) rfl rfl) (fun s3 H3 C fp => ⟨pgb (i := 0) (by decide +kernel) rfl rfl, pif_nil, (pe_slice sl_str (pvb 1) po_none (po_some (pvb 0)))⟩) rfl rfl rfl (fun _ => rfl)) pa_nil rfl) rfl rfl rfl rfl rfl) rfl)) (fun _ => rfl))
  (pss_one (ps_ret (pe_sortS K rfl (pe_callB (call_sortedT P w rfl rfl rfl) (by rfl) M.sorted boot_sorted (pa_cons (pe_callTy (call_setT K P w rfl rfl rfl rfl) (by rfl) M.set boot_set (pa_cons (pv 1) pa_nil rfl) (by decide) (by decide) rfl rfl) pa_nil rfl) (by decide) (by decide) rfl rfl) (by rfl) M.sorted (by rfl) M.len rfl))))), ?_⟩
    walk_at "goL"
    intro p0 n0
    have s0 := same_upd (o := .lst [.str (S [])]) (Same.refl H) n0
    walk_at "goL"
    refine ⟨⟨_, s0.seq hS⟩, ?_⟩
    let Pv0 : Nat → L2.St → Hp → Prop := (fun i σ H2 => ∃ y : Option V, Same H H2 ∧ H2 p0 = some (.lst (txs (begT (ws.take i)))) ∧ σ = [some (.ref a), some (.ref p0), y])
    refine forL (xs := txs ws) Pv0 ⟨none, s0, upd_same, rfl⟩ (by rintro i σ H2 _ ⟨_, e, _⟩; exact e.seq hS) ?_ ?_
    · rintro i x σ H2 hi ⟨y, s1, e1, rfl⟩
      have hlt : i < ws.length := by have := (List.getElem?_eq_some_iff.mp hi).1; omega
      rw [txs_at hlt] at hi
      obtain rfl := (Option.some.inj hi).symm
      have hwi := (hR.w _ (List.getElem_mem hlt)).hi
      walk_at "goL"
      refine ⟨_, _, rfl, by omega, ?_⟩
      rw [show ((ws[i].length : Int) + 1 - 1).toNat = ws[i].length by omega]
      intro D hD
      refine comp_map (src := List.range ws[i].length) (gv := fun (k : Nat) => V.int (1 + (k : Int))) (fun k => V.str (S (ws[i].take (k + 1)))) (goes_range 1 _ _) hD (by rw [List.length_range]; exact small (by omega)) (fun j hj H' R t1 k1 => ?_) (fun H' t1 hy => ?_)
      · walk_at "goL"
        refine g_slS (small (by omega)) ?_
        rw [show (1 : Int) + (j : Int) = ((j + 1 : Nat) : Int) by omega, cutL_to]
        exact k1 _ (Same.refl _)
      · have e2 := t1 _ _ e1
        have hb1 := begT_len (ws := ws.take i) fun l hl => hR.w l (List.mem_of_mem_take hl)
        have hlt' : (ws.take i).length ≤ 4 := by rw [List.length_take]; omega
        walk_at "goL"
        refine ⟨p0, D, _, _, rfl, rfl, e2, hy, ?_, ?_⟩
        · rw [txs_len, List.length_map, List.length_range]
          unfold begT
          rw [List.length_cons]
          exact small (by omega)
        · refine ⟨_, same_upd (s1.trans t1) n0, ?_, rfl⟩
          rw [upd_same, begT_step ws i hlt, txs, txs, List.map_append, List.map_map]
          rfl
    · rintro σ H2 ⟨y, s1, e1, rfl⟩
      rw [txs_len, List.take_length] at e1
      have hne := hR.race.ne
      have h2 := met_two hR
      have hml := metL_len (begT ws)
      have hbl : (begT ws).length ≤ 25 := by
        have := begT_len hR.w
        unfold begT
        rw [List.length_cons]
        omega
      walk_at "goL"
      refine g_sortS ?_
      walk_at "goL"
      refine ⟨p0, begT ws, rfl, SqL.of e1, by omega, fun r1 n1 => ?_⟩
      have s2 := same_upd (o := TxtO P w r1 (metL (begT ws))) (Same.refl H2) n1
      walk_at "goL"
      refine ⟨r1, metL (begT ws), rfl, upd_same, h2, by omega, fun r2 ys n2 hp2 hs2 => ?_⟩
      have s3 := same_upd (o := .lst (ys.map V.str)) (Same.refl (upd H2 r1 (TxtO P w r1 (metL (begT ws))))) n2
      have yl : ys.length = (metL (begT ws)).length := hp2.length_eq
      have ynd : ys.Nodup := hp2.nodup_iff.mpr (metL_nodup _)
      have hmem : ∀ t ∈ ys.map (fun x => x.cps.toList), t.length ≤ 6 := fun t ht => by
        obtain ⟨x, hx, rfl⟩ := List.mem_map.mp ht
        obtain ⟨u, hu, e⟩ := mem_metL.mp (hp2.mem_iff.mp hx)
        rw [← e, S_cps]
        exact hR.race.len ((begT_mem hne).mp hu)
      have tnd : (ys.map fun x => x.cps.toList).Nodup := by
        rw [List.Nodup, List.pairwise_map]
        refine ynd.imp fun {a b} h z => h ?_
        rw [← S_of a, ← S_of b, z]
      refine ⟨r2, _, rfl, by rw [← strs_back]; exact SqL.of upd_same, by rw [List.length_map]; omega, by rw [List.length_map]; omega, tnd, fun t ht => by have := hmem t ht; omega, fun r bs nr hp hs => ?_⟩
      exact k r bs _ (same_upd ((s1.trans s2).trans s3) (((s1.trans s2).trans s3).free nr)) (((s1.trans s2).trans s3).free nr) upd_same (begO_of hne hp2 ynd hs2 hp hs)


def sp_longest_at_end (K : PySem.W.Frag) : Sp := fun vs H Q _ => ∃ a bs ws row, vs = [.ref a, .str (S row)] ∧ SqL K H a (txs bs) ∧ BegL ws bs ∧ ws ≠ [] ∧ bs.length ≤ 1000 ∧ (∀ t ∈ bs, t.length ≤ 1000) ∧ ∀ H', Same H H' → Q (.str (S (stF ws row))) H'
theorem sc_longest_at_end : FnScope ["begun", "text"] ["begun", "text"] (defScope s_longest_at_end) := ⟨rfl, rfl, rfl, by decide +kernel, rfl, by decide +kernel, by decide +kernel⟩
theorem ok_longest_at_end {f : Addr} {fd : FuncData} (F : Fun K "longest_at_end" "longest_at_end" s_longest_at_end f fd) (M : Bl mg) (T : Cs P mg)  : FnOk P w K mg base CX0 37 f fd ["begun", "text"] (sp_longest_at_end K) := by
  refine F.ok sc_longest_at_end (fun vs H Q E h => ?_) (fun cdv A outer s H vs Q E hr h => ?_)
  · obtain ⟨a, bs, ws, row, rfl, _⟩ := h; rfl
  · obtain ⟨a, bs, ws, row, rfl, hS, hB, hne, hbl, hbt, k⟩ := h
    refine ⟨_, (pss_one (ps_ret (pe_maxLen K rfl rfl (pe_compD (defScope s_longest_at_end) ["begun", "text"] ["beginning", "text"] [none, some 1] ⟨rfl, by decide +kernel, by decide +kernel, by decide +kernel, by decide +kernel, rfl, by decide +kernel⟩ (pi_listK K rfl (pv 0)) (fun s3 H3 C fp => ⟨pgb (i := 0) (by decide +kernel) rfl rfl, (pif_one (pt_val (pe_bmK K rfl PySem.F.plainAttrs_str PySem.F.slot_str_endswith PySem.F.type_str_endswith mt_endswith (pvb 1) (pa_cons (pvb 0) pa_nil rfl) rfl rfl rfl rfl rfl) (fun _ => rfl))), (pvb 0)⟩) rfl rfl rfl (fun _ => rfl)) (by rfl) M.max (by rfl) M.len rfl))), ?_⟩
    walk_at "goL"
    refine g_maxLen ?_
    walk_at "goL"
    refine ⟨⟨_, hS⟩, ?_⟩
    intro D hD
    refine comp_pure (src := bs) (gv := fun l => V.str (S l)) (fun b => b.isSuffixOf row) (fun b => V.str (S b)) (goes_list hS) hD (small hbl) (fun b hb H' R t1 k1 => ?_) (fun b hb _ H' R t1 k1 => ?_) (fun H1 s1 hy => ?_)
    · walk_at "goL"
      exact k1 _ (Same.refl _)
    · walk_at "goL"
      exact k1 _ (Same.refl _)
    · refine ⟨D, bs.filter fun b => b.isSuffixOf row, rfl, SqL.of hy, ?_, fun t ht => hbt t (List.mem_filter.mp ht).1, fun t ht hm => ?_⟩
      · intro z
        have : ([] : List Nat) ∈ bs.filter fun b => b.isSuffixOf row := List.mem_filter.mpr ⟨(hB.mem _).mpr (beg_nil hne), isSuf.mpr (List.nil_suffix)⟩
        rw [z] at this
        simp at this
      · rw [st_of_max hne hB ht hm]
        exact k H1 s1


def sp_one_throw_more (K : PySem.W.Frag) : Sp := fun vs H Q _ => ∃ d a c, ∃ ns : List Int, ∃ ws m, vs = [.ref d, .ref a, .ref c] ∧ SqL K H d (ns.map V.int) ∧ DieOk ns ∧ SqL K H a (txs ws) ∧ RaceOk ns.length ws ∧ H c = some (.dK (kvC m)) ∧ CntOk ws m ∧
  ∀ r H', SameX c H H' → H' c ≠ none → H r = none → H' r = some (.dK (kvC (stepC ws ns.length m []))) → Q (.ref r) H'
theorem sc_one_throw_more : FnScope ["die", "words", "counted", "begun", "longer", "state", "number", "sign", "after"] ["die", "words", "counted"] (defScope s_one_throw_more) := ⟨rfl, rfl, rfl, by decide +kernel, rfl, by decide +kernel, by decide +kernel⟩
theorem ok_one_throw_more {f : Addr} {fd : FuncData} (F : Fun K "one_throw_more" "one_throw_more" s_one_throw_more f fd) (M : Bl mg) (T : Cs P mg) {f_beginnings_of : Addr} {fd_beginnings_of : FuncData} (D_beginnings_of : Df P w K mg base "beginnings_of" 37 f_beginnings_of fd_beginnings_of ["words"] (sp_beginnings_of K)) {f_signs_of : Addr} {fd_signs_of : FuncData} (D_signs_of : Df P w K mg base "signs_of" 37 f_signs_of fd_signs_of ["die"] (sp_signs_of K)) {f_longest_at_end : Addr} {fd_longest_at_end : FuncData} (D_longest_at_end : Df P w K mg base "longest_at_end" 37 f_longest_at_end fd_longest_at_end ["begun", "text"] (sp_longest_at_end K)) : FnOk P w K mg base CX0 38 f fd ["die", "words", "counted"] (sp_one_throw_more K) := by
  refine F.ok sc_one_throw_more (fun vs H Q E h => ?_) (fun cdv A outer s H vs Q E hr h => ?_)
  · obtain ⟨d, a, c, ns, ws, m, rfl, _⟩ := h; rfl
  · obtain ⟨d, a, c, ns, ws, m, rfl, hd, hdo, hS, hw, hc, hm, k⟩ := h
    have hl : (ns.map V.int).length = ns.length := List.length_map ..
    have hml := cnt_few hw hm
    have d4 := hdo.hi
    refine ⟨_, (pss_cons (ps_set (i := 3) sc_one_throw_more.nd rfl (Or.inl rfl) (pe_callD D_beginnings_of hr (by rfl) (pa_cons (pv 1) pa_nil rfl) (by decide) (by decide) rfl rfl) rfl (Or.inl rfl))
  (pss_cons (ps_set (i := 4) sc_one_throw_more.nd rfl (Or.inl rfl) pe_dnewK rfl (Or.inl rfl))
  (pss_cons (ps_for PassesOwn.never rfl (pi_items (pv 2) rfl rfl) (pg_tupK K rfl rfl (pgs_cons (pg_name (i := 5) sc_one_throw_more.nd rfl (Or.inl rfl) (Or.inl rfl)) (pgs_cons (pg_name (i := 6) sc_one_throw_more.nd rfl (Or.inl rfl) (Or.inl rfl)) pgs_nil rfl) rfl) rfl rfl)
  (pss_one (ps_if (pt_cmpR (op_notInK K rfl) (pv 5) (pv 1) (by with_unfolding_all rfl))
    (pss_one (ps_for PassesOwn.never rfl (pi_str (pe_callD D_signs_of hr (by rfl) (pa_cons (pv 0) pa_nil rfl) (by decide) (by decide) rfl rfl)) (pg_name (i := 7) sc_one_throw_more.nd rfl (Or.inl rfl) (Or.inl rfl))
      (pss_cons (ps_set (i := 8) sc_one_throw_more.nd rfl (Or.inl rfl) (pe_callD D_longest_at_end hr (by rfl) (pa_cons (pv 3) (pa_cons (pe_op op_addS (pv 5) (pv 7)) pa_nil rfl) rfl) (by decide) (by decide) rfl rfl) rfl (Or.inl rfl))
        (pss_one (ps_dput (hu_of hr) (pv 4) (pv 8) (pe_op op_add (pe_dget2 (hu_of hr) (pv 4) (pv 8) pe_int ⟨rfl, rfl, rfl, rfl⟩) (pv 6)) rfl))) (fun _ => rfl)))
    pss_nil)) (fun _ => rfl))
  (pss_one (ps_ret (pv 4)))))), ?_⟩
    walk_at "goL"
    refine ⟨a, ws, _, rfl, hS, hw, fun rb bs H1 s1 nrb hrb hBO => ?_⟩
    have hB := hBO.l
    have hfew := beg_few hw hB
    have ne := hw.race.ne
    walk_at "goL"
    intro lp nlp
    have s2 := same_upd (o := .dK []) (Same.refl H1) nlp
    have s12 := s1.trans s2
    have hc2 := s12 _ _ hc
    walk_at "goL"
    refine ⟨c, kvC m, rfl, hc2, fun o => ?_⟩
    have nlc : lp ≠ c := fun z => by rw [z] at nlp; rw [s1 _ _ hc] at nlp; cases nlp
    have nrc : rb ≠ c := fun z => by rw [z] at nrb; rw [hc] at nrb; cases nrb
    have nlr : rb ≠ lp := fun z => by rw [← z] at nlp; rw [hrb] at nlp; cases nlp
    have nl0 := s1.free nlp
    let Pv0 : Nat → L2.St → Hp → Prop := (fun i σ H3 => ∃ x5 x6 x7 x8 : Option V, SameX c H H3 ∧ H3 c = some (.frz o (.dK (kvC m))) ∧ H3 rb = some (.lst (txs bs)) ∧ H3 lp = some (.dK (kvC (stepC ws ns.length (m.take i) []))) ∧
      σ = [some (.ref d), some (.ref a), some (.ref c), some (.ref rb), some (.ref lp), x5, x6, x7, x8])
    refine forI (kvs := kvC m) Pv0
      ⟨none, none, none, none, SameX.updC (SameX.of s12), upd_same, by rw [upd_ne nrc]; exact s2 _ _ hrb, by rw [upd_ne nlc, upd_same]; rfl, rfl⟩ (by rintro i σ H3 _ ⟨_, _, _, _, _, e, _⟩; exact e) ?_ ?_
    · rintro i p σ H3 hi ⟨x5, x6, x7, x8, b3, c3, r3, l3, rfl⟩ t nt
      have hlt : i < m.length := by have := (List.getElem?_eq_some_iff.mp hi).1; rw [kvC_len] at this; exact this
      rw [kvC_at hlt] at hi
      obtain rfl := (Option.some.inj hi).symm
      have st := same_upd (o := .tup [V.str (S m[i].1), V.int m[i].2]) (Same.refl H3) nt
      have b4 := b3.trans st
      have hbg : Beg ws m[i].1 := hm.beg _ (List.mem_map.mpr ⟨_, List.getElem_mem hlt, rfl⟩)
      have hbl := hw.race.len hbg
      have stp := stepC_take ws ns.length m [] i hlt
      refine g_pair (SqT.of upd_same) ?_
      walk_at "goL"
      refine g_notInT (b4.seq hc hS) ?_
      walk_at "goL"
      by_cases hin : m[i].1 ∈ ws
      · refine iteF' (by simp [hin]) ?_
        walk_at "goL"
        exact ⟨_, _, x7, x8, b4, st _ _ c3, st _ _ r3, by rw [stp, if_pos hin]; exact st _ _ l3, rfl⟩
      · refine iteT' (by simp [hin]) ?_
        rw [if_neg hin] at stp
        walk_at "goL"
        refine ⟨d, _, rfl, b4.seq hc hd, ?_⟩
        walk_at "goL"
        rw [hl]
        let Pv1 : Nat → L2.St → Hp → Prop := (fun j σ H5 => ∃ x7 x8 : Option V, SameX c H H5 ∧ H5 c = some (.frz o (.dK (kvC m))) ∧ H5 rb = some (.lst (txs bs)) ∧ H5 lp = some (.dK (kvC (putS ws m[i] ((abcd.take ns.length).take j) (stepC ws ns.length (m.take i) [])))) ∧
          σ = [some (.ref d), some (.ref a), some (.ref c), some (.ref rb), some (.ref lp), some (.str (S m[i].1)), some (.int m[i].2), x7, x8])
        refine forS (l := abcd.take ns.length) Pv1
          ⟨x7, x8, b4, st _ _ c3, st _ _ r3, by rw [List.take_zero]; exact st _ _ l3, rfl⟩ ?_ ?_
        · rintro j ch σ H5 hj ⟨x7, x8, b5, c5, r5, l5, rfl⟩
          obtain ⟨hjl, rfl⟩ := List.getElem?_eq_some_iff.mp hj
          have okm := (((cnt_nil ws).step ne (G := ns.length) (l := m.take i)).putS ne (p := m[i]) (l := (abcd.take ns.length).take j))
          have ml := cnt_few hw okm
          walk_at "goL"
          refine g_addS (by rw [List.length_singleton]; exact small (by omega)) ?_
          walk_at "goL"
          refine ⟨rb, bs, ws, _, rfl, SqL.of r5, hB, ne, by omega, fun t ht => by have := hw.race.len ((hB.mem t).mp ht); omega, fun H6 s6 => ?_⟩
          have l6 := s6 _ _ l5
          walk_at "goL"
          refine ⟨.inl ⟨_, .inl l6⟩, ?_⟩
          walk_at "goL"
          refine ⟨_, dgetC (.inl l6), ?_⟩
          rw [getD_kvC]
          walk_at "goL"
          refine g_putC l6 (by omega) ?_
          refine ⟨_, _, (b5.trans s6).upd nl0, by rw [upd_ne (Ne.symm nlc)]; exact s6 _ _ c5, by rw [upd_ne nlr]; exact s6 _ _ r5, ?_, rfl⟩
          rw [upd_same, putS_take ws m[i] _ _ j hjl]
          rfl
        · rintro σ H5 ⟨x7, x8, b5, c5, r5, l5, rfl⟩
          rw [List.take_length] at l5
          exact ⟨_, _, x7, x8, b5, c5, r5, by rw [stp]; exact l5, rfl⟩
    · rintro σ H3 ⟨x5, x6, x7, x8, b3, c3, r3, l3, rfl⟩
      rw [kvC_len, List.take_length] at l3
      walk_at "goL"
      exact k lp H3 b3 (by rw [c3]; exact fun z => nomatch z) nl0 l3


def sp_rows_by_state (K : PySem.W.Frag) : Sp := fun vs H Q _ => ∃ d a, ∃ ns : List Int, ∃ ws, ∃ n : Nat, vs = [.ref d, .ref a, .int (n : Int)] ∧ SqL K H d (ns.map V.int) ∧ DieOk ns ∧ SqL K H a (txs ws) ∧ RaceOk ns.length ws ∧ n ≤ 60 ∧
  ∀ r H', Same H H' → H r = none → H' r = some (.dK (kvC (cntR ws ns.length n))) → Q (.ref r) H'
theorem sc_rows_by_state : FnScope ["die", "words", "many", "counted", "throw"] ["die", "words", "many"] (defScope s_rows_by_state) := ⟨rfl, rfl, rfl, by decide +kernel, rfl, by decide +kernel, by decide +kernel⟩
theorem ok_rows_by_state {f : Addr} {fd : FuncData} (F : Fun K "rows_by_state" "rows_by_state" s_rows_by_state f fd) (M : Bl mg) (T : Cs P mg) {f_one_throw_more : Addr} {fd_one_throw_more : FuncData} (D_one_throw_more : Df P w K mg base "one_throw_more" 38 f_one_throw_more fd_one_throw_more ["die", "words", "counted"] (sp_one_throw_more K)) : FnOk P w K mg base CX0 39 f fd ["die", "words", "many"] (sp_rows_by_state K) := by
  refine F.ok sc_rows_by_state (fun vs H Q E h => ?_) (fun cdv A outer s H vs Q E hr h => ?_)
  · obtain ⟨d, a, ns, ws, n, rfl, _⟩ := h; rfl
  · obtain ⟨d, a, ns, ws, n, rfl, hd, hdo, hS, hw, hn, k⟩ := h
    refine ⟨_, (pss_cons (ps_set (i := 3) sc_rows_by_state.nd rfl (Or.inl rfl) (pe_disp (pps_cons (pe_strS [] (by decide +kernel)) pe_int pps_nil) rfl rfl (by decide) (by decide)) rfl (Or.inl rfl))
  (pss_cons (ps_for PassesOwn.never rfl (pi_range1 (by rfl) M.range (pa_cons (pv 2) pa_nil rfl) rfl) (pg_name (i := 4) sc_rows_by_state.nd rfl (Or.inl rfl) (Or.inl rfl))
  (pss_one (ps_set (i := 3) sc_rows_by_state.nd rfl (Or.inl rfl) (pe_callD D_one_throw_more hr (by rfl) (pa_cons (pv 0) (pa_cons (pv 1) (pa_cons (pv 3) pa_nil rfl) rfl) rfl) (by decide) (by decide) rfl rfl) rfl (Or.inl rfl))) (fun _ => rfl))
  (pss_one (ps_ret (pv 3))))), ?_⟩
    walk_at "goL"
    intro p0 n0
    have s0 := same_upd (o := .dK []) (Same.refl H) n0
    walk_at "goL"
    refine ⟨upd_same, g_leaf1 ?_⟩
    rw [upd_upd]
    have s1 := same_upd (o := .dK (kvC [([], 1)])) (Same.refl H) n0
    walk_at "goL"
    refine ⟨by omega, by omega, ?_⟩
    rw [show ((n : Nat) : Int).toNat = n by omega]
    let Pv0 : Nat → L2.St → Hp → Prop := (fun i σ H2 => ∃ (c : Addr) (x : Option V), Same H H2 ∧ H c = none ∧ H2 c = some (.dK (kvC (cntR ws ns.length i))) ∧ σ = [some (.ref d), some (.ref a), some (.int (n : Int)), some (.ref c), x])
    refine forR Pv0 ⟨p0, none, s1, n0, upd_same, rfl⟩ ?_ ?_
    · rintro i σ H2 hi ⟨c, x, s2, nc, hc, rfl⟩
      walk_at "goL"
      refine ⟨d, a, c, ns, ws, _, rfl, s2.seq hd, hdo, s2.seq hS, hw, hc, cntR_ok hw.race.ne _ i, fun r H3 s3 _ nr hr => ?_⟩
      exact ⟨r, _, s3.same s2 nc, s2.free nr, hr, rfl⟩
    · rintro σ H2 ⟨c, x, s2, nc, hc, rfl⟩
      walk_at "goL"
      exact k c H2 s2 nc hc


def sp_open_rows (K : PySem.W.Frag) : Sp := fun vs H Q _ => ∃ d a, ∃ ns : List Int, ∃ ws, ∃ n : Nat, vs = [.ref d, .ref a, .int (n : Int)] ∧ SqL K H d (ns.map V.int) ∧ DieOk ns ∧ SqL K H a (txs ws) ∧ RaceOk ns.length ws ∧ n ≤ 60 ∧
  ∀ H', Same H H' → Q (.int (openC ws (cntR ws ns.length n))) H'
theorem sc_open_rows : FnScope ["die", "words", "many", "counted"] ["die", "words", "many"] (defScope s_open_rows) := ⟨rfl, rfl, rfl, by decide +kernel, rfl, by decide +kernel, by decide +kernel⟩
theorem ok_open_rows {f : Addr} {fd : FuncData} (F : Fun K "open_rows" "open_rows" s_open_rows f fd) (M : Bl mg) (T : Cs P mg) {f_check_race : Addr} {fd_check_race : FuncData} (D_check_race : Df P w K mg base "check_race" 40 f_check_race fd_check_race ["die", "words"] (sp_check_race K)) {f_check_many : Addr} {fd_check_many : FuncData} (D_check_many : Df P w K mg base "check_many" 37 f_check_many fd_check_many ["many"] (sp_check_many K)) {f_rows_by_state : Addr} {fd_rows_by_state : FuncData} (D_rows_by_state : Df P w K mg base "rows_by_state" 39 f_rows_by_state fd_rows_by_state ["die", "words", "many"] (sp_rows_by_state K)) : FnOk P w K mg base CX0 41 f fd ["die", "words", "many"] (sp_open_rows K) := by
  refine F.ok sc_open_rows (fun vs H Q E h => ?_) (fun cdv A outer s H vs Q E hr h => ?_)
  · obtain ⟨d, a, ns, ws, n, rfl, _⟩ := h; rfl
  · obtain ⟨d, a, ns, ws, n, rfl, hd, hdo, hS, hw, hn, k⟩ := h
    refine ⟨_, (pss_cons (ps_expr (pe_callD D_check_race hr (by rfl) (pa_cons (pv 0) (pa_cons (pv 1) pa_nil rfl) rfl) (by decide) (by decide) rfl rfl) rfl)
  (pss_cons (ps_expr (pe_callD D_check_many hr (by rfl) (pa_cons (pv 2) pa_nil rfl) (by decide) (by decide) rfl rfl) rfl)
  (pss_cons (ps_set (i := 3) sc_open_rows.nd rfl (Or.inl rfl) (pe_callD D_rows_by_state hr (by rfl) (pa_cons (pv 0) (pa_cons (pv 1) (pa_cons (pv 2) pa_nil rfl) rfl) rfl) (by decide) (by decide) rfl rfl) rfl (Or.inl rfl))
  (pss_one (ps_ret (pe_callB (call_sumK K rfl rfl) (by rfl) M.sum boot_sum (pa_cons (pe_compD (defScope s_open_rows) ["die", "words", "many", "counted"] ["state", "number", "words"] [none, none, some 1] ⟨rfl, by decide +kernel, by decide +kernel, by decide +kernel, by decide +kernel, rfl, by decide +kernel⟩ (pi_items (pv 3) rfl rfl) (fun s3 H3 C fp => ⟨pg_tupK K (n := 2) rfl rfl (pgs_cons (pgb (i := 0) (by decide +kernel) rfl rfl) (pgs_cons (pgb (i := 1) (by decide +kernel) rfl rfl) pgs_nil rfl) rfl) rfl rfl, (pif_one (pt_cmpR (op_notInK K rfl) (pvb 0) (pvb 2) (by with_unfolding_all rfl))), (pvb 1)⟩) rfl rfl rfl (fun _ => rfl)) pa_nil rfl) (by decide) (by decide) rfl rfl)))))), ?_⟩
    walk_at "goL"
    refine ⟨d, a, ns, ws, rfl, hd, hdo, hS, hw, fun H1 s1 => ?_⟩
    walk_at "goL"
    refine ⟨n, rfl, by omega, by omega, ?_⟩
    walk_at "goL"
    refine ⟨d, a, ns, ws, n, rfl, s1.seq hd, hdo, s1.seq hS, hw, hn, fun c H2 s2 nc hc => ?_⟩
    have ok := cntR_ok hw.race.ne ns.length n
    have ml := cnt_few hw ok
    have s12 := s1.trans s2
    have nc0 := s1.free nc
    walk_at "goL"
    refine ⟨c, kvC (cntR ws ns.length n), rfl, hc, fun o => ?_⟩
    have x3 : SameX c H (upd H2 c (.frz o (.dK (kvC (cntR ws ns.length n))))) := SameX.updC (SameX.of s12)
    have s3 : Same H (upd H2 c (.frz o (.dK (kvC (cntR ws ns.length n))))) := x3.same (Same.refl H) nc0
    intro D hD
    refine comp_pureP K (src := cntR ws ns.length n) (gv := fun p => (V.str (S p.1), V.int p.2)) (fun p => !decide (p.1 ∈ ws)) (fun p => V.int p.2) (by have g := goes_items (d := c) (o := o) (kvs := kvC (cntR ws ns.length n)) (H1 := upd H2 c (.frz o (.dK (kvC (cntR ws ns.length n))))) upd_same; rw [List.map_map] at g; exact g) hD (small (by omega)) (fun p hp H' R t1 k1 => ?_) (fun p hp _ H' R t1 k1 => ?_) (fun H' t1 hy => ?_)
    · walk_at "goL"
      refine g_notInT ((s3.trans t1).seq hS) ?_
      exact ⟨_, rfl, k1 _ (Same.refl _)⟩
    · walk_at "goL"
      exact k1 _ (Same.refl _)
    · walk_at "goL"
      refine ⟨D, ((cntR ws ns.length n).filter fun p => !decide (p.1 ∈ ws)).map (·.2), rfl, SqL.of (by rw [hy, List.map_map]; rfl), ?_⟩
      exact k H' (s3.trans t1)

def sp_open_rowsR (K : PySem.W.Frag) (c : Nat → Addr) : Sp := fun vs H Q E => ∃ d a, ∃ ns : List Int, ∃ ws, ∃ n : Int, vs = [.ref d, .ref a, .int n] ∧ SqL K H d (ns.map V.int) ∧ DieOk ns ∧ SqL K H a (txs ws) ∧ RaceOk ns.length ws ∧ (n < 0 ∨ 60 < n) ∧ ∀ H' ea, Same H H' → H' ea = none → E (.ref (c 3)) (some ea) H'
theorem okR_open_rows {f : Addr} {fd : FuncData} (F : Fun K "open_rows" "open_rows" s_open_rows f fd) (M : Bl mg) (T : Cs P mg) (Y : Xc K mg c) {f_check_race : Addr} {fd_check_race : FuncData} (D_check_race : Df P w K mg base "check_race" 40 f_check_race fd_check_race ["die", "words"] (sp_check_race K)) {f_check_many : Addr} {fd_check_many : FuncData} (R_check_many : DfX P w K mg base "check_many" 37 f_check_many fd_check_many ["many"] (sp_check_manyR K c)) : FnOk P w K mg base (CX1 P w) 41 f fd ["die", "words", "many"] (sp_open_rowsR K c) := by
  refine F.okG sc_open_rows (fun vs H Q E h => ?_) (fun cdv A outer s H vs Q E hr h => ?_)
  · obtain ⟨d, a, ns, ws, n, rfl, _⟩ := h; rfl
  · obtain ⟨d, a, ns, ws, n, rfl, hd, hdo, hS, hw, hn, k⟩ := h
    refine ⟨_, (pss_cons (ps_expr (pe_callD D_check_race hr (by rfl) (pa_cons (pv 0) (pa_cons (pv 1) pa_nil rfl) rfl) (by decide) (by decide) rfl rfl) rfl)
  (pss_cons (ps_expr (pe_callX pass1 R_check_many hr (by rfl) (pa_cons (pv 2) pa_nil rfl) (by decide) (by decide) rfl rfl) rfl)
  pss_never)), ?_⟩
    walk_at "goL"
    refine ⟨d, a, ns, ws, rfl, hd, hdo, hS, hw, fun H1 s1 => ?_⟩
    walk_at "goL"
    exact ⟨n, rfl, hn, fun H' ea s2 he => k H' ea (s1.trans s2) he⟩


def kindB (j : Nat) : List Bool := [j == 0, j == 1, j == 2, j == 3, j == 4, j == 5, j == 6]
theorem kindB_n : ∀ j, j < 7 → (kindB j).countP id = 1 := by decide
theorem kindB_j : ∀ j, j < 7 → (kindB j)[j]? = some true := by decide
theorem kindB_m : ∀ j, j < 7 → ∀ m, m < j → (kindB j)[m]? = some false := by decide
theorem kindT_at : ∀ j, j < 7 → (List.map (fun l => V.str (S l)) [[100, 105, 101], [119, 111, 114, 100], [114, 97, 99, 101], [114, 111, 119], [111, 118, 101, 114], [109, 97, 110, 121], [110, 111, 116, 101]])[j]? = some (.str (S (kindT j))) := fun j hj => by
  rw [List.getElem?_map, List.getElem?_eq_getElem hj]
  unfold kindT
  rw [List.getD_eq_getElem?_getD, List.getElem?_eq_getElem hj]
  rfl
def sp_law_kind (K : PySem.W.Frag) (c : Nat → Addr) : Sp := fun vs H Q _ => ∃ ea j, vs = [.ref ea] ∧ j < 7 ∧ H ea = some (EO ea (c j)) ∧ ∀ H', Same H H' → Q (.str (S (kindT j))) H'
theorem sc_law_kind : FnScope ["e", "kinds"] ["e"] (defScope s_law_kind) := ⟨rfl, rfl, rfl, by decide +kernel, rfl, by decide +kernel, by decide +kernel⟩
theorem okM_law_kind {f : Addr} {fd : FuncData} (F : Fun K "_law_kind" "_law_kind" s_law_kind f fd) (M : Bl mg) (T : Cs P mg) (Y : Xc K mg c)  : FnOkM P w K mg base 37 f fd ["e"] (sp_law_kind K c) := by
  refine F.okM sc_law_kind (fun vs H Q E h => ?_) (fun cdv A outer s H vs Q E hr h => ?_)
  · obtain ⟨ea, j, rfl, _⟩ := h; rfl
  · obtain ⟨ea, j, rfl, hj, hE, k⟩ := h
    refine ⟨_, (pss_cons (ps_set (i := 1) sc_law_kind.nd rfl (Or.inl rfl) (pe_lst (pa_cons (pe_callB (call_isX K rfl) (by rfl) M.isinstance boot_isinstance (pa_cons (pv 0) (pa_cons (pe_glob (v := .ref (c 0)) (by rfl) Y.m0 rfl (by decide)) pa_nil rfl) rfl) (by decide) (by decide) rfl rfl) (pa_cons (pe_callB (call_isX K rfl) (by rfl) M.isinstance boot_isinstance (pa_cons (pv 0) (pa_cons (pe_glob (v := .ref (c 1)) (by rfl) Y.m1 rfl (by decide)) pa_nil rfl) rfl) (by decide) (by decide) rfl rfl) (pa_cons (pe_callB (call_isX K rfl) (by rfl) M.isinstance boot_isinstance (pa_cons (pv 0) (pa_cons (pe_glob (v := .ref (c 2)) (by rfl) Y.m2 rfl (by decide)) pa_nil rfl) rfl) (by decide) (by decide) rfl rfl) (pa_cons (pe_callB (call_isX K rfl) (by rfl) M.isinstance boot_isinstance (pa_cons (pv 0) (pa_cons (pe_glob (v := .ref (c 3)) (by rfl) Y.m3 rfl (by decide)) pa_nil rfl) rfl) (by decide) (by decide) rfl rfl) pa_nil rfl) rfl) rfl) rfl)) rfl (Or.inl rfl))
  (pss_cons (ps_set (i := 1) sc_law_kind.nd rfl (Or.inl rfl) (pe_op op_cat (pv 1) (pe_lst (pa_cons (pe_callB (call_isX K rfl) (by rfl) M.isinstance boot_isinstance (pa_cons (pv 0) (pa_cons (pe_glob (v := .ref (c 4)) (by rfl) Y.m4 rfl (by decide)) pa_nil rfl) rfl) (by decide) (by decide) rfl rfl) (pa_cons (pe_callB (call_isX K rfl) (by rfl) M.isinstance boot_isinstance (pa_cons (pv 0) (pa_cons (pe_glob (v := .ref (c 5)) (by rfl) Y.m5 rfl (by decide)) pa_nil rfl) rfl) (by decide) (by decide) rfl rfl) (pa_cons (pe_callB (call_isX K rfl) (by rfl) M.isinstance boot_isinstance (pa_cons (pv 0) (pa_cons (pe_glob (v := .ref (c 6)) (by rfl) Y.m6 rfl (by decide)) pa_nil rfl) rfl) (by decide) (by decide) rfl rfl) pa_nil rfl) rfl) rfl))) rfl (Or.inl rfl))
  (pss_cons (ps_if (PW.pt (pw_or (pt_not (pt_val (pe_callB (call_isX K rfl) (by rfl) M.isinstance boot_isinstance (pa_cons (pv 0) (pa_cons (pe_bltn (v := .ty "ValueError") (by rfl) M.ValueError boot_ValueError rfl (by decide) (by decide)) pa_nil rfl) rfl) (by decide) (by decide) rfl rfl) (fun _ => rfl))) (pw_or1 (pt_cmpR op_ne (pe_bmK K rfl PySem.F.plainAttrs_list PySem.F.slot_list_count PySem.F.type_list_count (mt_countB K rfl) (pv 1) (pa_cons pe_bl pa_nil rfl) rfl rfl rfl rfl rfl) pe_int (nomark _)))))
  (pss_one (ps_ret (pe_strS [111, 116, 104, 101, 114] (by decide +kernel))))
  pss_nil)
  (pss_one (ps_ret (pe_ix (ix_listK K rfl) (pe_lst (pa_cons (pe_strS [100, 105, 101] (by decide +kernel)) (pa_cons (pe_strS [119, 111, 114, 100] (by decide +kernel)) (pa_cons (pe_strS [114, 97, 99, 101] (by decide +kernel)) (pa_cons (pe_strS [114, 111, 119] (by decide +kernel)) (pa_cons (pe_strS [111, 118, 101, 114] (by decide +kernel)) (pa_cons (pe_strS [109, 97, 110, 121] (by decide +kernel)) (pa_cons (pe_strS [110, 111, 116, 101] (by decide +kernel)) pa_nil rfl) rfl) rfl) rfl) rfl) rfl) rfl)) (pe_bmK K rfl PySem.F.plainAttrs_list PySem.F.slot_list_index PySem.F.type_list_index (mt_indexB K rfl) (pv 1) (pa_cons pe_bl pa_nil rfl) rfl rfl rfl rfl rfl) (fun _ _ => rfl))))))), ?_⟩
    walk_at "goL"
    refine g_isX Y hE hj (by decide) ?_
    walk_at "goL"
    refine g_isX Y hE hj (by decide) ?_
    walk_at "goL"
    refine g_isX Y hE hj (by decide) ?_
    walk_at "goL"
    refine g_isX Y hE hj (by decide) ?_
    walk_at "goL"
    intro p hp
    have s1 : Same H (upd H p (.lst [.bl (j == 0), .bl (j == 1), .bl (j == 2), .bl (j == 3)])) := same_upd (Same.refl _) hp
    have hE1 := s1 _ _ hE
    have e1 : upd H p (.lst [.bl (j == 0), .bl (j == 1), .bl (j == 2), .bl (j == 3)]) p = some (.lst [.bl (j == 0), .bl (j == 1), .bl (j == 2), .bl (j == 3)]) := upd_same
    revert s1 hE1 e1
    generalize upd H p (.lst [.bl (j == 0), .bl (j == 1), .bl (j == 2), .bl (j == 3)]) = H1
    intro s1 hE1 e1
    walk_at "goL"
    refine g_isX Y hE1 hj (by decide) ?_
    walk_at "goL"
    refine g_isX Y hE1 hj (by decide) ?_
    walk_at "goL"
    refine g_isX Y hE1 hj (by decide) ?_
    walk_at "goL"
    intro p2 hp2
    have s2 : Same H1 (upd H1 p2 (.lst [.bl (j == 4), .bl (j == 5), .bl (j == 6)])) := same_upd (Same.refl _) hp2
    refine ⟨p, p2, _, _, rfl, rfl, s2 _ _ e1, upd_same, (show 4 + 3 ≤ sizeLine by rw [sizeLine_eq]; decide), fun p3 hp3 => ?_⟩
    have s3 : Same H (upd (upd H1 p2 (.lst [.bl (j == 4), .bl (j == 5), .bl (j == 6)])) p3 (.lst ((kindB j).map V.bl))) := (s1.trans s2).trans (same_upd (Same.refl _) hp3)
    have hE3 := s3 _ _ hE
    have e3 : upd (upd H1 p2 (.lst [.bl (j == 4), .bl (j == 5), .bl (j == 6)])) p3 (.lst ((kindB j).map V.bl)) p3 = some (.lst ((kindB j).map V.bl)) := upd_same
    show gName 1 _ _ (upd (upd H1 p2 (.lst [.bl (j == 4), .bl (j == 5), .bl (j == 6)])) p3 (.lst ((kindB j).map V.bl))) _
    revert s3 hE3 e3
    generalize upd (upd H1 p2 (.lst [.bl (j == 4), .bl (j == 5), .bl (j == 6)])) p3 (.lst ((kindB j).map V.bl)) = H3
    intro s3 hE3 e3
    walk_at "goL"
    refine g_isV Y hE3 hj ?_
    walk_at "goL"
    refine iteF ?_
    walk_at "goL"
    refine ⟨p3, kindB j, rfl, rfl, SqL.of e3, ?_⟩
    rw [kindB_n j hj]
    walk_at "goL"
    refine iteF ?_
    walk_at "goL"
    intro p4 hp4
    have s4 : Same H3 (upd H3 p4 (.lst (List.map (fun l => V.str (S l)) [[100, 105, 101], [119, 111, 114, 100], [114, 97, 99, 101], [114, 111, 119], [111, 118, 101, 114], [109, 97, 110, 121], [110, 111, 116, 101]]))) := same_upd (Same.refl _) hp4
    walk_at "goL"
    refine g_tyL (SqL.of (s4 _ _ e3)) ?_
    walk_at "goL"
    refine ⟨p3, j, kindB j, rfl, rfl, SqL.of (s4 _ _ e3), kindB_j j hj, kindB_m j hj, ?_⟩
    refine g_ixL (SqL.of (xs := List.map (fun l => V.str (S l)) [[100, 105, 101], [119, 111, 114, 100], [114, 97, 99, 101], [114, 111, 119], [111, 118, 101, 114], [109, 97, 110, 121], [110, 111, 116, 101]]) upd_same) (atI_nat (kindT_at j hj)) ?_
    exact k _ (s3.trans s4)


def sp_ended_rows (K : PySem.W.Frag) : Sp := fun vs H Q _ => ∃ d a, ∃ ns : List Int, ∃ ws, ∃ n : Nat, vs = [.ref d, .ref a, .int (n : Int)] ∧ SqL K H d (ns.map V.int) ∧ DieOk ns ∧ SqL K H a (txs ws) ∧ RaceOk ns.length ws ∧ n ≤ 60 ∧
  ∀ r H', Same H H' → H r = none → H' r = some (.lst ((endC ws (cntR ws ns.length n)).map V.int)) → Q (.ref r) H'
theorem sc_ended_rows : FnScope ["die", "words", "many", "counted"] ["die", "words", "many"] (defScope s_ended_rows) := ⟨rfl, rfl, rfl, by decide +kernel, rfl, by decide +kernel, by decide +kernel⟩
theorem ok_ended_rows {f : Addr} {fd : FuncData} (F : Fun K "ended_rows" "ended_rows" s_ended_rows f fd) (M : Bl mg) (T : Cs P mg) {f_check_race : Addr} {fd_check_race : FuncData} (D_check_race : Df P w K mg base "check_race" 40 f_check_race fd_check_race ["die", "words"] (sp_check_race K)) {f_check_many : Addr} {fd_check_many : FuncData} (D_check_many : Df P w K mg base "check_many" 37 f_check_many fd_check_many ["many"] (sp_check_many K)) {f_rows_by_state : Addr} {fd_rows_by_state : FuncData} (D_rows_by_state : Df P w K mg base "rows_by_state" 39 f_rows_by_state fd_rows_by_state ["die", "words", "many"] (sp_rows_by_state K)) : FnOk P w K mg base CX0 41 f fd ["die", "words", "many"] (sp_ended_rows K) := by
  refine F.ok sc_ended_rows (fun vs H Q E h => ?_) (fun cdv A outer s H vs Q E hr h => ?_)
  · obtain ⟨d, a, ns, ws, n, rfl, _⟩ := h; rfl
  · obtain ⟨d, a, ns, ws, n, rfl, hd, hdo, hS, hw, hn, k⟩ := h
    have hw4 := hw.hi
    refine ⟨_, (pss_cons (ps_expr (pe_callD D_check_race hr (by rfl) (pa_cons (pv 0) (pa_cons (pv 1) pa_nil rfl) rfl) (by decide) (by decide) rfl rfl) rfl)
  (pss_cons (ps_expr (pe_callD D_check_many hr (by rfl) (pa_cons (pv 2) pa_nil rfl) (by decide) (by decide) rfl rfl) rfl)
  (pss_cons (ps_set (i := 3) sc_ended_rows.nd rfl (Or.inr rfl) (pe_callD D_rows_by_state hr (by rfl) (pa_cons (pv 0) (pa_cons (pv 1) (pa_cons (pv 2) pa_nil rfl) rfl) rfl) (by decide) (by decide) rfl rfl) rfl (Or.inl rfl))
  (pss_one (ps_ret (pe_compD (defScope s_ended_rows) ["die", "words", "many", "counted"] ["word", "counted"] [none, some 3] ⟨rfl, by decide +kernel, by decide +kernel, by decide +kernel, by decide +kernel, rfl, by decide +kernel⟩ (pi_listK K rfl (pv 1)) (fun s3 H3 C fp => ⟨pgb (i := 0) (by decide +kernel) rfl rfl, pif_nil, (pe_dget2 (hu_of hr) (pvb 1) (pvb 0) pe_int ⟨rfl, rfl, rfl, rfl⟩)⟩) rfl rfl rfl (fun _ => rfl))))))), ?_⟩
    walk_at "goL"
    refine ⟨d, a, ns, ws, rfl, hd, hdo, hS, hw, fun H1 s1 => ?_⟩
    walk_at "goL"
    refine ⟨n, rfl, by omega, by omega, ?_⟩
    walk_at "goL"
    refine ⟨d, a, ns, ws, n, rfl, s1.seq hd, hdo, s1.seq hS, hw, hn, fun c H2 s2 nc hc => ?_⟩
    have s12 := s1.trans s2
    walk_at "goL"
    refine ⟨⟨_, s12.seq hS⟩, ?_⟩
    intro D hD
    refine comp_map (src := ws) (gv := fun l => V.str (S l)) (fun l => V.int (cget (cntR ws ns.length n) l)) (goes_list (s12.seq hS)) hD (small (by omega)) (fun l hl' H' R t1 k1 => ?_) (fun H' t1 hy => ?_)
    · have hc' := t1 _ _ hc
      walk_at "goL"
      refine ⟨.inl ⟨_, .inl hc'⟩, ?_⟩
      walk_at "goL"
      refine ⟨_, dgetC (.inl hc'), ?_⟩
      rw [getD_kvC]
      exact k1 _ (Same.refl _)
    · refine k D H' (s12.trans t1) (s12.free hD) ?_
      rw [hy]
      unfold endC
      rw [List.map_map]
      rfl

def sp_ended_rowsR (K : PySem.W.Frag) (c : Nat → Addr) : Sp := fun vs H Q E => ∃ d a, ∃ ns : List Int, ∃ ws, ∃ n : Int, vs = [.ref d, .ref a, .int n] ∧ SqL K H d (ns.map V.int) ∧ DieOk ns ∧ SqL K H a (txs ws) ∧ RaceOk ns.length ws ∧ (n < 0 ∨ 60 < n) ∧ ∀ H' ea, Same H H' → H' ea = none → E (.ref (c 3)) (some ea) H'
theorem okR_ended_rows {f : Addr} {fd : FuncData} (F : Fun K "ended_rows" "ended_rows" s_ended_rows f fd) (M : Bl mg) (T : Cs P mg) (Y : Xc K mg c) {f_check_race : Addr} {fd_check_race : FuncData} (D_check_race : Df P w K mg base "check_race" 40 f_check_race fd_check_race ["die", "words"] (sp_check_race K)) {f_check_many : Addr} {fd_check_many : FuncData} (R_check_many : DfX P w K mg base "check_many" 37 f_check_many fd_check_many ["many"] (sp_check_manyR K c)) : FnOk P w K mg base (CX1 P w) 41 f fd ["die", "words", "many"] (sp_ended_rowsR K c) := by
  refine F.okG sc_ended_rows (fun vs H Q E h => ?_) (fun cdv A outer s H vs Q E hr h => ?_)
  · obtain ⟨d, a, ns, ws, n, rfl, _⟩ := h; rfl
  · obtain ⟨d, a, ns, ws, n, rfl, hd, hdo, hS, hw, hn, k⟩ := h
    refine ⟨_, (pss_cons (ps_expr (pe_callD D_check_race hr (by rfl) (pa_cons (pv 0) (pa_cons (pv 1) pa_nil rfl) rfl) (by decide) (by decide) rfl rfl) rfl)
  (pss_cons (ps_expr (pe_callX pass1 R_check_many hr (by rfl) (pa_cons (pv 2) pa_nil rfl) (by decide) (by decide) rfl rfl) rfl)
  pss_never)), ?_⟩
    walk_at "goL"
    refine ⟨d, a, ns, ws, rfl, hd, hdo, hS, hw, fun H1 s1 => ?_⟩
    walk_at "goL"
    exact ⟨n, rfl, hn, fun H' ea s2 he => k H' ea (s1.trans s2) he⟩


def sp_check_row (K : PySem.W.Frag) : Sp := fun vs H Q _ => ∃ a xs l, vs = [.ref a, .str (S l)] ∧ SqL K H a xs ∧ l.length ≤ 60 ∧ (∀ c ∈ l, c ∈ abcd.take xs.length) ∧ ∀ H', Same H H' → Q .non H'
theorem sc_check_row : FnScope ["die", "row"] ["die", "row"] (defScope s_check_row) := ⟨rfl, rfl, rfl, by decide +kernel, rfl, by decide +kernel, by decide +kernel⟩
theorem ok_check_row {f : Addr} {fd : FuncData} (F : Fun K "check_row" "check_row" s_check_row f fd) (M : Bl mg) (T : Cs P mg) {f_is_thrown : Addr} {fd_is_thrown : FuncData} (D_is_thrown : Df P w K mg base "is_thrown" 38 f_is_thrown fd_is_thrown ["die", "text"] (sp_is_thrown K)) : FnOk P w K mg base CX0 39 f fd ["die", "row"] (sp_check_row K) := by
  refine F.ok sc_check_row (fun vs H Q E h => ?_) (fun cdv A outer s H vs Q E hr h => ?_)
  · obtain ⟨a, xs, l, rfl, _⟩ := h; rfl
  · obtain ⟨a, xs, l, rfl, hS, hl, hc, k⟩ := h
    refine ⟨_, (pss_cons (ps_if (pt_cmpR op_gt (pe_callB call_lenS (by rfl) M.len PySem.boot_len (pa_cons (pv 1) pa_nil rfl) (by decide) (by decide) rfl rfl) (pe_gI (by rfl) T.MOST_THROWS (by decide)) (nomark _))
  (pss_one ps_never)
  pss_nil)
  (pss_one (ps_if (pt_not (pt_val (pe_callD D_is_thrown hr (by rfl) (pa_cons (pv 0) (pa_cons (pv 1) pa_nil rfl) rfl) (by decide) (by decide) rfl rfl) (fun _ => rfl)))
  (pss_one ps_never)
  pss_nil))), ?_⟩
    walk_at "goL"
    refine iteFd (by omega) ?_
    walk_at "goL"
    refine ⟨a, xs, l, rfl, hS, by omega, fun H' s1 => ?_⟩
    have e : (l.all fun c => decide (c ∈ abcd.take xs.length)) = true := by
      rw [List.all_eq_true]
      exact fun c hc' => decide_eq_true (hc c hc')
    rw [e]
    walk_at "goL"
    refine iteF ?_
    walk_at "goL"
    exact k H' s1
def sp_check_rowR (K : PySem.W.Frag) (c : Nat → Addr) : Sp := fun vs H Q E => ∃ a xs l, vs = [.ref a, .str (S l)] ∧ SqL K H a xs ∧ l.length ≤ 1000 ∧ ¬ RowOk xs.length l ∧ ∀ H' ea, Same H H' → H' ea = none → E (.ref (c 3)) (some ea) H'
theorem okR_check_row {f : Addr} {fd : FuncData} (F : Fun K "check_row" "check_row" s_check_row f fd) (M : Bl mg) (T : Cs P mg) (Y : Xc K mg c) {f_is_thrown : Addr} {fd_is_thrown : FuncData} (D_is_thrown : Df P w K mg base "is_thrown" 38 f_is_thrown fd_is_thrown ["die", "text"] (sp_is_thrown K)) : FnOk P w K mg base (CX1 P w) 39 f fd ["die", "row"] (sp_check_rowR K c) := by
  refine F.okG sc_check_row (fun vs H Q E h => ?_) (fun cdv A outer s H vs Q E hr h => ?_)
  · obtain ⟨a, xs, l, rfl, _⟩ := h; rfl
  · obtain ⟨a, xs, l, rfl, hS, hl, hw, k⟩ := h
    by_cases h60 : l.length ≤ 60
    · refine ⟨_, (pss_cons (ps_if (pt_cmpR op_gt (pe_callB call_lenS (by rfl) M.len PySem.boot_len (pa_cons (pv 1) pa_nil rfl) (by decide) (by decide) rfl rfl) (pe_gI (by rfl) T.MOST_THROWS (by decide)) (nomark _))
  (pss_one ps_never)
  pss_nil)
  (pss_one (ps_if (pt_not (pt_val (pe_callD D_is_thrown hr (by rfl) (pa_cons (pv 0) (pa_cons (pv 1) pa_nil rfl) rfl) (by decide) (by decide) rfl rfl) (fun _ => rfl)))
  (pss_one (ps_raise hr.hd (Y.e 3 (by decide) Y.m3) (by rfl) (pe_strS [97, 32, 114, 111, 119, 32, 104, 97, 115, 32, 115, 105, 103, 110, 115, 32, 111, 102, 32, 105, 116, 115, 32, 100, 105, 101, 32, 97, 108, 111, 110, 101] (by decide +kernel)) rfl (by decide)))
  pss_nil))), ?_⟩
      walk_at "goL"
      refine iteFd (by omega) ?_
      walk_at "goL"
      refine ⟨a, xs, l, rfl, hS, by omega, fun H' s1 => ?_⟩
      have e : (l.all fun c => decide (c ∈ abcd.take xs.length)) = false := by
        refine Bool.eq_false_iff.mpr fun z => hw ⟨h60, fun x hx => ?_⟩
        rw [List.all_eq_true] at z
        exact of_decide_eq_true (z x hx)
      rw [e]
      walk_at "goL"
      refine iteT ?_
      walk_at "goL"
      exact fun ea he => k H' ea s1 he
    · refine ⟨_, (pss_cons (ps_if (pt_cmpR op_gt (pe_callB call_lenS (by rfl) M.len PySem.boot_len (pa_cons (pv 1) pa_nil rfl) (by decide) (by decide) rfl rfl) (pe_gI (by rfl) T.MOST_THROWS (by decide)) (nomark _))
  (pss_one (ps_raise hr.hd (Y.e 3 (by decide) Y.m3) (by rfl) (pe_strS [97, 32, 114, 111, 119, 32, 104, 97, 115, 32, 97, 116, 32, 109, 111, 115, 116, 32, 54, 48, 32, 115, 105, 103, 110, 115] (by decide +kernel)) rfl (by decide)))
  pss_nil)
  pss_never), ?_⟩
      walk_at "goL"
      refine iteTd (by omega) ?_
      walk_at "goL"
      exact fun ea he => k H ea (Same.refl _) he


def sp_state_of (K : PySem.W.Frag) : Sp := fun vs H Q _ => ∃ d a, ∃ ns : List Int, ∃ ws row, vs = [.ref d, .ref a, .str (S row)] ∧ SqL K H d (ns.map V.int) ∧ DieOk ns ∧ SqL K H a (txs ws) ∧ RaceOk ns.length ws ∧ RowOk ns.length row ∧ ∀ H', Same H H' → Q (.str (S (stF ws row))) H'
theorem sc_state_of : FnScope ["die", "words", "row"] ["die", "words", "row"] (defScope s_state_of) := ⟨rfl, rfl, rfl, by decide +kernel, rfl, by decide +kernel, by decide +kernel⟩
theorem ok_state_of {f : Addr} {fd : FuncData} (F : Fun K "state_of" "state_of" s_state_of f fd) (M : Bl mg) (T : Cs P mg) {f_check_race : Addr} {fd_check_race : FuncData} (D_check_race : Df P w K mg base "check_race" 40 f_check_race fd_check_race ["die", "words"] (sp_check_race K)) {f_check_row : Addr} {fd_check_row : FuncData} (D_check_row : Df P w K mg base "check_row" 39 f_check_row fd_check_row ["die", "row"] (sp_check_row K)) {f_longest_at_end : Addr} {fd_longest_at_end : FuncData} (D_longest_at_end : Df P w K mg base "longest_at_end" 37 f_longest_at_end fd_longest_at_end ["begun", "text"] (sp_longest_at_end K)) {f_beginnings_of : Addr} {fd_beginnings_of : FuncData} (D_beginnings_of : Df P w K mg base "beginnings_of" 37 f_beginnings_of fd_beginnings_of ["words"] (sp_beginnings_of K)) : FnOk P w K mg base CX0 41 f fd ["die", "words", "row"] (sp_state_of K) := by
  refine F.ok sc_state_of (fun vs H Q E h => ?_) (fun cdv A outer s H vs Q E hr h => ?_)
  · obtain ⟨d, a, ns, ws, row, rfl, _⟩ := h; rfl
  · obtain ⟨d, a, ns, ws, row, rfl, hd, hdo, hS, hw, hro, k⟩ := h
    have hl : (ns.map V.int).length = ns.length := List.length_map ..
    refine ⟨_, (pss_cons (ps_expr (pe_callD D_check_race hr (by rfl) (pa_cons (pv 0) (pa_cons (pv 1) pa_nil rfl) rfl) (by decide) (by decide) rfl rfl) rfl)
  (pss_cons (ps_expr (pe_callD D_check_row hr (by rfl) (pa_cons (pv 0) (pa_cons (pv 2) pa_nil rfl) rfl) (by decide) (by decide) rfl rfl) rfl)
  (pss_one (ps_ret (pe_callD D_longest_at_end hr (by rfl) (pa_cons (pe_callD D_beginnings_of hr (by rfl) (pa_cons (pv 1) pa_nil rfl) (by decide) (by decide) rfl rfl) (pa_cons (pv 2) pa_nil rfl) rfl) (by decide) (by decide) rfl rfl))))), ?_⟩
    walk_at "goL"
    refine ⟨d, a, ns, ws, rfl, hd, hdo, hS, hw, fun H1 s1 => ?_⟩
    walk_at "goL"
    refine ⟨d, _, row, rfl, s1.seq hd, hro.hi, by rw [hl]; exact hro.s, fun H2 s2 => ?_⟩
    walk_at "goL"
    refine ⟨a, ws, _, rfl, (s1.trans s2).seq hS, hw, fun r bs H3 s3 nr hr3 hBO => ?_⟩
    have hB := hBO.l
    have hfew := beg_few hw hB
    walk_at "goL"
    refine ⟨r, bs, ws, row, rfl, SqL.of hr3, hB, hw.race.ne, by omega, fun t ht => by have := hw.race.len ((hB.mem t).mp ht); omega, fun H4 s4 => ?_⟩
    exact k H4 (((s1.trans s2).trans s3).trans s4)

def sp_state_ofR (K : PySem.W.Frag) (c : Nat → Addr) : Sp := fun vs H Q E => ∃ d a, ∃ ns : List Int, ∃ ws row, vs = [.ref d, .ref a, .str (S row)] ∧ SqL K H d (ns.map V.int) ∧ DieOk ns ∧ SqL K H a (txs ws) ∧ RaceOk ns.length ws ∧ row.length ≤ 1000 ∧ ¬ RowOk ns.length row ∧ ∀ H' ea, Same H H' → H' ea = none → E (.ref (c 3)) (some ea) H'
theorem okR_state_of {f : Addr} {fd : FuncData} (F : Fun K "state_of" "state_of" s_state_of f fd) (M : Bl mg) (T : Cs P mg) (Y : Xc K mg c) {f_check_race : Addr} {fd_check_race : FuncData} (D_check_race : Df P w K mg base "check_race" 40 f_check_race fd_check_race ["die", "words"] (sp_check_race K)) {f_check_row : Addr} {fd_check_row : FuncData} (R_check_row : DfX P w K mg base "check_row" 39 f_check_row fd_check_row ["die", "row"] (sp_check_rowR K c)) : FnOk P w K mg base (CX1 P w) 41 f fd ["die", "words", "row"] (sp_state_ofR K c) := by
  refine F.okG sc_state_of (fun vs H Q E h => ?_) (fun cdv A outer s H vs Q E hr h => ?_)
  · obtain ⟨d, a, ns, ws, row, rfl, _⟩ := h; rfl
  · obtain ⟨d, a, ns, ws, row, rfl, hd, hdo, hS, hw, hl, hb, k⟩ := h
    have hm : (ns.map V.int).length = ns.length := List.length_map ..
    refine ⟨_, (pss_cons (ps_expr (pe_callD D_check_race hr (by rfl) (pa_cons (pv 0) (pa_cons (pv 1) pa_nil rfl) rfl) (by decide) (by decide) rfl rfl) rfl)
  (pss_cons (ps_expr (pe_callX pass1 R_check_row hr (by rfl) (pa_cons (pv 0) (pa_cons (pv 2) pa_nil rfl) rfl) (by decide) (by decide) rfl rfl) rfl)
  pss_never)), ?_⟩
    walk_at "goL"
    refine ⟨d, a, ns, ws, rfl, hd, hdo, hS, hw, fun H1 s1 => ?_⟩
    walk_at "goL"
    exact ⟨d, _, row, rfl, s1.seq hd, hl, by rw [hm]; exact hb, fun H' ea s2 he => k H' ea (s1.trans s2) he⟩


def sp_ended (K : PySem.W.Frag) : Sp := fun vs H Q _ => ∃ d a, ∃ ns : List Int, ∃ ws row, vs = [.ref d, .ref a, .str (S row)] ∧ SqL K H d (ns.map V.int) ∧ DieOk ns ∧ SqL K H a (txs ws) ∧ RaceOk ns.length ws ∧ RowOk ns.length row ∧ ∀ v H', Same H H' → EndV (endedF ws row) v H' → Q v H'
theorem sc_ended : FnScope ["die", "words", "row", "throws", "place", "word"] ["die", "words", "row"] (defScope s_ended) := ⟨rfl, rfl, rfl, by decide +kernel, rfl, by decide +kernel, by decide +kernel⟩
theorem ok_ended {f : Addr} {fd : FuncData} (F : Fun K "ended" "ended" s_ended f fd) (M : Bl mg) (T : Cs P mg) {f_check_race : Addr} {fd_check_race : FuncData} (D_check_race : Df P w K mg base "check_race" 40 f_check_race fd_check_race ["die", "words"] (sp_check_race K)) {f_check_row : Addr} {fd_check_row : FuncData} (D_check_row : Df P w K mg base "check_row" 39 f_check_row fd_check_row ["die", "row"] (sp_check_row K)) : FnOk P w K mg base CX0 41 f fd ["die", "words", "row"] (sp_ended K) := by
  refine F.ok sc_ended (fun vs H Q E h => ?_) (fun cdv A outer s H vs Q E hr h => ?_)
  · obtain ⟨d, a, ns, ws, row, rfl, _⟩ := h; rfl
  · obtain ⟨d, a, ns, ws, row, rfl, hd, hdo, hS, hw, hro, k⟩ := h
    have hl : (ns.map V.int).length = ns.length := List.length_map ..
    have hr60 := hro.hi
    have hsl := txs_len ws
    refine ⟨_, (pss_cons (ps_expr (pe_callD D_check_race hr (by rfl) (pa_cons (pv 0) (pa_cons (pv 1) pa_nil rfl) rfl) (by decide) (by decide) rfl rfl) rfl)
  (pss_cons (ps_expr (pe_callD D_check_row hr (by rfl) (pa_cons (pv 0) (pa_cons (pv 2) pa_nil rfl) rfl) (by decide) (by decide) rfl rfl) rfl)
  (pss_cons (ps_for PassesOwn.never rfl (pi_range2 (by rfl) M.range (pa_cons pe_int (pa_cons (pe_op op_add (pe_callB call_lenS (by rfl) M.len PySem.boot_len (pa_cons (pv 2) pa_nil rfl) (by decide) (by decide) rfl rfl) pe_int) pa_nil rfl) rfl) rfl rfl) (pg_name (i := 3) sc_ended.nd rfl (Or.inl rfl) (Or.inl rfl))
  (pss_one (ps_for PassesOwn.never rfl (pi_enum K rfl (by rfl) M.enumerate (pa_cons (pv 1) pa_nil rfl) rfl) (pg_tupK K rfl rfl (pgs_cons (pg_name (i := 4) sc_ended.nd rfl (Or.inl rfl) (Or.inl rfl)) (pgs_cons (pg_name (i := 5) sc_ended.nd rfl (Or.inl rfl) (Or.inl rfl)) pgs_nil rfl) rfl) rfl rfl)
    (pss_one (ps_if (pt_val (pe_bmK K rfl PySem.F.plainAttrs_str PySem.F.slot_str_endswith PySem.F.type_str_endswith mt_endswith (pe_slice sl_str (pv 2) po_none (po_some (pv 3))) (pa_cons (pv 5) pa_nil rfl) rfl rfl rfl rfl rfl) (fun _ => rfl))
      (pss_one (ps_ret (pe_tup (pa_cons (pv 3) (pa_cons (pv 4) pa_nil rfl) rfl))))
      pss_nil)) (fun _ => rfl))) (fun _ => rfl))
  (pss_one (ps_ret pe_non))))), ?_⟩
    walk_at "go"
    refine ⟨d, a, ns, ws, rfl, hd, hdo, hS, hw, fun H1 s1 => ?_⟩
    walk_at "go"
    refine ⟨d, _, row, rfl, s1.seq hd, hr60, by rw [hl]; exact hro.s, fun H2 s2 => ?_⟩
    walk_at "go"
    refine ⟨_, _, rfl, by omega, ?_⟩
    rw [show ((row.length : Int) + 1 - 1).toNat = row.length by omega]
    refine forR (fun i σ H3 => ∃ x y z : Option V, Same H H3 ∧ σ = [some (.ref d), some (.ref a), some (.str (S row)), x, y, z] ∧ ∀ t, t < i → endAt ws row t = none) ⟨none, none, none, s1.trans s2, rfl, by omega⟩ ?_ ?_
    · rintro i σ H3 hi ⟨x, y, z, s3, rfl, hno⟩
      walk_at "go"
      refine ⟨⟨_, s3.seq hS⟩, ?_⟩
      refine forE (xs := txs ws) (fun j σ H4 => ∃ y z : Option V, Same H H4 ∧ σ = [some (.ref d), some (.ref a), some (.str (S row)), some (.int (1 + i)), y, z] ∧ ∀ q (hq : q < ws.length), q < j → ws[q].isSuffixOf (row.take (i + 1)) = false) ⟨y, z, s3, rfl, by omega⟩ (fun j σ H4 _ ⟨_, _, s4, _⟩ => s4.seq hS) ?_ ?_
      · rintro j xj σ H4 hj ⟨y, z, s4, rfl, hq⟩ t ht
        have hjl : j < ws.length := by have := (List.getElem?_eq_some_iff.mp hj).1; omega
        rw [txs_at hjl] at hj
        obtain rfl := (Option.some.inj hj).symm
        have hwj := (hw.w _ (List.getElem_mem hjl)).hi
        refine g_pair (.inl (.inl upd_same)) ?_
        walk_at "go"
        refine g_slS (small (by omega)) ?_
        rw [show (1 : Int) + (i : Int) = ((i + 1 : Nat) : Int) by omega, cutL_to]
        walk_at "go"
        cases e : ws[j].isSuffixOf (row.take (i + 1)) with
        | true =>
          refine iteT ?_
          walk_at "go"
          intro p hp
          refine k _ _ (same_upd (same_upd s4 (s4.free ht)) ((same_upd s4 (s4.free ht)).free hp)) ?_
          rw [endedF_some hi hno (endAt_some hjl hq e)]
          refine ⟨p, rfl, ?_⟩
          rw [upd_same]
        | false =>
          refine iteF ?_
          walk_at "go"
          refine ⟨_, _, same_upd s4 (s4.free ht), by rw [show ((i + 1 : Nat) : Int) = 1 + (i : Int) by omega]; rfl, fun q hql hqj => ?_⟩
          by_cases hqq : q < j
          · exact hq q hql hqq
          · have : q = j := by omega
            subst this; exact e
      · rintro σ H4 ⟨y, z, s4, rfl, hq⟩
        refine ⟨_, _, _, s4, rfl, fun t ht => ?_⟩
        by_cases htt : t < i
        · exact hno t htt
        · have : t = i := by omega
          subst this
          exact endAt_none fun p hp => hq p hp (by omega)
    · rintro σ H3 ⟨x, y, z, s3, rfl, hno⟩
      walk_at "go"
      exact k _ _ s3 (by rw [endedF_none hno]; rfl)
def sp_endedR (K : PySem.W.Frag) (c : Nat → Addr) : Sp := fun vs H Q E => ∃ d a, ∃ ns : List Int, ∃ ws row, vs = [.ref d, .ref a, .str (S row)] ∧ SqL K H d (ns.map V.int) ∧ DieOk ns ∧ SqL K H a (txs ws) ∧ RaceOk ns.length ws ∧ row.length ≤ 1000 ∧ ¬ RowOk ns.length row ∧ ∀ H' ea, Same H H' → H' ea = none → E (.ref (c 3)) (some ea) H'
theorem okR_ended {f : Addr} {fd : FuncData} (F : Fun K "ended" "ended" s_ended f fd) (M : Bl mg) (T : Cs P mg) (Y : Xc K mg c) {f_check_race : Addr} {fd_check_race : FuncData} (D_check_race : Df P w K mg base "check_race" 40 f_check_race fd_check_race ["die", "words"] (sp_check_race K)) {f_check_row : Addr} {fd_check_row : FuncData} (R_check_row : DfX P w K mg base "check_row" 39 f_check_row fd_check_row ["die", "row"] (sp_check_rowR K c)) : FnOk P w K mg base (CX1 P w) 41 f fd ["die", "words", "row"] (sp_endedR K c) := by
  refine F.okG sc_ended (fun vs H Q E h => ?_) (fun cdv A outer s H vs Q E hr h => ?_)
  · obtain ⟨d, a, ns, ws, row, rfl, _⟩ := h; rfl
  · obtain ⟨d, a, ns, ws, row, rfl, hd, hdo, hS, hw, hl, hb, k⟩ := h
    have hm : (ns.map V.int).length = ns.length := List.length_map ..
    refine ⟨_, (pss_cons (ps_expr (pe_callD D_check_race hr (by rfl) (pa_cons (pv 0) (pa_cons (pv 1) pa_nil rfl) rfl) (by decide) (by decide) rfl rfl) rfl)
  (pss_cons (ps_expr (pe_callX pass1 R_check_row hr (by rfl) (pa_cons (pv 0) (pa_cons (pv 2) pa_nil rfl) rfl) (by decide) (by decide) rfl rfl) rfl)
  pss_never)), ?_⟩
    walk_at "go"
    refine ⟨d, a, ns, ws, rfl, hd, hdo, hS, hw, fun H1 s1 => ?_⟩
    walk_at "go"
    exact ⟨d, _, row, rfl, s1.seq hd, hl, by rw [hm]; exact hb, fun H' ea s2 he => k H' ea (s1.trans s2) he⟩


def sp_state_of_open (K : PySem.W.Frag) : Sp := fun vs H Q _ => ∃ d a, ∃ ns : List Int, ∃ ws row, vs = [.ref d, .ref a, .str (S row)] ∧ SqL K H d (ns.map V.int) ∧ DieOk ns ∧ SqL K H a (txs ws) ∧ RaceOk ns.length ws ∧ RowOk ns.length row ∧ endedF ws row = none ∧ ∀ H', Same H H' → Q (.str (S (stF ws row))) H'
theorem sc_state_of_open : FnScope ["die", "words", "row", "state"] ["die", "words", "row"] (defScope s_state_of_open) := ⟨rfl, rfl, rfl, by decide +kernel, rfl, by decide +kernel, by decide +kernel⟩
theorem ok_state_of_open {f : Addr} {fd : FuncData} (F : Fun K "state_of_open" "state_of_open" s_state_of_open f fd) (M : Bl mg) (T : Cs P mg) {f_state_of : Addr} {fd_state_of : FuncData} (D_state_of : Df P w K mg base "state_of" 41 f_state_of fd_state_of ["die", "words", "row"] (sp_state_of K)) {f_ended : Addr} {fd_ended : FuncData} (D_ended : Df P w K mg base "ended" 41 f_ended fd_ended ["die", "words", "row"] (sp_ended K)) : FnOk P w K mg base CX0 42 f fd ["die", "words", "row"] (sp_state_of_open K) := by
  refine F.ok sc_state_of_open (fun vs H Q E h => ?_) (fun cdv A outer s H vs Q E hr h => ?_)
  · obtain ⟨d, a, ns, ws, row, rfl, _⟩ := h; rfl
  · obtain ⟨d, a, ns, ws, row, rfl, hd, hdo, hS, hw, hro, hop, k⟩ := h
    refine ⟨_, (pss_cons (ps_set (i := 3) sc_state_of_open.nd rfl (Or.inl rfl) (pe_callD D_state_of hr (by rfl) (pa_cons (pv 0) (pa_cons (pv 1) (pa_cons (pv 2) pa_nil rfl) rfl) rfl) (by decide) (by decide) rfl rfl) rfl (Or.inl rfl))
  (pss_cons (ps_if (pt_cmpR op_notN (pe_callD D_ended hr (by rfl) (pa_cons (pv 0) (pa_cons (pv 1) (pa_cons (pv 2) pa_nil rfl) rfl) rfl) (by decide) (by decide) rfl rfl) pe_non (nomark _))
  (pss_one ps_never)
  pss_nil)
  (pss_one (ps_ret (pv 3))))), ?_⟩
    walk_at "goL"
    refine ⟨d, a, ns, ws, row, rfl, hd, hdo, hS, hw, hro, fun H1 s1 => ?_⟩
    walk_at "goL"
    refine ⟨d, a, ns, ws, row, rfl, s1.seq hd, hdo, s1.seq hS, hw, hro, fun v H2 s2 he => ?_⟩
    rw [hop] at he
    obtain rfl : v = .non := he
    walk_at "goL"
    refine iteNS rfl ?_
    walk_at "goL"
    exact k H2 (s1.trans s2)

/-- no row, or one that is over: the class's number -/
def RowBad (n : Nat) (ws : List (List Nat)) (row : List Nat) (j : Nat) : Prop := row.length ≤ 1000 ∧ ((j = 3 ∧ ¬ RowOk n row) ∨ (j = 4 ∧ RowOk n row ∧ endedF ws row ≠ none))
def sp_state_of_openR (K : PySem.W.Frag) (c : Nat → Addr) : Sp := fun vs H Q E => ∃ d a, ∃ ns : List Int, ∃ ws row j, vs = [.ref d, .ref a, .str (S row)] ∧ SqL K H d (ns.map V.int) ∧ DieOk ns ∧ SqL K H a (txs ws) ∧ RaceOk ns.length ws ∧ RowBad ns.length ws row j ∧ ∀ H' ea, Same H H' → H' ea = none → E (.ref (c j)) (some ea) H'
theorem okR_state_of_open {f : Addr} {fd : FuncData} (F : Fun K "state_of_open" "state_of_open" s_state_of_open f fd) (M : Bl mg) (T : Cs P mg) (Y : Xc K mg c) {f_state_of : Addr} {fd_state_of : FuncData} (D_state_of : Df P w K mg base "state_of" 41 f_state_of fd_state_of ["die", "words", "row"] (sp_state_of K)) (R_state_of : DfX P w K mg base "state_of" 41 f_state_of fd_state_of ["die", "words", "row"] (sp_state_ofR K c)) {f_ended : Addr} {fd_ended : FuncData} (D_ended : Df P w K mg base "ended" 41 f_ended fd_ended ["die", "words", "row"] (sp_ended K)) : FnOk P w K mg base (CX1 P w) 42 f fd ["die", "words", "row"] (sp_state_of_openR K c) := by
  refine F.okG sc_state_of_open (fun vs H Q E h => ?_) (fun cdv A outer s H vs Q E hr h => ?_)
  · obtain ⟨d, a, ns, ws, row, j, rfl, _⟩ := h; rfl
  · obtain ⟨d, a, ns, ws, row, j, rfl, hd, hdo, hS, hw, ⟨hl, hb⟩, k⟩ := h
    rcases hb with ⟨rfl, hb⟩ | ⟨rfl, hro, hov⟩
    · refine ⟨_, (pss_cons (ps_set (i := 3) sc_state_of_open.nd rfl (Or.inl rfl) (pe_callX pass1 R_state_of hr (by rfl) (pa_cons (pv 0) (pa_cons (pv 1) (pa_cons (pv 2) pa_nil rfl) rfl) rfl) (by decide) (by decide) rfl rfl) rfl (Or.inl rfl))
  pss_never), ?_⟩
      walk_at "goL"
      exact ⟨d, a, ns, ws, row, rfl, hd, hdo, hS, hw, hl, hb, k⟩
    · refine ⟨_, (pss_cons (ps_set (i := 3) sc_state_of_open.nd rfl (Or.inl rfl) (pe_callD D_state_of hr (by rfl) (pa_cons (pv 0) (pa_cons (pv 1) (pa_cons (pv 2) pa_nil rfl) rfl) rfl) (by decide) (by decide) rfl rfl) rfl (Or.inl rfl))
  (pss_cons (ps_if (pt_cmpR op_notN (pe_callD D_ended hr (by rfl) (pa_cons (pv 0) (pa_cons (pv 1) (pa_cons (pv 2) pa_nil rfl) rfl) rfl) (by decide) (by decide) rfl rfl) pe_non (nomark _))
  (pss_one (ps_raise hr.hd (Y.e 4 (by decide) Y.m4) (by rfl) (pe_strS [97, 32, 114, 111, 119, 32, 116, 104, 97, 116, 32, 104, 111, 108, 100, 115, 32, 97, 32, 119, 111, 114, 100, 32, 105, 115, 32, 110, 111, 116, 32, 111, 112, 101, 110] (by decide +kernel)) rfl (by decide)))
  pss_nil)
  pss_never)), ?_⟩
      walk_at "goL"
      refine ⟨d, a, ns, ws, row, rfl, hd, hdo, hS, hw, hro, fun H1 s1 => ?_⟩
      walk_at "goL"
      refine ⟨d, a, ns, ws, row, rfl, s1.seq hd, hdo, s1.seq hS, hw, hro, fun v H2 s2 he => ?_⟩
      obtain ⟨⟨t, p⟩, ee⟩ := Option.ne_none_iff_exists'.mp hov
      rw [ee] at he
      obtain ⟨ra, rfl, _⟩ := he
      walk_at "goL"
      refine g_iteN (fun _ => ?_) (fun z => by cases z)
      walk_at "goL"
      exact fun ea he => k H2 ea (s1.trans s2) he


theorem abcd_lo : ∀ c ∈ abcd, c < 128 := by decide
theorem eqFold_take {ws bs : List Tx} {s : Tx} {r : List Int} {ps : List (Nat × Int)} {i : Nat} (h : i < ps.length) : eqFold ws bs s (ps.take (i + 1)) r =
    (eqFold ws bs s (ps.take i) r).set (bs.idxOf (stF ws (s ++ [ps[i].1]))) ((eqFold ws bs s (ps.take i) r).getD (bs.idxOf (stF ws (s ++ [ps[i].1]))) 0 - ps[i].2) := by
  unfold eqFold
  rw [List.take_succ_eq_append_getElem h, List.foldl_append]
  rfl
theorem ints_at {l : List Int} {j : Nat} (h : j < l.length) : atI (l.map V.int) (j : Int) = some (.int (l.getD j 0)) := by
  unfold atI
  rw [ixN_nat (by rw [List.length_map]; exact h)]
  show (l.map V.int)[j]? = _
  rw [List.getElem?_map, List.getElem?_eq_getElem h, List.getD_eq_getElem?_getD, List.getElem?_eq_getElem h]
  rfl
def sp_equation_of (K : PySem.W.Frag) : Sp := fun vs H Q _ => ∃ d b, ∃ ns : List Int, ∃ ws bs t, vs = [.ref d, .ref b, .str (S t)] ∧ SqL K H d (ns.map V.int) ∧ DieOk ns ∧ SqL K H b (txs bs) ∧ RaceOk ns.length ws ∧ BegL ws bs ∧ Beg ws t ∧ ∀ r H', Same H H' → H r = none → H' r = some (.lst ((eqRow ns ws bs t).map V.int)) → Q (.ref r) H'
theorem sc_equation_of : FnScope ["die", "begun", "state", "numbers", "sign", "weight", "place"] ["die", "begun", "state"] (defScope s_equation_of) := ⟨rfl, rfl, rfl, by decide +kernel, rfl, by decide +kernel, by decide +kernel⟩
theorem ok_equation_of {f : Addr} {fd : FuncData} (F : Fun K "equation_of" "equation_of" s_equation_of f fd) (M : Bl mg) (T : Cs P mg) {f_signs_of : Addr} {fd_signs_of : FuncData} (D_signs_of : Df P w K mg base "signs_of" 37 f_signs_of fd_signs_of ["die"] (sp_signs_of K)) {f_longest_at_end : Addr} {fd_longest_at_end : FuncData} (D_longest_at_end : Df P w K mg base "longest_at_end" 37 f_longest_at_end fd_longest_at_end ["begun", "text"] (sp_longest_at_end K)) : FnOk P w K mg base CX0 38 f fd ["die", "begun", "state"] (sp_equation_of K) := by
  refine F.ok sc_equation_of (fun vs H Q E h => ?_) (fun cdv A outer s H vs Q E hr h => ?_)
  · obtain ⟨d, b, ns, ws, bs, t, rfl, _⟩ := h; rfl
  · obtain ⟨d, b, ns, ws, bs, t, rfl, hd, hdo, hb, hw, hB, ht, k⟩ := h
    have hl : (ns.map V.int).length = ns.length := List.length_map ..
    have hfew := beg_few hw hB
    have ne := hw.race.ne
    have d4 := hdo.hi
    have htb := (hB.mem t).mpr ht
    have t6 := hw.race.len ht
    have hpl : (abcd.take ns.length).length = ns.length := by rw [List.length_take]; show min ns.length 4 = _; omega
    have hps : (prs ns).length = ns.length := by unfold prs; rw [List.length_zip, hpl, Nat.min_self]
    refine ⟨_, (pss_cons (ps_setCD (defScope s_equation_of) ["die", "begun", "state", "numbers", "sign", "weight", "place"] ["beginning"] [none] (pg_name (i := 3) sc_equation_of.nd rfl (Or.inl rfl) (Or.inl rfl)) ⟨rfl, by decide +kernel, by decide +kernel, by decide +kernel, by decide +kernel, rfl, by decide +kernel⟩ (pi_listK K rfl (pv 1)) (fun s3 H3 C fp => ⟨pgb (i := 0) (by decide +kernel) rfl rfl, pif_nil, pe_int⟩) rfl rfl rfl rfl (fun _ => rfl))
  (pss_cons (ps_asg (pe_callB (call_sumK K rfl rfl) (by rfl) M.sum boot_sum (pa_cons (pv 0) pa_nil rfl) (by decide) (by decide) rfl rfl) (pg_sub (pv 3) (pe_bmK K rfl PySem.F.plainAttrs_list PySem.F.slot_list_index PySem.F.type_list_index (mt_indexL K rfl) (pv 1) (pa_cons (pv 2) pa_nil rfl) rfl rfl rfl rfl rfl) set_list (fun _ => rfl)))
  (pss_cons (ps_for PassesOwn.never rfl (pi_zipS K rfl (by rfl) M.zip (pa_cons (pe_callD D_signs_of hr (by rfl) (pa_cons (pv 0) pa_nil rfl) (by decide) (by decide) rfl rfl) (pa_cons (pv 0) pa_nil rfl) rfl) rfl) (pg_tupK K rfl rfl (pgs_cons (pg_name (i := 4) sc_equation_of.nd rfl (Or.inl rfl) (Or.inl rfl)) (pgs_cons (pg_name (i := 5) sc_equation_of.nd rfl (Or.inl rfl) (Or.inl rfl)) pgs_nil rfl) rfl) rfl rfl)
  (pss_cons (ps_set (i := 6) sc_equation_of.nd rfl (Or.inl rfl) (pe_bmK K rfl PySem.F.plainAttrs_list PySem.F.slot_list_index PySem.F.type_list_index (mt_indexL K rfl) (pv 1) (pa_cons (pe_callD D_longest_at_end hr (by rfl) (pa_cons (pv 1) (pa_cons (pe_op op_addS (pv 2) (pv 4)) pa_nil rfl) rfl) (by decide) (by decide) rfl rfl) pa_nil rfl) rfl rfl rfl rfl rfl) rfl (Or.inl rfl))
    (pss_one (ps_asg (pe_op op_sub (pe_ix (ix_listK K rfl) (pv 3) (pv 6) (fun _ _ => rfl)) (pv 5)) (pg_sub (pv 3) (pv 6) set_list (fun _ => rfl))))) (fun _ => rfl))
  (pss_one (ps_ret (pe_op op_cat (pv 3) (pe_lst (pa_cons (pe_un un_neg (pe_callB (call_sumK K rfl rfl) (by rfl) M.sum boot_sum (pa_cons (pv 0) pa_nil rfl) (by decide) (by decide) rfl rfl)) pa_nil rfl)))))))), ?_⟩
    walk_at "goL"
    refine ⟨⟨_, hb⟩, ?_⟩
    intro y hy
    refine comp_map (src := bs) (gv := fun l => V.str (S l)) (fun _ => V.int 0) (goes_list hb) hy (small (by omega)) (fun j hj H' R t1 k1 => ?_) (fun H1 s1 hy1 => ?_)
    · walk_at "goL"
      exact k1 _ (Same.refl _)
    · have e0 : bs.map (fun _ => V.int 0) = (List.replicate bs.length (0 : Int)).map V.int := by
        rw [List.map_replicate]
        exact List.eq_replicate_iff.mpr ⟨by simp, fun x hx => by obtain ⟨_, _, z⟩ := List.mem_map.mp hx; exact z.symm⟩
      rw [e0] at hy1
      walk_at "goL"
      refine ⟨d, ns, rfl, s1.seq hd, ?_⟩
      walk_at "goL"
      refine g_tyL (s1.seq hb) ?_
      walk_at "goL"
      refine g_idxL (s1.seq hb) htb ?_
      refine g_setL hy1 (ixN_nat (by rw [List.length_map, List.length_replicate]; exact idx_lt htb)) ?_
      rw [← List.map_set]
      have s2 := same_upd (o := .lst (((List.replicate bs.length (0 : Int)).set (bs.idxOf t) ns.sum).map V.int)) s1 hy
      walk_at "goL"
      refine ⟨d, _, rfl, s2.seq hd, ?_⟩
      rw [hl]
      walk_at "goL"
      refine ⟨_, d, _, rfl, s2.seq hd, by rw [hl, hpl], List.all_eq_true.mpr fun c hc => decide_eq_true (abcd_lo c (List.mem_of_mem_take hc)), ?_⟩
      let Pv0 : Nat → L2.St → Hp → Prop := (fun i σ H2 => ∃ x5 x6 x7 : Option V, Same H H2 ∧ H2 y = some (.lst ((eqFold ws bs t ((prs ns).take i) ((List.replicate bs.length 0).set (bs.idxOf t) ns.sum)).map V.int)) ∧
        σ = [some (.ref d), some (.ref b), some (.str (S t)), some (.ref y), x5, x6, x7])
      refine forZ (xs := ns.map V.int) (by rw [hl, hpl]) Pv0 ⟨none, none, none, s2, upd_same, rfl⟩ (by rintro i σ H2 _ ⟨_, _, _, e, _⟩; exact e.seq hd) ?_ ?_
      · rintro i c x σ H2 hc hx ⟨x5, x6, x7, s3, e3, rfl⟩ tt ntt
        rw [List.getElem?_map] at hx
        obtain ⟨hil, rfl⟩ := List.getElem?_eq_some_iff.mp hc
        have hin : i < ns.length := by omega
        rw [List.getElem?_eq_getElem hin] at hx
        obtain rfl := (Option.some.inj hx).symm
        have st := same_upd (o := .tup [V.str (S [(abcd.take ns.length)[i]]), V.int ns[i]]) (Same.refl H2) ntt
        have s4 := s3.trans st
        have e4 := st _ _ e3
        have hpi : i < (prs ns).length := by omega
        have ep : (prs ns)[i] = ((abcd.take ns.length)[i], ns[i]) := by simp [prs]
        have stp := eqFold_take (ws := ws) (bs := bs) (s := t) (r := (List.replicate bs.length 0).set (bs.idxOf t) ns.sum) hpi
        rw [ep] at stp
        have hbe := (hB.mem _).mpr (stF_beg ne (t ++ [(abcd.take ns.length)[i]]))
        have lf : (eqFold ws bs t ((prs ns).take i) ((List.replicate bs.length 0).set (bs.idxOf t) ns.sum)).length = bs.length := by rw [eqFold_len, List.length_set, List.length_replicate]
        have lt5 : bs.idxOf (stF ws (t ++ [(abcd.take ns.length)[i]])) < (eqFold ws bs t ((prs ns).take i) ((List.replicate bs.length 0).set (bs.idxOf t) ns.sum)).length := by rw [lf]; exact idx_lt hbe
        refine g_pair (SqT.of upd_same) ?_
        walk_at "goL"
        refine g_tyL (s4.seq hb) ?_
        walk_at "goL"
        refine g_addS (by rw [List.length_singleton]; exact small (by omega)) ?_
        walk_at "goL"
        refine ⟨b, bs, ws, _, rfl, s4.seq hb, hB, ne, by omega, fun u hu => by have := hw.race.len ((hB.mem u).mp hu); omega, fun H5 s5 => ?_⟩
        have s05 := s4.trans s5
        have e5 := s5 _ _ e4
        walk_at "goL"
        refine g_idxL (s05.seq hb) hbe ?_
        walk_at "goL"
        refine g_ixL (SqL.of e5) (ints_at lt5) ?_
        walk_at "goL"
        refine g_setL e5 (ixN_nat (by rw [List.length_map]; exact lt5)) ?_
        rw [← List.map_set]
        exact ⟨_, _, _, same_upd s05 hy, by rw [upd_same, stp], rfl⟩
      · rintro σ H2 ⟨x5, x6, x7, s3, e3, rfl⟩
        rw [hpl, ← hps, List.take_length] at e3
        walk_at "goL"
        refine ⟨d, ns, rfl, s3.seq hd, ?_⟩
        walk_at "goL"
        intro q nq
        have sq := same_upd (o := .lst [V.int (-ns.sum)]) (Same.refl H2) nq
        refine ⟨y, q, _, _, rfl, rfl, sq _ _ e3, upd_same, ?_, fun r nr => ?_⟩
        · rw [List.length_map, eqFold_len, List.length_set, List.length_replicate]
          exact small (by show bs.length + 1 ≤ _; omega)
        · refine k r _ (same_upd (s3.trans sq) ((s3.trans sq).free nr)) ((s3.trans sq).free nr) ?_
          rw [upd_same]
          unfold eqRow
          rw [List.map_append]
          rfl


def sp_common_factor (K : PySem.W.Frag) : Sp := fun vs H Q _ => ∃ a, ∃ ns : List Int, vs = [.ref a] ∧ SqL K H a (ns.map V.int) ∧ Q (.int ((gcdL ns : Nat) : Int)) H
theorem sc_common_factor : FnScope ["numbers", "factor", "number", "rest", "smaller"] ["numbers"] (defScope s_common_factor) := ⟨rfl, rfl, rfl, by decide +kernel, rfl, by decide +kernel, by decide +kernel⟩
theorem ok_common_factor {f : Addr} {fd : FuncData} (F : Fun K "common_factor" "common_factor" s_common_factor f fd) (M : Bl mg) (T : Cs P mg)  : FnOk P w K mg base CX0 37 f fd ["numbers"] (sp_common_factor K) := by
  refine F.ok sc_common_factor (fun vs H Q E h => ?_) (fun cdv A outer s H vs Q E hr h => ?_)
  · obtain ⟨a, ns, rfl, _⟩ := h; rfl
  · obtain ⟨a, ns, rfl, hS, k⟩ := h
    refine ⟨_, (pss_cons (ps_set (i := 1) sc_common_factor.nd rfl (Or.inl rfl) pe_int rfl (Or.inl rfl))
  (pss_cons (ps_for PassesOwn.never rfl (pi_listK K rfl (pv 0)) (pg_name (i := 2) sc_common_factor.nd rfl (Or.inl rfl) (Or.inl rfl))
  (pss_cons (ps_set (i := 3) sc_common_factor.nd rfl (Or.inl rfl) (pe_callB call_abs (by rfl) M.abs boot_abs (pa_cons (pv 2) pa_nil rfl) (by decide) (by decide) rfl rfl) rfl (Or.inl rfl))
    (pss_one (ps_while PassesOwn.never (pt_cmpR op_ne (pv 3) pe_int (nomark _))
    (pss_cons (ps_set (i := 4) sc_common_factor.nd rfl (Or.inl rfl) (pe_op op_mod (pv 1) (pv 3)) rfl (Or.inl rfl))
      (pss_cons (ps_set (i := 1) sc_common_factor.nd rfl (Or.inl rfl) (pv 3) rfl (Or.inl rfl))
      (pss_one (ps_set (i := 3) sc_common_factor.nd rfl (Or.inl rfl) (pv 4) rfl (Or.inl rfl)))))))) (fun _ => rfl))
  (pss_one (ps_ret (pv 1))))), ?_⟩
    walk_at "goL"
    refine ⟨⟨_, hS⟩, ?_⟩
    let Pv0 : Nat → L2.St → Hp → Prop := (fun i σ H2 => ∃ x y z : Option V, H2 = H ∧ σ = [some (.ref a), some (.int ((gcdL (ns.take i) : Nat) : Int)), x, y, z])
    refine forL (xs := ns.map V.int) Pv0 ⟨none, none, none, rfl, rfl⟩ (by rintro i σ H2 _ ⟨_, _, _, e, _⟩; exact e ▸ hS) ?_ ?_
    · rintro i x σ H2 hi ⟨x1, y1, z1, rfl, rfl⟩
      have hlt : i < ns.length := by have := (List.getElem?_eq_some_iff.mp hi).1; rw [List.length_map] at this; exact this
      rw [List.getElem?_map, List.getElem?_eq_getElem hlt] at hi
      obtain rfl := (Option.some.inj hi).symm
      walk_at "goL"
      have ea : (if ns[i] < 0 then -ns[i] else ns[i]) = ((ns[i].natAbs : Nat) : Int) := by split <;> omega
      rw [ea]
      have et : ns.take (i + 1) = ns.take i ++ [ns[i]] := by rw [List.take_succ_eq_append_getElem hlt]
      refine while_by (fun σ H3 => ∃ (f r : Nat) (z : Option V), H3 = H2 ∧ σ = [some (.ref a), some (.int (f : Int)), some (.int ns[i]), some (.int (r : Int)), z] ∧ Nat.gcd f r = gcdL (ns.take (i + 1)))
        (fun (σ : List (Option V)) _ => match σ[3]? with | some (some (V.int r)) => r.toNat | _ => 0) ⟨_, _, _, rfl, rfl, by rw [et, gcdL_snoc]⟩ ?_ (by rintro σ H Q Q' hq ⟨v, e, hs, k, ek, q⟩; exact ⟨v, e, hs, k, ek, hq _ _ q⟩)
      rintro σ H3 ⟨f, r, z, rfl, rfl, hg⟩
      walk_at "goL"
      by_cases hr0 : r = 0
      · subst hr0
        refine iteNS (by decide) ?_
        rw [Nat.gcd_zero_right] at hg
        rw [hg]
        exact ⟨_, _, _, rfl, rfl⟩
      · refine g_iteN (fun _ => ?_) (fun z => absurd z (by omega))
        walk_at "goL"
        have em : (f : Int) % (r : Int) = ((f % r : Nat) : Int) := by omega
        rw [em]
        refine ⟨⟨r, f % r, _, rfl, rfl, ?_⟩, ?_⟩
        · rw [← hg, Nat.gcd_comm f r, Nat.gcd_rec r f, Nat.gcd_comm]
        · show ((f % r : Nat) : Int).toNat < ((r : Nat) : Int).toNat
          have := Nat.mod_lt f (show r > 0 by omega)
          omega
    · rintro σ H2 ⟨x, y, z, rfl, rfl⟩
      rw [List.length_map, List.take_length]
      walk_at "goL"
      exact k


theorem comb_zip (p e : Int) : ∀ (r q : List Int), comb p e r q = (r.zip q).map fun x => x.1 * p - x.2 * e
  | [], q => by simp [comb]
  | a :: r, [] => by simp [comb]
  | a :: r, b :: q => by
    have := comb_zip p e r q
    unfold comb at this ⊢
    rw [List.zipWith_cons_cons, this]
    rfl
def sp_freed_of (K : PySem.W.Frag) : Sp := fun vs H Q _ => ∃ u e, ∃ us es : List Int, ∃ p n : Nat, vs = [.int (p : Int), .ref u, .ref e] ∧ SqL K H u (us.map V.int) ∧ SqL K H e (es.map V.int) ∧ es.length = us.length ∧ us.length ≤ 1000 ∧ p < us.length ∧ Bits n us ∧ Bits n es ∧ n ≤ 60000000 ∧ 0 < gcdL (comb (us.getD p 0) (es.getD p 0) es us) ∧
  ∀ r H', Same H H' → H r = none → H' r = some (.lst ((freedF p us es).map V.int)) → Q (.ref r) H'
theorem sc_freed_of : FnScope ["place", "used", "equation", "numbers", "factor"] ["place", "used", "equation"] (defScope s_freed_of) := ⟨rfl, rfl, rfl, by decide +kernel, rfl, by decide +kernel, by decide +kernel⟩
theorem ok_freed_of {f : Addr} {fd : FuncData} (F : Fun K "freed_of" "freed_of" s_freed_of f fd) (M : Bl mg) (T : Cs P mg) {f_common_factor : Addr} {fd_common_factor : FuncData} (D_common_factor : Df P w K mg base "common_factor" 37 f_common_factor fd_common_factor ["numbers"] (sp_common_factor K)) : FnOk P w K mg base CX0 38 f fd ["place", "used", "equation"] (sp_freed_of K) := by
  refine F.ok sc_freed_of (fun vs H Q E h => ?_) (fun cdv A outer s H vs Q E hr h => ?_)
  · obtain ⟨u, e, us, es, p, n, rfl, _⟩ := h; rfl
  · obtain ⟨u, e, us, es, p, n, rfl, hu, he, hlen, hfew, hp, bu, be, hn, hg, k⟩ := h
    have hg' : (0 : Int) < ((gcdL (comb (us.getD p 0) (es.getD p 0) es us) : Nat) : Int) := by omega
    have hzl : (es.zip us).length = us.length := by rw [List.length_zip, hlen, Nat.min_self]
    refine ⟨_, (pss_cons (ps_setCD (defScope s_freed_of) ["place", "used", "equation", "numbers", "factor"] ["own", "other", "used", "place", "equation"] [none, none, some 1, some 0, some 2] (pg_name (i := 3) sc_freed_of.nd rfl (Or.inl rfl) (Or.inl rfl)) ⟨rfl, by decide +kernel, by decide +kernel, by decide +kernel, by decide +kernel, rfl, by decide +kernel⟩ (pi_zipL K rfl (by rfl) M.zip (pa_cons (pv 2) (pa_cons (pv 1) pa_nil rfl) rfl) rfl) (fun s3 H3 C fp => ⟨pg_tupK K (n := 2) rfl rfl (pgs_cons (pgb (i := 0) (by decide +kernel) rfl rfl) (pgs_cons (pgb (i := 1) (by decide +kernel) rfl rfl) pgs_nil rfl) rfl) rfl rfl, pif_nil, (pe_op op_sub (pe_op op_mulB (pvb 0) (pe_ix (ix_listK K rfl) (pvb 2) (pvb 3) (fun _ _ => rfl))) (pe_op op_mulB (pvb 1) (pe_ix (ix_listK K rfl) (pvb 4) (pvb 3) (fun _ _ => rfl))))⟩) rfl rfl rfl rfl (fun _ => rfl))
  (pss_cons (ps_set (i := 4) sc_freed_of.nd rfl (Or.inr rfl) (pe_callD D_common_factor hr (by rfl) (pa_cons (pv 3) pa_nil rfl) (by decide) (by decide) rfl rfl) rfl (Or.inl rfl))
  (pss_one (ps_ret (pe_compD (defScope s_freed_of) ["place", "used", "equation", "numbers", "factor"] ["number", "factor"] [none, some 4] ⟨rfl, by decide +kernel, by decide +kernel, by decide +kernel, by decide +kernel, rfl, by decide +kernel⟩ (pi_listK K rfl (pv 3)) (fun s3 H3 C fp => ⟨pgb (i := 0) (by decide +kernel) rfl rfl, pif_nil, (pe_op (op_fdivP ⟨_, _, rfl, sc_freed_of.gen, sc_freed_of.co, rfl, rfl⟩ T.tree hr (by decide)) (pvb 0) (pvb 1))⟩) rfl rfl rfl (fun _ => rfl)))))), ?_⟩
    walk_at "goL"
    refine ⟨e, u, _, _, rfl, he, hu, by rw [List.length_map, List.length_map, hlen], ?_⟩
    intro y hy
    have gz := goes_zipL he hu (by rw [List.length_map, List.length_map, hlen])
    rw [List.zip_map] at gz
    refine comp_pureP K (src := es.zip us) (gv := Prod.map V.int V.int) (fun _ => true) (fun x => V.int (x.1 * us.getD p 0 - x.2 * es.getD p 0)) gz hy (by rw [hzl]; exact small hfew) (fun x hx H' R t1 k1 => ?_) (fun x hx _ H' R t1 k1 => ?_) (fun H1 s1 hy1 => ?_)
    · exact k1 _ (Same.refl _)
    · obtain ⟨a, c⟩ := x
      have m1 := List.of_mem_zip hx
      walk_at "goL"
      refine g_ixL (t1.seq hu) (ints_at hp) ?_
      walk_at "goL"
      refine g_mul (be a m1.1) (bu.at p) (by omega) ?_
      walk_at "goL"
      refine g_ixL (t1.seq he) (ints_at (by omega)) ?_
      walk_at "goL"
      refine g_mul (bu c m1.2) (be.at p) (by omega) ?_
      walk_at "goL"
      exact k1 _ (Same.refl _)
    · rw [filter_yes, show (es.zip us).map (fun x => V.int (x.1 * us.getD p 0 - x.2 * es.getD p 0)) = (comb (us.getD p 0) (es.getD p 0) es us).map V.int by rw [comb_zip, List.map_map]; rfl] at hy1
      walk_at "goL"
      refine ⟨y, _, rfl, SqL.of hy1, ?_⟩
      walk_at "goL"
      refine ⟨⟨_, SqL.of hy1⟩, ?_⟩
      intro z hz
      refine comp_map (src := comb (us.getD p 0) (es.getD p 0) es us) (gv := V.int) (fun a => V.int (a / ((gcdL (comb (us.getD p 0) (es.getD p 0) es us) : Nat) : Int))) (goes_list (SqL.of hy1)) hz (by rw [comb_len hlen]; exact small (by omega)) (fun a ha H' R t1 k1 => ?_) (fun H2 s2 hz2 => ?_)
      · walk_at "goL"
        exact k1 _ (Same.refl _)
      · walk_at "goL"
        refine k z H2 (s1.trans s2) (s1.free hz) ?_
        rw [hz2]
        unfold freedF
        rw [List.map_map]
        rfl


theorem at_zero {α : Type} (x : α) (xs : List α) : atI (x :: xs) 0 = some x := by
  unfold atI
  have e : ixN (x :: xs).length (0 : Int) = some 0 := ixN_nat (j := 0) (by rw [List.length_cons]; omega)
  rw [e]
  rfl
/-- rows of numbers that lie in the heap -/
def RowsAt (H : Hp) (ps : List Addr) (eqs : List (List Int)) : Prop := ps.length = eqs.length ∧ ∀ (i : Nat) (p : Addr) (r : List Int), ps[i]? = some p → eqs[i]? = some r → H p = some (.lst (r.map V.int))
theorem RowsAt.same {H H' : Hp} {ps : List Addr} {eqs : List (List Int)} (h : RowsAt H ps eqs) (s : Same H H') : RowsAt H' ps eqs := ⟨h.1, fun i p r a b => s _ _ (h.2 i p r a b)⟩
theorem rows_of_all2 {α : Type} {H : Hp} {f : α → List Int} {src : List α} {ys : List V} (h : All2 (fun x y => ∃ p, y = V.ref p ∧ H p = some (.lst ((f x).map V.int))) src ys) : ∃ ps : List Addr, ys = ps.map V.ref ∧ RowsAt H ps (src.map f) := by
  induction h with
  | nil => exact ⟨[], rfl, rfl, fun i p r a => by simp at a⟩
  | @snoc a0 b0 l m _ g ih =>
    obtain ⟨ps, rfl, h1, h2⟩ := ih
    obtain ⟨p, rfl, hp⟩ := g
    refine ⟨ps ++ [p], by simp, by simpa using h1, fun i q r a b => ?_⟩
    rw [List.map_append] at b
    rw [List.length_map] at h1
    by_cases hi : i < ps.length
    · rw [List.getElem?_append_left hi] at a
      rw [List.getElem?_append_left (by rw [List.length_map]; omega)] at b
      exact h2 i q r a b
    · rw [List.getElem?_append_right (by omega)] at a
      rw [List.getElem?_append_right (by rw [List.length_map]; omega), List.length_map, ← h1] at b
      obtain ⟨z1, z2⟩ := List.getElem?_eq_some_iff.mp a
      have e : i - ps.length = 0 := by simpa using z1
      rw [e] at a b
      have a' : p = q := by simpa using a
      have b' : f a0 = r := by simpa using b
      rw [← a', ← b']
      exact hp
/-- of the rows the first one and the others: their lengths, and what divides what is left -/
theorem rows_gcd {dn : List Int} {ws bs : List Tx} {n : Nat} {done rem : List Tx} {o : Tx} {eqs : List (List Int)} (R : Race dn.length ws) (B : BegL ws bs) (hm : ∀ t ∈ o :: rem, t ∈ bs) (nd : (o :: rem).Nodup) (h : RowsOk dn ws bs n done (o :: rem) eqs) :
    ∃ q es, eqs = q :: es ∧ q.length = bs.length + 1 ∧ Bits n q ∧ ∀ e ∈ es, e.length = bs.length + 1 ∧ Bits n e ∧ 0 < gcdL (comb (q.getD (bs.idxOf o) 0) (e.getD (bs.idxOf o) 0) e q) := by
  cases eqs with
  | nil => have := h.len; simp at this
  | cons q es =>
    have gq : Good (bs.length + 1) (vI ws bs) (bs.idxOf o) q := h.good 0 (by simp) (by simp)
    refine ⟨q, es, rfl, gq.len, h.bits q List.mem_cons_self, fun e he => ?_⟩
    obtain ⟨i, hi, rfl⟩ := List.mem_iff_getElem.mp he
    have hl : es.length = rem.length := by simpa using h.len
    have gi : Good (bs.length + 1) (vI ws bs) (bs.idxOf rem[i]) es[i] := h.good (i + 1) (by simp; omega) (by simpa using hi)
    have nd' := (List.nodup_cons.mp nd).1
    refine ⟨gi.len, h.bits _ (List.mem_cons_of_mem _ he), freedF_pos (vI_nonneg R B) gi gq fun z => nd' ?_⟩
    rw [idx_inj (hm o List.mem_cons_self) (hm _ (List.mem_cons_of_mem _ (List.getElem_mem (show i < rem.length by omega)))) z]
    exact List.getElem_mem _
def sp_solved (K : PySem.W.Frag) : Sp := fun vs H Q _ => ∃ d a, ∃ ns : List Int, ∃ ws t, vs = [.ref d, .ref a, .str (S t)] ∧ SqL K H d (ns.map V.int) ∧ DieOk ns ∧ SqL K H a (txs ws) ∧ RaceOk ns.length ws ∧ Beg ws t ∧ t ∉ ws ∧
  ∀ r bs row H', Same H H' → H' r = some (.lst (row.map V.int)) → BegO ws bs → Told ns ws bs (bitsAt 20) t row → Q (.ref r) H'
theorem sc_solved : FnScope ["die", "words", "state", "begun", "others", "equations", "other", "place"] ["die", "words", "state"] (defScope s_solved) := ⟨rfl, rfl, rfl, by decide +kernel, rfl, by decide +kernel, by decide +kernel⟩
theorem ok_solved {f : Addr} {fd : FuncData} (F : Fun K "solved" "solved" s_solved f fd) (M : Bl mg) (T : Cs P mg) {f_beginnings_of : Addr} {fd_beginnings_of : FuncData} (D_beginnings_of : Df P w K mg base "beginnings_of" 37 f_beginnings_of fd_beginnings_of ["words"] (sp_beginnings_of K)) {f_equation_of : Addr} {fd_equation_of : FuncData} (D_equation_of : Df P w K mg base "equation_of" 38 f_equation_of fd_equation_of ["die", "begun", "state"] (sp_equation_of K)) {f_freed_of : Addr} {fd_freed_of : FuncData} (D_freed_of : Df P w K mg base "freed_of" 38 f_freed_of fd_freed_of ["place", "used", "equation"] (sp_freed_of K)) : FnOk P w K mg base CX0 39 f fd ["die", "words", "state"] (sp_solved K) := by
  refine F.ok sc_solved (fun vs H Q E h => ?_) (fun cdv A outer s H vs Q E hr h => ?_)
  · obtain ⟨d, a, ns, ws, t, rfl, _⟩ := h; rfl
  · obtain ⟨d, a, ns, ws, t, rfl, hd, hdo, hS, hw, ht, htw, k⟩ := h
    have ne := hw.race.ne
    refine ⟨_, (pss_cons (ps_set (i := 3) sc_solved.nd rfl (Or.inr rfl) (pe_callD D_beginnings_of hr (by rfl) (pa_cons (pv 1) pa_nil rfl) (by decide) (by decide) rfl rfl) rfl (Or.inl rfl))
  (pss_cons (ps_setCD (defScope s_solved) ["die", "words", "state", "begun", "others", "equations", "other", "place"] ["text", "words", "state"] [none, some 1, some 2] (pg_name (i := 4) sc_solved.nd rfl (Or.inl rfl) (Or.inl rfl)) ⟨rfl, by decide +kernel, by decide +kernel, by decide +kernel, by decide +kernel, rfl, by decide +kernel⟩ (pi_listK K rfl (pv 3)) (fun s3 H3 C fp => ⟨pgb (i := 0) (by decide +kernel) rfl rfl, (pif_one (PW.pt (pw_and (pt_cmpR (op_notInK K rfl) (pvb 0) (pvb 1) (by with_unfolding_all rfl)) (pw_and1 (pt_cmpR op_ne (pvb 0) (pvb 2) (nomark _)))))), (pvb 0)⟩) rfl rfl rfl rfl (fun _ => rfl))
  (pss_cons (ps_set (i := 5) sc_solved.nd rfl (Or.inr rfl) (pe_compD (defScope s_solved) ["die", "words", "state", "begun", "others", "equations", "other", "place"] ["text", "die", "begun"] [none, some 0, some 3] ⟨rfl, by decide +kernel, by decide +kernel, by decide +kernel, by decide +kernel, rfl, by decide +kernel⟩ (pi_listK K rfl (pe_op op_cat (pv 4) (pe_lst (pa_cons (pv 2) pa_nil rfl)))) (fun s3 H3 C fp => ⟨pgb (i := 0) (by decide +kernel) rfl rfl, pif_nil, (pe_callD D_equation_of hr (glb rfl) (pa_cons (pvb 1) (pa_cons (pvb 2) (pa_cons (pvb 0) pa_nil rfl) rfl) rfl) (by decide) (by decide) rfl rfl)⟩) rfl rfl rfl (fun _ => rfl)) rfl (Or.inl rfl))
  (pss_cons (ps_for PassesOwn.never rfl (pi_listK K rfl (pv 4)) (pg_name (i := 6) sc_solved.nd rfl (Or.inl rfl) (Or.inl rfl))
  (pss_cons (ps_set (i := 7) sc_solved.nd rfl (Or.inr rfl) (pe_bmK K rfl PySem.F.plainAttrs_list PySem.F.slot_list_index PySem.F.type_list_index (mt_indexL K rfl) (pv 3) (pa_cons (pv 6) pa_nil rfl) rfl rfl rfl rfl rfl) rfl (Or.inl rfl))
    (pss_one (ps_set (i := 5) sc_solved.nd rfl (Or.inr rfl) (pe_compD (defScope s_solved) ["die", "words", "state", "begun", "others", "equations", "other", "place"] ["equation", "place", "equations"] [none, some 7, some 5] ⟨rfl, by decide +kernel, by decide +kernel, by decide +kernel, by decide +kernel, rfl, by decide +kernel⟩ (pi_listK K rfl (pe_slice (sl_listK K rfl) (pv 5) (po_some pe_int) po_none)) (fun s3 H3 C fp => ⟨pgb (i := 0) (by decide +kernel) rfl rfl, pif_nil, (pe_callD D_freed_of hr (glb rfl) (pa_cons (pvb 1) (pa_cons (pe_ix (ix_listK K rfl) (pvb 2) pe_int (fun _ _ => rfl)) (pa_cons (pvb 0) pa_nil rfl) rfl) rfl) (by decide) (by decide) rfl rfl)⟩) rfl rfl rfl (fun _ => rfl)) rfl (Or.inl rfl)))) (fun _ => rfl))
  (pss_one (ps_ret (pe_ix (ix_listK K rfl) (pv 5) pe_int (fun _ _ => rfl)))))))), ?_⟩
    walk_at "goL"
    refine ⟨a, ws, _, rfl, hS, hw, fun rb bs H1 s1 nrb hrb hBO => ?_⟩
    have hB := hBO.l
    have hfew := beg_few hw hB
    walk_at "goL"
    refine ⟨⟨_, SqL.of hrb⟩, ?_⟩
    intro D1 hD1
    refine comp_pure (src := bs) (gv := fun l => V.str (S l)) (fun u => !decide (u ∈ ws) && !decide (u = t)) (fun u => V.str (S u)) (goes_list (SqL.of hrb)) hD1 (small (by omega)) (fun u hu H' R t1 k1 => ?_) (fun u hu _ H' R t1 k1 => ?_) (fun H2 s2 e2 => ?_)
    · walk_at "goL"
      refine g_notInT ((s1.trans t1).seq hS) ?_
      walk_at "goL"
      by_cases hin : u ∈ ws
      · refine iteF' (by simp [hin]) ?_
        simpa [hin] using k1 _ (Same.refl _)
      · refine iteT' (by simp [hin]) ?_
        walk_at "goL"
        simpa [hin] using k1 _ (Same.refl _)
    · walk_at "goL"
      exact k1 _ (Same.refl _)
    · generalize hos : bs.filter (fun u => !decide (u ∈ ws) && !decide (u = t)) = os at e2
      have ho : ∀ u, u ∈ os ↔ Beg ws u ∧ u ∉ ws ∧ u ≠ t := fun u => by
        rw [← hos, List.mem_filter, hB.mem]
        simp
      have ond : os.Nodup := by rw [← hos]; exact hB.nd.filter _
      obtain ⟨olen, T⟩ := solved_told hdo hw.race hB ht htw ond ho
      have hall : ∀ u ∈ os ++ [t], Beg ws u ∧ u ∉ ws := fun u hu => by
        rcases List.mem_append.mp hu with z | z
        · exact ⟨((ho u).mp z).1, ((ho u).mp z).2.1⟩
        · obtain rfl : u = t := by simpa using z
          exact ⟨ht, htw⟩
      have nd2 : (os ++ [t]).Nodup := by
        rw [List.nodup_append]
        refine ⟨ond, by simp, fun x hx y hy => ?_⟩
        obtain rfl : y = t := by simpa using hy
        exact ((ho x).mp hx).2.2
      have R0 := rows_start hdo hw.race hB hall
      have s12 := s1.trans s2
      walk_at "goL"
      intro q nq
      have sq := same_upd (o := .lst [V.str (S t)]) (Same.refl H2) nq
      refine ⟨D1, q, _, _, rfl, rfl, sq _ _ e2, upd_same, by rw [List.length_map]; exact small (by show os.length + 1 ≤ _; omega), fun c nc => ?_⟩
      have sc := same_upd (o := .lst (os.map (fun u => V.str (S u)) ++ [V.str (S t)])) sq (sq.free nc)
      have ec : os.map (fun u => V.str (S u)) ++ [V.str (S t)] = txs (os ++ [t]) := by rw [txs, List.map_append]; rfl
      have s3 := s12.trans sc
      have hrb3 := (s2.trans sc) _ _ hrb
      walk_at "goL"
      refine ⟨⟨_, SqL.of upd_same⟩, ?_⟩
      intro D2 hD2
      have hc3 : upd (upd H2 q (.lst [V.str (S t)])) c (.lst (os.map (fun u => V.str (S u)) ++ [V.str (S t)])) c = some (.lst (txs (os ++ [t]))) := by rw [upd_same, ec]
      generalize upd (upd H2 q (.lst [V.str (S t)])) c (.lst (os.map (fun u => V.str (S u)) ++ [V.str (S t)])) = H3 at *
      have b3 := (s2.trans sc) _ _ hrb
      have d3 := sc _ _ e2
      refine comp_genT (src := os ++ [t]) (gv := fun l => V.str (S l)) (fun u y H => ∃ p, y = V.ref p ∧ p ≠ D2 ∧ H p = some (.lst ((eqRow ns ws bs u).map V.int))) (goes_list (SqL.of hc3)) hD2 (small (by rw [List.length_append, List.length_singleton]; omega))
        (by rintro u y G G' hk ⟨p, e, hp, g⟩; exact ⟨p, e, hp, hk p _ hp g⟩) (fun u hu H' R t1 nD k1 => ?_) (fun H4 ys s4 e4 all => ?_)
      · walk_at "goL"
        refine ⟨d, rb, ns, ws, bs, u, rfl, (s3.trans t1).seq hd, hdo, SqL.of (t1 _ _ b3), hw, hB, (hall u hu).1, fun p H5 s5 n5 e5 => ?_⟩
        exact k1 _ H5 s5 ⟨p, rfl, fun z => nD (by rw [← z]; exact n5), e5⟩
      · obtain ⟨ps, rfl, RA⟩ := rows_of_all2 (f := eqRow ns ws bs) (all.mono fun x y ⟨p, e, _, g⟩ => ⟨p, e, g⟩)
        walk_at "goL"
        refine ⟨⟨_, SqL.of (s4 _ _ d3)⟩, ?_⟩
        let Pv0 : Nat → L2.St → Hp → Prop := (fun i σ H5 => ∃ (x5 x6 : Option V) (pe : Addr) (ps : List Addr) (eqs : List (List Int)), Same H H5 ∧ H5 rb = some (.lst (txs bs)) ∧ H5 D1 = some (.lst (os.map fun u => V.str (S u))) ∧ H5 pe = some (.lst (ps.map V.ref)) ∧ RowsAt H5 ps eqs ∧
            RowsOk ns ws bs (bitsAt i) (os.take i) (os.drop i ++ [t]) eqs ∧ solvedF bs (os.drop i) eqs = solvedF bs os ((os ++ [t]).map (eqRow ns ws bs)) ∧
            σ = [some (.ref d), some (.ref a), some (.str (S t)), some (.ref rb), some (.ref D1), some (.ref pe), x5, x6])
        refine forL (xs := os.map fun u => V.str (S u)) Pv0
          ⟨none, none, D2, ps, _, s3.trans s4, s4 _ _ b3, s4 _ _ d3, e4, RA, R0, rfl, rfl⟩ (by rintro i σ H5 _ ⟨_, _, _, _, _, _, _, z, _⟩; exact SqL.of z) ?_ ?_
        · rintro i x σ H5 hi ⟨x5, x6, pe, ps, eqs, s5, b5, d5, e5, RA5, RO, ev, rfl⟩
          have hlt : i < os.length := by have := (List.getElem?_eq_some_iff.mp hi).1; rw [List.length_map] at this; exact this
          rw [List.getElem?_map, List.getElem?_eq_getElem hlt] at hi
          obtain rfl := (Option.some.inj hi).symm
          have hob := (hB.mem _).mpr ((ho _).mp (List.getElem_mem hlt)).1
          have dr : os.drop i = os[i] :: os.drop (i + 1) := List.drop_eq_getElem_cons hlt
          rw [dr] at RO ev
          have hm : ∀ u ∈ os[i] :: (os.drop (i + 1) ++ [t]), u ∈ bs := fun u hu => (hB.mem u).mpr (hall u (by
            rw [← List.cons_append, ← dr] at hu
            rcases List.mem_append.mp hu with z | z
            · exact List.mem_append_left _ (List.mem_of_mem_drop z)
            · exact List.mem_append_right _ z)).1
          have nd3 : (os[i] :: (os.drop (i + 1) ++ [t])).Nodup := by
            rw [← List.cons_append, ← dr, ← List.drop_append_of_le_length (by omega)]
            exact nd2.sublist (List.drop_sublist _ _)
          obtain ⟨q1, es, rfl, ql, qb, each⟩ := rows_gcd hw.race hB hm nd3 RO
          have RO' := rows_step hw.race hB hm nd3 RO
          have bsz : bitsAt i ≤ 60000000 := by
            have h1 := bitsAt_mono (show i ≤ 20 by omega)
            have h2 := bitsAt_eq 20
            have e : (2 : Nat) ^ 20 = 1048576 := (by decide)
            omega
          have pl : ps.length = es.length + 1 := by have := RA5.1; simpa using this
          match ps, pl with
          | p1 :: ps, pl =>
          have pl' : ps.length = es.length := by simpa using pl
          walk_at "goL"
          refine g_idxL (SqL.of b5) hob ?_
          walk_at "goL"
          refine ⟨pe, _, rfl, SqL.of e5, fun pc npc => ?_⟩
          have ecut : cutV ((p1 :: ps).map V.ref) (some 1) none = ps.map V.ref := (cutL_from ((p1 :: ps).map V.ref) 1).trans rfl
          rw [ecut]
          have sp := same_upd (o := .lst (ps.map V.ref)) (Same.refl H5) npc
          have hpc : upd H5 pc (.lst (ps.map V.ref)) pc = some (.lst (ps.map V.ref)) := upd_same
          generalize upd H5 pc (.lst (ps.map V.ref)) = H6 at *
          have RA6 := RA5.same sp
          walk_at "goL"
          refine ⟨⟨_, SqL.of hpc⟩, ?_⟩
          intro D3 hD3
          have ez : (ps.zip es).map (fun z => V.ref z.1) = ps.map V.ref := by
            rw [show (ps.zip es).map (fun z => V.ref z.1) = ((ps.zip es).map Prod.fst).map V.ref by rw [List.map_map]; rfl, List.map_fst_zip (by omega)]
          have ez2 : (ps.zip es).map Prod.snd = es := List.map_snd_zip (by omega)
          have zl : (ps.zip es).length = es.length := by rw [List.length_zip, pl', Nat.min_self]
          have el : es.length ≤ 21 := by
            have h1 := RO.len
            simp at h1
            omega
          have gl := goes_list (K := K) (SqL.of hpc)
          rw [← ez] at gl
          have hq1 : H6 p1 = some (.lst (q1.map V.int)) := RA6.2 0 p1 q1 rfl rfl
          have pos : bs.idxOf os[i] < bs.length + 1 := by have := idx_lt hob; omega
          refine comp_genT (src := ps.zip es) (gv := fun z => V.ref z.1) (fun z y H => ∃ p, y = V.ref p ∧ p ≠ D3 ∧ H p = some (.lst ((freedF (bs.idxOf os[i]) q1 z.2).map V.int))) gl hD3 (small (by omega))
            (by rintro u y G G' hk ⟨p, e, hp, g⟩; exact ⟨p, e, hp, hk p _ hp g⟩) (fun z hz H' R t1 nD k1 => ?_) (fun H7 ys s7 e7 all => ?_)
          · obtain ⟨zp, ze⟩ := z
            obtain ⟨j, hj, ej⟩ := List.mem_iff_getElem.mp hz
            rw [List.getElem_zip] at ej
            have ej1 : ps[j]'(by omega) = zp := congrArg Prod.fst ej
            have ej2 : es[j]'(by omega) = ze := congrArg Prod.snd ej
            have hze : H6 zp = some (.lst (ze.map V.int)) := RA6.2 (j + 1) zp ze (by rw [List.getElem?_cons_succ, List.getElem?_eq_getElem (by omega), ej1]) (by rw [List.getElem?_cons_succ, List.getElem?_eq_getElem (by omega), ej2])
            obtain ⟨el1, eb1, eg1⟩ := each ze (by rw [← ej2]; exact List.getElem_mem _)
            walk_at "goL"
            refine g_ixL (SqL.of (t1 _ _ (sp _ _ e5))) (at_zero (V.ref p1) (ps.map V.ref)) ?_
            walk_at "goL"
            refine ⟨p1, zp, q1, ze, bs.idxOf os[i], bitsAt i, rfl, SqL.of (t1 _ _ hq1), SqL.of (t1 _ _ hze), by omega, by omega, by omega, qb, eb1, bsz, eg1, fun r H8 s8 n8 e8 => ?_⟩
            exact k1 _ H8 s8 ⟨r, rfl, fun z => nD (by rw [← z]; exact n8), e8⟩
          · obtain ⟨ps7, rfl, RA7⟩ := rows_of_all2 (f := fun z : Addr × List Int => freedF (bs.idxOf os[i]) q1 z.2) (all.mono fun x y ⟨p, e, _, g⟩ => ⟨p, e, g⟩)
            have s57 := sp.trans s7
            rw [show (ps.zip es).map (fun z : Addr × List Int => freedF (bs.idxOf os[i]) q1 z.2) = es.map (freedF (bs.idxOf os[i]) q1) by rw [← ez2, List.map_map]; rw [ez2]; rfl] at RA7
            refine ⟨_, _, D3, ps7, _, s5.trans s57, s57 _ _ b5, s57 _ _ d5, e7, RA7, ?_, ev, rfl⟩
            rw [List.take_succ_eq_append_getElem hlt]
            exact RO'
        · rintro σ H5 ⟨x5, x6, pe, ps, eqs, s5, b5, d5, e5, RA5, RO, ev, rfl⟩
          rw [List.length_map, List.drop_length] at RO ev
          have el := RO.len
          match eqs, el with
          | [row], _ =>
            have pl := RA5.1
            match ps, pl with
            | [p1], _ =>
              walk_at "goL"
              refine g_ixL (SqL.of e5) (at_zero (V.ref p1) []) ?_
              have ev' : row = solvedF bs os ((os ++ [t]).map (eqRow ns ws bs)) := ev
              rw [← ev'] at T
              exact k p1 bs row H5 s5 (RA5.2 0 p1 row rfl rfl) hBO T


def sp_share_of (_ : PySem.W.Frag) : Sp := fun vs H Q _ => ∃ t b : Int, vs = [.int t, .int b] ∧ 0 < b ∧ ∀ p H', Same H H' → H p = none → H' p = some (.tup (sh (Rat.divInt t b))) → Q (.ref p) H'
theorem sc_share_of : FnScope ["top", "bottom", "factor"] ["top", "bottom"] (defScope s_share_of) := ⟨rfl, rfl, rfl, by decide +kernel, rfl, by decide +kernel, by decide +kernel⟩
theorem ok_share_of {f : Addr} {fd : FuncData} (F : Fun K "share_of" "share_of" s_share_of f fd) (M : Bl mg) (T : Cs P mg) {f_common_factor : Addr} {fd_common_factor : FuncData} (D_common_factor : Df P w K mg base "common_factor" 37 f_common_factor fd_common_factor ["numbers"] (sp_common_factor K)) : FnOk P w K mg base CX0 38 f fd ["top", "bottom"] (sp_share_of K) := by
  refine F.ok sc_share_of (fun vs H Q E h => ?_) (fun cdv A outer s H vs Q E hr h => ?_)
  · obtain ⟨t, b, rfl, _⟩ := h; rfl
  · obtain ⟨t, b, rfl, hb, k⟩ := h
    obtain ⟨e1, e2⟩ := divInt_parts (t := t) hb
    have hg : 0 < gcdL [t, b] := gcdL_pos (a := b) (by simp) (by omega)
    have hg' : (0 : Int) < ((gcdL [t, b] : Nat) : Int) := by omega
    refine ⟨_, (pss_cons (ps_set (i := 2) sc_share_of.nd rfl (Or.inl rfl) (pe_callD D_common_factor hr (by rfl) (pa_cons (pe_lst (pa_cons (pv 0) (pa_cons (pv 1) pa_nil rfl) rfl)) pa_nil rfl) (by decide) (by decide) rfl rfl) rfl (Or.inl rfl))
  (pss_one (ps_ret (pe_tup (pa_cons (pe_op (op_fdivP ⟨_, _, rfl, sc_share_of.gen, sc_share_of.co, rfl, rfl⟩ T.tree hr (by decide)) (pv 0) (pv 2)) (pa_cons (pe_op (op_fdivP ⟨_, _, rfl, sc_share_of.gen, sc_share_of.co, rfl, rfl⟩ T.tree hr (by decide)) (pv 1) (pv 2)) pa_nil rfl) rfl))))), ?_⟩
    walk_at "goL"
    intro p1 n1
    have s1 := same_upd (o := .lst [.int t, .int b]) (Same.refl H) n1
    walk_at "goL"
    refine ⟨p1, [t, b], rfl, SqL.of upd_same, ?_⟩
    walk_at "goL"
    intro p2 n2
    refine k p2 _ (same_upd s1 (s1.free n2)) (s1.free n2) ?_
    rw [upd_same, sh, e1, e2]


theorem open_state {n : Nat} {ws : List (List Nat)} {row : List Nat} (R : RaceOk n ws) (h : endedF ws row = none) : stF ws row ∉ ws := fun hm => by
  have hsuf := stF_suffix R.race.ne row
  have hlo := (R.w _ hm).lo
  have hle := hsuf.length_le
  unfold endedF at h
  rw [List.findSome?_eq_none_iff] at h
  have := h (row.length - 1) (List.mem_range.mpr (by omega))
  unfold endAt at this
  rw [Option.map_eq_none_iff, List.findIdx?_eq_none_iff] at this
  have := this _ hm
  rw [show row.length - 1 + 1 = row.length by omega, List.take_length] at this
  rw [isSuf.mpr hsuf] at this
  cases this
theorem bits20 : bitsAt 20 = 7340031 := by
  have h2 := bitsAt_eq 20
  have e : (2 : Nat) ^ 20 = 1048576 := (by decide)
  omega
def SharesAt (H : Hp) (ps : List Addr) (qs : List Rat) : Prop := ps.length = qs.length ∧ ∀ (i : Nat) (p : Addr) (q : Rat), ps[i]? = some p → qs[i]? = some q → H p = some (.tup (sh q))
theorem shares_of_all2 {α : Type} {H : Hp} {f : α → Rat} {src : List α} {ys : List V} (h : All2 (fun x y => ∃ p, y = V.ref p ∧ H p = some (.tup (sh (f x)))) src ys) : ∃ ps : List Addr, ys = ps.map V.ref ∧ SharesAt H ps (src.map f) := by
  induction h with
  | nil => exact ⟨[], rfl, rfl, fun i p r a => by simp at a⟩
  | @snoc a0 b0 l m _ g ih =>
    obtain ⟨ps, rfl, h1, h2⟩ := ih
    obtain ⟨p, rfl, hp⟩ := g
    refine ⟨ps ++ [p], by simp, by simpa using h1, fun i q r a b => ?_⟩
    rw [List.map_append] at b
    rw [List.length_map] at h1
    by_cases hi : i < ps.length
    · rw [List.getElem?_append_left hi] at a
      rw [List.getElem?_append_left (by rw [List.length_map]; omega)] at b
      exact h2 i q r a b
    · rw [List.getElem?_append_right (by omega)] at a
      rw [List.getElem?_append_right (by rw [List.length_map]; omega), List.length_map, ← h1] at b
      obtain ⟨z1, z2⟩ := List.getElem?_eq_some_iff.mp a
      have e : i - ps.length = 0 := by simpa using z1
      rw [e] at a b
      have a' : p = q := by simpa using a
      have b' : f a0 = r := by simpa using b
      rw [← a', ← b']
      exact hp
def sp_shares (K : PySem.W.Frag) : Sp := fun vs H Q _ => ∃ d a, ∃ ns : List Int, ∃ ws row, vs = [.ref d, .ref a, .str (S row)] ∧ SqL K H d (ns.map V.int) ∧ DieOk ns ∧ SqL K H a (txs ws) ∧ RaceOk ns.length ws ∧ RowOk ns.length row ∧ endedF ws row = none ∧
  ∀ r ps H', Same H H' → H r = none → H' r = some (.lst (ps.map V.ref)) → SharesAt H' ps (ws.map fun w => shq ns ws w (stF ws row)) → (∀ w ∈ ws, Sz 7340031 (shq ns ws w (stF ws row))) → Q (.ref r) H'
theorem sc_shares : FnScope ["die", "words", "row", "state", "begun", "numbers"] ["die", "words", "row"] (defScope s_shares) := ⟨rfl, rfl, rfl, by decide +kernel, rfl, by decide +kernel, by decide +kernel⟩
theorem ok_shares {f : Addr} {fd : FuncData} (F : Fun K "shares" "shares" s_shares f fd) (M : Bl mg) (T : Cs P mg) {f_state_of_open : Addr} {fd_state_of_open : FuncData} (D_state_of_open : Df P w K mg base "state_of_open" 42 f_state_of_open fd_state_of_open ["die", "words", "row"] (sp_state_of_open K)) {f_beginnings_of : Addr} {fd_beginnings_of : FuncData} (D_beginnings_of : Df P w K mg base "beginnings_of" 37 f_beginnings_of fd_beginnings_of ["words"] (sp_beginnings_of K)) {f_solved : Addr} {fd_solved : FuncData} (D_solved : Df P w K mg base "solved" 39 f_solved fd_solved ["die", "words", "state"] (sp_solved K)) {f_share_of : Addr} {fd_share_of : FuncData} (D_share_of : Df P w K mg base "share_of" 38 f_share_of fd_share_of ["top", "bottom"] (sp_share_of K)) : FnOk P w K mg base CX0 43 f fd ["die", "words", "row"] (sp_shares K) := by
  refine F.ok sc_shares (fun vs H Q E h => ?_) (fun cdv A outer s H vs Q E hr h => ?_)
  · obtain ⟨d, a, ns, ws, row, rfl, _⟩ := h; rfl
  · obtain ⟨d, a, ns, ws, row, rfl, hd, hdo, hS, hw, hro, hop, k⟩ := h
    have ne := hw.race.ne
    have hst := open_state hw hop
    have hbe := stF_beg ne row
    refine ⟨_, (pss_cons (ps_set (i := 3) sc_shares.nd rfl (Or.inr rfl) (pe_callD D_state_of_open hr (by rfl) (pa_cons (pv 0) (pa_cons (pv 1) (pa_cons (pv 2) pa_nil rfl) rfl) rfl) (by decide) (by decide) rfl rfl) rfl (Or.inl rfl))
  (pss_cons (ps_set (i := 4) sc_shares.nd rfl (Or.inr rfl) (pe_callD D_beginnings_of hr (by rfl) (pa_cons (pv 1) pa_nil rfl) (by decide) (by decide) rfl rfl) rfl (Or.inl rfl))
  (pss_cons (ps_set (i := 5) sc_shares.nd rfl (Or.inr rfl) (pe_callD D_solved hr (by rfl) (pa_cons (pv 0) (pa_cons (pv 1) (pa_cons (pv 3) pa_nil rfl) rfl) rfl) (by decide) (by decide) rfl rfl) rfl (Or.inl rfl))
  (pss_one (ps_ret (pe_compD (defScope s_shares) ["die", "words", "row", "state", "begun", "numbers"] ["word", "numbers", "state", "begun"] [none, some 5, some 3, some 4] ⟨rfl, by decide +kernel, by decide +kernel, by decide +kernel, by decide +kernel, rfl, by decide +kernel⟩ (pi_listK K rfl (pv 1)) (fun s3 H3 C fp => ⟨pgb (i := 0) (by decide +kernel) rfl rfl, pif_nil, (pe_callD D_share_of hr (glb rfl) (pa_cons (pe_un un_neg (pe_ix (ix_listK K rfl) (pvb 1) (pe_bmK K rfl PySem.F.plainAttrs_list PySem.F.slot_list_index PySem.F.type_list_index (mt_indexL K rfl) (pvb 3) (pa_cons (pvb 0) pa_nil rfl) rfl rfl rfl rfl rfl) (fun _ _ => rfl))) (pa_cons (pe_ix (ix_listK K rfl) (pvb 1) (pe_bmK K rfl PySem.F.plainAttrs_list PySem.F.slot_list_index PySem.F.type_list_index (mt_indexL K rfl) (pvb 3) (pa_cons (pvb 2) pa_nil rfl) rfl rfl rfl rfl rfl) (fun _ _ => rfl)) pa_nil rfl) rfl) (by decide) (by decide) rfl rfl)⟩) rfl rfl rfl (fun _ => rfl))))))), ?_⟩
    walk_at "goL"
    refine ⟨d, a, ns, ws, row, rfl, hd, hdo, hS, hw, hro, hop, fun H1 s1 => ?_⟩
    walk_at "goL"
    refine ⟨a, ws, _, rfl, s1.seq hS, hw, fun rb bs H2 s2 nrb hrb hBO => ?_⟩
    have s12 := s1.trans s2
    have hB := hBO.l
    walk_at "goL"
    refine ⟨d, a, ns, ws, _, rfl, s12.seq hd, hdo, s12.seq hS, hw, hbe, hst, fun rn bs' nums H3 s3 hrn hBO' T => ?_⟩
    obtain rfl := hBO.uniq hBO'
    have s13 := s12.trans s3
    have hrb3 := s3 _ _ hrb
    have hsb := (hB.mem _).mpr hbe
    have own := T.own hw.race hB
    have nl : nums.length = bs.length + 1 := T.good.len
    have val : ∀ w ∈ ws, shq ns ws w (stF ws row) = Rat.divInt (-(nums.getD (bs.idxOf w) 0)) (nums.getD (bs.idxOf (stF ws row)) 0) := fun w hwm => by
      obtain ⟨h1, h2⟩ := sol_ok hdo hw.race (fun u => if u = w then 1 else 0) 0
      exact T.share hw.race hB hbe hst hwm h1 h2
    have hfew := beg_few hw hB
    walk_at "goL"
    refine ⟨⟨_, s13.seq hS⟩, ?_⟩
    intro D hD
    refine comp_genT (src := ws) (gv := fun l => V.str (S l)) (fun w y H => ∃ p, y = V.ref p ∧ p ≠ D ∧ H p = some (.tup (sh (shq ns ws w (stF ws row))))) (goes_list (s13.seq hS)) hD (small (by have := hw.hi; omega))
      (by rintro u y G G' hk ⟨p, e, hp, g⟩; exact ⟨p, e, hp, hk p _ hp g⟩) (fun w hwm H' R t1 nD k1 => ?_) (fun H4 ys s4 e4 all => ?_)
    · have hwb : w ∈ bs := (hB.mem w).mpr ⟨w, hwm, List.prefix_rfl⟩
      walk_at "goL"
      refine g_tyL (SqL.of (t1 _ _ hrb3)) ?_
      walk_at "goL"
      refine g_idxL (SqL.of (t1 _ _ hrb3)) hwb ?_
      refine g_ixL (SqL.of (t1 _ _ hrn)) (ints_at (by have := idx_lt hwb; omega)) ?_
      refine g_neg ?_
      walk_at "goL"
      refine g_tyL (SqL.of (t1 _ _ hrb3)) ?_
      walk_at "goL"
      refine g_idxL (SqL.of (t1 _ _ hrb3)) hsb ?_
      refine g_ixL (SqL.of (t1 _ _ hrn)) (ints_at (by have := idx_lt hsb; omega)) ?_
      walk_at "goL"
      refine ⟨_, _, rfl, own, fun p H5 s5 n5 e5 => ?_⟩
      refine k1 _ H5 s5 ⟨p, rfl, fun z => nD (by rw [← z]; exact n5), ?_⟩
      rw [val w hwm]
      exact e5
    · obtain ⟨ps, rfl, SA⟩ := shares_of_all2 (f := fun w => shq ns ws w (stF ws row)) (all.mono fun x y ⟨p, e, _, g⟩ => ⟨p, e, g⟩)
      walk_at "goL"
      refine k D ps H4 (s13.trans s4) (s13.free hD) e4 SA fun w hwm => ?_
      rw [val w hwm]
      exact divInt_sz own (by rw [Int.natAbs_neg, ← bits20]; exact T.bits.at _) (by rw [← bits20]; exact T.bits.at _)

def sp_sharesR (K : PySem.W.Frag) (c : Nat → Addr) : Sp := fun vs H Q E => ∃ d a, ∃ ns : List Int, ∃ ws row j, vs = [.ref d, .ref a, .str (S row)] ∧ SqL K H d (ns.map V.int) ∧ DieOk ns ∧ SqL K H a (txs ws) ∧ RaceOk ns.length ws ∧ RowBad ns.length ws row j ∧ ∀ H' ea, Same H H' → H' ea = none → E (.ref (c j)) (some ea) H'
theorem okR_shares {f : Addr} {fd : FuncData} (F : Fun K "shares" "shares" s_shares f fd) (M : Bl mg) (T : Cs P mg) (Y : Xc K mg c) {f_state_of_open : Addr} {fd_state_of_open : FuncData} (R_state_of_open : DfX P w K mg base "state_of_open" 42 f_state_of_open fd_state_of_open ["die", "words", "row"] (sp_state_of_openR K c)) : FnOk P w K mg base (CX1 P w) 43 f fd ["die", "words", "row"] (sp_sharesR K c) := by
  refine F.okG sc_shares (fun vs H Q E h => ?_) (fun cdv A outer s H vs Q E hr h => ?_)
  · obtain ⟨d, a, ns, ws, row, j, rfl, _⟩ := h; rfl
  · obtain ⟨d, a, ns, ws, row, j, rfl, hd, hdo, hS, hw, hb, k⟩ := h
    refine ⟨_, (pss_cons (ps_set (i := 3) sc_shares.nd rfl (Or.inr rfl) (pe_callX pass1 R_state_of_open hr (by rfl) (pa_cons (pv 0) (pa_cons (pv 1) (pa_cons (pv 2) pa_nil rfl) rfl) rfl) (by decide) (by decide) rfl rfl) rfl (Or.inl rfl))
  pss_never), ?_⟩
    walk_at "goL"
    exact ⟨d, a, ns, ws, row, j, rfl, hd, hdo, hS, hw, hb, k⟩


theorem last_at {l : List Int} {n : Nat} (h : l.length = n + 1) : atI (l.map V.int) (-1) = some (.int (l.getD n 0)) := by
  unfold atI ixN
  rw [List.length_map, if_neg (by decide), if_pos (by omega)]
  have e : ((-1 : Int) + (l.length : Int)).toNat = n := by omega
  rw [e]
  show (l.map V.int)[n]? = _
  rw [List.getElem?_map, List.getElem?_eq_getElem (by omega), List.getD_eq_getElem?_getD, List.getElem?_eq_getElem (by omega)]
  rfl
def sp_mean (K : PySem.W.Frag) : Sp := fun vs H Q _ => ∃ d a, ∃ ns : List Int, ∃ ws row, vs = [.ref d, .ref a, .str (S row)] ∧ SqL K H d (ns.map V.int) ∧ DieOk ns ∧ SqL K H a (txs ws) ∧ RaceOk ns.length ws ∧ RowOk ns.length row ∧ endedF ws row = none ∧
  ∀ p H', Same H H' → H p = none → H' p = some (.tup (sh (mnq ns ws (stF ws row)))) → Sz 7340031 (mnq ns ws (stF ws row)) → Q (.ref p) H'
theorem sc_mean : FnScope ["die", "words", "row", "state", "begun", "numbers"] ["die", "words", "row"] (defScope s_mean) := ⟨rfl, rfl, rfl, by decide +kernel, rfl, by decide +kernel, by decide +kernel⟩
theorem ok_mean {f : Addr} {fd : FuncData} (F : Fun K "mean" "mean" s_mean f fd) (M : Bl mg) (T : Cs P mg) {f_state_of_open : Addr} {fd_state_of_open : FuncData} (D_state_of_open : Df P w K mg base "state_of_open" 42 f_state_of_open fd_state_of_open ["die", "words", "row"] (sp_state_of_open K)) {f_beginnings_of : Addr} {fd_beginnings_of : FuncData} (D_beginnings_of : Df P w K mg base "beginnings_of" 37 f_beginnings_of fd_beginnings_of ["words"] (sp_beginnings_of K)) {f_solved : Addr} {fd_solved : FuncData} (D_solved : Df P w K mg base "solved" 39 f_solved fd_solved ["die", "words", "state"] (sp_solved K)) {f_share_of : Addr} {fd_share_of : FuncData} (D_share_of : Df P w K mg base "share_of" 38 f_share_of fd_share_of ["top", "bottom"] (sp_share_of K)) : FnOk P w K mg base CX0 43 f fd ["die", "words", "row"] (sp_mean K) := by
  refine F.ok sc_mean (fun vs H Q E h => ?_) (fun cdv A outer s H vs Q E hr h => ?_)
  · obtain ⟨d, a, ns, ws, row, rfl, _⟩ := h; rfl
  · obtain ⟨d, a, ns, ws, row, rfl, hd, hdo, hS, hw, hro, hop, k⟩ := h
    have ne := hw.race.ne
    have hst := open_state hw hop
    have hbe := stF_beg ne row
    refine ⟨_, (pss_cons (ps_set (i := 3) sc_mean.nd rfl (Or.inl rfl) (pe_callD D_state_of_open hr (by rfl) (pa_cons (pv 0) (pa_cons (pv 1) (pa_cons (pv 2) pa_nil rfl) rfl) rfl) (by decide) (by decide) rfl rfl) rfl (Or.inl rfl))
  (pss_cons (ps_set (i := 4) sc_mean.nd rfl (Or.inl rfl) (pe_callD D_beginnings_of hr (by rfl) (pa_cons (pv 1) pa_nil rfl) (by decide) (by decide) rfl rfl) rfl (Or.inl rfl))
  (pss_cons (ps_set (i := 5) sc_mean.nd rfl (Or.inl rfl) (pe_callD D_solved hr (by rfl) (pa_cons (pv 0) (pa_cons (pv 1) (pa_cons (pv 3) pa_nil rfl) rfl) rfl) (by decide) (by decide) rfl rfl) rfl (Or.inl rfl))
  (pss_one (ps_ret (pe_callD D_share_of hr (by rfl) (pa_cons (pe_un un_neg (pe_ix (ix_listK K rfl) (pv 5) (pe_un un_neg pe_int) (fun _ _ => rfl))) (pa_cons (pe_ix (ix_listK K rfl) (pv 5) (pe_bmK K rfl PySem.F.plainAttrs_list PySem.F.slot_list_index PySem.F.type_list_index (mt_indexL K rfl) (pv 4) (pa_cons (pv 3) pa_nil rfl) rfl rfl rfl rfl rfl) (fun _ _ => rfl)) pa_nil rfl) rfl) (by decide) (by decide) rfl rfl)))))), ?_⟩
    walk_at "goL"
    refine ⟨d, a, ns, ws, row, rfl, hd, hdo, hS, hw, hro, hop, fun H1 s1 => ?_⟩
    walk_at "goL"
    refine ⟨a, ws, _, rfl, s1.seq hS, hw, fun rb bs H2 s2 nrb hrb hBO => ?_⟩
    have s12 := s1.trans s2
    have hB := hBO.l
    walk_at "goL"
    refine ⟨d, a, ns, ws, _, rfl, s12.seq hd, hdo, s12.seq hS, hw, hbe, hst, fun rn bs' nums H3 s3 hrn hBO' T => ?_⟩
    obtain rfl := hBO.uniq hBO'
    have s13 := s12.trans s3
    have hrb3 := s3 _ _ hrb
    have hsb := (hB.mem _).mpr hbe
    have own := T.own hw.race hB
    have nl : nums.length = bs.length + 1 := T.good.len
    have val : mnq ns ws (stF ws row) = Rat.divInt (-(nums.getD bs.length 0)) (nums.getD (bs.idxOf (stF ws row)) 0) := by
      obtain ⟨h1, h2⟩ := sol_ok hdo hw.race (fun _ => 0) 1
      exact T.mean hw.race hB hbe hst h1 h2
    walk_at "goL"
    refine g_ixL (SqL.of hrn) (last_at nl) ?_
    refine g_neg ?_
    walk_at "goL"
    refine g_idxL (SqL.of hrb3) hsb ?_
    refine g_ixL (SqL.of hrn) (ints_at (by have := idx_lt hsb; omega)) ?_
    walk_at "goL"
    refine ⟨_, _, rfl, own, fun p H5 s5 n5 e5 => ?_⟩
    refine k p H5 (s13.trans s5) (s13.free n5) (by rw [val]; exact e5) ?_
    rw [val]
    exact divInt_sz own (by rw [Int.natAbs_neg, ← bits20]; exact T.bits.at _) (by rw [← bits20]; exact T.bits.at _)

def sp_meanR (K : PySem.W.Frag) (c : Nat → Addr) : Sp := fun vs H Q E => ∃ d a, ∃ ns : List Int, ∃ ws row j, vs = [.ref d, .ref a, .str (S row)] ∧ SqL K H d (ns.map V.int) ∧ DieOk ns ∧ SqL K H a (txs ws) ∧ RaceOk ns.length ws ∧ RowBad ns.length ws row j ∧ ∀ H' ea, Same H H' → H' ea = none → E (.ref (c j)) (some ea) H'
theorem okR_mean {f : Addr} {fd : FuncData} (F : Fun K "mean" "mean" s_mean f fd) (M : Bl mg) (T : Cs P mg) (Y : Xc K mg c) {f_state_of_open : Addr} {fd_state_of_open : FuncData} (R_state_of_open : DfX P w K mg base "state_of_open" 42 f_state_of_open fd_state_of_open ["die", "words", "row"] (sp_state_of_openR K c)) : FnOk P w K mg base (CX1 P w) 43 f fd ["die", "words", "row"] (sp_meanR K c) := by
  refine F.okG sc_mean (fun vs H Q E h => ?_) (fun cdv A outer s H vs Q E hr h => ?_)
  · obtain ⟨d, a, ns, ws, row, j, rfl, _⟩ := h; rfl
  · obtain ⟨d, a, ns, ws, row, j, rfl, hd, hdo, hS, hw, hb, k⟩ := h
    refine ⟨_, (pss_cons (ps_set (i := 3) sc_mean.nd rfl (Or.inl rfl) (pe_callX pass1 R_state_of_open hr (by rfl) (pa_cons (pv 0) (pa_cons (pv 1) (pa_cons (pv 2) pa_nil rfl) rfl) rfl) (by decide) (by decide) rfl rfl) rfl (Or.inl rfl))
  pss_never), ?_⟩
    walk_at "goL"
    exact ⟨d, a, ns, ws, row, j, rfl, hd, hdo, hS, hw, hb, k⟩


def sp_law_asked (K : PySem.W.Frag) : Sp := fun vs H Q _ => ∃ t d a, ∃ ns : List Int, ∃ ws row, vs = [.int t, .ref d, .ref a, .str (S row)] ∧ SqL K H d (ns.map V.int) ∧ DieOk ns ∧ SqL K H a (txs ws) ∧ RaceOk ns.length ws ∧ RowOk ns.length row ∧ (endedF ws row = none ∨ t = 0 ∨ t = 1) ∧ ∀ v H', Same H H' → Q v H'
theorem sc_law_asked : FnScope ["turn", "die", "words", "row"] ["turn", "die", "words", "row"] (defScope s_law_asked) := ⟨rfl, rfl, rfl, by decide +kernel, rfl, by decide +kernel, by decide +kernel⟩
theorem ok_law_asked {f : Addr} {fd : FuncData} (F : Fun K "_law_asked" "_law_asked" s_law_asked f fd) (M : Bl mg) (T : Cs P mg) {f_mean : Addr} {fd_mean : FuncData} (D_mean : Df P w K mg base "mean" 43 f_mean fd_mean ["die", "words", "row"] (sp_mean K)) {f_state_of : Addr} {fd_state_of : FuncData} (D_state_of : Df P w K mg base "state_of" 41 f_state_of fd_state_of ["die", "words", "row"] (sp_state_of K)) {f_ended : Addr} {fd_ended : FuncData} (D_ended : Df P w K mg base "ended" 41 f_ended fd_ended ["die", "words", "row"] (sp_ended K)) {f_shares : Addr} {fd_shares : FuncData} (D_shares : Df P w K mg base "shares" 43 f_shares fd_shares ["die", "words", "row"] (sp_shares K)) : FnOk P w K mg base CX0 44 f fd ["turn", "die", "words", "row"] (sp_law_asked K) := by
  refine F.ok sc_law_asked (fun vs H Q E h => ?_) (fun cdv A outer s H vs Q E hr h => ?_)
  · obtain ⟨t, d, a, ns, ws, row, rfl, _⟩ := h; rfl
  · obtain ⟨t, d, a, ns, ws, row, rfl, hd, hdo, hS, hw, hro, hop, k⟩ := h
    refine ⟨_, (pss_cons (ps_if (pt_cmpR op_eq (pv 0) pe_int (nomark _))
  (pss_one (ps_ret (pe_callD D_state_of hr (by rfl) (pa_cons (pv 1) (pa_cons (pv 2) (pa_cons (pv 3) pa_nil rfl) rfl) rfl) (by decide) (by decide) rfl rfl)))
  pss_nil)
  (pss_cons (ps_if (pt_cmpR op_eq (pv 0) pe_int (nomark _))
  (pss_one (ps_ret (pe_callD D_ended hr (by rfl) (pa_cons (pv 1) (pa_cons (pv 2) (pa_cons (pv 3) pa_nil rfl) rfl) rfl) (by decide) (by decide) rfl rfl)))
  pss_nil)
  (pss_cons (ps_if (pt_cmpR op_eq (pv 0) pe_int (nomark _))
  (pss_one (ps_ret (pe_callD D_shares hr (by rfl) (pa_cons (pv 1) (pa_cons (pv 2) (pa_cons (pv 3) pa_nil rfl) rfl) rfl) (by decide) (by decide) rfl rfl)))
  pss_nil)
  (pss_one (ps_ret (pe_callD D_mean hr (by rfl) (pa_cons (pv 1) (pa_cons (pv 2) (pa_cons (pv 3) pa_nil rfl) rfl) rfl) (by decide) (by decide) rfl rfl)))))), ?_⟩
    walk_at "goL"
    refine g_ite (fun _ => ?_) (fun h0 => ?_)
    · walk_at "goL"
      exact ⟨d, a, ns, ws, row, rfl, hd, hdo, hS, hw, hro, fun H1 s1 => k _ _ s1⟩
    walk_at "goL"
    refine g_ite (fun _ => ?_) (fun h1 => ?_)
    · walk_at "goL"
      exact ⟨d, a, ns, ws, row, rfl, hd, hdo, hS, hw, hro, fun v H1 s1 _ => k _ _ s1⟩
    have hop' : endedF ws row = none := hop.resolve_right fun z => z.elim h0 h1
    walk_at "goL"
    refine g_ite (fun _ => ?_) (fun _ => ?_)
    · walk_at "goL"
      exact ⟨d, a, ns, ws, row, rfl, hd, hdo, hS, hw, hro, hop', fun r ps H1 s1 _ _ _ _ => k _ _ s1⟩
    walk_at "goL"
    exact ⟨d, a, ns, ws, row, rfl, hd, hdo, hS, hw, hro, hop', fun p H1 s1 _ _ _ => k _ _ s1⟩

def sp_law_askedR (K : PySem.W.Frag) (c : Nat → Addr) : Sp := fun vs H Q E => ∃ t d a, ∃ ns : List Int, ∃ ws row j, vs = [.int t, .ref d, .ref a, .str (S row)] ∧ SqL K H d (ns.map V.int) ∧ DieOk ns ∧ SqL K H a (txs ws) ∧ RaceOk ns.length ws ∧ RowBad ns.length ws row j ∧ (j = 3 ∨ (t ≠ 0 ∧ t ≠ 1)) ∧ ∀ H' ea, Same H H' → H' ea = none → E (.ref (c j)) (some ea) H'
theorem okR_law_asked {f : Addr} {fd : FuncData} (F : Fun K "_law_asked" "_law_asked" s_law_asked f fd) (M : Bl mg) (T : Cs P mg) (Y : Xc K mg c) {f_state_of : Addr} {fd_state_of : FuncData} (R_state_of : DfX P w K mg base "state_of" 41 f_state_of fd_state_of ["die", "words", "row"] (sp_state_ofR K c)) {f_ended : Addr} {fd_ended : FuncData} (R_ended : DfX P w K mg base "ended" 41 f_ended fd_ended ["die", "words", "row"] (sp_endedR K c)) {f_shares : Addr} {fd_shares : FuncData} (R_shares : DfX P w K mg base "shares" 43 f_shares fd_shares ["die", "words", "row"] (sp_sharesR K c)) {f_mean : Addr} {fd_mean : FuncData} (R_mean : DfX P w K mg base "mean" 43 f_mean fd_mean ["die", "words", "row"] (sp_meanR K c)) : FnOk P w K mg base (CX1 P w) 44 f fd ["turn", "die", "words", "row"] (sp_law_askedR K c) := by
  refine F.okG sc_law_asked (fun vs H Q E h => ?_) (fun cdv A outer s H vs Q E hr h => ?_)
  · obtain ⟨t, d, a, ns, ws, row, j, rfl, _⟩ := h; rfl
  · obtain ⟨t, d, a, ns, ws, row, j, rfl, hd, hdo, hS, hw, hb, hj, k⟩ := h
    have h3 : (t = 0 ∨ t = 1) → j = 3 ∧ ¬ RowOk ns.length row := fun ht => by
      have e : j = 3 := hj.resolve_right fun z => ht.elim z.1 z.2
      rcases hb.2 with z | ⟨z, _⟩
      · exact z
      · rw [e] at z; cases z
    refine ⟨_, (pss_cons (ps_if (pt_cmpR op_eq (pv 0) pe_int (nomark _))
  (pss_one (ps_ret (pe_callX pass1 R_state_of hr (by rfl) (pa_cons (pv 1) (pa_cons (pv 2) (pa_cons (pv 3) pa_nil rfl) rfl) rfl) (by decide) (by decide) rfl rfl)))
  pss_nil)
  (pss_cons (ps_if (pt_cmpR op_eq (pv 0) pe_int (nomark _))
  (pss_one (ps_ret (pe_callX pass1 R_ended hr (by rfl) (pa_cons (pv 1) (pa_cons (pv 2) (pa_cons (pv 3) pa_nil rfl) rfl) rfl) (by decide) (by decide) rfl rfl)))
  pss_nil)
  (pss_cons (ps_if (pt_cmpR op_eq (pv 0) pe_int (nomark _))
  (pss_one (ps_ret (pe_callX pass1 R_shares hr (by rfl) (pa_cons (pv 1) (pa_cons (pv 2) (pa_cons (pv 3) pa_nil rfl) rfl) rfl) (by decide) (by decide) rfl rfl)))
  pss_nil)
  (pss_one (ps_ret (pe_callX pass1 R_mean hr (by rfl) (pa_cons (pv 1) (pa_cons (pv 2) (pa_cons (pv 3) pa_nil rfl) rfl) rfl) (by decide) (by decide) rfl rfl)))))), ?_⟩
    walk_at "goL"
    refine g_ite (fun h0 => ?_) (fun h0 => ?_)
    · walk_at "goL"
      obtain ⟨rfl, h3'⟩ := h3 (.inl h0)
      exact ⟨d, a, ns, ws, row, rfl, hd, hdo, hS, hw, hb.1, h3', k⟩
    walk_at "goL"
    refine g_ite (fun h1 => ?_) (fun h1 => ?_)
    · walk_at "goL"
      obtain ⟨rfl, h3'⟩ := h3 (.inr h1)
      exact ⟨d, a, ns, ws, row, rfl, hd, hdo, hS, hw, hb.1, h3', k⟩
    walk_at "goL"
    refine g_ite (fun _ => ?_) (fun _ => ?_)
    · walk_at "goL"
      exact ⟨d, a, ns, ws, row, j, rfl, hd, hdo, hS, hw, hb, k⟩
    walk_at "goL"
    exact ⟨d, a, ns, ws, row, j, rfl, hd, hdo, hS, hw, hb, k⟩


/-- what is told of a call: its kind's number, 7 where it is done -/
def triedT (j : Nat) : List Nat := if j = 7 then [100, 111, 110, 101] else kindT j
def sp_law_tried (K : PySem.W.Frag) (c : Nat → Addr) : Sp := fun vs H Q _ => ∃ t d a g, ∃ ns : List Int, ∃ ws, ∃ j : Nat, vs = [.int t, .ref d, .ref a, g] ∧ SqL K H d (ns.map V.int) ∧ DieOk ns ∧ SqL K H a (txs ws) ∧ RaceOk ns.length ws ∧
  (((t = 4 ∨ t = 5) ∧ ∃ n : Int, g = .int n ∧ ((j = 3 ∧ (n < 0 ∨ 60 < n)) ∨ (j = 7 ∧ 0 ≤ n ∧ n ≤ 60))) ∨
   (t ≠ 4 ∧ t ≠ 5 ∧ ∃ row, g = .str (S row) ∧ ((RowBad ns.length ws row j ∧ (j = 3 ∨ (t ≠ 0 ∧ t ≠ 1))) ∨ (j = 7 ∧ RowOk ns.length row ∧ (endedF ws row = none ∨ t = 0 ∨ t = 1))))) ∧
  ∀ H', Same H H' → Q (.str (S (triedT j))) H'
theorem sc_law_tried : FnScope ["turn", "die", "words", "given", "e"] ["turn", "die", "words", "given"] (defScope s_law_tried) := ⟨rfl, rfl, rfl, by decide +kernel, rfl, by decide +kernel, by decide +kernel⟩
theorem okT_law_tried {f : Addr} {fd : FuncData} (F : Fun K "_law_tried" "_law_tried" s_law_tried f fd) (M : Bl mg) (T : Cs P mg) (Y : Xc K mg c) {f_open_rows : Addr} {fd_open_rows : FuncData} (D_open_rows : Df P w K mg base "open_rows" 41 f_open_rows fd_open_rows ["die", "words", "many"] (sp_open_rows K)) (R_open_rows : DfX P w K mg base "open_rows" 41 f_open_rows fd_open_rows ["die", "words", "many"] (sp_open_rowsR K c)) {f_ended_rows : Addr} {fd_ended_rows : FuncData} (D_ended_rows : Df P w K mg base "ended_rows" 41 f_ended_rows fd_ended_rows ["die", "words", "many"] (sp_ended_rows K)) (R_ended_rows : DfX P w K mg base "ended_rows" 41 f_ended_rows fd_ended_rows ["die", "words", "many"] (sp_ended_rowsR K c)) {f_law_asked : Addr} {fd_law_asked : FuncData} (D_law_asked : Df P w K mg base "_law_asked" 44 f_law_asked fd_law_asked ["turn", "die", "words", "row"] (sp_law_asked K)) (R_law_asked : DfX P w K mg base "_law_asked" 44 f_law_asked fd_law_asked ["turn", "die", "words", "row"] (sp_law_askedR K c)) {f_law_kind : Addr} {fd_law_kind : FuncData} (Q_law_kind : DfM P w K mg base "_law_kind" 37 f_law_kind fd_law_kind ["e"] (sp_law_kind K c)) : FnOk P w K mg base CX0 45 f fd ["turn", "die", "words", "given"] (sp_law_tried K c) := by
  refine F.okG sc_law_tried (fun vs H Q E h => ?_) (fun cdv A outer s H vs Q E hr h => ?_)
  · obtain ⟨t, d, a, g, ns, ws, j, rfl, _⟩ := h; rfl
  · obtain ⟨t, d, a, g, ns, ws, j, rfl, hd, hdo, hS, hw, hb, k⟩ := h
    by_cases h7 : j = 7
    · subst h7
      refine ⟨_, (pss_cons (ps_try0 (pss_one (ps_if (pt_cmpR op_eq (pv 0) pe_int (nomark _))
    (pss_one (ps_expr (pe_callD D_open_rows hr (by rfl) (pa_cons (pv 1) (pa_cons (pv 2) (pa_cons (pv 3) pa_nil rfl) rfl) rfl) (by decide) (by decide) rfl rfl) rfl))
    (pss_one (ps_if (pt_cmpR op_eq (pv 0) pe_int (nomark _))
      (pss_one (ps_expr (pe_callD D_ended_rows hr (by rfl) (pa_cons (pv 1) (pa_cons (pv 2) (pa_cons (pv 3) pa_nil rfl) rfl) rfl) (by decide) (by decide) rfl rfl) rfl))
      (pss_one (ps_expr (pe_callD D_law_asked hr (by rfl) (pa_cons (pv 0) (pa_cons (pv 1) (pa_cons (pv 2) (pa_cons (pv 3) pa_nil rfl) rfl) rfl) rfl) (by decide) (by decide) rfl rfl) rfl)))))))
  (pss_one (ps_ret (pe_strS [100, 111, 110, 101] (by decide +kernel))))), ?_⟩
      walk_at "goL"
      rcases hb with ⟨ht, n, rfl, hn⟩ | ⟨h4, h5, row, rfl, hb⟩
      · have hn : 0 ≤ n ∧ n ≤ 60 := by
          rcases hn with ⟨z, _⟩ | ⟨_, z⟩
          · cases z
          · exact z
        obtain ⟨m, rfl⟩ := Int.eq_ofNat_of_zero_le hn.1
        refine g_ite (fun h4 => ?_) (fun h4 => ?_)
        · walk_at "goL"
          refine ⟨d, a, ns, ws, m, rfl, hd, hdo, hS, hw, by omega, fun H1 s1 => ?_⟩
          walk_at "goL"
          exact k _ s1
        walk_at "goL"
        refine iteTd (ht.resolve_left h4) ?_
        walk_at "goL"
        refine ⟨d, a, ns, ws, m, rfl, hd, hdo, hS, hw, by omega, fun r H1 s1 _ _ => ?_⟩
        walk_at "goL"
        exact k _ s1
      · have hb : RowOk ns.length row ∧ (endedF ws row = none ∨ t = 0 ∨ t = 1) := by
          rcases hb with ⟨⟨_, z⟩, _⟩ | ⟨_, z⟩
          · rcases z with ⟨z, _⟩ | ⟨z, _⟩ <;> cases z
          · exact z
        refine iteFd h4 ?_
        walk_at "goL"
        refine iteFd h5 ?_
        walk_at "goL"
        refine ⟨t, d, a, ns, ws, row, rfl, hd, hdo, hS, hw, hb.1, hb.2, fun v H1 s1 => ?_⟩
        walk_at "goL"
        exact k _ s1
    · have e7 : triedT j = kindT j := if_neg h7
      rw [e7] at k
      refine ⟨_, (pss_cons (ps_tryR (i := 4) sc_law_tried.nd rfl rfl (Y.e 7 (by decide) Y.m7) (by rfl) (fun xe pn E2 hx => (pss_one (ps_if (pt_cmpR op_eq (pv 0) pe_int (nomark _))
    (pss_one (ps_expr (pe_callX hx R_open_rows hr (by rfl) (pa_cons (pv 1) (pa_cons (pv 2) (pa_cons (pv 3) pa_nil rfl) rfl) rfl) (by decide) (by decide) rfl rfl) rfl))
    (pss_one (ps_if (pt_cmpR op_eq (pv 0) pe_int (nomark _))
      (pss_one (ps_expr (pe_callX hx R_ended_rows hr (by rfl) (pa_cons (pv 1) (pa_cons (pv 2) (pa_cons (pv 3) pa_nil rfl) rfl) rfl) (by decide) (by decide) rfl rfl) rfl))
      (pss_one (ps_expr (pe_callX hx R_law_asked hr (by rfl) (pa_cons (pv 0) (pa_cons (pv 1) (pa_cons (pv 2) (pa_cons (pv 3) pa_nil rfl) rfl) rfl) rfl) (by decide) (by decide) rfl rfl) rfl))))))) (fun ea => (pss_one (ps_ret (pe_callM Q_law_kind (hr.toM _) (by rfl) (pa_cons (pv 4) pa_nil rfl) (by decide) (by decide) rfl rfl)))) (by decide))
  (pss_one (ps_ret (pe_strS [100, 111, 110, 101] (by decide +kernel))))), ?_⟩
      walk_at "goL"
      refine g_try ?_
      walk_at "goL"
      rcases hb with ⟨ht, n, rfl, hn⟩ | ⟨h4, h5, row, rfl, hb⟩
      · obtain ⟨rfl, hn'⟩ := hn.resolve_right fun z => h7 z.1
        refine g_ite (fun h4 => ?_) (fun h4 => ?_)
        · walk_at "goL"
          refine ⟨d, a, ns, ws, n, rfl, hd, hdo, hS, hw, hn', fun H1 ea s1 he => ⟨ea, c 3, rfl, rfl, Y.sb 3 (by decide), fun σ' hσ => ?_⟩⟩
          walk_at "goL"
          refine g_varT ⟨_, hσ, ?_⟩
          walk_at "goL"
          exact ⟨ea, 3, rfl, by decide, upd_same, fun H2 s2 => k H2 ((same_upd s1 (s1.free he)).trans s2)⟩
        walk_at "goL"
        refine iteTd (ht.resolve_left h4) ?_
        walk_at "goL"
        refine ⟨d, a, ns, ws, n, rfl, hd, hdo, hS, hw, hn', fun H1 ea s1 he => ⟨ea, c 3, rfl, rfl, Y.sb 3 (by decide), fun σ' hσ => ?_⟩⟩
        walk_at "goL"
        refine g_varT ⟨_, hσ, ?_⟩
        walk_at "goL"
        exact ⟨ea, 3, rfl, by decide, upd_same, fun H2 s2 => k H2 ((same_upd s1 (s1.free he)).trans s2)⟩
      · obtain ⟨hb, hj⟩ := hb.resolve_right fun z => h7 z.1
        have hlt : j < 7 := by rcases hb.2 with ⟨z, _⟩ | ⟨z, _⟩ <;> omega
        refine iteFd h4 ?_
        walk_at "goL"
        refine iteFd h5 ?_
        walk_at "goL"
        refine ⟨t, d, a, ns, ws, row, j, rfl, hd, hdo, hS, hw, hb, hj, fun H1 ea s1 he => ⟨ea, c j, rfl, rfl, Y.sb j hlt, fun σ' hσ => ?_⟩⟩
        walk_at "goL"
        refine g_varT ⟨_, hσ, ?_⟩
        walk_at "goL"
        exact ⟨ea, j, rfl, hlt, upd_same, fun H2 s2 => k H2 ((same_upd s1 (s1.free he)).trans s2)⟩


def sp_law (K : PySem.W.Frag) : Sp := fun vs H Q _ => ∃ (a : Addr) (ns : List Int), vs = [.ref a] ∧ SqL K H a (ns.map V.int) ∧ ns.length ≤ 63 ∧ ∀ H', Q (.bl true) H'
theorem endAt_of {ws : List (List Nat)} {row : List Nat} (h : endedF ws row = none) {t : Nat} (ht : t < row.length) {w : List Nat} (hw : w ∈ ws) : ¬ w <:+ row.take (t + 1) := fun hs => by
  unfold endedF at h
  rw [List.findSome?_eq_none_iff] at h
  have z := h t (List.mem_range.mpr ht)
  unfold endAt at z
  rw [Option.map_eq_none_iff, List.findIdx?_eq_none_iff] at z
  have := z w hw
  rw [List.isSuffixOf_iff_suffix.mpr hs] at this
  cases this
theorem ended_pre {ws : List (List Nat)} {row : List Nat} (h : endedF ws row = none) (m : Nat) : endedF ws (row.take m) = none := by
  refine endedF_none fun t ht => ?_
  rw [List.length_take] at ht
  unfold endedF at h
  rw [List.findSome?_eq_none_iff] at h
  have z := h t (List.mem_range.mpr (by omega))
  unfold endAt at z ⊢
  rw [List.take_take, Nat.min_eq_left (by omega)]
  exact z
theorem over_of {n : Nat} {ws : List (List Nat)} (R : RaceOk n ws) {l r w : List Nat} (hw : w ∈ ws) : endedF ws (l ++ w ++ r) ≠ none := fun h => by
  have h1 := (R.w w hw).lo
  have hlen : (l ++ w ++ r).length = l.length + w.length + r.length := by simp; omega
  refine endAt_of h (t := l.length + w.length - 1) (by omega) hw ?_
  rw [show l.length + w.length - 1 + 1 = (l ++ w).length by rw [List.length_append]; omega, List.take_left]
  exact List.suffix_append l w
theorem bad_sign {n : Nat} (h : n ≤ 4) (h2 : 2 ≤ n) (v : Int) : ∃ x, atI ([[[97, 98, 99, 100, 101].getD n 0], [65], [32], [49], [45]].map fun l => V.str (S l)) (v % 5) = some (.str (S [x])) ∧ x ∉ abcd.take n := by
  obtain ⟨j, ej⟩ := Int.eq_ofNat_of_zero_le (Int.emod_nonneg v (show (5 : Int) ≠ 0 by decide))
  have hj : j < 5 := by have := Int.emod_lt_of_pos v (show (0 : Int) < 5 by decide); omega
  rw [ej]
  have key : ∀ n, n ≤ 4 → ∀ j, j < 5 → ([[97, 98, 99, 100, 101].getD n 0, 65, 32, 49, 45].getD j 0) ∉ abcd.take n := by decide
  match j, hj with
  | 0, _ => exact ⟨_, rfl, key n h 0 (by decide)⟩
  | 1, _ => exact ⟨_, rfl, key n h 1 (by decide)⟩
  | 2, _ => exact ⟨_, rfl, key n h 2 (by decide)⟩
  | 3, _ => exact ⟨_, rfl, key n h 3 (by decide)⟩
  | 4, _ => exact ⟨_, rfl, key n h 4 (by decide)⟩
theorem e_at {n : Nat} (h : n ≤ 4) : atI [97, 98, 99, 100, 101] (n : Int) = some ([97, 98, 99, 100, 101].getD n 0) := by
  match n, h with
  | 0, _ => rfl
  | 1, _ => rfl
  | 2, _ => rfl
  | 3, _ => rfl
  | 4, _ => rfl
theorem many_bad (f v : Int) (hf : 0 ≤ f) : ∃ n : Int, atI [V.int (-1), .int 61, .int (-1 - f), .int (61 + f)] (v % 4) = some (.int n) ∧ (n < 0 ∨ 60 < n) := by
  obtain ⟨j, ej⟩ := Int.eq_ofNat_of_zero_le (Int.emod_nonneg v (show (4 : Int) ≠ 0 by decide))
  have hj : j < 4 := by have := Int.emod_lt_of_pos v (show (0 : Int) < 4 by decide); omega
  rw [ej]
  match j, hj with
  | 0, _ => exact ⟨_, rfl, by omega⟩
  | 1, _ => exact ⟨_, rfl, by omega⟩
  | 2, _ => exact ⟨_, rfl, by omega⟩
  | 3, _ => exact ⟨_, rfl, by omega⟩
theorem due_at {i : Nat} (h : i < 4) : ∃ j, atI ([[100, 111, 110, 101], [100, 111, 110, 101], [111, 118, 101, 114], [111, 118, 101, 114]].map fun l => V.str (S l)) ((0 : Int) + (i : Int)) = some (.str (S (triedT j))) ∧ ((j = 7 ∧ (0 + (i : Int) = 0 ∨ 0 + (i : Int) = 1)) ∨ (j = 4 ∧ 0 + (i : Int) ≠ 0 ∧ 0 + (i : Int) ≠ 1)) := by
  match i, h with
  | 0, _ => exact ⟨7, rfl, .inl ⟨rfl, .inl rfl⟩⟩
  | 1, _ => exact ⟨7, rfl, .inl ⟨rfl, .inr rfl⟩⟩
  | 2, _ => exact ⟨4, rfl, .inr ⟨rfl, by decide, by decide⟩⟩
  | 3, _ => exact ⟨4, rfl, .inr ⟨rfl, by decide, by decide⟩⟩
theorem a_race {n : Nat} (h : 2 ≤ n) : RaceOk n [[97]] := ⟨by decide, by decide, fun l hl => by
  rw [List.mem_singleton.mp hl]
  obtain ⟨m, rfl⟩ : ∃ m, n = m + 1 := ⟨n - 1, by omega⟩
  exact ⟨by decide, by decide, fun c hc => by rw [List.mem_singleton.mp hc]; exact List.mem_cons_self⟩, List.pairwise_singleton ..⟩
theorem sc_law : FnScope ["script", "die", "words", "row", "at", "bad", "turn", "still", "taken", "far", "many"] ["script"] (defScope s_law) := ⟨rfl, rfl, rfl, by decide +kernel, rfl, by decide +kernel, by decide +kernel⟩
theorem ok_law {f : Addr} {fd : FuncData} (F : Fun K "law" "law" s_law f fd) (M : Bl mg) (T : Cs P mg) {f_law_die : Addr} {fd_law_die : FuncData} (D_law_die : Df P w K mg base "_law_die" 38 f_law_die fd_law_die ["cell"] (sp_law_die K)) {f_law_thrown : Addr} {fd_law_thrown : FuncData} (D_law_thrown : Df P w K mg base "_law_thrown" 38 f_law_thrown fd_law_thrown ["cell", "many", "signs"] (sp_law_thrown K)) {f_law_words : Addr} {fd_law_words : FuncData} (D_law_words : Df P w K mg base "_law_words" 40 f_law_words fd_law_words ["script", "at", "signs"] (sp_law_words K)) {f_law_cell_at : Addr} {fd_law_cell_at : FuncData} (D_law_cell_at : Df P w K mg base "_law_cell_at" 37 f_law_cell_at fd_law_cell_at ["script", "k"] (sp_law_cell_at K)) {f_law_open : Addr} {fd_law_open : FuncData} (D_law_open : Df P w K mg base "_law_open" 37 f_law_open fd_law_open ["words", "row"] (sp_law_open K)) {f_law_tried : Addr} {fd_law_tried : FuncData} (D_law_tried : Df P w K mg base "_law_tried" 45 f_law_tried fd_law_tried ["turn", "die", "words", "given"] (sp_law_tried K c)) : FnOk P w K mg base CX0 46 f fd ["script"] (sp_law K) := by
  refine F.ok sc_law (fun vs H Q E h => ?_) (fun cdv A outer s H vs Q E hr h => ?_)
  · obtain ⟨a, ns, rfl, _⟩ := h; rfl
  · obtain ⟨a, sc, rfl, hS, hlen, k⟩ := h
    refine ⟨_, (pss_cons (ps_set (i := 1) sc_law.nd rfl (Or.inl rfl) (pe_callD D_law_die hr (by rfl) (pa_cons (pe_op op_mod (pe_callD D_law_cell_at hr (by rfl) (pa_cons (pv 0) (pa_cons pe_int pa_nil rfl) rfl) (by decide) (by decide) rfl rfl) pe_int) pa_nil rfl) (by decide) (by decide) rfl rfl) rfl (Or.inl rfl))
  (pss_cons (ps_set (i := 2) sc_law.nd rfl (Or.inl rfl) (pe_slice (sl_listK K rfl) (pe_callD D_law_words hr (by rfl) (pa_cons (pv 0) (pa_cons pe_int (pa_cons (pe_callB (call_lenK K rfl) (by rfl) M.len PySem.boot_len (pa_cons (pv 1) pa_nil rfl) (by decide) (by decide) rfl rfl) pa_nil rfl) rfl) rfl) (by decide) (by decide) rfl rfl) po_none (po_some pe_int)) rfl (Or.inl rfl))
  (pss_cons (ps_set (i := 3) sc_law.nd rfl (Or.inl rfl) (pe_callD D_law_thrown hr (by rfl) (pa_cons (pe_callD D_law_cell_at hr (by rfl) (pa_cons (pv 0) (pa_cons pe_int pa_nil rfl) rfl) (by decide) (by decide) rfl rfl) (pa_cons pe_int (pa_cons (pe_callB (call_lenK K rfl) (by rfl) M.len PySem.boot_len (pa_cons (pv 1) pa_nil rfl) (by decide) (by decide) rfl rfl) pa_nil rfl) rfl) rfl) (by decide) (by decide) rfl rfl) rfl (Or.inl rfl))
  (pss_cons (ps_set (i := 4) sc_law.nd rfl (Or.inl rfl) (pe_op op_mod (pe_callD D_law_cell_at hr (by rfl) (pa_cons (pv 0) (pa_cons pe_int pa_nil rfl) rfl) (by decide) (by decide) rfl rfl) pe_int) rfl (Or.inl rfl))
  (pss_cons (ps_set (i := 5) sc_law.nd rfl (Or.inl rfl) (pe_op op_addS (pv 3) (pe_slice sl_str (pv 3) po_none (po_some (pe_op op_add pe_int (pe_op op_mod (pe_callD D_law_cell_at hr (by rfl) (pa_cons (pv 0) (pa_cons pe_int pa_nil rfl) rfl) (by decide) (by decide) rfl rfl) pe_int))))) rfl (Or.inl rfl))
  (pss_cons (ps_if (pt_cmpR op_eq (pe_op op_mod (pe_callD D_law_cell_at hr (by rfl) (pa_cons (pv 0) (pa_cons pe_int pa_nil rfl) rfl) (by decide) (by decide) rfl rfl) pe_int) pe_int (nomark _))
  (pss_one (ps_set (i := 5) sc_law.nd rfl (Or.inl rfl) (pe_op op_addS (pe_op op_addS (pe_slice sl_str (pv 3) po_none (po_some (pv 4))) (pe_ix (ix_listK K rfl) (pe_lst (pa_cons (pe_ix ix_S (pe_strS [97, 98, 99, 100, 101] (by decide +kernel)) (pe_callB (call_lenK K rfl) (by rfl) M.len PySem.boot_len (pa_cons (pv 1) pa_nil rfl) (by decide) (by decide) rfl rfl) (fun _ _ => rfl)) (pa_cons (pe_strS [65] (by decide +kernel)) (pa_cons (pe_strS [32] (by decide +kernel)) (pa_cons (pe_strS [49] (by decide +kernel)) (pa_cons (pe_strS [45] (by decide +kernel)) pa_nil rfl) rfl) rfl) rfl) rfl)) (pe_op op_mod (pe_callD D_law_cell_at hr (by rfl) (pa_cons (pv 0) (pa_cons pe_int pa_nil rfl) rfl) (by decide) (by decide) rfl rfl) pe_int) (fun _ _ => rfl))) (pe_slice sl_str (pv 3) (po_some (pe_op op_add (pv 4) pe_int)) po_none)) rfl (Or.inl rfl)))
  pss_nil)
  (pss_cons (ps_for PassesOwn.never rfl (pi_range1 (by rfl) M.range (pa_cons pe_int pa_nil rfl) rfl) (pg_name (i := 6) sc_law.nd rfl (Or.inl rfl) (Or.inl rfl))
  (pss_one (ps_if (pt_cmpR op_ne (pe_callD D_law_tried hr (by rfl) (pa_cons (pv 6) (pa_cons (pe_callTy (call_listK K rfl) (by rfl) M.list boot_list (pa_cons (pv 1) pa_nil rfl) (by decide) (by decide) rfl rfl) (pa_cons (pe_callTy (call_listK K rfl) (by rfl) M.list boot_list (pa_cons (pv 2) pa_nil rfl) (by decide) (by decide) rfl rfl) (pa_cons (pv 5) pa_nil rfl) rfl) rfl) rfl) (by decide) (by decide) rfl rfl) (pe_strS [114, 111, 119] (by decide +kernel)) (nomark _))
    (pss_one (ps_ret pe_bl))
    pss_nil)) (fun _ => rfl))
  (pss_cons (ps_set (i := 7) sc_law.nd rfl (Or.inl rfl) (pe_slice sl_str (pe_callD D_law_open hr (by rfl) (pa_cons (pv 2) (pa_cons (pv 3) pa_nil rfl) rfl) (by decide) (by decide) rfl rfl) po_none (po_some pe_int)) rfl (Or.inl rfl))
  (pss_cons (ps_set (i := 8) sc_law.nd rfl (Or.inl rfl) (pe_op op_addS (pe_op op_addS (pv 7) (pe_ix (ix_listK K rfl) (pv 2) (pe_op op_mod (pe_callD D_law_cell_at hr (by rfl) (pa_cons (pv 0) (pa_cons pe_int pa_nil rfl) rfl) (by decide) (by decide) rfl rfl) (pe_callB (call_lenK K rfl) (by rfl) M.len PySem.boot_len (pa_cons (pv 2) pa_nil rfl) (by decide) (by decide) rfl rfl)) (fun _ _ => rfl))) (pe_slice sl_str (pv 3) po_none (po_some (pe_op op_mod (pe_callD D_law_cell_at hr (by rfl) (pa_cons (pv 0) (pa_cons pe_int pa_nil rfl) rfl) (by decide) (by decide) rfl rfl) pe_int)))) rfl (Or.inl rfl))
  (pss_cons (ps_for PassesOwn.never rfl (pi_range1 (by rfl) M.range (pa_cons pe_int pa_nil rfl) rfl) (pg_name (i := 6) sc_law.nd rfl (Or.inl rfl) (Or.inl rfl))
  (pss_cons (ps_if (pt_cmpR op_ne (pe_callD D_law_tried hr (by rfl) (pa_cons (pv 6) (pa_cons (pe_callTy (call_listK K rfl) (by rfl) M.list boot_list (pa_cons (pv 1) pa_nil rfl) (by decide) (by decide) rfl rfl) (pa_cons (pe_callTy (call_listK K rfl) (by rfl) M.list boot_list (pa_cons (pv 2) pa_nil rfl) (by decide) (by decide) rfl rfl) (pa_cons (pv 8) pa_nil rfl) rfl) rfl) rfl) (by decide) (by decide) rfl rfl) (pe_ix (ix_listK K rfl) (pe_lst (pa_cons (pe_strS [100, 111, 110, 101] (by decide +kernel)) (pa_cons (pe_strS [100, 111, 110, 101] (by decide +kernel)) (pa_cons (pe_strS [111, 118, 101, 114] (by decide +kernel)) (pa_cons (pe_strS [111, 118, 101, 114] (by decide +kernel)) pa_nil rfl) rfl) rfl) rfl)) (pv 6) (fun _ _ => rfl)) (nomark _))
    (pss_one (ps_ret pe_bl))
    pss_nil)
    (pss_one (ps_if (pt_cmpR op_ne (pe_callD D_law_tried hr (by rfl) (pa_cons (pv 6) (pa_cons (pe_callTy (call_listK K rfl) (by rfl) M.list boot_list (pa_cons (pv 1) pa_nil rfl) (by decide) (by decide) rfl rfl) (pa_cons (pe_callTy (call_listK K rfl) (by rfl) M.list boot_list (pa_cons (pv 2) pa_nil rfl) (by decide) (by decide) rfl rfl) (pa_cons (pv 7) pa_nil rfl) rfl) rfl) rfl) (by decide) (by decide) rfl rfl) (pe_strS [100, 111, 110, 101] (by decide +kernel)) (nomark _))
    (pss_one (ps_ret pe_bl))
    pss_nil))) (fun _ => rfl))
  (pss_cons (ps_set (i := 9) sc_law.nd rfl (Or.inl rfl) (pe_op op_mod (pe_callD D_law_cell_at hr (by rfl) (pa_cons (pv 0) (pa_cons pe_int pa_nil rfl) rfl) (by decide) (by decide) rfl rfl) (pe_op op_pow pe_int pe_int)) rfl (Or.inl rfl))
  (pss_cons (ps_set (i := 10) sc_law.nd rfl (Or.inl rfl) (pe_ix (ix_listK K rfl) (pe_lst (pa_cons (pe_un un_neg pe_int) (pa_cons pe_int (pa_cons (pe_op op_sub (pe_un un_neg pe_int) (pv 9)) (pa_cons (pe_op op_add pe_int (pv 9)) pa_nil rfl) rfl) rfl) rfl)) (pe_op op_mod (pe_callD D_law_cell_at hr (by rfl) (pa_cons (pv 0) (pa_cons pe_int pa_nil rfl) rfl) (by decide) (by decide) rfl rfl) pe_int) (fun _ _ => rfl)) rfl (Or.inl rfl))
  (pss_cons (ps_for PassesOwn.never rfl (pi_range2 (by rfl) M.range (pa_cons pe_int (pa_cons pe_int pa_nil rfl) rfl) rfl rfl) (pg_name (i := 6) sc_law.nd rfl (Or.inl rfl) (Or.inl rfl))
  (pss_cons (ps_if (pt_cmpR op_ne (pe_callD D_law_tried hr (by rfl) (pa_cons (pv 6) (pa_cons (pe_callTy (call_listK K rfl) (by rfl) M.list boot_list (pa_cons (pv 1) pa_nil rfl) (by decide) (by decide) rfl rfl) (pa_cons (pe_callTy (call_listK K rfl) (by rfl) M.list boot_list (pa_cons (pv 2) pa_nil rfl) (by decide) (by decide) rfl rfl) (pa_cons (pv 10) pa_nil rfl) rfl) rfl) rfl) (by decide) (by decide) rfl rfl) (pe_strS [114, 111, 119] (by decide +kernel)) (nomark _))
    (pss_one (ps_ret pe_bl))
    pss_nil)
    (pss_one (ps_if (pt_cmpR op_ne (pe_callD D_law_tried hr (by rfl) (pa_cons (pv 6) (pa_cons (pe_callTy (call_listK K rfl) (by rfl) M.list boot_list (pa_cons (pv 1) pa_nil rfl) (by decide) (by decide) rfl rfl) (pa_cons (pe_lst (pa_cons (pe_strS [97] (by decide +kernel)) pa_nil rfl)) (pa_cons pe_int pa_nil rfl) rfl) rfl) rfl) (by decide) (by decide) rfl rfl) (pe_strS [100, 111, 110, 101] (by decide +kernel)) (nomark _))
    (pss_one (ps_ret pe_bl))
    pss_nil))) (fun _ => rfl))
  (pss_cons (ps_if (pt_cmpR op_ne (pe_callD D_law_tried hr (by rfl) (pa_cons pe_int (pa_cons (pe_callTy (call_listK K rfl) (by rfl) M.list boot_list (pa_cons (pv 1) pa_nil rfl) (by decide) (by decide) rfl rfl) (pa_cons (pe_callTy (call_listK K rfl) (by rfl) M.list boot_list (pa_cons (pv 2) pa_nil rfl) (by decide) (by decide) rfl rfl) (pa_cons (pv 3) pa_nil rfl) rfl) rfl) rfl) (by decide) (by decide) rfl rfl) (pe_strS [100, 111, 110, 101] (by decide +kernel)) (nomark _))
  (pss_one (ps_ret pe_bl))
  pss_nil)
  (pss_one (ps_ret (pe_cmpR op_eq (pe_callD D_law_tried hr (by rfl) (pa_cons pe_int (pa_cons (pe_callTy (call_listK K rfl) (by rfl) M.list boot_list (pa_cons (pv 1) pa_nil rfl) (by decide) (by decide) rfl rfl) (pa_cons (pe_callTy (call_listK K rfl) (by rfl) M.list boot_list (pa_cons (pv 2) pa_nil rfl) (by decide) (by decide) rfl rfl) (pa_cons pe_int pa_nil rfl) rfl) rfl) rfl) (by decide) (by decide) rfl rfl) (pe_strS [100, 111, 110, 101] (by decide +kernel)) (nomark _)))))))))))))))))), ?_⟩
    walk_at "go"
    refine ⟨a, sc, 0, rfl, hS, fun v0 => ?_⟩
    walk_at "go"
    refine ⟨_, rfl, fun d dn H1 hd hf1 s1 hd1 => ?_⟩
    have q1 := hd.lo
    have q2 := hd.hi
    have hl : (dn.map V.int).length = dn.length := List.length_map ..
    have hg : ((dn.map V.int).length : Int).toNat = dn.length := by omega
    walk_at "go"
    refine ⟨_, _, rfl, .inl (SqL.of hd1), ?_⟩
    walk_at "go"
    refine ⟨a, sc, 1, _, rfl, s1.seq hS, by omega, by omega, fun wl0 ws0 H2 hw0 hf2 s2 hw2 => ?_⟩
    rw [hg] at hw0
    walk_at "go"
    refine ⟨wl0, _, rfl, SqL.of hw2, fun wl nwl => ?_⟩
    rw [show cutV (txs ws0) none (some 2) = txs (ws0.take 2) from (cutL_to (txs ws0) 2).trans (List.map_take ..).symm]
    have hw := hw0.take (k := 2) (by decide)
    generalize ws0.take 2 = ws at hw ⊢
    have s3 := same_upd (o := .lst (txs ws)) (Same.refl H2) nwl
    have hw3 : upd H2 wl (.lst (txs ws)) wl = some (.lst (txs ws)) := upd_same
    generalize upd H2 wl (.lst (txs ws)) = H3 at s3 hw3 ⊢
    have s13 : Same H1 H3 := s2.trans s3
    have hd3 := s13 _ _ hd1
    have hS3 := (s1.trans s13).seq hS
    have hw4 := hw.hi
    have hw1 := hw.lo
    walk_at "go"
    refine ⟨a, sc, 6, rfl, hS3, fun v6 => ?_⟩
    walk_at "go"
    refine ⟨_, _, rfl, .inl (SqL.of hd3), ?_⟩
    walk_at "go"
    refine ⟨_, _, _, rfl, by decide, by decide, by omega, by omega, fun row hrl hrs => ?_⟩
    rw [hg] at hrs
    have hr60 : row.length = 60 := hrl
    walk_at "go"
    refine ⟨a, sc, 7, rfl, hS3, fun v7 => ?_⟩
    walk_at "go"
    obtain ⟨at', eat⟩ := Int.eq_ofNat_of_zero_le (Int.emod_nonneg v7 (show (60 : Int) ≠ 0 by decide))
    have hat : at' < 60 := by have := Int.emod_lt_of_pos v7 (show (0 : Int) < 60 by decide); omega
    rw [show v7 % 60 = (at' : Int) from eat]
    walk_at "go"
    refine ⟨a, sc, 8, rfl, hS3, fun v8 => ?_⟩
    walk_at "go"
    refine g_slS (small (by omega)) ?_
    obtain ⟨m8, e8⟩ := Int.eq_ofNat_of_zero_le (Int.emod_nonneg v8 (show (30 : Int) ≠ 0 by decide))
    have h8 : m8 < 30 := by have := Int.emod_lt_of_pos v8 (show (0 : Int) < 30 by decide); omega
    rw [show v8 % 30 = (m8 : Int) from e8, show (1 : Int) + (m8 : Int) = ((m8 + 1 : Nat) : Int) by omega, cutL_to]
    walk_at "go"
    refine g_addS (small (by rw [List.length_take]; omega)) ?_
    have hb0 : ¬ RowOk dn.length (row ++ row.take (m8 + 1)) := fun z => by have := z.hi; rw [List.length_append, List.length_take] at this; omega
    have hb0l : (row ++ row.take (m8 + 1)).length ≤ 1000 := by rw [List.length_append, List.length_take]; omega
    generalize row ++ row.take (m8 + 1) = bad0 at hb0 hb0l ⊢
    walk_at "goJ"
    with_reducible refine g_ifJ (fun σ' H' => ∃ bad : List Nat, ¬ RowOk dn.length bad ∧ bad.length ≤ 1000 ∧ Same H3 H' ∧ σ' = [some (.ref a), some (.ref d), some (.ref wl), some (.str (S row)), some (.int (at' : Int)), some (.str (S bad)), none, none, none, none, none]) ?_ (fun hj => ?_)
    · rintro σ' H4 ⟨bad, hb, hbl, s4, rfl⟩
      have hd4 := s4 _ _ hd3
      have hw4' := s4 _ _ hw3
      walk_at "go"
      refine ⟨by decide, by decide, ?_⟩
      refine forR (fun i σ G => ∃ x : Option V, Same H4 G ∧ σ = [some (.ref a), some (.ref d), some (.ref wl), some (.str (S row)), some (.int (at' : Int)), some (.str (S bad)), x, none, none, none, none]) ⟨none, Same.refl _, rfl⟩ ?_ ?_
      · rintro i σ G hi ⟨x, sG, rfl⟩
        walk_at "go"
        refine ⟨_, _, rfl, .inl (SqL.of (sG _ _ hd4)), fun l1 m1 => ?_⟩
        have u1 := same_upd (o := .lst (dn.map V.int)) (Same.refl G) m1
        walk_at "go"
        refine ⟨_, _, rfl, .inl (SqL.of (u1 _ _ (sG _ _ hw4'))), fun l2 m2 => ?_⟩
        have u2 := same_upd (o := .lst (txs ws)) (Same.refl (upd G l1 (.lst (dn.map V.int)))) m2
        walk_at "go"
        refine ⟨_, l1, l2, _, dn, ws, 3, rfl, SqL.of (u2 _ _ upd_same), hd, SqL.of upd_same, hw, .inr ⟨by omega, by omega, bad, rfl, .inl ⟨⟨hbl, .inl ⟨rfl, hb⟩⟩, .inl rfl⟩⟩, fun H5 s5 => ?_⟩
        walk_at "go"
        refine iteF ?_
        walk_at "go"
        exact ⟨_, ((sG.trans u1).trans u2).trans s5, rfl⟩
      · rintro σ G ⟨x, sG, rfl⟩
        have hdG := sG _ _ hd4
        have hwG := sG _ _ hw4'
        have hSG := (s4.trans sG).seq hS3
        walk_at "go"
        refine ⟨wl, ws, row, rfl, SqL.of hwG, by omega, by omega, fun w hm => (hw.w w hm).lo, fun H5 m s5 hm hop => ?_⟩
        walk_at "go"
        refine g_slS (small (by rw [List.length_take]; omega)) ?_
        rw [show ((40 : Int)) = ((40 : Nat) : Int) from rfl, cutL_to]
        have hst : RowOk dn.length ((row.take m).take 40) := ⟨by rw [List.length_take]; omega, fun c hc => hrs c (List.mem_of_mem_take (List.mem_of_mem_take hc))⟩
        have hst40 : ((row.take m).take 40).length ≤ 40 := by rw [List.length_take]; omega
        have hop' := ended_pre hop 40
        generalize (row.take m).take 40 = still at hst hst40 hop' ⊢
        have hd5 := s5 _ _ hdG
        have hw5 := s5 _ _ hwG
        have hS5 := s5.seq hSG
        walk_at "go"
        refine ⟨a, sc, 10, rfl, hS5, fun v10 => ?_⟩
        walk_at "go"
        refine ⟨_, _, rfl, .inl (SqL.of hw5), ?_⟩
        rw [txs_len]
        walk_at "go"
        obtain ⟨jj, ejj⟩ := Int.eq_ofNat_of_zero_le (Int.emod_nonneg v10 (show (ws.length : Int) ≠ 0 by omega))
        have hjj : jj < ws.length := by have := Int.emod_lt_of_pos v10 (show (0 : Int) < ws.length by omega); omega
        refine g_ixL (SqL.of hw5) (by rw [show v10 % (ws.length : Int) = (jj : Int) from ejj]; exact atI_nat (txs_at hjj)) ?_
        have hwj := hw.w _ (List.getElem_mem hjj)
        have wj6 := hwj.hi
        walk_at "go"
        refine g_addS (small (by omega)) ?_
        walk_at "go"
        refine ⟨a, sc, 11, rfl, hS5, fun v11 => ?_⟩
        walk_at "go"
        refine g_slS (small (by omega)) ?_
        obtain ⟨m11, e11⟩ := Int.eq_ofNat_of_zero_le (Int.emod_nonneg v11 (show (14 : Int) ≠ 0 by decide))
        have h11 : m11 < 14 := by have := Int.emod_lt_of_pos v11 (show (0 : Int) < 14 by decide); omega
        rw [show v11 % 14 = (m11 : Int) from e11, cutL_to]
        walk_at "go"
        refine g_addS (small (by rw [List.length_append, List.length_take]; omega)) ?_
        have htk : RowOk dn.length (still ++ ws[jj] ++ row.take m11) := ⟨by rw [List.length_append, List.length_append, List.length_take]; omega, fun c hc => by
          rcases List.mem_append.mp hc with z | z
          · rcases List.mem_append.mp z with z | z
            · exact hst.s c z
            · exact hwj.s c z
          · exact hrs c (List.mem_of_mem_take z)⟩
        have hov : endedF ws (still ++ ws[jj] ++ row.take m11) ≠ none := over_of hw (List.getElem_mem hjj)
        have htl : (still ++ ws[jj] ++ row.take m11).length ≤ 1000 := by have := htk.hi; omega
        generalize still ++ ws[jj] ++ row.take m11 = taken at htk hov htl ⊢
        walk_at "go"
        refine ⟨by decide, by decide, ?_⟩
        refine forR (fun i σ G6 => ∃ x : Option V, Same H5 G6 ∧ σ = [some (.ref a), some (.ref d), some (.ref wl), some (.str (S row)), some (.int (at' : Int)), some (.str (S bad)), x, some (.str (S still)), some (.str (S taken)), none, none]) ⟨_, Same.refl _, rfl⟩ ?_ ?_
        · rintro i σ G6 hi ⟨x, sG6, rfl⟩
          have hi4 : i < 4 := hi
          obtain ⟨j, ej, hj⟩ := due_at hi4
          walk_at "go"
          refine ⟨_, _, rfl, .inl (SqL.of (sG6 _ _ hd5)), fun l1 m1 => ?_⟩
          have u1 := same_upd (o := .lst (dn.map V.int)) (Same.refl G6) m1
          walk_at "go"
          refine ⟨_, _, rfl, .inl (SqL.of (u1 _ _ (sG6 _ _ hw5))), fun l2 m2 => ?_⟩
          have u2 := same_upd (o := .lst (txs ws)) (Same.refl (upd G6 l1 (.lst (dn.map V.int)))) m2
          walk_at "go"
          refine ⟨_, l1, l2, _, dn, ws, j, rfl, SqL.of (u2 _ _ upd_same), hd, SqL.of upd_same, hw, .inr ⟨by omega, by omega, taken, rfl, ?_⟩, fun H7 s7 => ?_⟩
          · rcases hj with ⟨rfl, hj⟩ | ⟨rfl, hj⟩
            · exact .inr ⟨rfl, htk, .inr hj⟩
            · exact .inl ⟨⟨htl, .inr ⟨rfl, htk, hov⟩⟩, .inr hj⟩
          have u7 : Same G6 H7 := (u1.trans u2).trans s7
          walk_at "go"
          intro p hp
          have u8 := same_upd (o := .lst [V.str (S [100, 111, 110, 101]), .str (S [100, 111, 110, 101]), .str (S [111, 118, 101, 114]), .str (S [111, 118, 101, 114])]) (Same.refl H7) hp
          walk_at "go"
          refine g_ixL (SqL.of upd_same) ej ?_
          walk_at "go"
          refine iteNS rfl ?_
          have hd8 := u8 _ _ (u7 _ _ (sG6 _ _ hd5))
          have hw8 := u8 _ _ (u7 _ _ (sG6 _ _ hw5))
          have v8 := (sG6.trans u7).trans u8
          generalize upd H7 p (.lst [V.str (S [100, 111, 110, 101]), .str (S [100, 111, 110, 101]), .str (S [111, 118, 101, 114]), .str (S [111, 118, 101, 114])]) = H8 at u8 hd8 hw8 v8 ⊢
          walk_at "go"
          refine ⟨_, _, rfl, .inl (SqL.of hd8), fun l3 m3 => ?_⟩
          have u9 := same_upd (o := .lst (dn.map V.int)) (Same.refl H8) m3
          walk_at "go"
          refine ⟨_, _, rfl, .inl (SqL.of (u9 _ _ hw8)), fun l4 m4 => ?_⟩
          have u10 := same_upd (o := .lst (txs ws)) (Same.refl (upd H8 l3 (.lst (dn.map V.int)))) m4
          walk_at "go"
          refine ⟨_, l3, l4, _, dn, ws, 7, rfl, SqL.of (u10 _ _ upd_same), hd, SqL.of upd_same, hw, .inr ⟨by omega, by omega, still, rfl, .inr ⟨rfl, hst, .inl hop'⟩⟩, fun H9 s9 => ?_⟩
          walk_at "go"
          refine iteF ?_
          walk_at "go"
          exact ⟨_, ((v8.trans u9).trans u10).trans s9, rfl⟩
        · rintro σ G6 ⟨x, sG6, rfl⟩
          have hd6 := sG6 _ _ hd5
          have hw6 := sG6 _ _ hw5
          have hS6 := sG6.seq hS5
          walk_at "go"
          refine ⟨a, sc, 12, rfl, hS6, fun v12 => ?_⟩
          walk_at "go"
          have hfar : 0 ≤ v12 % (10 : Int) ^ (20 : Int).toNat := Int.emod_nonneg _ (by decide)
          generalize v12 % (10 : Int) ^ (20 : Int).toNat = far at hfar ⊢
          walk_at "go"
          intro p hp
          have u1 := same_upd (o := .lst [V.int (-1), .int 61, .int (-1 - far), .int (61 + far)]) (Same.refl G6) hp
          have e1 : upd G6 p (.lst [V.int (-1), .int 61, .int (-1 - far), .int (61 + far)]) p = some (.lst [V.int (-1), .int 61, .int (-1 - far), .int (61 + far)]) := upd_same
          generalize upd G6 p (.lst [V.int (-1), .int 61, .int (-1 - far), .int (61 + far)]) = G7 at u1 e1 ⊢
          have hd7 := u1 _ _ hd6
          have hw7 := u1 _ _ hw6
          walk_at "go"
          refine ⟨a, sc, 13, rfl, u1.seq hS6, fun v13 => ?_⟩
          walk_at "go"
          obtain ⟨mm, emm, hmm⟩ := many_bad far v13 hfar
          refine g_ixL (SqL.of e1) emm ?_
          walk_at "go"
          refine ⟨_, _, rfl, by decide, ?_⟩
          refine forR (fun i σ G8 => ∃ x : Option V, Same G7 G8 ∧ σ = [some (.ref a), some (.ref d), some (.ref wl), some (.str (S row)), some (.int (at' : Int)), some (.str (S bad)), x, some (.str (S still)), some (.str (S taken)), some (.int far), some (.int mm)]) ⟨_, Same.refl _, rfl⟩ ?_ ?_
          · rintro i σ G8 hi ⟨x, sG8, rfl⟩
            have hi2 : i < 2 := hi
            have ht : (4 : Int) + (i : Int) = 4 ∨ (4 : Int) + (i : Int) = 5 := by omega
            walk_at "go"
            refine ⟨_, _, rfl, .inl (SqL.of (sG8 _ _ hd7)), fun l1 m1 => ?_⟩
            have u1 := same_upd (o := .lst (dn.map V.int)) (Same.refl G8) m1
            walk_at "go"
            refine ⟨_, _, rfl, .inl (SqL.of (u1 _ _ (sG8 _ _ hw7))), fun l2 m2 => ?_⟩
            have u2 := same_upd (o := .lst (txs ws)) (Same.refl (upd G8 l1 (.lst (dn.map V.int)))) m2
            walk_at "go"
            refine ⟨_, l1, l2, _, dn, ws, 3, rfl, SqL.of (u2 _ _ upd_same), hd, SqL.of upd_same, hw, .inl ⟨ht, mm, rfl, .inl ⟨rfl, hmm⟩⟩, fun H9 s9 => ?_⟩
            walk_at "go"
            refine iteF ?_
            have u9 : Same G8 H9 := (u1.trans u2).trans s9
            have hd9 := u9 _ _ (sG8 _ _ hd7)
            walk_at "go"
            refine ⟨_, _, rfl, .inl (SqL.of hd9), fun l3 m3 => ?_⟩
            have u3 := same_upd (o := .lst (dn.map V.int)) (Same.refl H9) m3
            walk_at "go"
            intro l4 m4
            have u4 := same_upd (o := .lst (txs [[97]])) (Same.refl (upd H9 l3 (.lst (dn.map V.int)))) m4
            walk_at "go"
            refine ⟨_, l3, l4, _, dn, [[97]], 7, rfl, SqL.of (u4 _ _ upd_same), hd, SqL.of upd_same, a_race q1, .inl ⟨ht, 60, rfl, .inr ⟨rfl, by decide, by decide⟩⟩, fun H10 s10 => ?_⟩
            walk_at "go"
            refine iteF ?_
            walk_at "go"
            exact ⟨_, (((sG8.trans u9).trans u3).trans u4).trans s10, rfl⟩
          · rintro σ G8 ⟨x, sG8, rfl⟩
            have hd8 := sG8 _ _ hd7
            have hw8 := sG8 _ _ hw7
            walk_at "go"
            refine ⟨_, _, rfl, .inl (SqL.of hd8), fun l1 m1 => ?_⟩
            have u1 := same_upd (o := .lst (dn.map V.int)) (Same.refl G8) m1
            walk_at "go"
            refine ⟨_, _, rfl, .inl (SqL.of (u1 _ _ hw8)), fun l2 m2 => ?_⟩
            have u2 := same_upd (o := .lst (txs ws)) (Same.refl (upd G8 l1 (.lst (dn.map V.int)))) m2
            walk_at "go"
            refine ⟨0, l1, l2, _, dn, ws, 7, rfl, SqL.of (u2 _ _ upd_same), hd, SqL.of upd_same, hw, .inr ⟨by decide, by decide, row, rfl, .inr ⟨rfl, ⟨by omega, hrs⟩, .inr (.inl rfl)⟩⟩, fun H9 s9 => ?_⟩
            walk_at "go"
            refine iteF ?_
            have u9 : Same G8 H9 := (u1.trans u2).trans s9
            have hd9 := u9 _ _ hd8
            have hw9 := u9 _ _ hw8
            walk_at "go"
            refine ⟨_, _, rfl, .inl (SqL.of hd9), fun l3 m3 => ?_⟩
            have u3 := same_upd (o := .lst (dn.map V.int)) (Same.refl H9) m3
            walk_at "go"
            refine ⟨_, _, rfl, .inl (SqL.of (u3 _ _ hw9)), fun l4 m4 => ?_⟩
            have u4 := same_upd (o := .lst (txs ws)) (Same.refl (upd H9 l3 (.lst (dn.map V.int)))) m4
            walk_at "go"
            refine ⟨5, l3, l4, _, dn, ws, 7, rfl, SqL.of (u4 _ _ upd_same), hd, SqL.of upd_same, hw, .inl ⟨.inr rfl, 0, rfl, .inr ⟨rfl, by decide, by decide⟩⟩, fun H10 s10 => ?_⟩
            walk_at "go"
            exact k _
    · walk_at "go"
      refine ⟨a, sc, 8, rfl, hS3, fun v8' => ?_⟩
      walk_at "go"
      refine g_ite (fun _ => ?_) (fun _ => ?_)
      · walk_at "go"
        refine g_slS (small (by omega)) ?_
        rw [cutL_to]
        walk_at "go"
        refine ⟨_, _, rfl, .inl (SqL.of hd3), ?_⟩
        rw [hl]
        walk_at "go"
        refine g_ixS (by decide) (e_at q2) ?_
        walk_at "go"
        intro p hp
        have u1 := same_upd (o := .lst ([[[97, 98, 99, 100, 101].getD dn.length 0], [65], [32], [49], [45]].map fun l => V.str (S l))) (Same.refl H3) hp
        walk_at "go"
        refine ⟨a, sc, 9, rfl, u1.seq hS3, fun v9 => ?_⟩
        walk_at "go"
        obtain ⟨x, ex, hx⟩ := bad_sign q2 q1 v9
        refine g_ixL (SqL.of upd_same) ex ?_
        walk_at "go"
        refine g_addS (small (by rw [List.length_take]; show _ + 1 ≤ _; omega)) ?_
        walk_at "go"
        refine g_slS (small (by omega)) ?_
        rw [show (at' : Int) + 1 = ((at' + 1 : Nat) : Int) by omega, cutL_from]
        walk_at "go"
        refine g_addS (small (by rw [List.length_append, List.length_take, List.length_drop]; show _ + 1 + _ ≤ _; omega)) ?_
        exact hj _ _ ⟨row.take at' ++ [x] ++ row.drop (at' + 1), fun z => hx (z.s x (by simp)), by rw [List.length_append, List.length_append, List.length_take, List.length_drop]; show _ + 1 + _ ≤ _; omega, u1, rfl⟩
      · exact hj _ _ ⟨bad0, hb0, hb0l, Same.refl _, rfl⟩


end
theorem all_mk {l : PySem.W.OpenLaw} {w : World} {K : PySem.W.Frag} {h : Heap} {mg : Str → Option Value} {fa : Addr} (gt : l.prog.given.tree = none) (X : K.In h) (G : h.Ns mainGlobals mg) (hfa : mg "law" = some (.ref fa))
    {f0 : Addr} {od0 an0 : Option Addr} {sl0 : Array (Option Value)} {oc0 kV0 dc0 pm0 cd0 ct0 : Value}
    (a0 : PySem.W.nsIn K mainGlobals "_law_next" = some (some (.ref f0))) (l0 : K.lookup f0 = some ⟨oc0, od0, .func (PySem.W.fnOf "_law_next" "_law_next" (defArgs s_law_next) (defBody s_law_next) (defScope s_law_next) .none kV0 dc0 pm0 an0 cd0 ct0), sl0⟩) (c0 : PySem.W.codeIn K cd0 "_law_next" = true) (k0 : PySem.W.keepIn K (.ref f0) = true)
    {f1 : Addr} {od1 an1 : Option Addr} {sl1 : Array (Option Value)} {oc1 kV1 dc1 pm1 cd1 ct1 : Value}
    (a1 : PySem.W.nsIn K mainGlobals "_law_die" = some (some (.ref f1))) (l1 : K.lookup f1 = some ⟨oc1, od1, .func (PySem.W.fnOf "_law_die" "_law_die" (defArgs s_law_die) (defBody s_law_die) (defScope s_law_die) .none kV1 dc1 pm1 an1 cd1 ct1), sl1⟩) (c1 : PySem.W.codeIn K cd1 "_law_die" = true) (k1 : PySem.W.keepIn K (.ref f1) = true)
    {f2 : Addr} {od2 an2 : Option Addr} {sl2 : Array (Option Value)} {oc2 kV2 dc2 pm2 cd2 ct2 : Value}
    (a2 : PySem.W.nsIn K mainGlobals "_law_thrown" = some (some (.ref f2))) (l2 : K.lookup f2 = some ⟨oc2, od2, .func (PySem.W.fnOf "_law_thrown" "_law_thrown" (defArgs s_law_thrown) (defBody s_law_thrown) (defScope s_law_thrown) .none kV2 dc2 pm2 an2 cd2 ct2), sl2⟩) (c2 : PySem.W.codeIn K cd2 "_law_thrown" = true) (k2 : PySem.W.keepIn K (.ref f2) = true)
    {f3 : Addr} {od3 an3 : Option Addr} {sl3 : Array (Option Value)} {oc3 kV3 dc3 pm3 cd3 ct3 : Value}
    (a3 : PySem.W.nsIn K mainGlobals "_law_word" = some (some (.ref f3))) (l3 : K.lookup f3 = some ⟨oc3, od3, .func (PySem.W.fnOf "_law_word" "_law_word" (defArgs s_law_word) (defBody s_law_word) (defScope s_law_word) .none kV3 dc3 pm3 an3 cd3 ct3), sl3⟩) (c3 : PySem.W.codeIn K cd3 "_law_word" = true) (k3 : PySem.W.keepIn K (.ref f3) = true)
    {f4 : Addr} {od4 an4 : Option Addr} {sl4 : Array (Option Value)} {oc4 kV4 dc4 pm4 cd4 ct4 : Value}
    (a4 : PySem.W.nsIn K mainGlobals "_law_cell_at" = some (some (.ref f4))) (l4 : K.lookup f4 = some ⟨oc4, od4, .func (PySem.W.fnOf "_law_cell_at" "_law_cell_at" (defArgs s_law_cell_at) (defBody s_law_cell_at) (defScope s_law_cell_at) .none kV4 dc4 pm4 an4 cd4 ct4), sl4⟩) (c4 : PySem.W.codeIn K cd4 "_law_cell_at" = true) (k4 : PySem.W.keepIn K (.ref f4) = true)
    {f5 : Addr} {od5 an5 : Option Addr} {sl5 : Array (Option Value)} {oc5 kV5 dc5 pm5 cd5 ct5 : Value}
    (a5 : PySem.W.nsIn K mainGlobals "_law_words" = some (some (.ref f5))) (l5 : K.lookup f5 = some ⟨oc5, od5, .func (PySem.W.fnOf "_law_words" "_law_words" (defArgs s_law_words) (defBody s_law_words) (defScope s_law_words) .none kV5 dc5 pm5 an5 cd5 ct5), sl5⟩) (c5 : PySem.W.codeIn K cd5 "_law_words" = true) (k5 : PySem.W.keepIn K (.ref f5) = true)
    {f6 : Addr} {od6 an6 : Option Addr} {sl6 : Array (Option Value)} {oc6 kV6 dc6 pm6 cd6 ct6 : Value}
    (a6 : PySem.W.nsIn K mainGlobals "_law_open" = some (some (.ref f6))) (l6 : K.lookup f6 = some ⟨oc6, od6, .func (PySem.W.fnOf "_law_open" "_law_open" (defArgs s_law_open) (defBody s_law_open) (defScope s_law_open) .none kV6 dc6 pm6 an6 cd6 ct6), sl6⟩) (c6 : PySem.W.codeIn K cd6 "_law_open" = true) (k6 : PySem.W.keepIn K (.ref f6) = true)
    {f7 : Addr} {od7 an7 : Option Addr} {sl7 : Array (Option Value)} {oc7 kV7 dc7 pm7 cd7 ct7 : Value}
    (a7 : PySem.W.nsIn K mainGlobals "check_die" = some (some (.ref f7))) (l7 : K.lookup f7 = some ⟨oc7, od7, .func (PySem.W.fnOf "check_die" "check_die" (defArgs s_check_die) (defBody s_check_die) (defScope s_check_die) .none kV7 dc7 pm7 an7 cd7 ct7), sl7⟩) (c7 : PySem.W.codeIn K cd7 "check_die" = true) (k7 : PySem.W.keepIn K (.ref f7) = true)
    {f8 : Addr} {od8 an8 : Option Addr} {sl8 : Array (Option Value)} {oc8 kV8 dc8 pm8 cd8 ct8 : Value}
    (a8 : PySem.W.nsIn K mainGlobals "signs_of" = some (some (.ref f8))) (l8 : K.lookup f8 = some ⟨oc8, od8, .func (PySem.W.fnOf "signs_of" "signs_of" (defArgs s_signs_of) (defBody s_signs_of) (defScope s_signs_of) .none kV8 dc8 pm8 an8 cd8 ct8), sl8⟩) (c8 : PySem.W.codeIn K cd8 "signs_of" = true) (k8 : PySem.W.keepIn K (.ref f8) = true)
    {f9 : Addr} {od9 an9 : Option Addr} {sl9 : Array (Option Value)} {oc9 kV9 dc9 pm9 cd9 ct9 : Value}
    (a9 : PySem.W.nsIn K mainGlobals "is_thrown" = some (some (.ref f9))) (l9 : K.lookup f9 = some ⟨oc9, od9, .func (PySem.W.fnOf "is_thrown" "is_thrown" (defArgs s_is_thrown) (defBody s_is_thrown) (defScope s_is_thrown) .none kV9 dc9 pm9 an9 cd9 ct9), sl9⟩) (c9 : PySem.W.codeIn K cd9 "is_thrown" = true) (k9 : PySem.W.keepIn K (.ref f9) = true)
    {f10 : Addr} {od10 an10 : Option Addr} {sl10 : Array (Option Value)} {oc10 kV10 dc10 pm10 cd10 ct10 : Value}
    (a10 : PySem.W.nsIn K mainGlobals "check_word" = some (some (.ref f10))) (l10 : K.lookup f10 = some ⟨oc10, od10, .func (PySem.W.fnOf "check_word" "check_word" (defArgs s_check_word) (defBody s_check_word) (defScope s_check_word) .none kV10 dc10 pm10 an10 cd10 ct10), sl10⟩) (c10 : PySem.W.codeIn K cd10 "check_word" = true) (k10 : PySem.W.keepIn K (.ref f10) = true)
    {f11 : Addr} {od11 an11 : Option Addr} {sl11 : Array (Option Value)} {oc11 kV11 dc11 pm11 cd11 ct11 : Value}
    (a11 : PySem.W.nsIn K mainGlobals "stands_within_another" = some (some (.ref f11))) (l11 : K.lookup f11 = some ⟨oc11, od11, .func (PySem.W.fnOf "stands_within_another" "stands_within_another" (defArgs s_stands_within_another) (defBody s_stands_within_another) (defScope s_stands_within_another) .none kV11 dc11 pm11 an11 cd11 ct11), sl11⟩) (c11 : PySem.W.codeIn K cd11 "stands_within_another" = true) (k11 : PySem.W.keepIn K (.ref f11) = true)
    {f12 : Addr} {od12 an12 : Option Addr} {sl12 : Array (Option Value)} {oc12 kV12 dc12 pm12 cd12 ct12 : Value}
    (a12 : PySem.W.nsIn K mainGlobals "check_race" = some (some (.ref f12))) (l12 : K.lookup f12 = some ⟨oc12, od12, .func (PySem.W.fnOf "check_race" "check_race" (defArgs s_check_race) (defBody s_check_race) (defScope s_check_race) .none kV12 dc12 pm12 an12 cd12 ct12), sl12⟩) (c12 : PySem.W.codeIn K cd12 "check_race" = true) (k12 : PySem.W.keepIn K (.ref f12) = true)
    {f13 : Addr} {od13 an13 : Option Addr} {sl13 : Array (Option Value)} {oc13 kV13 dc13 pm13 cd13 ct13 : Value}
    (a13 : PySem.W.nsIn K mainGlobals "check_many" = some (some (.ref f13))) (l13 : K.lookup f13 = some ⟨oc13, od13, .func (PySem.W.fnOf "check_many" "check_many" (defArgs s_check_many) (defBody s_check_many) (defScope s_check_many) .none kV13 dc13 pm13 an13 cd13 ct13), sl13⟩) (c13 : PySem.W.codeIn K cd13 "check_many" = true) (k13 : PySem.W.keepIn K (.ref f13) = true)
    {f14 : Addr} {od14 an14 : Option Addr} {sl14 : Array (Option Value)} {oc14 kV14 dc14 pm14 cd14 ct14 : Value}
    (a14 : PySem.W.nsIn K mainGlobals "beginnings_of" = some (some (.ref f14))) (l14 : K.lookup f14 = some ⟨oc14, od14, .func (PySem.W.fnOf "beginnings_of" "beginnings_of" (defArgs s_beginnings_of) (defBody s_beginnings_of) (defScope s_beginnings_of) .none kV14 dc14 pm14 an14 cd14 ct14), sl14⟩) (c14 : PySem.W.codeIn K cd14 "beginnings_of" = true) (k14 : PySem.W.keepIn K (.ref f14) = true)
    {f15 : Addr} {od15 an15 : Option Addr} {sl15 : Array (Option Value)} {oc15 kV15 dc15 pm15 cd15 ct15 : Value}
    (a15 : PySem.W.nsIn K mainGlobals "longest_at_end" = some (some (.ref f15))) (l15 : K.lookup f15 = some ⟨oc15, od15, .func (PySem.W.fnOf "longest_at_end" "longest_at_end" (defArgs s_longest_at_end) (defBody s_longest_at_end) (defScope s_longest_at_end) .none kV15 dc15 pm15 an15 cd15 ct15), sl15⟩) (c15 : PySem.W.codeIn K cd15 "longest_at_end" = true) (k15 : PySem.W.keepIn K (.ref f15) = true)
    {f16 : Addr} {od16 an16 : Option Addr} {sl16 : Array (Option Value)} {oc16 kV16 dc16 pm16 cd16 ct16 : Value}
    (a16 : PySem.W.nsIn K mainGlobals "one_throw_more" = some (some (.ref f16))) (l16 : K.lookup f16 = some ⟨oc16, od16, .func (PySem.W.fnOf "one_throw_more" "one_throw_more" (defArgs s_one_throw_more) (defBody s_one_throw_more) (defScope s_one_throw_more) .none kV16 dc16 pm16 an16 cd16 ct16), sl16⟩) (c16 : PySem.W.codeIn K cd16 "one_throw_more" = true) (k16 : PySem.W.keepIn K (.ref f16) = true)
    {f17 : Addr} {od17 an17 : Option Addr} {sl17 : Array (Option Value)} {oc17 kV17 dc17 pm17 cd17 ct17 : Value}
    (a17 : PySem.W.nsIn K mainGlobals "rows_by_state" = some (some (.ref f17))) (l17 : K.lookup f17 = some ⟨oc17, od17, .func (PySem.W.fnOf "rows_by_state" "rows_by_state" (defArgs s_rows_by_state) (defBody s_rows_by_state) (defScope s_rows_by_state) .none kV17 dc17 pm17 an17 cd17 ct17), sl17⟩) (c17 : PySem.W.codeIn K cd17 "rows_by_state" = true) (k17 : PySem.W.keepIn K (.ref f17) = true)
    {f18 : Addr} {od18 an18 : Option Addr} {sl18 : Array (Option Value)} {oc18 kV18 dc18 pm18 cd18 ct18 : Value}
    (a18 : PySem.W.nsIn K mainGlobals "open_rows" = some (some (.ref f18))) (l18 : K.lookup f18 = some ⟨oc18, od18, .func (PySem.W.fnOf "open_rows" "open_rows" (defArgs s_open_rows) (defBody s_open_rows) (defScope s_open_rows) .none kV18 dc18 pm18 an18 cd18 ct18), sl18⟩) (c18 : PySem.W.codeIn K cd18 "open_rows" = true) (k18 : PySem.W.keepIn K (.ref f18) = true)
    {f19 : Addr} {od19 an19 : Option Addr} {sl19 : Array (Option Value)} {oc19 kV19 dc19 pm19 cd19 ct19 : Value}
    (a19 : PySem.W.nsIn K mainGlobals "_law_kind" = some (some (.ref f19))) (l19 : K.lookup f19 = some ⟨oc19, od19, .func (PySem.W.fnOf "_law_kind" "_law_kind" (defArgs s_law_kind) (defBody s_law_kind) (defScope s_law_kind) .none kV19 dc19 pm19 an19 cd19 ct19), sl19⟩) (c19 : PySem.W.codeIn K cd19 "_law_kind" = true) (k19 : PySem.W.keepIn K (.ref f19) = true)
    {f20 : Addr} {od20 an20 : Option Addr} {sl20 : Array (Option Value)} {oc20 kV20 dc20 pm20 cd20 ct20 : Value}
    (a20 : PySem.W.nsIn K mainGlobals "ended_rows" = some (some (.ref f20))) (l20 : K.lookup f20 = some ⟨oc20, od20, .func (PySem.W.fnOf "ended_rows" "ended_rows" (defArgs s_ended_rows) (defBody s_ended_rows) (defScope s_ended_rows) .none kV20 dc20 pm20 an20 cd20 ct20), sl20⟩) (c20 : PySem.W.codeIn K cd20 "ended_rows" = true) (k20 : PySem.W.keepIn K (.ref f20) = true)
    {f21 : Addr} {od21 an21 : Option Addr} {sl21 : Array (Option Value)} {oc21 kV21 dc21 pm21 cd21 ct21 : Value}
    (a21 : PySem.W.nsIn K mainGlobals "check_row" = some (some (.ref f21))) (l21 : K.lookup f21 = some ⟨oc21, od21, .func (PySem.W.fnOf "check_row" "check_row" (defArgs s_check_row) (defBody s_check_row) (defScope s_check_row) .none kV21 dc21 pm21 an21 cd21 ct21), sl21⟩) (c21 : PySem.W.codeIn K cd21 "check_row" = true) (k21 : PySem.W.keepIn K (.ref f21) = true)
    {f22 : Addr} {od22 an22 : Option Addr} {sl22 : Array (Option Value)} {oc22 kV22 dc22 pm22 cd22 ct22 : Value}
    (a22 : PySem.W.nsIn K mainGlobals "state_of" = some (some (.ref f22))) (l22 : K.lookup f22 = some ⟨oc22, od22, .func (PySem.W.fnOf "state_of" "state_of" (defArgs s_state_of) (defBody s_state_of) (defScope s_state_of) .none kV22 dc22 pm22 an22 cd22 ct22), sl22⟩) (c22 : PySem.W.codeIn K cd22 "state_of" = true) (k22 : PySem.W.keepIn K (.ref f22) = true)
    {f23 : Addr} {od23 an23 : Option Addr} {sl23 : Array (Option Value)} {oc23 kV23 dc23 pm23 cd23 ct23 : Value}
    (a23 : PySem.W.nsIn K mainGlobals "ended" = some (some (.ref f23))) (l23 : K.lookup f23 = some ⟨oc23, od23, .func (PySem.W.fnOf "ended" "ended" (defArgs s_ended) (defBody s_ended) (defScope s_ended) .none kV23 dc23 pm23 an23 cd23 ct23), sl23⟩) (c23 : PySem.W.codeIn K cd23 "ended" = true) (k23 : PySem.W.keepIn K (.ref f23) = true)
    {f24 : Addr} {od24 an24 : Option Addr} {sl24 : Array (Option Value)} {oc24 kV24 dc24 pm24 cd24 ct24 : Value}
    (a24 : PySem.W.nsIn K mainGlobals "state_of_open" = some (some (.ref f24))) (l24 : K.lookup f24 = some ⟨oc24, od24, .func (PySem.W.fnOf "state_of_open" "state_of_open" (defArgs s_state_of_open) (defBody s_state_of_open) (defScope s_state_of_open) .none kV24 dc24 pm24 an24 cd24 ct24), sl24⟩) (c24 : PySem.W.codeIn K cd24 "state_of_open" = true) (k24 : PySem.W.keepIn K (.ref f24) = true)
    {f25 : Addr} {od25 an25 : Option Addr} {sl25 : Array (Option Value)} {oc25 kV25 dc25 pm25 cd25 ct25 : Value}
    (a25 : PySem.W.nsIn K mainGlobals "equation_of" = some (some (.ref f25))) (l25 : K.lookup f25 = some ⟨oc25, od25, .func (PySem.W.fnOf "equation_of" "equation_of" (defArgs s_equation_of) (defBody s_equation_of) (defScope s_equation_of) .none kV25 dc25 pm25 an25 cd25 ct25), sl25⟩) (c25 : PySem.W.codeIn K cd25 "equation_of" = true) (k25 : PySem.W.keepIn K (.ref f25) = true)
    {f26 : Addr} {od26 an26 : Option Addr} {sl26 : Array (Option Value)} {oc26 kV26 dc26 pm26 cd26 ct26 : Value}
    (a26 : PySem.W.nsIn K mainGlobals "common_factor" = some (some (.ref f26))) (l26 : K.lookup f26 = some ⟨oc26, od26, .func (PySem.W.fnOf "common_factor" "common_factor" (defArgs s_common_factor) (defBody s_common_factor) (defScope s_common_factor) .none kV26 dc26 pm26 an26 cd26 ct26), sl26⟩) (c26 : PySem.W.codeIn K cd26 "common_factor" = true) (k26 : PySem.W.keepIn K (.ref f26) = true)
    {f27 : Addr} {od27 an27 : Option Addr} {sl27 : Array (Option Value)} {oc27 kV27 dc27 pm27 cd27 ct27 : Value}
    (a27 : PySem.W.nsIn K mainGlobals "freed_of" = some (some (.ref f27))) (l27 : K.lookup f27 = some ⟨oc27, od27, .func (PySem.W.fnOf "freed_of" "freed_of" (defArgs s_freed_of) (defBody s_freed_of) (defScope s_freed_of) .none kV27 dc27 pm27 an27 cd27 ct27), sl27⟩) (c27 : PySem.W.codeIn K cd27 "freed_of" = true) (k27 : PySem.W.keepIn K (.ref f27) = true)
    {f28 : Addr} {od28 an28 : Option Addr} {sl28 : Array (Option Value)} {oc28 kV28 dc28 pm28 cd28 ct28 : Value}
    (a28 : PySem.W.nsIn K mainGlobals "solved" = some (some (.ref f28))) (l28 : K.lookup f28 = some ⟨oc28, od28, .func (PySem.W.fnOf "solved" "solved" (defArgs s_solved) (defBody s_solved) (defScope s_solved) .none kV28 dc28 pm28 an28 cd28 ct28), sl28⟩) (c28 : PySem.W.codeIn K cd28 "solved" = true) (k28 : PySem.W.keepIn K (.ref f28) = true)
    {f29 : Addr} {od29 an29 : Option Addr} {sl29 : Array (Option Value)} {oc29 kV29 dc29 pm29 cd29 ct29 : Value}
    (a29 : PySem.W.nsIn K mainGlobals "share_of" = some (some (.ref f29))) (l29 : K.lookup f29 = some ⟨oc29, od29, .func (PySem.W.fnOf "share_of" "share_of" (defArgs s_share_of) (defBody s_share_of) (defScope s_share_of) .none kV29 dc29 pm29 an29 cd29 ct29), sl29⟩) (c29 : PySem.W.codeIn K cd29 "share_of" = true) (k29 : PySem.W.keepIn K (.ref f29) = true)
    {f30 : Addr} {od30 an30 : Option Addr} {sl30 : Array (Option Value)} {oc30 kV30 dc30 pm30 cd30 ct30 : Value}
    (a30 : PySem.W.nsIn K mainGlobals "mean" = some (some (.ref f30))) (l30 : K.lookup f30 = some ⟨oc30, od30, .func (PySem.W.fnOf "mean" "mean" (defArgs s_mean) (defBody s_mean) (defScope s_mean) .none kV30 dc30 pm30 an30 cd30 ct30), sl30⟩) (c30 : PySem.W.codeIn K cd30 "mean" = true) (k30 : PySem.W.keepIn K (.ref f30) = true)
    {f31 : Addr} {od31 an31 : Option Addr} {sl31 : Array (Option Value)} {oc31 kV31 dc31 pm31 cd31 ct31 : Value}
    (a31 : PySem.W.nsIn K mainGlobals "shares" = some (some (.ref f31))) (l31 : K.lookup f31 = some ⟨oc31, od31, .func (PySem.W.fnOf "shares" "shares" (defArgs s_shares) (defBody s_shares) (defScope s_shares) .none kV31 dc31 pm31 an31 cd31 ct31), sl31⟩) (c31 : PySem.W.codeIn K cd31 "shares" = true) (k31 : PySem.W.keepIn K (.ref f31) = true)
    {f32 : Addr} {od32 an32 : Option Addr} {sl32 : Array (Option Value)} {oc32 kV32 dc32 pm32 cd32 ct32 : Value}
    (a32 : PySem.W.nsIn K mainGlobals "_law_asked" = some (some (.ref f32))) (l32 : K.lookup f32 = some ⟨oc32, od32, .func (PySem.W.fnOf "_law_asked" "_law_asked" (defArgs s_law_asked) (defBody s_law_asked) (defScope s_law_asked) .none kV32 dc32 pm32 an32 cd32 ct32), sl32⟩) (c32 : PySem.W.codeIn K cd32 "_law_asked" = true) (k32 : PySem.W.keepIn K (.ref f32) = true)
    {f33 : Addr} {od33 an33 : Option Addr} {sl33 : Array (Option Value)} {oc33 kV33 dc33 pm33 cd33 ct33 : Value}
    (a33 : PySem.W.nsIn K mainGlobals "_law_tried" = some (some (.ref f33))) (l33 : K.lookup f33 = some ⟨oc33, od33, .func (PySem.W.fnOf "_law_tried" "_law_tried" (defArgs s_law_tried) (defBody s_law_tried) (defScope s_law_tried) .none kV33 dc33 pm33 an33 cd33 ct33), sl33⟩) (c33 : PySem.W.codeIn K cd33 "_law_tried" = true) (k33 : PySem.W.keepIn K (.ref f33) = true)
    {f34 : Addr} {od34 an34 : Option Addr} {sl34 : Array (Option Value)} {oc34 kV34 dc34 pm34 cd34 ct34 : Value}
    (a34 : PySem.W.nsIn K mainGlobals "law" = some (some (.ref f34))) (l34 : K.lookup f34 = some ⟨oc34, od34, .func (PySem.W.fnOf "law" "law" (defArgs s_law) (defBody s_law) (defScope s_law) .none kV34 dc34 pm34 an34 cd34 ct34), sl34⟩) (c34 : PySem.W.codeIn K cd34 "law" = true) (k34 : PySem.W.keepIn K (.ref f34) = true)
    {x0 : Addr} {x1 : Addr} {x2 : Addr} {x3 : Addr} {x4 : Addr} {x5 : Addr} {x6 : Addr} {x7 : Addr}
    (y0 : PySem.W.nsIn K mainGlobals "NoDie" = some (some (.ref x0)))
    (y1 : PySem.W.nsIn K mainGlobals "NoWord" = some (some (.ref x1)))
    (y2 : PySem.W.nsIn K mainGlobals "NoRace" = some (some (.ref x2)))
    (y3 : PySem.W.nsIn K mainGlobals "NoRow" = some (some (.ref x3)))
    (y4 : PySem.W.nsIn K mainGlobals "Over" = some (some (.ref x4)))
    (y5 : PySem.W.nsIn K mainGlobals "TooMany" = some (some (.ref x5)))
    (y6 : PySem.W.nsIn K mainGlobals "NoNote" = some (some (.ref x6)))
    (y7 : PySem.W.nsIn K mainGlobals "RaceError" = some (some (.ref x7)))
    (yc : xcIn K [x0, x1, x2, x3, x4, x5, x6] x7 = true)
    {t_SIGNS : Tok} (z_SIGNS : PySem.W.nsIn K mainGlobals "SIGNS" = some (some (.str (Str.ofString "abcd") t_SIGNS)))
    {t_LEAST_WEIGHTS : Tok} (z_LEAST_WEIGHTS : PySem.W.nsIn K mainGlobals "LEAST_WEIGHTS" = some (some (.int 2 t_LEAST_WEIGHTS)))
    {t_MOST_WEIGHTS : Tok} (z_MOST_WEIGHTS : PySem.W.nsIn K mainGlobals "MOST_WEIGHTS" = some (some (.int 4 t_MOST_WEIGHTS)))
    {t_LEAST_WEIGHT : Tok} (z_LEAST_WEIGHT : PySem.W.nsIn K mainGlobals "LEAST_WEIGHT" = some (some (.int 1 t_LEAST_WEIGHT)))
    {t_MOST_WEIGHT : Tok} (z_MOST_WEIGHT : PySem.W.nsIn K mainGlobals "MOST_WEIGHT" = some (some (.int 9 t_MOST_WEIGHT)))
    {t_MOST_SIGNS : Tok} (z_MOST_SIGNS : PySem.W.nsIn K mainGlobals "MOST_SIGNS" = some (some (.int 6 t_MOST_SIGNS)))
    {t_MOST_WORDS : Tok} (z_MOST_WORDS : PySem.W.nsIn K mainGlobals "MOST_WORDS" = some (some (.int 4 t_MOST_WORDS)))
    {t_MOST_THROWS : Tok} (z_MOST_THROWS : PySem.W.nsIn K mainGlobals "MOST_THROWS" = some (some (.int 60 t_MOST_THROWS)))
    (b_len : PySem.W.nsIn K mainGlobals "len" = some none)
    (b_min : PySem.W.nsIn K mainGlobals "min" = some none)
    (b_max : PySem.W.nsIn K mainGlobals "max" = some none)
    (b_all : PySem.W.nsIn K mainGlobals "all" = some none)
    (b_any : PySem.W.nsIn K mainGlobals "any" = some none)
    (b_isinstance : PySem.W.nsIn K mainGlobals "isinstance" = some none)
    (b_sum : PySem.W.nsIn K mainGlobals "sum" = some none)
    (b_abs : PySem.W.nsIn K mainGlobals "abs" = some none)
    (b_list : PySem.W.nsIn K mainGlobals "list" = some none)
    (b_sorted : PySem.W.nsIn K mainGlobals "sorted" = some none)
    (b_range : PySem.W.nsIn K mainGlobals "range" = some none)
    (b_enumerate : PySem.W.nsIn K mainGlobals "enumerate" = some none)
    (b_set : PySem.W.nsIn K mainGlobals "set" = some none)
    (b_zip : PySem.W.nsIn K mainGlobals "zip" = some none)
    (b_ValueError : PySem.W.nsIn K mainGlobals "ValueError" = some none)
    : ∃ fd : FuncData, (∀ (s : Shared) (v : Value), BindsTo s fd ⟨[v], []⟩ [("script", v)]) ∧ ∀ base : Heap, K.In base → base.Ns mainGlobals mg → FnOk l.prog w K mg base CX0 46 fa fd ["script"] (sp_law K) := by
  have e := hfa.symm.trans (PySem.W.mg_of X G a34)
  cases e
  have M : Bl mg := ⟨PySem.W.mg_none_of X G b_len, PySem.W.mg_none_of X G b_min, PySem.W.mg_none_of X G b_max, PySem.W.mg_none_of X G b_all, PySem.W.mg_none_of X G b_any, PySem.W.mg_none_of X G b_isinstance, PySem.W.mg_none_of X G b_sum, PySem.W.mg_none_of X G b_abs, PySem.W.mg_none_of X G b_list, PySem.W.mg_none_of X G b_sorted, PySem.W.mg_none_of X G b_range, PySem.W.mg_none_of X G b_enumerate, PySem.W.mg_none_of X G b_set, PySem.W.mg_none_of X G b_zip, PySem.W.mg_none_of X G b_ValueError⟩
  have T : Cs l.prog mg := ⟨gt, ⟨t_SIGNS, by rw [PySem.W.mg_of X G z_SIGNS, show (Str.ofString "abcd") = S [97, 98, 99, 100] from by decide +kernel]⟩, ⟨t_LEAST_WEIGHTS, PySem.W.mg_of X G z_LEAST_WEIGHTS⟩, ⟨t_MOST_WEIGHTS, PySem.W.mg_of X G z_MOST_WEIGHTS⟩, ⟨t_LEAST_WEIGHT, PySem.W.mg_of X G z_LEAST_WEIGHT⟩, ⟨t_MOST_WEIGHT, PySem.W.mg_of X G z_MOST_WEIGHT⟩, ⟨t_MOST_SIGNS, PySem.W.mg_of X G z_MOST_SIGNS⟩, ⟨t_MOST_WORDS, PySem.W.mg_of X G z_MOST_WORDS⟩, ⟨t_MOST_THROWS, PySem.W.mg_of X G z_MOST_THROWS⟩⟩
  obtain ⟨c, Y⟩ := xc_of (mg := mg) yc (PySem.W.mg_of X G y0) (PySem.W.mg_of X G y1) (PySem.W.mg_of X G y2) (PySem.W.mg_of X G y3) (PySem.W.mg_of X G y4) (PySem.W.mg_of X G y5) (PySem.W.mg_of X G y6) (PySem.W.mg_of X G y7)
  have F0 := fun_mk (st := s_law_next) l0 c0 k0
  have B0 := F0.binds (ps := ["seed"]) fun _ _ _ _ _ _ us hl => bz1 (fun _ => rfl) us hl
  have F1 := fun_mk (st := s_law_die) l1 c1 k1
  have B1 := F1.binds (ps := ["cell"]) fun _ _ _ _ _ _ us hl => bz1 (fun _ => rfl) us hl
  have F2 := fun_mk (st := s_law_thrown) l2 c2 k2
  have B2 := F2.binds (ps := ["cell", "many", "signs"]) fun _ _ _ _ _ _ us hl => bz3 (fun _ _ _ => rfl) us hl
  have F3 := fun_mk (st := s_law_word) l3 c3 k3
  have B3 := F3.binds (ps := ["cell", "signs"]) fun _ _ _ _ _ _ us hl => bz2 (fun _ _ => rfl) us hl
  have F4 := fun_mk (st := s_law_cell_at) l4 c4 k4
  have B4 := F4.binds (ps := ["script", "k"]) fun _ _ _ _ _ _ us hl => bz2 (fun _ _ => rfl) us hl
  have F5 := fun_mk (st := s_law_words) l5 c5 k5
  have B5 := F5.binds (ps := ["script", "at", "signs"]) fun _ _ _ _ _ _ us hl => bz3 (fun _ _ _ => rfl) us hl
  have F6 := fun_mk (st := s_law_open) l6 c6 k6
  have B6 := F6.binds (ps := ["words", "row"]) fun _ _ _ _ _ _ us hl => bz2 (fun _ _ => rfl) us hl
  have F7 := fun_mk (st := s_check_die) l7 c7 k7
  have B7 := F7.binds (ps := ["die"]) fun _ _ _ _ _ _ us hl => bz1 (fun _ => rfl) us hl
  have F8 := fun_mk (st := s_signs_of) l8 c8 k8
  have B8 := F8.binds (ps := ["die"]) fun _ _ _ _ _ _ us hl => bz1 (fun _ => rfl) us hl
  have F9 := fun_mk (st := s_is_thrown) l9 c9 k9
  have B9 := F9.binds (ps := ["die", "text"]) fun _ _ _ _ _ _ us hl => bz2 (fun _ _ => rfl) us hl
  have F10 := fun_mk (st := s_check_word) l10 c10 k10
  have B10 := F10.binds (ps := ["die", "word"]) fun _ _ _ _ _ _ us hl => bz2 (fun _ _ => rfl) us hl
  have F11 := fun_mk (st := s_stands_within_another) l11 c11 k11
  have B11 := F11.binds (ps := ["words", "place"]) fun _ _ _ _ _ _ us hl => bz2 (fun _ _ => rfl) us hl
  have F12 := fun_mk (st := s_check_race) l12 c12 k12
  have B12 := F12.binds (ps := ["die", "words"]) fun _ _ _ _ _ _ us hl => bz2 (fun _ _ => rfl) us hl
  have F13 := fun_mk (st := s_check_many) l13 c13 k13
  have B13 := F13.binds (ps := ["many"]) fun _ _ _ _ _ _ us hl => bz1 (fun _ => rfl) us hl
  have F14 := fun_mk (st := s_beginnings_of) l14 c14 k14
  have B14 := F14.binds (ps := ["words"]) fun _ _ _ _ _ _ us hl => bz1 (fun _ => rfl) us hl
  have F15 := fun_mk (st := s_longest_at_end) l15 c15 k15
  have B15 := F15.binds (ps := ["begun", "text"]) fun _ _ _ _ _ _ us hl => bz2 (fun _ _ => rfl) us hl
  have F16 := fun_mk (st := s_one_throw_more) l16 c16 k16
  have B16 := F16.binds (ps := ["die", "words", "counted"]) fun _ _ _ _ _ _ us hl => bz3 (fun _ _ _ => rfl) us hl
  have F17 := fun_mk (st := s_rows_by_state) l17 c17 k17
  have B17 := F17.binds (ps := ["die", "words", "many"]) fun _ _ _ _ _ _ us hl => bz3 (fun _ _ _ => rfl) us hl
  have F18 := fun_mk (st := s_open_rows) l18 c18 k18
  have B18 := F18.binds (ps := ["die", "words", "many"]) fun _ _ _ _ _ _ us hl => bz3 (fun _ _ _ => rfl) us hl
  have F19 := fun_mk (st := s_law_kind) l19 c19 k19
  have B19 := F19.binds (ps := ["e"]) fun _ _ _ _ _ _ us hl => bz1 (fun _ => rfl) us hl
  have F20 := fun_mk (st := s_ended_rows) l20 c20 k20
  have B20 := F20.binds (ps := ["die", "words", "many"]) fun _ _ _ _ _ _ us hl => bz3 (fun _ _ _ => rfl) us hl
  have F21 := fun_mk (st := s_check_row) l21 c21 k21
  have B21 := F21.binds (ps := ["die", "row"]) fun _ _ _ _ _ _ us hl => bz2 (fun _ _ => rfl) us hl
  have F22 := fun_mk (st := s_state_of) l22 c22 k22
  have B22 := F22.binds (ps := ["die", "words", "row"]) fun _ _ _ _ _ _ us hl => bz3 (fun _ _ _ => rfl) us hl
  have F23 := fun_mk (st := s_ended) l23 c23 k23
  have B23 := F23.binds (ps := ["die", "words", "row"]) fun _ _ _ _ _ _ us hl => bz3 (fun _ _ _ => rfl) us hl
  have F24 := fun_mk (st := s_state_of_open) l24 c24 k24
  have B24 := F24.binds (ps := ["die", "words", "row"]) fun _ _ _ _ _ _ us hl => bz3 (fun _ _ _ => rfl) us hl
  have F25 := fun_mk (st := s_equation_of) l25 c25 k25
  have B25 := F25.binds (ps := ["die", "begun", "state"]) fun _ _ _ _ _ _ us hl => bz3 (fun _ _ _ => rfl) us hl
  have F26 := fun_mk (st := s_common_factor) l26 c26 k26
  have B26 := F26.binds (ps := ["numbers"]) fun _ _ _ _ _ _ us hl => bz1 (fun _ => rfl) us hl
  have F27 := fun_mk (st := s_freed_of) l27 c27 k27
  have B27 := F27.binds (ps := ["place", "used", "equation"]) fun _ _ _ _ _ _ us hl => bz3 (fun _ _ _ => rfl) us hl
  have F28 := fun_mk (st := s_solved) l28 c28 k28
  have B28 := F28.binds (ps := ["die", "words", "state"]) fun _ _ _ _ _ _ us hl => bz3 (fun _ _ _ => rfl) us hl
  have F29 := fun_mk (st := s_share_of) l29 c29 k29
  have B29 := F29.binds (ps := ["top", "bottom"]) fun _ _ _ _ _ _ us hl => bz2 (fun _ _ => rfl) us hl
  have F30 := fun_mk (st := s_mean) l30 c30 k30
  have B30 := F30.binds (ps := ["die", "words", "row"]) fun _ _ _ _ _ _ us hl => bz3 (fun _ _ _ => rfl) us hl
  have F31 := fun_mk (st := s_shares) l31 c31 k31
  have B31 := F31.binds (ps := ["die", "words", "row"]) fun _ _ _ _ _ _ us hl => bz3 (fun _ _ _ => rfl) us hl
  have F32 := fun_mk (st := s_law_asked) l32 c32 k32
  have B32 := F32.binds (ps := ["turn", "die", "words", "row"]) fun _ _ _ _ _ _ us hl => bz4 (fun _ _ _ _ => rfl) us hl
  have F33 := fun_mk (st := s_law_tried) l33 c33 k33
  have B33 := F33.binds (ps := ["turn", "die", "words", "given"]) fun _ _ _ _ _ _ us hl => bz4 (fun _ _ _ _ => rfl) us hl
  have F34 := fun_mk (st := s_law) l34 c34 k34
  refine ⟨PySem.W.fnOf "law" "law" (defArgs s_law) (defBody s_law) (defScope s_law) .none kV34 dc34 pm34 an34 cd34 ct34, fun s v => .of_eq rfl, fun base _ _ => ?_⟩
  have D0 : Df l.prog w K mg base "_law_next" 37 f0 _ _ (sp_law_next K) := ⟨ok_law_next F0 M T , PySem.W.mg_of X G a0, F0.kp, B0⟩
  have D1 : Df l.prog w K mg base "_law_die" 38 f1 _ _ (sp_law_die K) := ⟨ok_law_die F1 M T D0, PySem.W.mg_of X G a1, F1.kp, B1⟩
  have D2 : Df l.prog w K mg base "_law_thrown" 38 f2 _ _ (sp_law_thrown K) := ⟨ok_law_thrown F2 M T D0, PySem.W.mg_of X G a2, F2.kp, B2⟩
  have D3 : Df l.prog w K mg base "_law_word" 39 f3 _ _ (sp_law_word K) := ⟨ok_law_word F3 M T D2, PySem.W.mg_of X G a3, F3.kp, B3⟩
  have D4 : Df l.prog w K mg base "_law_cell_at" 37 f4 _ _ (sp_law_cell_at K) := ⟨ok_law_cell_at F4 M T , PySem.W.mg_of X G a4, F4.kp, B4⟩
  have D5 : Df l.prog w K mg base "_law_words" 40 f5 _ _ (sp_law_words K) := ⟨ok_law_words F5 M T D3 D4, PySem.W.mg_of X G a5, F5.kp, B5⟩
  have D6 : Df l.prog w K mg base "_law_open" 37 f6 _ _ (sp_law_open K) := ⟨ok_law_open F6 M T , PySem.W.mg_of X G a6, F6.kp, B6⟩
  have D7 : Df l.prog w K mg base "check_die" 37 f7 _ _ (sp_check_die K) := ⟨ok_check_die F7 M T , PySem.W.mg_of X G a7, F7.kp, B7⟩
  have D8 : Df l.prog w K mg base "signs_of" 37 f8 _ _ (sp_signs_of K) := ⟨ok_signs_of F8 M T , PySem.W.mg_of X G a8, F8.kp, B8⟩
  have D9 : Df l.prog w K mg base "is_thrown" 38 f9 _ _ (sp_is_thrown K) := ⟨ok_is_thrown F9 M T D8, PySem.W.mg_of X G a9, F9.kp, B9⟩
  have D10 : Df l.prog w K mg base "check_word" 39 f10 _ _ (sp_check_word K) := ⟨ok_check_word F10 M T D9, PySem.W.mg_of X G a10, F10.kp, B10⟩
  have D11 : Df l.prog w K mg base "stands_within_another" 37 f11 _ _ (sp_stands_within_another K) := ⟨ok_stands_within_another F11 M T , PySem.W.mg_of X G a11, F11.kp, B11⟩
  have D12 : Df l.prog w K mg base "check_race" 40 f12 _ _ (sp_check_race K) := ⟨ok_check_race F12 M T D7 D10 D11, PySem.W.mg_of X G a12, F12.kp, B12⟩
  have D13 : Df l.prog w K mg base "check_many" 37 f13 _ _ (sp_check_many K) := ⟨ok_check_many F13 M T , PySem.W.mg_of X G a13, F13.kp, B13⟩
  have R13 : DfX l.prog w K mg base "check_many" 37 f13 _ _ (sp_check_manyR K c) := ⟨okR_check_many F13 M T Y , PySem.W.mg_of X G a13, F13.kp, B13⟩
  have D14 : Df l.prog w K mg base "beginnings_of" 37 f14 _ _ (sp_beginnings_of K) := ⟨ok_beginnings_of F14 M T , PySem.W.mg_of X G a14, F14.kp, B14⟩
  have D15 : Df l.prog w K mg base "longest_at_end" 37 f15 _ _ (sp_longest_at_end K) := ⟨ok_longest_at_end F15 M T , PySem.W.mg_of X G a15, F15.kp, B15⟩
  have D16 : Df l.prog w K mg base "one_throw_more" 38 f16 _ _ (sp_one_throw_more K) := ⟨ok_one_throw_more F16 M T D14 D8 D15, PySem.W.mg_of X G a16, F16.kp, B16⟩
  have D17 : Df l.prog w K mg base "rows_by_state" 39 f17 _ _ (sp_rows_by_state K) := ⟨ok_rows_by_state F17 M T D16, PySem.W.mg_of X G a17, F17.kp, B17⟩
  have D18 : Df l.prog w K mg base "open_rows" 41 f18 _ _ (sp_open_rows K) := ⟨ok_open_rows F18 M T D12 D13 D17, PySem.W.mg_of X G a18, F18.kp, B18⟩
  have R18 : DfX l.prog w K mg base "open_rows" 41 f18 _ _ (sp_open_rowsR K c) := ⟨okR_open_rows F18 M T Y D12 R13, PySem.W.mg_of X G a18, F18.kp, B18⟩
  have Q19 : DfM l.prog w K mg base "_law_kind" 37 f19 _ _ (sp_law_kind K c) := ⟨okM_law_kind F19 M T Y , PySem.W.mg_of X G a19, F19.kp, B19⟩
  have D20 : Df l.prog w K mg base "ended_rows" 41 f20 _ _ (sp_ended_rows K) := ⟨ok_ended_rows F20 M T D12 D13 D17, PySem.W.mg_of X G a20, F20.kp, B20⟩
  have R20 : DfX l.prog w K mg base "ended_rows" 41 f20 _ _ (sp_ended_rowsR K c) := ⟨okR_ended_rows F20 M T Y D12 R13, PySem.W.mg_of X G a20, F20.kp, B20⟩
  have D21 : Df l.prog w K mg base "check_row" 39 f21 _ _ (sp_check_row K) := ⟨ok_check_row F21 M T D9, PySem.W.mg_of X G a21, F21.kp, B21⟩
  have R21 : DfX l.prog w K mg base "check_row" 39 f21 _ _ (sp_check_rowR K c) := ⟨okR_check_row F21 M T Y D9, PySem.W.mg_of X G a21, F21.kp, B21⟩
  have D22 : Df l.prog w K mg base "state_of" 41 f22 _ _ (sp_state_of K) := ⟨ok_state_of F22 M T D12 D21 D15 D14, PySem.W.mg_of X G a22, F22.kp, B22⟩
  have R22 : DfX l.prog w K mg base "state_of" 41 f22 _ _ (sp_state_ofR K c) := ⟨okR_state_of F22 M T Y D12 R21, PySem.W.mg_of X G a22, F22.kp, B22⟩
  have D23 : Df l.prog w K mg base "ended" 41 f23 _ _ (sp_ended K) := ⟨ok_ended F23 M T D12 D21, PySem.W.mg_of X G a23, F23.kp, B23⟩
  have R23 : DfX l.prog w K mg base "ended" 41 f23 _ _ (sp_endedR K c) := ⟨okR_ended F23 M T Y D12 R21, PySem.W.mg_of X G a23, F23.kp, B23⟩
  have D24 : Df l.prog w K mg base "state_of_open" 42 f24 _ _ (sp_state_of_open K) := ⟨ok_state_of_open F24 M T D22 D23, PySem.W.mg_of X G a24, F24.kp, B24⟩
  have R24 : DfX l.prog w K mg base "state_of_open" 42 f24 _ _ (sp_state_of_openR K c) := ⟨okR_state_of_open F24 M T Y D22 R22 D23, PySem.W.mg_of X G a24, F24.kp, B24⟩
  have D25 : Df l.prog w K mg base "equation_of" 38 f25 _ _ (sp_equation_of K) := ⟨ok_equation_of F25 M T D8 D15, PySem.W.mg_of X G a25, F25.kp, B25⟩
  have D26 : Df l.prog w K mg base "common_factor" 37 f26 _ _ (sp_common_factor K) := ⟨ok_common_factor F26 M T , PySem.W.mg_of X G a26, F26.kp, B26⟩
  have D27 : Df l.prog w K mg base "freed_of" 38 f27 _ _ (sp_freed_of K) := ⟨ok_freed_of F27 M T D26, PySem.W.mg_of X G a27, F27.kp, B27⟩
  have D28 : Df l.prog w K mg base "solved" 39 f28 _ _ (sp_solved K) := ⟨ok_solved F28 M T D14 D25 D27, PySem.W.mg_of X G a28, F28.kp, B28⟩
  have D29 : Df l.prog w K mg base "share_of" 38 f29 _ _ (sp_share_of K) := ⟨ok_share_of F29 M T D26, PySem.W.mg_of X G a29, F29.kp, B29⟩
  have D30 : Df l.prog w K mg base "mean" 43 f30 _ _ (sp_mean K) := ⟨ok_mean F30 M T D24 D14 D28 D29, PySem.W.mg_of X G a30, F30.kp, B30⟩
  have R30 : DfX l.prog w K mg base "mean" 43 f30 _ _ (sp_meanR K c) := ⟨okR_mean F30 M T Y R24, PySem.W.mg_of X G a30, F30.kp, B30⟩
  have D31 : Df l.prog w K mg base "shares" 43 f31 _ _ (sp_shares K) := ⟨ok_shares F31 M T D24 D14 D28 D29, PySem.W.mg_of X G a31, F31.kp, B31⟩
  have R31 : DfX l.prog w K mg base "shares" 43 f31 _ _ (sp_sharesR K c) := ⟨okR_shares F31 M T Y R24, PySem.W.mg_of X G a31, F31.kp, B31⟩
  have D32 : Df l.prog w K mg base "_law_asked" 44 f32 _ _ (sp_law_asked K) := ⟨ok_law_asked F32 M T D30 D22 D23 D31, PySem.W.mg_of X G a32, F32.kp, B32⟩
  have R32 : DfX l.prog w K mg base "_law_asked" 44 f32 _ _ (sp_law_askedR K c) := ⟨okR_law_asked F32 M T Y R22 R23 R31 R30, PySem.W.mg_of X G a32, F32.kp, B32⟩
  have D33 : Df l.prog w K mg base "_law_tried" 45 f33 _ _ (sp_law_tried K c) := ⟨okT_law_tried F33 M T Y D18 R18 D20 R20 D32 R32 Q19, PySem.W.mg_of X G a33, F33.kp, B33⟩
  exact ok_law F34 M T D1 D2 D5 D4 D6 D33
theorem walk {l : PySem.W.OpenLaw} {q : Program} {loose : List Str} {XP : (Str → Option Value) → Heap → Prop} {YP : World → Heap → Prop} {d : DefRec} {K : Params → PySem.W.Frag} (hi : PyProof.Rows.importsNone q = true) (hn : l.most = some 63) (hdf : d.params.defaults = [])
    (hY : ∀ (w : World) (h : Heap), YP w h → (K w.params).In h)
    (F : ∀ (w : World) (mg : Str → Option Value) (fa : Addr) (h : Heap), (K w.params).In h → h.Ns mainGlobals mg → mg d.name = some (.ref fa) →
      ∃ fd : FuncData, (∀ (s : Shared) (u : Value), BindsTo s fd ⟨[u], []⟩ [("script", u)]) ∧ ∀ base : Heap, (K w.params).In base → base.Ns mainGlobals mg → FnOk l.prog w (K w.params) mg base CX0 46 fa fd ["script"] (sp_law (K w.params))) :
    PySem.W.WalkO q loose XP YP l.row.toRowW d [] (fun f vs => PySem.call f vs) :=
  L2.walk_of (n := 63) (k := 46) (x := "script") (CX := fun _ => CX0) (sp := fun w => sp_law (K w.params)) hi hn (by decide) hdf ⟨rfl, by decide, by decide⟩ hY F (fun _ _ a ns hl _ hS => ⟨a, ns, rfl, hS, hl, fun _ => rfl⟩) fun _ _ _ _ _ z => z
end My
open PySem PySem.W PyProof.Rows
set_option maxRecDepth 100000 in
set_option maxHeartbeats 0 in
theorem PySem.Challenge.cw_wordrace_k17_no_row_and_over_holds : PySem.Challenge.rw_wordrace_k17_no_row_and_over.Holds := by
  w_on; o_law; k_head; (case hw => w_witness2)
  k_fill
  refine My.walk (l := PySem.Challenge.rw_wordrace_k17_no_row_and_over) ?hi rfl rfl (fun w h Y => PySem.W.kIn_of Y) ?F
  case hi => decide +kernel
  case F =>
    intro w mg fa h KX G hmg
    refine' My.all_mk rfl KX G hmg ?a0 ?l0 ?c0 ?k0 ?a1 ?l1 ?c1 ?k1 ?a2 ?l2 ?c2 ?k2 ?a3 ?l3 ?c3 ?k3 ?a4 ?l4 ?c4 ?k4 ?a5 ?l5 ?c5 ?k5 ?a6 ?l6 ?c6 ?k6 ?a7 ?l7 ?c7 ?k7 ?a8 ?l8 ?c8 ?k8 ?a9 ?l9 ?c9 ?k9 ?a10 ?l10 ?c10 ?k10 ?a11 ?l11 ?c11 ?k11 ?a12 ?l12 ?c12 ?k12 ?a13 ?l13 ?c13 ?k13 ?a14 ?l14 ?c14 ?k14 ?a15 ?l15 ?c15 ?k15 ?a16 ?l16 ?c16 ?k16 ?a17 ?l17 ?c17 ?k17 ?a18 ?l18 ?c18 ?k18 ?a19 ?l19 ?c19 ?k19 ?a20 ?l20 ?c20 ?k20 ?a21 ?l21 ?c21 ?k21 ?a22 ?l22 ?c22 ?k22 ?a23 ?l23 ?c23 ?k23 ?a24 ?l24 ?c24 ?k24 ?a25 ?l25 ?c25 ?k25 ?a26 ?l26 ?c26 ?k26 ?a27 ?l27 ?c27 ?k27 ?a28 ?l28 ?c28 ?k28 ?a29 ?l29 ?c29 ?k29 ?a30 ?l30 ?c30 ?k30 ?a31 ?l31 ?c31 ?k31 ?a32 ?l32 ?c32 ?k32 ?a33 ?l33 ?c33 ?k33 ?a34 ?l34 ?c34 ?k34 ?y0 ?y1 ?y2 ?y3 ?y4 ?y5 ?y6 ?y7 ?yc ?z_SIGNS ?z_LEAST_WEIGHTS ?z_MOST_WEIGHTS ?z_LEAST_WEIGHT ?z_MOST_WEIGHT ?z_MOST_SIGNS ?z_MOST_WORDS ?z_MOST_THROWS ?b_len ?b_min ?b_max ?b_all ?b_any ?b_isinstance ?b_sum ?b_abs ?b_list ?b_sorted ?b_range ?b_enumerate ?b_set ?b_zip ?b_ValueError
    (case a0 => k_is)
    (case l0 => k_is)
    (case c0 => k_is)
    (case k0 => k_is)
    (case a1 => k_is)
    (case l1 => k_is)
    (case c1 => k_is)
    (case k1 => k_is)
    (case a2 => k_is)
    (case l2 => k_is)
    (case c2 => k_is)
    (case k2 => k_is)
    (case a3 => k_is)
    (case l3 => k_is)
    (case c3 => k_is)
    (case k3 => k_is)
    (case a4 => k_is)
    (case l4 => k_is)
    (case c4 => k_is)
    (case k4 => k_is)
    (case a5 => k_is)
    (case l5 => k_is)
    (case c5 => k_is)
    (case k5 => k_is)
    (case a6 => k_is)
    (case l6 => k_is)
    (case c6 => k_is)
    (case k6 => k_is)
    (case a7 => k_is)
    (case l7 => k_is)
    (case c7 => k_is)
    (case k7 => k_is)
    (case a8 => k_is)
    (case l8 => k_is)
    (case c8 => k_is)
    (case k8 => k_is)
    (case a9 => k_is)
    (case l9 => k_is)
    (case c9 => k_is)
    (case k9 => k_is)
    (case a10 => k_is)
    (case l10 => k_is)
    (case c10 => k_is)
    (case k10 => k_is)
    (case a11 => k_is)
    (case l11 => k_is)
    (case c11 => k_is)
    (case k11 => k_is)
    (case a12 => k_is)
    (case l12 => k_is)
    (case c12 => k_is)
    (case k12 => k_is)
    (case a13 => k_is)
    (case l13 => k_is)
    (case c13 => k_is)
    (case k13 => k_is)
    (case a14 => k_is)
    (case l14 => k_is)
    (case c14 => k_is)
    (case k14 => k_is)
    (case a15 => k_is)
    (case l15 => k_is)
    (case c15 => k_is)
    (case k15 => k_is)
    (case a16 => k_is)
    (case l16 => k_is)
    (case c16 => k_is)
    (case k16 => k_is)
    (case a17 => k_is)
    (case l17 => k_is)
    (case c17 => k_is)
    (case k17 => k_is)
    (case a18 => k_is)
    (case l18 => k_is)
    (case c18 => k_is)
    (case k18 => k_is)
    (case a19 => k_is)
    (case l19 => k_is)
    (case c19 => k_is)
    (case k19 => k_is)
    (case a20 => k_is)
    (case l20 => k_is)
    (case c20 => k_is)
    (case k20 => k_is)
    (case a21 => k_is)
    (case l21 => k_is)
    (case c21 => k_is)
    (case k21 => k_is)
    (case a22 => k_is)
    (case l22 => k_is)
    (case c22 => k_is)
    (case k22 => k_is)
    (case a23 => k_is)
    (case l23 => k_is)
    (case c23 => k_is)
    (case k23 => k_is)
    (case a24 => k_is)
    (case l24 => k_is)
    (case c24 => k_is)
    (case k24 => k_is)
    (case a25 => k_is)
    (case l25 => k_is)
    (case c25 => k_is)
    (case k25 => k_is)
    (case a26 => k_is)
    (case l26 => k_is)
    (case c26 => k_is)
    (case k26 => k_is)
    (case a27 => k_is)
    (case l27 => k_is)
    (case c27 => k_is)
    (case k27 => k_is)
    (case a28 => k_is)
    (case l28 => k_is)
    (case c28 => k_is)
    (case k28 => k_is)
    (case a29 => k_is)
    (case l29 => k_is)
    (case c29 => k_is)
    (case k29 => k_is)
    (case a30 => k_is)
    (case l30 => k_is)
    (case c30 => k_is)
    (case k30 => k_is)
    (case a31 => k_is)
    (case l31 => k_is)
    (case c31 => k_is)
    (case k31 => k_is)
    (case a32 => k_is)
    (case l32 => k_is)
    (case c32 => k_is)
    (case k32 => k_is)
    (case a33 => k_is)
    (case l33 => k_is)
    (case c33 => k_is)
    (case k33 => k_is)
    (case a34 => k_is)
    (case l34 => k_is)
    (case c34 => k_is)
    (case k34 => k_is)
    (case y0 => k_is)
    (case y1 => k_is)
    (case y2 => k_is)
    (case y3 => k_is)
    (case y4 => k_is)
    (case y5 => k_is)
    (case y6 => k_is)
    (case y7 => k_is)
    (case yc => kernel_rfl)
    (case z_SIGNS => k_is)
    (case z_LEAST_WEIGHTS => k_is)
    (case z_MOST_WEIGHTS => k_is)
    (case z_LEAST_WEIGHT => k_is)
    (case z_MOST_WEIGHT => k_is)
    (case z_MOST_SIGNS => k_is)
    (case z_MOST_WORDS => k_is)
    (case z_MOST_THROWS => k_is)
    (case b_len => k_is)
    (case b_min => k_is)
    (case b_max => k_is)
    (case b_all => k_is)
    (case b_any => k_is)
    (case b_isinstance => k_is)
    (case b_sum => k_is)
    (case b_abs => k_is)
    (case b_list => k_is)
    (case b_sorted => k_is)
    (case b_range => k_is)
    (case b_enumerate => k_is)
    (case b_set => k_is)
    (case b_zip => k_is)
    (case b_ValueError => k_is)
