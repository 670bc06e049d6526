import PyProof.Rows.All
import Wide.All
import OpenK.AllK
import Wide.FinOn
import Lean
import PyProof.EqAt
import PyProof.EqKinds
import PyProof.TupleCall
import PyProof.DictItems
import PyProof.Draws
import PyProof.ZipIter
import PyProof.CallStr
import KE.KIntText
import PyProof.StationsW
import OpenK.KOwn
import KE.KIsAll
import PyProof.ExcArgsOwn
import PyProof.Rows.CountFlat
import PySem.Challenge.RW_wordrace_k16_no_race

set_option Elab.async false
set_option linter.all false
set_option maxRecDepth 100000
/-! THE HAND LAYER, for ints, bools, texts, own classes, LISTS and tuples (index, slices, in, append, pop ..), calls, loops. Paste it whole ahead of your own text; what your proof does not reach may be deleted. -/
namespace L2
open PySem PySem.Spec PyProof.Rows

/-- a key: an int or a str -/
abbrev Key := Sum Int Str
def keyIs : Key → Value → Bool
  | .inl k, v => Value.isInt k v
  | .inr x, v => Value.isStrOf x v
def keyH (w : World) : Key → Int
  | .inl k => hashInt k
  | .inr x => hashStr w x
theorem keyIs_shape : ∀ {k : Key} {v : Value}, keyIs k v = true → (∃ i t, k = Sum.inl i ∧ v = Value.int i t) ∨ (∃ x t, k = Sum.inr x ∧ v = Value.str x t)
  | .inl i, v, h => by
    obtain ⟨t, e⟩ := Value.isInt_shape (k := i) (v := v) h
    exact .inl ⟨i, t, rfl, e⟩
  | .inr x, v, h => by
    obtain ⟨t, e⟩ := Value.isStrOf_shape (x := x) (v := v) h
    exact .inr ⟨x, t, rfl, e⟩
theorem keyIs_str (x : Str) (t : Tok) : keyIs (.inr x) (.str x t) = true := by simp [keyIs, Value.isStrOf]
theorem key_ll (a b : Int) : decide ((Sum.inl a : Key) = Sum.inl b) = (a == b) := by
  by_cases e : a = b
  · subst e; simp
  · have h : ¬ (Sum.inl a : Key) = Sum.inl b := fun q => e (Sum.inl.inj q)
    rw [decide_eq_false h]
    exact (beq_eq_false_iff_ne.mpr e).symm
theorem key_rr (a b : Str) : decide ((Sum.inr a : Key) = Sum.inr b) = decide (a = b) := by
  by_cases e : a = b
  · subst e; simp
  · have h : ¬ (Sum.inr a : Key) = Sum.inr b := fun q => e (Sum.inr.inj q)
    rw [decide_eq_false h, decide_eq_false e]
theorem key_lr (a : Int) (b : Str) : decide ((Sum.inl a : Key) = Sum.inr b) = false := decide_eq_false (fun q => nomatch q)
theorem key_rl (a : Str) (b : Int) : decide ((Sum.inr a : Key) = Sum.inl b) = false := decide_eq_false (fun q => nomatch q)

def mixKind (prog : Program) (w : World) : PySem.KeyKind prog w Key where
  is := keyIs
  hash := keyH w
  inj := fun v a b ha hb => by
    rcases keyIs_shape ha with ⟨i, t, rfl, rfl⟩ | ⟨x, t, rfl, rfl⟩
    · rcases keyIs_shape hb with ⟨j, u, rfl, e⟩ | ⟨y, u, rfl, e⟩
      · injection e with e1 _; rw [e1]
      · exact nomatch e
    · rcases keyIs_shape hb with ⟨j, u, rfl, e⟩ | ⟨y, u, rfl, e⟩
      · exact nomatch e
      · injection e with e1 _; rw [e1]
  byValue := fun k v h => by
    rcases keyIs_shape h with ⟨i, t, rfl, rfl⟩ | ⟨x, t, rfl, rfl⟩ <;> rfl
  pyHash := fun hv h => by
    rcases keyIs_shape hv with ⟨i, t, rfl, rfl⟩ | ⟨x, t, rfl, rfl⟩
    · exact wpAny_pyHash_int h
    · exact wpAny_pyHash_str h
  eqBool := fun hu hv h => by
    rcases keyIs_shape hu with ⟨i, t, rfl, rfl⟩ | ⟨x, t, rfl, rfl⟩
    · rcases keyIs_shape hv with ⟨j, u, rfl, rfl⟩ | ⟨y, u, rfl, rfl⟩
      · rw [key_ll] at h; exact wpAny_eqBool_int h
      · rw [key_lr] at h; exact SeqAt.EqAt.int_str i t y u _ _ _ _ h
    · rcases keyIs_shape hv with ⟨j, u, rfl, rfl⟩ | ⟨y, u, rfl, rfl⟩
      · rw [key_rl] at h; exact SeqAt.EqAt.str_int x t j u _ _ _ _ h
      · rw [key_rr] at h; exact wpAny_eqBool_str h
  «strs» := fun k x t v h => by
    rcases keyIs_shape h with ⟨i, u, rfl, e⟩ | ⟨y, u, rfl, e⟩
    · exact nomatch e
    · injection e with e1 _
      subst e1
      cases v <;> rfl

theorem mixKind_str (prog : Program) (w : World) (x : Str) (t : Tok) : (mixKind prog w).is (.inr x) (.str x t) = true := keyIs_str x t
end L2

namespace L2
open PySem PySem.Spec PyProof.Rows

/-- a value, without the heap -/
inductive V where
  | non | bl (b : Bool) | int (i : Int) | str (x : Str) | byt (b : Array UInt8) | flt (b : UInt64) | ref (a : Addr) | ty (n : String)
  deriving DecidableEq

def RelV : V → Value → Prop
  | .non, u => u = Value.none
  | .bl b, u => u = Value.bool b
  | .int i, u => ∃ t, u = Value.int i t
  | .str x, u => ∃ t, u = Value.str x t
  | .byt b, u => ∃ t, u = Value.bytes b t
  | .flt b, u => ∃ t, u = Value.float b t
  | .ref a, u => u = Value.ref a
  | .ty n, u => u = Value.type n

abbrev Vals : List V → List Value → Prop := Paired RelV
theorem Vals.length {xs : List V} {us : List Value} (r : Vals xs us) : xs.length = us.length := Paired.length r
theorem Vals.get : ∀ {xs : List V} {us : List Value} {i : Nat} {x : V}, Vals xs us → xs[i]? = some x → ∃ u, us[i]? = some u ∧ RelV x u
  | _, _, _, _, .nil, e => by simp at e
  | _, _, 0, _, .cons r _, e => by simp at e; subst e; exact ⟨_, rfl, r⟩
  | _, _, i + 1, x, .cons _ t, e => by
    obtain ⟨u, h1, h2⟩ := Vals.get (i := i) (x := x) t (by simpa using e)
    exact ⟨u, by simpa using h1, h2⟩
theorem Vals.append : ∀ {xs ys : List V} {us ws : List Value}, Vals xs us → Vals ys ws → Vals (xs ++ ys) (us ++ ws)
  | _, _, _, _, .nil, s => s
  | _, _, _, _, .cons r t, s => .cons r (Vals.append t s)
theorem Vals.take : ∀ {xs : List V} {us : List Value} (n : Nat), Vals xs us → Vals (xs.take n) (us.take n)
  | _, _, 0, _ => .nil
  | _, _, _ + 1, .nil => .nil
  | _, _, n + 1, .cons r t => .cons r (Vals.take n t)
theorem Vals.drop : ∀ {xs : List V} {us : List Value} (n : Nat), Vals xs us → Vals (xs.drop n) (us.drop n)
  | _, _, 0, r => r
  | _, _, _ + 1, .nil => .nil
  | _, _, n + 1, .cons _ t => Vals.drop n t
def RelO : Option V → Option Value → Prop
  | some v, some u => RelV v u
  | none, none => True
  | _, _ => False
def KV {κ : Type} : List (κ × V) → List (κ × Value) → Prop := Paired fun (p : κ × V) (q : κ × Value) => p.1 = q.1 ∧ RelV p.2 q.2

/-- a key of a dict (00_mix): an int or a text -/
def kV : Key → V
  | .inl i => .int i
  | .inr x => .str x

/-- what stands at a tracked address -/
inductive HO where
  /-- a list -/
  | lst (xs : List V)
  /-- a tuple (never changes) -/
  | tup (xs : List V)
  /-- a dict whose keys are ints and texts; one whose keys are tuples of ints and texts (the empty one is both) -/
  | dK (kvs : List (Key × V)) | dT (kvs : List (List Key × V))
  /-- a set of ints: its members, its size -/
  | set (S : Int → Bool) (n : Nat)
  /-- an instance of the class at C, its dict at dx, its attributes -/
  | ins (C dx : Addr) (fs : List (Str × V))
  /-- the dict of the instance at x -/
  | own (x : Addr)
  /-- the dict of an exception -/
  | xd (fs : List (Str × V))
  /-- a bound method, f of x -/
  | met (f x : Addr)
  /-- a range object lo, lo + 1, .. below hi -/
  | rng (lo hi : Int)
  /-- a thing that is known to the object (the script; a dict while a loop walks it): read, never written while it is so -/
  | frz (o : Obj) (u : HO)
  /-- a code object's table -/
  | tbl (ps : Array Value)
  /-- any other thing, by what is true of its one object (a def of one's own: SetO a S n := HO.ext fun h => ..) -/
  | ext (φ : Heap → Prop)

abbrev Hp := Addr → Option HO
def upd (H : Hp) (a : Addr) (o : HO) : Hp := fun b => if b = a then some o else H b
theorem upd_same {H : Hp} {a : Addr} {o : HO} : upd H a o a = some o := by unfold upd; rw [if_pos rfl]
theorem upd_ne {H : Hp} {a b : Addr} {o : HO} (h : b ≠ a) : upd H a o b = H b := by unfold upd; rw [if_neg h]
theorem ne_of_none {H : Hp} {a b : Addr} {o : HO} (h : H a = some o) (h' : H b = none) : a ≠ b := by
  intro e; subst e; rw [h] at h'; cases h'

section
variable (P : Program) (w : World)
def ObjOk (H : Hp) (h : Heap) (a : Addr) : HO → Prop
  | .lst xs => xs.length ≤ sizeLine ∧ ∃ (its : List Value) (n : Nat), Vals xs its ∧ h.get? a = some { cls := .type "list", data := .seq its.toArray n }
  | .tup xs => xs.length ≤ sizeLine ∧ ∃ its : List Value, Vals xs its ∧ IsTup h a its.toArray
  | .dK kvs => kvs.length ≤ sizeLine ∧ (a == sysModules) = false ∧ ∃ vs, KV kvs vs ∧ h.DictOf (mixKind P w) a vs
  | .dT kvs => kvs.length ≤ sizeLine ∧ (a == sysModules) = false ∧ ∃ xs : List (List Key × Addr × Value),
      Paired (fun (p : List Key × V) (q : List Key × Addr × Value) => p.1 = q.1 ∧ H q.2.1 = some (.tup (p.1.map kV)) ∧ RelV p.2 q.2.2) kvs xs ∧
      ∃ o es ep, h.get? a = some o ∧ o.ExactDict ∧ o.data = .dict es ep ∧ es.toList = xs.map (entryOfKey (tupleKind (mixKind P w))) ∧ (xs.map (·.1)).Nodup
  | .set S n => h.SetOf (intKind P w) a S n
  | .ins C dx fs => H dx = some (.own a) ∧ fs.length ≤ 1000 ∧ dx ≠ a ∧ h.get? a = some (PySem.W.instObj C dx) ∧
      ∃ mA, h.Ns1 dx mA ∧ (∀ f, RelO (fs.lookup f) (mA f)) ∧ PySem.Within mA (fs.map (·.1))
  | .own _ => ∃ o, h.get? a = some o
  | .xd fs => ∃ mA, h.Ns1 a mA ∧ ∀ f, RelO (fs.lookup f) (mA f)
  | .rng lo hi => ∃ t u v, h.get? a = some { cls := .type "range", data := .fields #[.int lo t, .int hi u, .int 1 v] }
  | .frz o u => h.get? a = some o ∧ ObjOk H h a u
  | .tbl ps => h.get? a = some { cls := .none, data := .fields ps }
  | .met f x => h.get? a = some (PySem.W.methodObj (.ref f) (.ref x))
  | .ext φ => φ h ∧ (∃ o, h.get? a = some o) ∧ ∀ h1 h2 : Heap, φ h1 → (∀ o, h1.get? a = some o → h2.get? a = some o) → φ h2
/-- the abstract heap is held -/
def HOk (H : Hp) (h : Heap) : Prop := ∀ a o, H a = some o → ObjOk P w H h a o
end

section
variable {P : Program} {w : World} {H H' : Hp} {h h' : Heap} {a : Addr} {o : HO}
theorem ObjOk.lt (x : ObjOk P w H h a o) : a < h.objs.size := by
  cases o with
  | lst xs => obtain ⟨_, _, _, _, e⟩ := x; exact Heap.lt_size e
  | tup xs => obtain ⟨_, _, _, p⟩ := x; exact p.lt
  | dK kvs => obtain ⟨_, _, _, _, o, _, _, e, _⟩ := x; exact Heap.lt_size e
  | dT kvs => obtain ⟨_, _, _, _, o, _, _, e, _⟩ := x; exact Heap.lt_size e
  | set S n => obtain ⟨o, _, _, _, e, _⟩ := x; exact Heap.lt_size e
  | ins C dx fs => obtain ⟨_, _, _, e, _⟩ := x; exact Heap.lt_size e
  | own y => obtain ⟨_, e⟩ := x; exact Heap.lt_size e
  | xd fs => obtain ⟨_, ⟨_, _, _, e, _⟩, _⟩ := x; exact Heap.lt_size e
  | rng lo hi => obtain ⟨_, _, _, e⟩ := x; exact Heap.lt_size e
  | frz ob u => obtain ⟨e, _⟩ := x; exact Heap.lt_size e
  | tbl ps => exact Heap.lt_size (show h.get? a = some _ from x)
  | met f y => exact Heap.lt_size (show h.get? a = some _ from x)
  | ext φ => obtain ⟨_, ⟨_, e⟩, _⟩ := x; exact Heap.lt_size e
theorem Paired.mapP {α β : Type} {F G : α → β → Prop} : ∀ {l₁ : List α} {l₂ : List β}, Paired F l₁ l₂ → (∀ a b, F a b → G a b) → Paired G l₁ l₂
  | _, _, .nil, _ => .nil
  | _, _, .cons r t, f => .cons (f _ _ r) (Paired.mapP t f)
/-- what an object's description leans on: its own object, its own dict, the tuples -/
theorem ObjOk.stay (x : ObjOk P w H h a o) (k : ∀ b u, (b = a ∨ H b = some (.own a)) → h.get? b = some u → h'.get? b = some u)
    (ho : ∀ b, H b = some (.own a) → H' b = some (.own a)) (ht : ∀ b xs, H b = some (.tup xs) → H' b = some (.tup xs)) : ObjOk P w H' h' a o := by
  induction o with
  | lst xs => obtain ⟨z, its, n, r, e⟩ := x; exact ⟨z, its, n, r, k _ _ (.inl rfl) e⟩
  | tup xs => obtain ⟨z, its, r, ob, e, c⟩ := x; exact ⟨z, its, r, ob, k _ _ (.inl rfl) e, c⟩
  | dK kvs => obtain ⟨z, y, vs, r, ob, es, ep, e, c⟩ := x; exact ⟨z, y, vs, r, ob, es, ep, k _ _ (.inl rfl) e, c⟩
  | dT kvs =>
    obtain ⟨z, y, xs, r, ob, es, ep, e, c⟩ := x
    exact ⟨z, y, xs, Paired.mapP r fun p q z => ⟨z.1, ht _ _ z.2.1, z.2.2⟩, ob, es, ep, k _ _ (.inl rfl) e, c⟩
  | set S n => obtain ⟨ob, es, ep, t, e, c⟩ := x; exact ⟨ob, es, ep, t, k _ _ (.inl rfl) e, c⟩
  | ins C dx fs =>
    obtain ⟨d, z, ne, e, mA, ⟨od, es, ep, e2, c⟩, r⟩ := x
    exact ⟨ho _ d, z, ne, k _ _ (.inl rfl) e, mA, ⟨od, es, ep, k _ _ (.inr d) e2, c⟩, r⟩
  | own y => obtain ⟨ob, e⟩ := x; exact ⟨ob, k _ _ (.inl rfl) e⟩
  | xd fs => obtain ⟨mA, ⟨od, es, ep, e, c⟩, r⟩ := x; exact ⟨mA, ⟨od, es, ep, k _ _ (.inl rfl) e, c⟩, r⟩
  | rng lo hi => obtain ⟨t, u, v, e⟩ := x; exact ⟨t, u, v, k _ _ (.inl rfl) e⟩
  | frz ob u ih => obtain ⟨e, q⟩ := x; exact ⟨k _ _ (.inl rfl) e, ih q⟩
  | tbl ps =>
    have e : h.get? a = some { cls := .none, data := .fields ps } := x
    show h'.get? a = some { cls := .none, data := .fields ps }
    exact k a _ (.inl rfl) e
  | met f y =>
    have e : h.get? a = some (PySem.W.methodObj (.ref f) (.ref y)) := x
    show h'.get? a = some (PySem.W.methodObj (.ref f) (.ref y))
    exact k a _ (.inl rfl) e
  | ext φ => obtain ⟨p, ⟨o, e⟩, st⟩ := x; exact ⟨st _ _ p fun o q => k _ _ (.inl rfl) q, ⟨o, k _ _ (.inl rfl) e⟩, st⟩
theorem HOk.lt (x : HOk P w H h) (e : H a = some o) : a < h.objs.size := (x a o e).lt
theorem HOk.fresh (x : HOk P w H h) (e : h.objs.size ≤ a) : H a = none := by
  cases q : H a with
  | none => rfl
  | some u => exact absurd (Nat.lt_of_lt_of_le (x.lt q) e) (Nat.lt_irrefl _)
/-- every object of the heap is kept -/
theorem HOk.kept (x : HOk P w H h) (k : ∀ b u, h.get? b = some u → h'.get? b = some u) : HOk P w H h' := fun a o e =>
  (x a o e).stay (fun b u _ q => k b u q) (fun _ q => q) fun _ _ q => q
/-- a new object is laid and tracked -/
theorem HOk.laid (x : HOk P w H h) (k : ∀ b u, h.get? b = some u → h'.get? b = some u) (hp : h.objs.size ≤ a) (new : ObjOk P w (upd H a o) h' a o) : HOk P w (upd H a o) h' := fun b u e => by
  have hn := x.fresh hp
  by_cases hb : b = a
  · subst hb; rw [upd_same] at e; cases e; exact new
  · rw [upd_ne hb] at e
    exact (x b u e).stay (fun c v _ q => k c v q) (fun c q => by rw [upd_ne (ne_of_none q hn)]; exact q) fun c xs q => by rw [upd_ne (ne_of_none q hn)]; exact q
end

/-- what may be read as u: it is u, or a known u -/
def Rd (H : Hp) (a : Addr) (u : HO) : Prop := H a = some u ∨ ∃ o, H a = some (.frz o u)
theorem Rd.ok {P : Program} {w : World} {H : Hp} {h : Heap} {a : Addr} {u : HO} (r : Rd H a u) (x : HOk P w H h) : ObjOk P w H h a u := by
  rcases r with r | ⟨o, r⟩
  · exact x a u r
  · obtain ⟨_, q⟩ := x a _ r
    exact q
/-- what may be written -/
def Mut : Option HO → Prop
  | some (.lst _) => True
  | some (.dK _) => True
  | some (.dT _) => True
  | some (.set _ _) => True
  | some (.ins _ _ _) => True
  | some (.ext _) => True
  | _ => False
section
variable {P : Program} {w : World} {H : Hp} {h h' : Heap} {x e : Addr} {o' : HO}
/-- the object at e is changed: x itself, or the dict of the instance x -/
theorem HOk.write (ok : HOk P w H h) (mu : Mut (H x)) (he : e = x ∨ H e = some (.own x)) (k : ∀ b u, b ≠ e → h.get? b = some u → h'.get? b = some u) (heo : ∃ u, h'.get? e = some u)
    (new : ObjOk P w (upd H x o') h' x o') : HOk P w (upd H x o') h' := fun b u q => by
  have nown : ∀ c y, H c = some (.own y) → c ≠ x := fun c y r z => by subst z; rw [r] at mu; exact mu
  have ntup : ∀ c xs, H c = some (.tup xs) → c ≠ x := fun c xs r z => by subst z; rw [r] at mu; exact mu
  by_cases hb : b = x
  · subst hb; rw [upd_same] at q; cases q; exact new
  · rw [upd_ne hb] at q
    by_cases hbe : b = e
    · have q' : H b = some (.own x) := by
        rcases he with z | z
        · exact absurd (hbe.trans z) hb
        · rw [hbe]; exact z
      rw [q] at q'; cases q'
      obtain ⟨v, hv⟩ := heo
      exact ⟨v, by rw [hbe]; exact hv⟩
    · refine (ok b u q).stay (fun c v hc r => k c v ?_ r) (fun c r => by rw [upd_ne (nown c b r)]; exact r) fun c xs r => by rw [upd_ne (ntup c xs r)]; exact r
      rcases hc with rfl | hc
      · exact hbe
      · rintro rfl
        rcases he with z | z
        · exact nown c b hc z
        · rw [hc] at z; cases z; exact hb rfl
end

/-! ### kept unless tracked; of the frames at fs (the callers') the slots may change (an exception that passes writes there); of the records at ex (iterators) nothing is said -/
structure Un (fs ex : List Addr) (H H' : Hp) (h h' : Heap) : Prop where
  keep : ∀ b o, h.get? b = some o → H b = none → b ∉ fs → b ∉ ex → h'.get? b = some o
  slot : ∀ b o, h.get? b = some o → H b = none → b ∈ fs → b ∉ ex → ∃ sl, h'.get? b = some { o with slots := sl }
  free : ∀ b o, h.get? b = some o → H b = none → b ∉ ex → H' b = none
  there : ∀ b o, h.get? b = some o → b ∉ ex → ∃ o', h'.get? b = some o'
  tups : ∀ b xs, H b = some (.tup xs) → H' b = some (.tup xs)
  frzs : ∀ b o u, H b = some (.frz o u) → H' b = some (.frz o u)
  tbls : ∀ b ps, H b = some (.tbl ps) → ∃ more, H' b = some (.tbl (ps ++ more))
section
variable {fs fs' ex ex' : List Addr} {H H1 H2 : Hp} {h h1 h2 h' : Heap} {a x e : Addr} {o : HO}
theorem Un.any (u : Un fs ex H H1 h h1) {b : Addr} {ob : Obj} (q : h.get? b = some ob) (n : H b = none) (hx : b ∉ ex) : ∃ sl, h1.get? b = some { ob with slots := sl } := by
  by_cases hb : b ∈ fs
  · exact u.slot b ob q n hb hx
  · exact ⟨ob.slots, u.keep b ob q n hb hx⟩
theorem Un.kept (k : ∀ b u, h.get? b = some u → h'.get? b = some u) : Un fs ex H H h h' :=
  ⟨fun b ob q _ _ _ => k b ob q, fun b ob q _ _ _ => ⟨ob.slots, k b ob q⟩, fun _ _ _ n _ => n, fun b ob q _ => ⟨ob, k b ob q⟩, fun _ _ q => q, fun _ _ _ q => q, fun _ ps q => ⟨#[], by rw [q]; simp⟩⟩
theorem Un.refl : Un fs ex H H h h := Un.kept fun _ _ q => q
theorem Un.laid (k : ∀ b u, h.get? b = some u → h'.get? b = some u) (hp : h.objs.size ≤ a) (hn : H a = none) : Un fs ex H (upd H a o) h h' where
  keep := fun b u q _ _ _ => k b u q
  slot := fun b u q _ _ _ => ⟨u.slots, k b u q⟩
  free := fun b u q n _ => by rw [upd_ne (Nat.ne_of_lt (Nat.lt_of_lt_of_le (Heap.lt_size q) hp))]; exact n
  there := fun b u q _ => ⟨u, k b u q⟩
  tups := fun b xs q => by rw [upd_ne (ne_of_none q hn)]; exact q
  frzs := fun b u xs q => by rw [upd_ne (ne_of_none q hn)]; exact q
  tbls := fun b ps q => ⟨#[], by rw [upd_ne (ne_of_none q hn), q]; simp⟩
theorem Un.write (mu : Mut (H x)) (he : e = x ∨ H e = some (.own x)) (k : ∀ b u, b ≠ e → h.get? b = some u → h'.get? b = some u) (heo : ∃ u, h'.get? e = some u) : Un fs ex H (upd H x o) h h' := by
  have hx : ∀ b, H b = none → b ≠ x := fun b n z => by subst z; rw [n] at mu; exact mu
  have hb : ∀ b, H b = none → b ≠ e := fun b n z => by
    subst z
    rcases he with r | r
    · exact hx b n r
    · rw [n] at r; cases r
  have hm : ∀ b u, H b = some u → ¬ Mut (some u) → b ≠ x := fun b u q nm z => by subst z; rw [q] at mu; exact nm mu
  refine ⟨fun b u q n _ _ => k b u (hb b n) q, fun b u q n _ _ => ⟨u.slots, k b u (hb b n) q⟩, fun b u q n _ => by rw [upd_ne (hx b n)]; exact n, fun b u q _ => ?_,
    fun b xs q => by rw [upd_ne (hm b _ q fun z => z)]; exact q, fun b u xs q => by rw [upd_ne (hm b _ q fun z => z)]; exact q, fun b ps q => ⟨#[], by rw [upd_ne (hm b _ q fun z => z), q]; simp⟩⟩
  by_cases hbe : b = e
  · subst hbe; exact heo
  · exact ⟨u, k b u hbe q⟩
end

/-! ### the heap without what is tracked -/
def trk (h : Heap) (H : Hp) : List Addr := (List.range h.objs.size).filter fun a => (H a).isSome
def hidT (h : Heap) (H : Hp) : Heap := PySem.W.hideAll h (trk h H)
theorem hidT_size (h : Heap) (H : Hp) : (hidT h H).objs.size = h.objs.size := PySem.W.hideAll_size _ _
theorem hidT_get {h : Heap} {H : Hp} {b : Addr} {o : Obj} (e : h.get? b = some o) (n : H b = none) : (hidT h H).get? b = some o :=
  PySem.W.hideAll_get _ e fun hm => by
    have q : (H b).isSome = true := (List.mem_filter.mp hm).2
    rw [n] at q; simp at q
theorem of_hidT {h : Heap} {H : Hp} {b : Addr} {o : Obj} (e : (hidT h H).get? b = some o) : h.get? b = some o ∧ H b = none := by
  have e' : h.get? b = some o := PySem.W.of_hideAll (trk h H) e
  refine ⟨e', ?_⟩
  cases q : H b with
  | none => rfl
  | some x =>
    have hm : b ∈ trk h H := List.mem_filter.mpr ⟨List.mem_range.mpr (Heap.lt_size e'), by simp [q]⟩
    have z : (hidT h H).get? b = none := PySem.W.hideAll_none (trk h H) hm
    rw [z] at e; cases e

/-! ### OpenK's ledger, filled with every new object but one -/
def allNews (g h : Heap) (L : Addr) : List (Addr × Obj) := (List.range h.objs.size).filterMap fun a => if a = L ∨ (g.get? a).isSome = true then none else (h.get? a).map fun o => (a, o)
theorem mem_allNews {g h : Heap} {L a : Addr} {o : Obj} (h1 : a ≠ L) (h2 : g.get? a = none) (h3 : h.get? a = some o) : (a, o) ∈ allNews g h L :=
  List.mem_filterMap.mpr ⟨a, List.mem_range.mpr (Heap.lt_size h3), by simp [h1, h2, h3]⟩
theorem of_mem_allNews {g h : Heap} {L : Addr} {p : Addr × Obj} (hp : p ∈ allNews g h L) : p.1 ≠ L ∧ g.get? p.1 = none ∧ h.get? p.1 = some p.2 := by
  obtain ⟨b, _, e⟩ := List.mem_filterMap.mp hp
  split at e
  · cases e
  · rename_i hn
    cases q : h.get? b with
    | none => rw [q] at e; simp at e
    | some u =>
      rw [q] at e
      simp only [Option.map_some, Option.some.injEq] at e
      subst e
      refine ⟨fun z => hn (.inl z), ?_, q⟩
      show g.get? b = none
      cases r : g.get? b with
      | none => rfl
      | some v => exact (hn (.inr (by simp [r]))).elim
theorem news_all {g h : Heap} {L : Addr} : News g L h (allNews g h L) := fun p hp => let ⟨a, b, c⟩ := of_mem_allNews hp; ⟨c, a, b⟩
end L2

namespace L2
open PySem PySem.Spec PyProof.Rows

/-- the module's facts, over the base: the heap at the law's entry without what is tracked there -/
structure Mod (K : PySem.W.Frag) (mg : Str → Option Value) (base : Heap) : Prop where
  kin : K.In base
  glob : base.Ns mainGlobals mg
  blt : ∃ mb, base.Ns builtinsNs mb ∧ ∀ x : Str, x ≠ "__name__" → mb x = bootBuiltins x
  nolimit : base.NoLimit
  seer : base.NoSeer

/-- the context: a def's body (or a comprehension's block) running. base: fixed through the whole law; s₀, H₀: the entry; outer: the frames whose slots others may change (a def's callers); stack: all frames that run;
   ex: iterators that were made ahead of the entry and are walked here (a comprehension's); fn: the names whose cells were made at the entry (a def: all; a comprehension's block: its own); calm: not within an except suite; pn: pins that every state bears; xe: what is wanted of an exception that leaves the code -/
structure Cx where
  prog : Program
  w : World
  K : PySem.W.Frag
  mg : Str → Option Value
  base : Heap
  A : Around
  N : List Str
  s₀ : Shared
  H₀ : Hp
  env : Env
  outer : List Env
  stack : List Env
  ex : List Addr
  fn : Str → Bool
  calm : Bool
  pn : List (Addr × Obj)
  xe : Value → Shared → Prop
/-- the callers' frames -/
def frs (l : List Env) : List Addr := l.filterMap (·.frame)
abbrev Cx.fs (X : Cx) : List Addr := frs X.outer

def Vis (sc : Scope) (x : Str) : Prop := sc.names.lookup x = some .local ∨ sc.names.lookup x = some .cell ∨ sc.names.lookup x = some .free
def Loc (sc : Scope) (x : Str) : Prop := sc.names.lookup x = some .local ∨ sc.names.lookup x = some .cell
def Look (env : Env) (h : Heap) (m : Str → Option Value) (x : Str) (u : Value) : Prop :=
  (env.kindOf x = some .local ∧ m x = some u) ∨ ((env.kindOf x = some .cell ∨ env.kindOf x = some .free) ∧ ∃ c, env.cells.lookup x = some c ∧ h.IsCell c (some u))

structure Cx.Ok (X : Cx) : Prop where
  mod : Mod X.K X.mg X.base
  kind : X.env.scope.kind = .function
  glob : X.env.globals = mainGlobals
  blt : X.env.builtins = builtinsNs
  above : X.s₀.heap.objs.size ≤ X.env.locals
  inj : ∀ x y c, X.env.cells.lookup x = some c → X.env.cells.lookup y = some c → x = y
  has : ∀ x, (X.env.kindOf x = some .cell ∨ X.env.kindOf x = some .free) → ∃ c, X.env.cells.lookup x = some c
  cab : ∀ x c, X.fn x = true → X.env.cells.lookup x = some c → X.s₀.heap.objs.size ≤ c
  hd : X.calm = true → X.A.handled = none
  frames : X.A.frames = some X.stack
  stk : X.stack = X.outer ∨ (X.stack = X.env :: X.outer ∧ X.env.frame = some X.env.locals)
  exf : ∀ b ∈ X.ex, b ≠ X.env.locals ∧ ∀ x c, X.env.cells.lookup x = some c → c ≠ b
  bs : ∀ b o, X.base.get? b = some o → X.s₀.heap.get? b = some o ∧ X.H₀ b = none
  bsz : X.base.objs.size ≤ X.s₀.heap.objs.size
  noex : ∀ b o, X.base.get? b = some o → b ∉ X.ex
  exfs : ∀ b ∈ X.ex, b ∉ X.fs
  funs : X.s₀.heap.FunFrames X.base X.outer
  frf : ∀ b ∈ X.fs, X.H₀ b = none

structure Inv (X : Cx) (pins : List (Addr × Obj)) (σ : List (Option V)) (H : Hp) (s : Shared) : Prop where
  ok : X.Ok
  os : s.os = X.s₀.os
  bare : AllBare s.gens
  base : Un X.fs X.ex X.H₀ H X.s₀.heap s.heap
  loc : ∃ m, s.heap.Ns X.env.locals m ∧ ∀ (i : Nat) (x : Str) (v : V), X.N[i]? = some x → σ[i]? = some (some v) → Vis X.env.scope x → ∃ u, RelV v u ∧ Look X.env s.heap m x u
  cell : ∀ x c, X.env.cells.lookup x = some c → ∃ v, s.heap.IsCell c v
  free : H X.env.locals = none
  freeC : ∀ x c, X.env.cells.lookup x = some c → H c = none
  pin : ∀ p ∈ X.pn ++ pins, s.heap.get? p.1 = some p.2 ∧ H p.1 = none ∧ p.1 ≠ X.env.locals ∧ p.1 ∉ X.fs ∧ ∀ v, p.2.data ≠ .cell v
  hok : HOk X.prog X.w H s.heap
  len : σ.length = X.N.length

section
variable {X : Cx} {pins : List (Addr × Obj)} {σ : List (Option V)} {H H' : Hp} {s : Shared} {h' : Heap}

theorem Cx.Ok.nofr (ok : X.Ok) {b : Addr} {o : Obj} (e : X.base.get? b = some o) : b ∉ X.fs := fun hb => by
  have := (ok.funs.mem hb).1
  rw [e] at this; cases this
theorem Inv.bs (I : Inv X pins σ H s) : ∀ b o, X.base.get? b = some o → s.heap.get? b = some o ∧ H b = none := fun b o e =>
  ⟨I.base.keep b o (I.ok.bs b o e).1 (I.ok.bs b o e).2 (I.ok.nofr e) (I.ok.noex b o e), I.base.free b o (I.ok.bs b o e).1 (I.ok.bs b o e).2 (I.ok.noex b o e)⟩
theorem Inv.bk (I : Inv X pins σ H s) : ∀ b o, X.base.get? b = some o → s.heap.get? b = some o := fun b o e => (I.bs b o e).1
theorem Inv.mod (I : Inv X pins σ H s) : Mod X.K X.mg X.base := I.ok.mod
theorem Inv.kIn (I : Inv X pins σ H s) : X.K.In s.heap := I.ok.mod.kin.keeps I.bk
theorem Inv.lt (I : Inv X pins σ H s) : X.env.locals < s.heap.objs.size := let ⟨_, hn, _⟩ := I.loc; hn.lt
theorem Inv.sz (I : Inv X pins σ H s) : X.s₀.heap.objs.size ≤ s.heap.objs.size := Nat.le_trans I.ok.above (Nat.le_of_lt I.lt)
theorem Inv.nofs (I : Inv X pins σ H s) {a : Addr} (h : s.heap.objs.size ≤ a) : a ∉ X.fs := fun hb => by
  obtain ⟨_, o, ho, _⟩ := I.ok.funs.mem hb
  exact absurd (Nat.lt_of_lt_of_le (Heap.lt_size ho) (Nat.le_trans I.sz h)) (Nat.lt_irrefl _)
theorem Inv.cne (I : Inv X pins σ H s) : ∀ x c, X.env.cells.lookup x = some c → c ≠ X.env.locals := fun x c e z => by
  obtain ⟨v, o, ho, hd⟩ := I.cell x c e
  obtain ⟨m, ⟨o', es, ep, ho', hd', _⟩, _⟩ := I.loc
  rw [z, ho'] at ho; cases ho; rw [hd'] at hd; cases hd
theorem Inv.funs (I : Inv X pins σ H s) : s.heap.FunFrames X.base X.outer := by
  have all : ∀ (l : List Env), (∀ b ∈ frs l, b ∈ X.fs) → X.s₀.heap.FunFrames X.base l → s.heap.FunFrames X.base l := by
    intro l
    induction l with
    | nil => intro _ _; trivial
    | cons env r ih =>
      intro hs hl
      obtain ⟨hk, ⟨L, o, hf, hn, ho, hd⟩, hr⟩ := hl
      have hL : L ∈ X.fs := hs L (by unfold frs; rw [List.filterMap_cons, hf]; exact List.mem_cons_self)
      obtain ⟨sl, e⟩ := I.base.slot L o ho (I.ok.frf L hL) hL fun z => I.ok.exfs L z hL
      exact ⟨hk, ⟨L, _, hf, hn, e, hd⟩, ih (fun b hb => hs b (by unfold frs; rw [List.filterMap_cons, hf]; exact List.mem_cons_of_mem _ hb)) hr⟩
  exact all X.outer (fun _ hb => hb) I.ok.funs

/-- the frames that run, for a call -/
theorem Inv.stack (I : Inv X pins σ H s) : s.heap.FunFrames X.base X.stack := by
  rcases I.ok.stk with e | ⟨e, hf⟩
  · rw [e]; exact I.funs
  · rw [e]
    obtain ⟨m, hn, _⟩ := I.loc
    refine .cons (by rw [I.ok.kind]; decide) hf hn ?_ I.funs
    exact Heap.get?_none_of_le (Nat.le_trans I.ok.bsz I.ok.above)
theorem Inv.stkSub (I : Inv X pins σ H s) : ∀ b ∈ frs X.stack, b ∈ X.env.locals :: X.fs := fun b hb => by
  rcases I.ok.stk with e | ⟨e, hf⟩
  · rw [e] at hb; exact List.mem_cons_of_mem _ hb
  · rw [e] at hb
    unfold frs at hb
    rw [List.filterMap_cons, hf] at hb
    exact hb
theorem Inv.stkFree (I : Inv X pins σ H s) : ∀ b ∈ frs X.stack, H b = none := fun b hb => by
  rcases List.mem_cons.mp (I.stkSub b hb) with e | hb
  · rw [e]; exact I.free
  · obtain ⟨_, o, ho, _⟩ := I.ok.funs.mem hb
    exact I.base.free b o ho (I.ok.frf b hb) fun z => I.ok.exfs b z hb

/-- THE STEP: the untracked objects but the frame and the records at ch are kept (the callers' frames up to slots), the frame's map is kept, the new abstract heap is held -/
theorem Inv.step {g' : Array GenState} {t' : Nat} {d' : Drawn} {ch : List Addr} (I : Inv X pins σ H s)
    (hch : ∀ b ∈ ch, (b ∈ X.ex ∨ X.s₀.heap.objs.size ≤ b) ∧ b ≠ X.env.locals ∧ (∀ x c, X.env.cells.lookup x = some c → c ≠ b) ∧ ∀ p ∈ X.pn ++ pins, p.1 ≠ b)
    (keep : ∀ b o, b ≠ X.env.locals → b ∉ X.fs → b ∉ ch → s.heap.get? b = some o → H b = none → h'.get? b = some o)
    (slot : ∀ b o, b ≠ X.env.locals → b ∈ X.fs → b ∉ ch → s.heap.get? b = some o → H b = none → ∃ sl, h'.get? b = some { o with slots := sl }) (free : ∀ b o, b ∉ ch → s.heap.get? b = some o → H b = none → H' b = none)
    (there : ∀ b o, b ∉ ch → s.heap.get? b = some o → ∃ o', h'.get? b = some o')
    (tups : ∀ b xs, H b = some (.tup xs) → H' b = some (.tup xs)) (frzs : ∀ b o u, H b = some (.frz o u) → H' b = some (.frz o u)) (tbls : ∀ b ps, H b = some (.tbl ps) → ∃ more, H' b = some (.tbl (ps ++ more)))
    (ns : ∀ m, s.heap.Ns X.env.locals m → h'.Ns X.env.locals m) (hok : HOk X.prog X.w H' h') (hg : AllBare g') :
    Inv X pins σ H' { s with heap := h', gens := g', drawn := d', toks := t' } := by
  have neL : ∀ b o, X.s₀.heap.get? b = some o → b ≠ X.env.locals := fun b o e => Nat.ne_of_lt (Nat.lt_of_lt_of_le (Heap.lt_size e) I.ok.above)
  have neC : ∀ b o, X.s₀.heap.get? b = some o → b ∉ X.ex → b ∉ ch := fun b o e hx hb => by
    rcases (hch b hb).1 with z | z
    · exact hx z
    · exact absurd (Nat.lt_of_lt_of_le (Heap.lt_size e) z) (Nat.lt_irrefl _)
  have cellK : ∀ x c, X.env.cells.lookup x = some c → ∀ v, s.heap.IsCell c v → h'.IsCell c v := fun x c e v ⟨o, ho, hd⟩ => by
    have nch : c ∉ ch := fun z => (hch c z).2.2.1 x c e rfl
    by_cases hc : c ∈ X.fs
    · obtain ⟨sl, q⟩ := slot c o (I.cne x c e) hc nch ho (I.freeC x c e)
      exact ⟨_, q, hd⟩
    · exact ⟨o, keep c o (I.cne x c e) hc nch ho (I.freeC x c e), hd⟩
  refine ⟨I.ok, I.os, hg, ⟨fun b o e n hb hx => ?_, fun b o e n hb hx => ?_, fun b o e n hx => ?_, fun b o e hx => ?_, fun b xs e => tups b xs (I.base.tups b xs e), fun b o xs e => frzs b o xs (I.base.frzs b o xs e), fun b ps e => ?_⟩, ?_, fun x c e => ?_, ?_, fun x c e => ?_, fun p hp => ?_, hok, I.len⟩
  · exact keep b o (neL b o e) hb (neC b o e hx) (I.base.keep b o e n hb hx) (I.base.free b o e n hx)
  · obtain ⟨sl, e1⟩ := I.base.slot b o e n hb hx
    obtain ⟨sl', e2⟩ := slot b _ (neL b o e) hb (neC b o e hx) e1 (I.base.free b o e n hx)
    exact ⟨sl', e2⟩
  · obtain ⟨o', e1⟩ := I.base.there b o e hx
    exact free b o' (neC b o e hx) e1 (I.base.free b o e n hx)
  · obtain ⟨o', e1⟩ := I.base.there b o e hx
    exact there b o' (neC b o e hx) e1
  · obtain ⟨m1, e1⟩ := I.base.tbls b ps e
    obtain ⟨m2, e2⟩ := tbls b _ e1
    exact ⟨m1 ++ m2, by rw [e2, Array.append_assoc]⟩
  · obtain ⟨m, hn, hl⟩ := I.loc
    refine ⟨m, ns m hn, fun i x v e1 e2 e3 => ?_⟩
    obtain ⟨u, r, l⟩ := hl i x v e1 e2 e3
    refine ⟨u, r, ?_⟩
    rcases l with l | ⟨k, c, e, z⟩
    · exact .inl l
    · exact .inr ⟨k, c, e, cellK x c e _ z⟩
  · obtain ⟨v, z⟩ := I.cell x c e
    exact ⟨v, cellK x c e v z⟩
  · obtain ⟨m, ⟨o, _, _, ho, _⟩, _⟩ := I.loc
    exact free _ o (fun z => (hch _ z).2.1 rfl) ho I.free
  · obtain ⟨v, o, ho, hd⟩ := I.cell x c e
    exact free c o (fun z => (hch c z).2.2.1 x c e rfl) ho (I.freeC x c e)
  · obtain ⟨e, n, ne, nf, d⟩ := I.pin p hp
    have nch : p.1 ∉ ch := fun z => (hch p.1 z).2.2.2 p hp rfl
    exact ⟨keep p.1 p.2 ne nf nch e n, free p.1 p.2 nch e n, ne, nf, d⟩
/-- .. where the frame's own object is kept too -/
theorem Inv.un {t' : Nat} (I : Inv X pins σ H s) (u : Un X.fs [] H H' s.heap h') (hok : HOk X.prog X.w H' h') : Inv X pins σ H' { s with heap := h', toks := t' } := by
  obtain ⟨m, ⟨o, es, ep, ho, r⟩, _⟩ := id I.loc
  obtain ⟨sl, hL⟩ := u.any ho I.free (by simp)
  exact I.step (g' := s.gens) (d' := s.drawn) (ch := []) (fun _ z => nomatch z) (fun b o _ hb _ e n => u.keep b o e n hb (by simp)) (fun b o _ hb _ e n => u.slot b o e n hb (by simp)) (fun b o _ e n => u.free b o e n (by simp)) (fun b o _ e => u.there b o e (by simp)) u.tups u.frzs u.tbls (fun m' hm => by
    obtain ⟨o', es', ep', ho', r'⟩ := hm
    rw [ho] at ho'; cases ho'
    exact ⟨_, es', ep', hL, r'⟩) hok I.bare
/-- behind a call (or a comprehension's block): the slots of this frame may have changed too, the records at ch may have turned -/
theorem Inv.call {g' : Array GenState} {t' : Nat} {d' : Drawn} {ch : List Addr} (I : Inv X pins σ H s) (u : Un (frs X.stack) ch H H' s.heap h') (hok : HOk X.prog X.w H' h') (hg : AllBare g')
    (hch : ∀ b ∈ ch, (b ∈ X.ex ∨ X.s₀.heap.objs.size ≤ b) ∧ b ≠ X.env.locals ∧ (∀ x c, X.env.cells.lookup x = some c → c ≠ b) ∧ ∀ p ∈ X.pn ++ pins, p.1 ≠ b) :
    Inv X pins σ H' { s with heap := h', gens := g', drawn := d', toks := t' } := by
  obtain ⟨m, ⟨o, es, ep, ho, r⟩, _⟩ := id I.loc
  obtain ⟨sl, hL⟩ := u.any ho I.free fun z => (hch _ z).2.1 rfl
  exact I.step (ch := ch) hch (fun b o hL hb hc e n => u.keep b o e n (fun z => (List.mem_cons.mp (I.stkSub b z)).elim hL hb) hc) (fun b o _ _ hc e n => u.any e n hc) (fun b o hc e n => u.free b o e n hc) (fun b o hc e => u.there b o e hc) u.tups u.frzs u.tbls (fun m' hm => by
    obtain ⟨o', es', ep', ho', r'⟩ := hm
    rw [ho] at ho'; cases ho'
    exact ⟨_, es', ep', hL, r'⟩) hok hg
/-- an untracked record of ours (an iterator) has turned -/
theorem Inv.turned {t' : Nat} {it : Addr} (I : Inv X pins σ H s) (k : ∀ b o, b ≠ it → s.heap.get? b = some o → h'.get? b = some o) (hn : H it = none) (hL : it ≠ X.env.locals)
    (h1 : it ∈ X.ex ∨ X.s₀.heap.objs.size ≤ it) (h2 : ∀ x c, X.env.cells.lookup x = some c → c ≠ it) (h3 : ∀ p ∈ X.pn ++ pins, p.1 ≠ it) : Inv X pins σ H { s with heap := h', toks := t' } := by
  have nit : ∀ b u, H b = some u → b ≠ it := fun b u e z => by rw [z, hn] at e; cases e
  refine I.step (g' := s.gens) (d' := s.drawn) (ch := [it]) (fun b hb => ?_) (fun b o _ _ hc e _ => k b o (fun z => hc (by simp [z])) e) (fun b o _ _ hc e _ => ⟨o.slots, k b o (fun z => hc (by simp [z])) e⟩) (fun _ _ _ _ n => n)
    (fun b o hc e => ⟨o, k b o (fun z => hc (by simp [z])) e⟩) (fun _ _ e => e) (fun _ _ _ e => e) (fun b ps e => ⟨#[], by rw [e]; simp⟩) (fun m hm => ?_) (fun b u e => ?_) I.bare
  · have e : b = it := by simpa using hb
    subst e
    exact ⟨h1, hL, h2, h3⟩
  · obtain ⟨o, es, ep, ho, r⟩ := hm
    exact ⟨o, es, ep, k _ o (Ne.symm hL) ho, r⟩
  · refine (I.hok b u e).stay (fun c v hc q => k c v ?_ q) (fun _ q => q) fun _ _ q => q
    rcases hc with z | z
    · rw [z]; exact nit b u e
    · exact nit c _ z
theorem Inv.tok (I : Inv X pins σ H s) (t : Nat) : Inv X pins σ H { s with toks := t } := I.un (h' := s.heap) (t' := t) Un.refl I.hok
/-- all objects kept -/
theorem Inv.kept {t' : Nat} (I : Inv X pins σ H s) (k : ∀ b u, s.heap.get? b = some u → h'.get? b = some u) : Inv X pins σ H { s with heap := h', toks := t' } := I.un (Un.kept k) (I.hok.kept k)
/-- a new object laid and tracked -/
theorem Inv.laid {a : Addr} {o : HO} {t' : Nat} (I : Inv X pins σ H s) (k : ∀ b u, s.heap.get? b = some u → h'.get? b = some u) (hp : s.heap.objs.size ≤ a) (new : ObjOk X.prog X.w (upd H a o) h' a o) :
    Inv X pins σ (upd H a o) { s with heap := h', toks := t' } := I.un (Un.laid k hp (I.hok.fresh hp)) (I.hok.laid k hp new)
/-- an object written -/
theorem Inv.write {x e : Addr} {o : HO} {t' : Nat} (I : Inv X pins σ H s) (mu : Mut (H x)) (he : e = x ∨ H e = some (.own x)) (k : ∀ b u, b ≠ e → s.heap.get? b = some u → h'.get? b = some u) (heo : ∃ u, h'.get? e = some u)
    (new : ObjOk X.prog X.w (upd H x o) h' x o) : Inv X pins σ (upd H x o) { s with heap := h', toks := t' } := I.un (Un.write mu he k heo) (I.hok.write mu he k heo new)
theorem Inv.pins_of {pins' : List (Addr × Obj)} (I : Inv X pins σ H s) (h : ∀ p ∈ pins', s.heap.get? p.1 = some p.2 ∧ H p.1 = none ∧ p.1 ≠ X.env.locals ∧ p.1 ∉ X.fs ∧ ∀ v, p.2.data ≠ .cell v) : Inv X pins' σ H s :=
  ⟨I.ok, I.os, I.bare, I.base, I.loc, I.cell, I.free, I.freeC, fun p hp => (List.mem_append.mp hp).elim (fun z => I.pin p (List.mem_append_left _ z)) (h p), I.hok, I.len⟩

theorem nodup_ix {N : List Str} (hN : N.Nodup) {i j : Nat} {x : Str} (a : N[i]? = some x) (b : N[j]? = some x) : i = j := by
  obtain ⟨h1, e1⟩ := List.getElem?_eq_some_iff.mp a
  obtain ⟨h2, e2⟩ := List.getElem?_eq_some_iff.mp b
  exact (List.getElem_inj hN).mp (e1.trans e2.symm)

/-- a name is stored; what changed -/
theorem store_ok2 {M : Model} {A : Around} {E : Value → Shared → Prop} {i : Nat} {x : Str} {v : V} {u : Value} {Q : Unit → Shared → Prop} (I : Inv X pins σ H s) (hN : X.N.Nodup) (hi : X.N[i]? = some x) (hx : Loc X.env.scope x) (r : RelV v u)
    (h : ∀ s', Inv X pins (σ.set i (some v)) H s' → (∃ a, Heap.SameBut a s.heap s'.heap ∧ (a = X.env.locals ∨ X.env.cells.lookup x = some a)) → Q () s') (hf : X.fn x = true ∨ X.env.scope.names.lookup x = some .local := by first | exact .inl rfl | exact .inr rfl | assumption) : wpAny M A (storeName X.env x u) Q E s := by
  obtain ⟨m, hn, hl⟩ := id I.loc
  have hcls : (X.env.scope.kind == .class || (X.env.scope.kind == .module && X.env.locals != X.env.globals)) = false := by rw [I.ok.kind]; rfl
  have hiσ : i < σ.length := by rw [I.len]; exact (List.getElem?_eq_some_iff.mp hi).1
  have cne := I.cne
  have tracked : ∀ {a : Addr} {h' : Heap}, (∃ o, s.heap.get? a = some o ∧ H a = none) → Heap.SameBut a s.heap h' → HOk X.prog X.w H h' := fun {a h'} ha hs b ob e => by
    obtain ⟨_, _, hfree⟩ := ha
    refine (I.hok b ob e).stay (fun c w' hc q => (hs.2 c ?_).trans q) (fun _ q => q) fun _ _ q => q
    rintro rfl
    rcases hc with rfl | hc
    · rw [hfree] at e; cases e
    · rw [hfree] at hc; cases hc
  rcases hx with hk | hk
  · refine wpAny_storeName_local hk hn (fun h' hn' hs => ?_) hcls
    obtain ⟨oL, _, _, hoL, _⟩ := id hn
    refine h _ ⟨I.ok, I.os, I.bare, ⟨fun b o e n hb hx => ?_, fun b o e n hb hx => ?_, I.base.free, fun b o e hx => ?_, I.base.tups, I.base.frzs, I.base.tbls⟩, ⟨_, hn', fun j y v' e1 e2 e3 => ?_⟩, fun y c e => ?_, I.free, I.freeC, fun p hp => ?_, tracked ⟨oL, hoL, I.free⟩ hs, by simpa using I.len⟩ ⟨_, hs, .inl rfl⟩
    · exact (hs.2 b (Nat.ne_of_lt (Nat.lt_of_lt_of_le (Heap.lt_size e) I.ok.above))).trans (I.base.keep b o e n hb hx)
    · obtain ⟨sl, e1⟩ := I.base.slot b o e n hb hx
      exact ⟨sl, (hs.2 b (Nat.ne_of_lt (Nat.lt_of_lt_of_le (Heap.lt_size e) I.ok.above))).trans e1⟩
    · obtain ⟨o', e1⟩ := I.base.there b o e hx
      exact ⟨o', (hs.2 b (Nat.ne_of_lt (Nat.lt_of_lt_of_le (Heap.lt_size e) I.ok.above))).trans e1⟩
    · by_cases hj : j = i
      · subst hj
        rw [hi] at e1; cases e1
        rw [List.getElem?_set_self hiσ] at e2
        cases e2
        exact ⟨u, r, .inl ⟨hk, by simp⟩⟩
      · rw [List.getElem?_set_ne (Ne.symm hj)] at e2
        obtain ⟨u', r', q⟩ := hl j y v' e1 e2 e3
        refine ⟨u', r', ?_⟩
        rcases q with ⟨k, e⟩ | ⟨k, c, e, z⟩
        · refine .inl ⟨k, ?_⟩
          have : y ≠ x := fun e => hj (nodup_ix hN e1 (e ▸ hi))
          simp [this, e]
        · exact .inr ⟨k, c, e, z.sameBut hs (cne y c e)⟩
    · obtain ⟨w', z⟩ := I.cell y c e
      exact ⟨w', z.sameBut hs (cne y c e)⟩
    · obtain ⟨e, n, ne, nf, d⟩ := I.pin p hp
      exact ⟨(hs.2 p.1 ne).trans e, n, ne, nf, d⟩
  · have hfn : X.fn x = true := by
      rcases hf with z | z
      · exact z
      · rw [z] at hk; cases hk
    obtain ⟨c, hc⟩ := I.ok.has x (.inl hk)
    obtain ⟨w', z⟩ := I.cell x c hc
    refine wpAny_storeName_cell I.ok.kind hk hc z (fun h' hc' hs => ?_)
    obtain ⟨oc, hoc, hocd⟩ := id z
    refine h { s with heap := h' } ⟨I.ok, I.os, I.bare, ⟨fun b o e n hb hx => ?_, fun b o e n hb hx => ?_, I.base.free, fun b o e hx => ?_, I.base.tups, I.base.frzs, I.base.tbls⟩, ⟨m, hn.sameBut hs (Ne.symm (cne x c hc)), fun j y v' e1 e2 e3 => ?_⟩, fun y c' e => ?_, I.free, I.freeC, fun p hp => ?_, tracked ⟨oc, hoc, I.freeC x c hc⟩ hs, by simpa using I.len⟩ ⟨c, hs, .inr hc⟩
    · exact (hs.2 b (Nat.ne_of_lt (Nat.lt_of_lt_of_le (Heap.lt_size e) (I.ok.cab x c hfn hc)))).trans (I.base.keep b o e n hb hx)
    · obtain ⟨sl, e1⟩ := I.base.slot b o e n hb hx
      exact ⟨sl, (hs.2 b (Nat.ne_of_lt (Nat.lt_of_lt_of_le (Heap.lt_size e) (I.ok.cab x c hfn hc)))).trans e1⟩
    · obtain ⟨o', e1⟩ := I.base.there b o e hx
      exact ⟨o', (hs.2 b (Nat.ne_of_lt (Nat.lt_of_lt_of_le (Heap.lt_size e) (I.ok.cab x c hfn hc)))).trans e1⟩
    · by_cases hj : j = i
      · subst hj
        rw [hi] at e1; cases e1
        rw [List.getElem?_set_self hiσ] at e2
        cases e2
        exact ⟨u, r, .inr ⟨.inl hk, c, hc, hc'⟩⟩
      · rw [List.getElem?_set_ne (Ne.symm hj)] at e2
        obtain ⟨u', r', q⟩ := hl j y v' e1 e2 e3
        refine ⟨u', r', ?_⟩
        rcases q with q | ⟨k, c', e, z'⟩
        · exact .inl q
        · refine .inr ⟨k, c', e, z'.sameBut hs ?_⟩
          rintro rfl
          exact hj (nodup_ix hN e1 (I.ok.inj _ _ _ e hc ▸ hi))
    · by_cases hcc : c' = c
      · subst hcc; exact ⟨_, hc'⟩
      · obtain ⟨w2, z2⟩ := I.cell y c' e
        exact ⟨w2, z2.sameBut hs hcc⟩
    · obtain ⟨e, n, ne, nf, d⟩ := I.pin p hp
      refine ⟨(hs.2 p.1 ?_).trans e, n, ne, nf, d⟩
      intro q
      rw [q, hoc] at e
      have q' : oc = p.2 := Option.some.inj e
      exact d w' (by rw [← q']; exact hocd)
theorem store_ok {M : Model} {A : Around} {E : Value → Shared → Prop} {i : Nat} {x : Str} {v : V} {u : Value} {Q : Unit → Shared → Prop} (I : Inv X pins σ H s) (hN : X.N.Nodup) (hi : X.N[i]? = some x) (hx : Loc X.env.scope x) (r : RelV v u)
    (h : ∀ s', Inv X pins (σ.set i (some v)) H s' → Q () s') (hf : X.fn x = true ∨ X.env.scope.names.lookup x = some .local := by first | exact .inl rfl | exact .inr rfl | assumption) : wpAny M A (storeName X.env x u) Q E s :=
  store_ok2 I hN hi hx r (fun s' I' _ => h s' I') hf
/-- behind a call or a block, the state as it is -/
theorem Inv.call' {s' : Shared} {ch : List Addr} (I : Inv X pins σ H s) (ho : s'.os = s.os) (u : Un (frs X.stack) ch H H' s.heap s'.heap) (hok : HOk X.prog X.w H' s'.heap) (hg : AllBare s'.gens)
    (hch : ∀ b ∈ ch, (b ∈ X.ex ∨ X.s₀.heap.objs.size ≤ b) ∧ b ≠ X.env.locals ∧ (∀ x c, X.env.cells.lookup x = some c → c ≠ b) ∧ ∀ p ∈ X.pn ++ pins, p.1 ≠ b) : Inv X pins σ H' s' := by
  obtain ⟨h', g', d', t', o'⟩ := s'
  have e : o' = s.os := ho
  subst e
  exact I.call (g' := g') (t' := t') (d' := d') u hok hg hch
end

/-! ### the judgements -/
/-- an exception: its class, its own dict's address (where it has one), the abstract heap behind it -/
abbrev XK := Value → Option Addr → Hp → Prop
abbrev St := List (Option V)
abbrev VK := V → Hp → Prop
/-- an expression's reading; a test's; an argument list's -/
abbrev TE := St → Hp → VK → Prop
abbrev TT := St → Hp → (Bool → Hp → Prop) → Prop
abbrev TA := St → Hp → (List V → Hp → Prop) → Prop
/-- what is wanted behind a statement -/
structure Ends where
  nx : St → Hp → Prop
  rt : VK
  bk : St → Hp → Prop := fun _ _ => False
  ct : St → Hp → Prop := fun _ _ => False
abbrev TS := Ends → St → Hp → Prop

def EP (X : Cx) (pins : List (Addr × Obj)) (σ : St) (Q : VK) (u : Value) (s' : Shared) : Prop := ∃ v H', Inv X pins σ H' s' ∧ RelV v u ∧ Q v H'
def TP (X : Cx) (pins : List (Addr × Obj)) (σ : St) (Q : Bool → Hp → Prop) (b : Bool) (s' : Shared) : Prop := ∃ H', Inv X pins σ H' s' ∧ Q b H'
def AP (X : Cx) (pins : List (Addr × Obj)) (σ : St) (Q : List V → Hp → Prop) (us : List Value) (s' : Shared) : Prop := ∃ vs H', Inv X pins σ H' s' ∧ Vals vs us ∧ Q vs H'
def SP (X : Cx) (pins : List (Addr × Obj)) (D : Ends) (f : Flow) (s' : Shared) : Prop :=
  match f with
  | .next => ∃ σ' H', Inv X pins σ' H' s' ∧ D.nx σ' H'
  | .brk => ∃ σ' H', Inv X pins σ' H' s' ∧ D.bk σ' H'
  | .cont => ∃ σ' H', Inv X pins σ' H' s' ∧ D.ct σ' H'
  | .ret u => ∃ v σ' H', Inv X pins σ' H' s' ∧ RelV v u ∧ D.rt v H'

def PE (X : Cx) (e : Expr) (t : TE) : Prop :=
  ∀ (pins : List (Addr × Obj)) (s : Shared) (σ : St) (H : Hp) (Q : VK), Inv X pins σ H s → t σ H Q → wpAny (model X.prog X.w) X.A (eval e X.env) (EP X pins σ Q) X.xe s
def PT (X : Cx) (e : Expr) (t : TT) : Prop :=
  ∀ (pins : List (Addr × Obj)) (s : Shared) (σ : St) (H : Hp) (Q : Bool → Hp → Prop), Inv X pins σ H s → t σ H Q → wpAny (model X.prog X.w) X.A (isTrue e X.env (eval e X.env)) (TP X pins σ Q) X.xe s
/-- a test whatever its 'whole' is (and, or) -/
def PW (X : Cx) (e : Expr) (t : TT) : Prop :=
  ∀ (whole : Sem Value) (pins : List (Addr × Obj)) (s : Shared) (σ : St) (H : Hp) (Q : Bool → Hp → Prop), Inv X pins σ H s → t σ H Q → wpAny (model X.prog X.w) X.A (isTrue e X.env whole) (TP X pins σ Q) X.xe s
theorem PW.pt {X : Cx} {e : Expr} {t : TT} (h : PW X e t) : PT X e t := h _
/-- an argument list (no star), from the left -/
def PA (X : Cx) (es : List Expr) (t : TA) : Prop :=
  ∀ (pos : Pos) (pins : List (Addr × Obj)) (s : Shared) (σ : St) (H : Hp) (Q : List V → Hp → Prop), Inv X pins σ H s → t σ H Q → wpAny (model X.prog X.w) X.A (spliced (backTo pos (starEach es X.env))) (AP X pins σ Q) X.xe s
def PS (X : Cx) (st : Stmt) (t : TS) : Prop :=
  ∀ (pins : List (Addr × Obj)) (s : Shared) (σ : St) (H : Hp) (D : Ends), Inv X pins σ H s → t D σ H → wpAny (model X.prog X.w) X.A (exec st X.env) (SP X pins D) X.xe s
def PSs (X : Cx) (st : List Stmt) (t : TS) : Prop :=
  ∀ (pins : List (Addr × Obj)) (s : Shared) (σ : St) (H : Hp) (D : Ends), Inv X pins σ H s → t D σ H → wpAny (model X.prog X.w) X.A (execs st X.env) (SP X pins D) X.xe s
/-- weaken the end -/
theorem thn {α : Type} {t : Sem α} {Q Q' : α → Shared → Prop} {M : Model} {A : Around} {E : Value → Shared → Prop} {s : Shared} (h : wpAny M A t Q E s) (hQ : ∀ a s, Q a s → Q' a s) : wpAny M A t Q' E s := wpAny_mono h hQ fun _ _ x => x
end L2

namespace L2
open PySem PySem.Spec PyProof.Rows
section
variable {X : Cx}

/-! ### names and constants -/
def tVar (i : Nat) : TE := fun σ H Q => ∃ v, σ[i]? = some (some v) ∧ Q v H
def tC (v : V) : TE := fun _ H Q => Q v H
theorem pe_var {i : Nat} {x : Str} {pos : Pos} (hN : X.N[i]? = some x) (hv : Vis X.env.scope x) (hd : (x == ("__debug__" : Str)) = false := by decide) (hcd : (x == ("__classdict__" : Str)) = false := by decide) : PE X (.Name x pos) (tVar i) := by
  intro pins s σ H Q I h
  obtain ⟨v, e, h⟩ := h
  obtain ⟨m, hn, hl⟩ := I.loc
  obtain ⟨u, r, l⟩ := hl i x v hN e hv
  have fin : EP X pins σ Q u s := ⟨v, H, I, r, h⟩
  rcases l with ⟨hk, hm⟩ | ⟨hk, c, hc, hcell⟩
  · exact wpAny_Name (wpAny_loadName_local I.ok.kind hk hn hm fin) hd
  · rcases hk with hk | hk
    · exact wpAny_Name (wpAny_loadName_cell I.ok.kind hk hc hcell fin) hd
    · exact wpAny_Name (wpAny_loadName_free I.ok.kind hk hc hcell fin hcd) hd
theorem pe_int {i j pos} : PE X (.Constant (.int i) j pos) (tC (.int i)) := fun _ _ _ H _ I h => wpAny_Constant_int ⟨.int i, H, I.tok _, ⟨_, rfl⟩, h⟩
theorem pe_bl {b j pos} : PE X (.Constant (.bool b) j pos) (tC (.bl b)) := fun _ _ _ H _ I h => Constant_bool ⟨.bl b, H, I, rfl, h⟩
theorem pe_str {x j pos} : PE X (.Constant (.str x) j pos) (tC (.str x)) := fun _ _ _ H _ I h => Calls.Constant_str ⟨.str x, H, I.tok _, ⟨_, rfl⟩, h⟩

/-- a global name of the def -/
def Gl (X : Cx) (x : Str) : Prop := X.env.kindOf x = some .globalImplicit
theorem ld_glob {E : Value → Shared → Prop} {pins : List (Addr × Obj)} {s : Shared} {σ : St} {H : Hp} {x : Str} {u : Value} {pos : Pos} {Q : Value → Shared → Prop} (I : Inv X pins σ H s) (hg : Gl X x) (hm : X.mg x = some u) (h : Q u s)
    (hd : (x == ("__debug__" : Str)) = false := by decide) : wpAny (model X.prog X.w) X.A (eval (.Name x pos) X.env) Q E s :=
  Calls.Name_function_global I.ok.kind hg (Calls.loadGlobal_global (by rw [I.ok.glob]; exact I.mod.glob.keeps I.bk) hm h) hd
theorem ld_blt {E : Value → Shared → Prop} {pins : List (Addr × Obj)} {s : Shared} {σ : St} {H : Hp} {x : Str} {u : Value} {pos : Pos} {Q : Value → Shared → Prop} (I : Inv X pins σ H s) (hg : Gl X x) (hm : X.mg x = none) (hv : bootBuiltins x = some u) (h : Q u s)
    (hn : x ≠ "__name__" := by decide) (hd : (x == ("__debug__" : Str)) = false := by decide) : wpAny (model X.prog X.w) X.A (eval (.Name x pos) X.env) Q E s := by
  obtain ⟨mb, h1, h2⟩ := I.mod.blt
  exact Calls.Name_function_global I.ok.kind hg (Calls.loadGlobal_builtin (by rw [I.ok.glob]; exact I.mod.glob.keeps I.bk) hm (by rw [I.ok.blt]; exact h1.keeps I.bk) ((h2 x hn).trans hv) h) hd
/-- a module's constant, a class, a function, as a value -/
theorem pe_glob {x : Str} {v : V} {u : Value} {pos : Pos} (hg : Gl X x) (hm : X.mg x = some u) (r : RelV v u) (hd : (x == ("__debug__" : Str)) = false := by decide) : PE X (.Name x pos) (tC v) :=
  fun _ _ _ H _ I h => ld_glob I hg hm ⟨v, H, I, r, h⟩ hd
theorem pe_bltn {x : Str} {v : V} {u : Value} {pos : Pos} (hg : Gl X x) (hm : X.mg x = none) (hv : bootBuiltins x = some u) (r : RelV v u) (hn : x ≠ "__name__" := by decide) (hd : (x == ("__debug__" : Str)) = false := by decide) : PE X (.Name x pos) (tC v) :=
  fun _ _ _ H _ I h => ld_blt I hg hm hv ⟨v, H, I, r, h⟩ hn hd

/-! ### arithmetic -/
variable {a b : Expr} {ta tb : TE} {pos : Pos}
/-! ### comparisons -/
/-- a comparison as a value, as a test -/
def tB (t : TE) : TT := fun σ H Q => t σ H fun x H1 => ∃ c, x = .bl c ∧ Q c H1
/-- an expression whose value is a bool, as a test -/
theorem pt_val {e : Expr} {t : TE} (h : PE X e t) (he : ∀ whole, isTrue e X.env whole = (do let v ← whole; standAt e.pos; holding [v] (truthy v)) := by intro _; rfl) : PT X e (tB t) := by
  intro pins s σ H Q I hw
  refine isTrue_plain (thn (h pins s σ H _ I hw) fun v s1 ⟨x, H1, I1, r1, q1⟩ => ?_) (he _)
  obtain ⟨d, rfl, q⟩ := q1
  cases r1
  exact wpAny_truthy_bool ⟨H1, I1, q⟩

/-! ### and, or, not -/
variable {tA tB' : TT} {rest : List Expr}
def tOr (t u : TT) : TT := fun σ H Q => t σ H fun c H1 => if c = true then Q true H1 else u σ H1 Q
def tNot (t : TT) : TT := fun σ H Q => t σ H fun c H1 => Q (!c) H1
theorem pw_or1 (ha : PT X a tA) : PW X (.BoolOp .Or [a] pos) tA := by
  intro wh pins s σ H Q I h
  refine isTrue_or (thn (ha pins s σ H Q I h) fun c s1 e => ?_)
  cases c with
  | false => exact isTrue_or_nil e
  | true => exact e
theorem pw_or (ha : PT X a tA) (hb : PW X (.BoolOp .Or (b :: rest) pos) tB') : PW X (.BoolOp .Or (a :: b :: rest) pos) (tOr tA tB') := by
  intro wh pins s σ H Q I h
  refine isTrue_or (thn (ha pins s σ H _ I h) fun c s1 ⟨H1, I1, q1⟩ => ?_)
  cases c with
  | true => exact ⟨H1, I1, q1⟩
  | false => exact hb wh pins s1 σ H1 Q I1 q1
theorem pt_not (ha : PT X a tA) : PT X (.UnaryOp .Not a pos) (tNot tA) := by
  intro pins s σ H Q I h
  exact isTrue_not (ha pins s σ H (fun c H1 => Q (!c) H1) I h)
/-- .. as values (bools) -/
def tAndV (ta tb : TE) : TE := fun σ H Q => ta σ H fun x H1 => ∃ c, x = .bl c ∧ if c = true then tb σ H1 Q else Q (.bl false) H1
theorem pe_one {op} {t : TE} (h : PE X a t) : PE X (.BoolOp op [a] pos) t := fun pins s σ H Q I hw => BoolOp_one (h pins s σ H Q I hw)
theorem pe_and (ha : PE X a ta) (hb : PE X (.BoolOp .And (b :: rest) pos) tb) : PE X (.BoolOp .And (a :: b :: rest) pos) (tAndV ta tb) := by
  intro pins s σ H Q I h
  refine BoolOp_and (thn (ha pins s σ H _ I h) fun v s1 ⟨x, H1, I1, r1, q1⟩ => ?_)
  obtain ⟨c, rfl, q1⟩ := q1
  cases r1
  refine wpAny_truthy_bool ?_
  cases c with
  | true => exact hb pins s1 σ H1 Q I1 q1
  | false => exact ⟨.bl false, H1, I1, rfl, q1⟩
end
end L2

namespace L2
open PySem PySem.Spec PyProof.Rows

/-! ### a list, a tuple that is read: tracked, frozen, or an object of the module -/
def SqL (K : PySem.W.Frag) (H : Hp) (a : Addr) (xs : List V) : Prop :=
  Rd H a (.lst xs) ∨
    ∃ (o : Obj) (its : Array Value) (n : Nat), K.lookup a = some o ∧ o.cls = .type "list" ∧ o.dict = none ∧ o.data = .seq its n ∧ its.size ≤ sizeLine ∧ Vals xs its.toList
def SqT (K : PySem.W.Frag) (H : Hp) (a : Addr) (xs : List V) : Prop :=
  Rd H a (.tup xs) ∨
    ∃ (o : Obj) (its : Array Value) (n : Nat), K.lookup a = some o ∧ o.cls = .type "tuple" ∧ o.data = .seq its n ∧ its.size ≤ sizeLine ∧ Vals xs its.toList
def absV : Value → Option V
  | .none => some .non
  | .bool b => some (.bl b)
  | .int i _ => some (.int i)
  | .str x _ => some (.str x)
  | .bytes b _ => some (.byt b)
  | .float b _ => some (.flt b)
  | .ref a => some (.ref a)
  | .type n => some (.ty n)
  | _ => none
theorem RelV.abs {x : V} {u : Value} (r : RelV x u) : absV u = some x := by
  cases x with
  | non => cases r; rfl
  | bl _ => cases r; rfl
  | int _ => obtain ⟨t, rfl⟩ := r; rfl
  | str _ => obtain ⟨t, rfl⟩ := r; rfl
  | byt _ => obtain ⟨t, rfl⟩ := r; rfl
  | flt _ => obtain ⟨t, rfl⟩ := r; rfl
  | ref _ => cases r; rfl
  | ty _ => cases r; rfl
theorem RelV.inj {x y : V} {u : Value} (r : RelV x u) (q : RelV y u) : x = y := Option.some.inj (r.abs.symm.trans q.abs)
theorem Vals.inj : ∀ {xs ys : List V} {us : List Value}, Vals xs us → Vals ys us → xs = ys
  | _, _, _, .nil, .nil => rfl
  | _, _, _, .cons r t, .cons r' t' => by rw [r.inj r', Vals.inj t t']
section
variable {X : Cx} {pins : List (Addr × Obj)} {σ : St} {H : Hp} {s : Shared} {a : Addr} {xs ys : List V}
theorem SqL.of {K : PySem.W.Frag} (h : H a = some (.lst xs)) : SqL K H a xs := .inl (.inl h)
theorem Inv.list (I : Inv X pins σ H s) (h : SqL X.K H a xs) : ∃ its : List Value, Vals xs its ∧ PlainL s.heap a its.toArray ∧ xs.length ≤ sizeLine := by
  rcases h with h | ⟨o, its, n, hk, hc, hd, hs, hz, r⟩
  · obtain ⟨z, its, n, r, e⟩ := h.ok I.hok
    exact ⟨its, r, ⟨_, n, e, rfl, rfl, rfl⟩, z⟩
  · refine ⟨its.toList, r, ⟨o, n, I.kIn a o hk, hc, hd, by simpa using hs⟩, ?_⟩
    have e := r.length
    simp only [Array.length_toList] at e
    (first | lia | omega)
theorem Inv.tuple (I : Inv X pins σ H s) (h : SqT X.K H a xs) : ∃ its : List Value, Vals xs its ∧ IsTup s.heap a its.toArray ∧ xs.length ≤ sizeLine := by
  rcases h with h | ⟨o, its, n, hk, hc, hs, hz, r⟩
  · obtain ⟨z, its, r, p⟩ := h.ok I.hok
    exact ⟨its, r, p, z⟩
  · refine ⟨its.toList, r, ⟨o, I.kIn a o hk, hc, n, by simpa using hs⟩, ?_⟩
    have e := r.length
    simp only [Array.length_toList] at e
    (first | lia | omega)
theorem Inv.list_inj (I : Inv X pins σ H s) (h : SqL X.K H a xs) (h' : SqL X.K H a ys) : xs = ys := by
  obtain ⟨its, r, ⟨o, n, e, _, _, d⟩, _⟩ := I.list h
  obtain ⟨its', r', ⟨o', n', e', _, _, d'⟩, _⟩ := I.list h'
  rw [e] at e'; cases e'
  rw [d] at d'
  injection d' with d1 _
  have : its = its' := by simpa using congrArg Array.toList d1
  subst this
  exact r.inj r'
end

/-! ### another wish about exceptions -/
abbrev Cx.wish (X : Cx) (E : Value → Shared → Prop) : Cx := { X with xe := E }
/-- no exception leaves -/
abbrev Cx.nox (X : Cx) : Cx := X.wish fun _ _ => False
theorem Cx.Ok.wish {X : Cx} (ok : X.Ok) (E : Value → Shared → Prop) : (X.wish E).Ok :=
  ⟨ok.mod, ok.kind, ok.glob, ok.blt, ok.above, ok.inj, ok.has, ok.cab, ok.hd, ok.frames, ok.stk, ok.exf, ok.bs, ok.bsz, ok.noex, ok.exfs, ok.funs, ok.frf⟩
theorem Cx.Ok.unwish {X : Cx} {E : Value → Shared → Prop} (ok : (X.wish E).Ok) : X.Ok :=
  ⟨ok.mod, ok.kind, ok.glob, ok.blt, ok.above, ok.inj, ok.has, ok.cab, ok.hd, ok.frames, ok.stk, ok.exf, ok.bs, ok.bsz, ok.noex, ok.exfs, ok.funs, ok.frf⟩
section
variable {X : Cx} {pins : List (Addr × Obj)} {σ : St} {H : Hp} {s : Shared} {E : Value → Shared → Prop}
theorem Inv.wish (I : Inv X pins σ H s) (E : Value → Shared → Prop) : Inv (X.wish E) pins σ H s := ⟨I.ok.wish E, I.os, I.bare, I.base, I.loc, I.cell, I.free, I.freeC, I.pin, I.hok, I.len⟩
theorem Inv.unwish (I : Inv (X.wish E) pins σ H s) : Inv X pins σ H s := ⟨I.ok.unwish, I.os, I.bare, I.base, I.loc, I.cell, I.free, I.freeC, I.pin, I.hok, I.len⟩
theorem SP.unwish {D : Ends} {f : Flow} {s' : Shared} (h : SP (X.wish E) pins D f s') : SP X pins D f s' := by
  cases f with
  | next => obtain ⟨σ', H', I, q⟩ := h; exact ⟨σ', H', I.unwish, q⟩
  | brk => obtain ⟨σ', H', I, q⟩ := h; exact ⟨σ', H', I.unwish, q⟩
  | cont => obtain ⟨σ', H', I, q⟩ := h; exact ⟨σ', H', I.unwish, q⟩
  | ret u => obtain ⟨v, σ', H', I, r, q⟩ := h; exact ⟨v, σ', H', I.unwish, r, q⟩
theorem PSs.nox {st : List Stmt} {t : TS} (h : PSs X.nox st t) : PSs X st t := fun pins s σ H D I hw =>
  wpAny_mono (h pins s σ H D (I.wish _) hw) (fun _ _ q => q.unwish) fun _ _ z => False.elim z
end

/-! ### blocks and small statements -/
section
variable {X : Cx} {st : Stmt} {rest : List Stmt} {t u : TS} {e : Expr} {te : TE} {pos : Pos}
def tNext : TS := fun D σ H => D.nx σ H
def tSeq (t u : TS) : TS := fun D σ H => t { D with nx := u D } σ H
theorem pss_nil : PSs X [] tNext := fun _ _ σ H _ I h => wpAny_execs_nil ⟨σ, H, I, h⟩
theorem pss_cons (h1 : PS X st t) (h2 : PSs X rest u) : PSs X (st :: rest) (tSeq t u) := by
  intro pins s σ H D I h
  refine wpAny_execs_cons (thn (h1 pins s σ H { D with nx := u D } I h) fun f s1 q => ?_)
  cases f with
  | next =>
    obtain ⟨σ', H', I', q⟩ := q
    exact h2 pins s1 σ' H' D I' q
  | ret v => exact q
  | brk => exact q
  | cont => exact q
theorem pss_one (h1 : PS X st t) : PSs X [st] t := by
  intro pins s σ H D I h
  refine wpAny_execs_cons (thn (h1 pins s σ H D I h) fun f s1 q => ?_)
  cases f with
  | next => exact wpAny_execs_nil q
  | ret v => exact q
  | brk => exact q
  | cont => exact q
/-- in a def's body nothing is shown -/
theorem Inv.quiet {pins : List (Addr × Obj)} {σ : St} {H : Hp} {s : Shared} (I : Inv X pins σ H s) : interactive X.env = false := by simp [interactive, I.ok.kind]
/-- an expression whose value is dropped -/
def tDrop (te : TE) : TS := fun D σ H => te σ H fun _ H1 => D.nx σ H1
theorem ps_expr (he : PE X e te) (hs : swapsWith e none pos.line X.env = pure false := by rfl) : PS X (.Expr e pos) (tDrop te) := by
  intro pins s σ H D I h
  exact wpAny_Expr_any (thn (he pins s σ H _ I h) fun v s1 ⟨x, H1, I1, r1, q1⟩ => ⟨σ, H1, I1, q1⟩) I.quiet hs
def tRet (te : TE) : TS := fun D σ H => te σ H D.rt
theorem ps_ret (he : PE X e te) : PS X (.Return (some e) pos) (tRet te) := by
  intro pins s σ H D I h
  exact wpAny_Return_some (thn (he pins s σ H _ I h) fun v s1 ⟨x, H1, I1, r1, q1⟩ => ⟨x, σ, H1, I1, r1, q1⟩)
def tIfS (c : TT) (t u : TS) : TS := fun D σ H => c σ H fun b H1 => if b = true then t D σ H1 else u D σ H1
theorem ps_if {c : Expr} {a b : List Stmt} {tc : TT} (hc : PT X c tc) (ha : PSs X a t) (hb : PSs X b u) : PS X (.If c a b pos) (tIfS tc t u) := by
  intro pins s σ H D I h
  refine wpAny_If (thn (hc pins s σ H _ I h) fun d s1 ⟨H1, I1, q1⟩ => ?_)
  cases d with
  | true => exact ha pins s1 σ H1 D I1 q1
  | false => exact hb pins s1 σ H1 D I1 q1
/-- code that the proof never comes to -/
def tNever : TS := fun _ _ _ => False
theorem ps_never : PS X st tNever := fun _ _ _ _ _ _ h => h.elim
theorem pss_never {sts : List Stmt} : PSs X sts tNever := fun _ _ _ _ _ _ h => h.elim
end

/-! ### targets -/
abbrev TG := V → St → Hp → (St → Hp → Prop) → Prop
def PG (X : Cx) (target : Expr) (t : TG) : Prop :=
  ∀ (pins : List (Addr × Obj)) (s : Shared) (σ : St) (H : Hp) (v : V) (u : Value) (Q : St → Hp → Prop), Inv X pins σ H s → RelV v u → t v σ H Q →
    wpAny (model X.prog X.w) X.A (assign target X.env u) (fun _ s' => ∃ σ' H', Inv X pins σ' H' s' ∧ Q σ' H') X.xe s
section
variable {X : Cx} {pos : Pos}
def gName (i : Nat) : TG := fun v σ H Q => Q (σ.set i (some v)) H
theorem pg_name {i : Nat} {x : Str} (hN : X.N.Nodup) (hi : X.N[i]? = some x) (hx : Loc X.env.scope x) (hf : X.fn x = true ∨ X.env.scope.names.lookup x = some .local := by first | exact .inl rfl | exact .inr rfl | assumption) : PG X (.Name x pos) (gName i) := by
  intro pins s σ H v u Q I r h
  exact wpAny_assign_Name (store_ok I hN hi hx r (fun s' I' => ⟨_, H, I', h⟩) hf)
/-- target = value -/
def tAsg (te : TE) (g : TG) : TS := fun D σ H => te σ H fun x H1 => g x σ H1 D.nx
/-- name = value -/
theorem ps_set {i : Nat} {x : Str} {e : Expr} {te : TE} {pos' : Pos} (hN : X.N.Nodup) (hi : X.N[i]? = some x) (hx : Loc X.env.scope x) (he : PE X e te) (hs : swapsWith e (some (.Name x pos')) pos.line X.env = pure false := by rfl) (hf : X.fn x = true ∨ X.env.scope.names.lookup x = some .local := by first | exact .inl rfl | exact .inr rfl | assumption) :
    PS X (.Assign [.Name x pos'] e pos) (tAsg te (gName i)) := by
  intro pins s σ H D I h
  refine wpAny_Assign_Name (thn (he pins s σ H _ I h) fun v s1 ⟨y, H1, I1, r1, q1⟩ => ?_) hs
  exact store_ok I1 hN hi hx r1 (fun s2 I2 => ⟨_, H1, I2, q1⟩) hf
end

/-! ### while -/
section
variable {X : Cx} {pos : Pos}
end

/-! ### what a loop or a comprehension walks -/
/-- at turn i: it yields x (the heap may grow), or it stops -/
structure It where
  go : Nat → Hp → Prop
  yld : Nat → Hp → V → Hp → Prop
  stop : Nat → Hp → Prop
/-- the iterator's own objects may turn: they are not the frame's, not pinned, younger than the entry (or a comprehension's own) -/
def FpOk (X : Cx) (pins : List (Addr × Obj)) (H : Hp) (b : Addr) : Prop :=
  H b = none ∧ b ≠ X.env.locals ∧ b ∉ X.fs ∧ (b ∈ X.ex ∨ X.s₀.heap.objs.size ≤ b) ∧ (∀ x c, X.env.cells.lookup x = some c → c ≠ b) ∧ ∀ p ∈ X.pn ++ pins, p.1 ≠ b
theorem Inv.fpOk {X : Cx} {pins : List (Addr × Obj)} {σ : St} {H H' : Hp} {s : Shared} {b : Addr} (I : Inv X pins σ H s) (hb : s.heap.objs.size ≤ b) (hn : H' b = none) : FpOk X pins H' b := by
  refine ⟨hn, Nat.ne_of_gt (Nat.lt_of_lt_of_le I.lt hb), I.nofs hb, .inr (Nat.le_trans I.sz hb), fun x c e z => ?_, fun p hp z => ?_⟩
  · obtain ⟨v, q⟩ := I.cell x c e
    exact absurd (Nat.lt_of_lt_of_le q.lt (by rw [z]; exact hb)) (Nat.lt_irrefl _)
  · exact absurd (Nat.lt_of_lt_of_le (Heap.lt_size (I.pin p hp).1) (by rw [z]; exact hb)) (Nat.lt_irrefl _)
structure Turn (P : Program) (w : World) (K : PySem.W.Frag) (tg : Expr) (J : It) (fp : List Addr) (it : Addr) (tn : Nat → Heap → Prop) : Prop where
  mem : it ∈ fp
  obj : ∀ i h, tn i h → ∀ b ∈ fp, ∃ o, h.get? b = some o ∧ ∀ v, o.data ≠ .cell v
  keep : ∀ i h h', tn i h → (∀ b ∈ fp, ∀ o, h.get? b = some o → h'.get? b = some o) → tn i h'
  item : ∀ (X : Cx), X.prog = P → X.w = w → X.K = K → X.calm = true → ∀ (i : Nat) (pins : List (Addr × Obj)) (s : Shared) (σ : St) (H : Hp) (E : Value → Shared → Prop), Inv X pins σ H s → (∀ b ∈ fp, FpOk X pins H b) → tn i s.heap → J.go i H →
    wpAny (model P w) X.A (pyNext (.ref it)) (fun r s1 => ∃ u, r = some u ∧
      wpAny (model P w) X.A (letOwnedTupleGo tg (.ref it) u) (fun _ s2 => ∃ x H', Inv X pins σ H' s2 ∧ RelV x u ∧ J.yld i H x H' ∧ tn (i + 1) s2.heap ∧ ∀ b ∈ fp, H' b = none) E s1) E s
  done : ∀ (X : Cx), X.prog = P → X.w = w → X.K = K → X.calm = true → ∀ (i : Nat) (pins : List (Addr × Obj)) (s : Shared) (σ : St) (H : Hp) (E : Value → Shared → Prop), Inv X pins σ H s → (∀ b ∈ fp, FpOk X pins H b) → tn i s.heap → J.stop i H →
    wpAny (model P w) X.A (pyNext (.ref it)) (fun r s1 => r = none ∧ Inv X pins σ H s1) E s
  self : ∀ (A : Around) (i : Nat) (s : Shared) (Q : Value → Shared → Prop) (E : Value → Shared → Prop), tn i s.heap → Q (.ref it) s → wpAny (model P w) A (pyIter (.ref it)) Q E s
abbrev TI := St → Hp → (It → Hp → Prop) → Prop
/-- an iterator has come -/
def PIE (X : Cx) (pins : List (Addr × Obj)) (σ : St) (tg : Expr) (R : It → Hp → Prop) (itv : Value) (s2 : Shared) : Prop :=
  ∃ (it : Addr) (fp : List Addr) (tn : Nat → Heap → Prop) (J : It) (H' : Hp), itv = .ref it ∧ Inv X pins σ H' s2 ∧ Turn X.prog X.w X.K tg J fp it tn ∧ tn 0 s2.heap ∧ (∀ b ∈ fp, FpOk X pins H' b) ∧ R J H'
def PI (X : Cx) (tg iter : Expr) (wi : TI) : Prop :=
  ∀ (pins : List (Addr × Obj)) (s : Shared) (σ : St) (H : Hp) (R : It → Hp → Prop), Inv X pins σ H s → wi σ H R →
    wpAny (model X.prog X.w) X.A (eval iter X.env) (fun v s1 => wpAny (model X.prog X.w) X.A (pyIter v) (PIE X pins σ tg R) X.xe s1) X.xe s

/-- the step ahead of the store is nothing for an iterator that keeps no tuple -/
theorem go_of {M : Model} {A : Around} {E : Value → Shared → Prop} {s : Shared} {tg : Expr} {it : Addr} {u : Value} {o : Obj} {n : String} {vs : Array Value} {Q : Unit → Shared → Prop} (ho : s.heap.get? it = some o) (hc : o.cls = .type n) (hd : o.data = .fields vs)
    (hn : ["enumerate", "zip", "dict_itemiterator", "dict_reverseitemiterator", "odict_iterator", "itertools.zip_longest", "itertools.pairwise"].contains n = false) (hQ : Q () s) : wpAny M A (letOwnedTupleGo tg (.ref it) u) Q E s := by
  unfold letOwnedTupleGo
  cases tg <;> first
    | exact wpAny_pure hQ
    | (cases u <;> first
        | exact wpAny_pure hQ
        | (refine wpAny_bind (wpAny_load ho ?_)
           rw [hc, hd]
           show wpAny M A (if (["enumerate", "zip", "dict_itemiterator", "dict_reverseitemiterator", "odict_iterator", "itertools.zip_longest", "itertools.pairwise"].contains n && vs[0]? == some (rawInt _)) = true then _ else _) Q E s
           rw [if_neg (by intro h; rw [hn, Bool.false_and] at h; cases h)]
           exact wpAny_pure hQ))

/-- the list at a, as it stands at each turn (a loop may append to it) -/
def Itl (K : PySem.W.Frag) (a : Addr) : It :=
  ⟨fun i H => ∃ xs x, SqL K H a xs ∧ xs[i]? = some x, fun i H x H' => H' = H ∧ ∀ xs, SqL K H a xs → xs[i]? = some x, fun i H => ∃ xs, SqL K H a xs ∧ xs.length ≤ i⟩
/-- lo, lo + 1, .. (n of them) -/
def Itr (lo : Int) (n : Nat) : It := ⟨fun i _ => i < n, fun i H x H' => H' = H ∧ x = .int (lo + i), fun i _ => n ≤ i⟩
theorem turn_list {P : Program} {w : World} {K : PySem.W.Frag} {tg : Expr} (a it : Addr) : Turn P w K tg (Itl K a) [it] it (fun i h => h.IsListIter it a i) where
  mem := by simp
  obj := fun i h st b hb => by
    have e : b = it := by simpa using hb
    subst e
    obtain ⟨o, e, c, d⟩ := st
    exact ⟨o, e, fun v z => by rw [d] at z; cases z⟩
  keep := fun i h h' st k => st.at fun o e => k it (by simp) o e
  item := by
    intro X hP hw hK hc i pins s σ H E I hf st hg
    subst hP hw hK
    obtain ⟨xs, x, hq, hx⟩ := hg
    obtain ⟨its, rv, p, hz⟩ := I.list hq
    obtain ⟨u, hu, ru⟩ := rv.get hx
    obtain ⟨f0, f1, f2, f3, f4, f5⟩ := hf it (by simp)
    refine wpAny_pyNext_list_item st p.isList (x := u) (by simpa using hu) fun h' st' sb => ?_
    have I1 : Inv X pins σ H { s with heap := h' } := I.turned (t' := s.toks) (fun b o hb e => (sb.2 b hb).trans e) f0 f1 f3 f4 f5
    obtain ⟨o, e, c, d⟩ := id st'
    exact ⟨u, rfl, go_of (s := { s with heap := h' }) e c d (by decide) ⟨x, H, I1, ru, ⟨rfl, fun ys hy => by rw [I.list_inj hy hq]; exact hx⟩, st', fun b hb => (hf b hb).1⟩⟩
  done := by
    intro X hP hw hK hc i pins s σ H E I hf st hg
    subst hP hw hK
    obtain ⟨xs, hq, hx⟩ := hg
    obtain ⟨its, rv, p, hz⟩ := I.list hq
    obtain ⟨f0, f1, f2, f3, f4, f5⟩ := hf it (by simp)
    have hl := rv.length
    exact wpAny_pyNext_list_end (I.ok.hd hc) st p.isList (by simp; (first | lia | omega)) fun h' eb => ⟨rfl, I.turned (t' := s.toks) (fun b o hb e => eb b o hb e) f0 f1 f3 f4 f5⟩
  self := fun _ _ _ _ _ st h => wpAny_pyIter_listiter st h
theorem turn_range {P : Program} {w : World} {K : PySem.W.Frag} {tg : Expr} (it : Addr) (lo : Int) (n : Nat) : Turn P w K tg (Itr lo n) [it] it (fun i h => IsRangeIter h it (lo + (i : Nat) * 1) ((n : Int) - (i : Nat)) 1) where
  mem := by simp
  obj := fun i h st b hb => by
    have e : b = it := by simpa using hb
    subst e
    exact ⟨_, st, fun v z => by
      have z' : Data.fields _ = Data.cell v := z
      cases z'⟩
  keep := fun i h h' st k => k it (by simp) _ st
  item := by
    intro X hP hw hK hc i pins s σ H E I hf st hg
    subst hP hw hK
    obtain ⟨f0, f1, f2, f3, f4, f5⟩ := hf it (by simp)
    have W := Walks.range (prog := X.prog) (w := X.w) (I.ok.hd hc) it lo 1 n
    refine W.item i s _ _ hg st fun v h' tk hv st' kk => ?_
    obtain ⟨t, rfl⟩ := hv
    have I1 : Inv X pins σ H { s with heap := h', toks := tk } := I.turned (fun b o hb e => kk b o (by simpa using hb) e) f0 f1 f3 f4 f5
    refine ⟨_, rfl, go_of (s := { s with heap := h', toks := tk }) (n := "range_iterator") st' rfl rfl (by decide) ⟨.int (lo + i), H, I1, ⟨t, ?_⟩, ⟨rfl, rfl⟩, st', fun b hb => (hf b hb).1⟩⟩
    rw [Int.mul_one]
  done := by
    intro X hP hw hK hc i pins s σ H E I hf st hg
    subst hP hw hK
    obtain ⟨f0, f1, f2, f3, f4, f5⟩ := hf it (by simp)
    exact wpAny_pyNext_range_end (I.ok.hd hc) st (by have : n ≤ i := hg; (first | lia | omega)) fun h' eb => ⟨rfl, I.turned (t' := s.toks) (fun b o hb e => eb b o hb e) f0 f1 f3 f4 f5⟩
  self := fun _ _ _ _ _ st h => wpAny_pyIter_rangeiter st h
end L2

namespace L2
open PySem PySem.Spec PyProof.Rows
section
variable {X : Cx} {tg : Expr}
def iList (K : PySem.W.Frag) (tl : TE) : TI := fun σ H R => tl σ H fun x H1 => ∃ a, x = .ref a ∧ (∃ xs, SqL K H1 a xs) ∧ R (Itl K a) H1
theorem pi_list {l : Expr} {tl : TE} (hl : PE X l tl) : PI X tg l (iList X.K tl) := by
  intro pins s σ H R I h
  refine thn (hl pins s σ H _ I h) fun v s1 ⟨x, H1, I1, r1, q1⟩ => ?_
  obtain ⟨a, e, ⟨xs, hq⟩, q⟩ := q1
  subst e
  cases r1
  obtain ⟨its, rv, p, hz⟩ := I1.list hq
  refine wpAny_pyIter_list p.isList ?_
  refine ⟨s1.heap.objs.size, [s1.heap.objs.size], _, _, H1, rfl, I1.kept (t' := s1.toks) fun b o e => Heap.get?_push_of_some _ e, turn_list a _, ⟨_, Heap.get?_push_size _ rfl, rfl, rfl⟩, fun b hb => ?_, q⟩
  have e : b = s1.heap.objs.size := by simpa using hb
  subst e
  exact I1.fpOk (Nat.le_refl _) (I1.hok.fresh (Nat.le_refl _))
/-- a range object just made, walked -/
theorem range_it {pins : List (Addr × Obj)} {σ : St} {H : Hp} {s : Shared} {R : It → Hp → Prop} {E : Value → Shared → Prop} {lo hi : Int} {t u v : Tok} {tk : Nat} (I : Inv X pins σ H s) (h1 : -(2 ^ 62) ≤ lo) (h2 : lo < 2 ^ 62) (h3 : -(2 ^ 62) ≤ hi) (h4 : hi < 2 ^ 62)
    (q : R (Itr lo (hi - lo).toNat) H) : wpAny (model X.prog X.w) X.A (pyIter (.ref s.heap.objs.size)) (PIE X pins σ tg R) E { s with heap := s.heap.push { cls := .type "range", data := .fields #[.int lo t, .int hi u, .int 1 v] }, toks := tk } := by
  refine wpAny_pyIter_range (IsRange.new ..) (small_one h1 h2 h3 h4) ?_
  have I1 : Inv X pins σ H { s with heap := s.heap.push { cls := .type "range", data := .fields #[.int lo t, .int hi u, .int 1 v] }, toks := tk } := I.kept fun b o e => Heap.get?_push_of_some _ e
  refine ⟨(s.heap.push { cls := .type "range", data := .fields #[.int lo t, .int hi u, .int 1 v] }).objs.size, [(s.heap.push { cls := .type "range", data := .fields #[.int lo t, .int hi u, .int 1 v] }).objs.size], _, _, H, rfl,
    I1.kept (t' := tk) fun b o e => Heap.get?_push_of_some _ e, turn_range _ lo (hi - lo).toNat, ?_, fun b hb => ?_, q⟩
  · have e1 : lo + ((0 : Nat) : Int) * 1 = lo := by simp
    have e2 : (((hi - lo).toNat : Nat) : Int) - ((0 : Nat) : Int) = Builtin.Range.rangeSize lo hi 1 := by rw [rangeSize_one]; split <;> (first | lia | omega)
    show IsRangeIter _ _ (lo + ((0 : Nat) : Int) * 1) ((((hi - lo).toNat : Nat) : Int) - ((0 : Nat) : Int)) 1
    rw [e1, e2]
    exact Heap.get?_push_size _ rfl
  · have e : b = (s.heap.push { cls := .type "range", data := .fields #[.int lo t, .int hi u, .int 1 v] }).objs.size := by simpa using hb
    subst e
    exact I1.fpOk (Nat.le_refl _) (I1.hok.fresh (Nat.le_refl _))
def iRng1 (ta : TA) : TI := fun σ H R => ta σ H fun vs H1 => ∃ j : Int, vs = [.int j] ∧ -(2 ^ 62) ≤ j ∧ j < 2 ^ 62 ∧ R (Itr 0 j.toNat) H1
def iRng2 (ta : TA) : TI := fun σ H R => ta σ H fun vs H1 => ∃ i j : Int, vs = [.int i, .int j] ∧ (-(2 ^ 62) ≤ i ∧ i < 2 ^ 62 ∧ -(2 ^ 62) ≤ j ∧ j < 2 ^ 62) ∧ R (Itr i (j - i).toNat) H1
theorem pi_range1 {a : Expr} {ta : TA} {p pos : Pos} (hg : Gl X "range") (hm : X.mg "range" = none) (ha : PA X [a] ta) (hs : starEach [a] X.env = [(false, eval a X.env)] := by rfl) : PI X tg (.Call (.Name "range" p) [a] [] pos) (iRng1 ta) := by
  intro pins s σ H R I h
  refine Call_ (ld_blt I hg hm boot_range (PyProof.Rows.callWith_type1 (thn (ha pos pins s σ H _ I h) fun us s1 ⟨vs, H1, I1, r1, q1⟩ => ?_) hs rfl))
  obtain ⟨j, e, q1, q2, q⟩ := q1
  subst e
  cases r1 with
  | cons r rr =>
    cases rr
    obtain ⟨t, rfl⟩ := r
    exact call_range_1 (range_it I1 (by (first | lia | omega)) (by (first | lia | omega)) q1 q2 (by simpa using q))
theorem pi_range2 {a b : Expr} {ta : TA} {p pos : Pos} (hg : Gl X "range") (hm : X.mg "range" = none) (ha : PA X [a, b] ta) (hs : starEach [a, b] X.env = [(false, eval a X.env), (false, eval b X.env)] := by rfl) (hs2 : starEach [b] X.env = [(false, eval b X.env)] := by rfl) :
    PI X tg (.Call (.Name "range" p) [a, b] [] pos) (iRng2 ta) := by
  intro pins s σ H R I h
  refine Call_ (ld_blt I hg hm boot_range (PyProof.Rows.callWith_type1 (thn (ha pos pins s σ H _ I h) fun us s1 ⟨vs, H1, I1, r1, q1⟩ => ?_) (by rw [hs, hs2]) (by rw [hs2]; rfl)))
  obtain ⟨i, j, e, ⟨q1, q2, q3, q4⟩, q⟩ := q1
  subst e
  cases r1 with
  | cons r rr =>
    cases rr with
    | cons r' rr =>
      cases rr
      obtain ⟨t, rfl⟩ := r
      obtain ⟨t', rfl⟩ := r'
      exact call_range_2 (range_it I1 q1 q2 q3 q4 q)

/-! ### for -/
/-- W: the invariant by the turn and a measure; N: what the body is to reach -/
def tFor (wi : TI) (g : TG) (tb : TS) : TS := fun D σ H => wi σ H fun J H1 => ∃ W : Nat → Nat → St → Hp → Prop, (∃ m, W 0 m σ H1) ∧ ∀ i m σ H, W i m σ H →
  (J.stop i H ∧ D.nx σ H) ∨ (J.go i H ∧ ∃ N : St → Hp → Prop, (∀ σ' H', N σ' H' → ∃ m', m' < m ∧ W (i + 1) m' σ' H') ∧ ∀ x H', J.yld i H x H' → g x σ H' fun σ2 H2 => tb { D with nx := N, ct := N, bk := D.nx } σ2 H2)
/-- the records at fp as they stand -/
def pinsAt (fp : List Addr) (h : Heap) : List (Addr × Obj) := fp.filterMap fun b => (h.get? b).map fun o => (b, o)
theorem mem_pinsAt {fp : List Addr} {h : Heap} {b : Addr} {o : Obj} (hb : b ∈ fp) (e : h.get? b = some o) : (b, o) ∈ pinsAt fp h := List.mem_filterMap.mpr ⟨b, hb, by rw [e]; rfl⟩
theorem of_pinsAt {fp : List Addr} {h : Heap} {p : Addr × Obj} (hp : p ∈ pinsAt fp h) : p.1 ∈ fp ∧ h.get? p.1 = some p.2 := by
  obtain ⟨b, hb, e⟩ := List.mem_filterMap.mp hp
  cases q : h.get? b with
  | none => rw [q] at e; cases e
  | some o =>
    rw [q] at e
    have e' : (b, o) = p := Option.some.inj e
    subst e'
    exact ⟨hb, q⟩
theorem Inv.pinned {pins : List (Addr × Obj)} {σ : St} {H : Hp} {s : Shared} {fp : List Addr} (I : Inv X pins σ H s) (hf : ∀ b ∈ fp, FpOk X pins H b) (ho : ∀ b ∈ fp, ∃ o, s.heap.get? b = some o ∧ ∀ v, o.data ≠ .cell v) : Inv X (pins ++ pinsAt fp s.heap) σ H s :=
  I.pins_of fun p hp => (List.mem_append.mp hp).elim (fun z => I.pin p (List.mem_append_right _ z)) fun z => by
    obtain ⟨hb, e⟩ := of_pinsAt z
    obtain ⟨f0, f1, f2, _⟩ := hf p.1 hb
    obtain ⟨o, e', d⟩ := ho p.1 hb
    rw [e] at e'; cases e'
    exact ⟨e, f0, f1, f2, d⟩
theorem Inv.unpinned {pins pl : List (Addr × Obj)} {σ : St} {H : Hp} {s : Shared} (I : Inv X (pins ++ pl) σ H s) : Inv X pins σ H s := I.pins_of fun p hp => I.pin p (List.mem_append_right _ (List.mem_append_left _ hp))
theorem ps_for {iter : Expr} {body : List Stmt} {wi : TI} {g : TG} {tb : TS} {pos : Pos} (hp : PassesOwn (model X.prog X.w) X.A X.env X.xe) (hc : X.calm = true) (hi : PI X tg iter wi) (hg : PG X tg g) (hb : PSs X body tb)
    (hs : ∀ x, foldedSetIterable iter X.env x = pure x := by intro _; rfl) : PS X (.For tg iter body [] pos) (tFor wi g tb) := by
  intro pins s σ H D I h
  refine wpAny_For (thn (hi pins s σ H _ I h) fun v s1 h1 => thn h1 fun itv s2 h2 => ?_) hs
  obtain ⟨it, fp, tn, J, H2, e, I2, T, st2, f2, W, ⟨m0, w0⟩, turn⟩ := h2
  subst e
  -- what stays true of the iterator's objects through the loop
  have stat : ∀ {H' : Hp}, (∀ b ∈ fp, H' b = none) → ∀ b ∈ fp, FpOk X pins H' b := fun hn b hb => ⟨hn b hb, (f2 b hb).2⟩
  refine codeAny_forLoop_any (fun n s' => ∃ i σ' H', Inv X pins σ' H' s' ∧ tn i s'.heap ∧ (∀ b ∈ fp, H' b = none) ∧ W i n σ' H') ?_ m0 ⟨0, σ, H2, I2, st2, fun b hb => (f2 b hb).1, w0⟩
  rintro n s3 ⟨i, σ3, H3, I3, st3, fr3, w3⟩
  rcases turn i n σ3 H3 w3 with ⟨stop, qn⟩ | ⟨go, N, hN, step⟩
  · refine wpAny_passesOwn hp (thn (T.done X rfl rfl rfl hc i pins s3 σ3 H3 X.xe I3 (stat fr3) st3 stop) fun r s4 ⟨hr, I4⟩ => ?_)
    subst hr
    exact wpAny_execs_nil ⟨σ3, H3, I4, qn⟩
  · refine wpAny_passesOwn hp (thn (T.item X rfl rfl rfl hc i pins s3 σ3 H3 X.xe I3 (stat fr3) st3 go) fun r s4 ⟨u, hr, h4⟩ => ?_)
    subst hr
    refine wpAny_passesOwn hp (thn h4 fun _ s5 ⟨x, H5, I5, r5, y5, st5, fr5⟩ => ?_)
    have I5' := I5.pinned (stat fr5) (T.obj _ _ st5)
    refine wpAny_passesOwn hp (thn (hg _ s5 σ3 H5 x u _ I5' r5 (step x H5 y5)) fun _ s6 ⟨σ6, H6, I6, q6⟩ => ?_)
    refine wpAny_passesOwn hp (thn (hb _ s6 σ6 H6 _ I6 q6) fun f s7 q7 => ?_)
    have again : ∀ {σ7 : St} {H7 : Hp}, Inv X (pins ++ pinsAt fp s5.heap) σ7 H7 s7 → N σ7 H7 → ∃ m, m < n ∧ ∃ i σ' H', Inv X pins σ' H' s7 ∧ tn i s7.heap ∧ (∀ b ∈ fp, H' b = none) ∧ W i m σ' H' := fun {σ7 H7} I7 n7 => by
      obtain ⟨m', hm, w7⟩ := hN σ7 H7 n7
      refine ⟨m', hm, i + 1, σ7, H7, I7.unpinned, T.keep _ _ _ st5 fun b hb o e => (I7.pin (b, o) (List.mem_append_right _ (List.mem_append_right _ (mem_pinsAt hb e)))).1, fun b hb => ?_, w7⟩
      obtain ⟨o, e, d⟩ := T.obj _ _ st5 b hb
      exact (I7.pin (b, o) (List.mem_append_right _ (List.mem_append_right _ (mem_pinsAt hb e)))).2.1
    cases f with
    | next => obtain ⟨σ7, H7, I7, n7⟩ := q7; exact again I7 n7
    | cont => obtain ⟨σ7, H7, I7, n7⟩ := q7; exact again I7 n7
    | brk => obtain ⟨σ7, H7, I7, q7⟩ := q7; exact ⟨σ7, H7, I7.unpinned, q7⟩
    | ret v => obtain ⟨x7, σ7, H7, I7, r7, q7⟩ := q7; exact ⟨x7, σ7, H7, I7.unpinned, r7, q7⟩
end

/-! ### the forms one uses -/
/-- over a list that the body leaves as it is -/
theorem for_list {K : PySem.W.Frag} {a : Addr} {xs : List V} {g : TG} {tb : TS} {D : Ends} {σ : St} {H : Hp} (Pv : Nat → St → Hp → Prop) (h0 : Pv 0 σ H) (hl : ∀ i σ H, i ≤ xs.length → Pv i σ H → SqL K H a xs)
    (hs : ∀ i x σ H, xs[i]? = some x → Pv i σ H → g x σ H fun σ2 H2 => tb { D with nx := Pv (i + 1), ct := Pv (i + 1), bk := D.nx } σ2 H2) (hd : ∀ σ H, Pv xs.length σ H → D.nx σ H) :
    ∃ W : Nat → Nat → St → Hp → Prop, (∃ m, W 0 m σ H) ∧ ∀ i m σ H, W i m σ H →
      ((Itl K a).stop i H ∧ D.nx σ H) ∨ ((Itl K a).go i H ∧ ∃ N : St → Hp → Prop, (∀ σ' H', N σ' H' → ∃ m', m' < m ∧ W (i + 1) m' σ' H') ∧ ∀ x H', (Itl K a).yld i H x H' → g x σ H' fun σ2 H2 => tb { D with nx := N, ct := N, bk := D.nx } σ2 H2) := by
  refine ⟨fun i m σ H => m = xs.length - i ∧ i ≤ xs.length ∧ Pv i σ H, ⟨xs.length, by simp, Nat.zero_le _, h0⟩, ?_⟩
  rintro i m σ H ⟨rfl, hi, p⟩
  have q := hl i σ H hi p
  by_cases hlt : i < xs.length
  · refine .inr ⟨⟨xs, xs[i], q, by simp [hlt]⟩, Pv (i + 1), fun σ' H' p' => ⟨xs.length - (i + 1), by (first | lia | omega), rfl, hlt, p'⟩, fun x H' y => ?_⟩
    obtain ⟨e, y⟩ := y
    subst e
    exact hs i x σ _ (y xs q) p
  · have e : i = xs.length := by (first | lia | omega)
    subst e
    exact .inl ⟨⟨xs, q, Nat.le_refl _⟩, hd σ H p⟩
theorem for_range {lo : Int} {n : Nat} {g : TG} {tb : TS} {D : Ends} {σ : St} {H : Hp} (Pv : Nat → St → Hp → Prop) (h0 : Pv 0 σ H)
    (hs : ∀ i σ H, i < n → Pv i σ H → g (.int (lo + i)) σ H fun σ2 H2 => tb { D with nx := Pv (i + 1), ct := Pv (i + 1), bk := D.nx } σ2 H2) (hd : ∀ σ H, Pv n σ H → D.nx σ H) :
    ∃ W : Nat → Nat → St → Hp → Prop, (∃ m, W 0 m σ H) ∧ ∀ i m σ H, W i m σ H →
      ((Itr lo n).stop i H ∧ D.nx σ H) ∨ ((Itr lo n).go i H ∧ ∃ N : St → Hp → Prop, (∀ σ' H', N σ' H' → ∃ m', m' < m ∧ W (i + 1) m' σ' H') ∧ ∀ x H', (Itr lo n).yld i H x H' → g x σ H' fun σ2 H2 => tb { D with nx := N, ct := N, bk := D.nx } σ2 H2) := by
  refine ⟨fun i m σ H => m = n - i ∧ i ≤ n ∧ Pv i σ H, ⟨n, by simp, Nat.zero_le _, h0⟩, ?_⟩
  rintro i m σ H ⟨rfl, hi, p⟩
  by_cases hlt : i < n
  · refine .inr ⟨hlt, Pv (i + 1), fun σ' H' p' => ⟨n - (i + 1), by (first | lia | omega), rfl, hlt, p'⟩, fun x H' y => ?_⟩
    obtain ⟨e, y⟩ := y
    subst e y
    exact hs i σ _ hlt p
  · have e : i = n := by (first | lia | omega)
    subst e
    exact .inl ⟨Nat.le_refl _, hd σ H p⟩
end L2

namespace L2
open PySem PySem.Spec PyProof.Rows

abbrev R2 := V → V → Hp → VK → Prop
/-- a two-place operation on values: f is binaryOp op, inplaceOp op or compareOp op -/
def OpR (X : Cx) (f : Value → Value → Sem Value) (r : R2) : Prop :=
  ∀ (pins : List (Addr × Obj)) (s : Shared) (σ : St) (H : Hp) (x y : V) (v u : Value) (Q : VK), Inv X pins σ H s → RelV x v → RelV y u → r x y H Q →
    wpAny (model X.prog X.w) X.A (f v u) (EP X pins σ Q) X.xe s
/-- a one-place operation -/
def UnR (X : Cx) (f : Value → Sem Value) (r : V → Hp → VK → Prop) : Prop :=
  ∀ (pins : List (Addr × Obj)) (s : Shared) (σ : St) (H : Hp) (x : V) (v : Value) (Q : VK), Inv X pins σ H s → RelV x v → r x H Q →
    wpAny (model X.prog X.w) X.A (f v) (EP X pins σ Q) X.xe s
/-- a call of a value that is known (a builtin, a type) with values -/
def CallR (X : Cx) (f : Value) (r : List V → Hp → VK → Prop) : Prop :=
  ∀ (pins : List (Addr × Obj)) (s : Shared) (σ : St) (H : Hp) (xs : List V) (us : List Value) (Q : VK), Inv X pins σ H s → Vals xs us → r xs H Q →
    wpAny (model X.prog X.w) X.A (call f us) (EP X pins σ Q) X.xe s
def tOp (r : R2) (ta tb : TE) : TE := fun σ H Q => ta σ H fun x H1 => tb σ H1 fun y H2 => r x y H2 Q
def tUn (r : V → Hp → VK → Prop) (ta : TE) : TE := fun σ H Q => ta σ H fun x H1 => r x H1 Q
/-- ints in, under C, and a value out -/
def rI (C : Int → Int → Prop) (g : Int → Int → V) : R2 := fun x y H Q => ∃ i j, x = .int i ∧ y = .int j ∧ C i j ∧ Q (g i j) H
def rI0 (g : Int → Int → V) : R2 := fun x y H Q => ∃ i j, x = .int i ∧ y = .int j ∧ Q (g i j) H
def rU (g : Int → V) : V → Hp → VK → Prop := fun x H Q => ∃ i, x = .int i ∧ Q (g i) H

section
variable {X : Cx} {a b c : Expr} {ta tb tc : TE} {pos : Pos}

theorem binT (ha : PE X a ta) (hb : PE X b tb) {pins : List (Addr × Obj)} {s : Shared} {σ : St} {H : Hp} {R : V → V → Hp → Prop} (I : Inv X pins σ H s)
    (h : ta σ H fun x H1 => tb σ H1 fun y H2 => R x y H2) {Q : Value → Shared → Prop} {f : Value → Value → Sem Value}
    (hf : ∀ v u s2 x y H2, Inv X pins σ H2 s2 → RelV x v → RelV y u → R x y H2 → wpAny (model X.prog X.w) X.A (f v u) Q X.xe s2) :
    wpAny (model X.prog X.w) X.A (eval a X.env) (fun v s₁ => wpAny (model X.prog X.w) X.A (eval b X.env) (fun u s₂ => wpAny (model X.prog X.w) X.A (f v u) Q X.xe s₂) X.xe s₁) X.xe s := by
  refine thn (ha pins s σ H _ I h) fun v s1 ⟨x, H1, I1, r1, q1⟩ => ?_
  refine thn (hb pins s1 σ H1 _ I1 q1) fun u s2 ⟨y, H2, I2, r2, q2⟩ => ?_
  exact hf v u s2 x y H2 I2 r1 r2 q2

theorem pe_op {op : Operator} {r : R2} (ho : OpR X (binaryOp op) r) (ha : PE X a ta) (hb : PE X b tb) : PE X (.BinOp a op b pos) (tOp r ta tb) := by
  intro pins s σ H Q I h
  exact wpAny_BinOp (binT ha hb I h fun v u s2 x y H2 I2 rx ry q => ho pins s2 σ H2 x y v u Q I2 rx ry q)
theorem pe_un {op : UnaryOp} {r : V → Hp → VK → Prop} (ho : UnR X (unaryOp op) r) (ha : PE X a ta) : PE X (.UnaryOp op a pos) (tUn r ta) := by
  intro pins s σ H Q I h
  exact UnaryOp_ (thn (ha pins s σ H _ I h) fun v s1 ⟨x, H1, I1, r1, q1⟩ => ho pins s1 σ H1 x v Q I1 r1 q1)
/-! ### ints -/
theorem opI {f : Value → Value → Sem Value} {C : Int → Int → Prop} {g : Int → Int → Int}
    (rule : ∀ (i j : Int) (t u : Tok) (s : Shared) (Q : Value → Shared → Prop) (E : Value → Shared → Prop), C i j → Q (.int (g i j) s.toks) { s with toks := s.toks + 1 } → wpAny (model X.prog X.w) X.A (f (.int i t) (.int j u)) Q E s) :
    OpR X f (rI C fun i j => .int (g i j)) := by
  intro pins s σ H x y v u Q I rx ry h
  obtain ⟨i, j, rfl, rfl, hc, q⟩ := h
  obtain ⟨t, rfl⟩ := rx
  obtain ⟨t', rfl⟩ := ry
  exact rule i j t t' s _ _ hc ⟨.int (g i j), H, I.tok _, ⟨_, rfl⟩, q⟩
theorem opI0 {f : Value → Value → Sem Value} {g : Int → Int → Int}
    (rule : ∀ (i j : Int) (t u : Tok) (s : Shared) (Q : Value → Shared → Prop) (E : Value → Shared → Prop), Q (.int (g i j) s.toks) { s with toks := s.toks + 1 } → wpAny (model X.prog X.w) X.A (f (.int i t) (.int j u)) Q E s) :
    OpR X f (rI0 fun i j => .int (g i j)) := by
  intro pins s σ H x y v u Q I rx ry h
  obtain ⟨i, j, rfl, rfl, q⟩ := h
  obtain ⟨t, rfl⟩ := rx
  obtain ⟨t', rfl⟩ := ry
  exact rule i j t t' s _ _ ⟨.int (g i j), H, I.tok _, ⟨_, rfl⟩, q⟩
theorem opB0 {f : Value → Value → Sem Value} {g : Int → Int → Bool}
    (rule : ∀ (i j : Int) (t u : Tok) (s : Shared) (Q : Value → Shared → Prop) (E : Value → Shared → Prop), Q (.bool (g i j)) s → wpAny (model X.prog X.w) X.A (f (.int i t) (.int j u)) Q E s) :
    OpR X f (rI0 fun i j => .bl (g i j)) := by
  intro pins s σ H x y v u Q I rx ry h
  obtain ⟨i, j, rfl, rfl, q⟩ := h
  obtain ⟨t, rfl⟩ := rx
  obtain ⟨t', rfl⟩ := ry
  exact rule i j t t' s _ _ ⟨.bl (g i j), H, I, rfl, q⟩

def CDiv (i j : Int) : Prop := 0 < j ∧ j < 1073741824
def CMul (i j : Int) : Prop := (-(2 ^ 64) < i ∧ i < 2 ^ 64) ∨ (-(2 ^ 64) < j ∧ j < 2 ^ 64)
theorem CMul.ok {i j : Int} (h : CMul i j) : IntMulOk i j := by
  rcases h with ⟨h1, h2⟩ | ⟨h1, h2⟩
  · exact .of_left (intBits_le_64 h1 h2)
  · exact .of_right (intBits_le_64 h1 h2)
theorem op_add : OpR X (binaryOp .Add) (rI0 fun i j => .int (i + j)) := opI0 fun _ _ _ _ _ _ _ q => add_int q
theorem op_mul : OpR X (binaryOp .Mult) (rI CMul fun i j => .int (i * j)) := opI fun _ _ _ _ _ _ _ hc q => mul_int q hc.ok
/-- // by a positive divisor -/
theorem op_fdiv : OpR X (binaryOp .FloorDiv) (rI CDiv fun i j => .int (i / j)) := opI fun i j _ _ _ _ _ hc q => by
  have h1 : (0 : Int) < j := hc.1
  have h2 : j < 1073741824 := hc.2
  exact floordiv_int (by (first | lia | omega)) (by rw [Int.fdiv_eq_ediv_of_nonneg i (by (first | lia | omega))]; exact q) (.inl (PyProof.noPylong_small (by (first | lia | omega))))
/-- % by a positive divisor of any size -/
theorem op_mod : OpR X (binaryOp .Mod) (rI (fun _ j => 0 < j) fun i j => .int (i % j)) := opI fun i j _ _ _ _ _ hc q => by
  have h1 : (0 : Int) < j := hc
  exact mod_int' (by (first | lia | omega)) (by rw [Int.fmod_eq_emod_of_nonneg i (by (first | lia | omega))]; exact q)
theorem unI {f : Value → Sem Value} {g : Int → Int}
    (rule : ∀ (i : Int) (t : Tok) (s : Shared) (Q : Value → Shared → Prop) (E : Value → Shared → Prop), Q (.int (g i) s.toks) { s with toks := s.toks + 1 } → wpAny (model X.prog X.w) X.A (f (.int i t)) Q E s) :
    UnR X f (rU fun i => .int (g i)) := by
  intro pins s σ H x v Q I rx h
  obtain ⟨i, rfl, q⟩ := h
  obtain ⟨t, rfl⟩ := rx
  exact rule i t s _ _ ⟨.int (g i), H, I.tok _, ⟨_, rfl⟩, q⟩
theorem un_neg : UnR X (unaryOp .USub) (rU fun i => .int (-i)) := unI fun _ _ _ _ _ q => neg_int q
/-! ### bools among ints: n += (a < b) -/
end

/-! ### comparisons -/
/-- the scalars that == tells apart as data does -/
def scal : V → V → Bool
  | .non, .non => true | .non, .int _ => true | .int _, .non => true | .non, .bl _ => true | .bl _, .non => true | .non, .str _ => true | .str _, .non => true
  | .int _, .int _ => true | .bl _, .bl _ => true | .str _, .str _ => true | .byt _, .byt _ => true
  | .int _, .str _ => true | .str _, .int _ => true | .bl _, .str _ => true | .str _, .bl _ => true
  | _, _ => false
def rEq : R2 := fun x y H Q => scal x y = true ∧ Q (.bl (decide (x = y))) H
def rNe : R2 := fun x y H Q => scal x y = true ∧ Q (.bl (!decide (x = y))) H

theorem dec_int {i j : Int} : decide (V.int i = V.int j) = (i == j) := by
  rw [Bool.eq_iff_iff]
  simp
theorem dec_bl {i j : Bool} : decide (V.bl i = V.bl j) = (i == j) := by
  rw [Bool.eq_iff_iff]
  simp
theorem dec_str {i j : Str} : decide (V.str i = V.str j) = (i == j) := by
  rw [Bool.eq_iff_iff]
  simp
theorem dec_byt {i j : Array UInt8} : decide (V.byt i = V.byt j) = (i.toList == j.toList) := by
  rw [Bool.eq_iff_iff]
  cases i
  cases j
  simp

section
variable {X : Cx} {a b c : Expr} {ta tb tc : TE} {pos : Pos}
theorem fin_bl {pins : List (Addr × Obj)} {σ : St} {H : Hp} {s : Shared} {Q : VK} {k k' : Bool} (I : Inv X pins σ H s) (q : Q (.bl k) H) (e : k = k') : EP X pins σ Q (.bool k') s := by
  subst e
  exact ⟨.bl k, H, I, rfl, q⟩
theorem op_eq : OpR X (compareOp .Eq) rEq := by
  intro pins s σ H x y v u Q I rx ry h
  obtain ⟨hs, q⟩ := h
  cases x with
  | non =>
    cases rx
    cases y with
    | non => cases ry; exact PySem.EqNone.eq_none_none (fin_bl I q (by simp))
    | bl j => cases ry; exact PySem.EqNone.eq_none_bool (fin_bl I q (by simp))
    | int j => obtain ⟨t', rfl⟩ := ry; exact PySem.EqNone.eq_none_int (fin_bl I q (by simp))
    | str j => obtain ⟨t', rfl⟩ := ry; exact PySem.EqNone.eq_none_str (fin_bl I q (by simp))
    | _ => exact absurd (show false = true from hs) Bool.false_ne_true
  | bl i =>
    cases rx
    cases y with
    | non => cases ry; exact PySem.EqNone.eq_bool_none (fin_bl I q (by simp))
    | bl j => cases ry; exact eq_bool (fin_bl I q dec_bl)
    | str j => obtain ⟨t', rfl⟩ := ry; exact PySem.EqMixed.eq_bool_str (fin_bl I q (by simp))
    | _ => exact absurd (show false = true from hs) Bool.false_ne_true
  | int i =>
    obtain ⟨t, rfl⟩ := rx
    cases y with
    | non => cases ry; exact PySem.EqNone.eq_int_none (fin_bl I q (by simp))
    | int j => obtain ⟨t', rfl⟩ := ry; exact eq_int (fin_bl I q dec_int)
    | str j => obtain ⟨t', rfl⟩ := ry; exact PySem.EqMixed.eq_int_str (fin_bl I q (by simp))
    | _ => exact absurd (show false = true from hs) Bool.false_ne_true
  | str i =>
    obtain ⟨t, rfl⟩ := rx
    cases y with
    | non => cases ry; exact PySem.EqNone.eq_str_none (fin_bl I q (by simp))
    | bl j => cases ry; exact PySem.EqMixed.eq_str_bool (fin_bl I q (by simp))
    | int j => obtain ⟨t', rfl⟩ := ry; exact PySem.EqMixed.eq_str_int (fin_bl I q (by simp))
    | str j => obtain ⟨t', rfl⟩ := ry; exact eq_str (fin_bl I q dec_str)
    | _ => exact absurd (show false = true from hs) Bool.false_ne_true
  | byt i =>
    obtain ⟨t, rfl⟩ := rx
    cases y with
    | byt j => obtain ⟨t', rfl⟩ := ry; exact PySem.W.eq_bytes (fin_bl I q dec_byt)
    | _ => exact absurd (show false = true from hs) Bool.false_ne_true
  | _ => cases y <;> exact absurd (show false = true from hs) Bool.false_ne_true
theorem op_ne : OpR X (compareOp .NotEq) rNe := by
  intro pins s σ H x y v u Q I rx ry h
  obtain ⟨hs, q⟩ := h
  cases x with
  | non =>
    cases rx
    cases y with
    | non => cases ry; exact PySem.EqNone.ne_none_none (fin_bl I q (by simp))
    | bl j => cases ry; exact PySem.EqNone.ne_none_bool (fin_bl I q (by simp))
    | int j => obtain ⟨t', rfl⟩ := ry; exact PySem.EqNone.ne_none_int (fin_bl I q (by simp))
    | str j => obtain ⟨t', rfl⟩ := ry; exact PySem.EqNone.ne_none_str (fin_bl I q (by simp))
    | _ => exact absurd (show false = true from hs) Bool.false_ne_true
  | bl i =>
    cases rx
    cases y with
    | non => cases ry; exact PySem.EqNone.ne_bool_none (fin_bl I q (by simp))
    | bl j => cases ry; exact ne_bool (fin_bl I q (congrArg not dec_bl))
    | str j => obtain ⟨t', rfl⟩ := ry; exact PySem.EqMixed.ne_bool_str (fin_bl I q (by simp))
    | _ => exact absurd (show false = true from hs) Bool.false_ne_true
  | int i =>
    obtain ⟨t, rfl⟩ := rx
    cases y with
    | non => cases ry; exact PySem.EqNone.ne_int_none (fin_bl I q (by simp))
    | int j => obtain ⟨t', rfl⟩ := ry; exact ne_int (fin_bl I q (congrArg not dec_int))
    | str j => obtain ⟨t', rfl⟩ := ry; exact PySem.EqMixed.ne_int_str (fin_bl I q (by simp))
    | _ => exact absurd (show false = true from hs) Bool.false_ne_true
  | str i =>
    obtain ⟨t, rfl⟩ := rx
    cases y with
    | non => cases ry; exact PySem.EqNone.ne_str_none (fin_bl I q (by simp))
    | bl j => cases ry; exact PySem.EqMixed.ne_str_bool (fin_bl I q (by simp))
    | int j => obtain ⟨t', rfl⟩ := ry; exact PySem.EqMixed.ne_str_int (fin_bl I q (by simp))
    | str j => obtain ⟨t', rfl⟩ := ry; exact ne_str (fin_bl I q (congrArg not dec_str))
    | _ => exact absurd (show false = true from hs) Bool.false_ne_true
  | byt i =>
    obtain ⟨t, rfl⟩ := rx
    cases y with
    | byt j => obtain ⟨t', rfl⟩ := ry; exact PySem.W.ne_bytes (fin_bl I q (congrArg not dec_byt))
    | _ => exact absurd (show false = true from hs) Bool.false_ne_true
  | _ => cases y <;> exact absurd (show false = true from hs) Bool.false_ne_true

theorem op_lt : OpR X (compareOp .Lt) (rI0 fun i j => .bl (decide (i < j))) := opB0 fun _ _ _ _ _ _ _ q => lt_int q
theorem op_gt : OpR X (compareOp .Gt) (rI0 fun i j => .bl (decide (j < i))) := opB0 fun _ _ _ _ _ _ _ q => gt_int q
/-- the one string within the other -/
theorem op_in_str : OpR X (compareOp .In) (fun x y H Q => ∃ i j, x = .str i ∧ y = .str j ∧ Q (.bl (!(Builtin.Str.occurrences j i 0 j.length 1).isEmpty)) H) := by
  intro pins s σ H x y v u Q I rx ry h
  obtain ⟨i, j, rfl, rfl, q⟩ := h
  obtain ⟨t, rfl⟩ := rx
  obtain ⟨t', rfl⟩ := ry
  exact in_str (fin_bl I q rfl)

theorem nomark (b : Expr) {op : CmpOp} (h : op ≠ .In := by decide) (h2 : op ≠ .NotIn := by decide) : behindInMarks op b = false := by
  have e1 : (op == CmpOp.In) = false := by cases op <;> first | rfl | exact absurd rfl h
  have e2 : (op == CmpOp.NotIn) = false := by cases op <;> first | rfl | exact absurd rfl h2
  cases b <;> simp [behindInMarks, e1, e2]
/-- a comparison as a value; hm: nomark b, or (for in, not in) by with_unfolding_all rfl -/
theorem pe_cmpR {op : CmpOp} {r : R2} (ho : OpR X (compareOp op) r) (ha : PE X a ta) (hb : PE X b tb) (hm : behindInMarks op b = false) : PE X (.Compare a [op] [b] pos) (tOp r ta tb) := by
  intro pins s σ H Q I h
  exact wpAny_Compare1 (binT ha hb I h fun v u s2 x y H2 I2 rx ry q => ho pins s2 σ H2 x y v u Q I2 rx ry q) hm
/-- a reading of a value as a test -/
def tTest (t : TE) : TT := fun σ H Q => t σ H fun x H' => ∃ k, x = .bl k ∧ Q k H'
theorem pt_cmpR {op : CmpOp} {r : R2} (ho : OpR X (compareOp op) r) (ha : PE X a ta) (hb : PE X b tb) (hm : behindInMarks op b = false) : PT X (.Compare a [op] [b] pos) (tTest (tOp r ta tb)) := by
  intro pins s σ H Q I h
  refine wpAny_isTrue_Compare1 (thn (ha pins s σ H _ I h) fun v s1 ⟨x, H1, I1, r1, q1⟩ => thn (hb pins s1 σ H1 _ I1 q1) fun u s2 ⟨y, H2, I2, r2, q2⟩ =>
    thn (ho pins s2 σ H2 x y v u _ I2 r1 r2 q2) fun c s3 ⟨z, H3, I3, r3, k, e, q3⟩ => ?_) hm
  subst e
  cases r3
  exact wpAny_truthy_bool ⟨H3, I3, q3⟩
/-! ### truth -/
theorem line63 : (sizeLine : Nat) < 2 ^ 63 := by rw [sizeLine_eq]; decide
/-! ### strs and bytes -/
theorem op_add_str : OpR X (binaryOp .Add) (fun x y H Q => ∃ i j, x = .str i ∧ y = .str j ∧ i.length + j.length ≤ sizeLine ∧ Q (.str (i ++ j)) H) := by
  intro pins s σ H x y v u Q I rx ry h
  obtain ⟨i, j, rfl, rfl, hz, q⟩ := h
  obtain ⟨t, rfl⟩ := rx
  obtain ⟨t', rfl⟩ := ry
  exact add_str (fun t' tk => ⟨.str (i ++ j), H, I.tok _, ⟨_, rfl⟩, q⟩) hz
/-! ### scalar builtins, by CallR -/
theorem vals1 {x : V} {us : List Value} (r : Vals [x] us) : ∃ u, us = [u] ∧ RelV x u := by
  cases r with
  | cons r1 r2 => cases r2; exact ⟨_, rfl, r1⟩
theorem vals2 {x y : V} {us : List Value} (r : Vals [x, y] us) : ∃ u w', us = [u, w'] ∧ RelV x u ∧ RelV y w' := by
  cases r with
  | cons r1 r2 =>
    cases r2 with
    | cons r3 r4 => cases r4; exact ⟨_, _, rfl, r1, r3⟩
end
end L2

namespace L2
open PySem PySem.Spec PyProof.Rows

/-! ### an instance, its attributes a map -/
section
variable {prog : Program} {w : World} {A : Around} {E : Value → Shared → Prop} {s : Shared} {K : PySem.W.Frag} {x dx C f : Addr} {mA : Str → Option Value} {name : Str} {v : Value}

end

/-! ### the attributes as a list of pairs -/
section
variable {P : Program} {w : World} {H H' : Hp} {h h' : Heap} {a C dx : Addr} {fs fs' : List (Str × V)}
end

/-! ### what of the text a class must have -/
section
variable {X : Cx} {pins : List (Addr × Obj)} {σ : St} {H : Hp} {s : Shared} {a C dx : Addr} {fs : List (Str × V)} {f : Str} {v : V} {A : Around} {E : Value → Shared → Prop}

end

/-! ### readings and rules -/
section
variable {X : Cx} {o e value : Expr} {f : Str} {pos pos' tpos : Pos} {ta tv : TE}
end

/-! ### isinstance -/
section
variable {X : Cx} {pins : List (Addr × Obj)} {σ : St} {H : Hp} {s : Shared} {A : Around} {E : Value → Shared → Prop} {Q : Value → Shared → Prop} {c : Value} {b : Bool}
end
end L2

namespace L2
open PySem PySem.Spec PyProof.Rows

/-! ### room -/
structure Room (k : Nat) (A : Around) : Prop where
  hd : A.handled = none
  dp : A.depth + 3 * k + 5 < recursionLimit
  un : A.units + 16 * k + 200 < cLine
theorem Room.mono {j k : Nat} {A : Around} (r : Room k A) (h : j ≤ k) : Room j A := ⟨r.hd, by have := r.dp; (first | lia | omega), by have := r.un; (first | lia | omega)⟩
theorem Room.deeper {k : Nat} {A : Around} (r : Room (k + 1) A) (env : Env) : Room k (A.deeper env) :=
  ⟨r.hd, by have := r.dp; show A.depth + 1 + 3 * k + 5 < _; (first | lia | omega), by have := r.un; show A.units + 3 + 16 * k + 200 < _; (first | lia | omega)⟩
theorem Room.depth {k : Nat} {A : Around} (r : Room k A) : A.depth < recursionLimit := by have := r.dp; (first | lia | omega)
/-! ### argument lists and displays -/
def tNil : TA := fun _ H Q => Q [] H
def tCons (ta : TE) (tr : TA) : TA := fun σ H Q => ta σ H fun x H1 => tr σ H1 fun xs H2 => Q (x :: xs) H2
section
variable {X : Cx} {e : Expr} {es : List Expr} {te : TE} {t : TA} {pos : Pos}
theorem pa_nil : PA X [] tNil := fun _ _ _ _ H Q I h => Calls.spliced_nil ⟨[], H, I, .nil, h⟩
theorem pa_cons (ha : PE X e te) (hr : PA X es t) (hs : starEach (e :: es) X.env = (false, eval e X.env) :: starEach es X.env := by rfl) : PA X (e :: es) (tCons te t) := by
  intro pos pins s σ H Q I h
  rw [hs]
  show wpAny _ _ (spliced ((false, eval e X.env) :: backTo pos (starEach es X.env))) _ _ s
  refine Calls.spliced_cons (thn (ha pins s σ H _ I h) fun u s1 ⟨x, H1, I1, r1, q1⟩ => ?_)
  exact thn (hr pos pins s1 σ H1 _ I1 q1) fun us s2 ⟨xs, H2, I2, r2, q2⟩ => ⟨x :: xs, H2, I2, .cons r1 r2, q2⟩

def tLst (t : TA) : TE := fun σ H Q => t σ H fun xs H1 => xs.length ≤ sizeLine ∧ ∀ p, H1 p = none → Q (.ref p) (upd H1 p (.lst xs))
theorem pe_lst (h : PA X es t) : PE X (.List es pos) (tLst t) := by
  intro pins s σ H Q I hq
  refine wpAny_List_spliced (thn (h pos pins s σ H _ I hq) fun us s1 ⟨xs, H1, I1, r, z, q⟩ => ⟨by rw [← r.length]; exact z, ?_⟩)
  have hf : H1 s1.heap.objs.size = none := I1.hok.fresh (Nat.le_refl _)
  refine ⟨.ref s1.heap.objs.size, upd H1 s1.heap.objs.size (.lst xs), I1.laid (t' := s1.toks) (fun b u e => Heap.get?_push_of_some _ e) (Nat.le_refl _) ?_, rfl, q _ hf⟩
  exact ⟨z, us, 0, r, Heap.get?_push_size _ rfl⟩
end

/-! ### what a def promises -/
/-- a def's promise: the bound arguments in the parameters' order, the heap, the wanted end, the wanted exception -/
abbrev Sp := List V → Hp → VK → XK → Prop
/-- how an exception lies behind a call (file 08 gives it): the callers' frames, abstract heap and state ahead of the call, the wish, the exception, the state -/
abbrev CXT := List Env → Hp → Shared → XK → Value → Shared → Prop

/-- the state at a call -/
structure Env0 (P : Program) (w : World) (K : PySem.W.Frag) (mg : Str → Option Value) (base : Heap) (A : Around) (outer : List Env) (s : Shared) (H : Hp) : Prop where
  frames : A.frames = some outer
  mod : Mod K mg base
  bs : ∀ b o, base.get? b = some o → s.heap.get? b = some o ∧ H b = none
  bsz : base.objs.size ≤ s.heap.objs.size
  funs : s.heap.FunFrames base outer
  frf : ∀ b ∈ frs outer, H b = none
  hok : HOk P w H s.heap
  bare : AllBare s.gens
/-- a call's end -/
def CE (outer : List Env) (P : Program) (w : World) (H : Hp) (s : Shared) (Q : VK) (u : Value) (s' : Shared) : Prop :=
  ∃ v H', s'.os = s.os ∧ AllBare s'.gens ∧ Un (frs outer) [] H H' s.heap s'.heap ∧ HOk P w H' s'.heap ∧ RelV v u ∧ Q v H'
def CR (CX : CXT) (outer : List Env) (P : Program) (w : World) (H : Hp) (s : Shared) (Q : VK) (E : XK) (r : Result) (s' : Shared) : Prop :=
  match r with
  | .ok (.ret u) => CE outer P w H s Q u s'
  | .ok _ => False
  | .error e => CX outer H s E e s'
structure FnOk (P : Program) (w : World) (K : PySem.W.Frag) (mg : Str → Option Value) (base : Heap) (CX : CXT) (k : Nat) (f : Addr) (fd : FuncData) (ps : List Str) (sp : Sp) : Prop where
  len : ∀ vs H Q E, sp vs H Q E → vs.length = ps.length
  run : ∀ (A : Around) (outer : List Env) (s : Shared) (H : Hp) (args : Args) (us : List Value) (vs : List V) (Q : VK) (E : XK), Room k A → Env0 P w K mg base A outer s H → BindsTo s fd args (ps.zip us) → Vals vs us → sp vs H Q E →
    codeAny (model P w) A (.call (.ref f) args) (CR CX outer P w H s Q E) s
section
variable {X : Cx} {pins : List (Addr × Obj)} {σ : St} {H : Hp} {s s' : Shared}
/-- from a body: what a callee wants -/
theorem Inv.env0 (I : Inv X pins σ H s) : Env0 X.prog X.w X.K X.mg X.base X.A X.stack s H :=
  ⟨I.ok.frames, I.ok.mod, I.bs, Nat.le_trans I.ok.bsz I.sz, I.stack, I.stkFree, I.hok, I.bare⟩
/-- behind a call -/
theorem Inv.after {Q : VK} {u : Value} (I : Inv X pins σ H s) (h : CE X.stack X.prog X.w H s Q u s') : EP X pins σ Q u s' := by
  obtain ⟨v, H', os, bare, un, hok, r, q⟩ := h
  obtain ⟨hh, g, d, t, os'⟩ := s'
  obtain rfl : os' = s.os := os
  exact ⟨v, H', I.call (h' := hh) (g' := g) (d' := d) (t' := t) (ch := []) un hok bare (fun b z => absurd z (by simp)), r, q⟩
end

/-! ### calls -/
/-- f(..): the written arguments, then the defaults dvs; E: what is wanted of an exception -/
def tCall (sp : Sp) (dvs : List V) (E : XK) (t : TA) : TE := fun σ H Q => t σ H fun vs H1 => sp (vs ++ dvs) H1 Q E
/-- how the parameters are bound: us the positional arguments, kw the keywords' values by name, ds the defaults that fill up -/
def Binds (K : PySem.W.Frag) (fd : FuncData) (ps : List Str) (ds : List Value) : Prop :=
  ∀ (s : Shared) (us : List Value), K.In s.heap → (us ++ ds).length = ps.length → BindsTo s fd ⟨us, []⟩ (ps.zip (us ++ ds))
/-- every parameter is given -/
theorem Binds.all {K : PySem.W.Frag} {fd : FuncData} {ps : List Str} (h : ∀ us : List Value, us.length = ps.length → bindArgs fd ⟨us, []⟩ = pure (ps.zip us)) : Binds K fd ps [] := fun s us _ hl => by
  rw [List.append_nil] at hl ⊢
  exact .of_eq (h us hl)

/-- an exception of a callee reaches what this body wants of exceptions -/
def Passes (CX : CXT) (X : Cx) (E : XK) : Prop := ∀ (pins : List (Addr × Obj)) (σ : St) (H : Hp) (s : Shared) (e : Value) (s' : Shared), Inv X pins σ H s → CX X.stack H s E e s' → X.xe e s'

section
variable {X : Cx} {CX : CXT} {k : Nat} {f C : Addr} {fd : FuncData} {ps : List Str} {sp : Sp} {dvs : List V} {ds : List Value} {E : XK} {x m : Str} {p pos apos : Pos} {e o : Expr} {es : List Expr} {ta : TE} {t : TA}

/-- the callee runs -/
theorem run_fn {pins : List (Addr × Obj)} {σ : St} {H : Hp} {s : Shared} {Q : VK} {us : List Value} {vs : List V} (F : FnOk X.prog X.w X.K X.mg X.base CX k f fd ps sp) (hr : Room k X.A) (hb : Binds X.K fd ps ds) (hd : Vals dvs ds) (hx : Passes CX X E)
    (I : Inv X pins σ H s) (r : Vals vs us) (h : sp (vs ++ dvs) H Q E) : wpAny (model X.prog X.w) X.A (call (.ref f) us) (EP X pins σ Q) X.xe s := by
  have r2 : Vals (vs ++ dvs) (us ++ ds) := r.append hd
  have hl : (us ++ ds).length = ps.length := by rw [← r2.length]; exact F.len _ _ _ _ h
  refine wpAny_call (codeAny_mono (F.run X.A X.stack s H ⟨us, []⟩ (us ++ ds) (vs ++ dvs) Q E hr I.env0 (hb s us I.kIn hl) r2 h) fun r s' hq => ?_)
  cases r with
  | error e => exact hx pins σ H s e s' I hq
  | ok fl =>
    cases fl with
    | ret u => exact I.after hq
    | next => exact False.elim hq
    | brk => exact False.elim hq
    | cont => exact False.elim hq

theorem pe_call (F : FnOk X.prog X.w X.K X.mg X.base CX k f fd ps sp) (hr : Room k X.A) (hg : Gl X x) (hm : X.mg x = some (.ref f)) (hk : PySem.W.keepIn X.K (.ref f) = true) (hb : Binds X.K fd ps ds) (hd : Vals dvs ds) (hx : Passes CX X E)
    (ha : PA X (e :: es) t) (hdb : (x == ("__debug__" : Str)) = false := by decide) (he : starEach (e :: es) X.env = (false, eval e X.env) :: starEach es X.env := by rfl) (hpl : (backTo pos (starEach es X.env)).any (·.1) = false := by rfl) :
    PE X (.Call (.Name x p) (e :: es) [] pos) (tCall sp dvs E t) := by
  intro pins s σ H Q I h
  refine wpAny_Call_Name_kw (ld_glob I hg hm ?_ hdb)
  refine PySem.W.callWith_K (h₀ := X.base) I.ok.mod.kin hk (thn (ha pos pins s σ H _ I h) fun us s1 ⟨vs, H1, I1, r, q⟩ => ⟨I1.kIn, ?_⟩) he hpl
  exact run_fn F hr hb hd hx I1 r q
end

/-! ### keywords -/
section
variable {X : Cx} {CX : CXT} {k : Nat} {f C : Addr} {fd : FuncData} {ps ks : List Str} {sp : Sp} {E : XK} {x m : Str} {p pos apos kpos : Pos} {e o : Expr} {es : List Expr} {kws : List Keyword} {te ta : TE} {t tk : TA} {nm : Option Str}
variable {g : List Value → List Value → List Value} {gV : List V → List V → List V}
end

/-! ### a def's body keeps its promise -/
/-- names: the parameters first -/
structure FnScope (N P : List Str) (sc : Scope) : Prop where
  kind : sc.kind = .function
  co : sc.isCoroutine = false
  gen : sc.isGenerator = false
  nd : N.Nodup
  pre : N.take P.length = P
  par : ∀ x ∈ P, sc.names.lookup x = some .local ∨ sc.names.lookup x = some .cell
  nofree : ∀ y ∈ sc.names, y.2 ≠ .free

theorem bindL_out {kindOf : Str → Option NameKind} {x : Str} : ∀ {binds : List (Str × Value)} {m : Str → Option Value}, (∀ v, (x, v) ∉ binds) → bindL kindOf binds m x = m x
  | [], _, _ => rfl
  | (n, v) :: r, m, h => by
    unfold bindL
    rw [bindL_out fun w hw => h w (List.mem_cons_of_mem _ hw)]
    split
    · have : x ≠ n := by rintro rfl; exact h v List.mem_cons_self
      simp [this]
    · rfl
theorem bindC_out {kindOf : Str → Option NameKind} {x : Str} : ∀ {binds : List (Str × Value)} {m : Str → Option Value}, (∀ v, (x, v) ∉ binds) → bindC kindOf binds m x = m x
  | [], _, _ => rfl
  | (n, v) :: r, m, h => by
    unfold bindC
    rw [bindC_out fun w hw => h w (List.mem_cons_of_mem _ hw)]
    split
    · rfl
    · have : x ≠ n := by rintro rfl; exact h v List.mem_cons_self
      simp [this]
theorem bindL_get {kindOf : Str → Option NameKind} {x : Str} {v : Value} : ∀ {P : List Str} {vs : List Value} {i : Nat} {m : Str → Option Value}, P.Nodup → P[i]? = some x → vs[i]? = some v → kindOf x = some .local →
    bindL kindOf (P.zip vs) m x = some v
  | [], _, _, _, _, h, _, _ => by simp at h
  | _ :: _, [], _, _, _, _, h, _ => by simp at h
  | p :: P, w :: vs, 0, m, nd, h1, h2, hk => by
    simp at h1 h2; subst h1; subst h2
    show bindL kindOf ((p, w) :: P.zip vs) m p = _
    unfold bindL
    rw [bindL_out fun v hv => (List.nodup_cons.mp nd).1 (List.of_mem_zip hv).1, if_pos hk]
    simp
  | p :: P, w :: vs, i + 1, m, nd, h1, h2, hk => by
    show bindL kindOf ((p, w) :: P.zip vs) m x = _
    unfold bindL
    exact bindL_get (i := i) (List.nodup_cons.mp nd).2 (by simpa using h1) (by simpa using h2) hk
theorem bindC_get {kindOf : Str → Option NameKind} {x : Str} {v : Value} : ∀ {P : List Str} {vs : List Value} {i : Nat} {m : Str → Option Value}, P.Nodup → P[i]? = some x → vs[i]? = some v → kindOf x ≠ some .local →
    bindC kindOf (P.zip vs) m x = some v
  | [], _, _, _, _, h, _, _ => by simp at h
  | _ :: _, [], _, _, _, _, h, _ => by simp at h
  | p :: P, w :: vs, 0, m, nd, h1, h2, hk => by
    simp at h1 h2; subst h1; subst h2
    show bindC kindOf ((p, w) :: P.zip vs) m p = _
    unfold bindC
    rw [bindC_out fun v hv => (List.nodup_cons.mp nd).1 (List.of_mem_zip hv).1, if_neg hk]
    simp
  | p :: P, w :: vs, i + 1, m, nd, h1, h2, hk => by
    show bindC kindOf ((p, w) :: P.zip vs) m x = _
    unfold bindC
    exact bindC_get (i := i) (List.nodup_cons.mp nd).2 (by simpa using h1) (by simpa using h2) hk

/-- the names' values at the entry -/
def start (N : List Str) (vs : List V) : St := vs.map some ++ List.replicate (N.length - vs.length) none

/-- the context of a def's body, at its entry; an exception leaves the frame, then lies as CX says -/
def cxOf (CX : CXT) (P : Program) (w : World) (K : PySem.W.Frag) (mg : Str → Option Value) (base : Heap) (N : List Str) (qual : Str) (scope : Scope) (f : Addr) (cd : Value) (A : Around) (outer : List Env) (s : Shared) (H : Hp) (E : XK) : Cx where
  prog := P
  w := w
  K := K
  mg := mg
  base := base
  A := A.deeper (envOfC qual scope s.heap.objs.size f cd)
  N := N
  s₀ := s
  H₀ := H
  env := envOfC qual scope s.heap.objs.size f cd
  outer := outer
  stack := envOfC qual scope s.heap.objs.size f cd :: outer
  ex := []
  calm := true
  fn := fun _ => true
  pn := []
  xe := fun e s' => wpAny (model P w) (A.deeper (envOfC qual scope s.heap.objs.size f cd)) (leaving (envOfC qual scope s.heap.objs.size f cd) e) (fun _ s'' => CX outer H s E e s'') (fun e' s'' => CX outer H s E e' s'') s'

theorem cell_has {sc : Scope} {n : Nat} {x : Str} (h : sc.names.lookup x = some .cell) : ∃ c, (cellsFrom n sc.names []).lookup x = some c := by
  have q := PySem.W.cellsFrom_some sc.names n [] (.inl h)
  exact Option.isSome_iff_exists.mp q

theorem inv_start {CX : CXT} {P : Program} {w : World} {K : PySem.W.Frag} {mg : Str → Option Value} {base : Heap} {N ps : List Str} {qual : Str} {scope : Scope} {f : Addr} {cd : Value} {A : Around} {outer : List Env} {s s1 : Shared} {H : Hp} {E : XK} {us : List Value} {vs : List V}
    (S : FnScope N ps scope) (hd : A.handled = none) (e0 : Env0 P w K mg base A outer s H) (hl : vs.length = ps.length) (r : Vals vs us)
    (x : InCallC s s.heap.objs.size (bindL (envOfC qual scope s.heap.objs.size f cd).kindOf (ps.zip us) fun _ => none) (cellsFrom (s.heap.objs.size + 1) scope.names []) (bindC (envOfC qual scope s.heap.objs.size f cd).kindOf (ps.zip us) fun _ => none) s1) :
    Inv (cxOf CX P w K mg base N qual scope f cd A outer s H E) [] (start N vs) H s1 := by
  have hpl : ps.length ≤ N.length := by have := congrArg List.length S.pre; rw [List.length_take] at this; (first | lia | omega)
  obtain ⟨h1, tk, rfl, hk⟩ := x.done
  have noA : ∀ b : Addr, b ∉ (cxOf CX P w K mg base N qual scope f cd A outer s H E).ex := fun b z => absurd (show b ∈ ([] : List Addr) from z) (by simp)
  refine ⟨⟨e0.mod, S.kind, rfl, rfl, Nat.le_refl _, fun y z c h1 h2 => ?_, fun y hy => ?_, fun y c _ h => ?_, fun _ => hd, Around.frames_deeper e0.frames, .inr ⟨rfl, rfl⟩, fun b z => absurd z (noA b), e0.bs, e0.bsz, fun b _ _ => noA b, fun b z => absurd z (noA b), e0.funs, e0.frf⟩,
    rfl, e0.bare, Un.kept hk, ⟨_, x.toInCall.ns, fun i y v h1 h2 h3 => ?_⟩, fun y c h => ⟨_, x.cell y c h⟩, e0.hok.fresh (Nat.le_refl _), fun y c h => ?_, fun p hp => absurd (show p ∈ ([] : List (Addr × Obj)) from hp) (by simp), e0.hok.kept hk, ?_⟩
  · exact name_of_addr x.apart (PySem.mem_of_lookup h1) (PySem.mem_of_lookup h2)
  · have hy : scope.names.lookup y = some .cell ∨ scope.names.lookup y = some .free := hy
    rcases hy with hy | hy
    · exact cell_has hy
    · exact absurd rfl (S.nofree _ (PySem.mem_of_lookup hy))
  · exact Nat.le_of_lt (x.above y c (PySem.mem_of_lookup h))
  · have hi : i < vs.length := by
      unfold start at h2
      by_cases hi : i < vs.length
      · exact hi
      · rw [List.getElem?_append_right (by simpa using hi)] at h2
        rw [List.getElem?_replicate] at h2
        split at h2 <;> cases h2
    have ha : vs[i]? = some v := by
      unfold start at h2
      rw [List.getElem?_append_left (by simpa using hi), List.getElem?_map] at h2
      cases e : vs[i]? with
      | none => rw [e] at h2; cases h2
      | some a => rw [e] at h2; cases h2; rfl
    obtain ⟨u, hu, rv⟩ := r.get ha
    have hp : ps[i]? = some y := by
      rw [← S.pre, List.getElem?_take_of_lt (by (first | lia | omega))]; exact h1
    have ndP : ps.Nodup := by rw [← S.pre]; exact S.nd.sublist (List.take_sublist _ _)
    refine ⟨u, rv, ?_⟩
    rcases S.par y (List.mem_of_getElem? hp) with k | k
    · exact .inl ⟨k, bindL_get ndP hp hu k⟩
    · obtain ⟨c, e⟩ := cell_has (n := s.heap.objs.size + 1) k
      refine .inr ⟨.inl k, c, e, ?_⟩
      have q := x.cell y c e
      rw [bindC_get ndP hp hu (by show scope.names.lookup y ≠ _; rw [k]; decide)] at q
      exact q
  · exact e0.hok.fresh (Nat.le_of_lt (x.above y c (PySem.mem_of_lookup h)))
  · unfold start
    show _ = N.length
    rw [List.length_append, List.length_map, List.length_replicate]
    (first | lia | omega)

/-- THE RULE: a def (or a method) of the text, by its body. The body's reading t is chosen for each entry; it is run at the parameters' values -/
theorem fn_of {CX : CXT} {P : Program} {w : World} {K : PySem.W.Frag} {mg : Str → Option Value} {base : Heap} {k : Nat} {f : Addr} {name qual : Str} {params : Arguments} {body : List Stmt} {scope : Scope} {dV kV doc pm cdv ct oc : Value} {an od : Option Addr}
    {osl : Array (Option Value)} {N ps : List Str} {sp : Sp} (lk : K.lookup f = some ⟨oc, od, .func (PySem.W.fnOf name qual params body scope dV kV doc pm an cdv ct), osl⟩) (hcd : PySem.W.codeIn K cdv qual = true) (S : FnScope N ps scope)
    (len : ∀ vs H Q E, sp vs H Q E → vs.length = ps.length)
    (hbody : ∀ (A : Around) (outer : List Env) (s : Shared) (H : Hp) (vs : List V) (Q : VK) (E : XK), Room k (A.deeper (envOfC qual scope s.heap.objs.size f cdv)) → sp vs H Q E →
      ∃ t, PSs (cxOf CX P w K mg base N qual scope f cdv A outer s H E) body t ∧ t { nx := fun _ H' => Q .non H', rt := Q } (start N vs) H) :
    FnOk P w K mg base CX (k + 1) f (PySem.W.fnOf name qual params body scope dV kV doc pm an cdv ct) ps sp := by
  refine ⟨len, fun A outer s H args us vs Q E hr e0 hb r hsp => ?_⟩
  have hl := len _ _ _ _ hsp
  have KX : K.In s.heap := e0.mod.kin.keeps fun b o e => (e0.bs b o e).1
  have lim : s.heap.NoLimit := e0.mod.nolimit.keeps fun b o e => (e0.bs b o e).1
  have hkind : ∀ y ∈ ps.zip us, scope.names.lookup y.1 = some .local ∨ (scope.names.lookup y.1 = some .cell ∧ ((cellsFrom (s.heap.objs.size + 1) scope.names []).lookup y.1).isSome = true) := fun ⟨n, v⟩ hy => by
    rcases S.par n (List.of_mem_zip hy).1 with q | q
    · exact .inl q
    · exact .inr ⟨q, PySem.W.cellsFrom_some _ _ _ (.inl q)⟩
  refine codeAny_call_function hr.depth (KX _ _ lk) rfl S.co S.gen rfl (PySem.W.codeRec_of KX hcd) (hb _ _ _ _ ?_)
  refine wpAny_newFunctionEnv_cells S.kind hkind fun env he s1 x => ?_
  subst he
  refine ⟨lim.keeps x.toInCall.keep, codeAny_func ?_⟩
  obtain ⟨t, ht, hq⟩ := hbody A outer s H vs Q E (hr.deeper _) hsp
  have I : Inv (cxOf CX P w K mg base N qual scope f cdv A outer s H E) [] (start N vs) H s1 := inv_start S hr.hd e0 hl r x
  refine wpAny_mono (ht [] s1 (start N vs) H _ I hq) (fun fl s' hs => ?_) fun e s' hs => hs
  have fin : ∀ {σ' : St} {H' : Hp} {v : V} {u : Value}, Inv (cxOf CX P w K mg base N qual scope f cdv A outer s H E) [] σ' H' s' → RelV v u → Q v H' → CE outer P w H s Q u s' :=
    fun {σ' H' v u} J rv q => ⟨v, H', J.os, J.bare, J.base, J.hok, rv, q⟩
  cases fl with
  | ret u =>
    obtain ⟨v, σ', H', J, rv, q⟩ := hs
    exact fin J rv q
  | next =>
    obtain ⟨σ', H', J, q⟩ := hs
    exact fin (v := V.non) (u := Value.none) J rfl q
  | brk =>
    obtain ⟨_, _, _, q⟩ := hs
    exact False.elim q
  | cont =>
    obtain ⟨_, _, _, q⟩ := hs
    exact False.elim q
end L2

namespace L2
open PySem PySem.Spec PyProof.Rows
section
variable {X : Cx} {x : Str} {p pos : Pos} {e : Expr} {es : List Expr} {t : TA} {id T : String} {r : List V → Hp → VK → Prop}

def tCB (r : List V → Hp → VK → Prop) (t : TA) : TE := fun σ H Q => t σ H fun vs H1 => r vs H1 Q
/-- f(e, ..), f a built-in function -/
theorem pe_callB (hc : CallR X (.builtin id) r) (hg : Gl X x) (hm : X.mg x = none) (hv : bootBuiltins x = some (.builtin id)) (ha : PA X (e :: es) t) (hn : x ≠ "__name__" := by decide) (hdb : (x == ("__debug__" : Str)) = false := by decide)
    (he : starEach (e :: es) X.env = (false, eval e X.env) :: starEach es X.env := by rfl) (hpl : (backTo pos (starEach es X.env)).any (·.1) = false := by rfl) : PE X (.Call (.Name x p) (e :: es) [] pos) (tCB r t) := by
  intro pins s σ H Q I h
  refine wpAny_Call_Name_kw (ld_blt I hg hm hv ?_ hn hdb)
  exact PyProof.Rows.callWith_builtin1 (thn (ha pos pins s σ H _ I h) fun us s1 ⟨vs, H1, I1, r1, q1⟩ => hc pins s1 σ H1 vs us Q I1 r1 q1) he hpl
/-- T(e, ..), T a built-in type -/
theorem pe_callTy (hc : CallR X (.type T) r) (hg : Gl X x) (hm : X.mg x = none) (hv : bootBuiltins x = some (.type T)) (ha : PA X (e :: es) t) (hn : x ≠ "__name__" := by decide) (hdb : (x == ("__debug__" : Str)) = false := by decide)
    (he : starEach (e :: es) X.env = (false, eval e X.env) :: starEach es X.env := by rfl) (hpl : (backTo pos (starEach es X.env)).any (·.1) = false := by rfl) : PE X (.Call (.Name x p) (e :: es) [] pos) (tCB r t) := by
  intro pins s σ H Q I h
  refine wpAny_Call_Name_kw (ld_blt I hg hm hv ?_ hn hdb)
  exact PyProof.Rows.callWith_type1 (thn (ha pos pins s σ H _ I h) fun us s1 ⟨vs, H1, I1, r1, q1⟩ => hc pins s1 σ H1 vs us Q I1 r1 q1) he hpl
end
end L2

namespace HT
open PySem PyProof.Rows

section
open PySem.SeqAt
open PySem.AutoSeq1 (wpAny_loadPart')
open PySem.MeetsSeq PySem.MeetsSeq2 PySem.MeetsSeq3

end

section
variable {prog : Program} {w : World} {A : Around} {E : Value → Shared → Prop} {s : Shared}

/-! ### t[a:b], not the whole -/
/-- a slice's bound as a place among n (d where it is left out) -/
def sIx (n d : Nat) : Option Int → Nat
  | none => d
  | some v => if v < 0 then (v + (n : Int)).toNat else min v.toNat n
theorem sIx_none (n d : Nat) : sIx n d none = d := rfl
theorem sIx_nat (n d k : Nat) : sIx n d (some (k : Int)) = min k n := by
  show (if (k : Int) < 0 then ((k : Int) + (n : Int)).toNat else min (k : Int).toNat n) = min k n
  rw [if_neg (by (first | lia | omega)), Int.toNat_natCast]
theorem sIx_le (n d : Nat) (hd : d ≤ n) (o : Option Int) : sIx n d o ≤ n := by
  cases o with
  | none => exact hd
  | some v =>
    show (if v < 0 then (v + (n : Int)).toNat else min v.toNat n) ≤ n
    by_cases hv : v < 0
    · rw [if_pos hv]; (first | lia | omega)
    · rw [if_neg hv]; exact Nat.min_le_right _ _
end
end HT

namespace L2
open PySem PySem.Spec PyProof.Rows

/-! ### the parts of a slice -/
abbrev TO := St → Hp → (Option Int → Hp → Prop) → Prop
/-- a slice's part (left out, or an int) -/
def PO (X : Cx) (e : Option Expr) (t : TO) : Prop :=
  ∀ (pins : List (Addr × Obj)) (s : Shared) (σ : St) (H : Hp) (Q : Option Int → Hp → Prop), Inv X pins σ H s → t σ H Q →
    wpAny (model X.prog X.w) X.A (evalPart e X.env) (fun u s' => ∃ o H', Inv X pins σ H' s' ∧ IsPart u o ∧ Q o H') X.xe s
def tNoPart : TO := fun _ H Q => Q none H
def tPart (t : TE) : TO := fun σ H Q => t σ H fun x H1 => ∃ i, x = .int i ∧ Q (some i) H1

theorem intsAre_of {ns : List Int} : ∀ {us : List Value}, Vals (ns.map V.int) us → IntsAre us ns := by
  induction ns with
  | nil => intro us r; rw [List.map_nil] at r; cases r; exact .nil
  | cons n ns ih =>
    intro us r
    rw [List.map_cons] at r
    cases r with
    | cons r1 r2 =>
      obtain ⟨t, e⟩ := r1
      subst e
      exact .cons n t (ih r2)

section
variable {X : Cx} {e : Expr} {te : TE} {lo hi : Option Expr} {tl th : TO} {pos p2 : Pos}

theorem po_none : PO X none tNoPart := by
  intro pins s σ H Q I h
  rw [evalPart_none]
  exact wpAny_pure ⟨none, H, I, .none, h⟩
theorem po_some (h : PE X e te) : PO X (some e) (tPart te) := by
  intro pins s σ H Q I hw
  rw [evalPart_some]
  refine thn (h pins s σ H _ I hw) fun u s1 ⟨x, H1, I1, r1, q1⟩ => ?_
  obtain ⟨i, rfl, q⟩ := q1
  obtain ⟨t, rfl⟩ := r1
  exact ⟨some i, H1, I1, .int i t, q⟩

/-- what a slice of a value is, by values: the slice object stands at sl -/
def SlR (X : Cx) (r : V → Option Int → Option Int → Hp → VK → Prop) : Prop :=
  ∀ (pins : List (Addr × Obj)) (s : Shared) (σ : St) (H : Hp) (x : V) (v vl vu : Value) (lo hi : Option Int) (sl : Addr) (Q : VK), Inv X pins σ H s → RelV x v → s.heap.IsSliceOf sl vl vu .none → IsPart vl lo → IsPart vu hi → r x lo hi H Q →
    ∃ T id, typeLookup (.type T) "__getitem__" = pure (some (.builtin id)) ∧ s.TypeIs v T ∧ wpAny (model X.prog X.w) X.A (getItem v (.ref sl)) (EP X pins σ Q) X.xe s
def tSl (r : V → Option Int → Option Int → Hp → VK → Prop) (te : TE) (tl th : TO) : TE := fun σ H Q => te σ H fun x H1 => tl σ H1 fun l H2 => th σ H2 fun u H3 => r x l u H3 Q
/-- a[lo:hi], any a -/
theorem pe_slice {r : V → Option Int → Option Int → Hp → VK → Prop} (hr : SlR X r) (he : PE X e te) (hl : PO X lo tl) (hu : PO X hi th) : PE X (.Subscript e (.Slice lo hi none p2) pos) (tSl r te tl th) := by
  intro pins s σ H Q I h
  refine Subscript_ (thn (he pins s σ H _ I h) fun v s1 ⟨x, H1, I1, r1, q1⟩ => ?_)
  refine wpAny_Slice (thn (hl pins s1 σ H1 _ I1 q1) fun vl s2 ⟨l, H2, I2, pl, q2⟩ => thn (hu pins s2 σ H2 _ I2 q2) fun vu s3 ⟨u, H3, I3, pu, q3⟩ => ?_)
  rw [evalPart_none]
  refine wpAny_pure ?_
  have I4 : Inv X pins σ H3 { s3 with heap := s3.heap.push { cls := .type "slice", data := .fields #[vl, vu, .none] } } := I3.kept (t' := s3.toks) fun b ob q => Heap.get?_push_of_some _ q
  obtain ⟨T, id, hT, ht, hg⟩ := hr pins { s3 with heap := s3.heap.push { cls := .type "slice", data := .fields #[vl, vu, .none] } } σ H3 x v vl vu l u s3.heap.objs.size Q I4 r1 (Heap.IsSliceOf.new ..) pl pu q3
  show wpAny (model X.prog X.w) X.A (subscriptTail e (.Slice lo hi none p2) v (.ref s3.heap.objs.size)) (EP X pins σ Q) X.xe { s3 with heap := s3.heap.push { cls := .type "slice", data := .fields #[vl, vu, .none] } }
  exact tail_any (ops := [.ref s3.heap.objs.size, v]) ht hT hg (by with_unfolding_all rfl)

/-- the items of xs[lo:hi] -/
def cutV (xs : List V) (lo hi : Option Int) : List V := (xs.drop (HT.sIx xs.length 0 lo)).take (HT.sIx xs.length xs.length hi - HT.sIx xs.length 0 lo)
theorem cutV_length (xs : List V) (lo hi : Option Int) : (cutV xs lo hi).length ≤ xs.length := by
  unfold cutV
  rw [List.length_take, List.length_drop]
  (first | lia | omega)
/-! ### t < u, t + u -/
end
end L2

namespace L2
open PySem PySem.Spec PyProof.Rows

/-! ### places -/
/-- the place that an index of any sign means -/
def ixN (n : Nat) (i : Int) : Option Nat := if 0 ≤ i then (if i < n then some i.toNat else none) else if -(n : Int) ≤ i then some (i + n).toNat else none
def atI {α : Type} (xs : List α) (i : Int) : Option α := (ixN xs.length i).bind fun j => xs[j]?
theorem ixN_seq {n : Nat} {i : Int} {j : Nat} (h : ixN n i = some j) : seqIndex? i n = some j ∧ j < n ∧ -(n : Int) ≤ i ∧ i < n := by
  unfold ixN at h
  by_cases h0 : 0 ≤ i
  · rw [if_pos h0] at h
    by_cases h1 : i < n
    · rw [if_pos h1] at h
      have e : i.toNat = j := Option.some.inj h
      exact ⟨by rw [seqIndex_of h0 h1, e], by (first | lia | omega), by (first | lia | omega), h1⟩
    · rw [if_neg h1] at h; cases h
  · rw [if_neg h0] at h
    by_cases h1 : -(n : Int) ≤ i
    · rw [if_pos h1] at h
      have e : (i + n).toNat = j := Option.some.inj h
      exact ⟨by rw [seqIndex_neg (by (first | lia | omega)) h1, e], by (first | lia | omega), h1, by (first | lia | omega)⟩
    · rw [if_neg h1] at h; cases h
theorem atI_get {α : Type} {xs : List α} {i : Int} {v : α} (h : atI xs i = some v) : ∃ j, seqIndex? i xs.length = some j ∧ xs[j]? = some v ∧ j < xs.length ∧ -(xs.length : Int) ≤ i ∧ i < xs.length := by
  unfold atI at h
  cases e : ixN xs.length i with
  | none => rw [e] at h; cases h
  | some j =>
    rw [e] at h
    obtain ⟨h1, h2, h3, h4⟩ := ixN_seq e
    exact ⟨j, h1, h, h2, h3, h4⟩
theorem atI_nat {α : Type} {xs : List α} {j : Nat} {v : α} (h : xs[j]? = some v) : atI xs (j : Int) = some v := by
  have hj : j < xs.length := (List.getElem?_eq_some_iff.mp h).1
  have e : ixN xs.length (j : Int) = some j := by
    unfold ixN
    rw [if_pos (by (first | lia | omega)), if_pos (by (first | lia | omega))]; simp
  unfold atI; rw [e]; exact h
/-! ### what may be subscripted -/
/-- what stands as an index of a plain subscript -/
def PlainIx (b : Expr) : Prop := ∀ o i, subscripted b false o i = operate [o, i] (getItem o i)
/-- a subscript by values -/
def IxR (X : Cx) (r : R2) : Prop :=
  ∀ (value slice : Expr) (pins : List (Addr × Obj)) (s : Shared) (σ : St) (H : Hp) (x y : V) (v u : Value) (Q : VK), Inv X pins σ H s → RelV x v → RelV y u → r x y H Q →
    subscripted slice false v u = operate [v, u] (getItem v u) → wpAny (model X.prog X.w) X.A (subscriptTail value slice v u) (EP X pins σ Q) X.xe s
/-- a call of a builtin's method by values: the receiver, the arguments -/
def MtR (X : Cx) (id : String) (r : V → List V → Hp → VK → Prop) : Prop :=
  ∀ (pins : List (Addr × Obj)) (s : Shared) (σ : St) (H : Hp) (x : V) (xs : List V) (v : Value) (us : List Value) (Q : VK), Inv X pins σ H s → RelV x v → Vals xs us → r x xs H Q →
    wpAny (model X.prog X.w) X.A (call (.builtin id) (v :: us)) (EP X pins σ Q) X.xe s
section
variable {X : Cx} {a b : Expr} {ta tb : TE} {pos : Pos}
/-- a[b] -/
theorem pe_ix {r : R2} (hr : IxR X r) (ha : PE X a ta) (hb : PE X b tb) (hs : PlainIx b) : PE X (.Subscript a b pos) (tOp r ta tb) := by
  intro pins s σ H Q I h
  exact Subscript_ (binT ha hb I h fun v u s2 x y H2 I2 rx ry q => hr a b pins s2 σ H2 x y v u Q I2 rx ry q (hs _ _))

def rIxL (K : PySem.W.Frag) : R2 := fun x y H Q => ∃ p xs i v, x = .ref p ∧ y = .int i ∧ SqL K H p xs ∧ atI xs i = some v ∧ Q v H
def rIxS : R2 := fun x y H Q => ∃ z i c, x = .str z ∧ y = .int i ∧ z.length ≤ sizeLine ∧ atI z.cps.toList i = some c ∧ Q (.str ⟨#[c]⟩) H
theorem ix_list : IxR X (rIxL X.K) := by
  intro value slice pins s σ H x y v u Q I rx ry h hs
  obtain ⟨p, xs, i, z, rfl, rfl, hq, he, q⟩ := h
  cases rx
  obtain ⟨t, rfl⟩ := ry
  obtain ⟨its, r, pl, hz⟩ := I.list hq
  obtain ⟨j, h1, h2, h3, h4, h5⟩ := atI_get he
  obtain ⟨w, ew, rw'⟩ := r.get h2
  have hl := r.length
  have hn := line63
  have fin : EP X pins σ Q w s := ⟨z, H, I, rw', q⟩
  by_cases h0 : 0 ≤ i
  · have hj : i.toNat = j := by
      rw [seqIndex_of h0 h5] at h1
      exact Option.some.inj h1
    exact item_listR pl.isList h0 (by (first | lia | omega)) (by rw [hj]; simpa using ew) fin hs
  · have hj : (i + (its.toArray.size : Int)).toNat = j := by
      rw [seqIndex_neg (by (first | lia | omega)) h4] at h1
      rw [List.size_toArray, ← hl]
      exact Option.some.inj h1
    exact subscriptTail_builtinR (x := w) pl.isList.typeIs slot_list_getitem.lookup
      (wpAny_getItem_list_neg (Q := fun r s' => r = w ∧ EP X pins σ Q r s') pl.isList (by (first | lia | omega)) (by rw [List.size_toArray] <;> (first | lia | omega)) (by (first | lia | omega)) (by rw [hj]; simpa using ew) ⟨rfl, fin⟩) hs
theorem ix_str : IxR X rIxS := by
  intro value slice pins s σ H x y v u Q I rx ry h hs
  obtain ⟨z, i, c, rfl, rfl, hz, he, q⟩ := h
  obtain ⟨t, rfl⟩ := rx
  obtain ⟨t', rfl⟩ := ry
  obtain ⟨j, h1, h2, h3, h4, h5⟩ := atI_get he
  have hl : z.cps.toList.length = z.length := by simp [Str.length]
  rw [hl] at h1 h4 h5
  have hn := line63
  exact tail_any (typeIs_str s z t) slot_str_getitem.lookup (getItem_str (c := c) (by
    have e1 : decide (i < -(2 ^ 63 : Int)) = false := decide_eq_false (by (first | lia | omega))
    have e2 : decide (i ≥ 2 ^ 63) = false := decide_eq_false (by (first | lia | omega))
    rw [e1, e2, Bool.or_false]) (by rw [h1]; simpa using h2) ⟨.str ⟨#[c]⟩, H, I.tok _, ⟨_, rfl⟩, q⟩) hs
/-! ### xs[i] = v, any sign -/
/-! ### slices -/
theorem slice_bounds (lo hi : Option Int) (n : Nat) : (sliceBounds lo hi none n).1 = ((HT.sIx n 0 lo : Nat) : Int) ∧ (sliceBounds lo hi none n).2.1 = ((HT.sIx n n hi : Nat) : Int) ∧ (sliceBounds lo hi none n).2.2 = 1 := by
  refine ⟨?_, ?_, rfl⟩
  · cases lo with
    | none => simp [sliceBounds, HT.sIx]
    | some i =>
      simp only [sliceBounds, HT.sIx, Option.getD_none, show (1 : Int) > 0 by decide, if_true]
      by_cases h : i < 0
      · simp only [h, if_true] <;> (first | lia | omega)
      · simp only [h, if_false] <;> (first | lia | omega)
  · cases hi with
    | none => simp [sliceBounds, HT.sIx]
    | some i =>
      simp only [sliceBounds, HT.sIx, Option.getD_none, show (1 : Int) > 0 by decide, if_true]
      by_cases h : i < 0
      · simp only [h, if_true] <;> (first | lia | omega)
      · simp only [h, if_false] <;> (first | lia | omega)
theorem slicePick_cut (its : List Value) (lo hi : Option Int) : slicePick its.toArray lo hi none = ((its.drop (HT.sIx its.length 0 lo)).take (HT.sIx its.length its.length hi - HT.sIx its.length 0 lo)).toArray := by
  obtain ⟨h1, h2, h3⟩ := slice_bounds lo hi its.toArray.size
  unfold slicePick
  rw [h1, h2, h3]
  simp only [sliceRange_one, pick_run, List.size_toArray] <;> rfl
/-- xs[lo:hi] of a list: a new list -/
def rSlL (K : PySem.W.Frag) : V → Option Int → Option Int → Hp → VK → Prop := fun x lo hi H Q => ∃ a xs, x = .ref a ∧ SqL K H a xs ∧ ∀ p, H p = none → Q (.ref p) (upd H p (.lst (cutV xs lo hi)))
theorem sl_list : SlR X (rSlL X.K) := by
  intro pins s σ H x v vl vu lo hi sl Q I rx hs pl pu h
  obtain ⟨a, xs, rfl, hx, q⟩ := h
  cases rx
  obtain ⟨its, r, ht, hz⟩ := I.list hx
  have hlen := r.length
  refine ⟨"list", _, slot_list_getitem.lookup, ht.isList.typeIs, ?_⟩
  refine wpAny_getItem_list_slice ht.isList hs pl pu .none (by simp) ?_ (by rw [List.size_toArray] <;> (first | lia | omega))
  rw [slicePick_cut, ← hlen]
  refine ⟨.ref s.heap.objs.size, _, I.laid (t' := s.toks) (o := .lst (cutV xs lo hi)) (fun b ob q => Heap.get?_push_of_some _ q) (Nat.le_refl _) ?_, rfl, q _ (I.hok.fresh (Nat.le_refl _))⟩
  exact ⟨Nat.le_trans (cutV_length xs lo hi) hz, _, 0, (r.drop (HT.sIx xs.length 0 lo)).take (HT.sIx xs.length xs.length hi - HT.sIx xs.length 0 lo), Heap.get?_push_size _ rfl⟩

/-! ### in, not in: flat items -/
def flatV : V → Bool
  | .non => true
  | .bl _ => true
  | .int _ => true
  | .str _ => true
  | _ => false
/-- == of flat values -/
def eqV : V → V → Bool
  | .non, .non => true
  | .bl a, .bl b => a == b
  | .bl a, .int b => (if a then 1 else 0) == b
  | .int a, .bl b => a == (if b then 1 else 0)
  | .int a, .int b => a == b
  | .str a, .str b => a == b
  | _, _ => false
theorem eqAt_V {A : Around} {s : Shared} {y x : V} {u v : Value} (ry : RelV y u) (rx : RelV x v) (fy : flatV y = true) (fx : flatV x = true) : SeqAt.EqAt A s u v (eqV y x) := by
  cases y with
  | non =>
    cases ry
    cases x with
    | non => cases rx; exact SeqAt.EqAt.same _
    | bl b => cases rx; exact SeqAt.EqAt.none_bool b
    | int b => obtain ⟨t, rfl⟩ := rx; exact SeqAt.EqAt.none_int b t
    | str b => obtain ⟨t, rfl⟩ := rx; exact SeqAt.EqAt.none_str b t
    | _ => exact absurd (show false = true from fx) Bool.false_ne_true
  | bl a =>
    cases ry
    cases x with
    | non => cases rx; exact SeqAt.EqAt.bool_none a
    | bl b => cases rx; exact SeqAt.EqAt.bool_bool a b
    | int b => obtain ⟨t, rfl⟩ := rx; exact SeqAt.EqAt.bool_int a b t
    | str b => obtain ⟨t, rfl⟩ := rx; exact SeqAt.EqAt.bool_str a b t
    | _ => exact absurd (show false = true from fx) Bool.false_ne_true
  | int a =>
    obtain ⟨t', rfl⟩ := ry
    cases x with
    | non => cases rx; exact SeqAt.EqAt.int_none a t'
    | bl b => cases rx; exact SeqAt.EqAt.int_bool a t' b
    | int b => obtain ⟨t, rfl⟩ := rx; exact SeqAt.EqAt.int_int a t' b t
    | str b => obtain ⟨t, rfl⟩ := rx; exact SeqAt.EqAt.int_str a t' b t
    | _ => exact absurd (show false = true from fx) Bool.false_ne_true
  | str a =>
    obtain ⟨t', rfl⟩ := ry
    cases x with
    | non => cases rx; exact SeqAt.EqAt.str_none a t'
    | bl b => cases rx; exact SeqAt.EqAt.str_bool a t' b
    | int b => obtain ⟨t, rfl⟩ := rx; exact SeqAt.EqAt.str_int a t' b t
    | str b => obtain ⟨t, rfl⟩ := rx; exact SeqAt.EqAt.str_str a t' b t
    | _ => exact absurd (show false = true from fx) Bool.false_ne_true
  | _ => exact absurd (show false = true from fy) Bool.false_ne_true
/-- the items' answers, read off the values (a value's own answer does not lean on its token) -/
def eqU (x : V) (u : Value) : Bool := match u with
  | .none => eqV .non x
  | .bool b => eqV (.bl b) x
  | .int i _ => eqV (.int i) x
  | .str z _ => eqV (.str z) x
  | _ => false
theorem eqU_of {x y : V} {u : Value} (r : RelV y u) (f : flatV y = true) : eqU x u = eqV y x := by
  cases y with
  | non => cases r; rfl
  | bl b => cases r; rfl
  | int i => obtain ⟨t, rfl⟩ := r; rfl
  | str z => obtain ⟨t, rfl⟩ := r; rfl
  | _ => exact absurd (show false = true from f) Bool.false_ne_true
theorem mem_eqAt {A : Around} {s : Shared} {x : V} {v : Value} (rx : RelV x v) (fx : flatV x = true) : ∀ {xs : List V} {us : List Value}, Vals xs us → xs.all flatV = true → ∀ u ∈ us, SeqAt.EqAt A s u v (eqU x u)
  | _, _, .nil, _ => fun u hu => by cases hu
  | y :: xs, u :: us, .cons r t, f => fun u' hu => by
    rw [List.all_cons, Bool.and_eq_true] at f
    rcases List.mem_cons.mp hu with rfl | hu
    · rw [eqU_of r f.1]; exact eqAt_V r rx f.1 fx
    · exact mem_eqAt rx fx t f.2 u' hu
/-! ### len, list(x), tuple(x) of any list or tuple that is read -/
theorem call_len_seq : CallR X (.builtin "len") (fun xs H Q => ∃ p ys, xs = [.ref p] ∧ (SqL X.K H p ys ∨ SqT X.K H p ys) ∧ Q (.int ys.length) H) := by
  intro pins s σ H xs us Q I r h
  obtain ⟨p, ys, rfl, hq, q⟩ := h
  obtain ⟨u, rfl, rx⟩ := vals1 r
  cases rx
  have hn := line63
  rcases hq with hq | hq
  · obtain ⟨its, r', pl, hz⟩ := I.list hq
    have hlen := r'.length
    exact Calls.call_len_list pl.isList (by simp only [List.size_toArray] <;> (first | lia | omega)) ⟨.int ys.length, H, I.tok _, ⟨s.toks + 1, by rw [List.size_toArray, hlen]⟩, q⟩
  · obtain ⟨its, r', pl, hz⟩ := I.tuple hq
    have hlen := r'.length
    exact len_tuple pl (by simp only [List.size_toArray] <;> (first | lia | omega)) ⟨.int ys.length, H, I.tok _, ⟨s.toks + 1, by rw [List.size_toArray, hlen]⟩, q⟩
theorem call_len_str : CallR X (.builtin "len") (fun xs H Q => ∃ z, xs = [.str z] ∧ z.length ≤ sizeLine ∧ Q (.int z.length) H) := by
  intro pins s σ H xs us Q I r h
  obtain ⟨z, rfl, hz, q⟩ := h
  obtain ⟨u, rfl, t, rfl⟩ := vals1 r
  have hn := line63
  exact len_str (by (first | lia | omega)) ⟨.int z.length, H, I.tok _, ⟨_, rfl⟩, q⟩
theorem call_list_of : CallR X (.type "list") (fun xs H Q => ∃ p ys, xs = [.ref p] ∧ (SqL X.K H p ys ∨ SqT X.K H p ys) ∧ ∀ l, H l = none → Q (.ref l) (upd H l (.lst ys))) := by
  intro pins s σ H xs us Q I r h
  obtain ⟨p, ys, rfl, hq, q⟩ := h
  obtain ⟨u, rfl, rx⟩ := vals1 r
  cases rx
  have fin : ∀ (its : List Value), Vals ys its → ys.length ≤ sizeLine → ∀ (h' : Heap) (c' : Nat), (∀ b o', s.heap.get? b = some o' → h'.get? b = some o') →
      h'.get? s.heap.objs.size = some { cls := .type "list", dict := none, data := .seq its.toArray c', slots := #[] } → EP X pins σ Q (.ref s.heap.objs.size) { s with heap := h' } := fun its r' hz h' c' kp e =>
    ⟨.ref s.heap.objs.size, _, I.laid (t' := s.toks) kp (Nat.le_refl _) (show ObjOk X.prog X.w _ h' _ (.lst ys) from ⟨hz, its, c', r', e⟩), rfl, q _ (I.hok.fresh (Nat.le_refl _))⟩
  rcases hq with hq | hq
  · obtain ⟨its, r', pl, hz⟩ := I.list hq
    have hlen := r'.length
    obtain ⟨o, ho, hc, n, hd⟩ := pl.isList
    exact call_list_seq p (.inl rfl) ho hc hd (fun h' c' kp e => fin its r' hz h' c' kp e) (by simp only [List.size_toArray] <;> (first | lia | omega))
  · obtain ⟨its, r', pl, hz⟩ := I.tuple hq
    have hlen := r'.length
    obtain ⟨o, ho, hc, n, hd⟩ := pl
    exact call_list_seq p (.inr rfl) ho hc hd (fun h' c' kp e => fin its r' hz h' c' kp e) (by simp only [List.size_toArray] <;> (first | lia | omega))
/-! ### the call of a builtin's method: o.m(..) -/
/-- the value is of that builtin type -/
def tyV (K : PySem.W.Frag) (T : String) (x : V) (H : Hp) : Prop := match x with
  | .str _ => T = "str"
  | .int _ => T = "int"
  | .ref p => (T = "list" ∧ ∃ xs, SqL K H p xs) ∨ (T = "tuple" ∧ ∃ o, K.lookup p = some o ∧ o.cls = .type "tuple" ∧ o.dict = none) ∨
      (T = "dict" ∧ ((∃ kvs, H p = some (.dK kvs)) ∨ ∃ kvs, H p = some (.dT kvs))) ∨ (T = "set" ∧ ∃ S n, H p = some (.set S n))
  | _ => False
theorem tyV_is {pins : List (Addr × Obj)} {σ : St} {H : Hp} {s : Shared} {T : String} {x : V} {v : Value} (I : Inv X pins σ H s) (r : RelV x v) (ty : tyV X.K T x H) :
    s.TypeIs v T ∧ ∀ a, v = .ref a → ∃ ob, s.heap.get? a = some ob ∧ ob.dict = none := by
  cases x with
  | str z =>
    obtain ⟨t, rfl⟩ := r
    cases (show T = "str" from ty)
    exact ⟨typeIs_str s z t, fun _ e => nomatch e⟩
  | int i =>
    obtain ⟨t, rfl⟩ := r
    cases (show T = "int" from ty)
    exact ⟨typeIs_int s i t, fun _ e => nomatch e⟩
  | ref p =>
    cases r
    rcases ty with ⟨rfl, xs, hq⟩ | ⟨rfl, o, hk, hc, hd⟩ | ⟨rfl, hk⟩ | ⟨rfl, S, n, hk⟩
    · obtain ⟨its, _, pl, _⟩ := I.list hq
      refine ⟨pl.isList.typeIs, fun a e => ?_⟩
      cases e
      obtain ⟨o, n, e, c, hd, _⟩ := pl
      exact ⟨o, e, hd⟩
    · refine ⟨⟨o, I.kIn p o hk, hc⟩, fun a e => ?_⟩
      cases e
      exact ⟨o, I.kIn _ o hk, hd⟩
    · have z : ∃ o, s.heap.get? p = some o ∧ o.ExactDict := by
        rcases hk with ⟨kvs, hk⟩ | ⟨kvs, hk⟩
        · obtain ⟨_, _, _, _, o, _, _, e, ex, _⟩ := I.hok p _ hk
          exact ⟨o, e, ex⟩
        · obtain ⟨_, _, _, _, o, _, _, e, ex, _⟩ := I.hok p _ hk
          exact ⟨o, e, ex⟩
      obtain ⟨o, e, ex⟩ := z
      refine ⟨⟨o, e, ex.1⟩, fun a e2 => ?_⟩
      cases e2
      exact ⟨o, e, ex.2.1⟩
    · obtain ⟨o, _, _, _, e, ex, _⟩ := I.hok p _ hk
      refine ⟨⟨o, e, ex.1⟩, fun a e2 => ?_⟩
      cases e2
      exact ⟨o, e, ex.2.1⟩
  | _ => exact False.elim ty
def tBM (K : PySem.W.Frag) (T : String) (r : V → List V → Hp → VK → Prop) (to : TE) (t : TA) : TE := fun σ H Q => to σ H fun x H1 => tyV K T x H1 ∧ t σ H1 fun xs H2 => r x xs H2 Q
variable {o e : Expr} {es : List Expr} {to : TE} {t : TA} {name : Str} {apos cpos : Pos} {T id : String} {r : V → List V → Hp → VK → Prop}
theorem pe_bm (pa : PlainAttrs T) (slot : Slot T name id) (hty : typeOf (.builtin id) = pure (.type "method_descriptor")) (hm : MtR X id r) (ho : PE X o to) (ha : PA X (e :: es) t)
    (hbase : attributeBase o name X.env (eval o X.env) = eval o X.env := by rfl)
    (hfew : ((backTo cpos (starEach (e :: es) X.env)).all (fun x => !x.1) && (backToKw cpos (keywordEach [] X.env)).all (fun x => x.1.isSome)
      && decide ((e :: es).length + ([] : List Keyword).length + (if ([] : List Keyword).isEmpty then 0 else 1) < 30)) = true := by rfl)
    (hline : (apos.endLine == cpos.line) = true := by rfl) (hs : starEach (e :: es) X.env = (false, eval e X.env) :: starEach es X.env := by rfl) (hplain : (backTo cpos (starEach es X.env)).any (·.1) = false := by rfl) :
    PE X (.Call (.Attribute o name apos) (e :: es) [] cpos) (tBM X.K T r to t) := by
  intro pins s σ H Q I h
  refine wpAny_Call_method_late hbase hfew hline rfl (thn (ho pins s σ H _ I h) fun v s1 ⟨x, H1, I1, r1, ty, q1⟩ => ?_)
  obtain ⟨h1, h2⟩ := tyV_is I1 r1 ty
  refine ⟨T, id, pa, slot, hty, h1, h2, ?_⟩
  have hA := ha cpos pins s1 σ H1 _ I1 q1
  rw [hs] at hA ⊢
  refine Calls.callWith_builtin (by show (false || (backTo cpos (starEach es X.env)).any (·.1)) = false; rw [hplain] <;> rfl) (Calls.evalArgs_plain ?_)
  exact thn hA fun us s2 ⟨vs, H2, I2, r2, q2⟩ => hm pins s2 σ H2 x vs v us Q I2 r1 r2 q2
/- xs.append(e), list.index on a module's tuple .. are MtR facts of 06m -/
end
end L2

namespace L2
open PySem PySem.Spec PyProof.Rows

def MtM (X : Cx) (id : String) (r : V → List V → Hp → VK → Prop) : Prop :=
  ∀ (pins : List (Addr × Obj)) (s : Shared) (σ : St) (H : Hp) (x : V) (xs : List V) (v : Value) (us : List Value) (Q : VK), Inv X pins σ H s → RelV x v → Vals xs us → r x xs H Q →
    wpAny (model X.prog X.w) X.A (call (.builtin id) (v :: us)) (EP X pins σ Q) X.xe s

/-! ### lists of values -/
theorem Vals.one : ∀ {x : V} {us : List Value}, Vals [x] us → ∃ u, us = [u] ∧ RelV x u
  | _, _, .cons r .nil => ⟨_, rfl, r⟩
section
variable {X : Cx} {pins : List (Addr × Obj)} {σ : St} {H : Hp} {s : Shared} {l b : Addr} {xs ys zs : List V}

/-! ### the two steps: a tracked list is rewritten, a new list is laid -/
theorem Inv.lset {its its' : List Value} {n : Nat} {f : Array Value → Array Value} {t' : Nat} (I : Inv X pins σ H s) (hH : H l = some (.lst xs))
    (e : s.heap.get? l = some { cls := .type "list", data := .seq its.toArray n }) (hf : f its.toArray = its'.toArray) (hv : Vals ys its') (hz : ys.length ≤ sizeLine) :
    Inv X pins σ (upd H l (.lst ys)) { s with heap := s.heap.update l (Obj.mapSeq f), toks := t' } := by
  have q := PySem.IsL.update e f
  rw [hf] at q
  refine I.write (x := l) (e := l) (by rw [hH]; exact trivial) (.inl rfl) (fun b' u hb hu => (Heap.get?_update_other s.heap (Obj.mapSeq f) (Ne.symm hb)).trans hu) ⟨_, q⟩ ?_
  exact ⟨hz, its', _, hv, q⟩
theorem Inv.lnew {its : List Value} {t' : Nat} (I : Inv X pins σ H s) (hv : Vals ys its) (hz : ys.length ≤ sizeLine) :
    Inv X pins σ (upd H s.heap.objs.size (.lst ys)) { s with heap := s.heap.push { cls := .type "list", data := .seq its.toArray }, toks := t' } :=
  I.laid (fun _ _ q => Heap.get?_push_of_some _ q) (Nat.le_refl _) ⟨hz, its, 0, hv, Heap.get?_push_size _ rfl⟩
theorem Inv.fresh (I : Inv X pins σ H s) : H s.heap.objs.size = none := I.hok.fresh (Nat.le_refl _)
theorem Inv.lstM (I : Inv X pins σ H s) (hH : H l = some (.lst xs)) : xs.length ≤ sizeLine ∧ ∃ (its : List Value) (n : Nat), Vals xs its ∧ xs.length = its.length ∧ s.heap.get? l = some { cls := .type "list", data := .seq its.toArray n } := by
  obtain ⟨z, its, n, r, e⟩ := I.hok l _ hH
  exact ⟨z, its, n, r, r.length, e⟩

theorem notLongL {n : Nat} (h : n ≤ sizeLine) : Builtin.List.listTooLong n = false := by
  unfold Builtin.List.listTooLong
  exact decide_eq_false (by (first | lia | omega))
end

section
variable {X : Cx}

/-! ### methods -/
def rAppend : V → List V → Hp → VK → Prop := fun x vs H Q => ∃ l xs y, x = .ref l ∧ vs = [y] ∧ H l = some (.lst xs) ∧ xs.length < sizeLine ∧ Q .non (upd H l (.lst (xs ++ [y])))
theorem mt_append : MtM X "list.append" rAppend := by
  intro pins s σ H x vs v us Q I rx rv h
  obtain ⟨l, xs, y, rfl, rfl, hH, hz, q⟩ := h
  cases rx
  obtain ⟨u, rfl, ru⟩ := rv.one
  obtain ⟨z, its, n, r, hl, e⟩ := I.lstM hH
  refine call_meets F.slot_list_append ⟨_, e, rfl⟩ F.entry_list_append (F.args_list_append_2 _ _) (PySem.list_append l its.toArray n u (by rw [List.size_toArray]; (first | lia | omega))) ⟨e, ?_⟩
  refine ⟨.non, _, I.lset (its' := its ++ [u]) hH e (by simp) (r.append (.cons ru .nil)) ?_, rfl, q⟩
  rw [List.length_append, List.length_singleton]
  (first | lia | omega)

def rExtend : V → List V → Hp → VK → Prop := fun x vs H Q => ∃ l b xs zs, x = .ref l ∧ vs = [.ref b] ∧ H l = some (.lst xs) ∧ H b = some (.lst zs) ∧ xs.length + zs.length ≤ sizeLine ∧ Q .non (upd H l (.lst (xs ++ zs)))
theorem mt_extend : MtM X "list.extend" rExtend := by
  intro pins s σ H x vs v us Q I rx rv h
  obtain ⟨l, b, xs, zs, rfl, rfl, hH, hB, hz, q⟩ := h
  cases rx
  obtain ⟨u, rfl, ru⟩ := rv.one
  cases ru
  obtain ⟨z, its, n, r, hl, e⟩ := I.lstM hH
  obtain ⟨z2, its2, n2, r2, hl2, e2⟩ := I.lstM hB
  have hsz : its.toArray.size + its2.toArray.size ≤ sizeLine := by rw [List.size_toArray, List.size_toArray]; (first | lia | omega)
  have hlong : ¬ (!its.toArray.isEmpty && Builtin.List.listTooLong (its.toArray.size + its2.toArray.size)) = true := by
    rw [notLongL hsz, Bool.and_false]
    exact Bool.false_ne_true
  refine call_meets F.slot_list_extend ⟨_, e, rfl⟩ F.entry_list_extend (F.args_list_extend_2 _ _)
    (AutoSeq1.list_extend_list_list_0 l its.toArray n b its2.toArray n2 hlong (by rw [List.size_toArray]; (first | lia | omega)) (by (first | lia | omega))) ⟨e, e2, ?_⟩
  refine ⟨.non, _, I.lset (its' := its ++ its2) hH e (by simp) (r.append r2) ?_, rfl, q⟩
  rw [List.length_append]
  (first | lia | omega)

/-! ### list + list, list += list, list * int -/
def rCat : R2 := fun x y H Q => ∃ l b xs zs, x = .ref l ∧ y = .ref b ∧ H l = some (.lst xs) ∧ H b = some (.lst zs) ∧ xs.length + zs.length ≤ sizeLine ∧ ∀ p, H p = none → Q (.ref p) (upd H p (.lst (xs ++ zs)))
theorem op_cat : OpR X (binaryOp .Add) rCat := by
  intro pins s σ H x y v u Q I rx ry h
  obtain ⟨l, b, xs, zs, rfl, rfl, hH, hB, hz, q⟩ := h
  cases rx
  cases ry
  obtain ⟨z, its, n, r, hl, e⟩ := I.lstM hH
  obtain ⟨z2, its2, n2, r2, hl2, e2⟩ := I.lstM hB
  refine PySem.P.add_list e e2 ?_ (by rw [List.size_toArray, List.size_toArray]; (first | lia | omega))
  have ea : its.toArray ++ its2.toArray = (its ++ its2).toArray := by simp
  rw [ea]
  exact ⟨.ref _, _, I.lnew (t' := s.toks) (r.append r2) (by rw [List.length_append]; (first | lia | omega)), rfl, q _ I.fresh⟩
/-! ### del xs[i] -/
end

/-! ### xs[a:b] = ys -/
section
variable {prog : Program} {w : World} {A : Around} {E : Value → Shared → Prop} {s : Shared}
end

section
variable {X : Cx}
end
end L2

namespace Att
open PySem PySem.W PySem.Calls PyProof.Rows

/-! ### the script -/
theorem ints_of_wellAll {P : Params} {h : Heap} : ∀ (ns : List Int) (vs : List Value), WellAll P h vs (ns.map WData.int) → IntsAre vs ns := by
  intro ns
  induction ns with
  | nil =>
    intro vs w
    rw [List.map_nil] at w
    cases w
    exact .nil
  | cons n ns ih =>
    intro vs w
    rw [List.map_cons] at w
    cases w with
    | cons a b =>
      cases a
      exact .cons _ _ (ih _ b)

theorem script_of {l : OpenLaw} {n : Nat} (hn : l.most = some n) {P : Params} {h : Heap} {args : List WData} {vals : List Value}
    (hpre : l.row.toRowW.claim.pre args = true) (hwl : WellAll P h vals args) :
    ∃ a vs ns, vals = [Value.ref a] ∧ args = [WData.list (ns.map WData.int)] ∧ h.get? a = some { cls := .type "list", data := .seq vs.toArray } ∧ IntsAre vs ns ∧ ns.length ≤ n := by
  have hsh : WShape.hasAll [] args [.list .int] = true := (pre_splitW hpre).1
  have hc : l.pre.holds [] { args := args } = true := (pre_splitW hpre).2
  obtain ⟨d, r, rfl, h1, h2⟩ := hasAllW_cons hsh
  obtain rfl := hasAllW_nil h2
  obtain ⟨xs, rfl, h3⟩ := hasW_list h1
  obtain ⟨ns, rfl⟩ := items_int h3
  have hlen : ns.length ≤ n := by
    unfold OpenLaw.pre at hc
    have h4 : (WTm.not (.lt (.lit (.int (n : Int))) (.len (.arg 0)))).holds [] { args := [.list (ns.map .int)] } = true := by
      have h4 := (holds_andW hc).1
      rw [hn] at h4
      exact h4
    have h5 := condW_of h4 (w_not (w_lt w_lit (w_len_list (w_arg rfl))))
    rw [List.length_map] at h5
    refine Nat.le_of_not_lt fun q => ?_
    have q' : (n : Int) < ((ns.length : Nat) : Int) := by (first | lia | omega)
    first
      | (rw [decide_eq_true q'] at h5; exact absurd h5 (by decide))
      | (simp at h5; (first | lia | omega))
  cases hwl with
  | cons w1 w2 =>
    cases w2
    cases w1 with
    | list ho hall => exact ⟨_, _, ns, rfl, rfl, ho, ints_of_wellAll ns _ hall, hlen⟩

theorem post_true (l : OpenLaw) (args : List WData) : l.row.toRowW.claim.post args (.bool true) args = true :=
  postW_of (r := l.row.toRowW) (X := (true == true))
    (show WShape.has [] (.bool true) .bool = true by first | rfl | decide | simp [WShape.has, WShape.arms, WShape.armsAll])
    (show (WTm.eq .res (.lit (.bool true))).value [] { args := args, res := some (.bool true), after := args } = some (.bool (true == true)) from w_eq_bool (w_res rfl) w_lit) rfl

/-! ### the attachment: holds_open's last premise (the goal 'hc' behind k_head) from a wpAny of the law's body -/
/-- the same from a codeAny of the CALL (for a layer whose function contracts speak of calls) -/
theorem attach_call {l : OpenLaw} {n : Nat} {q : Program} {loose : List Str} {XP : (Str → Option Value) → Heap → Prop} {YP : World → Heap → Prop} {d : DefRec}
    (hn : l.most = some n) (hdf : d.params.defaults = [])
    (call : ∀ (w : World) (s₀ s₁ : Shared) (mg mb : Str → Option Value) (fa : Addr) (o : Obj) (pm cd doc : Value) (a : Addr) (vs : List Value) (ns : List Int),
      Ground q loose [] XP w s₀ mg mb s₁.heap → YP w s₁.heap →
      s₁.heap.get? fa = some o → o.data = .func (docDef d.name d.params d.body d.scope pm cd doc) → s₁.heap.CodeRec cd d.name → mg d.name = some (.ref fa) →
      s₁.heap.get? a = some { cls := .type "list", data := .seq vs.toArray } → IntsAre vs ns → ns.length ≤ n → s₁.gens = #[] →
      codeAny (model l.prog w) callerA (.call (.ref fa) ⟨[.ref a], []⟩) (fun r s' => r = .ok (.ret (.bool true)) ∧ OldK s₁.heap s'.heap ∧ s'.os = s₁.os ∧ AllBare s'.gens) s₁) :
    WalkO q loose XP YP l.row.toRowW d [] (fun f vs => PySem.call f vs) := by
  intro w s₀ s₁ mg mb G Y fa o pm cd doc dV kV ho hd hcd hD hmg hg args vals as hpre hlay hrd hwl hlo
  obtain rfl : dV = .none := Dflts.none hD hdf
  obtain rfl : kV = .none := Dflts.noKw hD
  obtain ⟨a, vs, ns, rfl, rfl, hobj, hints, hlen⟩ := script_of hn hpre hwl
  refine enter_call (codeAny_mono (call w s₀ s₁ mg mb fa o pm cd doc a vs ns G Y ho (fd_plain hd) hcd hmg hobj hints hlen hg) fun r s' hq => ?_)
  obtain ⟨rfl, h2, h3, h4⟩ := hq
  exact ⟨.inl ⟨.bool true, .bool true, [], rfl, fun _ => rfl, .bool true, post_true l _, fun _ => ⟨List.Pairwise.nil, fun _ hm => (nomatch hm)⟩⟩, h2, h3, h4⟩

/-! ### rules over ANY heap (no ledger) from facts about the written part K: the library's own take a ledger (News) for what they write -/
section
variable {prog : Program} {w : World} {A : Around} {E : Value → Shared → Prop} {s : Shared} {K : Frag}

/-! the whole heap as the ledger: makes every rule that writes through a ledger a rule over any heap -/
def noObjs (h : Heap) : Heap := { h with objs := #[] }
theorem noObjs_get (h : Heap) (b : Addr) : (noObjs h).get? b = none := by
  cases e : (noObjs h).get? b with
  | none => rfl
  | some o => exact absurd (Heap.lt_size e) (Nat.not_lt_zero _)
theorem fr_all {h : Heap} {L : Addr} {m : Str → Option Value} (n : h.Ns L m) : Fr (noObjs h) L h m :=
  ⟨n, fun b o e => (by rw [noObjs_get] at e; cases e), Nat.zero_le _⟩
end
end Att

namespace L2
open PySem PySem.Spec PyProof.Rows

theorem vals_ints : ∀ {vs : List Value} {ns : List Int}, IntsAre vs ns → Vals (ns.map V.int) vs
  | _, _, .nil => .nil
  | _, _, .cons n t h => .cons ⟨t, rfl⟩ (vals_ints h)

/-- nothing is tracked but the script, known to the object (or it is an object of the module) -/
def Only (H : Hp) : Prop := ∀ b, H b = none ∨ ∃ o xs, H b = some (.frz o (.lst xs))

/-- THE HEAD: the law's promise, at the heap behind the top. F, the promise of the law's def, may use that base is part of the heap (so K.In base, base.Ns mainGlobals mg stand in Mod) -/
theorem law_call {P : Program} {w : World} {K : PySem.W.Frag} {mg mb : Str → Option Value} {CX : CXT} {k : Nat} {fa a : Addr} {fd : FuncData} {x : Str} {sp : Sp} {s₁ : Shared} {vs : List Value} {ns : List Int}
    (KX : K.In s₁.heap) (hns : s₁.heap.Ns mainGlobals mg) (hb : s₁.heap.Ns builtinsNs mb) (hbb : ∀ x : Str, x ≠ "__name__" → mb x = bootBuiltins x) (hlim : s₁.heap.NoLimit) (hseer : s₁.heap.NoSeer) (hg : s₁.gens = #[])
    (ha : s₁.heap.get? a = some { cls := .type "list", data := .seq vs.toArray }) (hi : IntsAre vs ns) (hl : ns.length ≤ sizeLine) (hr : Room k callerA)
    (F : ∀ base : Heap, K.In base → base.Ns mainGlobals mg → FnOk P w K mg base CX k fa fd [x] sp) (hbind : ∀ (s : Shared) (u : Value), BindsTo s fd ⟨[u], []⟩ [(x, u)])
    (hsp : ∀ H : Hp, Only H → SqL K H a (ns.map V.int) → sp [.ref a] H (fun v _ => v = .bl true) fun _ _ _ => False)
    (hCX : ∀ H e s', CX [] H s₁ (fun _ _ _ => False) e s' → False) :
    codeAny (model P w) callerA (.call (.ref fa) ⟨[.ref a], []⟩) (fun r s' => r = .ok (.ret (.bool true)) ∧ OldK s₁.heap s'.heap ∧ s'.os = s₁.os ∧ AllBare s'.gens) s₁ := by
  have rv := vals_ints hi
  have lenV := hi.length
  -- from an abstract heap in which nothing but the script may be tracked
  have core : ∀ H : Hp, Only H → SqL K H a (ns.map V.int) → HOk P w H s₁.heap → (∀ b, H b ≠ none → b = a) → (H a ≠ none → K.lookup a = none) →
      codeAny (model P w) callerA (.call (.ref fa) ⟨[.ref a], []⟩) (fun r s' => r = .ok (.ret (.bool true)) ∧ OldK s₁.heap s'.heap ∧ s'.os = s₁.os ∧ AllBare s'.gens) s₁ := by
    intro H hO hS hok hA hK
    have base_of : ∀ {b : Addr} {o : Obj}, s₁.heap.get? b = some o → H b = none → (hidT s₁.heap H).get? b = some o := fun e n => hidT_get e n
    have noA : ∀ {b : Addr} {o : Obj} {es : Array DictEntry} {ep : Nat}, s₁.heap.get? b = some o → o.data = .dict es ep → H b = none := fun {b o es ep} e d => by
      cases q : H b with
      | none => rfl
      | some u =>
        have e' : b = a := hA b (by rw [q]; simp)
        subst e'
        rw [ha] at e; cases e
        have d' : Data.seq vs.toArray _ = Data.dict es ep := d
        cases d'
    have nsK : ∀ {b : Addr} {m : Str → Option Value}, s₁.heap.Ns b m → (hidT s₁.heap H).Ns b m := fun {b m} ⟨o, es, ep, e, d, r⟩ => ⟨o, es, ep, base_of e (noA e d), d, r⟩
    have hKb : K.In (hidT s₁.heap H) := fun b o e => base_of (KX b o e) (by
      cases q : H b with
      | none => rfl
      | some u =>
        have e' : b = a := hA b (by rw [q]; simp)
        subst e'
        rw [hK (by rw [q]; simp)] at e; cases e)
    have noM : ∀ {b : Addr} {o : Obj}, s₁.heap.get? b = some o → o.cls = .type "module" → H b = none := fun {b o} e d => by
      cases q : H b with
      | none => rfl
      | some u =>
        have e' : b = a := hA b (by rw [q]; simp)
        subst e'
        rw [ha] at e; cases e
        exact absurd (show Value.type "list" = Value.type "module" from d) (by decide)
    have hSr : (hidT s₁.heap H).NoSeer := ⟨let ⟨mc, h1, h2⟩ := hseer.statics; ⟨mc, nsK h1, h2⟩, let ⟨mm, h1, h2⟩ := hseer.mods; ⟨mm, nsK h1, h2⟩, let ⟨mb, h1, h2⟩ := hseer.imp; ⟨mb, nsK h1, h2⟩,
      let ⟨mg, bm, ob, h1, h2, h3, h4, h5⟩ := hseer.main; ⟨mg, bm, ob, nsK h1, h2, base_of h3 (noM h3 h4), h4, h5⟩⟩
    have hM : Mod K mg (hidT s₁.heap H) := ⟨hKb, nsK hns, ⟨mb, nsK hb, hbb⟩, (let ⟨mc, h1, h2⟩ := hlim; ⟨mc, nsK h1, h2⟩), hSr⟩
    have e0 : Env0 P w K mg (hidT s₁.heap H) callerA [] s₁ H := ⟨rfl, hM, fun b o e => of_hidT e, Nat.le_of_eq (hidT_size _ _), trivial, fun b hb => absurd (show b ∈ ([] : List Addr) from hb) (by simp), hok, .of_eq hg⟩
    refine codeAny_mono ((F _ hKb (nsK hns)).run callerA [] s₁ H ⟨[.ref a], []⟩ [.ref a] [.ref a] _ _ hr e0 (hbind s₁ (.ref a)) (.cons rfl .nil) (hsp H hO hS)) fun r s' h => ?_
    cases r with
    | error e => exact (hCX H e s' h).elim
    | ok fl =>
      cases fl with
      | next => exact False.elim h
      | brk => exact False.elim h
      | cont => exact False.elim h
      | ret u =>
        obtain ⟨v, H', os, bare, un, hok', r', q⟩ := h
        have q' : v = .bl true := q
        subst q'
        obtain rfl : u = Value.bool true := r'
        refine ⟨rfl, OldK.of_keep fun b o e => ?_, os, bare⟩
        cases q : H b with
        | none => exact un.keep b o e q (by intro z; exact absurd (show b ∈ ([] : List Addr) from z) (by simp)) (by simp)
        | some u =>
          rcases hO b with z | ⟨ob, xs, z⟩
          · rw [q] at z; cases z
          · have z2 := un.frzs b ob _ z
            obtain ⟨e1, _⟩ := hok b _ z
            obtain ⟨e2, _⟩ := hok' b _ z2
            rw [e] at e1; cases e1
            exact e2
  cases hk : K.lookup a with
  | some o =>
    -- the script is one of the module's own objects
    have e := KX a o hk
    rw [ha] at e
    cases e
    refine core (fun _ => none) (fun _ => .inl rfl) (.inr ⟨_, vs.toArray, _, hk, rfl, rfl, rfl, by rw [List.size_toArray, lenV]; exact hl, by simpa using rv⟩) (fun b u z => by have z' : (none : Option HO) = some u := z; cases z') (fun b z => absurd rfl z) fun z => absurd rfl z
  | none =>
    refine core (fun b => if b = a then some (.frz { cls := .type "list", data := .seq vs.toArray } (.lst (ns.map V.int))) else none) (fun b => ?_) (.inl (.inr ⟨{ cls := .type "list", data := .seq vs.toArray }, if_pos rfl⟩)) (fun b u z => ?_) (fun b z => ?_) fun _ => hk
    · by_cases hb : b = a
      · exact .inr ⟨_, _, if_pos hb⟩
      · exact .inl (if_neg hb)
    · by_cases hb : b = a
      · have z' := (if_pos hb).symm.trans z
        cases z'
        subst hb
        exact ⟨ha, by rw [List.length_map]; exact hl, vs, _, rv, ha⟩
      · have z' := (if_neg hb).symm.trans z
        cases z'
    · by_cases hb : b = a
      · exact hb
      · exact absurd (if_neg hb) z
end L2

namespace L2
open PySem PySem.Spec PyProof.Rows

/-- the goal that k_head leaves (case hc), from the law's promise. F gives the function object fd (K's own) once, then the promise over every base -/
theorem walk_of {l : PySem.W.OpenLaw} {n k : Nat} {q : Program} {loose : List Str} {XP : (Str → Option Value) → Heap → Prop} {YP : World → Heap → Prop} {d : DefRec} {K : Params → PySem.W.Frag} {CX : World → CXT} {sp : World → Sp} {x : Str}
    (hi : PyProof.Rows.importsNone q = true) (hn : l.most = some n) (hn2 : n ≤ sizeLine) (hdf : d.params.defaults = []) (hr : Room k callerA)
    (hY : ∀ (w : World) (h : Heap), YP w h → (K w.params).In h)
    (F : ∀ (w : World) (mg : Str → Option Value) (fa : Addr) (h : Heap), (K w.params).In h → h.Ns mainGlobals mg → mg d.name = some (.ref fa) →
      ∃ fd : FuncData, (∀ (s : Shared) (u : Value), BindsTo s fd ⟨[u], []⟩ [(x, u)]) ∧
        ∀ base : Heap, (K w.params).In base → base.Ns mainGlobals mg → FnOk l.prog w (K w.params) mg base (CX w) k fa fd [x] (sp w))
    (hsp : ∀ (w : World) (H : Hp) (a : Addr) (ns : List Int), ns.length ≤ n → Only H → SqL (K w.params) H a (ns.map V.int) → sp w [.ref a] H (fun v _ => v = .bl true) fun _ _ _ => False)
    (hCX : ∀ (w : World) (H : Hp) (s : Shared) (e : Value) (s' : Shared), CX w [] H s (fun _ _ _ => False) e s' → False) :
    PySem.W.WalkO q loose XP YP l.row.toRowW d [] (fun f vs => PySem.call f vs) := by
  refine Att.attach_call hn hdf fun w s₀ s₁ mg mb fa o pm cd doc a vs ns G Y ho hd hcd hmg hobj hints hlen hg => ?_
  have KX := hY w _ Y
  obtain ⟨fd, hb, hF⟩ := F w mg fa _ KX G.T.g hmg
  exact law_call KX G.T.g G.T.b G.T.builtins G.T.nolimit (G.T.seer hi) hg hobj hints (Nat.le_trans hlen hn2) hr hF hb (fun H hO hS => hsp w H a ns hlen hO hS) fun H e s' => hCX w H s₁ e s'
end L2

/- THE LAST THEOREM (shape; LID, My.* are yours):
   My.Adr: a structure of the addresses that your layer names (classes, functions); My.Txt K t: a structure (Prop) of the equations over K;
   My.txt_mk : {K} {implicit addresses ..} (e1 : nsIn K mainGlobals "law" = some (some (.ref f))) (e2 : K.lookup f = some ⟨oc, od, .func (fnOf "law" "law" params body scope dV kV doc pm an cdv ct), sl⟩) (e3 : codeIn K cdv "law" = true) .. : ∃ t, My.Txt K t

set_option maxRecDepth 100000 in
set_option maxHeartbeats 0 in
theorem PySem.Challenge.cw_LID_holds : PySem.Challenge.rw_LID.Holds := by
  w_on; o_law; k_head; (case hw => w_witness2)
  k_fill
  refine L2.walk_of (l := PySem.Challenge.rw_LID) (n := 63) (k := 40) (x := "script") (CX := fun w => ..) (sp := fun _ => My.sp_law) rfl (by decide) rfl ⟨rfl, by decide, by decide⟩ (fun w h Y => PySem.W.kIn_of Y) ?F ?S ?C
  case F =>
    intro w mg fa h KX G hmg
    have T : ∃ t, My.Txt (L2.KOf KX) t := by
      dsimp only [L2.KOf]                          -- K must stand as «<heap const> w.params» for k_is
      refine' My.txt_mk ?e1 ?e2 ?e3 ..
      (case e1 => PySem.W.k_is)                    -- in the order: a name -> its address -> its object -> its parts
      (case e2 => PySem.W.k_is)
      ..
    obtain ⟨t, T⟩ := T
    have e0 := hmg.symm.trans (PySem.W.mg_of KX G T.law)
    cases e0                                       -- fa is the law's own address
    exact ⟨_, fun s u => .of_eq rfl, fun base kb nb => My.law_fn T kb nb⟩     -- if «.of_eq rfl» comes too early: refine' ⟨_, ?b, fun base kb nb => My.law_fn T kb nb⟩; exact fun s u => .of_eq rfl
  case S => exact fun w H a ns hl hO hS => ..
  case C => exact ..
(the tactic k_is has no namespace: write k_is) -/

/-! SHORT WORDS over the layer: a def of the text, its body, what a loop and a test want. -/
namespace L2
open PySem PySem.Spec PyProof.Rows

/-! ### the text by places -/
def defArgs (s : Stmt) : Arguments := match s with
  | .FunctionDef _ a _ _ _ _ _ _ _ _ => a
  | _ => { posonlyargs := [], args := [], vararg := none, kwonlyargs := [], kw_defaults := [], kwarg := none, defaults := [] }
def defBody (s : Stmt) : List Stmt := match s with
  | .FunctionDef _ _ b _ _ _ _ _ _ _ => b
  | _ => []
def defScope (s : Stmt) : Scope := match s with
  | .FunctionDef _ _ _ _ _ _ sc _ _ _ => sc
  | _ => { kind := .function, names := [], isGenerator := false, isCoroutine := false }

/-! ### no exception leaves a def -/
abbrev CX0 : CXT := fun _ _ _ _ _ _ => False
abbrev E0 : XK := fun _ _ _ => False
theorem pass0 {X : Cx} : Passes CX0 X E0 := fun _ _ _ _ _ _ _ h => h.elim

/-! ### a def (or method) of the text as it stands behind the top -/
structure Fun (K : PySem.W.Frag) (x qual : Str) (st : Stmt) (f : Addr) (fd : FuncData) : Prop where
  ex : ∃ (oc : Value) (od : Option Addr) (kV doc pm : Value) (an : Option Addr) (cdv ct : Value) (osl : Array (Option Value)),
    fd = PySem.W.fnOf x qual (defArgs st) (defBody st) (defScope st) .none kV doc pm an cdv ct ∧ K.lookup f = some ⟨oc, od, .func fd, osl⟩ ∧ PySem.W.codeIn K cdv qual = true
  kp : PySem.W.keepIn K (.ref f) = true
section
variable {P : Program} {w : World} {K : PySem.W.Frag} {mg : Str → Option Value} {base : Heap}
/-- THE RULE for a def: its body as a term of rules, and the reading of that term -/
theorem Fun.ok {x qual : Str} {st : Stmt} {f : Addr} {fd : FuncData} {N ps : List Str} {k : Nat} {sp : Sp} (F : Fun K x qual st f fd) (S : FnScope N ps (defScope st)) (len : ∀ vs H Q E, sp vs H Q E → vs.length = ps.length)
    (hbody : ∀ (cdv : Value) (A : Around) (outer : List Env) (s : Shared) (H : Hp) (vs : List V) (Q : VK) (E : XK), Room k (A.deeper (envOfC qual (defScope st) s.heap.objs.size f cdv)) → sp vs H Q E →
      ∃ t, PSs (cxOf CX0 P w K mg base N qual (defScope st) f cdv A outer s H E).nox (defBody st) t ∧ t { nx := fun _ H' => Q .non H', rt := Q } (start N vs) H) : FnOk P w K mg base CX0 (k + 1) f fd ps sp := by
  obtain ⟨oc, od, kV, doc, pm, an, cdv, ct, osl, rfl, lk, hcd⟩ := F.ex
  refine fn_of lk hcd S len fun A outer s H vs Q E hr hsp => ?_
  obtain ⟨t, h, q⟩ := hbody cdv A outer s H vs Q E hr hsp
  exact ⟨t, h.nox, q⟩
/-- how its arguments bind (no defaults): h is «fun _ _ _ _ _ _ us hl => match us, hl with | [_, _], _ => rfl», one _ a parameter -/
theorem Fun.binds {x qual : Str} {st : Stmt} {f : Addr} {fd : FuncData} {ps : List Str} (F : Fun K x qual st f fd)
    (h : ∀ (kV doc pm : Value) (an : Option Addr) (cdv ct : Value) (us : List Value), us.length = ps.length → bindArgs (PySem.W.fnOf x qual (defArgs st) (defBody st) (defScope st) .none kV doc pm an cdv ct) ⟨us, []⟩ = pure (ps.zip us)) : Binds K fd ps [] := by
  obtain ⟨oc, od, kV, doc, pm, an, cdv, ct, osl, rfl, lk, hcd⟩ := F.ex
  exact .all (h kV doc pm an cdv ct)
theorem fun_mk {x qual : Str} {st : Stmt} {f : Addr} {oc : Value} {od an : Option Addr} {osl : Array (Option Value)} {kV doc pm cdv ct : Value} (l : K.lookup f = some ⟨oc, od, .func (PySem.W.fnOf x qual (defArgs st) (defBody st) (defScope st) .none kV doc pm an cdv ct), osl⟩)
    (c : PySem.W.codeIn K cdv qual = true) (k : PySem.W.keepIn K (.ref f) = true) : Fun K x qual st f (PySem.W.fnOf x qual (defArgs st) (defBody st) (defScope st) .none kV doc pm an cdv ct) := ⟨⟨oc, od, kV, doc, pm, an, cdv, ct, osl, rfl, l, c⟩, k⟩
end
theorem small1000 {n : Nat} (h : n ≤ 1000) : n < sizeLine := Nat.lt_of_le_of_lt h (by decide)

/-! ### expressions in short: the name that stands in the i-th slot -/
section
variable {X : Cx}
theorem pv (i : Nat) {x : Str} {pos : Pos} (hN : X.N[i]? = some x := by rfl) (hv : Vis X.env.scope x := by first | exact Or.inl rfl | exact Or.inr (Or.inl rfl) | exact Or.inr (Or.inr rfl)) (hd : (x == ("__debug__" : Str)) = false := by decide)
    (hcd : (x == ("__classdict__" : Str)) = false := by decide) : PE X (.Name x pos) (tVar i) := pe_var hN hv hd hcd
end

/-! ### tests -/
theorem iteF {A B : Prop} (h : B) : if false = true then A else B := by
  rw [if_neg Bool.false_ne_true]
  exact h
theorem iteT {A B : Prop} (h : A) : if true = true then A else B := by
  rw [if_pos rfl]
  exact h
/-! ### heaps -/
/-- all that was tracked is as it was -/
def Same (H H' : Hp) : Prop := ∀ b o, H b = some o → H' b = some o
theorem Same.refl (H : Hp) : Same H H := fun _ _ h => h
theorem Same.trans {H H1 H2 : Hp} (a : Same H H1) (b : Same H1 H2) : Same H H2 := fun c o h => b c o (a c o h)
theorem Same.free {H H' : Hp} (e : Same H H') {l : Addr} (h : H' l = Option.none) : H l = Option.none := by
  cases q : H l with
  | none => rfl
  | some o =>
    rw [e l o q] at h
    cases h
theorem Same.seq {K : PySem.W.Frag} {H H' : Hp} {a : Addr} {xs : List V} (e : Same H H') (h : SqL K H a xs) : SqL K H' a xs := by
  rcases h with (h | ⟨o, h⟩) | h
  · exact .inl (.inl (e _ _ h))
  · exact .inl (.inr ⟨o, e _ _ h⟩)
  · exact .inr h

end L2

set_option Elab.async false
set_option linter.all false
set_option maxRecDepth 100000
set_option maxHeartbeats 4000000
/-! Wordrace: rules beside the hand layer: comprehensions, texts, calls over lists. -/
namespace L2
open PySem PySem.Spec PyProof.Rows

theorem HOk.but {P : Program} {w : World} {H : Hp} {h h' : Heap} {it : Addr} (ok : HOk P w H h) (hn : H it = none) (k : ∀ b o, b ≠ it → h.get? b = some o → h'.get? b = some o) : HOk P w H h' := fun b u e => by
  have nit : ∀ b u, H b = some u → b ≠ it := fun b u e z => by rw [z, hn] at e; cases e
  refine (ok b u e).stay (fun c v hc q => k c v ?_ q) (fun _ q => q) fun _ _ q => q
  rcases hc with z | z
  · rw [z]; exact nit b u e
  · exact nit c _ z

/-! ### the closure of a block -/
def closL (names : List (Str × NameKind)) (cells : List (Str × Addr)) : List (Str × Addr) :=
  (names.filterMap fun x => if x.2 == .free then (cells.lookup x.1).map fun c => (x.1, c) else none).reverse
theorem closL_cons (x : Str × NameKind) (names : List (Str × NameKind)) (cells : List (Str × Addr)) :
    closL (x :: names) cells = closL names cells ++ (if x.2 == .free then (cells.lookup x.1).map fun c => (x.1, c) else none).toList := by
  unfold closL
  rw [List.filterMap_cons]
  cases (if x.2 == .free then (cells.lookup x.1).map fun c => (x.1, c) else none) <;> simp
theorem clos_aux (env : Env) : ∀ (names : List (Str × NameKind)) (cs : List (Str × Addr)), (∀ x ∈ names, x.2 = .free → ∃ c, env.cells.lookup x.1 = some c) →
    (forIn (m := Sem) names cs fun x r => (match x with | (name, kind) => if (kind == .free) = true then do let a ← cellOf env name; pure (ForInStep.yield ((name, a) :: r)) else pure (ForInStep.yield r))) = pure (closL names env.cells ++ cs)
  | [], cs, _ => rfl
  | (n, k) :: r, cs, h => by
    rw [List.forIn_cons, closL_cons]
    have ih := fun cs => clos_aux env r cs fun x hx => h x (List.mem_cons_of_mem _ hx)
    cases hk : (k == NameKind.free) with
    | false =>
      simp only [hk, Bool.false_eq_true, if_false, pure_bind]
      rw [ih]
      simp
    | true =>
      obtain ⟨c, e⟩ := h (n, k) List.mem_cons_self (by simpa using hk)
      have e' : env.cells.lookup n = some c := e
      have ec : cellOf env n = pure c := by unfold cellOf; rw [e']
      simp only [hk, if_true, ec, pure_bind, e', Option.map_some, Option.toList]
      rw [ih]
      simp
theorem closureFor_eq {scope : Scope} {env : Env} (h : ∀ x ∈ scope.names, x.2 = .free → ∃ c, env.cells.lookup x.1 = some c) : closureFor scope env = pure (closL scope.names env.cells) := by
  have e := clos_aux env scope.names [] h
  unfold closureFor
  rw [List.append_nil] at e
  simp only [bind_pure]
  exact e
theorem closL_sound {names : List (Str × NameKind)} {cells : List (Str × Addr)} {n : Str} {c : Addr} (h : (closL names cells).lookup n = some c) : cells.lookup n = some c := by
  have m := PySem.mem_of_lookup h
  unfold closL at m
  rw [List.mem_reverse, List.mem_filterMap] at m
  obtain ⟨x, _, e⟩ := m
  split at e
  · cases q : cells.lookup x.1 with
    | none => rw [q] at e; cases e
    | some c' =>
      rw [q] at e
      cases e
      exact q
  · cases e
theorem lookup_of_mem {n : Str} {c : Addr} : ∀ {l : List (Str × Addr)}, (n, c) ∈ l → ∃ c', l.lookup n = some c'
  | [], h => by simp at h
  | (k, v) :: r, h => by
    rw [List.lookup_cons]
    cases e : n == k with
    | true => exact ⟨v, rfl⟩
    | false =>
      rcases List.mem_cons.mp h with z | z
      · cases z; simp at e
      · exact lookup_of_mem z
theorem closL_has {names : List (Str × NameKind)} {cells : List (Str × Addr)} {n : Str} {c : Addr} (hm : (n, NameKind.free) ∈ names) (hc : cells.lookup n = some c) : (closL names cells).lookup n = some c := by
  have m : (n, c) ∈ closL names cells := by
    unfold closL
    rw [List.mem_reverse, List.mem_filterMap]
    exact ⟨(n, .free), hm, by simp [hc]⟩
  obtain ⟨c', e⟩ := lookup_of_mem m
  rw [e, ← hc, closL_sound e]

/-! ### the block's names -/
theorem relabel_some {env : Env} : ∀ {names : List (Str × NameKind)} {x : Str} {k : NameKind}, names.lookup x = some k → k ≠ .free →
    (names.map fun (n, k) => if (k == NameKind.free && env.scope.kind == .function && env.kindOf n == some .cell) then (n, NameKind.cell) else (n, k)).lookup x = some k
  | [], _, _, h, _ => by simp at h
  | (n, q) :: r, x, k, h, hk => by
    have ih := @relabel_some env r x k
    show List.lookup x ((if (q == NameKind.free && env.scope.kind == .function && env.kindOf n == some .cell) = true then (n, NameKind.cell) else (n, q)) :: _) = _
    cases hx : x == n with
    | true =>
      simp only [List.lookup_cons, hx] at h
      cases h
      have e : (q == NameKind.free) = false := by simpa using hk
      simp [List.lookup_cons, hx, e]
    | false =>
      simp only [List.lookup_cons, hx] at h
      by_cases hc : (q == NameKind.free && env.scope.kind == .function && env.kindOf n == some .cell) = true
      · rw [if_pos hc]; simp only [List.lookup_cons, hx]; exact ih h hk
      · rw [if_neg hc]; simp only [List.lookup_cons, hx]; exact ih h hk
theorem relabel_free {env : Env} : ∀ {names : List (Str × NameKind)} {x : Str}, names.lookup x = some .free →
    (names.map fun (n, k) => if (k == NameKind.free && env.scope.kind == .function && env.kindOf n == some .cell) then (n, NameKind.cell) else (n, k)).lookup x = some .cell ∨
    (names.map fun (n, k) => if (k == NameKind.free && env.scope.kind == .function && env.kindOf n == some .cell) then (n, NameKind.cell) else (n, k)).lookup x = some .free
  | [], _, h => by simp at h
  | (n, q) :: r, x, h => by
    have ih := @relabel_free env r x
    show List.lookup x ((if (q == NameKind.free && env.scope.kind == .function && env.kindOf n == some .cell) = true then (n, NameKind.cell) else (n, q)) :: _) = _ ∨
      List.lookup x ((if (q == NameKind.free && env.scope.kind == .function && env.kindOf n == some .cell) = true then (n, NameKind.cell) else (n, q)) :: _) = _
    cases hx : x == n with
    | true =>
      simp only [List.lookup_cons, hx] at h
      cases h
      by_cases hc : (NameKind.free == NameKind.free && env.scope.kind == .function && env.kindOf n == some .cell) = true
      · rw [if_pos hc]; simp [List.lookup_cons, hx]
      · rw [if_neg hc]; simp [List.lookup_cons, hx]
    | false =>
      simp only [List.lookup_cons, hx] at h
      by_cases hc : (q == NameKind.free && env.scope.kind == .function && env.kindOf n == some .cell) = true
      · rw [if_pos hc]; simp only [List.lookup_cons, hx]; exact ih h
      · rw [if_neg hc]; simp only [List.lookup_cons, hx]; exact ih h
theorem relabel_back {env : Env} : ∀ {names : List (Str × NameKind)} {x : Str} {k : NameKind},
    (names.map fun (n, k) => if (k == NameKind.free && env.scope.kind == .function && env.kindOf n == some .cell) then (n, NameKind.cell) else (n, k)).lookup x = some k →
    names.lookup x = some k ∨ names.lookup x = some .free
  | [], _, _, h => by simp at h
  | (n, q) :: r, x, k, h => by
    have ih := @relabel_back env r x k
    have h' : List.lookup x ((if (q == NameKind.free && env.scope.kind == .function && env.kindOf n == some .cell) = true then (n, NameKind.cell) else (n, q)) :: _) = _ := h
    cases hx : x == n with
    | true =>
      by_cases hc : (q == NameKind.free && env.scope.kind == .function && env.kindOf n == some .cell) = true
      · have hq : q = .free := by
          cases q <;> first | rfl | (exact absurd hc (by simp))
        subst hq
        simp [List.lookup_cons, hx]
      · rw [if_neg hc] at h'; simp only [List.lookup_cons, hx] at h' ⊢; exact .inl h'
    | false =>
      by_cases hc : (q == NameKind.free && env.scope.kind == .function && env.kindOf n == some .cell) = true
      · rw [if_pos hc] at h'; simp only [List.lookup_cons, hx] at h' ⊢; exact ih h'
      · rw [if_neg hc] at h'; simp only [List.lookup_cons, hx] at h' ⊢; exact ih h'

/-- a comprehension's scope within a def (or block) of scope sc0 whose names are N0; its own names N, mp: which slot of N0 each free one is -/
structure CompSc (sc0 : Scope) (N0 N : List Str) (mp : List (Option Nat)) (sc : Scope) : Prop where
  kind : sc.kind = .function
  nocell : ∀ y ∈ sc.names, y.2 ≠ .cell
  own : ∀ y ∈ sc.names, y.2 = .local → sc.names.lookup y.1 = some .local
  free : ∀ y ∈ sc.names, y.2 = .free → sc0.names.lookup y.1 = some .cell ∨ sc0.names.lookup y.1 = some .free
  nd : N.Nodup
  len : mp.length = N.length
  map : ((mp.zip N).all fun p => match p.1 with | none => true | some i => (N0[i]? == some p.2) && (sc.names.lookup p.2 == some .free)) = true

def pick (mp : List (Option Nat)) (σ : St) : St := mp.map fun o => o.bind fun i => (σ[i]?).bind id

def blk (X : Cx) (N : List Str) (sc : Scope) (s3 : Shared) (H3 : Hp) (C : Addr) (fp : List Addr) : Cx where
  prog := X.prog
  w := X.w
  K := X.K
  mg := X.mg
  base := X.base
  A := X.A
  N := N
  s₀ := s3
  H₀ := H3
  env := compEnvC sc (closL sc.names X.env.cells) C X.env
  outer := X.stack
  stack := X.stack
  ex := fp
  fn := fun _ => false
  calm := X.calm
  pn := []
  xe := fun _ _ => False

section
variable {X : Cx} {N : List Str} {mp : List (Option Nat)} {sc : Scope} {pins : List (Addr × Obj)} {σ : St} {H : Hp} {s : Shared}

theorem blk_inv {fp : List Addr} {h' : Heap} {m : Str → Option Value} {ob : Obj} {t' : Nat} (S : CompSc X.env.scope X.N N mp sc) (I : Inv X pins σ H s) (hf : ∀ b ∈ fp, FpOk X pins H b ∧ b < s.heap.objs.size)
    (hn : h'.Ns s.heap.objs.size m) (hsb : Heap.SameBut s.heap.objs.size (s.heap.push ob) h') :
    Inv (blk X N sc s H s.heap.objs.size fp) [] (pick mp σ) H { s with heap := h', toks := t' } := by
  have old : ∀ b u, s.heap.get? b = some u → h'.get? b = some u := fun b u e => hsb.extBut b u (Nat.ne_of_lt (Heap.lt_size e)) (Heap.get?_push_of_some _ e)
  have hC : ∀ x c, (closL sc.names X.env.cells).lookup x = some c → X.env.cells.lookup x = some c := fun x c e => closL_sound e
  refine ⟨⟨I.ok.mod, S.kind, I.ok.glob, I.ok.blt, Nat.le_refl _, fun x y c e1 e2 => I.ok.inj x y c (hC x c e1) (hC y c e2), fun x hx => ?_, fun _ _ z _ => absurd (show false = true from z) Bool.false_ne_true, I.ok.hd, I.ok.frames, .inl rfl, fun b hb => ?_, I.bs, Nat.le_trans I.ok.bsz I.sz, fun b o e hb => ?_, fun b hb z => ?_, I.stack, I.stkFree⟩,
    rfl, I.bare, Un.kept old, ⟨m, hn, fun i x v e1 e2 e3 => ?_⟩, fun x c e => ?_, I.hok.fresh (Nat.le_refl _), fun x c e => I.freeC x c (hC x c e), fun p hp => absurd (show p ∈ ([] : List (Addr × Obj)) from hp) (by simp), I.hok.kept old, ?_⟩
  · have hx' : (relabel sc X.env).names.lookup x = some .cell ∨ (relabel sc X.env).names.lookup x = some .free := hx
    have hl : sc.names.lookup x = some .free := by
      rcases hx' with z | z
      · rcases relabel_back z with y | y
        · exact absurd rfl (S.nocell _ (PySem.mem_of_lookup y))
        · exact y
      · rcases relabel_back z with y | y
        · exact y
        · exact y
    have hm := PySem.mem_of_lookup hl
    obtain ⟨c, e⟩ := I.ok.has x (S.free _ hm rfl)
    exact ⟨c, closL_has hm e⟩
  · obtain ⟨⟨f0, f1, f2, f3, f4, f5⟩, hlt⟩ := hf b hb
    exact ⟨Nat.ne_of_lt hlt, fun x c e => f4 x c (hC x c e)⟩
  · obtain ⟨⟨f0, f1, f2, f3, f4, f5⟩, hlt⟩ := hf b hb
    rcases f3 with z | z
    · exact I.ok.noex b o e z
    · exact absurd (Nat.lt_of_lt_of_le (Heap.lt_size (I.ok.bs b o e).1) z) (Nat.lt_irrefl _)
  · obtain ⟨⟨f0, f1, f2, f3, f4, f5⟩, hlt⟩ := hf b hb
    exact (List.mem_cons.mp (I.stkSub b z)).elim f1 f2
  · have e1 : N[i]? = some x := e1
    unfold pick at e2
    rw [List.getElem?_map] at e2
    cases hm : mp[i]? with
    | none => rw [hm] at e2; cases e2
    | some o =>
      rw [hm] at e2
      cases o with
      | none => cases e2
      | some j =>
        have e2' : (σ[j]?).bind id = some v := Option.some.inj e2
        have e4 : σ[j]? = some (some v) := by
          cases q : σ[j]? with
          | none => rw [q] at e2'; cases e2'
          | some z => rw [q] at e2'; exact congrArg some e2'
        have hz : (some j, x) ∈ mp.zip N := by
          refine List.mem_of_getElem? (i := i) ?_
          rw [List.getElem?_zip_eq_some]
          exact ⟨hm, e1⟩
        have ha := List.all_eq_true.mp S.map _ hz
        have ha' : ((X.N[j]? == some x) && (sc.names.lookup x == some .free)) = true := ha
        rw [Bool.and_eq_true] at ha'
        have hN : X.N[j]? = some x := eq_of_beq ha'.1
        have hl : sc.names.lookup x = some .free := eq_of_beq ha'.2
        have hm' := PySem.mem_of_lookup hl
        have hk := S.free _ hm' rfl
        obtain ⟨m0, hn0, hl0⟩ := I.loc
        obtain ⟨u, ru, lk⟩ := hl0 j x v hN e4 (hk.elim (fun z => .inr (.inl z)) fun z => .inr (.inr z))
        refine ⟨u, ru, ?_⟩
        rcases lk with ⟨z, _⟩ | ⟨_, c, ec, oc, hoc, hd⟩
        · have z : X.env.scope.names.lookup x = some .local := z
          rcases hk with y | y
          · rw [z] at y; cases y
          · rw [z] at y; cases y
        · exact .inr ⟨relabel_free hl, c, closL_has hm' ec, oc, old _ _ hoc, hd⟩
  · obtain ⟨v, oc, hoc, hd⟩ := I.cell x c (hC x c e)
    exact ⟨v, oc, old _ _ hoc, hd⟩
  · unfold pick
    rw [List.length_map]
    exact S.len

/-- the tests of a clause -/
def PIf (X : Cx) (ifs : List Expr) (t : TT) : Prop :=
  ∀ (pins : List (Addr × Obj)) (s : Shared) (σ : St) (H : Hp) (Q : Bool → Hp → Prop), Inv X pins σ H s → t σ H Q →
    wpAny (model X.prog X.w) X.A (forIn ifs true fun c r => if r = true then do let ok ← isTrue c X.env (eval c X.env); pure (ForInStep.yield ok) else pure (ForInStep.yield r)) (TP X pins σ Q) X.xe s
def tYes : TT := fun _ H Q => Q true H
theorem pif_nil : PIf X [] tYes := fun pins s σ H Q I h => wpAny_pure ⟨H, I, h⟩
def CompW (J : It) (mp : List (Option Nat)) (g : TG) (ti : TT) (te : TE) (D : Addr) (Q : VK) (σ : St) (H1 : Hp) : Prop := ∃ W : Nat → Nat → St → Hp → Prop, (∃ m, W 0 m (pick mp σ) (upd H1 D (.lst []))) ∧
  ∀ i m σ' H', W i m σ' H' → (J.stop i H' ∧ Q (.ref D) H') ∨ (J.go i H' ∧ ∃ Nx : St → Hp → Prop, (∀ σ2 H2, Nx σ2 H2 → ∃ m', m' < m ∧ W (i + 1) m' σ2 H2) ∧
    ∀ x H'', J.yld i H' x H'' → g x σ' H'' fun σ2 H2 => ti σ2 H2 fun c H3 => if c = true then te σ2 H3 fun y H4 => ∃ ys, H4 D = some (.lst ys) ∧ ys.length < sizeLine ∧ Nx σ2 (upd H4 D (.lst (ys ++ [y]))) else Nx σ2 H3)
def tComp (mp : List (Option Nat)) (wi : TI) (g : TG) (ti : TT) (te : TE) : TE := fun σ H Q => wi σ H fun J H1 => ∀ D, H1 D = none → CompW J mp g ti te D Q σ H1

theorem codeAny_compLoop_go {prog : Program} {w : World} {A : Around} {R : Result → Shared → Prop} {s : Shared} {elt target iter : Expr} {ifs : List Expr} {scope : Scope} {pos : Pos} {it acc : Value} {env : Env} (I : Nat → Shared → Prop)
    (turn : ∀ n s, I n s → wpAny (model prog w) A (pyNext it) (fun r s₁ => match r with
      | none => R (.ok .next) s₁
      | some v => wpAny (model prog w) A (letOwnedTupleGo target it v) (fun _ s₁' => wpAny (model prog w) A (assign target env v) (fun _ s₂ =>
          wpAny (model prog w) A (forIn ifs true fun c r => if r = true then do let ok ← isTrue c env (eval c env); pure (ForInStep.yield ok) else pure (ForInStep.yield r)) (fun ok s₃ =>
            if ok = true then wpAny (model prog w) A (eval elt env) (fun x s₄ =>
              wpAny (model prog w) A (call (.builtin "list.append") [acc, x]) (fun _ s₅ => ∃ m, m < n ∧ I m s₅) (fun _ _ => False) s₄) (fun _ _ => False) s₃
            else ∃ m, m < n ∧ I m s₃) (fun _ _ => False) s₂) (fun _ _ => False) s₁') (fun _ _ => False) s₁) (fun _ _ => False) s)
    (n : Nat) (h : I n s) :
    codeAny (model prog w) A (.compLoop (.ListComp elt [⟨target, iter, ifs, 0⟩] scope pos) 0 it acc env) R s := by
  refine codeAny_loop rfl I (fun n s hI => ?_) n h
  show wpAny _ A ((compTurn (.ListComp elt [⟨target, iter, ifs, 0⟩] scope pos) 0 it acc env).onRaise (fun x => do noteFrame x env; theTreesLotGoes x)) _ _ s
  refine wpAny_noted (wpAny_noRaise ?_)
  rw [compTurn_list]
  refine wpAny_bind (wpAny_standAt (wpAny_bind (wpAny_mono (turn n s hI) (fun r s₁ h₁ => ?_) fun _ _ h' => h')))
  cases r with
  | none => exact wpAny_pure h₁
  | some v =>
    refine wpAny_bind (wpAny_mono h₁ (fun _ s₁' h₁' => ?_) fun _ _ h' => h')
    refine wpAny_bind (wpAny_mono h₁' (fun _ s₂ h₂ => wpAny_bind (wpAny_mono h₂ (fun ok s₃ h₃ => ?_) fun _ _ h' => h')) fun _ _ h' => h')
    cases ok with
    | false => exact wpAny_pure ⟨rfl, h₃⟩
    | true =>
      exact wpAny_bind (wpAny_bind (wpAny_mono h₃ (fun x s₄ h₄ => wpAny_bind (wpAny_mono h₄ (fun _ s₅ h₅ => wpAny_pure (wpAny_pure ⟨rfl, h₅⟩)) fun _ _ h' => h')) fun _ _ h' => h'))

theorem pe_comp {elt tg iter : Expr} {ifs : List Expr} {pos : Pos} {wi : TI} {g : TG} {ti : TT} {te : TE} (hc : X.calm = true) (S : CompSc X.env.scope X.N N mp sc) (hi : PI X tg iter wi)
    (hb : ∀ s3 H3 C fp, PG (blk X N sc s3 H3 C fp) tg g ∧ PIf (blk X N sc s3 H3 C fp) ifs ti ∧ PE (blk X N sc s3 H3 C fp) elt te)
    (hs : ∀ x, foldedSetIterable iter X.env x = pure x := by intro _; rfl) : PE X (.ListComp elt [⟨tg, iter, ifs, 0⟩] sc pos) (tComp mp wi g ti te) := by
  intro pins s σ H Q I h
  rw [eval_ListComp]
  refine wpAny_comprehension_free (use := none) rfl hs (closureFor_eq (fun x hx hf => I.ok.has x.1 (S.free x hx hf))) S.kind S.own (thn (hi pins s σ H _ I h) fun v s1 h1 => thn h1 fun itv s2 h2 => ?_)
  obtain ⟨it, fp, tn, J, H2, rfl, I2, T, st2, f2, q⟩ := h2
  refine wpAny_newObj_type (wpAny_newFunctionEnv S.nocell (by intro y hy; simp at hy) (fun h₁ hns₁ hsb₁ => ?_) S.kind)
  dsimp only at hns₁ hsb₁ ⊢
  have hD : H2 s2.heap.objs.size = none := I2.hok.fresh (Nat.le_refl _)
  obtain ⟨W, ⟨m0, w0⟩, turn⟩ := q _ hD
  have I3 : Inv X pins σ (upd H2 s2.heap.objs.size (.lst [])) { s2 with heap := s2.heap.push { cls := .type "list", dict := none, data := .seq ([] : List Value).toArray } } :=
    I2.laid (t' := s2.toks) (o := .lst []) (fun b o e => Heap.get?_push_of_some _ e) (Nat.le_refl _) ⟨Nat.zero_le _, [], 0, .nil, Heap.get?_push_size _ rfl⟩
  have hDfp : s2.heap.objs.size ∉ fp := fun z => by
    obtain ⟨o, e, _⟩ := T.obj 0 _ st2 _ z
    exact absurd (Heap.lt_size e) (Nat.lt_irrefl _)
  have hf3 : ∀ b ∈ fp, FpOk X pins (upd H2 s2.heap.objs.size (.lst [])) b ∧ b < (s2.heap.push { cls := .type "list", dict := none, data := .seq ([] : List Value).toArray }).objs.size := fun b hb => by
    obtain ⟨o, e, _⟩ := T.obj 0 _ st2 b hb
    have hlt := Heap.lt_size e
    obtain ⟨f0, f1⟩ := f2 b hb
    refine ⟨⟨?_, f1⟩, ?_⟩
    · rw [upd_ne (Nat.ne_of_lt hlt)]; exact f0
    · rw [Heap.size_push]; exact Nat.lt_succ_of_lt hlt
  have IY := blk_inv (N := N) (mp := mp) (sc := sc) (t' := s2.toks + ([] : List (Str × Value)).length) S I3 hf3 hns₁ hsb₁
  have old4 : ∀ b o, s2.heap.get? b = some o → h₁.get? b = some o := fun b o e => by
    have e3 : (s2.heap.push { cls := .type "list", dict := none, data := .seq ([] : List Value).toArray }).get? b = some o := Heap.get?_push_of_some _ e
    exact hsb₁.extBut b o (Nat.ne_of_lt (Heap.lt_size e3)) (Heap.get?_push_of_some _ e3)
  have st4 : tn 0 h₁ := T.keep _ _ _ st2 fun b _ o e => old4 b o e
  have fpY : ∀ {H' : Hp}, (∀ b ∈ fp, H' b = none) → ∀ b ∈ fp, FpOk (blk X N sc { s2 with heap := s2.heap.push { cls := .type "list", dict := none, data := .seq ([] : List Value).toArray } } (upd H2 s2.heap.objs.size (.lst [])) (s2.heap.push { cls := .type "list", dict := none, data := .seq ([] : List Value).toArray }).objs.size fp) [] H' b := fun hn b hb => by
    obtain ⟨x1, x2⟩ := hf3 b hb
    obtain ⟨f0, f1, f2', f3, f4, f5⟩ := x1
    exact ⟨hn b hb, Nat.ne_of_lt x2, fun z => (List.mem_cons.mp (I3.stkSub b z)).elim f1 f2', .inl hb, fun x c e => f4 x c (closL_sound e), fun p hp => absurd (show p ∈ ([] : List (Addr × Obj)) from hp) (by simp)⟩
  obtain ⟨hg, hif, he⟩ := id (hb { s2 with heap := s2.heap.push { cls := .type "list", dict := none, data := .seq ([] : List Value).toArray } } (upd H2 s2.heap.objs.size (.lst [])) (s2.heap.push { cls := .type "list", dict := none, data := .seq ([] : List Value).toArray }).objs.size fp)
  have loop : codeAny (model X.prog X.w) X.A (.compLoop (.ListComp elt [⟨tg, iter, ifs, 0⟩] sc pos) 0 (.ref it) (.ref s2.heap.objs.size) (compEnvC sc (closL sc.names X.env.cells) (s2.heap.push { cls := .type "list", dict := none, data := .seq ([] : List Value).toArray }).objs.size X.env))
      (compPost (model X.prog X.w) X.A X.xe none (EP X pins σ Q) (.ref s2.heap.objs.size) (s2.heap.push { cls := .type "list", dict := none, data := .seq ([] : List Value).toArray }).objs.size) { s2 with heap := h₁, toks := s2.toks + ([] : List (Str × Value)).length } := by
    refine codeAny_compLoop_go (fun n s' => ∃ i σ' H', Inv (blk X N sc { s2 with heap := s2.heap.push { cls := .type "list", dict := none, data := .seq ([] : List Value).toArray } } (upd H2 s2.heap.objs.size (.lst [])) (s2.heap.push { cls := .type "list", dict := none, data := .seq ([] : List Value).toArray }).objs.size fp) [] σ' H' s' ∧
      tn i s'.heap ∧ (∀ b ∈ fp, H' b = none) ∧ W i n σ' H') ?_ m0 ⟨0, _, _, IY, st4, fun b hb => (hf3 b hb).1.1, w0⟩
    rintro n s5 ⟨i, σ5, H5, I5, st5, fr5, w5⟩
    rcases turn i n σ5 H5 w5 with ⟨stop, qn⟩ | ⟨go, Nx, hN, step⟩
    · refine thn (T.done (blk X N sc { s2 with heap := s2.heap.push { cls := .type "list", dict := none, data := .seq ([] : List Value).toArray } } (upd H2 s2.heap.objs.size (.lst [])) (s2.heap.push { cls := .type "list", dict := none, data := .seq ([] : List Value).toArray }).objs.size fp) rfl rfl rfl hc i [] s5 σ5 H5 _ I5 (fpY fr5) st5 stop) fun r s6 ⟨hr, I6⟩ => ?_
      subst hr
      obtain ⟨m6, hn6, _⟩ := id I6.loc
      refine ⟨m6, hn6, fun h7 hs7 => ?_⟩
      have un : Un (frs X.stack) fp (upd H2 s2.heap.objs.size (.lst [])) H5 (s2.heap.push { cls := .type "list", dict := none, data := .seq ([] : List Value).toArray }) s6.heap := I6.base
      have ne : ∀ b o, (s2.heap.push { cls := .type "list", dict := none, data := .seq ([] : List Value).toArray }).get? b = some o → b ≠ (s2.heap.push { cls := .type "list", dict := none, data := .seq ([] : List Value).toArray }).objs.size := fun b o e => Nat.ne_of_lt (Heap.lt_size e)
      have un7 : Un (frs X.stack) fp (upd H2 s2.heap.objs.size (.lst [])) H5 (s2.heap.push { cls := .type "list", dict := none, data := .seq ([] : List Value).toArray }) h7 := by
        refine ⟨fun b o e nn hb hx => hs7.extBut b o (ne b o e) (un.keep b o e nn hb hx), fun b o e nn hb hx => ?_, un.free, fun b o e hx => ?_, un.tups, un.frzs, un.tbls⟩
        · obtain ⟨sl, z⟩ := un.slot b o e nn hb hx
          exact ⟨sl, hs7.extBut b _ (ne b o e) z⟩
        · obtain ⟨o', z⟩ := un.there b o e hx
          exact ⟨o', hs7.extBut b o' (ne b o e) z⟩
      have hok7 : HOk X.prog X.w H5 h7 := HOk.but I6.hok I6.free fun b o hb e => hs7.extBut b o hb e
      refine ⟨.ref s2.heap.objs.size, H5, I3.call' (s' := { s6 with heap := h7 }) (ch := fp) I6.os un7 hok7 I6.bare fun b hb => ?_, rfl, qn⟩
      obtain ⟨⟨f0, f1, f2', f3, f4, f5⟩, _⟩ := hf3 b hb
      exact ⟨f3, f1, f4, f5⟩
    · refine thn (T.item (blk X N sc { s2 with heap := s2.heap.push { cls := .type "list", dict := none, data := .seq ([] : List Value).toArray } } (upd H2 s2.heap.objs.size (.lst [])) (s2.heap.push { cls := .type "list", dict := none, data := .seq ([] : List Value).toArray }).objs.size fp) rfl rfl rfl hc i [] s5 σ5 H5 _ I5 (fpY fr5) st5 go) fun r s6 ⟨u, hr, h6⟩ => ?_
      subst hr
      refine thn h6 fun _ s7 ⟨x, H7, I7, r7, y7, st7, fr7⟩ => ?_
      have I7' := I7.pinned (fpY fr7) (T.obj _ _ st7)
      refine thn (hg _ s7 σ5 H7 x u _ I7' r7 (step x H7 y7)) fun _ s8 ⟨σ8, H8, I8, q8⟩ => ?_
      refine thn (hif _ s8 σ8 H8 _ I8 q8) fun ok s9 ⟨H9, I9, q9⟩ => ?_
      have again : ∀ {σ' : St} {H' : Hp} {s' : Shared}, Inv (blk X N sc { s2 with heap := s2.heap.push { cls := .type "list", dict := none, data := .seq ([] : List Value).toArray } } (upd H2 s2.heap.objs.size (.lst [])) (s2.heap.push { cls := .type "list", dict := none, data := .seq ([] : List Value).toArray }).objs.size fp) ([] ++ pinsAt fp s7.heap) σ' H' s' → Nx σ' H' →
          ∃ m, m < n ∧ ∃ i σ' H', Inv (blk X N sc { s2 with heap := s2.heap.push { cls := .type "list", dict := none, data := .seq ([] : List Value).toArray } } (upd H2 s2.heap.objs.size (.lst [])) (s2.heap.push { cls := .type "list", dict := none, data := .seq ([] : List Value).toArray }).objs.size fp) [] σ' H' s' ∧ tn i s'.heap ∧ (∀ b ∈ fp, H' b = none) ∧ W i m σ' H' := fun {σ' H' s'} J nx => by
        obtain ⟨m', hm, w'⟩ := hN σ' H' nx
        refine ⟨m', hm, i + 1, σ', H', J.unpinned, T.keep _ _ _ st7 fun b hb o e => (J.pin (b, o) (List.mem_append_right _ (List.mem_append_right _ (mem_pinsAt hb e)))).1, fun b hb => ?_, w'⟩
        obtain ⟨o, e, d⟩ := T.obj _ _ st7 b hb
        exact (J.pin (b, o) (List.mem_append_right _ (List.mem_append_right _ (mem_pinsAt hb e)))).2.1
      cases ok with
      | false =>
        rw [if_neg Bool.false_ne_true] at q9 ⊢
        exact again I9 q9
      | true =>
        rw [if_pos rfl] at q9 ⊢
        refine thn (he _ s9 σ8 H9 _ I9 q9) fun yv s10 ⟨y, H10, I10, ry, ys, hy, hl, nx⟩ => ?_
        refine thn (mt_append _ s10 σ8 H10 (.ref s2.heap.objs.size) [y] (.ref s2.heap.objs.size) [yv] (fun v H' => v = .non ∧ H' = upd H10 s2.heap.objs.size (.lst (ys ++ [y]))) I10 rfl (.cons ry .nil) ⟨_, ys, y, rfl, rfl, hy, hl, rfl, rfl⟩) fun _ s11 ⟨_, H11, I11, _, _, e11⟩ => ?_
        subst e11
        exact again I11 nx
  exact codeAny_compStart_list loop (T.self X.A 0 _ _ _ st4 loop)
end
end L2

set_option Elab.async false
set_option linter.all false
set_option maxRecDepth 100000
set_option maxHeartbeats 4000000
namespace L2
open PySem PySem.Spec PyProof.Rows

/-! ### texts by their codes -/
abbrev S (l : List Nat) : Str := ⟨l.toArray⟩
theorem S_length (l : List Nat) : (S l).length = l.length := by simp [Str.length]
theorem S_cps (l : List Nat) : (S l).cps.toList = l := by simp
theorem S_inj {a b : List Nat} : S a = S b ↔ a = b := by
  constructor
  · intro h
    have := congrArg (fun x : Str => x.cps.toList) h
    simpa using this
  · rintro rfl; rfl
theorem S_of (x : Str) : S x.cps.toList = x := by cases x; simp
theorem S_app (a b : List Nat) : S a ++ S b = S (a ++ b) := by
  show Str.mk _ = Str.mk _
  simp

def cutL {α : Type} (l : List α) (lo hi : Option Int) : List α := (l.drop (HT.sIx l.length 0 lo)).take (HT.sIx l.length l.length hi - HT.sIx l.length 0 lo)

section
variable {X : Cx}

theorem sIx_some (n d : Nat) (v : Int) : ((HT.sIx n d (some v) : Nat) : Int) = max 0 (min (if v < 0 then v + (n : Int) else v) (n : Int)) := by
  show (((if v < 0 then (v + (n : Int)).toNat else min v.toNat n) : Nat) : Int) = _
  by_cases h : v < 0
  · rw [if_pos h, if_pos h]; (first | lia | omega)
  · rw [if_neg h, if_neg h]; (first | lia | omega)
theorem idx_norm (lo hi : Option Int) (n : Nat) : Builtin.Str.strSliceIndices lo hi 1 n = Builtin.Str.strSliceIndices (some ((HT.sIx n 0 lo : Nat) : Int)) (some ((HT.sIx n n hi : Nat) : Int)) 1 n := by
  have a1 : ∀ k : Nat, ¬ ((k : Int) < 0) := fun k => by (first | lia | omega)
  have b1 := HT.sIx_le n 0 (Nat.zero_le _) lo
  have b2 := HT.sIx_le n n (Nat.le_refl _) hi
  have c1 : ∀ k : Nat, k ≤ n → max (0 : Int) (min (k : Int) (n : Int)) = k := fun k hk => by (first | lia | omega)
  unfold Builtin.Str.strSliceIndices
  simp only [show (1 : Int) > 0 by decide, if_true, a1, if_false, c1 _ b1, c1 _ b2]
  congr 1
  · cases lo with
    | none => rfl
    | some v => exact (sIx_some n 0 v).symm
  · cases hi with
    | none => rfl
    | some v => exact (sIx_some n n v).symm
theorem slice_S (l : List Nat) (lo hi : Option Int) : Txt.slice (S l) lo hi = S (cutL l lo hi) := by
  have hl : (S l).length = l.length := S_length l
  have b1 := HT.sIx_le l.length 0 (Nat.zero_le _) lo
  have b2 := HT.sIx_le l.length l.length (Nat.le_refl _) hi
  unfold Txt.slice
  rw [idx_norm lo hi, hl]
  by_cases hab : HT.sIx l.length 0 lo ≤ HT.sIx l.length l.length hi
  · have key := StrLaws.sliceText_nat (S l) hab (by rw [hl]; exact b2)
    unfold StrLaws.sliceText at key
    rw [hl] at key
    rw [key]
    unfold cutL
    simp
  · have e : Builtin.Str.strSliceIndices (some ((HT.sIx l.length 0 lo : Nat) : Int)) (some ((HT.sIx l.length l.length hi : Nat) : Int)) 1 l.length = [] := by
      have a1 : ∀ k : Nat, ¬ ((k : Int) < 0) := fun k => by (first | lia | omega)
      have c1 : ∀ k : Nat, k ≤ l.length → max (0 : Int) (min (k : Int) (l.length : Int)) = k := fun k hk => by (first | lia | omega)
      unfold Builtin.Str.strSliceIndices
      simp only [show (1 : Int) > 0 by decide, if_true, a1, if_false, c1 _ b1, c1 _ b2]
      unfold sliceRange
      simp
      (first | lia | omega)
    rw [e]
    have hne : l.length ≠ 0 := by (first | lia | omega)
    have hne' : ((1 : Int) == 1 && ([] : List Nat).length == l.length) = false := by
      simp only [beq_self_eq_true, Bool.true_and, List.length_nil]
      exact beq_false_of_ne (Ne.symm hne)
    rw [if_neg (by rw [hne']; decide)]
    unfold cutL
    have : HT.sIx l.length l.length hi - HT.sIx l.length 0 lo = 0 := by (first | lia | omega)
    rw [this]
    simp
def rSlS : V → Option Int → Option Int → Hp → VK → Prop := fun x lo hi H Q => ∃ l, x = .str (S l) ∧ l.length ≤ sizeLine ∧ Q (.str (S (cutL l lo hi))) H
theorem sl_str : SlR X rSlS := by
  intro pins s σ H x v vl vu lo hi sl Q I rx hs pl pu h
  obtain ⟨l, rfl, hz, q⟩ := h
  obtain ⟨t, rfl⟩ := rx
  refine ⟨"str", _, F.slot_str_getitem.lookup, typeIs_str _ _ _, ?_⟩
  have key : ∀ l' u' : Option (Int × Tok), vl = partValue l' → vu = partValue u' → l'.map (·.1) = lo → u'.map (·.1) = hi → wpAny (model X.prog X.w) X.A (getItem (.str (S l) t) (.ref sl)) (EP X pins σ Q) X.xe s := by
    rintro l' u' rfl rfl rfl rfl
    refine wpAny_getItem_str_slice (l := l') (u := u') (st := none) hs rfl (post_val_or_str ?_)
    have e : (if ((((none : Option (Int × Tok)).map (·.1)).getD 1) == 1 && (slicePicked (S l) l' u' none).length == (S l).length) = true then S l else ⟨((slicePicked (S l) l' u' none).filterMap ((S l).cps[·]?)).toArray⟩) = S (cutL l (l'.map (·.1)) (u'.map (·.1))) := slice_S l _ _
    refine ⟨?_, fun t' k => ?_⟩
    · rw [e, S_length]
      unfold cutL
      rw [List.length_take, List.length_drop]
      (first | lia | omega)
    · rw [e]
      exact ⟨.str _, H, I.tok _, ⟨_, rfl⟩, q⟩
  cases pl with
  | none =>
    cases pu with
    | none => exact key none none rfl rfl rfl rfl
    | int j t' => exact key none (some (j, t')) rfl rfl rfl rfl
  | int i t1 =>
    cases pu with
    | none => exact key (some (i, t1)) none rfl rfl rfl rfl
    | int j t' => exact key (some (i, t1)) (some (j, t')) rfl rfl rfl rfl

/-! ### startswith, endswith -/
theorem pre_take (a b : List Nat) : (b.length ≤ a.length ∧ a.take b.length = b) ↔ b.isPrefixOf a = true := by
  rw [List.isPrefixOf_iff_prefix]
  constructor
  · rintro ⟨_, h⟩; rw [List.prefix_iff_eq_take]; exact h.symm
  · intro h; exact ⟨h.length_le, (List.prefix_iff_eq_take.mp h).symm⟩
/-! ### in -/
def within (a b : List Nat) : Bool := (List.range (b.length + 1)).any fun i => a.isPrefixOf (b.drop i)
theorem in_S (a b : List Nat) : (!(Builtin.Str.occurrences (S b) (S a) 0 (S b).length 1).isEmpty) = within a b := by
  rw [Bool.eq_iff_iff, StrLaws.found_iff]
  unfold within
  rw [List.any_eq_true]
  constructor
  · rintro ⟨i, h1, h2⟩
    rw [S_length, S_length] at h1
    rw [StrLaws.subAt_eq, S_length, S_cps, S_cps] at h2
    refine ⟨i, List.mem_range.mpr (by (first | lia | omega)), ?_⟩
    rw [← pre_take]
    exact ⟨by rw [List.length_drop]; (first | lia | omega), by simpa using h2⟩
  · rintro ⟨i, hi, h⟩
    rw [← pre_take] at h
    have hi := List.mem_range.mp hi
    obtain ⟨h1, h2⟩ := h
    rw [List.length_drop] at h1
    refine ⟨i, by rw [S_length, S_length]; (first | lia | omega), ?_⟩
    rw [StrLaws.subAt_eq, S_length, S_cps, S_cps]
    simpa using h2
def rInS : R2 := fun x y H Q => ∃ a b, x = .str (S a) ∧ y = .str (S b) ∧ Q (.bl (within a b)) H
theorem op_inS : OpR X (compareOp .In) rInS := by
  intro pins s σ H x y v u Q I rx ry h
  obtain ⟨a, b, rfl, rfl, q⟩ := h
  exact op_in_str pins s σ H _ _ v u Q I rx ry ⟨S a, S b, rfl, rfl, by rw [in_S]; exact q⟩

/-! ### + and * -/
def rAddS : R2 := fun x y H Q => ∃ a b, x = .str (S a) ∧ y = .str (S b) ∧ a.length + b.length ≤ sizeLine ∧ Q (.str (S (a ++ b))) H
theorem op_addS : OpR X (binaryOp .Add) rAddS := by
  intro pins s σ H x y v u Q I rx ry h
  obtain ⟨a, b, rfl, rfl, hz, q⟩ := h
  exact op_add_str pins s σ H _ _ v u Q I rx ry ⟨S a, S b, rfl, rfl, by rw [S_length, S_length]; exact hz, by rw [S_app]; exact q⟩
theorem foldl_app (a : List Nat) : ∀ (n : Nat) (acc : Array Nat), (List.replicate n a.toArray).foldl (· ++ ·) acc = acc ++ (List.replicate n a).flatten.toArray
  | 0, acc => by simp
  | n + 1, acc => by
    rw [List.replicate_succ, List.foldl_cons, foldl_app a n, List.replicate_succ, List.flatten_cons]
    simp
theorem mul_S (a : List Nat) (n : Nat) : Txt.mul (S a) (n : Int) = S (List.replicate n a).flatten := by
  unfold Txt.mul
  by_cases h0 : (n : Int) < 1
  · have : n = 0 := by (first | lia | omega)
    subst this
    rw [if_pos h0]
    rfl
  · rw [if_neg h0]
    by_cases h1 : ((n : Int) == 1 || (S a).length == 0) = true
    · rw [if_pos h1]
      rw [Bool.or_eq_true] at h1
      rcases h1 with h1 | h1
      · have : n = 1 := by have := eq_of_beq h1; (first | lia | omega)
        subst this
        simp
      · rw [S_length] at h1
        have : a = [] := by simpa using h1
        subst this
        simp
    · rw [if_neg h1]
      show Str.mk _ = Str.mk _
      congr 1
      have e : (n : Int).toNat = n := by (first | lia | omega)
      rw [e, foldl_app]
      simp
def rMulS : R2 := fun x y H Q => ∃ a, ∃ n : Nat, x = .str (S a) ∧ y = .int (n : Int) ∧ n ≤ 1000 ∧ a.length ≤ 1000 ∧ Q (.str (S (List.replicate n a).flatten)) H
theorem op_mulS : OpR X (binaryOp .Mult) rMulS := by
  intro pins s σ H x y v u Q I rx ry h
  obtain ⟨a, n, rfl, rfl, hn, ha, q⟩ := h
  obtain ⟨t, rfl⟩ := rx
  obtain ⟨t', rfl⟩ := ry
  have hs : sizeLine = 16777216 := sizeLine_eq
  have hm : a.length * n ≤ 1000 * 1000 := Nat.mul_le_mul ha hn
  refine SB.mul ⟨?_, fun h1 _ => ?_, fun _ _ => ?_⟩ fun t' k => by rw [mul_S]; exact ⟨.str _, H, I.tok _, ⟨_, rfl⟩, q⟩
  · have e1 : decide ((n : Int) < -(2 ^ 63 : Int)) = false := decide_eq_false (by (first | lia | omega))
    have e2 : decide ((n : Int) ≥ 2 ^ 63) = false := decide_eq_false (by (first | lia | omega))
    rw [e1, e2]; rfl
  · rw [S_length]
    have h2 : (2 ^ 63 - 1 : Int) / 1000 ≤ (2 ^ 63 - 1) / (n : Int) := by
      have : (1 : Int) ≤ n := by (first | lia | omega)
      exact Int.le_ediv_of_mul_le (by (first | lia | omega)) (by
        have h3 : (2 ^ 63 - 1 : Int) / 1000 * (n : Int) ≤ (2 ^ 63 - 1 : Int) / 1000 * 1000 := Int.mul_le_mul_of_nonneg_left (by (first | lia | omega)) (by decide)
        have h4 : (2 ^ 63 - 1 : Int) / 1000 * 1000 ≤ 2 ^ 63 - 1 := by decide
        (first | lia | omega))
    have h5 : (1000 : Int) < (2 ^ 63 - 1 : Int) / 1000 := by decide
    (first | lia | omega)
  · unfold Builtin.Str.tooLong
    rw [S_length]
    simp
    (first | lia | omega)

/-! ### items, len -/
def rIxSS : R2 := fun x y H Q => ∃ l i c, x = .str (S l) ∧ y = .int i ∧ l.length ≤ sizeLine ∧ atI l i = some c ∧ Q (.str (S [c])) H
theorem ix_S : IxR X rIxSS := by
  intro value slice pins s σ H x y v u Q I rx ry h hs
  obtain ⟨l, i, c, rfl, rfl, hz, he, q⟩ := h
  exact ix_str value slice pins s σ H _ _ v u Q I rx ry ⟨S l, i, c, rfl, rfl, by rw [S_length]; exact hz, by rw [S_cps]; exact he, q⟩ hs

/-! ### walking a text -/
def Its (l : List Nat) : It := ⟨fun i _ => i < l.length, fun i H v H' => H' = H ∧ ∃ c, l[i]? = some c ∧ v = .str (S [c]), fun i _ => l.length ≤ i⟩
theorem turn_str {P : Program} {w : World} {K : PySem.W.Frag} {tg : Expr} {l : List Nat} {t : Tok} {it : Addr} {ty : String}
    (hW : ∀ A' : Around, A'.handled = none → Walks P w A' it [it] [it] (S l).cps.size (SignAt (S l)) (fun i h => h.IsStrIter it ty (S l) t i))
    (hself : ∀ (A : Around) (i : Nat) (s : Shared) (Q : Value → Shared → Prop) (E : Value → Shared → Prop), s.heap.IsStrIter it ty (S l) t i → Q (.ref it) s → wpAny (model P w) A (pyIter (.ref it)) Q E s)
    (hty : ["enumerate", "zip", "dict_itemiterator", "dict_reverseitemiterator", "odict_iterator", "itertools.zip_longest", "itertools.pairwise"].contains ty = false) :
    Turn P w K tg (Its l) [it] it (fun i h => i ≤ l.length ∧ h.IsStrIter it ty (S l) t i) where
  mem := by simp
  obj := fun i h st b hb => by
    have e : b = it := by simpa using hb
    subst e
    obtain ⟨_, o, e, c, d⟩ := st
    exact ⟨o, e, fun v z => by rw [d] at z; cases z⟩
  keep := fun i h h' st k => by
    obtain ⟨hi, o, e, r⟩ := st
    exact ⟨hi, o, k it (by simp) o e, r⟩
  item := by
    intro X hP hw hK hc i pins s σ H E I hf st hg
    subst hP hw hK
    obtain ⟨f0, f1, f2, f3, f4, f5⟩ := hf it (by simp)
    have hg' : i < l.length := hg
    refine (hW X.A (I.ok.hd hc)).item i s _ E (by simpa using hg') st.2 fun v h' tk hv st' hk => ?_
    have I1 : Inv X pins σ H { s with heap := h', toks := tk } := I.turned (t' := tk) (fun b o hb e => hk b o (by simpa using hb) e) f0 f1 f3 f4 f5
    obtain ⟨c, u, hc', rfl⟩ := hv
    obtain ⟨o, e, cl, d⟩ := id st'
    exact ⟨_, rfl, go_of (s := { s with heap := h', toks := tk }) e cl d hty ⟨.str (S [c]), H, I1, ⟨_, rfl⟩, ⟨rfl, c, by simpa using hc', rfl⟩, ⟨hg', st'⟩, fun b hb => (hf b hb).1⟩⟩
  done := by
    intro X hP hw hK hc i pins s σ H E I hf st hg
    subst hP hw hK
    obtain ⟨f0, f1, f2, f3, f4, f5⟩ := hf it (by simp)
    have hg' : l.length ≤ i := hg
    have e : i = (S l).cps.size := by have := st.1; simp; (first | lia | omega)
    subst e
    exact (hW X.A (I.ok.hd hc)).done s _ E st.2 fun h' tk hk => ⟨rfl, I.turned (t' := tk) (fun b o hb e => hk b o (by simpa using hb) e) f0 f1 f3 f4 f5⟩
  self := fun A i s Q E st h => hself A i s Q E st.2 h
def iStr (tl : TE) : TI := fun σ H R => tl σ H fun x H1 => ∃ l, x = .str (S l) ∧ R (Its l) H1
theorem pi_str {tg l : Expr} {tl : TE} (hl : PE X l tl) : PI X tg l (iStr tl) := by
  intro pins s σ H R I h
  refine thn (hl pins s σ H _ I h) fun v s1 ⟨x, H1, I1, r1, q1⟩ => ?_
  obtain ⟨l, rfl, q⟩ := q1
  obtain ⟨t, rfl⟩ := r1
  have fin : ∀ b ∈ [s1.heap.objs.size], FpOk X pins H1 b := fun b hb => by
    have e : b = s1.heap.objs.size := by simpa using hb
    subst e
    exact I1.fpOk (Nat.le_refl _) (I1.hok.fresh (Nat.le_refl _))
  cases ha : (S l).cps.all (· < 128)
  · refine wpAny_pyIter_wide ha ?_
    exact ⟨s1.heap.objs.size, [s1.heap.objs.size], _, _, H1, rfl, I1.kept (t' := s1.toks) fun b o e => Heap.get?_push_of_some _ e,
      turn_str (fun A' hA => Walks.strWide hA _ (S l) t) (fun A i s Q E st h => wpAny_pyIter_striter_wide st h) (by decide), ⟨Nat.zero_le _, _, Heap.get?_push_size _ rfl, rfl, rfl⟩, fin, q⟩
  · refine wpAny_pyIter_ascii ha ?_
    exact ⟨s1.heap.objs.size, [s1.heap.objs.size], _, _, H1, rfl, I1.kept (t' := s1.toks) fun b o e => Heap.get?_push_of_some _ e,
      turn_str (fun A' hA => Walks.strAscii hA _ (S l) t) (fun A i s Q E st h => wpAny_pyIter_striter_ascii st h) (by decide), ⟨Nat.zero_le _, _, Heap.get?_push_size _ rfl, rfl, rfl⟩, fin, q⟩

/-! ### all, any, min, max of a list; isinstance -/
theorem vals_at : ∀ {xs : List V} {us : List Value} {i : Nat} {u : Value}, Vals xs us → us[i]? = some u → ∃ x, xs[i]? = some x ∧ RelV x u
  | _, _, _, _, .nil, e => by simp at e
  | _, _, 0, _, .cons r _, e => by simp at e; subst e; exact ⟨_, rfl, r⟩
  | _, _, i + 1, u, .cons _ t, e => by
    obtain ⟨x, h1, h2⟩ := vals_at (i := i) (u := u) t (by simpa using e)
    exact ⟨x, by simpa using h1, h2⟩
theorem all_range (bs : List Bool) : ((List.range bs.length).all fun i => bs.getD i false) = bs.all id := by
  rw [Bool.eq_iff_iff, List.all_eq_true, List.all_eq_true]
  constructor
  · intro h b hb
    obtain ⟨i, hi, rfl⟩ := List.mem_iff_getElem.mp hb
    have := h i (List.mem_range.mpr hi)
    simpa [List.getD, hi] using this
  · intro h i hi
    have hi := List.mem_range.mp hi
    have := h bs[i] (List.getElem_mem hi)
    simpa [List.getD, hi] using this
theorem any_range (bs : List Bool) : ((List.range bs.length).any fun i => bs.getD i false) = bs.any id := by
  rw [Bool.eq_iff_iff, List.any_eq_true, List.any_eq_true]
  constructor
  · rintro ⟨i, hi, h⟩
    have hi := List.mem_range.mp hi
    exact ⟨bs[i], List.getElem_mem hi, by simpa [List.getD, hi] using h⟩
  · rintro ⟨b, hb, h⟩
    obtain ⟨i, hi, rfl⟩ := List.mem_iff_getElem.mp hb
    exact ⟨i, List.mem_range.mpr hi, by simpa [List.getD, hi] using h⟩
theorem bools_truth {prog : Program} {w : World} {A : Around} {bs : List Bool} {its : List Value} (rv : Vals (bs.map V.bl) its) : TruthOf prog w A (fun i v => its.toArray[i]? = some v) (fun i => bs.getD i false) := by
  intro i v s Q E hv q
  obtain ⟨x, hx, r⟩ := vals_at rv (by simpa using hv)
  rw [List.getElem?_map] at hx
  cases e : bs[i]? with
  | none => rw [e] at hx; cases hx
  | some b =>
    rw [e] at hx
    cases hx
    cases r
    have eb : bs.getD i false = b := by simp [List.getD, e]
    have q' : Q (bs.getD i false) s := q
    rw [eb] at q'
    exact wpAny_truthy_bool q'
theorem call_all (hc : X.calm = true) : CallR X (.builtin "all") (fun xs H Q => ∃ p, ∃ bs : List Bool, xs = [.ref p] ∧ SqL X.K H p (bs.map V.bl) ∧ Q (.bl (bs.all id)) H) := by
  intro pins s σ H xs us Q I r h
  obtain ⟨p, bs, rfl, hq, q⟩ := h
  obtain ⟨u, rfl, r1⟩ := vals1 r
  cases r1
  obtain ⟨its, rv, pl, hz⟩ := I.list hq
  have hl := rv.length
  rw [List.length_map] at hl
  refine call_all_walk (wpAny_pyIter_list pl.isList ?_)
  have hne : p ≠ s.heap.objs.size := by
    obtain ⟨o, e, _⟩ := pl.isList
    exact Nat.ne_of_lt (Heap.lt_size e)
  refine ⟨_, _, _, _, _, _, _, rfl, Walks.list (A := X.A.in1) (I.ok.hd hc) _ p hne its.toArray, ⟨⟨_, Heap.get?_push_size _ rfl, rfl, rfl⟩, pl.isList.at fun o e => Heap.get?_push_of_some _ e⟩, bools_truth rv, fun h' tk hk => ?_⟩
  rw [List.size_toArray, ← hl, all_range]
  refine ⟨.bl _, H, I.kept fun b o e => hk b o ?_ (Heap.get?_push_of_some _ e), rfl, q⟩
  simpa using Nat.ne_of_lt (Heap.lt_size e)
theorem call_any (hc : X.calm = true) : CallR X (.builtin "any") (fun xs H Q => ∃ p, ∃ bs : List Bool, xs = [.ref p] ∧ SqL X.K H p (bs.map V.bl) ∧ Q (.bl (bs.any id)) H) := by
  intro pins s σ H xs us Q I r h
  obtain ⟨p, bs, rfl, hq, q⟩ := h
  obtain ⟨u, rfl, r1⟩ := vals1 r
  cases r1
  obtain ⟨its, rv, pl, hz⟩ := I.list hq
  have hl := rv.length
  rw [List.length_map] at hl
  refine call_any_walk (wpAny_pyIter_list pl.isList ?_)
  have hne : p ≠ s.heap.objs.size := by
    obtain ⟨o, e, _⟩ := pl.isList
    exact Nat.ne_of_lt (Heap.lt_size e)
  refine ⟨_, _, _, _, _, _, _, rfl, Walks.list (A := X.A.in1) (I.ok.hd hc) _ p hne its.toArray, ⟨⟨_, Heap.get?_push_size _ rfl, rfl, rfl⟩, pl.isList.at fun o e => Heap.get?_push_of_some _ e⟩, bools_truth rv, fun h' tk hk => ?_⟩
  rw [List.size_toArray, ← hl, any_range]
  refine ⟨.bl _, H, I.kept fun b o e => hk b o ?_ (Heap.get?_push_of_some _ e), rfl, q⟩
  simpa using Nat.ne_of_lt (Heap.lt_size e)
theorem call_minL (hc : X.calm = true) : CallR X (.builtin "min") (fun xs H Q => ∃ p, ∃ ns : List Int, xs = [.ref p] ∧ SqL X.K H p (ns.map V.int) ∧ ns ≠ [] ∧ ∀ M, M ∈ ns → (∀ a ∈ ns, M ≤ a) → Q (.int M) H) := by
  intro pins s σ H xs us Q I r h
  obtain ⟨p, ns, rfl, hq, hne, q⟩ := h
  obtain ⟨u, rfl, r1⟩ := vals1 r
  cases r1
  obtain ⟨its, rv, pl, hz⟩ := I.list hq
  have hi := intsAre_of rv
  obtain ⟨ys, e⟩ := hi.allInts.items
  have hns : ns = ys.toList.map (·.1) := by rw [← hi.numsOf, ← nums_intItems, ← e]
  have hsz : 0 < ys.size := by
    have h3 := List.length_pos_iff.mpr hne
    rw [hns, List.length_map, Array.length_toList] at h3; exact h3
  have hl := pl.isList
  rw [e] at hl
  refine min_intList (I.ok.hd hc) hl hsz fun v h' tk hv hk => ?_
  obtain ⟨t, rfl⟩ := intItems_at hv
  obtain ⟨h1, h2⟩ := argBest_lt (numAt ys) (ys.size - 1)
  refine ⟨.int _, H, I.kept hk, ⟨_, rfl⟩, q _ ?_ fun a ha => ?_⟩
  · rw [hns, numAt_eq]; exact getD_mem (by rw [List.length_map, Array.length_toList]; (first | lia | omega))
  · rw [hns] at ha
    obtain ⟨j, hj, rfl⟩ := mem_getD ha
    rw [List.length_map, Array.length_toList] at hj
    rw [← numAt_eq]; exact h2 j (by (first | lia | omega))
theorem call_maxL (hc : X.calm = true) : CallR X (.builtin "max") (fun xs H Q => ∃ p, ∃ ns : List Int, xs = [.ref p] ∧ SqL X.K H p (ns.map V.int) ∧ ns ≠ [] ∧ ∀ M, M ∈ ns → (∀ a ∈ ns, a ≤ M) → Q (.int M) H) := by
  intro pins s σ H xs us Q I r h
  obtain ⟨p, ns, rfl, hq, hne, q⟩ := h
  obtain ⟨u, rfl, r1⟩ := vals1 r
  cases r1
  obtain ⟨its, rv, pl, hz⟩ := I.list hq
  have hi := intsAre_of rv
  obtain ⟨ys, e⟩ := hi.allInts.items
  have hns : ns = ys.toList.map (·.1) := by rw [← hi.numsOf, ← nums_intItems, ← e]
  have hsz : 0 < ys.size := by
    have h3 := List.length_pos_iff.mpr hne
    rw [hns, List.length_map, Array.length_toList] at h3; exact h3
  have hl := pl.isList
  rw [e] at hl
  refine max_intList (I.ok.hd hc) hl hsz fun v h' tk hv hk => ?_
  obtain ⟨t, rfl⟩ := intItems_at hv
  obtain ⟨h1, h2⟩ := argBest_gt (numAt ys) (ys.size - 1)
  refine ⟨.int _, H, I.kept hk, ⟨_, rfl⟩, q _ ?_ fun a ha => ?_⟩
  · rw [hns, numAt_eq]; exact getD_mem (by rw [List.length_map, Array.length_toList]; (first | lia | omega))
  · rw [hns] at ha
    obtain ⟨j, hj, rfl⟩ := mem_getD ha
    rw [List.length_map, Array.length_toList] at hj
    rw [← numAt_eq]; exact h2 j (by (first | lia | omega))
/-! ### == and != of data -/
mutual
inductive DenV (K : PySem.W.Frag) (H : Hp) : V → PyData → Prop
  | non : DenV K H .non .none
  | bl (b : Bool) : DenV K H (.bl b) (.bool b)
  | int (i : Int) : DenV K H (.int i) (.int i)
  | str (x : Str) : DenV K H (.str x) (.str x)
  | lst {a : Addr} {xs : List V} {ds : List PyData} : SqL K H a xs → DenAll K H xs ds → DenV K H (.ref a) (.list ds)
  | tup {a : Addr} {xs : List V} {ds : List PyData} : SqT K H a xs → DenAll K H xs ds → DenV K H (.ref a) (.tuple ds)
inductive DenAll (K : PySem.W.Frag) (H : Hp) : List V → List PyData → Prop
  | nil : DenAll K H [] []
  | cons {x : V} {d : PyData} {xs : List V} {ds : List PyData} : DenV K H x d → DenAll K H xs ds → DenAll K H (x :: xs) (d :: ds)
end
mutual
theorem DenV.reads {pins : List (Addr × Obj)} {σ : St} {H : Hp} {s : Shared} (I : Inv X pins σ H s) : ∀ {x : V} {d : PyData} {u : Value}, DenV X.K H x d → RelV x u → ∃ as, Reads s.heap u d as
  | _, _, _, .non, r => by cases r; exact ⟨_, Reads.none⟩
  | _, _, _, .bl b, r => by cases r; exact ⟨_, Reads.bool b⟩
  | _, _, _, .int i, r => by obtain ⟨t, rfl⟩ := r; exact ⟨_, Reads.int i t⟩
  | _, _, _, .str x, r => by obtain ⟨t, rfl⟩ := r; exact ⟨_, Reads.str x t⟩
  | _, _, _, .lst hq ha, r => by
    cases r
    obtain ⟨its, rv, pl, hz⟩ := I.list hq
    obtain ⟨as, q⟩ := DenAll.reads I ha rv
    obtain ⟨o, e, c, n, hd⟩ := pl.isList
    exact ⟨_, reads_list_at e c hd (by simpa using q)⟩
  | _, _, _, .tup hq ha, r => by
    cases r
    obtain ⟨its, rv, pl, hz⟩ := I.tuple hq
    obtain ⟨as, q⟩ := DenAll.reads I ha rv
    obtain ⟨o, e, c, n, hd⟩ := pl
    exact ⟨_, reads_tuple_at e c hd (by simpa using q)⟩
theorem DenAll.reads {pins : List (Addr × Obj)} {σ : St} {H : Hp} {s : Shared} (I : Inv X pins σ H s) : ∀ {xs : List V} {ds : List PyData} {us : List Value}, DenAll X.K H xs ds → Vals xs us → ∃ as, ReadsAll s.heap us ds as
  | _, _, _, .nil, .nil => ⟨_, ReadsAll.nil⟩
  | _, _, _, .cons h t, .cons r rs => by
    obtain ⟨as, q⟩ := DenV.reads I h r
    obtain ⟨bs, p⟩ := DenAll.reads I t rs
    exact ⟨_, ReadsAll.cons q p⟩
end
end
end L2

set_option Elab.async false
set_option linter.all false
set_option maxRecDepth 100000
set_option maxHeartbeats 4000000
namespace L2
open PySem PySem.Spec PyProof.Rows

/-! ### names within a block -/
section
variable {X : Cx} {N : List Str} {sc : Scope} {s3 : Shared} {H3 : Hp} {C : Addr} {fp : List Addr}
theorem vis_blk {x : Str} (h : sc.names.lookup x = some .local ∨ sc.names.lookup x = some .free) : Vis (relabel sc X.env) x := by
  rcases h with h | h
  · exact .inl (relabel_some h (by decide))
  · rcases relabel_free (env := X.env) h with z | z
    · exact .inr (.inl z)
    · exact .inr (.inr z)
theorem pvb (i : Nat) {x : Str} {pos : Pos} (hN : N[i]? = some x := by rfl) (hv : sc.names.lookup x = some .local ∨ sc.names.lookup x = some .free := by first | exact Or.inl rfl | exact Or.inr rfl)
    (hd : (x == ("__debug__" : Str)) = false := by decide) (hcd : (x == ("__classdict__" : Str)) = false := by decide) : PE (blk X N sc s3 H3 C fp) (.Name x pos) (tVar i) :=
  pe_var (X := blk X N sc s3 H3 C fp) hN (vis_blk (X := X) hv) hd hcd
theorem glb {x : Str} (h : sc.names.lookup x = some .globalImplicit) : Gl (blk X N sc s3 H3 C fp) x := relabel_some h (by decide)
theorem pgb {i : Nat} {x : Str} {pos : Pos} (hnd : N.Nodup) (hN : N[i]? = some x) (h : sc.names.lookup x = some .local) : PG (blk X N sc s3 H3 C fp) (.Name x pos) (gName i) :=
  pg_name (X := blk X N sc s3 H3 C fp) hnd hN (.inl (relabel_some h (by decide))) (.inr (relabel_some h (by decide)))
end

theorem pe_compD (sc0 : Scope) (N0 N : List Str) (mp : List (Option Nat)) {X : Cx} {sc : Scope} {elt tg iter : Expr} {ifs : List Expr} {pos : Pos} {wi : TI} {g : TG} {ti : TT} {te : TE} (S : CompSc sc0 N0 N mp sc) (hi : PI X tg iter wi)
    (hb : ∀ s3 H3 C fp, PG (blk X N sc s3 H3 C fp) tg g ∧ PIf (blk X N sc s3 H3 C fp) ifs ti ∧ PE (blk X N sc s3 H3 C fp) elt te) (hc : X.calm = true := by rfl) (h0 : X.env.scope = sc0 := by rfl) (hN : X.N = N0 := by rfl)
    (hs : ∀ x, foldedSetIterable iter X.env x = pure x := by intro _; rfl) : PE X (.ListComp elt [⟨tg, iter, ifs, 0⟩] sc pos) (tComp mp wi g ti te) := by
  subst h0 hN
  exact pe_comp hc S hi hb hs

/-! ### defs of the text -/
structure Df (P : Program) (w : World) (K : PySem.W.Frag) (mg : Str → Option Value) (base : Heap) (x : Str) (k : Nat) (f : Addr) (fd : FuncData) (ps : List Str) (sp : Sp) : Prop where
  ok : FnOk P w K mg base CX0 k f fd ps sp
  m : mg x = some (.ref f)
  kp : PySem.W.keepIn K (.ref f) = true
  b : Binds K fd ps []
theorem pe_callD {X : Cx} {x : Str} {k k' : Nat} {f : Addr} {fd : FuncData} {ps : List Str} {sp : Sp} {p pos : Pos} {e : Expr} {es : List Expr} {t : TA} (D : Df X.prog X.w X.K X.mg X.base x k f fd ps sp) (hr : Room k' X.A) (hg : Gl X x) (ha : PA X (e :: es) t) (hk : k ≤ k' := by decide)
    (hdb : (x == ("__debug__" : Str)) = false := by decide) (he : starEach (e :: es) X.env = (false, eval e X.env) :: starEach es X.env := by rfl) (hpl : (backTo pos (starEach es X.env)).any (·.1) = false := by rfl) :
    PE X (.Call (.Name x p) (e :: es) [] pos) (tCall sp [] E0 t) := pe_call D.ok (hr.mono hk) hg D.m D.kp D.b .nil pass0 ha hdb he hpl

/-! ### the rules that name the text's written part, by a name for it -/
section
variable {X : Cx} (K : PySem.W.Frag)
theorem ix_listK (h : X.K = K) : IxR X (rIxL K) := by subst h; exact ix_list
theorem call_lenK (h : X.K = K) : CallR X (.builtin "len") (fun xs H Q => ∃ p ys, xs = [.ref p] ∧ (SqL K H p ys ∨ SqT K H p ys) ∧ Q (.int ys.length) H) := by subst h; exact call_len_seq
theorem call_listK (h : X.K = K) : CallR X (.type "list") (fun xs H Q => ∃ p ys, xs = [.ref p] ∧ (SqL K H p ys ∨ SqT K H p ys) ∧ ∀ l, H l = none → Q (.ref l) (upd H l (.lst ys))) := by subst h; exact call_list_of
theorem sl_listK (h : X.K = K) : SlR X (rSlL K) := by subst h; exact sl_list
theorem pi_listK {tg l : Expr} {tl : TE} (h : X.K = K) (hl : PE X l tl) : PI X tg l (iList K tl) := by subst h; exact pi_list hl
theorem call_allK (h : X.K = K) (hc : X.calm = true) : CallR X (.builtin "all") (fun xs H Q => ∃ p, ∃ bs : List Bool, xs = [.ref p] ∧ SqL K H p (bs.map V.bl) ∧ Q (.bl (bs.all id)) H) := by subst h; exact call_all hc
theorem call_anyK (h : X.K = K) (hc : X.calm = true) : CallR X (.builtin "any") (fun xs H Q => ∃ p, ∃ bs : List Bool, xs = [.ref p] ∧ SqL K H p (bs.map V.bl) ∧ Q (.bl (bs.any id)) H) := by subst h; exact call_any hc
theorem call_minK (h : X.K = K) (hc : X.calm = true) : CallR X (.builtin "min") (fun xs H Q => ∃ p, ∃ ns : List Int, xs = [.ref p] ∧ SqL K H p (ns.map V.int) ∧ ns ≠ [] ∧ ∀ M, M ∈ ns → (∀ a ∈ ns, M ≤ a) → Q (.int M) H) := by subst h; exact call_minL hc
theorem call_maxK (h : X.K = K) (hc : X.calm = true) : CallR X (.builtin "max") (fun xs H Q => ∃ p, ∃ ns : List Int, xs = [.ref p] ∧ SqL K H p (ns.map V.int) ∧ ns ≠ [] ∧ ∀ M, M ∈ ns → (∀ a ∈ ns, a ≤ M) → Q (.int M) H) := by subst h; exact call_maxL hc
theorem pe_bmK (h : X.K = K) {o e : Expr} {es : List Expr} {to : TE} {t : TA} {name : Str} {apos cpos : Pos} {T id : String} {r : V → List V → Hp → VK → Prop} (pa : PlainAttrs T) (slot : Slot T name id) (hty : typeOf (.builtin id) = pure (.type "method_descriptor")) (hm : MtR X id r) (ho : PE X o to) (ha : PA X (e :: es) t)
    (hbase : attributeBase o name X.env (eval o X.env) = eval o X.env)
    (hfew : ((backTo cpos (starEach (e :: es) X.env)).all (fun x => !x.1) && (backToKw cpos (keywordEach [] X.env)).all (fun x => x.1.isSome)
      && decide ((e :: es).length + ([] : List Keyword).length + (if ([] : List Keyword).isEmpty then 0 else 1) < 30)) = true)
    (hline : (apos.endLine == cpos.line) = true) (hs : starEach (e :: es) X.env = (false, eval e X.env) :: starEach es X.env) (hplain : (backTo cpos (starEach es X.env)).any (·.1) = false) :
    PE X (.Call (.Attribute o name apos) (e :: es) [] cpos) (tBM K T r to t) := by subst h; exact pe_bm pa slot hty hm ho ha hbase hfew hline hs hplain
end
/-! ### constants -/
section
variable {X : Cx}
theorem pe_gI {x : Str} {i : Int} {pos : Pos} (hg : Gl X x) (h : ∃ t, X.mg x = some (.int i t)) (hd : (x == ("__debug__" : Str)) = false := by decide) : PE X (.Name x pos) (tC (.int i)) := by
  obtain ⟨t, h⟩ := h
  exact pe_glob hg h ⟨t, rfl⟩ hd
theorem pe_gS {x : Str} {l : List Nat} {pos : Pos} (hg : Gl X x) (h : ∃ t, X.mg x = some (.str (S l) t)) (hd : (x == ("__debug__" : Str)) = false := by decide) : PE X (.Name x pos) (tC (.str (S l))) := by
  obtain ⟨t, h⟩ := h
  exact pe_glob hg h ⟨t, rfl⟩ hd
theorem pe_strS (l : List Nat) {x : Str} {j : Nat} {pos : Pos} (h : x = S l := by decide +kernel) : PE X (.Constant (.str x) j pos) (tC (.str (S l))) := by
  subst h
  exact pe_str
theorem call_lenS : CallR X (.builtin "len") (fun xs H Q => ∃ l, xs = [.str (S l)] ∧ l.length ≤ sizeLine ∧ Q (.int l.length) H) := by
  intro pins s σ H xs us Q I r h
  obtain ⟨l, rfl, hz, q⟩ := h
  exact call_len_str pins s σ H _ us Q I r ⟨S l, rfl, by rw [S_length]; exact hz, by rw [S_length]; exact q⟩
end

/-! ### the readings, a step each -/
section
variable {σ : St} {H : Hp} {Q : VK} {D : Ends} {K : PySem.W.Frag}
theorem g_seq {t u : TS} (h : t { D with nx := u D } σ H) : tSeq t u D σ H := h
theorem g_next (h : D.nx σ H) : tNext D σ H := h
theorem g_ret {te : TE} (h : te σ H D.rt) : tRet te D σ H := h
theorem g_drop {te : TE} (h : te σ H fun _ H1 => D.nx σ H1) : tDrop te D σ H := h
theorem g_asg {te : TE} {g : TG} (h : te σ H fun x H1 => g x σ H1 D.nx) : tAsg te g D σ H := h
theorem g_name {i : Nat} {v : V} {R : St → Hp → Prop} (h : R (σ.set i (some v)) H) : gName i v σ H R := h
theorem g_if {c : TT} {t u : TS} (h : c σ H fun b H1 => if b = true then t D σ H1 else u D σ H1) : tIfS c t u D σ H := h
theorem g_varT {i : Nat} (h : ∃ v, σ[i]? = some (some v) ∧ Q v H) : tVar i σ H Q := h
theorem g_c {v : V} (h : Q v H) : tC v σ H Q := h
theorem g_op {r : R2} {ta tb : TE} (h : ta σ H fun x H1 => tb σ H1 fun y H2 => r x y H2 Q) : tOp r ta tb σ H Q := h
theorem g_un {r : V → Hp → VK → Prop} {ta : TE} (h : ta σ H fun x H1 => r x H1 Q) : tUn r ta σ H Q := h
theorem g_rI0 {g : Int → Int → V} {i j : Int} (h : Q (g i j) H) : rI0 g (.int i) (.int j) H Q := ⟨i, j, rfl, rfl, h⟩
theorem g_rI {P : Int → Int → Prop} {g : Int → Int → V} {i j : Int} (c : P i j) (h : Q (g i j) H) : rI P g (.int i) (.int j) H Q := ⟨i, j, rfl, rfl, c, h⟩
theorem g_test {t : TE} {R : Bool → Hp → Prop} (h : t σ H fun x H' => ∃ k, x = .bl k ∧ R k H') : tTest t σ H R := h
theorem g_tb {t : TE} {R : Bool → Hp → Prop} (h : t σ H fun x H' => ∃ k, x = .bl k ∧ R k H') : tB t σ H R := h
theorem g_or {t u : TT} {R : Bool → Hp → Prop} (h : t σ H fun c H1 => if c = true then R true H1 else u σ H1 R) : tOr t u σ H R := h
theorem g_not {t : TT} {R : Bool → Hp → Prop} (h : t σ H fun c H1 => R (!c) H1) : tNot t σ H R := h
theorem g_andV {ta tb : TE} (h : ta σ H fun x H1 => ∃ c, x = .bl c ∧ if c = true then tb σ H1 Q else Q (.bl false) H1) : tAndV ta tb σ H Q := h
theorem g_cb {r : List V → Hp → VK → Prop} {t : TA} (h : t σ H fun vs H1 => r vs H1 Q) : tCB r t σ H Q := h
theorem g_nil {R : List V → Hp → Prop} (h : R [] H) : tNil σ H R := h
theorem g_cons {ta : TE} {tr : TA} {R : List V → Hp → Prop} (h : ta σ H fun x H1 => tr σ H1 fun xs H2 => R (x :: xs) H2) : tCons ta tr σ H R := h
theorem g_bm {T : String} {r : V → List V → Hp → VK → Prop} {to : TE} {t : TA} (h : to σ H fun x H1 => tyV K T x H1 ∧ t σ H1 fun xs H2 => r x xs H2 Q) : tBM K T r to t σ H Q := h
theorem g_sl {r : V → Option Int → Option Int → Hp → VK → Prop} {te : TE} {tl th : TO} (h : te σ H fun x H1 => tl σ H1 fun l H2 => th σ H2 fun u H3 => r x l u H3 Q) : tSl r te tl th σ H Q := h
theorem g_nopart {R : Option Int → Hp → Prop} (h : R none H) : tNoPart σ H R := h
theorem g_part {t : TE} {R : Option Int → Hp → Prop} (h : t σ H fun x H1 => ∃ i, x = .int i ∧ R (some i) H1) : tPart t σ H R := h
theorem g_call {sp : Sp} {E : XK} {t : TA} (h : t σ H fun vs H1 => sp (vs ++ []) H1 Q E) : tCall sp [] E t σ H Q := h
theorem g_lst {t : TA} (h : t σ H fun xs H1 => xs.length ≤ sizeLine ∧ ∀ p, H1 p = none → Q (.ref p) (upd H1 p (.lst xs))) : tLst t σ H Q := h
theorem g_addS {a b : List Nat} (c : a.length + b.length ≤ sizeLine) (h : Q (.str (S (a ++ b))) H) : rAddS (.str (S a)) (.str (S b)) H Q := ⟨a, b, rfl, rfl, c, h⟩
theorem g_inS {a b : List Nat} (h : Q (.bl (within a b)) H) : rInS (.str (S a)) (.str (S b)) H Q := ⟨a, b, rfl, rfl, h⟩
theorem tyL {p : Addr} {xs : List V} (h : SqL K H p xs) : tyV K "list" (.ref p) H := Or.inl ⟨rfl, xs, h⟩
theorem g_tyS {x : Str} {A : Prop} (h : A) : tyV K "str" (.str x) H ∧ A := ⟨rfl, h⟩
theorem g_tyL {p : Addr} {xs : List V} {A : Prop} (c : SqL K H p xs) (h : A) : tyV K "list" (.ref p) H ∧ A := ⟨tyL c, h⟩
theorem g_slS {l : List Nat} {lo hi : Option Int} (c : l.length ≤ sizeLine) (h : Q (.str (S (cutL l lo hi))) H) : rSlS (.str (S l)) lo hi H Q := ⟨l, rfl, c, h⟩
end

theorem dec_S {a b : List Nat} : decide (V.str (S a) = V.str (S b)) = decide (a = b) := by
  by_cases h : a = b
  · subst h; simp
  · rw [decide_eq_false h, decide_eq_false]
    intro z
    exact h (S_inj.mp (V.str.inj z))
theorem dec_I {a b : Int} : decide (V.int a = V.int b) = decide (a = b) := by
  by_cases h : a = b
  · subst h; simp
  · rw [decide_eq_false h, decide_eq_false]
    intro z
    exact h (V.int.inj z)
section
variable {H : Hp} {Q : VK} {K : PySem.W.Frag}
theorem g_eqI {i j : Int} (h : Q (.bl (decide (i = j))) H) : rEq (.int i) (.int j) H Q := ⟨rfl, by rw [dec_I]; exact h⟩
theorem g_neI {i j : Int} (h : Q (.bl (!decide (i = j))) H) : rNe (.int i) (.int j) H Q := ⟨rfl, by rw [dec_I]; exact h⟩
theorem g_eqS {a b : List Nat} (h : Q (.bl (decide (a = b))) H) : rEq (.str (S a)) (.str (S b)) H Q := ⟨rfl, by rw [dec_S]; exact h⟩
theorem g_neS {a b : List Nat} (h : Q (.bl (!decide (a = b))) H) : rNe (.str (S a)) (.str (S b)) H Q := ⟨rfl, by rw [dec_S]; exact h⟩
theorem g_ixS {l : List Nat} {i : Int} {c : Nat} (hz : l.length ≤ sizeLine) (e : atI l i = some c) (h : Q (.str (S [c])) H) : rIxSS (.str (S l)) (.int i) H Q := ⟨l, i, c, rfl, rfl, hz, e, h⟩
theorem g_ixL {p : Addr} {xs : List V} {i : Int} {v : V} (c : SqL K H p xs) (e : atI xs i = some v) (h : Q v H) : rIxL K (.ref p) (.int i) H Q := ⟨p, xs, i, v, rfl, rfl, c, e, h⟩
end
theorem g_ite {c A B : Prop} [Decidable c] (h1 : c → A) (h2 : ¬ c → B) : if decide c = true then A else B := by
  by_cases h : c
  · rw [decide_eq_true h, if_pos rfl]; exact h1 h
  · rw [decide_eq_false h, if_neg Bool.false_ne_true]; exact h2 h
theorem iteTd {c A B : Prop} [Decidable c] (hc : c) (h : A) : if decide c = true then A else B := by rw [decide_eq_true hc]; exact iteT h
theorem iteFd {c A B : Prop} [Decidable c] (hc : ¬ c) (h : B) : if decide c = true then A else B := by rw [decide_eq_false hc]; exact iteF h

theorem small {n : Nat} (h : n ≤ 1000) : n ≤ sizeLine := Nat.le_of_lt (small1000 h)
/-! ### heaps that only grow -/
theorem same_upd {H H1 : Hp} {D : Addr} {o : HO} (e : Same H H1) (hD : H D = none) : Same H (upd H1 D o) := fun b u hb => by
  rw [upd_ne (ne_of_none hb hD)]; exact e b u hb
/-! ### a comprehension over known items -/
inductive All2 {α β : Type} (F : α → β → Prop) : List α → List β → Prop
  | nil : All2 F [] []
  | snoc {a : α} {b : β} {l : List α} {m : List β} : All2 F l m → F a b → All2 F (l ++ [a]) (m ++ [b])
theorem All2.mono {α β : Type} {F G : α → β → Prop} (h : ∀ a b, F a b → G a b) {l : List α} {m : List β} (x : All2 F l m) : All2 G l m := by
  induction x with
  | nil => exact .nil
  | snoc _ f ih => exact .snoc ih (h _ _ f)
theorem All2.map {α β : Type} {f : α → β} {l : List α} {m : List β} (x : All2 (fun a b => b = f a) l m) : m = l.map f := by
  induction x with
  | nil => rfl
  | snoc _ h ih => subst h; rw [ih]; simp
theorem All2.length {α β : Type} {F : α → β → Prop} {l : List α} {m : List β} (x : All2 F l m) : m.length = l.length := by
  induction x with
  | nil => rfl
  | snoc _ h ih => simp [ih]

/-- what an iterator must do to go through xs while the heap only grows -/
structure Goes (J : It) (H1 : Hp) (xs : List V) : Prop where
  go : ∀ i H', Same H1 H' → i < xs.length → J.go i H'
  yld : ∀ i H' x H'', Same H1 H' → i < xs.length → J.yld i H' x H'' → H'' = H' ∧ xs[i]? = some x
  stop : ∀ H', Same H1 H' → J.stop xs.length H'
theorem goes_range (lo : Int) (n : Nat) (H1 : Hp) : Goes (Itr lo n) H1 ((List.range n).map fun (k : Nat) => V.int (lo + (k : Int))) := by
  refine ⟨fun i H' _ hi => ?_, fun i H' x H'' _ hi y => ?_, fun H' _ => ?_⟩
  · rw [List.length_map, List.length_range] at hi; exact hi
  · rw [List.length_map, List.length_range] at hi
    obtain ⟨e, rfl⟩ := y
    refine ⟨e, ?_⟩
    rw [List.getElem?_map, List.getElem?_range hi]
    rfl
  · rw [List.length_map, List.length_range]; exact Nat.le_refl _
theorem goes_list {K : PySem.W.Frag} {a : Addr} {xs : List V} {H1 : Hp} (h : SqL K H1 a xs) : Goes (Itl K a) H1 xs := by
  refine ⟨fun i H' e hi => ⟨xs, xs[i], e.seq h, by simp [hi]⟩, fun i H' x H'' e hi y => ?_, fun H' e => ⟨xs, e.seq h, Nat.le_refl _⟩⟩
  obtain ⟨e', y⟩ := y
  exact ⟨e', y xs (e.seq h)⟩
theorem goes_str (l : List Nat) (H1 : Hp) : Goes (Its l) H1 (l.map fun c => V.str (S [c])) := by
  refine ⟨fun i H' _ hi => ?_, fun i H' x H'' _ hi y => ?_, fun H' _ => ?_⟩
  · rw [List.length_map] at hi; exact hi
  · obtain ⟨e, c, hc, rfl⟩ := y
    refine ⟨e, ?_⟩
    rw [List.getElem?_map, hc]
    rfl
  · rw [List.length_map]; exact Nat.le_refl _

theorem comp_gen {α : Type} {J : It} {src : List α} {gv : α → V} {mp : List (Option Nat)} {σ : St} {H1 : Hp} {ti : TT} {te : TE} {Dd : Addr} {Q : VK} (p : α → Bool) (F : α → V → Hp → Prop) (G : Goes J H1 (src.map gv)) (hD : H1 Dd = none) (hz : src.length ≤ sizeLine)
    (Fm : ∀ a y H H', (∀ b o, b ≠ Dd → H b = some o → H' b = some o) → F a y H → F a y H')
    (ht : ∀ a ∈ src, ∀ (H' : Hp) (R : Bool → Hp → Prop), Same H1 H' → (∀ H'', Same H' H'' → R (p a) H'') → ti ((pick mp σ).set 0 (some (gv a))) H' R)
    (he : ∀ a ∈ src, p a = true → ∀ (H' : Hp) (R : VK), Same H1 H' → H' Dd ≠ none → (∀ y H'', Same H' H'' → F a y H'' → R y H'') → te ((pick mp σ).set 0 (some (gv a))) H' R)
    (q : ∀ H' ys, Same H1 H' → H' Dd = some (.lst ys) → All2 (fun x y => F x y H') (src.filter p) ys → Q (.ref Dd) H') :
    CompW J mp (gName 0) ti te Dd Q σ H1 := by
  let W : Nat → Nat → St → Hp → Prop := fun i m σ' H' => m = src.length - i ∧ i ≤ src.length ∧ (∀ v, σ'.set 0 (some v) = (pick mp σ).set 0 (some v)) ∧ Same H1 H' ∧ ∃ ys, H' Dd = some (.lst ys) ∧ All2 (fun x y => F x y H') ((src.take i).filter p) ys
  have hlm : (src.map gv).length = src.length := List.length_map ..
  refine ⟨W, ⟨src.length, by simp, Nat.zero_le _, fun v => rfl, same_upd (Same.refl _) hD, [], upd_same, by simpa using All2.nil⟩, ?_⟩
  rintro i m σ' H' ⟨rfl, hi, hσ, hS, ys, hy, ha⟩
  by_cases hlt : i < src.length
  · refine .inr ⟨G.go i H' hS (by rw [hlm]; exact hlt), fun σ2 H2 => W (i + 1) (src.length - (i + 1)) σ2 H2, fun σ2 H2 w => ⟨_, by (first | lia | omega), w⟩, fun x H'' y => ?_⟩
    obtain ⟨rfl, hx⟩ := G.yld i H' x H'' hS (by rw [hlm]; exact hlt) y
    obtain ⟨a, hxa, rfl⟩ : ∃ a, src[i]? = some a ∧ gv a = x := by
      rw [List.getElem?_map] at hx
      cases e : src[i]? with
      | none => rw [e] at hx; cases hx
      | some a => rw [e] at hx; exact ⟨a, rfl, Option.some.inj hx⟩
    have hm : a ∈ src := List.mem_of_getElem? hxa
    show ti (σ'.set 0 (some (gv a))) _ _
    rw [hσ (gv a)]
    have hset : ∀ v, ((pick mp σ).set 0 (some (gv a))).set 0 (some v) = (pick mp σ).set 0 (some v) := fun v => List.set_set ..
    have htk : (src.take (i + 1)).filter p = (src.take i).filter p ++ (if p a then [a] else []) := take_succ_filter p src i a hxa
    refine ht a hm _ _ hS fun H3 s3 => ?_
    have hS3 : Same H1 H3 := hS.trans s3
    have hy3 : H3 Dd = some (.lst ys) := s3 _ _ hy
    have ha3 : All2 (fun x y => F x y H3) ((src.take i).filter p) ys := ha.mono fun a b f => Fm a b _ _ (fun c o _ e => s3 c o e) f
    cases hp : p a with
    | false =>
      rw [if_neg Bool.false_ne_true]
      refine ⟨rfl, hlt, hset, hS3, ys, hy3, ?_⟩
      rw [htk, hp]
      simpa using ha3
    | true =>
      rw [if_pos rfl]
      refine he a hm hp H3 _ hS3 (by rw [hy3]; exact fun z => nomatch z) fun y H4 s4 f => ?_
      have hy4 : H4 Dd = some (.lst ys) := s4 _ _ hy3
      have hlen : ys.length ≤ i := by
        rw [ha.length]
        exact Nat.le_trans (List.length_filter_le _ _) (by rw [List.length_take]; (first | lia | omega))
      refine ⟨ys, hy4, by (first | lia | omega), rfl, hlt, hset, same_upd (hS3.trans s4) hD, ys ++ [y], upd_same, ?_⟩
      rw [htk, hp]
      have up : ∀ (c : Addr) (o : HO), c ≠ Dd → H4 c = some o → upd H4 Dd (.lst (ys ++ [y])) c = some o := fun c o hc e => by rw [upd_ne hc]; exact e
      exact All2.snoc (ha3.mono fun a b f' => Fm a b _ _ (fun c o hc e => up c o hc (s4 c o e)) f') (Fm a y _ _ up f)
  · have e : i = src.length := by (first | lia | omega)
    subst e
    rw [List.take_length] at ha
    exact .inl ⟨by rw [← hlm]; exact G.stop H' hS, q H' ys hS hy ha⟩

theorem filter_yes {α : Type} (l : List α) : l.filter (fun _ => true) = l := by simp
theorem comp_genT {α : Type} {J : It} {src : List α} {gv : α → V} {mp : List (Option Nat)} {σ : St} {H1 : Hp} {te : TE} {Dd : Addr} {Q : VK} (F : α → V → Hp → Prop) (G : Goes J H1 (src.map gv)) (hD : H1 Dd = none) (hz : src.length ≤ sizeLine)
    (Fm : ∀ a y H H', (∀ b o, b ≠ Dd → H b = some o → H' b = some o) → F a y H → F a y H')
    (he : ∀ a ∈ src, ∀ (H' : Hp) (R : VK), Same H1 H' → H' Dd ≠ none → (∀ y H'', Same H' H'' → F a y H'' → R y H'') → te ((pick mp σ).set 0 (some (gv a))) H' R)
    (q : ∀ H' ys, Same H1 H' → H' Dd = some (.lst ys) → All2 (fun x y => F x y H') src ys → Q (.ref Dd) H') : CompW J mp (gName 0) tYes te Dd Q σ H1 :=
  comp_gen (fun _ => true) F G hD hz Fm (fun _ _ H' R _ k => k H' (Same.refl _)) (fun a ha _ H' R s1 h1 k => he a ha H' R s1 h1 k) fun H' ys s1 hy ha => q H' ys s1 hy (by rw [filter_yes] at ha; exact ha)
theorem comp_map {α : Type} {J : It} {src : List α} {gv : α → V} {mp : List (Option Nat)} {σ : St} {H1 : Hp} {te : TE} {Dd : Addr} {Q : VK} (f : α → V) (G : Goes J H1 (src.map gv)) (hD : H1 Dd = none) (hz : src.length ≤ sizeLine)
    (he : ∀ a ∈ src, ∀ (H' : Hp) (R : VK), Same H1 H' → (∀ H'', Same H' H'' → R (f a) H'') → te ((pick mp σ).set 0 (some (gv a))) H' R)
    (q : ∀ H', Same H1 H' → H' Dd = some (.lst (src.map f)) → Q (.ref Dd) H') : CompW J mp (gName 0) tYes te Dd Q σ H1 :=
  comp_genT (fun x y _ => y = f x) G hD hz (fun _ _ _ _ _ h => h) (fun x hx H' R s1 _ k => he x hx H' R s1 fun H'' s2 => k _ H'' s2 rfl) fun H' ys s1 hy ha => q H' s1 (by rw [hy, ha.map])
theorem all2_ints {α : Type} {P : Int → Prop} {src : List α} {ys : List V} (h : All2 (fun _ y => ∃ n : Int, y = V.int n ∧ P n) src ys) : ∃ ns : List Int, ys = ns.map V.int ∧ ns.length = src.length ∧ ∀ n ∈ ns, P n := by
  induction h with
  | nil => exact ⟨[], rfl, rfl, by simp⟩
  | snoc _ f ih =>
    obtain ⟨ns, rfl, hl, hp⟩ := ih
    obtain ⟨n, rfl, pn⟩ := f
    refine ⟨ns ++ [n], by simp, by simp [hl], fun m hm => ?_⟩
    rcases List.mem_append.mp hm with z | z
    · exact hp m z
    · have : m = n := by simpa using z
      subst this; exact pn
def ForW (J : It) (g : TG) (tb : TS) (D : Ends) (σ : St) (H1 : Hp) : Prop := ∃ W : Nat → Nat → St → Hp → Prop, (∃ m, W 0 m σ H1) ∧ ∀ i m σ H, W i m σ H →
  (J.stop i H ∧ D.nx σ H) ∨ (J.go i H ∧ ∃ N : St → Hp → Prop, (∀ σ' H', N σ' H' → ∃ m', m' < m ∧ W (i + 1) m' σ' H') ∧ ∀ x H', J.yld i H x H' → g x σ H' fun σ2 H2 => tb { D with nx := N, ct := N, bk := D.nx } σ2 H2)
theorem forR {lo : Int} {n : Nat} {g : TG} {tb : TS} {D : Ends} {σ : St} {H : Hp} (Pv : Nat → St → Hp → Prop) (h0 : Pv 0 σ H)
    (hs : ∀ i σ H, i < n → Pv i σ H → g (.int (lo + i)) σ H fun σ2 H2 => tb { D with nx := Pv (i + 1), ct := Pv (i + 1), bk := D.nx } σ2 H2) (hd : ∀ σ H, Pv n σ H → D.nx σ H) : ForW (Itr lo n) g tb D σ H := for_range Pv h0 hs hd
theorem forL {K : PySem.W.Frag} {a : Addr} {xs : List V} {g : TG} {tb : TS} {D : Ends} {σ : St} {H : Hp} (Pv : Nat → St → Hp → Prop) (h0 : Pv 0 σ H) (hl : ∀ i σ H, i ≤ xs.length → Pv i σ H → SqL K H a xs)
    (hs : ∀ i x σ H, xs[i]? = some x → Pv i σ H → g x σ H fun σ2 H2 => tb { D with nx := Pv (i + 1), ct := Pv (i + 1), bk := D.nx } σ2 H2) (hd : ∀ σ H, Pv xs.length σ H → D.nx σ H) : ForW (Itl K a) g tb D σ H := for_list Pv h0 hl hs hd
section
variable {mp : List (Option Nat)} {wi : TI} {g : TG} {ti : TT} {te : TE} {σ : St} {H : Hp} {Q : VK} {R : It → Hp → Prop} {K : PySem.W.Frag}
theorem g_comp (h : wi σ H fun J H1 => ∀ D, H1 D = none → CompW J mp g ti te D Q σ H1) : tComp mp wi g ti te σ H Q := h
theorem g_istr {tl : TE} (h : tl σ H fun x H1 => ∃ l, x = .str (S l) ∧ R (Its l) H1) : iStr tl σ H R := h
theorem g_ilist {tl : TE} (h : tl σ H fun x H1 => ∃ a, x = .ref a ∧ (∃ xs, SqL K H1 a xs) ∧ R (Itl K a) H1) : iList K tl σ H R := h
theorem g_rng1 {ta : TA} (h : ta σ H fun vs H1 => ∃ j : Int, vs = [.int j] ∧ -(2 ^ 62) ≤ j ∧ j < 2 ^ 62 ∧ R (Itr 0 j.toNat) H1) : iRng1 ta σ H R := h
theorem g_rng2 {ta : TA} (h : ta σ H fun vs H1 => ∃ i j : Int, vs = [.int i, .int j] ∧ (-(2 ^ 62) ≤ i ∧ i < 2 ^ 62 ∧ -(2 ^ 62) ≤ j ∧ j < 2 ^ 62) ∧ R (Itr i (j - i).toNat) H1) : iRng2 ta σ H R := h
theorem g_for {tb : TS} {D : Ends} (h : wi σ H fun J H1 => ForW J g tb D σ H1) : tFor wi g tb D σ H := h
end
theorem cutL_to {α : Type} (l : List α) (k : Nat) : cutL l none (some (k : Int)) = l.take k := by
  unfold cutL
  rw [HT.sIx_nat, HT.sIx_none, List.drop_zero, Nat.sub_zero]
  by_cases h : k ≤ l.length
  · rw [Nat.min_eq_left h]
  · rw [Nat.min_eq_right (by (first | lia | omega)), List.take_length, List.take_of_length_le (by (first | lia | omega))]
theorem cutL_from {α : Type} (l : List α) (k : Nat) : cutL l (some (k : Int)) none = l.drop k := by
  unfold cutL
  rw [HT.sIx_nat, HT.sIx_none]
  by_cases h : k ≤ l.length
  · rw [Nat.min_eq_left h, List.take_of_length_le (by rw [List.length_drop]; (first | lia | omega))]
  · rw [Nat.min_eq_right (by (first | lia | omega)), List.drop_length, List.drop_of_length_le (by (first | lia | omega))]
    simp
theorem within_one (c : Nat) (b : List Nat) : within [c] b = decide (c ∈ b) := by
  rw [Bool.eq_iff_iff, decide_eq_true_eq]
  unfold within
  rw [List.any_eq_true]
  constructor
  · rintro ⟨i, hi, h⟩
    rw [List.isPrefixOf_iff_prefix] at h
    exact List.mem_of_mem_drop (h.subset (by simp))
  · intro h
    obtain ⟨i, hi, rfl⟩ := List.mem_iff_getElem.mp h
    refine ⟨i, List.mem_range.mpr (by (first | lia | omega)), ?_⟩
    rw [List.isPrefixOf_iff_prefix, List.drop_eq_getElem_cons hi]
    exact ⟨_, rfl⟩

end L2

set_option Elab.async false
set_option linter.all false
set_option maxRecDepth 100000
set_option maxHeartbeats 4000000
namespace L2
open PySem PySem.Spec PyProof.Rows
section
variable {X : Cx} {pins : List (Addr × Obj)} {σ : List (Option V)} {H H' : Hp} {s : Shared} {h' : Heap}
/-- an object that stands there untracked (made since the entry) is tracked from now on -/
theorem Inv.track {a : Addr} {o : HO} (I : Inv X pins σ H s) (hn : FpOk X pins H a) (new : ObjOk X.prog X.w (upd H a o) s.heap a o) : Inv X pins σ (upd H a o) s := by
  obtain ⟨f0, f1, f2, f3, f4, f5⟩ := hn
  have hok : HOk X.prog X.w (upd H a o) s.heap := fun b u e => by
    by_cases hb : b = a
    · subst hb; rw [upd_same] at e; cases e; exact new
    · rw [upd_ne hb] at e
      exact (I.hok b u e).stay (fun c v _ q => q) (fun c q => by rw [upd_ne (ne_of_none q f0)]; exact q) fun c xs q => by rw [upd_ne (ne_of_none q f0)]; exact q
  have z := I.step (h' := s.heap) (H' := upd H a o) (g' := s.gens) (t' := s.toks) (d' := s.drawn) (ch := [a]) (fun b hb => by
      have e : b = a := by simpa using hb
      subst e
      exact ⟨f3, f1, f4, f5⟩) (fun b o _ _ _ e _ => e) (fun b o _ _ _ e _ => ⟨o.slots, e⟩) (fun b u hb e n => by rw [upd_ne (by simpa using hb)]; exact n) (fun b o _ e => ⟨o, e⟩)
    (fun b xs e => by rw [upd_ne (ne_of_none e f0)]; exact e) (fun b u xs e => by rw [upd_ne (ne_of_none e f0)]; exact e) (fun b ps e => ⟨#[], by rw [upd_ne (ne_of_none e f0), e]; simp⟩) (fun m hm => hm) hok I.bare
  exact z

end
end L2
namespace L2
open PySem PySem.Spec PyProof.Rows
/-! ### data that may be compared -/
mutual
/-- flat or nested data of few layers, without dicts -/
def okD : PyData → Bool
  | .none | .bool _ | .int _ => true
  | .str x => PyData.strOk x
  | .list xs | .tuple xs => okDs xs
  | .dict _ => false
def okDs : List PyData → Bool
  | [] => true
  | x :: xs => okD x && okDs xs
end
mutual
theorem eqv_self : ∀ d : PyData, okD d = true → PyData.eqv d d = true
  | .none, _ => by simp [PyData.eqv]
  | .bool b, _ => by simp [PyData.eqv]
  | .int i, _ => by simp [PyData.eqv]
  | .str x, _ => by simp [PyData.eqv]
  | .list xs, h => by rw [PyData.eqv]; exact eqvAll_self xs (by simpa [okD] using h)
  | .tuple xs, h => by rw [PyData.eqv]; exact eqvAll_self xs (by simpa [okD] using h)
  | .dict _, h => by simp [okD] at h
theorem eqvAll_self : ∀ ds : List PyData, okDs ds = true → PyData.eqvAll ds ds = true
  | [], _ => by simp [PyData.eqvAll]
  | d :: r, h => by
    have h' : okD d = true ∧ okDs r = true := by simpa [okDs] using h
    rw [PyData.eqvAll, eqv_self d h'.1, eqvAll_self r h'.2]; rfl
end
mutual
theorem lay_ok : ∀ d : PyData, okD d = true → d.canLay0 = true
  | .none, _ => by simp [PyData.canLay0]
  | .bool b, _ => by simp [PyData.canLay0]
  | .int i, _ => by simp [PyData.canLay0]
  | .str x, h => by simpa [PyData.canLay0, okD] using h
  | .list xs, h => by rw [PyData.canLay0]; exact layAll_ok xs (by simpa [okD] using h)
  | .tuple xs, h => by rw [PyData.canLay0]; exact layAll_ok xs (by simpa [okD] using h)
  | .dict _, h => by simp [okD] at h
theorem layAll_ok : ∀ ds : List PyData, okDs ds = true → PyData.canLayAll0 ds = true
  | [], _ => by simp [PyData.canLayAll0]
  | d :: r, h => by
    have h' : okD d = true ∧ okDs r = true := by simpa [okDs] using h
    rw [PyData.canLayAll0, lay_ok d h'.1, layAll_ok r h'.2]; rfl
end
end L2

set_option Elab.async false
set_option linter.all false
set_option maxRecDepth 100000
set_option maxHeartbeats 4000000
/-! Wordrace: sets of texts, walked in whatever order. -/
namespace L2
open PySem PySem.Spec PyProof.Rows
open Sem (wp)

section
variable {M : Model} {A : Around} {E : Value → Shared → Prop}
theorem wpAny_choose {s : Shared} {src : Source} {n : Nat} {Q : Nat → Shared → Prop} (hn : n ≠ 0) (h : ∀ i, i < n → Q i { s with drawn := s.drawn.bump src }) : wpAny M A (choose src n) Q E s :=
  fun Γ p _ => ⟨hn, h _ (Nat.mod_lt _ (Nat.pos_of_ne_zero hn))⟩
theorem erase_perm {α : Type} : ∀ (l : List α) (i : Nat) (x : α), l[i]? = some x → (x :: l.eraseIdx i).Perm l
  | [], i, x, h => by simp at h
  | a :: l, 0, x, h => by simp at h; subst h; simp
  | a :: l, i + 1, x, h => by
    have ih := erase_perm l i x (by simpa using h)
    rw [List.eraseIdx_cons_succ]
    exact (List.Perm.swap a x _).trans (ih.cons a)
theorem wpAny_drawOrder {α : Type} : ∀ (n : Nat) (xs : List α) (s : Shared) {Q : List α → Shared → Prop}, xs.length = n → (∀ ys d', ys.Perm xs → Q ys { s with drawn := d' }) → wpAny M A (drawOrder n xs) Q E s
  | 0, xs, s, Q, hl, h => by
    have : xs = [] := List.eq_nil_of_length_eq_zero hl
    subst this
    unfold drawOrder
    exact wpAny_pure (h [] s.drawn (List.Perm.refl _))
  | n + 1, [], s, Q, hl, h => by simp at hl
  | n + 1, x :: xs, s, Q, hl, h => by
    unfold drawOrder
    refine wpAny_bind (wpAny_choose (by simp) fun i hi => ?_)
    have hx : (x :: xs)[i]? = some (x :: xs)[i] := List.getElem?_eq_getElem hi
    rw [hx]
    dsimp only
    refine wpAny_bind (wpAny_drawOrder n ((x :: xs).eraseIdx i) _ (by rw [List.length_eraseIdx, if_pos hi]; simpa using hl) fun ys d' hp => wpAny_pure (h _ d' ?_))
    exact (hp.cons _).trans (erase_perm _ i _ hx)
end
theorem pickGo_perm {α : Type} (next : Nat → Nat) : ∀ (fuel k : Nat) (left : List α) (out : Array α), left.length = fuel → (pickOrder.go next fuel k left out).toList.Perm (out.toList ++ left)
  | 0, k, left, out, h => by
    have : left = [] := List.eq_nil_of_length_eq_zero h
    subst this
    unfold pickOrder.go
    simp
  | fuel + 1, k, left, out, h => by
    unfold pickOrder.go
    have hi : next k % left.length < left.length := Nat.mod_lt _ (by (first | lia | omega))
    have hx : left[next k % left.length]? = some left[next k % left.length] := List.getElem?_eq_getElem hi
    rw [hx]
    dsimp only
    refine (pickGo_perm next fuel (k + 1) _ _ (by rw [List.length_eraseIdx]; simp [hi]; (first | lia | omega))).trans ?_
    rw [Array.toList_push, List.append_assoc]
    exact (erase_perm left _ _ hx).append_left _
theorem pickOrder_perm {α : Type} (next : Nat → Nat) (xs : Array α) : (pickOrder next xs).toList.Perm xs.toList := by
  unfold pickOrder
  have := pickGo_perm next xs.size 0 xs.toList #[] (by simp)
  simpa using this

/-! ### the set's iterator -/
namespace FS
theorem slot_next : Slot "set_iterator" "__next__" "set_iterator.__next__" :=
  .of (owner := "set_iterator") (n := "__next__") (by rw [typeLookup_type, builtinLookup_eq_fast]; kernel_rfl) (by decide +kernel) (by decide +kernel) (by decide +kernel)
    (by first | exact .inl (by decide +kernel) | exact .inr (by decide +kernel)) (by rw [isSubtype_type]; kernel_rfl)
theorem entry_next : entryFor table "set_iterator.__next__" = some Builtin.«set_iterator.__next__» := entryFor_of_tree (by kernel_rfl)
theorem args_next (a : Value) : argsOk "set_iterator.__next__" ⟨[a], []⟩ := by unfold argsOk; kernel_rfl
theorem slot_iter : Slot "set_iterator" "__iter__" "set_iterator.__iter__" :=
  .of (owner := "set_iterator") (n := "__iter__") (by rw [typeLookup_type, builtinLookup_eq_fast]; kernel_rfl) (by decide +kernel) (by decide +kernel) (by decide +kernel)
    (by first | exact .inl (by decide +kernel) | exact .inr (by decide +kernel)) (by rw [isSubtype_type]; kernel_rfl)
theorem entry_iter : entryFor table "set_iterator.__iter__" = some Builtin.«dict_keyiterator.__iter__» :=
  entryFor_alias (id' := "dict_keyiterator.__iter__") (by kernel_rfl) rfl (by decide +kernel) (by kernel_rfl)
theorem args_iter (a : Value) : argsOk "set_iterator.__iter__" ⟨[a], []⟩ := by unfold argsOk; kernel_rfl
theorem entry_set_iter : entryFor table "set.__iter__" = some Builtin.«frozenset.__iter__» :=
  entryFor_alias (id' := "frozenset.__iter__") (by kernel_rfl) rfl (by decide +kernel) (by kernel_rfl)
end FS
end L2

set_option Elab.async false
set_option linter.all false
set_option maxRecDepth 100000
set_option maxHeartbeats 4000000
namespace L2
open PySem PySem.Spec PyProof.Rows
open Sem (wp)
abbrev SIt (h : Heap) (I a : Addr) (first : Value) (i n ep : Nat) : Prop :=
  h.get? I = some { cls := .type "set_iterator", dict := none, data := .fields #[first, rawInt (i : Int), .ref a, rawInt (n : Int), rawInt (ep : Int)], slots := #[] }
section
variable {prog : Program} {w : World} {A : Around} {E : Value → Shared → Prop} {s : Shared}
theorem setEntries_of {a : Addr} {o : Obj} {es : Array (Int × Value)} {ep : Nat} {t : SetTable} {Q : Array (Int × Value) → Shared → Prop} (ho : s.heap.get? a = some o) (hd : o.data = .set es ep t) (hf : t.fits es.size = true) (h : Q es s) : wpAny (model prog w) A (setEntries a) Q E s := by
  unfold setEntries
  exact wpAny_bind (wpAny_setState_of ho hd hf (wpAny_pure h))
theorem byText_of {Q : Bool → Shared → Prop} (h : Q (w.params.followText "set-order") s) : wpAny (model prog w) A setsByText Q E s := by
  unfold setsByText
  exact wpAny_bind (wpAny_askSetting (wpAny_pure h))
theorem setWalkT {a : Addr} {o : Obj} {es : Array (Int × Value)} {ep : Nat} {t : SetTable} {Q : Array (Int × Value) → Shared → Prop} (hb : w.params.followText "set-order" = true) (ho : s.heap.get? a = some o) (hd : o.data = .set es ep t) (hf : t.fits es.size = true)
    (h : Q (pickOrder (w.params.setOrder a ep) es) s) : wpAny (model prog w) A (setWalk a) Q E s := by
  unfold setWalk
  refine wpAny_bind (wpAny_setState_of ho hd hf ?_)
  refine wpAny_bind (byText_of ?_)
  rw [hb]
  simp only [if_true]
  exact wpAny_bind (wpAny_askSetting (wpAny_pure h))
theorem setNextT {a : Addr} {o : Obj} {es : Array (Int × Value)} {ep i slot : Nat} {t : SetTable} {Q : Option (Value × Nat) → Shared → Prop} (hb : w.params.followText "set-order" = true) (ho : s.heap.get? a = some o) (hd : o.data = .set es ep t) (hf : t.fits es.size = true)
    (h : Q (((pickOrder (w.params.setOrder a ep) es)[i]?).map fun e => (e.2, slot)) s) : wpAny (model prog w) A (setNext a slot i ep) Q E s := by
  unfold setNext
  refine wpAny_bind (wpAny_setState_of ho hd hf ?_)
  refine wpAny_bind (byText_of ?_)
  rw [hb]
  simp only [if_true, bne_self_eq_false, Bool.false_eq_true, if_false]
  exact wpAny_bind (setWalkT hb ho hd hf (wpAny_pure h))
theorem stop_raise {I : Addr} {s : Shared} {o : Obj} {vs : Array Value} {k : Nat} {x : Value} {Q : Option Value → Shared → Prop} (hh : A.handled = none) (ho : s.heap.get? I = some o) (hd : o.data = .fields vs) (hk : k < vs.size)
    (hQ : ∀ h', Heap.ExtBut I s.heap h' → Q none { s with heap := h' }) :
    wpAny (model prog w) A.in1 (do setField (.ref I) k x; let e ← newExc (.type "StopIteration") []; raiseNew e) (fun fin s' => ∃ v, fin = PySem.Fin.done (Flow.ret v) ∧ wpAny (model prog w) A (pure (some v)) Q E s')
      (fun e s' => wpAny (model prog w) A (do let b ← isInstance e (.type "StopIteration"); if b = true then pure none else throw e) Q E s') s := by
  refine wpAny_bind (wpAny_setField ho hd hk ?_)
  refine wpAny_bind ?_
  simp only [newExc, newTuple]
  refine wpAny_bind (wpAny_newObj_type ?_ (by size_fits))
  refine wpAny_bind (m := firstArgMember _ _) (wpAny_of_eq (a := Value.none) (by first | rfl | (simp only [firstArgMember]; rfl)) ?_)
  refine wpAny_newObj_type ?_ (by size_fits)
  simp only [raiseNew]
  refine wpAny_bind (wpAny_handled ?_)
  rw [show A.in1.handled = none from hh]
  refine wpAny_bind (wpAny_pure (wpAny_throw ?_))
  refine wpAny_bind (wpAny_isInstance (T := "StopIteration") (b := true) ⟨_, Heap.get?_push_size _ rfl, rfl⟩ isSubtype_stop ?_)
  exact wpAny_pure (hQ _ (((Heap.SameBut.update ..).extBut.push _).push _))
theorem nextT_item {I a : Addr} {o : Obj} {es : Array (Int × Value)} {ep i : Nat} {t : SetTable} {v : Value} {Q : Option Value → Shared → Prop} (hb : w.params.followText "set-order" = true) (hi : SIt s.heap I a (rawInt 0) i es.size ep)
    (ho : s.heap.get? a = some o) (hd : o.data = .set es ep t) (hf : t.fits es.size = true) (hv : ((pickOrder (w.params.setOrder a ep) es)[i]?).map (·.2) = some v)
    (h : ∀ h', SIt h' I a (rawInt 0) (i + 1) es.size ep → Heap.SameBut I s.heap h' → Q (some v) { s with heap := h' }) : wpAny (model prog w) A (pyNext (.ref I)) Q E s := by
  have hT : s.TypeIs (.ref I) "set_iterator" := ⟨_, hi, rfl⟩
  obtain ⟨e, he, hev⟩ : ∃ e, (pickOrder (w.params.setOrder a ep) es)[i]? = some e ∧ e.2 = v := by
    cases q : (pickOrder (w.params.setOrder a ep) es)[i]? with
    | none => rw [q] at hv; cases hv
    | some e => rw [q] at hv; exact ⟨e, rfl, Option.some.inj hv⟩
  unfold pyNext
  refine wpAny_bind (wpAny_attempt (wpAny_callSpecial?_slot (name := Str.ofString "__next__") hT FS.slot_next (wpAny_call_entry FS.slot_next hT FS.entry_next ?_ (FS.args_next _))))
  unfold Builtin.«set_iterator.__next__»
  refine wpAny_bind (m := slotArgs "__next__" 0 ⟨[.ref I], []⟩) (wpAny_of_eq (a := (Value.ref I, [])) rfl ?_)
  refine wpAny_bind (wpAny_fieldsOf hi rfl ?_)
  show wpAny _ _ (setEntries a >>= _) _ _ _
  refine wpAny_bind (setEntries_of ho hd hf ?_)
  simp only [bne_self_eq_false, Bool.false_eq_true, if_false]
  show wpAny _ _ (setNext a (0 : Int).toNat (i : Int).toNat (ep : Int).toNat >>= _) _ _ _
  rw [Int.toNat_natCast, Int.toNat_natCast]
  refine wpAny_bind (setNextT hb ho hd hf ?_)
  rw [he]
  dsimp only [Option.map]
  refine wpAny_bind (wpAny_setField_rec hi (by simp) fun h1 hi1 sb1 => ?_)
  refine wpAny_bind (wpAny_setField_rec hi1 (by simp) fun h2 hi2 sb2 => ?_)
  refine wpAny_pure ⟨_, rfl, wpAny_pure ?_⟩
  rw [hev]
  refine h h2 ?_ (sb1.trans sb2)
  have e : ((i + 1 : Nat) : Int) = (i : Int) + 1 := by (first | lia | omega)
  unfold SIt
  rw [e]
  simpa using hi2
theorem nextT_end {I a : Addr} {o : Obj} {es : Array (Int × Value)} {ep i : Nat} {t : SetTable} {Q : Option Value → Shared → Prop} (hh : A.handled = none) (hb : w.params.followText "set-order" = true) (hi : SIt s.heap I a (rawInt 0) i es.size ep)
    (ho : s.heap.get? a = some o) (hd : o.data = .set es ep t) (hf : t.fits es.size = true) (hv : (pickOrder (w.params.setOrder a ep) es)[i]? = none)
    (h : ∀ h', Heap.ExtBut I s.heap h' → Q none { s with heap := h' }) : wpAny (model prog w) A (pyNext (.ref I)) Q E s := by
  have hT : s.TypeIs (.ref I) "set_iterator" := ⟨_, hi, rfl⟩
  unfold pyNext
  refine wpAny_bind (wpAny_attempt (wpAny_callSpecial?_slot (name := Str.ofString "__next__") hT FS.slot_next (wpAny_call_entry FS.slot_next hT FS.entry_next ?_ (FS.args_next _))))
  unfold Builtin.«set_iterator.__next__»
  refine wpAny_bind (m := slotArgs "__next__" 0 ⟨[.ref I], []⟩) (wpAny_of_eq (a := (Value.ref I, [])) rfl ?_)
  refine wpAny_bind (wpAny_fieldsOf hi rfl ?_)
  show wpAny _ _ (setEntries a >>= _) _ _ _
  refine wpAny_bind (setEntries_of ho hd hf ?_)
  simp only [bne_self_eq_false, Bool.false_eq_true, if_false]
  show wpAny _ _ (setNext a (0 : Int).toNat (i : Int).toNat (ep : Int).toNat >>= _) _ _ _
  rw [Int.toNat_natCast, Int.toNat_natCast]
  refine wpAny_bind (setNextT hb ho hd hf ?_)
  rw [hv]
  dsimp only [Option.map]
  exact stop_raise hh hi rfl (by simp) h
/-! ### .. in a drawn order -/
theorem setNextD {a : Addr} {o : Obj} {es : Array (Int × Value)} {ep p : Nat} {t : SetTable} {e : Int × Value} {Q : Value → Shared → Prop} (ho : s.heap.get? a = some o) (hd : o.data = .set es ep t) (hf : t.fits es.size = true) (he : es[p]? = some e)
    (h : Q e.2 s) : wpAny (model prog w) A (setNextDrawn a p ep) Q E s := by
  unfold setNextDrawn
  refine wpAny_bind (wpAny_setState_of ho hd hf ?_)
  simp only [bne_self_eq_false, Bool.false_eq_true, if_false]
  rw [he]
  exact wpAny_pure h
theorem nextD_item {I a T : Addr} {o oT : Obj} {es : Array (Int × Value)} {ep i p nT : Nat} {t : SetTable} {e : Int × Value} {places : List Nat} {Q : Option Value → Shared → Prop} (hi : SIt s.heap I a (.ref T) i es.size ep)
    (hTo : s.heap.get? T = some oT) (hTd : oT.data = .seq (places.map fun (p : Nat) => rawInt (p : Int)).toArray nT)
    (ho : s.heap.get? a = some o) (hd : o.data = .set es ep t) (hf : t.fits es.size = true) (hp : places[i]? = some p) (he : es[p]? = some e)
    (h : ∀ h', SIt h' I a (.ref T) (i + 1) es.size ep → Heap.SameBut I s.heap h' → Q (some e.2) { s with heap := h' }) : wpAny (model prog w) A (pyNext (.ref I)) Q E s := by
  have hT : s.TypeIs (.ref I) "set_iterator" := ⟨_, hi, rfl⟩
  unfold pyNext
  refine wpAny_bind (wpAny_attempt (wpAny_callSpecial?_slot (name := Str.ofString "__next__") hT FS.slot_next (wpAny_call_entry FS.slot_next hT FS.entry_next ?_ (FS.args_next _))))
  unfold Builtin.«set_iterator.__next__»
  refine wpAny_bind (m := slotArgs "__next__" 0 ⟨[.ref I], []⟩) (wpAny_of_eq (a := (Value.ref I, [])) rfl ?_)
  refine wpAny_bind (wpAny_fieldsOf hi rfl ?_)
  show wpAny _ _ (setEntries a >>= _) _ _ _
  refine wpAny_bind (setEntries_of ho hd hf ?_)
  simp only [bne_self_eq_false, Bool.false_eq_true, if_false]
  show wpAny _ _ (seqItems? (.ref T) >>= _) _ _ _
  refine wpAny_bind ?_
  unfold seqItems?
  refine wpAny_bind (wpAny_load hTo ?_)
  rw [hTd]
  refine wpAny_pure ?_
  dsimp only
  have hpl : ((places.map fun (p : Nat) => rawInt (p : Int)).toArray)[(i : Int).toNat]? = some (rawInt (p : Int)) := by
    rw [Int.toNat_natCast]
    simp [hp]
  rw [hpl]
  show wpAny _ _ (setNextDrawn a (p : Int).toNat (ep : Int).toNat >>= _) _ _ _
  rw [Int.toNat_natCast, Int.toNat_natCast]
  refine wpAny_bind (setNextD ho hd hf he ?_)
  refine wpAny_bind (wpAny_setField_rec hi (by simp) fun h2 hi2 sb2 => ?_)
  refine wpAny_pure ⟨_, rfl, wpAny_pure ?_⟩
  refine h h2 ?_ sb2
  have e : ((i + 1 : Nat) : Int) = (i : Int) + 1 := by (first | lia | omega)
  unfold SIt
  rw [e]
  simpa using hi2
theorem nextD_end {I a T : Addr} {o oT : Obj} {es : Array (Int × Value)} {ep i nT : Nat} {t : SetTable} {places : List Nat} {Q : Option Value → Shared → Prop} (hh : A.handled = none) (hi : SIt s.heap I a (.ref T) i es.size ep)
    (hTo : s.heap.get? T = some oT) (hTd : oT.data = .seq (places.map fun (p : Nat) => rawInt (p : Int)).toArray nT)
    (ho : s.heap.get? a = some o) (hd : o.data = .set es ep t) (hf : t.fits es.size = true) (hp : places[i]? = none)
    (h : ∀ h', Heap.ExtBut I s.heap h' → Q none { s with heap := h' }) : wpAny (model prog w) A (pyNext (.ref I)) Q E s := by
  have hT : s.TypeIs (.ref I) "set_iterator" := ⟨_, hi, rfl⟩
  unfold pyNext
  refine wpAny_bind (wpAny_attempt (wpAny_callSpecial?_slot (name := Str.ofString "__next__") hT FS.slot_next (wpAny_call_entry FS.slot_next hT FS.entry_next ?_ (FS.args_next _))))
  unfold Builtin.«set_iterator.__next__»
  refine wpAny_bind (m := slotArgs "__next__" 0 ⟨[.ref I], []⟩) (wpAny_of_eq (a := (Value.ref I, [])) rfl ?_)
  refine wpAny_bind (wpAny_fieldsOf hi rfl ?_)
  show wpAny _ _ (setEntries a >>= _) _ _ _
  refine wpAny_bind (setEntries_of ho hd hf ?_)
  simp only [bne_self_eq_false, Bool.false_eq_true, if_false]
  show wpAny _ _ (seqItems? (.ref T) >>= _) _ _ _
  refine wpAny_bind ?_
  unfold seqItems?
  refine wpAny_bind (wpAny_load hTo ?_)
  rw [hTd]
  refine wpAny_pure ?_
  dsimp only
  have hpl : ((places.map fun (p : Nat) => rawInt (p : Int)).toArray)[(i : Int).toNat]? = none := by
    rw [Int.toNat_natCast]
    simpa using hp
  rw [hpl]
  dsimp only
  refine wpAny_bind (wpAny_setField_rec hi (by simp) fun h2 hi2 sb2 => ?_)
  refine stop_raise (s := { s with heap := h2 }) hh hi2 rfl (by simp) fun h' eb => h h' fun b ob hb e => eb b ob hb (sb2.extBut b ob hb e)
/-! ### a set's iterator walks its elements, each once -/
/-- what stands of a set: its entries, their number -/
structure SetAt (h : Heap) (a : Addr) (es : Array (Int × Value)) (ep : Nat) (t : SetTable) : Prop where
  ob : ∃ o, h.get? a = some o ∧ o.ExactSet ∧ o.data = .set es ep t
  fits : t.fits es.size = true
theorem SetAt.at {h h' : Heap} {a : Addr} {es : Array (Int × Value)} {ep : Nat} {t : SetTable} (x : SetAt h a es ep t) (k : ∀ o, h.get? a = some o → h'.get? a = some o) : SetAt h' a es ep t := by
  obtain ⟨⟨o, e, r⟩, f⟩ := x
  exact ⟨⟨o, k o e, r⟩, f⟩
theorem SetAt.typeIs {s : Shared} {a : Addr} {es : Array (Int × Value)} {ep : Nat} {t : SetTable} (x : SetAt s.heap a es ep t) : s.TypeIs (.ref a) "set" := by
  obtain ⟨⟨o, e, r, _⟩, f⟩ := x
  exact ⟨o, e, r.1⟩
theorem pyIter_setiter {I a : Addr} {first : Value} {i n ep : Nat} {Q : Value → Shared → Prop} (hi : SIt s.heap I a first i n ep) (h : Q (.ref I) s) : wpAny (model prog w) A (pyIter (.ref I)) Q E s := by
  have hT : s.TypeIs (.ref I) "set_iterator" := ⟨_, hi, rfl⟩
  refine wpAny_pyIter_slot hT FS.slot_iter (wpAny_call_entry FS.slot_iter hT FS.entry_iter ?_ (FS.args_iter _))
  show wpAny _ _ (ret (.ref I)) _ _ s
  exact wpAny_pure ⟨_, rfl, "set_iterator", _, hT, FS.slot_next.lookup, h⟩
theorem walksT {I a : Addr} {es : Array (Int × Value)} {ep : Nat} {t : SetTable} (hh : A.handled = none) (hb : w.params.followText "set-order" = true) (hne : a ≠ I) :
    Walks prog w A I [I, a] [I] es.size (fun i v => ((pickOrder (w.params.setOrder a ep) es)[i]?).map (·.2) = some v) (fun i h => SIt h I a (rawInt 0) i es.size ep ∧ SetAt h a es ep t) where
  sub := fun b hb => by simp at hb; simp [hb]
  frame := fun i h h' st k => ⟨k I (by simp) _ st.1, st.2.at fun o e => k a (by simp) o e⟩
  item := fun i s Q E hi st hQ => by
    obtain ⟨⟨o, ho, hex, hd⟩, hf⟩ := id st.2
    have hsz : (pickOrder (w.params.setOrder a ep) es).size = es.size := by
      have := (pickOrder_perm (w.params.setOrder a ep) es).length_eq
      simpa using this
    have hlt : i < (pickOrder (w.params.setOrder a ep) es).size := by (first | lia | omega)
    have hv : ((pickOrder (w.params.setOrder a ep) es)[i]?).map (·.2) = some (pickOrder (w.params.setOrder a ep) es)[i].2 := by rw [Array.getElem?_eq_getElem hlt]; rfl
    refine nextT_item hb st.1 ho hd hf hv fun h' hi' sb => ?_
    exact hQ _ h' s.toks hv ⟨hi', st.2.at fun o e => sb.extBut a o hne e⟩ fun b o hb e => sb.extBut b o (by simpa using hb) e
  done := fun s Q E st hQ => by
    obtain ⟨⟨o, ho, hex, hd⟩, hf⟩ := id st.2
    have hsz : (pickOrder (w.params.setOrder a ep) es).size = es.size := by
      have := (pickOrder_perm (w.params.setOrder a ep) es).length_eq
      simpa using this
    refine nextT_end hh hb st.1 ho hd hf (by rw [Array.getElem?_eq_none_iff]; (first | lia | omega)) fun h' eb => hQ h' s.toks fun b o hb e => eb b o (by simpa using hb) e
  self := fun i s Q E st hQ => pyIter_setiter st.1 hQ
theorem walksD {I a T : Addr} {es : Array (Int × Value)} {ep nT : Nat} {t : SetTable} {places : List Nat} (hh : A.handled = none) (hp : places.Perm (List.range es.size)) (hne : a ≠ I) (hnT : T ≠ I) :
    Walks prog w A I [I, a, T] [I] es.size (fun i v => ((places[i]?).bind fun p => es[p]?).map (·.2) = some v) (fun i h => SIt h I a (.ref T) i es.size ep ∧ SetAt h a es ep t ∧ ∃ oT, h.get? T = some oT ∧ oT.data = .seq (places.map fun (p : Nat) => rawInt (p : Int)).toArray nT) where
  sub := fun b hb => by simp at hb; simp [hb]
  frame := fun i h h' st k => ⟨k I (by simp) _ st.1, st.2.1.at fun o e => k a (by simp) o e, by obtain ⟨oT, e, d⟩ := st.2.2; exact ⟨oT, k T (by simp) _ e, d⟩⟩
  item := fun i s Q E hi st hQ => by
    obtain ⟨⟨o, ho, hex, hd⟩, hf⟩ := id st.2.1
    obtain ⟨oT, hTo, hTd⟩ := id st.2.2
    have hl : places.length = es.size := by rw [hp.length_eq, List.length_range]
    have hlt : i < places.length := by (first | lia | omega)
    have hpl : places[i] < es.size := List.mem_range.mp (hp.mem_iff.mp (List.getElem_mem hlt))
    have e1 : places[i]? = some places[i] := List.getElem?_eq_getElem hlt
    have e2 : es[places[i]]? = some es[places[i]] := Array.getElem?_eq_getElem hpl
    refine nextD_item st.1 hTo hTd ho hd hf e1 e2 fun h' hi' sb => ?_
    exact hQ _ h' s.toks (by rw [e1]; simp [e2]) ⟨hi', st.2.1.at fun o e => sb.extBut a o hne e, oT, sb.extBut T _ hnT hTo, hTd⟩ fun b o hb e => sb.extBut b o (by simpa using hb) e
  done := fun s Q E st hQ => by
    obtain ⟨⟨o, ho, hex, hd⟩, hf⟩ := id st.2.1
    obtain ⟨oT, hTo, hTd⟩ := id st.2.2
    have hl : places.length = es.size := by rw [hp.length_eq, List.length_range]
    refine nextD_end hh st.1 hTo hTd ho hd hf (List.getElem?_eq_none_iff.mpr (by (first | lia | omega))) fun h' eb => hQ h' s.toks fun b o hb e => eb b o (by simpa using hb) e
  self := fun i s Q E st hQ => pyIter_setiter st.1 hQ
/-- pyIter of a set of more than one element that are not told by value: whatever the order, the walk gives the elements' values, each once -/
theorem pyIter_set {a : Addr} {es : Array (Int × Value)} {ep : Nat} {t : SetTable} {Q : Value → Shared → Prop} (hS : SetAt s.heap a es ep t) (hp : t.plain = false) (h2 : 1 < es.size) (hz : es.size ≤ 1000)
    (h : ∀ (I : Addr) (fp : List Addr) (P : Nat → Value → Prop) (St : Nat → Heap → Prop) (h' : Heap) (d' : Drawn), (∀ A' : Around, A'.handled = none → Walks prog w A' I fp [I] es.size P St) → St 0 h' → s.heap.objs.size ≤ I → I ∈ fp → (∀ b ∈ fp, b = a ∨ s.heap.objs.size ≤ b) →
      (∀ b o, s.heap.get? b = some o → h'.get? b = some o) → (∀ vs : List Value, vs.length = es.size → (∀ j v, vs[j]? = some v → P j v) → vs.Perm (es.toList.map (·.2))) → Q (.ref I) { s with heap := h', drawn := d' }) : wpAny (model prog w) A (pyIter (.ref a)) Q E s := by
  obtain ⟨⟨o, ho, hex, hd⟩, hf⟩ := id hS
  have hT := hS.typeIs
  refine wpAny_pyIter_slot hT F.slot_set_iter (wpAny_call_entry F.slot_set_iter hT FS.entry_set_iter ?_ (F.args_set_iter_1 _))
  unfold Builtin.«frozenset.__iter__»
  refine wpAny_bind (m := Builtin.Frozenset.slot0 "__iter__" ⟨[.ref a], []⟩) (wpAny_of_eq (a := a) rfl ?_)
  refine wpAny_bind (m := Builtin.Frozenset.sizeOf a) ?_
  unfold Builtin.Frozenset.sizeOf
  refine wpAny_bind (setEntries_of ho hd hf (wpAny_pure ?_))
  refine wpAny_bind (m := setDrawn a) ?_
  unfold setDrawn
  refine wpAny_bind (wpAny_setState_of ho hd hf ?_)
  refine wpAny_bind (byText_of (wpAny_pure ?_))
  dsimp only
  cases hb : w.params.followText "set-order" with
  | true =>
    refine wpAny_ite_split (fun z => absurd z (by simp)) (fun _ => ?_)
    refine wpAny_bind (wpAny_pure ?_)
    refine wpAny_bind (wpAny_setEpoch_of ho hd hf ?_)
    refine wpAny_bind (m := newFields _ _) (wpAny_newObj_type ?_)
    have hI : (s.heap.push { cls := .type "set_iterator", data := .fields #[rawInt 0, rawInt ((0 : Nat) : Int), .ref a, rawInt (es.size : Int), rawInt (ep : Int)] }).get? s.heap.objs.size = some { cls := .type "set_iterator", data := .fields #[rawInt 0, rawInt ((0 : Nat) : Int), .ref a, rawInt (es.size : Int), rawInt (ep : Int)] } := Heap.get?_push_size _ rfl
    have hne : a ≠ s.heap.objs.size := Nat.ne_of_lt (Heap.lt_size ho)
    refine wpAny_pure ⟨_, rfl, "set_iterator", _, ⟨_, hI, rfl⟩, FS.slot_next.lookup, ?_⟩
    refine h s.heap.objs.size [s.heap.objs.size, a] _ _ _ s.drawn (fun A' hA' => walksT (t := t) hA' hb hne) ⟨hI, hS.at fun o e => Heap.get?_push_of_some _ e⟩ (Nat.le_refl _) (by simp) (fun b hb' => ?_) (fun b o e => Heap.get?_push_of_some _ e) fun vs hl hv => ?_
    · have hb2 : b = s.heap.objs.size ∨ b = a := by simpa using hb'
      rcases hb2 with z | z
      · rw [z]; exact .inr (Nat.le_refl _)
      · exact .inl z
    · have e : vs = ((pickOrder (w.params.setOrder a ep) es).toList.map (·.2)) := by
        have hl2 := (pickOrder_perm (w.params.setOrder a ep) es).length_eq
        apply List.ext_getElem?
        intro j
        by_cases hj : j < vs.length
        · have h1 := hv j vs[j] (List.getElem?_eq_getElem hj)
          rw [List.getElem?_eq_getElem hj, List.getElem?_map, Array.getElem?_toList]
          exact h1.symm
        · rw [List.getElem?_eq_none_iff.mpr (by (first | lia | omega)), eq_comm, List.getElem?_eq_none_iff, List.length_map]
          simp at hl2
          simp
          (first | lia | omega)
      rw [e]
      exact (pickOrder_perm _ _).map _
  | false =>
    have hdr : (!false && (!t.plain && decide (es.size > 1))) = true := by rw [hp]; simp [h2]
    refine wpAny_ite_split (fun _ => ?_) (fun z => absurd hdr z)
    refine wpAny_bind (wpAny_drawOrder es.size (List.range es.size) _ (List.length_range ..) fun places d' hpl => ?_)
    have hlp : places.length = es.size := by rw [hpl.length_eq, List.length_range]
    refine wpAny_bind (wpAny_newTuple ?_ (by rw [List.length_map, hlp]; exact small hz))
    have hT1 : (s.heap.push { cls := .type "tuple", data := .seq (places.map fun (p : Nat) => rawInt (p : Int)).toArray }).get? s.heap.objs.size = some { cls := .type "tuple", data := .seq (places.map fun (p : Nat) => rawInt (p : Int)).toArray } := Heap.get?_push_size _ rfl
    have ho1 : (s.heap.push { cls := .type "tuple", data := .seq (places.map fun (p : Nat) => rawInt (p : Int)).toArray }).get? a = some o := Heap.get?_push_of_some _ ho
    generalize hh1 : s.heap.push { cls := .type "tuple", data := .seq (places.map fun (p : Nat) => rawInt (p : Int)).toArray } = h1 at hT1 ho1 ⊢
    have hs1 : h1.objs.size = s.heap.objs.size + 1 := by rw [← hh1, Heap.size_push]
    refine wpAny_bind (wpAny_setEpoch_of (s := { s with heap := h1, drawn := d' }) ho1 hd hf ?_)
    refine wpAny_bind (m := newFields _ _) (wpAny_newObj_type ?_)
    have hI : (h1.push { cls := .type "set_iterator", data := .fields #[.ref s.heap.objs.size, rawInt ((0 : Nat) : Int), .ref a, rawInt (es.size : Int), rawInt (ep : Int)] }).get? h1.objs.size = some { cls := .type "set_iterator", data := .fields #[.ref s.heap.objs.size, rawInt ((0 : Nat) : Int), .ref a, rawInt (es.size : Int), rawInt (ep : Int)] } := Heap.get?_push_size _ rfl
    have hlta := Heap.lt_size ho
    have hne : a ≠ h1.objs.size := by rw [hs1]; exact Nat.ne_of_lt (Nat.lt_succ_of_lt hlta)
    have hnT : s.heap.objs.size ≠ h1.objs.size := by rw [hs1]; (first | lia | omega)
    refine wpAny_pure ⟨_, rfl, "set_iterator", _, ⟨_, hI, rfl⟩, FS.slot_next.lookup, ?_⟩
    refine h h1.objs.size [h1.objs.size, a, s.heap.objs.size] _ _ _ d' (fun A' hA' => walksD (t := t) (nT := 0) hA' hpl hne hnT) ⟨hI, hS.at fun o e => Heap.get?_push_of_some _ (by rw [← hh1]; exact Heap.get?_push_of_some _ e), _, Heap.get?_push_of_some _ hT1, rfl⟩ (by rw [hs1]; (first | lia | omega)) (by simp) (fun b hb' => ?_) (fun b o e => Heap.get?_push_of_some _ (by rw [← hh1]; exact Heap.get?_push_of_some _ e)) fun vs hl hv => ?_
    · have hb2 : b = h1.objs.size ∨ b = a ∨ b = s.heap.objs.size := by simpa using hb'
      rcases hb2 with z | z | z
      · rw [z, hs1]; exact .inr (Nat.le_succ _)
      · exact .inl z
      · rw [z]; exact .inr (Nat.le_refl _)
    · have e : vs.map some = places.map fun p => (es[p]?).map (·.2) := by
        apply List.ext_getElem?
        intro j
        by_cases hj : j < vs.length
        · have h1 := hv j vs[j] (List.getElem?_eq_getElem hj)
          have hjp : j < places.length := by (first | lia | omega)
          rw [List.getElem?_map, List.getElem?_map, List.getElem?_eq_getElem hj, List.getElem?_eq_getElem hjp]
          rw [List.getElem?_eq_getElem hjp] at h1
          simp only [Option.bind_some] at h1
          simp [h1]
        · rw [List.getElem?_eq_none_iff.mpr (by rw [List.length_map]; (first | lia | omega)), List.getElem?_eq_none_iff.mpr (by rw [List.length_map]; (first | lia | omega))]
      have p1 : (places.map fun p => (es[p]?).map (·.2)).Perm ((List.range es.size).map fun p => (es[p]?).map (·.2)) := hpl.map _
      have e2 : ((List.range es.size).map fun p => (es[p]?).map (·.2)) = (es.toList.map (·.2)).map some := by
        apply List.ext_getElem?
        intro j
        by_cases hj : j < es.size
        · rw [List.getElem?_map, List.getElem?_range hj, List.getElem?_map, List.getElem?_map]
          simp [hj]
        · rw [List.getElem?_eq_none_iff.mpr (by rw [List.length_map, List.length_range]; (first | lia | omega)), List.getElem?_eq_none_iff.mpr (by simp; (first | lia | omega))]
      rw [← e, e2] at p1
      have := p1.filterMap id
      simpa using this
end
end L2

set_option Elab.async false
set_option linter.all false
set_option maxRecDepth 100000
set_option maxHeartbeats 4000000
/-! Wordrace: numbers of any size, sums, a sign's place. -/
namespace L2
open PySem PySem.Spec PyProof.Rows
section
variable {X : Cx} {pins : List (Addr × Obj)} {σ : List (Option V)} {H : Hp} {s : Shared}
/-! ### a sign's place in a text -/
end
/-! ### steps -/
section
variable {σ : St} {H : Hp} {Q : VK} {D : Ends} {K : PySem.W.Frag}
theorem g_neg {g : Int → V} {i : Int} (h : Q (g i) H) : rU g (.int i) H Q := ⟨i, rfl, h⟩
end
end L2

set_option Elab.async false
set_option linter.all false
set_option maxRecDepth 100000
set_option maxHeartbeats 4000000
/-! Wordrace: a name that is given a comprehension: it is stored ahead of the block's names going. -/
namespace L2
open PySem PySem.Spec PyProof.Rows
section
variable {X : Cx} {N : List Str} {mp : List (Option Nat)} {sc : Scope}
end
end L2

set_option Elab.async false
set_option linter.all false
set_option maxRecDepth 100000
set_option maxHeartbeats 4000000
/-! Wordrace: a set made of a list of texts. -/
namespace L2
open PySem PySem.Spec PyProof.Rows
open Sem (wp)
theorem laid_plain {mask finger moves : Nat} {led plain : Bool} {hashes : Array Int} {t : SetTable} {o : Array Nat} (h : SetTable.laid mask finger moves led plain hashes = some (t, o)) : t.plain = plain := by
  unfold SetTable.laid at h
  revert h
  intro h
  simp only [Option.bind_eq_bind, Option.bind_eq_some_iff, Option.pure_def, Option.some.injEq, Prod.mk.injEq] at h
  obtain ⟨_, _, rfl, _⟩ := h
  rfl
theorem relayAll_plain {t : SetTable} {es : Array (Int × Value)} {wanted : Nat} (h : t.plain = false) : (relayAll t es wanted).2.1.plain = false := by
  unfold relayAll
  split
  · rename_i t' order e
    dsimp only
    split
    · have := laid_plain (show SetTable.laid _ _ _ t.led t.plain _ = some (t', order) from e)
      rw [this]; exact h
    · rfl
  · rfl
/-- the text of a value -/
def tOf : Value → Str
  | .str x _ => x
  | _ => ⟨#[]⟩
structure TxtSet (prog : Program) (w : World) (h : Heap) (a : Addr) (L : List Str) : Prop where
  ex : ∃ o es ep t, h.get? a = some o ∧ o.ExactSet ∧ o.data = .set es ep t ∧ ElemsOf (mixKind prog w) es.toList ∧ (∀ e ∈ es.toList, ∃ x tk, e.2 = Value.str x tk) ∧ (es.toList.map fun e => tOf e.2).Perm L ∧ es.size < scanBound ∧ t.fits es.size = true ∧ (L ≠ [] → t.plain = false)
theorem TxtSet.at {prog : Program} {w : World} {h h' : Heap} {a : Addr} {L : List Str} (x : TxtSet prog w h a L) (k : ∀ o, h.get? a = some o → h'.get? a = some o) : TxtSet prog w h' a L := by
  obtain ⟨o, es, ep, t, e, r⟩ := x.ex
  exact ⟨⟨o, es, ep, t, k o e, r⟩⟩
section
variable {prog : Program} {w : World} {A : Around} {E : Value → Shared → Prop} {s : Shared}
theorem txt_store {a : Addr} {o : Obj} {es es' : Array (Int × Value)} {ep : Nat} {t t' : SetTable} {L : List Str} (ho : s.heap.get? a = some o) (hex : o.ExactSet) (hd : o.data = .set es ep t)
    (hel : ElemsOf (mixKind prog w) es'.toList) (hs : ∀ e ∈ es'.toList, ∃ x tk, e.2 = Value.str x tk) (hp : (es'.toList.map fun e => tOf e.2).Perm L) (hb : es'.size < scanBound) (hf : t'.fits es'.size = true) (hpl : t'.plain = false) :
    (s.heap.update a (Obj.putSet es' t')).get? a = some { o with data := .set es' (ep + 1) t' } ∧ TxtSet prog w (s.heap.update a (Obj.putSet es' t')) a L := by
  have hg : (s.heap.update a (Obj.putSet es' t')).get? a = some { o with data := .set es' (ep + 1) t' } := by
    have := Heap.get?_update_self (Obj.putSet es' t') ho (by rw [putSet_of es' t' hd]; rfl)
    rw [putSet_of es' t' hd] at this; exact this
  exact ⟨hg, ⟨_, es', ep + 1, t', hg, hex, rfl, hel, hs, hp, hb, hf, fun _ => hpl⟩⟩
/-- one more text -/
theorem add_txt {a : Addr} {L : List Str} {x : Str} {tk : Tok} {Q : Bool → Shared → Prop} (hS : TxtSet prog w s.heap a L) (hroom : L.length + 1 < scanBound)
    (h : ∀ (h' : Heap) (b : Bool), Heap.SameBut a s.heap h' → TxtSet prog w h' a (if x ∈ L then L else L ++ [x]) → Q b { s with heap := h' }) :
    wpAny (model prog w) A (setAddHashed a (.str x tk) ((mixKind prog w).hash (.inr x))) Q E s := by
  obtain ⟨o, es, ep, t, ho, hex, hd, hel, hstr, hperm, hb, hf, hpl⟩ := hS.ex
  have hkey : (mixKind prog w).is (.inr x) (.str x tk) = true := mixKind_str prog w x tk
  have hsc : (Value.str x tk).scannable = true := rfl
  have hn : es.size = L.length := by have := hperm.length_eq; simpa using this
  have hb1 : es.size + 1 < scanBound := by rw [hn]; exact hroom
  have his : ∀ e ∈ es.toList, ((mixKind prog w).is (.inr x) e.2 = true ↔ tOf e.2 = x) := fun e he => by
    obtain ⟨y, u, ey⟩ := hstr e he
    rw [ey]
    show keyIs (.inr x) (.str y u) = true ↔ y = x
    constructor
    · intro z
      rcases keyIs_shape z with ⟨i, t, q, _⟩ | ⟨x', t, q, q2⟩
      · cases q
      · cases q; injection q2
    · rintro rfl; exact keyIs_str _ _
  unfold setAddHashed setAddHashedIn
  refine wpAny_holding (wpAny_bind (wpAny_setState_of ho hd hf ?_))
  dsimp only
  rw [byScan_of hsc hb hel]
  simp only [↓reduceIte]
  unfold setAddByScan
  refine wpAny_bind ?_
  refine wpAny_bind (wpAny_rule ?_)
  refine wpAny_bind (wpAny_setScan_of hkey ho hd hf hel ?_)
  cases hr : List.findIdx? (fun e => (mixKind prog w).is (.inr x) e.2) es.toList with
  | some j =>
    dsimp only
    obtain ⟨hj, hpj, _⟩ := List.findIdx?_eq_some_iff_getElem.mp hr
    have hm : x ∈ L := hperm.mem_iff.mp (List.mem_map.mpr ⟨_, List.getElem_mem hj, (his _ (List.getElem_mem hj)).mp hpj⟩)
    refine wpAny_pure (wpAny_pure ?_)
    have e : s = { s with heap := s.heap } := by cases s; rfl
    have := h s.heap false (Heap.SameBut.refl a s.heap) (by rw [if_pos hm]; exact hS)
    rw [e]; exact this
  | none =>
    dsimp only
    have hm : x ∉ L := fun z => by
      obtain ⟨e, he, q⟩ := List.mem_map.mp (hperm.mem_iff.mpr z)
      have := List.findIdx?_eq_none_iff.mp hr e he
      rw [(his e he).mpr q] at this; exact Bool.noConfusion this
    have hgw : ∀ (b : Bool) {s₁ : Shared} {Q' : Unit → Shared → Prop}, Q' () s₁ → wpAny (model prog w) A (match b with | true => rule "set.scan.the-table-gave-way" | false => pure ()) Q' E s₁ :=
      fun b s₁ Q' hq => by cases b <;> first | exact wpAny_pure hq | exact wpAny_rule hq
    have hlp := layNew_perm t es ((mixKind prog w).hash (.inr x)) (.str x tk)
    have hlf := layNew_fits t es ((mixKind prog w).hash (.inr x)) (.str x tk)
    generalize hL : layNew t es ((mixKind prog w).hash (.inr x)) (.str x tk) = LL at hlp hlf ⊢
    obtain ⟨es1, t1, wasDummy, gave⟩ := LL
    dsimp only at hlp hlf ⊢
    rw [Array.toList_push] at hlp
    have hel1 : ElemsOf (mixKind prog w) es1.toList := (hel.push hkey hsc).perm hlp
    have hstr1 : ∀ e ∈ es1.toList, ∃ y u, e.2 = Value.str y u := fun e he => by
      rcases List.mem_append.mp (hlp.mem_iff.mp he) with z | z
      · exact hstr e z
      · rw [List.mem_singleton] at z; subst z; exact ⟨x, tk, rfl⟩
    have hp1 : (es1.toList.map fun e => tOf e.2).Perm (L ++ [x]) := by
      refine (hlp.map fun e => tOf e.2).trans ?_
      rw [List.map_append]
      exact hperm.append_right _
    have hb1' : es1.size < scanBound := by rw [← Array.length_toList, hlp.length_eq, List.length_append, Array.length_toList]; simpa using hb1
    refine wpAny_bind (hgw _ ?_)
    have key : ∀ t2 : SetTable, t2.plain = false → t2.fits es1.size = true → ∀ {R : Option Bool → Shared → Prop}, (∀ h', Heap.SameBut a s.heap h' → TxtSet prog w h' a (L ++ [x]) → R (some true) { s with heap := h' }) →
        wpAny (model prog w) A (do
          storeSet a es1 t2
          if (!wasDummy && t2.tooFull) = true then do
              (match (relayAll t2 es1 (SetTable.grown es1.size)).2.2 with | true => rule "set.scan.the-table-gave-way" | false => pure ())
              storeSet a (relayAll t2 es1 (SetTable.grown es1.size)).1 (relayAll t2 es1 (SetTable.grown es1.size)).2.1
              pure (some true)
            else pure (some true)) R E s := by
      intro t2 hpl2 hf2 R hR
      refine wpAny_bind (wpAny_storeSet_of ho hd ?_ (fits_of_scanBound hb1'))
      obtain ⟨ho1, hS1⟩ := txt_store (prog := prog) (w := w) ho hex hd hel1 hstr1 hp1 hb1' hf2 hpl2
      have hsb1 := Heap.SameBut.update s.heap a (Obj.putSet es1 t2)
      split
      · have hp := relayAll_perm t2 es1 (SetTable.grown es1.size)
        have hfr := relayAll_fits t2 es1 (SetTable.grown es1.size)
        have hplr := relayAll_plain (es := es1) (wanted := SetTable.grown es1.size) hpl2
        generalize hRl : relayAll t2 es1 (SetTable.grown es1.size) = Rl at hp hfr hplr ⊢
        obtain ⟨es2, t3, gave2⟩ := Rl
        dsimp only at hp hfr hplr ⊢
        have hel2 : ElemsOf (mixKind prog w) es2.toList := hel1.perm hp
        have hstr2 : ∀ e ∈ es2.toList, ∃ y u, e.2 = Value.str y u := fun e he => hstr1 e (hp.mem_iff.mp he)
        have hp2 : (es2.toList.map fun e => tOf e.2).Perm (L ++ [x]) := (hp.map fun e => tOf e.2).trans hp1
        have hsz : es2.size = es1.size := by rw [← Array.length_toList, hp.length_eq, Array.length_toList]
        have hb2 : es2.size < scanBound := by rw [hsz]; exact hb1'
        refine wpAny_bind (hgw _ ?_)
        refine wpAny_bind (wpAny_storeSet_of ho1 rfl ?_ (fits_of_scanBound hb2))
        obtain ⟨_, hS2⟩ := txt_store (prog := prog) (w := w) (s := { s with heap := s.heap.update a (Obj.putSet es1 t2) }) ho1 hex rfl hel2 hstr2 hp2 hb2 hfr hplr
        exact wpAny_pure (hR _ (hsb1.trans (Heap.SameBut.update _ a _)) hS2)
      · exact wpAny_pure (hR _ hsb1 hS1)
    have hend : ∀ h', Heap.SameBut a s.heap h' → TxtSet prog w h' a (L ++ [x]) → Q true { s with heap := h' } := by
      intro h' hsb hS'; refine h h' true hsb ?_; rw [if_neg hm]; exact hS'
    split
    · rename_i htp
      refine wpAny_bind ?_
      rw [hashByValue_scannable 8 hsc]
      refine wpAny_pure ?_
      have hk : plainKind (Value.str x tk) = false := rfl
      simp only [hk, Bool.false_eq_true, if_false]
      refine key { t1 with plain := false } rfl (SetTable.fits_plain_off hlf) ?_
      intro h' hsb hS'; exact wpAny_pure (hend h' hsb hS')
    · rename_i htp
      refine wpAny_bind (wpAny_pure ?_)
      simp only [↓reduceIte]
      refine key t1 (by simpa using htp) hlf ?_
      intro h' hsb hS'; exact wpAny_pure (hend h' hsb hS')
end
/-! ### a list of texts, each once -/
def metS (val : Nat → Str) : Nat → List Str
  | 0 => []
  | i + 1 => if val i ∈ metS val i then metS val i else metS val i ++ [val i]
theorem metS_len (val : Nat → Str) : ∀ i, (metS val i).length ≤ i
  | 0 => Nat.le_refl _
  | i + 1 => by
    have := metS_len val i
    unfold metS
    split
    · (first | lia | omega)
    · rw [List.length_append, List.length_singleton]; (first | lia | omega)
theorem metS_nodup (val : Nat → Str) : ∀ i, (metS val i).Nodup
  | 0 => by unfold metS; simp
  | i + 1 => by
    have := metS_nodup val i
    unfold metS
    split
    · exact this
    · rename_i h
      rw [List.nodup_append]
      exact ⟨this, by simp, fun a ha b hb e => by
        have : b = val i := by simpa using hb
        subst this; subst e; exact h ha⟩
theorem mem_metS (val : Nat → Str) {x : Str} : ∀ i, x ∈ metS val i ↔ ∃ j, j < i ∧ val j = x
  | 0 => by unfold metS; simp
  | i + 1 => by
    have ih := mem_metS val (x := x) i
    unfold metS
    split
    · rename_i h
      rw [ih]
      constructor
      · rintro ⟨j, h1, h2⟩; exact ⟨j, by (first | lia | omega), h2⟩
      · rintro ⟨j, h1, h2⟩
        by_cases e : j = i
        · subst e; subst h2
          exact (mem_metS val j).mp h
        · exact ⟨j, by (first | lia | omega), h2⟩
    · rw [List.mem_append, ih]
      constructor
      · rintro (⟨j, h1, h2⟩ | z)
        · exact ⟨j, by (first | lia | omega), h2⟩
        · exact ⟨i, by (first | lia | omega), (by simpa using z : x = val i).symm⟩
      · rintro ⟨j, h1, h2⟩
        by_cases e : j = i
        · subst e; exact .inr (by simp [h2])
        · exact .inl ⟨j, by (first | lia | omega), h2⟩
section
variable {prog : Program} {w : World} {A : Around} {R : Result → Shared → Prop} {I : Addr} {fp wr : List Addr} {G : Array GenState → Array GenState → Prop} {n : Nat} {P : Nat → Value → Prop} {St : Nat → Shared → Prop}
theorem update_loop_txt (W : WalksS prog w A.in1 I fp wr G n P St) (S : Addr) (hSf : S ∉ fp) (val : Nat → Str) (hval : ∀ i v, P i v → ∃ t, v = .str (val i) t) (hb : n + 1 < scanBound) :
    ∀ (k i : Nat) (s : Shared), n - i = k → i ≤ n → St i s → TxtSet prog w s.heap S (metS val i) →
      (∀ s', Moved (S :: wr) G s s' → TxtSet prog w s'.heap S (metS val n) → R (.ok (.ret .none)) s') →
      codeAny (model prog w) A (.builtin "set.update.loop" ⟨[.ref S, .ref I], []⟩) R s := by
  have hSw : S ∉ wr := fun h => hSf (W.sub _ h)
  have hsub : ∀ b ∈ wr, b ∈ S :: wr := fun b hb => List.mem_cons_of_mem _ hb
  intro k
  induction k with
  | zero =>
    intro i s hk hi hst hS hR
    have hin : i = n := by (first | lia | omega)
    subst hin
    refine codeAny_builtin F.entry_set_update_loop ?_
    rw [Around.under_plainId F.plain_set_update_loop _]
    show wpAny _ A.in1 (pyNext (.ref I) >>= _) _ _ s
    refine wpAny_bind (W.done s _ _ hst fun s' hm => ?_)
    show wpAny _ A.in1 (ret Value.none) _ _ s'
    exact wpAny_pure (hR s' (hm.mono hsub) (hS.at fun o e => hm.heap S _ hSw e))
  | succ k ih =>
    intro i s hk hi hst hS hR
    have hlt : i < n := by (first | lia | omega)
    refine codeAny_builtin F.entry_set_update_loop ?_
    rw [Around.under_plainId F.plain_set_update_loop _]
    show wpAny _ A.in1 (pyNext (.ref I) >>= _) _ _ s
    refine wpAny_bind (W.item i s _ _ hlt hst fun v s' hP hst' hm => ?_)
    obtain ⟨t, rfl⟩ := hval i v hP
    have hS' : TxtSet prog w s'.heap S (metS val i) := hS.at fun o e => hm.heap S _ hSw e
    show wpAny _ A.in1 (holding [Value.str (val i) t] (setAdd S (.str (val i) t)) >>= _) _ _ s'
    refine wpAny_bind (wpAny_holding ?_)
    unfold setAdd
    refine wpAny_holding ?_
    refine wpAny_bind ((mixKind prog w).pyHash (k := .inr (val i)) (mixKind_str _ _ _ _) ?_)
    have hroom : (metS val i).length + 1 < scanBound := by have := metS_len val i; (first | lia | omega)
    refine add_txt (s := { s' with toks := s'.toks + 1 }) hS' hroom fun h' b hsb hS2 => ?_
    have hSi : TxtSet prog w h' S (metS val (i + 1)) := hS2
    refine wpAny_pure ⟨plainId_quiet F.plain_set_update_loop _, ih (i + 1) _ (by (first | lia | omega)) hlt (W.frame _ s' _ _ hst' (Nat.le_succ _) fun b hb o e => ?_) hSi fun s'' hm'' hS'' => ?_⟩
    · rw [hsb.2 b (fun h : b = S => hSf (by rw [← h]; exact hb))]; exact e
    · refine hR s'' (Moved.trans W.gtrans ((hm.mono hsub).then_heap (Nat.le_succ _) fun b o hb e => ?_) hm'') hS''
      rw [hsb.2 b (fun h : b = S => hb (by rw [h]; exact List.mem_cons_self))]; exact e
end
section
variable {prog : Program} {w : World} {A : Around} {E : Value → Shared → Prop} {s : Shared}
theorem TxtSet.fresh {led : Bool} {a : Addr} {h : Heap} (e : h.get? a = some { cls := .type "set", dict := none, data := .set #[] 0 (.fresh 0 0 led) }) : TxtSet prog w h a [] :=
  ⟨_, #[], 0, _, e, ⟨rfl, rfl, rfl⟩, rfl, fun e he => by simp at he, fun e he => by simp at he, by simp, by decide, by rfl, fun z => absurd rfl z⟩
set_option maxHeartbeats 8000000 in
theorem call_set_txts {l : Addr} {items : Array Value} {val : Nat → Str} {Q : Value → Shared → Prop}
    (hh : A.handled = none) (hl : s.heap.IsList l items) (hi : ∀ (i : Nat) (v : Value), items[i]? = some v → ∃ t, v = Value.str (val i) t) (hb : items.size + 1 < scanBound)
    (h : ∀ (h' : Heap) (tk : Nat), TxtSet prog w h' s.heap.objs.size (metS val items.size) →
      (∀ b o, b < s.heap.objs.size → s.heap.get? b = some o → h'.get? b = some o) → Q (.ref s.heap.objs.size) { s with heap := h', toks := tk }) :
    wpAny (model prog w) A (call (.type "set") [.ref l]) Q E s := by
  obtain ⟨c, tl, hmro⟩ := F.called_set.mro
  have hmade := F.called_set.made
  have hsub := F.called_set.sub
  refine wpAny_call (codeAny_of_tree ?_)
  show wpAny _ _ (callAny (.type "set") _) _ _ _
  refine wpAny_pure ⟨Code.quiet_builtin _ (by decide +kernel), codeAny_builtin F.entry_type_call ?_⟩
  rw [Around.under_plain (weight_type_call_type "set" [.ref l] []) rfl]
  have h1 := F.called_set.notType
  have h2 := F.called_set.canCreate
  have hct := F.typeCall_set_1 (.ref l)
  repeat (any_goals (first | assumption | wp_step))
  refine codeAny_mono (code_set_new_1 (.ref l) (E := E) (Q₁ := fun obj s₁ => ∃ led : Bool, obj = .ref s.heap.objs.size ∧ s₁ = { s with heap := s.heap.push { cls := .type "set", dict := none, data := .set #[] 0 (.fresh 0 0 led) } }) fun led => ⟨led, rfl, rfl⟩) fun r s₁ hr => ?_
  cases r with
  | error e => exact hr
  | ok fl =>
    cases fl with
    | ret obj =>
      obtain ⟨led, rfl, rfl⟩ := hr
      have hS : (s.heap.push { cls := .type "set", dict := none, data := .set #[] 0 (.fresh 0 0 led) }).get? s.heap.objs.size = some { cls := .type "set", dict := none, data := .set #[] 0 (.fresh 0 0 led) } := Heap.get?_push_size _ rfl
      have hT : Shared.TypeIs { s with heap := s.heap.push { cls := .type "set", dict := none, data := .set #[] 0 (.fresh 0 0 led) } } (.ref s.heap.objs.size) "set" := ⟨_, hS, rfl⟩
      have hli := F.called_set.init.lookup
      have hbi := F.called_set.init.bind (.ref s.heap.objs.size)
      repeat (any_goals (first | assumption | wp_step))
      refine codeAny_mono (codeAny_call_builtin (R := wants (fun r s₂ => r = .none ∧ ∃ h' tk, s₂ = { s with heap := h', toks := tk } ∧ TxtSet prog w h' s.heap.objs.size (metS val items.size) ∧
          (∀ b o, b < s.heap.objs.size → s.heap.get? b = some o → h'.get? b = some o)) E) F.called_set.init.plain F.entry_set_init (check_set_init_1 hT ?_)) fun r₂ s₂ hr₂ => ?_
      · obtain ⟨ol, hol, hcl, nl, hdl⟩ := hl
        obtain ⟨ocls, odict, odata, oslots⟩ := ol
        simp only at hcl hdl
        subst hcl; subst hdl
        have hol' : (s.heap.push { cls := .type "set", dict := none, data := .set #[] 0 (.fresh 0 0 led) }).get? l = some { cls := .type "list", dict := odict, data := .seq items nl, slots := oslots } := Heap.get?_push_of_some _ hol
        have hsls := F.sub_list_set
        have hslf := F.sub_list_frozenset
        have hne : (Value.type "list" == Value.type "dict") = false := by decide
        have hl1 : (s.heap.push { cls := .type "set", dict := none, data := .set #[] 0 (.fresh 0 0 led) }).IsList l items := ⟨_, hol', rfl, nl, rfl⟩
        unfold Builtin.«set.__init__» noKeywords Builtin.Frozenset.updateFrom
        generalize hPI : pyIter = PI
        wp_walk
        subst hPI
        refine wpAny_pyIter_list hl1 ?_
        refine wpAny_bind (wpAny_runValue ?_)
        have hlS : l < s.heap.objs.size := Heap.lt_size hol
        have hh3 : A.in1.in1.in1.handled = none := by simp [hh]
        have hneI : l ≠ (s.heap.push { cls := .type "set", dict := none, data := .set #[] 0 (.fresh 0 0 led) }).objs.size := by
          rw [Heap.size_push]; exact Nat.ne_of_lt (Nat.lt_succ_of_lt hlS)
        have hSf : s.heap.objs.size ∉ [(s.heap.push { cls := .type "set", dict := none, data := .set #[] 0 (.fresh 0 0 led) }).objs.size, l] := by
          rw [Heap.size_push]; simp only [List.mem_cons, List.mem_singleton, List.not_mem_nil, or_false, not_or]
          exact ⟨Nat.ne_of_lt (Nat.lt_succ_self _), Nat.ne_of_gt hlS⟩
        refine update_loop_txt ((Walks.list hh3 _ l hneI items).toS) s.heap.objs.size
          hSf val hi hb (items.size - 0) 0 _ (by (first | lia | omega)) (Nat.zero_le _)
          ⟨⟨_, Heap.get?_push_size _ rfl, rfl, rfl⟩, (hl1.push _)⟩ ?hS0 ?hR
        case hS0 =>
          have hget : ((s.heap.push { cls := .type "set", dict := none, data := .set #[] 0 (.fresh 0 0 led) }).push { cls := .type "list_iterator", data := .fields #[.ref l, .int 0 0] }).get? s.heap.objs.size
              = some { cls := .type "set", dict := none, data := .set #[] 0 (.fresh 0 0 led) } := Heap.get?_push_of_some _ hS
          exact TxtSet.fresh hget
        case hR =>
          intro s' hm hS'
          obtain ⟨h', g', d', tk', os'⟩ := s'
          have eg : g' = s.gens := hm.gens
          have ed : d' = s.drawn := hm.drawn
          have eo : os' = s.os := hm.os
          subst eg; subst ed; subst eo
          show wpAny _ _ _ _ _ _
          refine wpAny_pure ?_
          show wpAny _ _ (ret Value.none) _ _ _
          refine wpAny_pure ⟨rfl, h', tk', rfl, hS', fun b o hb e => ?_⟩
          have hb1 : b ≠ s.heap.objs.size := Nat.ne_of_lt hb
          have hb2 : b ≠ (s.heap.push { cls := .type "set", dict := none, data := .set #[] 0 (.fresh 0 0 led) }).objs.size := by
            rw [Heap.size_push]; exact Nat.ne_of_lt (Nat.lt_succ_of_lt hb)
          exact hm.heap b o (by simp only [List.mem_cons, List.mem_singleton, List.not_mem_nil, or_false, not_or]; exact ⟨hb1, hb2⟩) (Heap.get?_push_of_some _ (Heap.get?_push_of_some _ e))
      · cases r₂ with
        | error e => exact hr₂
        | ok fl₂ =>
          cases fl₂ with
          | ret r =>
            obtain ⟨rfl, h', tk, rfl, hS', hk'⟩ := hr₂
            repeat (any_goals (first | assumption | wp_step))
            exact h _ _ hS' hk'
          | _ => exact hr₂.elim
    | _ => exact hr.elim
end
end L2

set_option Elab.async false
set_option linter.all false
set_option maxRecDepth 100000
set_option maxHeartbeats 4000000
/-! Wordrace: a set of texts, sorted; sorted and max by the length. -/
namespace L2
open PySem PySem.Spec PyProof.Rows
open Sem (wp)
section
variable {prog : Program} {w : World} {A : Around} {E : Value → Shared → Prop} {s : Shared}
/-- all elements of a set of texts, in whatever order -/
theorem collect_set {a : Addr} {L : List Str} {Q : List Value → Shared → Prop} (hh : A.handled = none) (hS : TxtSet prog w s.heap a L) (h2 : 2 ≤ L.length) (hz : L.length ≤ 1000)
    (hQ : ∀ (h' : Heap) (d' : Drawn) (tk : Nat) (vs : List Value), s.heap.objs.size ≤ h'.objs.size → (∀ b o, s.heap.get? b = some o → h'.get? b = some o) → (vs.map tOf).Perm L → (∀ v ∈ vs, ∃ x t, v = Value.str x t) → Q vs { s with heap := h', drawn := d', toks := tk }) :
    wpAny (model prog w) A (collect (.ref a)) Q E s := by
  obtain ⟨o, es, ep, t, ho, hex, hd, hel, hstr, hperm, hb, hf, hpl⟩ := hS.ex
  have hn : es.size = L.length := by have := hperm.length_eq; simpa using this
  have hlt : a < s.heap.objs.size := Heap.lt_size ho
  have hpl' : t.plain = false := hpl (by intro z; subst z; simp at h2)
  unfold collect
  refine wpAny_bind (wpAny_runValue (codeAny_builtin F.entry_proto_collect ?_))
  rw [Around.under_plainId F.plain_proto_collect _]
  show wpAny _ A.in1 (newList [] >>= fun l => again (.builtin "list.__iadd__" ⟨[l, .ref a], []⟩)) _ _ s
  refine wpAny_bind (wpAny_newObj_type ?_)
  refine wpAny_pure ⟨plainId_quiet F.plain_list_iadd _, codeAny_builtin F.entry_list_iadd ?_⟩
  rw [Around.under_plainId F.plain_list_iadd _]
  have hS1 : SetAt (s.heap.push { cls := .type "list", data := .seq ([] : List Value).toArray }) a es ep t := ⟨⟨o, Heap.get?_push_of_some _ ho, hex, hd⟩, hf⟩
  have hT1 := SetAt.typeIs (s := { s with heap := s.heap.push { cls := .type "list", data := .seq ([] : List Value).toArray } }) hS1
  show wpAny _ A.in1 (Builtin.List.listExtendWith (.ref s.heap.objs.size) (.ref a) (.ref s.heap.objs.size)) _ _ _
  unfold Builtin.List.listExtendWith
  refine wpAny_bind (wpAny_typeOf hT1 ?_)
  have h1 : Builtin.List.listSameRef (.ref s.heap.objs.size) (.ref a) = false := by simp [Builtin.List.listSameRef]; exact Nat.ne_of_gt hlt
  have h2' : (Value.type "set" == Value.type "list") = false := by decide
  have h3 : (Value.type "set" == Value.type "tuple") = false := by decide
  simp only [h1, h2', h3, Bool.or_false, Bool.false_eq_true, if_false]
  refine wpAny_bind (pyIter_set hS1 hpl' (by (first | lia | omega)) (by (first | lia | omega)) fun I fp P St h' d' hW hst hI hIf hfp hk hvs => ?_)
  have hk0 : ∀ b o, s.heap.get? b = some o → h'.get? b = some o := fun b o e => hk b o (Heap.get?_push_of_some _ e)
  have hS2 : SetAt h' a es ep t := hS1.at fun o e => hk a o e
  have hT2 := SetAt.typeIs (s := { s with heap := h', drawn := d' }) hS2
  have hL2 : h'.get? s.heap.objs.size = some { cls := .type "list", data := .seq ([] : List Value).toArray } := hk _ _ (Heap.get?_push_size _ rfl)
  refine wpAny_bind (wpAny_holding ?_)
  unfold Builtin.List.listLengthHint
  refine wpAny_bind (wpAny_specialOf hT2 F.slot_set_len.lookup ?_)
  dsimp only
  rw [show splitId "set.__len__" = some ("set", "__len__") from by decide +kernel]
  dsimp only
  refine wpAny_bind (wpAny_isInstance hT2 sub_set_self ?_)
  refine wpAny_ite_split (fun z => absurd z (by decide)) (fun _ => ?_)
  refine wpAny_ite_split (fun _ => ?_) (fun z => absurd (by rfl) z)
  refine wpAny_bind (wpAny_typeOf hT2 ?_)
  refine wpAny_pure ?_
  show wpAny _ A.in1 (rule "list.extend.makes-room" >>= fun _ => Builtin.List.listTouch (.ref s.heap.objs.size) >>= fun _ =>
    again (.builtin "list.extend.loop" ⟨[.ref s.heap.objs.size, .ref I, .ref s.heap.objs.size], []⟩)) _ _ _
  refine wpAny_bind (wpAny_rule ?_)
  refine wpAny_bind ?_
  show wpAny _ A.in1 (updateSeq s.heap.objs.size (·.push .none) >>= fun _ => updateSeq s.heap.objs.size (·.pop)) _ _ _
  refine wpAny_bind (wpAny_updateSeq hL2 rfl ?_)
  have hS₂ := Heap.get?_update_self (Obj.mapSeq (·.push Value.none)) hL2 rfl
  refine wpAny_updateSeq hS₂ rfl ?_
  have hS₃ := Heap.get?_update_self (Obj.mapSeq (·.pop)) hS₂ rfl
  have oth : ∀ b o, b ≠ s.heap.objs.size → h'.get? b = some o → ((h'.update s.heap.objs.size (Obj.mapSeq (·.push Value.none))).update s.heap.objs.size (Obj.mapSeq (·.pop))).get? b = some o :=
    fun b o hb e => (Heap.get?_update_other _ _ (Ne.symm hb)).trans ((Heap.get?_update_other _ _ (Ne.symm hb)).trans e)
  have hsz1 : (s.heap.push { cls := .type "list", data := .seq ([] : List Value).toArray }).objs.size = s.heap.objs.size + 1 := Heap.size_push ..
  have hSf : s.heap.objs.size ∉ fp := fun z => by
    rcases hfp _ z with y | y
    · exact Nat.ne_of_gt hlt y
    · have y' : s.heap.objs.size + 1 ≤ s.heap.objs.size := by rw [← hsz1]; exact y
      exact absurd y' (Nat.not_succ_le_self _)
  have W := (hW A.in1 (by simpa using hh)).toS
  refine wpAny_pure ⟨plainId_quiet F.plain_extend_loop _, codeAny_extend_loopS W (by rw [sizeLine_eq]; (first | lia | omega)) s.heap.objs.size hSf _ es.size 0 _ _ _ rfl (Nat.zero_le _)
    ((hW A.in1 (by simpa using hh)).frame 0 _ _ hst fun b hb o e => oth b o (fun z => hSf (z ▸ hb)) e) hS₃ (ItemsOf.nil P) fun s' acc' c' hm hS' hacc => ?_⟩
  show wpAny _ A (load s.heap.objs.size >>= _) _ _ s'
  refine wpAny_bind (wpAny_load hS' ?_)
  obtain ⟨h3', g3, d3, tk3, os3⟩ := s'
  have eg : g3 = s.gens := hm.gens
  have ed : d3 = d' := hm.drawn
  have eo : os3 = s.os := hm.os
  subst eg; subst ed; subst eo
  refine wpAny_pure ?_
  obtain ⟨a1, a2⟩ := hacc
  have pv := hvs acc'.toList (by simpa using a1) (fun j v e => a2 j v (by simpa using e))
  refine hQ h3' d3 tk3 acc'.toList (Nat.le_of_lt (Heap.lt_size hS')) (fun b o e => ?_) ?_ (fun v hv => ?_)
  · have hbl := Heap.lt_size e
    refine hm.heap b o ?_ (oth b o (Nat.ne_of_lt hbl) (hk0 b o e))
    have hI' : s.heap.objs.size + 1 ≤ I := by rw [← hsz1]; exact hI
    simp only [List.mem_cons, List.mem_singleton, List.not_mem_nil, or_false, not_or]
    exact ⟨Nat.ne_of_lt hbl, Nat.ne_of_lt (Nat.lt_of_lt_of_le (Nat.lt_succ_of_lt hbl) hI')⟩
  · refine (pv.map tOf).trans ?_
    rw [List.map_map]
    exact hperm
  · obtain ⟨e, he, rfl⟩ := List.mem_map.mp (pv.mem_iff.mp hv)
    exact hstr e he
theorem tOf_eq : ∀ v : Value, tOf v = strOf v := fun v => by cases v <;> rfl
theorem strsAre_tOf {vs : List Value} (h : ∀ v ∈ vs, ∃ x t, v = Value.str x t) : StrsAre vs (vs.map tOf) := by
  have := strsAre_map vs h
  rwa [show vs.map strOf = vs.map tOf from List.map_congr_left fun v _ => (tOf_eq v).symm] at this
theorem sorted_set {a : Addr} {L : List Str} {Q : Value → Shared → Prop} (hh : A.handled = none) (hS : TxtSet prog w s.heap a L) (h2 : 2 ≤ L.length) (h64 : L.length < 64)
    (hQ : ∀ (h' : Heap) (d' : Drawn) (tk : Nat) (r : Addr) (out : Array Value) (c : Nat) (ys : List Str), (∀ b o, s.heap.get? b = some o → h'.get? b = some o) → s.heap.objs.size ≤ r → h'.get? r = some (seqObj "list" out c) → StrsAre out.toList ys → ys.Perm L → sortedS ys = true →
      Q (.ref r) { s with heap := h', drawn := d', toks := tk }) : wpAny (model prog w) A (call (.builtin "sorted") [.ref a]) Q E s := by
  refine Calls.call_function_entry kind_sorted plain_sorted entry_sorted (args_sorted1 _) ?_
  unfold Builtin.«sorted»
  refine wpAny_bind (m := checkCount "sorted" 1 1 _) (wpAny_pure ?_)
  refine wpAny_bind (collect_set (by simpa using hh) hS h2 (by (first | lia | omega)) fun h1 d1 tk vs hle hk hp hstr => ?_)
  have hl : vs.length = L.length := by have := hp.length_eq; simpa using this
  have hA := strsAre_tOf hstr
  refine wpAny_bind (wpAny_newList ?_ (by rw [sizeLine_eq]; (first | lia | omega)))
  have hoL : (h1.push (seqObj "list" vs.toArray 0)).get? h1.objs.size = some (seqObj "list" vs.toArray 0) := Heap.get?_push_size _ rfl
  show wpAny _ _ _ _ _ { s with heap := h1.push (seqObj "list" vs.toArray 0), drawn := d1, toks := tk }
  refine wpAny_bind (wpAny_holding (wpAny_call_entry slot_list_sort ⟨_, hoL, rfl⟩ entry_list_sort (list_sort_treeK strKind_oneLt hoL hA.keysOf (fun v₁ v₂ rest e => keyKind_strs (by rw [← e]; exact hA)) (by (first | lia | omega)) fun st' a1 a2 => ⟨_, rfl, ?_⟩) (args_list_sort _)))
  obtain ⟨ys, y1, y2, y3⟩ := sorted_out_str hA a1 a2
  obtain ⟨e, he⟩ := sortedHeap_at (out := (arrOf st').map (·.2)) hoL
  refine wpAny_pure ⟨_, rfl, hQ _ d1 tk h1.objs.size _ e ys (fun b o q => ?_) hle he y1 (y2.trans hp) y3⟩
  have hb := hk b o q
  have hlt := Heap.lt_size hb
  rw [sortedHeap_old (Nat.ne_of_lt hlt) (by rw [Heap.size_push]; exact Nat.lt_succ_of_lt hlt)]
  exact Heap.get?_push_of_some _ hb
end
/-! ### the rules -/
section
variable {X : Cx} {pins : List (Addr × Obj)} {σ : List (Option V)} {H : Hp} {s : Shared}
/-- a set of texts -/
def TxtO (P : Program) (w : World) (a : Addr) (L : List Str) : HO := .ext fun h => TxtSet P w h a L
theorem TxtO.ok {P : Program} {w : World} {H : Hp} {h : Heap} {a : Addr} {L : List Str} (x : TxtSet P w h a L) : ObjOk P w H h a (TxtO P w a L) := by
  obtain ⟨o, es, ep, t, ho, _⟩ := id x.ex
  exact ⟨x, ⟨o, ho⟩, fun h1 h2 y k => y.at k⟩
/-- all objects kept, whatever was drawn -/
theorem Inv.keptD {h' : Heap} {t' : Nat} {d' : Drawn} (I : Inv X pins σ H s) (k : ∀ b u, s.heap.get? b = some u → h'.get? b = some u) : Inv X pins σ H { s with heap := h', drawn := d', toks := t' } :=
  I.call (g' := s.gens) (t' := t') (d' := d') (ch := []) (Un.kept k) (I.hok.kept k) I.bare fun b z => absurd z (by simp)
/-- .. and a new one is tracked -/
theorem Inv.laidD {h' : Heap} {t' : Nat} {d' : Drawn} {a : Addr} {o : HO} (I : Inv X pins σ H s) (k : ∀ b u, s.heap.get? b = some u → h'.get? b = some u) (hp : s.heap.objs.size ≤ a) (new : ObjOk X.prog X.w (upd H a o) h' a o) :
    Inv X pins σ (upd H a o) { s with heap := h', drawn := d', toks := t' } := by
  have I1 : Inv X pins σ H { s with heap := h', drawn := d', toks := t' } := I.keptD k
  exact I1.track (I.fpOk hp (I.hok.fresh hp)) new
def metL (ts : List (List Nat)) : List Str := metS (fun i => S (ts.getD i [])) ts.length
theorem metL_len (ts : List (List Nat)) : (metL ts).length ≤ ts.length := metS_len _ _
theorem metL_nodup (ts : List (List Nat)) : (metL ts).Nodup := metS_nodup _ _
theorem mem_metL {ts : List (List Nat)} {x : Str} : x ∈ metL ts ↔ ∃ t ∈ ts, S t = x := by
  unfold metL
  rw [mem_metS]
  constructor
  · rintro ⟨j, hj, e⟩
    exact ⟨ts[j], List.getElem_mem hj, by rw [← e, List.getD_eq_getElem?_getD, List.getElem?_eq_getElem hj]; rfl⟩
  · rintro ⟨t, ht, e⟩
    obtain ⟨j, hj, rfl⟩ := List.mem_iff_getElem.mp ht
    exact ⟨j, hj, by rw [← e, List.getD_eq_getElem?_getD, List.getElem?_eq_getElem hj]; rfl⟩
theorem call_setT (K : PySem.W.Frag) (P : Program) (w : World) (hK : X.K = K) (hP : X.prog = P) (hw : X.w = w) (hc : X.calm = true) : CallR X (.type "set") (fun xs H Q => ∃ p, ∃ ts : List (List Nat), xs = [.ref p] ∧ SqL K H p (ts.map fun l => V.str (S l)) ∧ ts.length ≤ 1000 ∧ ∀ r, H r = none → Q (.ref r) (upd H r (TxtO P w r (metL ts)))) := by
  subst hK hP hw
  intro pins s σ H xs us Q I r h
  obtain ⟨p, ts, rfl, hq, hz, q⟩ := h
  obtain ⟨u, rfl, r1⟩ := vals1 r
  cases r1
  obtain ⟨its, rv, pl, _⟩ := I.list hq
  have hl := rv.length
  rw [List.length_map] at hl
  refine call_set_txts (val := fun i => S (ts.getD i [])) (I.ok.hd hc) pl.isList (fun i v hv => ?_) (by rw [List.size_toArray]; unfold scanBound; (first | lia | omega)) fun h' tk hS hk => ?_
  · obtain ⟨x, hx, rx⟩ := vals_at rv (by simpa using hv)
    rw [List.getElem?_map] at hx
    cases e : ts[i]? with
    | none => rw [e] at hx; cases hx
    | some t =>
      rw [e] at hx
      cases hx
      obtain ⟨tk, rfl⟩ := rx
      exact ⟨tk, by show Value.str (S t) tk = Value.str (S (ts.getD i [])) tk; rw [List.getD_eq_getElem?_getD, e]; rfl⟩
  · have e : metS (fun i => S (ts.getD i [])) its.toArray.size = metL ts := by rw [List.size_toArray, ← hl]; rfl
    rw [e] at hS
    exact ⟨.ref _, _, I.laid (t' := tk) (fun b o e => hk b o (Heap.lt_size e) e) (Nat.le_refl _) (TxtO.ok hS), rfl, q _ I.fresh⟩
theorem vals_strs : ∀ {vs : List Value} {ys : List Str}, StrsAre vs ys → Vals (ys.map V.str) vs
  | _, _, .nil => .nil
  | _, _, .cons y t h => .cons ⟨t, rfl⟩ (vals_strs h)
theorem call_sortedT (P : Program) (w : World) (hP : X.prog = P) (hw : X.w = w) (hc : X.calm = true) : CallR X (.builtin "sorted") (fun xs H Q => ∃ p L, xs = [.ref p] ∧ H p = some (TxtO P w p L) ∧ 2 ≤ L.length ∧ L.length < 64 ∧ ∀ r ys, H r = none → ys.Perm L → sortedS ys = true → Q (.ref r) (upd H r (.lst (ys.map V.str)))) := by
  subst hP hw
  intro pins s σ H xs us Q I r h
  obtain ⟨p, L, rfl, hp, h2, h64, q⟩ := h
  obtain ⟨u, rfl, r1⟩ := vals1 r
  cases r1
  obtain ⟨hS, _⟩ := I.hok p _ hp
  have hS : TxtSet X.prog X.w s.heap p L := hS
  refine sorted_set (I.ok.hd hc) hS h2 h64 fun h' d' tk r out c ys hk hr hget hA hpm hso => ?_
  have hl : ys.length = L.length := hpm.length_eq
  refine ⟨.ref r, _, I.laidD (t' := tk) (d' := d') (o := .lst (ys.map V.str)) hk hr ⟨by rw [List.length_map, sizeLine_eq]; (first | lia | omega), out.toList, c, vals_strs hA, ?_⟩, rfl, q r ys (I.hok.fresh hr) hpm hso⟩
  rw [hget]; try rfl
/-! ### by the length -/
/-- the frame's own record may have turned, all else is kept -/
theorem Inv.byFr {h' : Heap} {t' : Nat} {m : Str → Option Value} (I : Inv X pins σ H s) (hm : s.heap.Ns X.env.locals m) (F : Fr (Att.noObjs s.heap) X.env.locals h' m) (N : News (Att.noObjs s.heap) X.env.locals h' (allNews (Att.noObjs s.heap) s.heap X.env.locals)) :
    (∀ b o, b ≠ X.env.locals → s.heap.get? b = some o → h'.get? b = some o) ∧ Inv X pins σ H { s with heap := h', toks := t' } := by
  have keep : ∀ b o, b ≠ X.env.locals → s.heap.get? b = some o → h'.get? b = some o := fun b o hb e => (N (b, o) (mem_allNews hb (Att.noObjs_get _ _) e)).1
  refine ⟨keep, ?_⟩
  refine I.step (g' := s.gens) (d' := s.drawn) (t' := t') (ch := []) (fun _ z => nomatch z) (fun b o hb _ _ e _ => keep b o hb e) (fun b o hb _ _ e _ => ⟨o.slots, keep b o hb e⟩) (fun _ _ _ _ n => n) (fun b o _ e => ?_)
    (fun _ _ e => e) (fun _ _ _ e => e) (fun b ps e => ⟨#[], by rw [e]; simp⟩) (fun m' hm' => ?_) (fun b u e => ?_) I.bare
  · by_cases hb : b = X.env.locals
    · subst hb
      obtain ⟨o', _, _, e', _⟩ := F.ns
      exact ⟨o', e'⟩
    · exact ⟨o, keep b o hb e⟩
  · have : m' = m := by
      obtain ⟨o, es, ep, e, d, k, f⟩ := hm
      obtain ⟨o', es', ep', e', d', k', f'⟩ := hm'
      rw [e] at e'; cases e'
      rw [d] at d'; cases d'
      funext x
      rw [← f x, ← f' x]
    subst this
    exact F.ns
  · have nb : ∀ c v, H c = some v → c ≠ X.env.locals := fun c v q z => by rw [z, I.free] at q; cases q
    refine (I.hok b u e).stay (fun c v hc q => keep c v ?_ q) (fun _ q => q) fun _ _ q => q
    rcases hc with z | z
    · rw [z]; exact nb b u e
    · exact nb c _ z
theorem fr_all' {h : Heap} {L : Addr} {m : Str → Option Value} (n : h.Ns L m) : Fr (Att.noObjs h) L h m := Att.fr_all n
theorem len_turn {prog : Program} {w : World} {A : Around} {h₀ : Heap} {L : Addr} {m : Str → Option Value} {need : List (Addr × Obj)} {s : Shared} {x : Str} {t : Tok} (hz : x.length ≤ sizeLine) (F : Fr h₀ L s.heap m) (N : News h₀ L s.heap need) :
    wpAny (model prog w) A (call (.builtin "len") [.str x t]) (KskEnd h₀ L m need (x.length : Int) s) (fun _ _ => False) s := by
  refine PySem.P.len_str ?_ ?_
  · rw [sizeLine_eq] at hz; (first | lia | omega)
  · exact ⟨s.heap, _, _, rfl, rfl, F, N⟩
section
variable {prog : Program} {w : World} {A : Around} {E : Value → Shared → Prop} {s : Shared} {h₀ : Heap} {L l : Addr} {m : Str → Option Value} {news : List (Addr × Obj)} {b : Bool} {vs : List Value} {Q : Value → Shared → Prop}
end
/-- the codes of a value's text -/
def cOf (v : Value) : List Nat := (tOf v).cps.toList
theorem vals_cOf : ∀ {ts : List (List Nat)} {its : List Value}, Vals (ts.map fun l => V.str (S l)) its → its.map cOf = ts ∧ ∀ v ∈ its, ∃ t, v = Value.str (S (cOf v)) t
  | [], _, .nil => ⟨rfl, fun v hv => by simp at hv⟩
  | t :: ts, _, .cons a b => by
    obtain ⟨tk, rfl⟩ := a
    obtain ⟨h1, h2⟩ := vals_cOf b
    have e : cOf (Value.str (S t) tk) = t := S_cps t
    refine ⟨by rw [List.map_cons, h1, e], fun v hv => ?_⟩
    rcases List.mem_cons.mp hv with z | z
    · subst z; exact ⟨tk, by rw [e]⟩
    · exact h2 v z
theorem vals_of_cOf : ∀ {out : List Value}, (∀ v ∈ out, ∃ t, v = Value.str (S (cOf v)) t) → Vals ((out.map cOf).map fun l => V.str (S l)) out
  | [], _ => .nil
  | v :: out, h => .cons (h v List.mem_cons_self) (vals_of_cOf fun u hu => h u (List.mem_cons_of_mem _ hu))
theorem boot_sorted' : bootBuiltins "sorted" = some (.builtin "sorted") := by decide +kernel
/-- f(e, key=len) comes to the call -/
theorem call_keyLen {f : Str} {id : String} {e : Expr} {te : TE} {p q kp pos : Pos} {pins : List (Addr × Obj)} {s : Shared} {σ : St} {H : Hp} {Q : Value → Shared → Prop} {R : V → Hp → Prop} (he : PE X e te) (hg : Gl X f) (hm : X.mg f = none) (hb : bootBuiltins f = some (.builtin id)) (hn : f ≠ "__name__") (hd : (f == ("__debug__" : Str)) = false) (hgl : Gl X "len") (hml : X.mg "len" = none)
    (h1 : starEach [e] X.env = [(false, eval e X.env)]) (I : Inv X pins σ H s) (h : te σ H R)
    (k : ∀ x H1 u s1, Inv X pins σ H1 s1 → RelV x u → R x H1 → wpAny (model X.prog X.w) X.A (call (.builtin id) [u] [(Str.ofString "key", .builtin "len")]) Q X.xe s1) :
    wpAny (model X.prog X.w) X.A (eval (.Call (.Name f p) [e] [⟨some "key", .Name "len" q, kp⟩] pos) X.env) Q X.xe s := by
  refine wpAny_Call_Name_kw (ld_blt I hg hm hb ?_ hn hd)
  have ha : PA X [e] (tCons te tNil) := pa_cons he pa_nil (by rw [h1]; rfl)
  refine callWith_kw (thn (ha pos pins s σ H (fun vs H1 => match vs with | [x] => R x H1 | _ => False) I h) fun us s1 ⟨vs, H1, I1, r, q1⟩ => ?_) (by rw [h1]; rfl) (by rw [h1]; rfl) rfl rfl
  match vs, r, q1 with
  | [x], r, q1 =>
    obtain ⟨u, rfl, r1⟩ := vals1 r
    show wpAny _ _ (evalAll [do let v ← eval (.Name "len" q) X.env; standAt pos; pure v]) _ _ s1
    refine wpAny_evalAll_cons (wpAny_bind (ld_blt I1 hgl hml boot_len (wpAny_bind (wpAny_standAt (wpAny_pure (wpAny_evalAll_nil ?_))))))
    exact k x H1 u s1 I1 r1 q1
section
variable {σ : St} {H : Hp} {Q : VK} {K : PySem.W.Frag} {te : TE}
end
end
end L2

set_option Elab.async false
set_option linter.all false
set_option maxRecDepth 100000
set_option maxHeartbeats 4000000
/-! Wordrace: places of texts in lists. -/
namespace L2
open PySem PySem.Spec PyProof.Rows
section
variable {X : Cx} {H : Hp} {Q : VK} {K : PySem.W.Frag}
end
end L2

set_option linter.all false
/-! Wordrace: the mathematics of texts, beginnings and states; no library. -/
namespace Wr
abbrev Tx := List Nat
/-- a beginning of one of the words -/
def Beg (ws : List Tx) (t : Tx) : Prop := ∃ w ∈ ws, t <+: w
theorem beg_nil {ws : List Tx} (h : ws ≠ []) : Beg ws [] := by
  cases ws with
  | nil => exact absurd rfl h
  | cons w r => exact ⟨w, List.mem_cons_self, List.nil_prefix⟩
/-- no word stands within another one -/
def Apart (ws : List Tx) : Prop := ∀ w ∈ ws, ∀ w' ∈ ws, w <:+: w' → w = w'
end Wr

set_option linter.all false
/-! Wordrace: rows of numbers, and how a state falls out of them. -/
namespace Wr
/-! ### the common factor -/
end Wr

set_option linter.all false
namespace My
def abcd : List Nat := [97, 98, 99, 100]
structure DieOk (ns : List Int) : Prop where
  lo : 2 ≤ ns.length
  hi : ns.length ≤ 4
  w : ∀ n ∈ ns, 1 ≤ n ∧ n ≤ 9
structure WordOk (n : Nat) (l : List Nat) : Prop where
  lo : 1 ≤ l.length
  hi : l.length ≤ 6
  s : ∀ c ∈ l, c ∈ abcd.take n
end My
/-! Wordrace: point 10's sums over the states of a race. -/
namespace Wr
open My
/-- the list of beginnings: each once -/
structure BegL (ws bs : List Tx) : Prop where
  nd : bs.Nodup
  mem : ∀ t, t ∈ bs ↔ Beg ws t
/-! ### a weight for each state that falls along every way -/
structure Race (n : Nat) (ws : List Tx) : Prop where
  lo : 1 ≤ ws.length
  hi : ws.length ≤ 4
  w : ∀ l ∈ ws, WordOk n l
  nd : ws.Nodup
  apart : Apart ws
theorem Race.ne {n : Nat} {ws : List Tx} (R : Race n ws) : ws ≠ [] := by intro z; subst z; have := R.lo; simp at this
theorem Race.len {n : Nat} {ws : List Tx} (R : Race n ws) {t : Tx} (h : Beg ws t) : t.length ≤ 6 := by
  obtain ⟨w, hw, p⟩ := h
  have := (R.w w hw).hi
  have := p.length_le
  (first | lia | omega)
end Wr

set_option linter.all false
namespace Wr
open My
/-! ### what solved tells -/
/-! ### how many states -/
/-! ### the shares that the row tells -/
end Wr

set_option linter.all false
namespace Wr
open My
/-! ### sums over the signs -/
/-! ### solutions -/
end Wr

set_option linter.all false
namespace Wr
open My
/-! ### one word against itself and against another one -/
/-! ### two words of one length -/
end Wr

set_option linter.all false
namespace Wr
open My
/-! ### shares: a fraction in lowest terms -/
/-! ### the worth of at most six signs -/
end Wr

set_option Elab.async false
set_option linter.all false
set_option maxRecDepth 100000
set_option maxHeartbeats 4000000
/-! Wordrace: what the program's values are. -/
namespace My
open PySem L2 PySem.Spec PyProof.Rows Wr
/-- texts as values -/
abbrev txs (ws : List (List Nat)) : List V := ws.map fun l => V.str (S l)
structure RaceOk (n : Nat) (ws : List (List Nat)) : Prop where
  lo : 1 ≤ ws.length
  hi : ws.length ≤ 4
  w : ∀ l ∈ ws, WordOk n l
  apart : ws.Pairwise fun a b => within a b = false ∧ within b a = false
theorem txs_len (ws : List (List Nat)) : (txs ws).length = ws.length := List.length_map ..
theorem txs_at {ws : List (List Nat)} {i : Nat} (h : i < ws.length) : (txs ws)[i]? = some (.str (S ws[i])) := by
  rw [List.getElem?_map, List.getElem?_eq_getElem h]; rfl
theorem cutV_eq (xs : List V) (lo hi : Option Int) : cutV xs lo hi = cutL xs lo hi := rfl
def others (ws : List (List Nat)) (p : Nat) : List (List Nat) := ws.take p ++ ws.drop (p + 1)
theorem RaceOk.not_within {n : Nat} {ws : List (List Nat)} (h : RaceOk n ws) {p : Nat} (hp : p < ws.length) : (others ws p).any (fun o => within ws[p] o) = false := by
  rw [List.any_eq_false]
  intro o ho hw
  have key : ∀ i j (hi : i < ws.length) (hj : j < ws.length), i < j → within ws[i] ws[j] = false ∧ within ws[j] ws[i] = false := fun i j hi hj hij => List.pairwise_iff_getElem.mp h.apart i j hi hj hij
  rcases List.mem_append.mp ho with z | z
  · obtain ⟨i, hi, rfl⟩ := List.mem_take_iff_getElem.mp z
    have := (key i p (by (first | lia | omega)) hp (by (first | lia | omega))).2
    rw [this] at hw; cases hw
  · obtain ⟨i, hi, rfl⟩ := List.mem_drop_iff_getElem.mp z
    have := (key p (p + 1 + i) hp (by (first | lia | omega)) (by (first | lia | omega))).1
    rw [this] at hw; cases hw
theorem within_iff {a b : List Nat} : within a b = true ↔ a <:+: b := by
  unfold within
  rw [List.any_eq_true]
  constructor
  · rintro ⟨i, _, h⟩
    exact (List.isPrefixOf_iff_prefix.mp h).isInfix.trans (List.drop_suffix i b).isInfix
  · rintro ⟨p, q, h⟩
    refine ⟨p.length, List.mem_range.mpr (by have := congrArg List.length h; simp at this; (first | lia | omega)), ?_⟩
    rw [List.isPrefixOf_iff_prefix, ← h, List.append_assoc, List.drop_left]
    exact List.prefix_append _ _
theorem RaceOk.race {n : Nat} {ws : List (List Nat)} (h : RaceOk n ws) : Race n ws := by
  have key : ∀ i j (hi : i < ws.length) (hj : j < ws.length), i < j → within ws[i] ws[j] = false ∧ within ws[j] ws[i] = false := fun i j hi hj hij => List.pairwise_iff_getElem.mp h.apart i j hi hj hij
  have ap : ∀ i j (hi : i < ws.length) (hj : j < ws.length), ws[i] <:+: ws[j] → i = j := fun i j hi hj hin => by
    rcases Nat.lt_trichotomy i j with z | z | z
    · have := (key i j hi hj z).1; rw [within_iff.mpr hin] at this; cases this
    · exact z
    · have := (key j i hj hi z).2; rw [within_iff.mpr hin] at this; cases this
  refine ⟨h.lo, h.hi, h.w, ?_, fun a ha b hb hin => ?_⟩
  · unfold List.Nodup
    rw [List.pairwise_iff_getElem]
    intro i j hi hj hij z
    have := ap i j hi hj (by rw [z]; exact List.infix_rfl)
    (first | lia | omega)
  · obtain ⟨i, hi, rfl⟩ := List.mem_iff_getElem.mp ha
    obtain ⟨j, hj, rfl⟩ := List.mem_iff_getElem.mp hb
    have := ap i j hi hj hin
    subst this; rfl
end My

set_option Elab.async false
set_option linter.all false
set_option maxRecDepth 100000
set_option maxHeartbeats 4000000
/-! Wordrace: odds, all words, answers. -/
namespace My
open PySem L2 PySem.Spec PyProof.Rows Wr
end My

set_option Elab.async false
set_option linter.all false
set_option maxRecDepth 100000
set_option maxHeartbeats 4000000
/-! Wordrace: beginnings and states as the program makes them. -/
namespace My
open PySem L2 PySem.Spec PyProof.Rows Wr
/-- all that beginnings_of puts into its list -/
def begT (ws : List (List Nat)) : List (List Nat) := [] :: ws.flatMap fun w => (List.range w.length).map fun k => w.take (k + 1)
theorem begT_mem {ws : List (List Nat)} (hne : ws ≠ []) {t : List Nat} : t ∈ begT ws ↔ Beg ws t := by
  unfold begT
  rw [List.mem_cons, List.mem_flatMap]
  constructor
  · rintro (h | ⟨w, hw, h⟩)
    · subst h; exact beg_nil hne
    · obtain ⟨k, _, rfl⟩ := List.mem_map.mp h
      exact ⟨w, hw, List.take_prefix _ _⟩
  · rintro ⟨w, hw, h⟩
    by_cases e : t = []
    · exact .inl e
    · have hl : t.length ≠ 0 := fun z => e (List.eq_nil_of_length_eq_zero z)
      have := h.length_le
      refine .inr ⟨w, hw, List.mem_map.mpr ⟨t.length - 1, List.mem_range.mpr (by (first | lia | omega)), ?_⟩⟩
      rw [show t.length - 1 + 1 = t.length by (first | lia | omega)]
      exact (List.prefix_iff_eq_take.mp h).symm
theorem begT_len {n : Nat} : ∀ {ws : List (List Nat)}, (∀ l ∈ ws, WordOk n l) → (ws.flatMap fun w => (List.range w.length).map fun k => w.take (k + 1)).length ≤ 6 * ws.length
  | [], _ => by simp
  | w :: ws, h => by
    have ih := begT_len (ws := ws) fun l hl => h l (List.mem_cons_of_mem _ hl)
    have := (h w List.mem_cons_self).hi
    rw [List.flatMap_cons, List.length_append, List.length_map, List.length_range, List.length_cons]
    (first | lia | omega)
theorem begT_step (ws : List (List Nat)) (i : Nat) (h : i < ws.length) : begT (ws.take (i + 1)) = begT (ws.take i) ++ (List.range ws[i].length).map fun k => ws[i].take (k + 1) := by
  unfold begT
  rw [List.take_succ_eq_append_getElem h, List.flatMap_append]
  simp
theorem two_of {L : List Str} {a b : Str} (ha : a ∈ L) (hb : b ∈ L) (hne : a ≠ b) : 2 ≤ L.length := by
  match L, ha, hb with
  | [], ha, _ => simp at ha
  | [x], ha, hb =>
    have e1 : a = x := by simpa using ha
    have e2 : b = x := by simpa using hb
    exact absurd (e1.trans e2.symm) hne
  | _ :: _ :: _, _, _ => simp
theorem met_two {n : Nat} {ws : List (List Nat)} (R : RaceOk n ws) : 2 ≤ (metL (begT ws)).length := by
  have hne : ws ≠ [] := R.race.ne
  obtain ⟨w, hw⟩ := List.exists_mem_of_ne_nil ws hne
  have hlo := (R.w w hw).lo
  refine two_of (a := S []) (b := S (w.take 1)) (mem_metL.mpr ⟨[], (begT_mem hne).mpr (beg_nil hne), rfl⟩) (mem_metL.mpr ⟨w.take 1, (begT_mem hne).mpr ⟨w, hw, List.take_prefix _ _⟩, rfl⟩) fun z => ?_
  have := congrArg List.length (S_inj.mp z)
  rw [List.length_take] at this
  simp at this
  (first | lia | omega)
/-- texts out of strs -/
theorem strs_back (ys : List Str) : ys.map V.str = (ys.map fun x => x.cps.toList).map fun l => V.str (S l) := by
  rw [List.map_map]
  apply List.map_congr_left
  intro x _
  show V.str x = V.str (S x.cps.toList)
  rw [S_of]
theorem beg_of {ws bs : List (List Nat)} {ys : List Str} (hne : ws ≠ []) (h1 : ys.Perm (metL (begT ws))) (h2 : bs.Perm (ys.map fun x => x.cps.toList)) : BegL ws bs := by
  have inj : (ys.map fun x => x.cps.toList).Nodup := by
    have : ys.Nodup := h1.nodup_iff.mpr (metL_nodup _)
    unfold List.Nodup at this ⊢
    rw [List.pairwise_map]
    exact this.imp fun {a b} hne z => hne (by rw [← S_of a, ← S_of b]; exact congrArg S z)
  refine ⟨h2.nodup_iff.mpr inj, fun t => ?_⟩
  rw [h2.mem_iff, ← begT_mem hne]
  constructor
  · intro h
    obtain ⟨x, hx, e⟩ := List.mem_map.mp h
    obtain ⟨u, hu, e2⟩ := mem_metL.mp (h1.mem_iff.mp hx)
    have : t = u := by
      rw [← e, ← e2]; try exact S_cps u
    subst this; exact hu
  · intro h
    exact List.mem_map.mpr ⟨S t, h1.mem_iff.mpr (mem_metL.mpr ⟨t, h, rfl⟩), S_cps t⟩
end My

set_option linter.all false

namespace L2
open PySem PySem.Spec PyProof.Rows

/-! ### lists of pairs as tables -/
section
variable {κ : Type} [DecidableEq κ]
end


/-! ### a tracked dict, its keys ints and texts or tuples of these -/
section
variable {P : Program} {w : World} {H : Hp} {h : Heap} {a : Addr}
end

section
variable {X : Cx} {pins : List (Addr × Obj)} {σ : St} {H : Hp} {s : Shared} {a : Addr} {y v : V} {u r : Value} {o : Option V} {A : Around} {E : Value → Shared → Prop}

end

section
variable {X : Cx} {pins : List (Addr × Obj)} {σ : St} {H : Hp} {s : Shared} {a : Addr} {kvs : List (Key × V)} {k : Key} {u : Value} {A : Around} {E : Value → Shared → Prop}
end


/-! ### readings and rules -/
section
variable {X : Cx} {o i e value : Expr} {pos pos' tpos : Pos} {td ty tv : TE}
end


/-! ### displays -/
section
variable {X : Cx} {pos : Pos}
end

/-! ### methods -/
section
variable {X : Cx} {pins : List (Addr × Obj)} {σ : St} {H : Hp} {s : Shared} {a : Addr} {y d : V} {u r : Value} {o : Option V} {A : Around} {E : Value → Shared → Prop}
end

section
variable {X : Cx} {o e f : Expr} {apos cpos : Pos} {td ty tx : TE}
end

/-! ### dict(d): a copy -/
section
variable {X : Cx} {pins : List (Addr × Obj)} {σ : St} {H : Hp} {s : Shared} {a : Addr} {kvs : List (Key × V)} {A : Around} {E : Value → Shared → Prop}
end


section
variable {X : Cx} {pins : List (Addr × Obj)} {σ : St} {H : Hp} {s : Shared} {a : Addr} {y : V} {u : Value} {A : Around} {E : Value → Shared → Prop}
end
end L2

namespace L2
open PySem PySem.Spec PyProof.Rows
/-! ### a dict's pairs: keys that differ -/
section
variable {κ : Type} [DecidableEq κ]
end
end L2

set_option Elab.async false
set_option linter.all false
set_option maxRecDepth 100000
set_option maxHeartbeats 4000000
namespace L2
open PySem PySem.Spec PyProof.Rows
section
variable {X : Cx} {pins : List (Addr × Obj)} {σ : List (Option V)} {H H' : Hp} {s : Shared} {h' : Heap}
end
section
variable {X : Cx}
end
/-! ### comprehensions over pairs -/
end L2

set_option linter.all false
/-! Wordrace: rows counted by their states. -/
namespace My
open Wr
/-! nothing is below nought -/
end My

set_option Elab.async false
set_option linter.all false
set_option maxRecDepth 100000
set_option maxHeartbeats 4000000
namespace My
open PySem L2 PySem.Spec PyProof.Rows Wr
end My
namespace L2
open PySem PySem.Spec PyProof.Rows My Wr
end L2

set_option Elab.async false
set_option linter.all false
set_option maxRecDepth 100000
set_option maxHeartbeats 4000000


namespace PySem
open Sem (wp)
/-! ### zip of two things that are drawn from -/
section
variable {prog : Program} {w : World} {A : Around} {E : Value → Shared → Prop} {s : Shared} {n1 n2 : Nat} {P1 P2 : Nat → Value → Prop} {St1 St2 : Nat → Heap → Prop} {fp1 fp2 : List Addr}
end
section
variable {prog : Program} {w : World} {A : Around} {E : Value → Shared → Prop} {s : Shared} {n1 n2 : Nat} {P1 P2 : Nat → Value → Prop} {St1 St2 : Nat → Heap → Prop} {fp1 fp2 : List Addr}
end
end PySem
-- second part
namespace PySem
end PySem
namespace L2
open PySem PySem.Spec PyProof.Rows
end L2

set_option Elab.async false
set_option linter.all false
set_option maxRecDepth 100000
set_option maxHeartbeats 4000000
/-! Walks over zip. -/
namespace L2
open PySem PySem.Spec PyProof.Rows
section
variable {K : PySem.W.Frag} {ta : TA} {σ : St} {H : Hp} {R : It → Hp → Prop}
end
end L2

set_option Elab.async false
set_option linter.all false
set_option maxRecDepth 100000
set_option maxHeartbeats 4000000
/-! A sort that keeps the order of equals: the pure part. -/
namespace Stb
open PySem PyProof.Rows
variable (r : Keyed → Int)
def R (xs : Array Keyed) (i : Nat) : Int := match xs[i]? with | some p => r p | none => 0
theorem R_congr {xs ys : Array Keyed} {i j : Nat} (h : xs[i]? = ys[j]?) : R r xs i = R r ys j := by unfold R; rw [h]
def Lx (xs : Array Keyed) (i j : Nat) : Prop := K xs i < K xs j ∨ (K xs i = K xs j ∧ R r xs i < R r xs j)
def Up (xs : Array Keyed) (n : Nat) : Prop := ∀ i j, i < j → j < n → Lx r xs i j
def Dn (xs : Array Keyed) (n : Nat) : Prop := ∀ i j, i < j → j < n → Lx r xs j i
def Un (xs : Array Keyed) (n m : Nat) : Prop := ∀ i j, i < j → n ≤ j → j < m → R r xs i < R r xs j
variable {r}
theorem Lx.trans {xs : Array Keyed} {i j k : Nat} (a : Lx r xs i j) (b : Lx r xs j k) : Lx r xs i k := by
  rcases a with a | ⟨a1, a2⟩ <;> rcases b with b | ⟨b1, b2⟩
  · exact .inl (by (first | lia | omega))
  · exact .inl (by (first | lia | omega))
  · exact .inl (by (first | lia | omega))
  · exact .inr ⟨by (first | lia | omega), by (first | lia | omega)⟩
theorem Lx.congr {xs ys : Array Keyed} {i j i' j' : Nat} (a : Lx r xs i j) (h1 : ys[i']? = xs[i]?) (h2 : ys[j']? = xs[j]?) : Lx r ys i' j' := by
  unfold Lx
  rw [K_congr h1, K_congr h2, R_congr r h1, R_congr r h2]
  exact a
theorem Un.mono {xs : Array Keyed} {n n' m : Nat} (h : Un r xs n m) (hn : n ≤ n') : Un r xs n' m := fun i j hij hj hm => h i j hij (by (first | lia | omega)) hm
theorem Un.shuffle {xs ys : Array Keyed} {n m : Nat} (h : Un r xs n m) (hn : ∀ k, n ≤ k → ys[k]? = xs[k]?) (hl : ∀ k, k < n → ∃ k', k' < n ∧ ys[k]? = xs[k']?) : Un r ys n m := fun i j hij hj hm => by
  rw [R_congr r (hn j hj)]
  by_cases hi : i < n
  · obtain ⟨i', hi', e⟩ := hl i hi
    rw [R_congr r e]
    exact h i' j (by (first | lia | omega)) hj hm
  · rw [R_congr r (hn i (by (first | lia | omega)))]
    exact h i j hij hj hm
theorem mirror_hi {xs : Array Keyed} {i j n : Nat} (hj : j ≤ xs.size) (hn : j ≤ n) (k : Nat) (hk : n ≤ k) : (mirror xs i j ((j - i) / 2))[k]? = xs[k]? := by
  rw [getElem?_mirror_all hj, if_neg (by (first | lia | omega))]
theorem mirror_lo {xs : Array Keyed} {i j n : Nat} (hj : j ≤ xs.size) (hn : j ≤ n) (k : Nat) (hk : k < n) : ∃ k', k' < n ∧ (mirror xs i j ((j - i) / 2))[k]? = xs[k']? := by
  rw [getElem?_mirror_all hj]
  by_cases h : i ≤ k ∧ k < j
  · rw [if_pos h]; exact ⟨_, by (first | lia | omega), rfl⟩
  · rw [if_neg h]; exact ⟨k, hk, rfl⟩
theorem Un.mirror {xs : Array Keyed} {i j n m : Nat} (h : Un r xs n m) (hj : j ≤ xs.size) (hn : j ≤ n) : Un r (mirror xs i j ((j - i) / 2)) n m :=
  h.shuffle (fun k hk => mirror_hi hj hn k hk) fun k hk => mirror_lo hj hn k hk
theorem Dn.turn {xs : Array Keyed} {n : Nat} (h : Dn r xs n) (hn : n ≤ xs.size) : Up r (mirror xs 0 n ((n - 0) / 2)) n := fun i j hij hj => by
  have e1 := getElem?_mirror_all (i := 0) hn i
  have e2 := getElem?_mirror_all (i := 0) hn j
  rw [if_pos (by (first | lia | omega))] at e1 e2
  exact (h _ _ (show 0 + n - 1 - j < 0 + n - 1 - i by (first | lia | omega)) (by (first | lia | omega))).congr e1 e2
theorem Up.turn {xs : Array Keyed} {n : Nat} (h : Up r xs n) (hn : n ≤ xs.size) : Dn r (mirror xs 0 n ((n - 0) / 2)) n := fun i j hij hj => by
  have e1 := getElem?_mirror_all (i := 0) hn i
  have e2 := getElem?_mirror_all (i := 0) hn j
  rw [if_pos (by (first | lia | omega))] at e1 e2
  exact (h _ _ (show 0 + n - 1 - j < 0 + n - 1 - i by (first | lia | omega)) (by (first | lia | omega))).congr e2 e1
theorem Up.more {xs : Array Keyed} {n m : Nat} (h : Up r xs n) (hu : Un r xs n m) (hn : n < m) (h1 : 1 ≤ n) (hk : ¬ K xs n < K xs (n - 1)) : Up r xs (n + 1) := fun i j hij hj => by
  by_cases hjn : j < n
  · exact h i j hij hjn
  · have e : j = n := by (first | lia | omega)
    subst e
    have last : Lx r xs (j - 1) j := by
      by_cases q : K xs (j - 1) < K xs j
      · exact .inl q
      · exact .inr ⟨by (first | lia | omega), hu _ _ (by (first | lia | omega)) (Nat.le_refl _) hn⟩
    by_cases hi : i = j - 1
    · subst hi; exact last
    · exact (h i (j - 1) (by (first | lia | omega)) (by (first | lia | omega))).trans last
structure Dq (r : Keyed → Int) (xs : Array Keyed) (n q : Nat) : Prop where
  le : q + 1 ≤ n
  dn : Dn r xs (n - (q + 1))
  cross : ∀ i j, i < n - (q + 1) → n - (q + 1) ≤ j → j < n → K xs j < K xs i
  eq : ∀ i, n - (q + 1) ≤ i → i < n → K xs i = K xs (n - 1)
  up : ∀ i j, n - (q + 1) ≤ i → i < j → j < n → R r xs i < R r xs j
theorem Dq.turn {xs : Array Keyed} {n q : Nat} (h : Dq r xs n q) (hn : n ≤ xs.size) : Dn r (mirror xs (n - (q + 1)) n ((n - (n - (q + 1))) / 2)) n := fun i j hij hj => by
  have e1 := getElem?_mirror_all (i := n - (q + 1)) hn i
  have e2 := getElem?_mirror_all (i := n - (q + 1)) hn j
  have hl := h.le
  by_cases hi : n - (q + 1) ≤ i
  · rw [if_pos (by (first | lia | omega))] at e1 e2
    refine Lx.congr (xs := xs) (i := n - (q + 1) + n - 1 - j) (j := n - (q + 1) + n - 1 - i) ?_ e2 e1
    refine .inr ⟨?_, h.up _ _ (by (first | lia | omega)) (by (first | lia | omega)) (by (first | lia | omega))⟩
    rw [h.eq _ (by (first | lia | omega)) (by (first | lia | omega)), h.eq (n - (q + 1) + n - 1 - i) (by (first | lia | omega)) (by (first | lia | omega))]
  · rw [if_neg (by (first | lia | omega))] at e1
    by_cases hjq : n - (q + 1) ≤ j
    · rw [if_pos (by (first | lia | omega))] at e2
      exact Lx.congr (xs := xs) (.inl (h.cross i _ (by (first | lia | omega)) (by (first | lia | omega)) (by (first | lia | omega)))) e2 e1
    · rw [if_neg (by (first | lia | omega))] at e2
      exact (h.dn i j hij (by (first | lia | omega))).congr e2 e1
theorem Dq.one {xs : Array Keyed} {n : Nat} (h : Dn r xs n) (hs : ∀ i, i < n → K xs n < K xs i) : Dq r xs (n + 1) 0 where
  le := by (first | lia | omega)
  dn := fun i j hij hj => h i j hij (by (first | lia | omega))
  cross := fun i j hi hj hn => by
    have : j = n := by (first | lia | omega)
    subst this; exact hs i (by (first | lia | omega))
  eq := fun i h1 h2 => by congr 1; (first | lia | omega)
  up := fun i j h1 h2 h3 => by (first | lia | omega)
theorem Dq.zero {xs : Array Keyed} {n : Nat} (h : Dq r xs n 0) : Dn r xs n := fun i j hij hj => by
  by_cases hjn : j < n - 1
  · exact h.dn i j hij (by (first | lia | omega))
  · exact .inl (h.cross i j (by (first | lia | omega)) (by (first | lia | omega)) hj)
theorem Dq.all_less {xs : Array Keyed} {n q : Nat} (h : Dq r xs n q) {v : Int} (hv : v < K xs (n - 1)) (i : Nat) (hi : i < n) : v < K xs i := by
  by_cases hq : n - (q + 1) ≤ i
  · rw [h.eq i hq hi]; exact hv
  · have := h.cross i (n - 1) (by (first | lia | omega)) (by have := h.le; (first | lia | omega)) (by (first | lia | omega))
    (first | lia | omega)
theorem Dq.more {xs : Array Keyed} {n q m : Nat} (h : Dq r xs n q) (hu : Un r xs n m) (hn : n < m) (he : K xs n = K xs (n - 1)) : Dq r xs (n + 1) (q + 1) := by
  have hl := h.le
  have e0 : n + 1 - (q + 1 + 1) = n - (q + 1) := by (first | lia | omega)
  refine ⟨by (first | lia | omega), by rw [e0]; exact h.dn, fun i j hi hj hn' => ?_, fun i h1 h2 => ?_, fun i j h1 h2 h3 => ?_⟩
  · rw [e0] at hi hj
    by_cases hjn : j < n
    · exact h.cross i j hi hj hjn
    · have : j = n := by (first | lia | omega)
      subst this
      rw [he]
      exact h.cross i (j - 1) hi (by (first | lia | omega)) (by (first | lia | omega))
  · rw [e0] at h1
    rw [show n + 1 - 1 = n by (first | lia | omega)]
    by_cases hin : i < n
    · rw [he]; exact h.eq i h1 hin
    · have : i = n := by (first | lia | omega)
      rw [this]
  · rw [e0] at h1
    by_cases hjn : j < n
    · exact h.up i j h1 h2 hjn
    · exact hu i j h2 (by (first | lia | omega)) (by (first | lia | omega))
theorem K_of_mirror {xs : Array Keyed} {i j n : Nat} (hj : j ≤ xs.size) (hn : j ≤ n) (k : Nat) (hk : n ≤ k) : K (mirror xs i j ((j - i) / 2)) k = K xs k := K_congr (mirror_hi hj hn k hk)
end Stb

set_option Elab.async false
set_option linter.all false
set_option maxRecDepth 100000
set_option maxHeartbeats 4000000
/-! A sort that keeps the order of equals: the model's sort walked with the sharper invariants. -/
namespace Stb
open PySem PyProof.Rows
variable {prog : Program} {w : World} {A : Around} {E : Value → Shared → Prop} {s : Shared} {a₀ : Array Keyed} {r : Keyed → Int}
abbrev Wp (prog : Program) (w : World) (A : Around) (E : Value → Shared → Prop) (s : Shared) {α : Type} (m : StateT SortSt Sem α) (Q : α → SortSt → Prop) (st : SortSt) : Prop := wpS (model prog w) A E s m Q st
/-- what a run tells: its length, risen, and the rest untouched behind it -/
abbrev Told (a₀ : Array Keyed) (r : Keyed → Int) (Q : Option Nat → SortSt → Prop) : Prop :=
  ∀ m st', SBase a₀ st' → 1 ≤ m → m ≤ a₀.size → Up r (arrOf st') m → Un r (arrOf st') m a₀.size → Q (some m) st'
theorem asc {st : SortSt} {a : Nat} {Q : AscSt → SortSt → Prop} (kk : IntKeys a₀) (a1 : 1 ≤ a) (an : a ≤ a₀.size) (b : SBase a₀ st) (up : Up r (arrOf st) a) (un : Un r (arrOf st) a a₀.size)
    (go : ∀ n, a ≤ n → n ≤ a₀.size → Up r (arrOf st) n → (n = a₀.size ∨ K (arrOf st) n < K (arrOf st) (n - 1)) → Q (none, n) st) : Wp prog w A E s (ascLoop a a₀.size) Q st := by
  unfold ascLoop
  refine wpS_forRange (I := fun x c st' => st' = st ∧ c = (none, x) ∧ Up r (arrOf st) x) ?turn ?over ⟨rfl, rfl, up⟩
  case over =>
    rintro c st' ⟨rfl, rfl, u⟩
    have e : max a a₀.size = a₀.size := by (first | lia | omega)
    rw [e] at u ⊢
    exact go _ an (Nat.le_refl _) u (.inl rfl)
  case turn =>
    rintro x c st' ax xn ⟨rfl, rfl, u⟩
    dsimp only
    refine wpS_bind (wpS_ltK b kk (by (first | lia | omega)) (by (first | lia | omega)) ?_)
    by_cases less : K (arrOf st') x < K (arrOf st') (x - 1)
    · simp only [less, decide_true, if_true]
      exact wpS_pure (go x ax (by (first | lia | omega)) u (.inr less))
    · simp only [less, decide_false, Bool.false_eq_true, if_false]
      exact wpS_pure ⟨rfl, rfl, u.more (un.mono ax) xn (by (first | lia | omega)) less⟩
theorem turnUp {st : SortSt} {n : Nat} {Q : Option Nat → SortSt → Prop} (kk : IntKeys a₀) (n1 : 1 ≤ n) (nn : n ≤ a₀.size) (b : SBase a₀ st) (dn : Dn r (arrOf st) n) (un : Un r (arrOf st) n a₀.size) (go : Told a₀ r Q) :
    Wp prog w A E s (tail3 n a₀.size) Q st := by
  unfold tail3
  have sz : n ≤ (arrOf st).size := by rw [b.size]; exact nn
  refine wpS_bind (wpS_reverse ?_)
  have b' := b.setArr (mirror_perm (arrOf st) 0 n ((n - 0) / 2))
  have un' : Un r (mirror (arrOf st) 0 n ((n - 0) / 2)) n a₀.size := un.mirror sz (Nat.le_refl _)
  exact wpS_bind (asc kk n1 nn b' (dn.turn sz) un' fun m m1 m2 u _ => wpS_pure (go m _ b' (by (first | lia | omega)) m2 u (un'.mono m1)))
theorem desc {st : SortSt} {n : Nat} {Q : DescSt → SortSt → Prop} (kk : IntKeys a₀) (n1 : 1 ≤ n) (nn : n ≤ a₀.size) (b : SBase a₀ st) (dq : Dq r (arrOf st) n 0) (un : Un r (arrOf st) n a₀.size)
    (go : ∀ m q st', SBase a₀ st' → n ≤ m → m ≤ a₀.size → Dq r (arrOf st') m q → Un r (arrOf st') m a₀.size → Q (none, m, q) st') : Wp prog w A E s (descLoop n a₀.size) Q st := by
  unfold descLoop
  refine wpS_forRange (I := fun x c st' => ∃ q, c = (none, x, q) ∧ SBase a₀ st' ∧ Dq r (arrOf st') x q ∧ Un r (arrOf st') x a₀.size) ?turn ?over ⟨0, rfl, b, dq, un⟩
  case over =>
    rintro c st' ⟨q, rfl, b', d', u'⟩
    have e : max n a₀.size = a₀.size := by (first | lia | omega)
    rw [e] at d' u' ⊢
    exact go _ q st' b' nn (Nat.le_refl _) d' u'
  case turn =>
    rintro x c st' ax xn ⟨q, rfl, b', d', u'⟩
    dsimp only
    have sz : x ≤ (arrOf st').size := by rw [b'.size]; (first | lia | omega)
    refine wpS_bind (wpS_ltK b' kk (by (first | lia | omega)) (by (first | lia | omega)) ?_)
    by_cases less : K (arrOf st') x < K (arrOf st') (x - 1)
    · simp only [less, decide_true, if_true]
      by_cases q0 : q > 0
      · rw [if_pos q0]
        refine wpS_bind (wpS_reverse (wpS_pure ⟨0, rfl, b'.setArr (mirror_perm _ _ _ _), ?_, ?_⟩))
        · refine Dq.one (d'.turn sz) fun i hi => ?_
          obtain ⟨i', hi', e⟩ := mirror_lo (i := x - (q + 1)) sz (Nat.le_refl _) i hi
          rw [K_congr e, K_of_mirror sz (Nat.le_refl _) x (Nat.le_refl _)]
          exact d'.all_less less i' hi'
        · exact (u'.mirror sz (Nat.le_refl _)).mono (by (first | lia | omega))
      · rw [if_neg q0]
        obtain rfl : q = 0 := by (first | lia | omega)
        exact wpS_pure ⟨0, rfl, b', Dq.one d'.zero fun i hi => d'.all_less less i hi, u'.mono (by (first | lia | omega))⟩
    · simp only [less, decide_false, Bool.false_eq_true, if_false]
      refine wpS_bind (wpS_ltK b' kk (by (first | lia | omega)) (by (first | lia | omega)) ?_)
      by_cases more : K (arrOf st') (x - 1) < K (arrOf st') x
      · simp only [more, decide_true, if_true]
        exact wpS_pure (go x q st' b' ax (by (first | lia | omega)) d' u')
      · simp only [more, decide_false, Bool.false_eq_true, if_false]
        exact wpS_pure ⟨q + 1, rfl, b', d'.more u' xn (by (first | lia | omega)), u'.mono (by (first | lia | omega))⟩
theorem descUp {st : SortSt} {n : Nat} {Q : Option Nat → SortSt → Prop} (kk : IntKeys a₀) (nn : n + 1 ≤ a₀.size) (b : SBase a₀ st) (dq : Dq r (arrOf st) (n + 1) 0) (un : Un r (arrOf st) (n + 1) a₀.size) (go : Told a₀ r Q) :
    Wp prog w A E s (descPart n a₀.size) Q st := by
  unfold descPart
  refine wpS_bind (wpS_lift (wpAny_rule ⟨rfl, ?_⟩))
  refine wpS_bind (desc kk (by (first | lia | omega)) nn b dq un fun m q st' b' m1 m2 d' u' => ?_)
  dsimp only
  have sz : m ≤ (arrOf st').size := by rw [b'.size]; (first | lia | omega)
  by_cases q0 : q > 0
  · rw [if_pos q0]
    exact wpS_bind (wpS_reverse (turnUp kk (by (first | lia | omega)) m2 (b'.setArr (mirror_perm _ _ _ _)) (d'.turn sz) (u'.mirror sz (Nat.le_refl _)) go))
  · rw [if_neg q0]
    obtain rfl : q = 0 := by (first | lia | omega)
    exact turnUp kk (by (first | lia | omega)) m2 b' d'.zero u' go
theorem run {st : SortSt} {Q : Option Nat → SortSt → Prop} (kk : IntKeys a₀) (s1 : 1 ≤ a₀.size) (b : SBase a₀ st) (un : Un r (arrOf st) 0 a₀.size) (go : Told a₀ r Q) : Wp prog w A E s (countRun' 0 a₀.size) Q st := by
  rw [countRun0_eq]
  refine wpS_bind (asc kk (Nat.le_refl 1) s1 b (fun i j ij j1 => by (first | lia | omega)) (un.mono (by (first | lia | omega))) fun n n1 n2 u out => ?_)
  dsimp only
  by_cases nn : n = a₀.size
  · rw [if_pos (by simpa using nn)]
    exact wpS_pure (go n st b n1 n2 u (un.mono (by (first | lia | omega))))
  · rw [if_neg (by simpa using nn)]
    have less := out.resolve_left nn
    have sz : n ≤ (arrOf st).size := by rw [b.size]; (first | lia | omega)
    by_cases g1 : n > 1
    · rw [if_pos g1]
      refine wpS_bind (wpS_ltK b kk (by (first | lia | omega)) (by (first | lia | omega)) ?_)
      by_cases rose : K (arrOf st) 0 < K (arrOf st) (n - 1)
      · simp only [rose, decide_true, if_true]
        exact wpS_pure (go n st b n1 n2 u (un.mono (by (first | lia | omega))))
      · simp only [rose, decide_false, Bool.false_eq_true, if_false]
        refine wpS_bind (wpS_reverse (descUp kk (by (first | lia | omega)) (b.setArr (mirror_perm _ _ _ _)) ?_ ?_ go))
        · refine Dq.one (u.turn sz) fun i hi => ?_
          obtain ⟨i', hi', e⟩ := mirror_lo (i := 0) sz (Nat.le_refl _) i hi
          rw [K_congr e, K_of_mirror sz (Nat.le_refl _) n (Nat.le_refl _)]
          have h0 : K (arrOf st) 0 ≤ K (arrOf st) i' := by
            by_cases z : i' = 0
            · rw [z]; exact Int.le_refl _
            · rcases u 0 i' (by (first | lia | omega)) hi' with q | ⟨q, _⟩ <;> (first | lia | omega)
          have hn : K (arrOf st) (n - 1) ≤ K (arrOf st) 0 := Int.not_lt.mp rose
          (first | lia | omega)
        · exact (un.mono (Nat.zero_le n)).mirror sz (Nat.le_refl _) |>.mono (by (first | lia | omega))
    · rw [if_neg g1]
      obtain rfl : n = 1 := by (first | lia | omega)
      exact descUp kk (by (first | lia | omega)) b (Dq.one (fun i j ij j1 => by (first | lia | omega)) fun i hi => by
        obtain rfl : i = 0 := by (first | lia | omega)
        exact less) (un.mono (by (first | lia | omega))) go
theorem insert {st : SortSt} {ok : Nat} {Q : Bool → SortSt → Prop} (kk : IntKeys a₀) (hok : ok ≤ a₀.size) (b : SBase a₀ st) (up : Up r (arrOf st) ok) (un : Un r (arrOf st) ok a₀.size)
    (go : ∀ st', SBase a₀ st' → Up r (arrOf st') a₀.size → Q true st') : Wp prog w A E s (binarySort' 0 a₀.size ok) Q st := by
  rw [binarySort'_eq]
  simp only [Nat.zero_add]
  refine wpS_bind (wpS_mono (wpS_forRange (I := fun k c st' => c = (none, ()) ∧ SBase a₀ st' ∧ Up r (arrOf st') (min k a₀.size) ∧ Un r (arrOf st') k a₀.size)
    (Q := fun c st' => c = (none, ()) ∧ SBase a₀ st' ∧ Up r (arrOf st') a₀.size) ?turn ?over ?first) ?thn)
  case thn =>
    rintro c st' ⟨rfl, b', u'⟩
    exact wpS_pure (go st' b' u')
  case first =>
    refine ⟨rfl, b, fun i j ij j1 => ?_, un.mono (by (first | lia | omega))⟩
    by_cases z : ok = 0
    · (first | lia | omega)
    · exact up i j ij (by (first | lia | omega))
  case over =>
    rintro c st' ⟨e, b', u', _⟩
    refine ⟨e, b', ?_⟩
    have z : min (max (max ok 1) a₀.size) a₀.size = a₀.size := by (first | lia | omega)
    rw [z] at u'
    exact u'
  case turn =>
    rintro k c st' ak kn ⟨rfl, b', u', n'⟩
    have z : min k a₀.size = k := by (first | lia | omega)
    rw [z] at u'
    have mono : ∀ i j, i ≤ j → j < k → K (arrOf st') i ≤ K (arrOf st') j := fun i j ij jk => by
      by_cases e : i = j
      · rw [e]; exact Int.le_refl _
      · rcases u' i j (by (first | lia | omega)) jk with q | ⟨q, _⟩ <;> (first | lia | omega)
    refine wpS_bind (wpS_mono (wpS_forRange (I := fun x c st2 => st2 = st' ∧ ∃ lo hi, c = (none, lo, hi) ∧ lo ≤ hi ∧ hi ≤ k ∧ hi - lo ≤ k - x ∧
        (∀ i, i < lo → K (arrOf st') i ≤ K (arrOf st') k) ∧ (∀ i, hi ≤ i → i < k → K (arrOf st') k < K (arrOf st') i))
      (Q := fun c st2 => st2 = st' ∧ ∃ lo hi, c = (none, lo, hi) ∧ lo ≤ k ∧
        (∀ i, i < lo → K (arrOf st') i ≤ K (arrOf st') k) ∧ (∀ i, lo ≤ i → i < k → K (arrOf st') k < K (arrOf st') i)) ?look ?found ?start) ?move)
    case start => exact ⟨rfl, 0, k, rfl, Nat.zero_le _, Nat.le_refl _, by (first | lia | omega), fun i h => by (first | lia | omega), fun i h1 h2 => by (first | lia | omega)⟩
    case found =>
      rintro c st2 ⟨rfl, lo, hi, rfl, lh, hk, room, low, high⟩
      obtain rfl : lo = hi := by (first | lia | omega)
      exact ⟨rfl, lo, lo, rfl, hk, low, high⟩
    case look =>
      rintro x c st2 _ xk ⟨rfl, lo, hi, rfl, lh, hk, room, low, high⟩
      dsimp only
      by_cases met : lo ≥ hi
      · rw [if_pos met]
        obtain rfl : lo = hi := by (first | lia | omega)
        exact wpS_pure ⟨rfl, lo, lo, rfl, hk, low, high⟩
      · rw [if_neg met]
        obtain ⟨m, hm⟩ : ∃ m, m = (lo + hi) / 2 := ⟨_, rfl⟩
        have m1 : lo ≤ m := by (first | lia | omega)
        have m2 : m < hi := by (first | lia | omega)
        rw [← hm]
        clear hm met
        refine wpS_bind (wpS_ltK b' kk kn (by (first | lia | omega)) ?_)
        by_cases less : K (arrOf st2) k < K (arrOf st2) m
        · simp only [less, decide_true, if_true]
          refine wpS_pure ⟨rfl, lo, m, rfl, m1, by (first | lia | omega), by (first | lia | omega), low, fun i h1 h2 => ?_⟩
          exact Int.lt_of_lt_of_le less (mono _ _ h1 h2)
        · simp only [less, decide_false, Bool.false_eq_true, if_false]
          refine wpS_pure ⟨rfl, m + 1, hi, rfl, m2, hk, by (first | lia | omega), fun i h1 => ?_, high⟩
          exact Int.le_trans (mono i m (Nat.le_of_lt_succ h1) (Nat.lt_of_lt_of_le m2 hk)) (Int.not_lt.mp less)
    case move =>
      rintro c st2 ⟨rfl, lo, hi, rfl, lk, low, high⟩
      show wpS _ _ _ _ (do moveDown' k lo; pure (ForInStep.yield (none, ()))) _ _
      rw [moveDown'_eq]
      have ks : k < (arrOf st2).size := by rw [b'.size]; exact kn
      have at_ : ∀ i, (bubble (arrOf st2) k (k - lo))[i]? = if i = lo then (arrOf st2)[k]? else if lo < i ∧ i ≤ k then (arrOf st2)[i - 1]? else (arrOf st2)[i]? := fun i => by
        rw [getElem?_bubble ks _ (by (first | lia | omega)), show k - (k - lo) = lo by (first | lia | omega)]
      refine wpS_bind (wpS_modify (wpS_pure ⟨rfl, b'.setArr (bubble_perm _ _ _), ?_, ?_⟩))
      · rw [show min (k + 1) a₀.size = k + 1 by (first | lia | omega)]
        intro i j ij jk
        show Lx r (bubble (arrOf st2) k (k - lo)) i j
        have ei := at_ i
        have ej := at_ j
        have sm : ∀ p : Nat, p < lo → Lx r (arrOf st2) p k := fun p h => by
          have := low p h
          by_cases z : K (arrOf st2) p < K (arrOf st2) k
          · exact .inl z
          · exact .inr ⟨by (first | lia | omega), n' p k (by (first | lia | omega)) (Nat.le_refl _) kn⟩
        by_cases i1 : i = lo
        · rw [if_pos i1] at ei
          rw [if_neg (by (first | lia | omega)), if_pos (by (first | lia | omega))] at ej
          exact Lx.congr (.inl (high (j - 1) (by (first | lia | omega)) (by (first | lia | omega)))) ei ej
        · rw [if_neg i1] at ei
          by_cases j1 : j = lo
          · rw [if_pos j1] at ej
            rw [if_neg (by (first | lia | omega))] at ei
            exact (sm i (by (first | lia | omega))).congr ei ej
          · rw [if_neg j1] at ej
            by_cases i2 : lo < i ∧ i ≤ k
            · rw [if_pos i2] at ei
              rw [if_pos (by (first | lia | omega))] at ej
              exact (u' (i - 1) (j - 1) (by (first | lia | omega)) (by (first | lia | omega))).congr ei ej
            · rw [if_neg i2] at ei
              by_cases j2 : lo < j ∧ j ≤ k
              · rw [if_pos j2] at ej
                exact (u' i (j - 1) (by (first | lia | omega)) (by (first | lia | omega))).congr ei ej
              · rw [if_neg j2] at ej
                exact (u' i j ij (by (first | lia | omega))).congr ei ej
      · refine Un.shuffle (n'.mono (Nat.le_succ k)) (fun i hi => ?_) fun i hi => ?_
        · show (bubble (arrOf st2) k (k - lo))[i]? = _
          rw [at_, if_neg (by (first | lia | omega)), if_neg (by (first | lia | omega))]
        · show ∃ k', k' < k + 1 ∧ (bubble (arrOf st2) k (k - lo))[i]? = _
          rw [at_]
          by_cases i1 : i = lo
          · rw [if_pos i1]; exact ⟨k, by (first | lia | omega), rfl⟩
          · rw [if_neg i1]
            by_cases i2 : lo < i ∧ i ≤ k
            · rw [if_pos i2]; exact ⟨i - 1, by (first | lia | omega), rfl⟩
            · rw [if_neg i2]; exact ⟨i, hi, rfl⟩
/-- what is left when all is sorted -/
abbrev Dd (a₀ : Array Keyed) (r : Keyed → Int) (st : SortSt) : Prop := (arrOf st).Perm a₀ ∧ failedOf st = none ∧ pendingOf st = #[(0, a₀.size, 0)] ∧ Up r (arrOf st) a₀.size
theorem dd {st : SortSt} (b : SBase a₀ st) (u : Up r (arrOf st) a₀.size) : Dd a₀ r (setPending st ((pendingOf st).push (0, a₀.size, 0))) :=
  ⟨b.perm, b.failed, (by show (pendingOf st).push _ = _; rw [b.pend]; rfl), u⟩
theorem sorts {st : SortSt} {Q : Unit → SortSt → Prop} (kk : IntKeys a₀) (b : SBase a₀ st) (un : Un r (arrOf st) 0 a₀.size) (s2 : 2 ≤ a₀.size) (s64 : a₀.size < 64)
    (go : ∀ st', (arrOf st').Perm a₀ → failedOf st' = none → Up r (arrOf st') a₀.size → Q () st') : Wp prog w A E s sortRuns' Q st := by
  show wpS _ _ _ _ sortRuns' _ _
  rw [sortRuns'_eq]
  refine wpS_bind (wpS_get ?_)
  dsimp only
  have mr : minRun' a₀.size a₀.size 0 = a₀.size := by
    obtain ⟨f, e⟩ : ∃ f, a₀.size = f + 1 := ⟨a₀.size - 1, by (first | lia | omega)⟩
    have z : minRun' (f + 1) a₀.size 0 = a₀.size := by rw [minRun'_succ, if_pos s64]; rfl
    rw [← e] at z; exact z
  simp only [b.size, mr]
  refine wpS_bind (wpS_mono (wpS_forRange
    (I := fun x c st' => (x = 0 ∧ c = (none, 0) ∧ SBase a₀ st' ∧ Un r (arrOf st') 0 a₀.size) ∨ (1 ≤ x ∧ c = (none, a₀.size) ∧ Dd a₀ r st'))
    (Q := fun c st' => c = (none, a₀.size) ∧ Dd a₀ r st') ?turn ?over (.inl ⟨rfl, rfl, b, un⟩)) ?thn)
  case over =>
    rintro c st' (⟨z, _⟩ | ⟨_, e, d⟩)
    · (first | lia | omega)
    · exact ⟨e, d⟩
  case turn =>
    rintro x c st' _ xn (⟨rfl, rfl, b', u'⟩ | ⟨x1, rfl, d⟩)
    · dsimp only
      rw [if_neg (by (first | lia | omega))]
      simp only [Nat.sub_zero, Nat.min_self, Nat.zero_add]
      refine wpS_bind (run kk (by (first | lia | omega)) b' u' fun m st2 b2 m1 m2 up2 un2 => ?_)
      dsimp only
      by_cases lt : m < a₀.size
      · rw [if_pos lt]
        refine wpS_bind (wpS_lift (wpAny_rule ⟨rfl, ?_⟩))
        refine wpS_bind (insert kk m2 b2 up2 un2 fun st3 b3 u3 => ?_)
        simp only [Bool.not_true, Bool.false_eq_true, if_false]
        refine wpS_bind (wpS_get ?_)
        have bk : (pendingOf st3).back? = none := by rw [b3.pend]; rfl
        rw [bk]
        dsimp only
        exact wpS_bind (wpS_modify (wpS_pure (.inr ⟨by (first | lia | omega), rfl, dd b3 u3⟩)))
      · rw [if_neg lt]
        obtain rfl : m = a₀.size := by (first | lia | omega)
        refine wpS_bind (wpS_get ?_)
        have bk : (pendingOf st2).back? = none := by rw [b2.pend]; rfl
        rw [bk]
        dsimp only
        exact wpS_bind (wpS_modify (wpS_pure (.inr ⟨by (first | lia | omega), rfl, dd b2 up2⟩)))
    · dsimp only
      rw [if_pos (Nat.le_refl _)]
      exact wpS_pure ⟨rfl, d⟩
  case thn =>
    rintro c st' ⟨rfl, d⟩
    dsimp only
    refine wpS_bind (wpS_mono (wpS_forRange (I := fun _ c st2 => st2 = st' ∧ c = (none, ())) (Q := fun c st2 => st2 = st' ∧ c = (none, ())) ?_ (fun _ _ hh => hh) ⟨rfl, rfl⟩) ?_)
    · rintro x c st2 _ _ ⟨rfl, rfl⟩
      refine wpS_bind (wpS_get ?_)
      rw [if_pos (by rw [d.2.2.1]; exact Nat.le_refl 1)]
      exact wpS_pure ⟨rfl, rfl⟩
    · rintro c st2 ⟨rfl, rfl⟩
      exact wpS_pure (go _ d.1 d.2.1 d.2.2.2)
end Stb

set_option Elab.async false
set_option linter.all false
set_option maxRecDepth 100000
set_option maxHeartbeats 4000000
/-! sorted(.., key=..) that keeps the order of equals. -/
namespace Stb
open PySem PyProof.Rows
/-- the outcome: by the keys, equals by a rank that rose in the list handed in -/
def Out (rk : Value → Int) (kz : List Int) (vs out : List Value) : Prop :=
  ∃ ps : List (Int × Value), ps.Perm (kz.zip vs) ∧ out = ps.map Prod.snd ∧ ps.Pairwise fun p q => p.1 < q.1 ∨ (p.1 = q.1 ∧ rk p.2 < rk q.2)
def Rising (rk : Value → Int) (vs : List Value) : Prop := ∀ (i j : Nat) (u v : Value), i < j → vs[i]? = some u → vs[j]? = some v → rk u < rk v
variable {prog : Program} {w : World} {A : Around} {E : Value → Shared → Prop} {s : Shared} {h₀ : Heap} {L : Addr} {m : Str → Option Value} {news : List (Addr × Obj)} {a kS : Addr} {vs : List Value} {kz : List Int} {keys : Array Value} {e e1 : Nat} {P : PySem.Fin → Shared → Prop} {rk : Value → Int}
theorem out_of (ks : IntsAre keys.toList kz) {xs : Array Keyed} (pm : xs.Perm (keys.zip vs.toArray)) (up : Up (fun p => rk p.2) xs xs.size) : Out rk kz vs (xs.map (·.2)).toList := by
  have pl : xs.toList.Perm (keys.toList.zip vs) := by rw [← ksk_zip]; exact Array.perm_iff_toList_perm.mp pm
  have ez : (keys.toList.zip vs).map (fun p : Keyed => (numOf p.1, p.2)) = kz.zip vs := by
    rw [← ks.nums, List.zip_map_left]
    exact List.map_congr_left fun ⟨_, _⟩ _ => rfl
  refine ⟨xs.toList.map fun p : Keyed => (numOf p.1, p.2), by rw [← ez]; exact pl.map _, by rw [Array.toList_map, List.map_map]; rfl, ?_⟩
  rw [List.pairwise_iff_getElem]
  intro i j li lj ij
  have i' : i < xs.size := by simpa using li
  have j' : j < xs.size := by simpa using lj
  have z := up i j ij j'
  unfold Lx R at z
  rw [K_eq i', K_eq j', getElem?_pos xs i i', getElem?_pos xs j j'] at z
  simpa using z
theorem un_start (ks : IntsAre keys.toList kz) (len : kz.length = vs.length) (rise : Rising rk vs) : Un (fun p => rk p.2) (keys.zip vs.toArray) 0 (keys.zip vs.toArray).size := by
  intro i j ij _ js
  have at_ : ∀ k, k < (keys.zip vs.toArray).size → ∃ v, vs[k]? = some v ∧ R (fun p => rk p.2) (keys.zip vs.toArray) k = rk v := fun k hk => by
    have hk2 : k < vs.length := by
      have e6 : vs.toArray.size = vs.length := List.size_toArray ..
      rw [Array.size_zip, e6] at hk
      (first | lia | omega)
    refine ⟨vs[k], List.getElem?_eq_getElem hk2, ?_⟩
    unfold R
    rw [getElem?_pos _ k hk]
    simp
  obtain ⟨u, eu, ru⟩ := at_ i (by (first | lia | omega))
  obtain ⟨v, ev, rv⟩ := at_ j js
  rw [ru, rv]
  exact rise i j u v ij eu ev
theorem tail_ {st : SortSt} (F : Fr h₀ L s.heap m) (N : News h₀ L s.heap (news ++ [(kS, seqObj "list" keys e), (a, seqObj "list" #[] e1)])) (ap : kS ≠ a) (nk : ∀ p ∈ news, p.1 ≠ kS) (na : ∀ p ∈ news, p.1 ≠ a)
    (ks : IntsAre keys.toList kz) (len : kz.length = vs.length) (few : vs.length < 64) (pm : (arrOf st).Perm (keys.zip vs.toArray)) (up : Up (fun p => rk p.2) (arrOf st) (arrOf st).size) (nofail : failedOf st = none)
    (go : ∀ g tk out c, Fr h₀ L g m → News h₀ L g ((a, seqObj "list" out c) :: news) → Out rk kz vs out.toList → P (.done (.ret .none)) { s with heap := g, toks := tk }) :
    wpAny (model prog w) A (ksk_tail a false e1 (.ref kS) st) P E s := by
  have Nk := N (kS, seqObj "list" keys e) (List.mem_append_right _ (.head _))
  have Na := N (a, seqObj "list" #[] e1) (List.mem_append_right _ (.tail _ (.head _)))
  have kl : keys.size = vs.length := by have := ks.length; rw [Array.length_toList] at this; (first | lia | omega)
  have al : ((arrOf st).map (·.2)).size = vs.length := by rw [Array.size_map, pm.size_eq, Array.size_zip, kl, List.size_toArray, Nat.min_self]
  have b1 := Heap.SameBut.update s.heap kS (Obj.mapSeq fun _ => (#[] : Array Value))
  have Na1 := (b1.2 a ap.symm).trans Na.1
  have b2 := Heap.SameBut.update (s.heap.update kS (Obj.mapSeq fun _ => (#[] : Array Value))) a (Obj.mapSeq fun _ => (arrOf st).map (·.2))
  obtain ⟨c2, g2⟩ : ∃ c2, ((s.heap.update kS (Obj.mapSeq fun _ => (#[] : Array Value))).update a (Obj.mapSeq fun _ => (arrOf st).map (·.2))).get? a = some (seqObj "list" ((arrOf st).map (·.2)) c2) :=
    ⟨_, get?_update_seq Na1 fun _ => (arrOf st).map (·.2)⟩
  have N2 := ksk_news (ksk_news (fun p hp => N p (List.mem_append_left _ hp) : News h₀ L s.heap news) b1 nk) b2 na
  unfold ksk_tail
  try dsimp only
  refine wpAny_bind (listUpdate_at Nk.1 rfl ?_ (by rw [kl, sizeLine_eq]; (first | lia | omega)) (Nat.zero_le _))
  refine wpAny_bind (wpAny_letGo (wpAny_bind (seqEpoch_at Na1 rfl ?_)))
  refine wpAny_bind (listUpdate_at Na1 rfl ?_ (Nat.zero_le _) (Nat.le_trans (Nat.le_of_eq al) (by rw [sizeLine_eq]; (first | lia | omega))))
  rw [nofail]
  simp only [bne_self_eq_false, Bool.false_eq_true, if_false]
  refine wpAny_pure (go _ _ _ c2 (ksk_fr (ksk_fr F b1 Nk.2.1 Nk.2.2) b2 Na.2.1 Na.2.2) (fun p hp => ?_) (out_of ks pm up))
  rcases List.mem_cons.mp hp with rfl | q
  · exact ⟨g2, Na.2⟩
  · exact N2 p q
theorem end_ (F : Fr h₀ L s.heap m) (N : News h₀ L s.heap (news ++ [(kS, seqObj "list" keys e), (a, seqObj "list" #[] e1)])) (ap : kS ≠ a) (nk : ∀ p ∈ news, p.1 ≠ kS) (na : ∀ p ∈ news, p.1 ≠ a)
    (ks : IntsAre keys.toList kz) (len : kz.length = vs.length) (few : vs.length < 64) (two : 2 ≤ vs.length) (rise : Rising rk vs)
    (go : ∀ g tk out c, Fr h₀ L g m → News h₀ L g ((a, seqObj "list" out c) :: news) → Out rk kz vs out.toList → P (.done (.ret .none)) { s with heap := g, toks := tk }) :
    wpAny (model prog w) A (ksk_end a false vs.toArray e1 (.ref kS) keys) P E s := by
  have kl : keys.size = vs.length := by have := ks.length; rw [Array.length_toList] at this; (first | lia | omega)
  have zl : (keys.zip vs.toArray).size = vs.length := by rw [Array.size_zip, kl, List.size_toArray, Nat.min_self]
  have no2 : ¬ vs.toArray.size < 2 := by rw [List.size_toArray]; (first | lia | omega)
  unfold ksk_end
  try dsimp only
  rw [if_neg no2, if_neg no2, ksk_kind ks (by (first | lia | omega))]
  simp only [Bool.false_eq_true, if_false]
  refine wpAny_bind (wpAny_pure ?_)
  refine wpAny_bind (wpAny_mono (sorts (r := fun p => rk p.2) (a₀ := keys.zip vs.toArray) (st := SortSt.mk' oneType' (keys.zip vs.toArray) #[] 7 none)
    (Q := fun _ st' => (arrOf st').Perm (keys.zip vs.toArray) ∧ failedOf st' = none ∧ Up (fun p => rk p.2) (arrOf st') (keys.zip vs.toArray).size)
    (ksk_intKeys ks) ⟨Array.Perm.refl _, rfl, rfl, rfl⟩ (un_start ks len rise) (by (first | lia | omega)) (by (first | lia | omega)) fun st' q1 q2 q3 => ⟨q1, q2, q3⟩) ?_ fun _ _ z => z)
  rintro ⟨⟨⟩, st'⟩ s' ⟨rfl, pm, nf, up⟩
  try dsimp only
  have hz : (arrOf st').size = (keys.zip vs.toArray).size := pm.size_eq
  exact tail_ F N ap nk na ks len few pm (by rw [hz]; exact up) nf go
theorem rest_ {f : Value} (F : Fr h₀ L s.heap m) (N : News h₀ L s.heap (news ++ [(kS, seqObj "list" #[] 0), (a, seqObj "list" #[] e1)])) (ap : kS ≠ a) (nk : ∀ p ∈ news, p.1 ≠ kS) (na : ∀ p ∈ news, p.1 ≠ a)
    (len : kz.length = vs.length) (few : vs.length < 64) (two : 2 ≤ vs.length) (rise : Rising rk vs)
    (turn : ∀ (i : Nat) (v : Value) (k : Int), vs[i]? = some v → kz[i]? = some k → ∀ (g : Heap) (tk : Nat) (own : List (Addr × Obj)), Fr h₀ L g m → News h₀ L g (news ++ own) →
      wpAny (model prog w) A (call f [v]) (KskEnd h₀ L m (news ++ own) k { s with heap := g, toks := tk }) (fun _ _ => False) { s with heap := g, toks := tk })
    (go : ∀ g tk out c, Fr h₀ L g m → News h₀ L g ((a, seqObj "list" out c) :: news) → Out rk kz vs out.toList → P (.done (.ret .none)) { s with heap := g, toks := tk }) :
    wpAny (model prog w) A (ksk_rest a f false vs.toArray e1 (.ref kS)) P E s := by
  unfold ksk_rest
  refine wpAny_bind (wpAny_rule ?_)
  first
    | rw [List.forIn_toArray]
    | (rw [← Array.forIn_toList]; simp only [List.toList_toArray])
  refine wpAny_bind (ksk_fold (fun i s' => ∃ g tk kA c, s' = { s with heap := g, toks := tk } ∧ Fr h₀ L g m ∧ News h₀ L g (news ++ [(kS, seqObj "list" kA c), (a, seqObj "list" #[] e1)]) ∧ IntsAre kA.toList (kz.take i)) vs 0 s
    ⟨s.heap, s.toks, #[], 0, rfl, F, N, by simpa using IntsAre.nil⟩ ?one ?all)
  case one =>
    rintro j x s' hx ⟨g, tk, kA, c, rfl, F', N', ks⟩
    simp only [Nat.zero_add] at ks ⊢
    have jl : j < vs.length := (List.getElem?_eq_some_iff.mp hx).1
    obtain ⟨k, kj⟩ : ∃ k, kz[j]? = some k := ⟨_, List.getElem?_eq_getElem (by (first | lia | omega))⟩
    have kl : kA.size ≤ vs.length := by have := ks.length; rw [Array.length_toList, List.length_take] at this; (first | lia | omega)
    refine wpAny_bind (wpAny_attempt (wpAny_mono (turn j x k hx kj g tk _ F' N') (fun v s2 q => ?_) fun _ _ z => z.elim))
    obtain ⟨g2, tk2, t2, rfl, rfl, F2, N2⟩ := q
    try dsimp only
    have Nk := N2 (kS, seqObj "list" kA c) (List.mem_append_right _ (.head _))
    have Na := N2 (a, seqObj "list" #[] e1) (List.mem_append_right _ (.tail _ (.head _)))
    have b1 := Heap.SameBut.update g2 kS (Obj.mapSeq (·.push (.int k t2)))
    obtain ⟨c2, q2⟩ : ∃ c2, (g2.update kS (Obj.mapSeq (·.push (.int k t2)))).get? kS = some (seqObj "list" (kA.push (.int k t2)) c2) := ⟨_, get?_update_seq Nk.1 (·.push (.int k t2))⟩
    have e3 : kz.take (j + 1) = kz.take j ++ [k] := by rw [List.take_add_one, kj]; simp
    have e4 : (kA.push (Value.int k t2)).toList = kA.toList ++ [Value.int k t2] := by simp
    refine wpAny_bind (listUpdate_at Nk.1 rfl ?_ (by rw [sizeLine_eq]; (first | lia | omega)) (Nat.le_trans (Nat.le_of_eq (Array.size_push ..)) (by rw [sizeLine_eq]; (first | lia | omega))))
    refine wpAny_pure ⟨rfl, _, _, kA.push (.int k t2), c2, rfl, ksk_fr F2 b1 Nk.2.1 Nk.2.2, fun p hp => ?_, by rw [e4, e3]; exact ksk_snoc ks⟩
    rcases List.mem_append.mp hp with q | q
    · exact ksk_news (fun q hq => N2 q (List.mem_append_left _ hq)) b1 nk p q
    · rcases List.mem_cons.mp q with rfl | q
      · exact ⟨q2, Nk.2⟩
      · rw [List.mem_singleton.mp q]
        exact ⟨(b1.2 a ap.symm).trans Na.1, Na.2⟩
  case all =>
    rintro s' ⟨g, tk, kA, c, rfl, F', N', ks⟩
    have e5 : kz.take (0 + vs.length) = kz := List.take_of_length_le (by (first | lia | omega))
    rw [e5] at ks
    try dsimp only
    refine wpAny_bind (listItems_at (N' (kS, seqObj "list" kA c) (List.mem_append_right _ (.head _))).1 rfl ?_)
    exact end_ F' N' ap nk na ks len few two rise fun g3 tk3 out c3 F3 N3 k3 => go g3 tk3 out c3 F3 N3 k3
theorem sort_ {f : Value} {n : Nat} (F : Fr h₀ L s.heap m) (N : News h₀ L s.heap news) (ho : s.heap.get? a = some (seqObj "list" vs.toArray n)) (aL : a ≠ L) (a0 : h₀.get? a = none) (na : ∀ p ∈ news, p.1 ≠ a)
    (len : kz.length = vs.length) (few : vs.length < 64) (two : 2 ≤ vs.length) (rise : Rising rk vs)
    (turn : ∀ (i : Nat) (v : Value) (k : Int), vs[i]? = some v → kz[i]? = some k → ∀ (g : Heap) (tk : Nat) (own : List (Addr × Obj)), Fr h₀ L g m → News h₀ L g (news ++ own) →
      wpAny (model prog w) A (call f [v]) (KskEnd h₀ L m (news ++ own) k { s with heap := g, toks := tk }) (fun _ _ => False) { s with heap := g, toks := tk })
    (go : ∀ g tk out c, Fr h₀ L g m → News h₀ L g ((a, seqObj "list" out c) :: news) → Out rk kz vs out.toList → P (.done (.ret .none)) { s with heap := g, toks := tk }) :
    wpAny (model prog w) A (ksk_tree a f false) P E s := by
  have al : a < s.heap.objs.size := Heap.lt_size ho
  have b1 := Heap.SameBut.update s.heap a (Obj.mapSeq fun _ => (#[] : Array Value))
  obtain ⟨e1, o1⟩ : ∃ e1, (s.heap.update a (Obj.mapSeq fun _ => (#[] : Array Value))).get? a = some (seqObj "list" #[] e1) := ⟨_, get?_update_seq ho fun _ => #[]⟩
  have F1 := ksk_fr F b1 aL a0
  have N1 := ksk_news N b1 na
  have sz1 : (s.heap.update a (Obj.mapSeq fun _ => (#[] : Array Value))).objs.size = s.heap.objs.size := Heap.size_update ..
  unfold ksk_tree
  refine wpAny_bind (listItems_at ho rfl ?_)
  refine wpAny_bind (listUpdate_at ho rfl ?_ (by rw [List.size_toArray, sizeLine_eq]; (first | lia | omega)) (Nat.zero_le _))
  show wpAny _ _ _ _ _ { s with heap := s.heap.update a (Obj.mapSeq fun _ => (#[] : Array Value)) }
  generalize s.heap.update a (Obj.mapSeq fun _ => (#[] : Array Value)) = g1 at *
  refine wpAny_bind (seqEpoch_at o1 rfl ?_)
  refine wpAny_bind (wpAny_newTuple ?_ (by show vs.length ≤ _; rw [sizeLine_eq]; (first | lia | omega)))
  refine wpAny_bind (wpAny_newList ?_ (Nat.zero_le _))
  refine wpAny_holding ?_
  have hkS : (g1.push (seqObj "tuple" vs.toArray 0)).objs.size = s.heap.objs.size + 1 := by rw [size_push', sz1]
  have Lk : L < (g1.push (seqObj "tuple" vs.toArray 0)).objs.size := (F1.push _).ns.lt
  refine rest_ (s := { s with heap := (g1.push (seqObj "tuple" vs.toArray 0)).push (seqObj "list" #[] 0) }) (kS := (g1.push (seqObj "tuple" vs.toArray 0)).objs.size)
    ((F1.push _).push _) (fun p hp => ?_) (by rw [hkS]; exact Nat.ne_of_gt (Nat.lt_succ_of_lt al)) (fun p hp => by rw [hkS]; exact Nat.ne_of_lt (Nat.lt_succ_of_lt (Heap.lt_size (N p hp).1))) na len few two rise turn go
  rcases List.mem_append.mp hp with q | q
  · exact ⟨Heap.get?_push_of_some _ (Heap.get?_push_of_some _ (N1 p q).1), (N1 p q).2⟩
  · rcases List.mem_cons.mp q with rfl | q
    · exact ⟨Heap.get?_push_size _ rfl, Nat.ne_of_gt Lk, Heap.get?_none_of_le (Nat.le_trans F.above (Nat.le_of_lt Lk))⟩
    · rw [List.mem_singleton.mp q]
      exact ⟨Heap.get?_push_of_some _ (Heap.get?_push_of_some _ o1), aL, a0⟩
end Stb
namespace L2
open PySem PySem.Spec PyProof.Rows
open Sem (wp)
section
variable {prog : Program} {w : World} {A : Around} {E : Value → Shared → Prop} {s : Shared} {h₀ : Heap} {L l : Addr} {m : Str → Option Value} {news : List (Addr × Obj)} {vs : List Value} {Q : Value → Shared → Prop}
theorem sorted_keyS {rk : Value → Int} {kz : List Int} {f : Value} {kw : List (Str × Value)} (F : Fr h₀ L s.heap m) (N : News h₀ L s.heap news) (hl : s.heap.IsList l vs.toArray) (hlen : kz.length = vs.length) (h64 : vs.length < 64) (h2 : 2 ≤ vs.length) (hr : Stb.Rising rk vs)
    (ha1 : argsOk "sorted" ⟨[.ref l], kw⟩) (ha2 : ∀ x, argsOk "list.sort" ⟨[.ref x], kw⟩) (ht : ∀ x, Builtin.«list.sort» ⟨[.ref x], kw⟩ = ksk_tree x f false)
    (turn : ∀ (i : Nat) (v : Value) (k : Int), vs[i]? = some v → kz[i]? = some k → ∀ (h : Heap) (tk : Nat) (own : List (Addr × Obj)), Fr h₀ L h m → News h₀ L h (news ++ own) →
      wpAny (model prog w) A.in1.in1 (call f [v]) (KskEnd h₀ L m (news ++ own) k { s with heap := h, toks := tk }) (fun _ _ => False) { s with heap := h, toks := tk })
    (h : ∀ h' tk out c, Fr h₀ L h' m → News h₀ L h' ((s.heap.objs.size + 1, seqObj "list" out c) :: news) → Stb.Out rk kz vs out.toList → Q (.ref (s.heap.objs.size + 1)) { s with heap := h', toks := tk }) :
    wpAny (model prog w) A (call (.builtin "sorted") [.ref l] kw) Q E s := by
  refine call_function_entry_kw kind_sorted plain_sorted entry_sorted ha1 ?_
  unfold Builtin.«sorted»
  refine wpAny_bind (m := checkCount "sorted" 1 1 _) (wpAny_pure ?_)
  refine wpAny_bind (collect_list hl ?_ (by rw [sizeLine_eq]; (first | lia | omega)))
  refine wpAny_bind (wpAny_newList ?_ (by rw [sizeLine_eq]; (first | lia | omega)))
  have hsz : ((s.heap.push (seqObj "list" #[] 0)).update s.heap.objs.size (Obj.mapSeq (· ++ vs.toArray))).objs.size = s.heap.objs.size + 1 := by
    rw [Heap.size_update, size_push']
  have hoL : (((s.heap.push (seqObj "list" #[] 0)).update s.heap.objs.size (Obj.mapSeq (· ++ vs.toArray))).push (seqObj "list" vs.toArray 0)).get? (s.heap.objs.size + 1) = some (seqObj "list" vs.toArray 0) := by
    rw [← hsz]; exact Heap.get?_push_size _ rfl
  have keep : ∀ b o, s.heap.get? b = some o → (((s.heap.push (seqObj "list" #[] 0)).update s.heap.objs.size (Obj.mapSeq (· ++ vs.toArray))).push (seqObj "list" vs.toArray 0)).get? b = some o := fun b o q => by
    have hlt : b < s.heap.objs.size := Heap.lt_size q
    rw [Heap.get?_push_ne _ _ _ (by rw [hsz]; exact Nat.ne_of_lt (Nat.lt_succ_of_lt hlt)), Heap.get?_update_ne _ _ _ _ (Nat.ne_of_lt hlt), Heap.get?_push_ne _ _ _ (Nat.ne_of_lt hlt)]
    exact q
  have hL : L < s.heap.objs.size := F.ns.lt
  show wpAny _ _ _ _ _ { s with heap := ((s.heap.push (seqObj "list" #[] 0)).update s.heap.objs.size (Obj.mapSeq (· ++ vs.toArray))).push (seqObj "list" vs.toArray 0) }
  rw [hsz]
  refine wpAny_bind (wpAny_holding (wpAny_call_entry_kw slot_list_sort ⟨_, hoL, rfl⟩ entry_list_sort ?body (ha2 _)))
  case body =>
    have ht' := ht (s.heap.objs.size + 1)
    show wpAny (model prog w) A.in1.in1 (Builtin.«list.sort» ⟨[.ref (s.heap.objs.size + 1)], kw⟩) _ _ _
    rw [ht']
    refine Stb.sort_ (rk := rk) (s := { s with heap := ((s.heap.push (seqObj "list" #[] 0)).update s.heap.objs.size (Obj.mapSeq (· ++ vs.toArray))).push (seqObj "list" vs.toArray 0) })
      (F.kept keep) (N.grown keep) hoL (Nat.ne_of_gt (Nat.lt_succ_of_lt hL)) (Heap.get?_none_of_le (Nat.le_trans F.above (Nat.le_succ_of_le (Nat.le_of_lt hL))))
      (fun p hp => Nat.ne_of_lt (Nat.lt_succ_of_lt (Heap.lt_size (N p hp).1))) hlen h64 h2 hr turn fun h' tk out c F' N' k' => ⟨_, rfl, ?_⟩
    exact wpAny_pure ⟨_, rfl, h h' tk out c F' N' k'⟩
end
def tSortS (K : PySem.W.Frag) (te : TE) : TE := fun σ H Q => te σ H fun x H1 => ∃ a, ∃ ts : List (List Nat), x = .ref a ∧ SqL K H1 a (ts.map fun l => V.str (S l)) ∧ ts.length < 64 ∧ 2 ≤ ts.length ∧ ts.Nodup ∧ (∀ t ∈ ts, t.length ≤ 1000) ∧ ∀ r (ys : List (List Nat)), H1 r = none → ys.Perm ts → ys.Pairwise (fun a b => a.length < b.length ∨ (a.length = b.length ∧ ts.idxOf a < ts.idxOf b)) → Q (.ref r) (upd H1 r (.lst (ys.map fun l => V.str (S l))))
section
variable {X : Cx} {pins : List (Addr × Obj)} {σ : List (Option V)} {H : Hp} {s : Shared}
theorem pe_sortS (K : PySem.W.Frag) (hK : X.K = K) {e : Expr} {te : TE} {p q kp pos : Pos} (he : PE X e te) (hg : Gl X "sorted") (hm : X.mg "sorted" = none) (hgl : Gl X "len") (hml : X.mg "len" = none) (h1 : starEach [e] X.env = [(false, eval e X.env)]) :
    PE X (.Call (.Name "sorted" p) [e] [⟨some "key", .Name "len" q, kp⟩] pos) (tSortS K te) := by
  subst hK
  intro pins s σ H Q I h
  refine call_keyLen he hg hm boot_sorted' (by decide) (by decide) hgl hml h1 I h fun x H1 u s1 I1 rx hx => ?_
  obtain ⟨a, ts, rfl, hq, h64, h2, nd, hz, qq⟩ := hx
  cases rx
  obtain ⟨its, rv, pl, _⟩ := I1.list hq
  have hl := rv.length
  rw [List.length_map] at hl
  obtain ⟨c1, c2⟩ := vals_cOf rv
  obtain ⟨m, hn, _⟩ := id I1.loc
  have hrise : Stb.Rising (fun v => ((ts.idxOf (cOf v) : Nat) : Int)) its := fun i j u v ij eu ev => by
    have z : ∀ (k : Nat) (x : Value), its[k]? = some x → ts.idxOf (cOf x) = k := fun k x hx => by
      have e : ts[k]? = some (cOf x) := by rw [← c1, List.getElem?_map, hx]; rfl
      obtain ⟨hk, e2⟩ := List.getElem?_eq_some_iff.mp e
      rw [← e2]
      exact nd.idxOf_getElem k hk
    show ((ts.idxOf (cOf u) : Nat) : Int) < ((ts.idxOf (cOf v) : Nat) : Int)
    rw [z i u eu, z j v ev]
    (first | lia | omega)
  refine sorted_keyS (rk := fun v => ((ts.idxOf (cOf v) : Nat) : Int)) (kz := its.map fun v => ((cOf v).length : Int)) (fr_all' hn) news_all pl.isList (by rw [List.length_map]) (by (first | lia | omega)) (by (first | lia | omega)) hrise (ksk_s1 _ _) (fun x => ksk_l1 _ _) (fun x => ksk_t4 "len" x) (fun i v k hv hk h tk own F' N' => ?_) fun h' tk out c F' N' hout => ?_
  · have hvm := List.mem_of_getElem? hv
    obtain ⟨t, ev⟩ := c2 v hvm
    rw [List.getElem?_map, hv] at hk
    have ek : ((cOf v).length : Int) = k := Option.some.inj hk
    have hlen : (S (cOf v)).length = (cOf v).length := S_length _
    have hm' : cOf v ∈ ts := by rw [← c1]; exact List.mem_map.mpr ⟨v, hvm, rfl⟩
    have := len_turn (prog := X.prog) (w := X.w) (A := X.A.in1.in1) (s := { s1 with heap := h, toks := tk }) (x := S (cOf v)) (t := t) (by rw [hlen]; exact small (hz _ hm')) F' N'
    rw [hlen, ek, ← ev] at this
    exact this
  · obtain ⟨ps, hp, he', hs⟩ := hout
    have ez : (its.map fun v => ((cOf v).length : Int)).zip its = its.map fun v => (((cOf v).length : Int), v) := by
      have : ∀ l : List Value, (l.map fun v => ((cOf v).length : Int)).zip l = l.map fun v => (((cOf v).length : Int), v) := by
        intro l
        induction l with
        | nil => rfl
        | cons a l ih => simp [ih]
      exact this its
    rw [ez] at hp
    have hk1 : ∀ p ∈ ps, p.1 = ((cOf p.2).length : Int) ∧ p.2 ∈ its := fun p hpm => by
      obtain ⟨v, hv, rfl⟩ := List.mem_map.mp (hp.mem_iff.mp hpm)
      exact ⟨rfl, hv⟩
    have hperm : out.toList.Perm its := by
      have := hp.map Prod.snd
      rw [List.map_map, show (Prod.snd ∘ fun v : Value => (((cOf v).length : Int), v)) = id from rfl, List.map_id] at this
      rw [he']
      exact this
    obtain ⟨keep, I2⟩ := I1.byFr (t' := tk) hn F' (fun p hp => N' p (List.mem_cons_of_mem _ hp))
    have hD : h'.get? (s1.heap.objs.size + 1) = some (seqObj "list" out c) := (N' _ (List.mem_cons_self)).1
    have hys : (out.toList.map cOf).Perm ts := by rw [← c1]; exact hperm.map cOf
    refine ⟨.ref _, _, I2.track (o := .lst ((out.toList.map cOf).map fun l => V.str (S l))) (I1.fpOk (Nat.le_succ _) (I1.hok.fresh (Nat.le_succ _))) ⟨?_, out.toList, c, vals_of_cOf fun v hv => c2 v (hperm.mem_iff.mp hv), ?_⟩, rfl, qq _ _ (I1.hok.fresh (Nat.le_succ _)) hys ?_⟩
    · rw [List.length_map, List.length_map, hperm.length_eq, sizeLine_eq]; (first | lia | omega)
    · rw [hD]; try rfl
    · rw [he', List.map_map, List.pairwise_map]
      refine hs.imp_of_mem fun {p q} hp1 hq1 hpq => ?_
      have e1 := (hk1 p hp1).1
      have e2 := (hk1 q hq1).1
      show (cOf p.2).length < (cOf q.2).length ∨ ((cOf p.2).length = (cOf q.2).length ∧ ts.idxOf (cOf p.2) < ts.idxOf (cOf q.2))
      rcases hpq with z | ⟨z1, z2⟩
      · exact .inl (by (first | lia | omega))
      · have z3 : ((ts.idxOf (cOf p.2) : Nat) : Int) < ((ts.idxOf (cOf q.2) : Nat) : Int) := z2
        exact .inr ⟨by (first | lia | omega), by (first | lia | omega)⟩
end
section
variable {σ : St} {H : Hp} {Q : VK} {K : PySem.W.Frag} {te : TE}
theorem g_sortS (h : te σ H fun x H1 => ∃ a, ∃ ts : List (List Nat), x = .ref a ∧ SqL K H1 a (ts.map fun l => V.str (S l)) ∧ ts.length < 64 ∧ 2 ≤ ts.length ∧ ts.Nodup ∧ (∀ t ∈ ts, t.length ≤ 1000) ∧ ∀ r (ys : List (List Nat)), H1 r = none → ys.Perm ts → ys.Pairwise (fun a b => a.length < b.length ∨ (a.length = b.length ∧ ts.idxOf a < ts.idxOf b)) → Q (.ref r) (upd H1 r (.lst (ys.map fun l => V.str (S l))))) : tSortS K te σ H Q := h
end
end L2

set_option Elab.async false
set_option linter.all false
set_option maxRecDepth 100000
set_option maxHeartbeats 4000000
/-! Wordrace: the beginnings in their order: the shorter ahead, of as long ones by the alphabet. -/
namespace My
open PySem L2 PySem.Spec PyProof.Rows Wr
theorem ltC_irr : ∀ a : List Nat, ltCps a a = false
  | [] => rfl
  | x :: a => by simp [ltCps, ltC_irr a]
theorem ltC_cons {x y : Nat} {a b : List Nat} : ltCps (x :: a) (y :: b) = true ↔ x < y ∨ (x = y ∧ ltCps a b = true) := by simp [ltCps]
theorem ltC_trans : ∀ {a b c : List Nat}, ltCps a b = true → ltCps b c = true → ltCps a c = true
  | [], [], _, h, _ => by simp [ltCps] at h
  | [], _ :: _, [], _, h => by simp [ltCps] at h
  | [], _ :: _, _ :: _, _, _ => rfl
  | _ :: _, [], _, h, _ => by simp [ltCps] at h
  | _ :: _, _ :: _, [], _, h => by simp [ltCps] at h
  | x :: a, y :: b, z :: c, h1, h2 => by
    rw [ltC_cons] at h1 h2 ⊢
    rcases h1 with h1 | ⟨rfl, h1⟩
    · rcases h2 with h2 | ⟨rfl, h2⟩
      · exact .inl (by (first | lia | omega))
      · exact .inl h1
    · rcases h2 with h2 | ⟨rfl, h2⟩
      · exact .inl h2
      · exact .inr ⟨rfl, ltC_trans h1 h2⟩
theorem ltC_tri : ∀ {a b : List Nat}, a ≠ b → ltCps b a = false → ltCps a b = true
  | [], [], h, _ => absurd rfl h
  | [], _ :: _, _, _ => rfl
  | _ :: _, [], _, h => by simp [ltCps] at h
  | x :: a, y :: b, h, h2 => by
    rw [ltC_cons]
    have n2 : ¬ ltCps (y :: b) (x :: a) = true := by rw [h2]; decide
    rw [ltC_cons] at n2
    by_cases e : x = y
    · subst e
      refine .inr ⟨rfl, ltC_tri (fun z => h (by rw [z])) ?_⟩
      cases q : ltCps b a
      · rfl
      · exact absurd (.inr ⟨rfl, q⟩) n2
    · exact .inl (by
        have : ¬ y < x := fun z => n2 (.inl z)
        (first | lia | omega))
/-- the shorter ahead, of as long ones by the alphabet -/
def Ord (a b : List Nat) : Prop := a.length < b.length ∨ (a.length = b.length ∧ ltCps a b = true)
structure BegO (ws bs : List (List Nat)) : Prop where
  l : BegL ws bs
  ord : bs.Pairwise Ord
theorem rising_tail : ∀ {l : List Str} {p : Str}, risingS p l = true → p ∉ l → l.Nodup → (∀ x ∈ l, ltCps p.cps.toList x.cps.toList = true) ∧ l.Pairwise fun a b => ltCps a.cps.toList b.cps.toList = true
  | [], p, _, _, _ => ⟨fun x hx => by simp at hx, .nil⟩
  | x :: l, p, h, hp, nd => by
    have h' : ltCps x.cps.toList p.cps.toList = false ∧ risingS x l = true := by simpa [risingS] using h
    have nd' := List.nodup_cons.mp nd
    obtain ⟨i1, i2⟩ := rising_tail h'.2 nd'.1 nd'.2
    have px : ltCps p.cps.toList x.cps.toList = true := ltC_tri (fun z => hp (by rw [show p = x by rw [← S_of p, ← S_of x, z]]; exact List.mem_cons_self)) h'.1
    refine ⟨fun y hy => ?_, List.pairwise_cons.mpr ⟨i1, i2⟩⟩
    rcases List.mem_cons.mp hy with z | z
    · rw [z]; exact px
    · exact ltC_trans px (i1 y z)
theorem pair_of_sorted : ∀ {l : List Str}, sortedS l = true → l.Nodup → l.Pairwise fun a b => ltCps a.cps.toList b.cps.toList = true
  | [], _, _ => .nil
  | x :: l, h, nd => by
    have nd' := List.nodup_cons.mp nd
    obtain ⟨i1, i2⟩ := rising_tail (show risingS x l = true from h) nd'.1 nd'.2
    exact List.pairwise_cons.mpr ⟨i1, i2⟩
theorem idx_order {ts : List (List Nat)} (hs : ts.Pairwise fun a b => ltCps a b = true) {a b : List Nat} (ha : a ∈ ts) (hb : b ∈ ts) (h : ts.idxOf a < ts.idxOf b) : ltCps a b = true := by
  have la := List.idxOf_lt_length_of_mem ha
  have lb := List.idxOf_lt_length_of_mem hb
  have := List.pairwise_iff_getElem.mp hs _ _ la lb h
  rwa [List.getElem_idxOf, List.getElem_idxOf] at this
theorem begO_of {ws bs : List (List Nat)} {ys : List Str} (hne : ws ≠ []) (h1 : ys.Perm (metL (begT ws))) (nd : ys.Nodup) (hs : sortedS ys = true) (h2 : bs.Perm (ys.map fun x => x.cps.toList))
    (h3 : bs.Pairwise fun a b => a.length < b.length ∨ (a.length = b.length ∧ (ys.map fun x => x.cps.toList).idxOf a < (ys.map fun x => x.cps.toList).idxOf b)) : BegO ws bs := by
  refine ⟨beg_of hne h1 h2, h3.imp_of_mem fun {a b} ha hb h => ?_⟩
  rcases h with h | ⟨e, h⟩
  · exact .inl h
  · exact .inr ⟨e, idx_order (by rw [List.pairwise_map]; exact pair_of_sorted hs nd) (h2.mem_iff.mp ha) (h2.mem_iff.mp hb) h⟩
end My

set_option Elab.async false
set_option linter.all false
set_option maxRecDepth 100000
set_option maxHeartbeats 4000000
/-! int of a truth value. -/
namespace L2
open PySem PySem.Spec PyProof.Rows
end L2

set_option Elab.async false
set_option linter.all false
set_option maxRecDepth 100000
set_option maxHeartbeats 4000000
/-! Tables: a dict from texts to things that lie elsewhere. -/
namespace My
open PySem L2 PySem.Spec PyProof.Rows Wr
end My

set_option Elab.async false
set_option linter.all false
set_option maxRecDepth 100000
set_option maxHeartbeats 4000000
/-! Wordrace: the beginnings, length by length. -/
namespace My
open PySem L2 PySem.Spec PyProof.Rows Wr
end My

set_option Elab.async false
set_option linter.all false
set_option maxRecDepth 100000
set_option maxHeartbeats 4000000
/-! Texts written and read: join, split, str, int, f-strings, a try whose body goes through. -/
namespace L2
open PySem PySem.Spec PyProof.Rows
def joinL (sep : List Nat) : List (List Nat) → List Nat
  | [] => []
  | [x] => x
  | x :: y :: r => x ++ sep ++ joinL sep (y :: r)
theorem join_S (sep : List Nat) : ∀ ts : List (List Nat), Str.join (S sep) (ts.map S) = S (joinL sep ts)
  | [] => rfl
  | [x] => rfl
  | x :: y :: r => by
    have ih := join_S sep (y :: r)
    show S x ++ S sep ++ Str.join (S sep) ((y :: r).map S) = _
    rw [ih, S_app, S_app]
    rfl
theorem strsAre_S : ∀ {ts : List (List Nat)} {its : List Value}, Vals (ts.map fun l => V.str (S l)) its → StrsAre its (ts.map S)
  | [], _, .nil => .nil
  | t :: ts, _, .cons a b => by
    obtain ⟨tk, rfl⟩ := a
    exact .cons _ _ (strsAre_S b)
section
variable {X : Cx}
def rJoin (K : PySem.W.Frag) : V → List V → Hp → VK → Prop := fun x vs H Q => ∃ a p, ∃ ts : List (List Nat), x = .str (S a) ∧ vs = [.ref p] ∧ SqL K H p (ts.map fun l => V.str (S l)) ∧ ts.length ≤ 1000 ∧ (∀ t ∈ ts, t.length ≤ 1000) ∧ a.length ≤ 1000 ∧ Q (.str (S (joinL a ts))) H
theorem mt_joinK (K : PySem.W.Frag) (hK : X.K = K) : MtR X "str.join" (rJoin K) := by
  subst hK
  intro pins s σ H x xs v us Q I rx rs h
  obtain ⟨a, p, ts, rfl, rfl, hq, hl, ht, ha, q⟩ := h
  obtain ⟨t, rfl⟩ := rx
  obtain ⟨u, rfl, ru⟩ := vals1 rs
  cases ru
  obtain ⟨its, rv, pl, hz⟩ := I.list hq
  refine join_list (ys := ts.map S) pl.isList (by simpa using strsAre_S rv) ?_ fun t' k => ?_
  · have h1 : ((ts.map S).map (·.length)).sum ≤ (ts.map S).length * 1000 := StrLaws.sumLen_le _ fun y hy => by
      obtain ⟨z, hz', rfl⟩ := List.mem_map.mp hy
      rw [S_length]; exact ht z hz'
    rw [List.length_map] at h1 ⊢
    rw [S_length]
    have h2 := Nat.mul_le_mul hl ha
    (first | lia | omega)
  · have e : Txt.join (S a) (ts.map S) = S (joinL a ts) := by
      show Builtin.Str.glued (S a) (ts.map S) = _
      rw [StrLaws.glued_eq_join, join_S]
    rw [e]
    exact ⟨.str (S (joinL a ts)), H, I.tok k, ⟨_, rfl⟩, q⟩
/-- str of a weight -/
def dg (n : Int) : List Nat := [48 + n.toNat]
theorem digit_text {n : Int} (h0 : 0 ≤ n) (h9 : n ≤ 9) : Str.ofString (toString n) = S (dg n) := by
  have h : n = 0 ∨ n = 1 ∨ n = 2 ∨ n = 3 ∨ n = 4 ∨ n = 5 ∨ n = 6 ∨ n = 7 ∨ n = 8 ∨ n = 9 := by (first | lia | omega)
  rcases h with rfl | rfl | rfl | rfl | rfl | rfl | rfl | rfl | rfl | rfl <;> decide +kernel
theorem call_strI : CallR X (.type "str") (fun xs H Q => ∃ n : Int, xs = [.int n] ∧ 0 ≤ n ∧ n ≤ 9 ∧ Q (.str (S (dg n))) H) := by
  intro pins s σ H xs us Q I r h
  obtain ⟨n, rfl, h0, h9, q⟩ := h
  obtain ⟨u, rfl, t, rfl⟩ := vals1 r
  refine PySem.P.str_of_int ?_ ?_
  · have : n.natAbs ≤ 9 := by (first | lia | omega)
    have h2 : n.natAbs.log2 ≤ 9 := Nat.le_trans (Nat.log2_le_self _) this
    (first | lia | omega)
  · exact ⟨.str (S (dg n)), H, I.tok _, ⟨_, by rw [← digit_text h0 h9]⟩, q⟩
/-- f"{..}" of a text -/
def tFv (t : TE) : TE := fun σ H Q => t σ H fun x H1 => ∃ a, x = .str (S a) ∧ a.length ≤ 1000 ∧ Q (.str (S a)) H1
theorem pe_fv {e : Expr} {t : TE} {p : Pos} (h : PE X e t) : PE X (.FormattedValue e (-1) none p) (tFv t) := by
  intro pins s σ H Q I q
  refine wpAny_FormattedValue_plain (thn (h pins s σ H _ I q) fun u s1 ⟨x, H1, I1, r, a, e, ha, q1⟩ => ?_)
  subst e
  obtain ⟨tk, rfl⟩ := r
  exact wpAny_formatField_str ⟨.str (S a), H1, I1, ⟨_, rfl⟩, q1⟩ ⟨.str (S a), H1, I1.tok _, ⟨_, rfl⟩, q1⟩ (by rw [S_length, sizeLine_eq]; (first | lia | omega))
def tF3 (t1 t2 t3 : TE) : TE := fun σ H Q => t1 σ H fun x H1 => ∃ a, x = .str (S a) ∧ a.length ≤ 1000 ∧ t2 σ H1 fun y H2 => ∃ b, y = .str (S b) ∧ b.length ≤ 1000 ∧ t3 σ H2 fun z H3 => ∃ c, z = .str (S c) ∧ c.length ≤ 1000 ∧ Q (.str (S (a ++ b ++ c))) H3
theorem pe_f3 {e1 e2 e3 : Expr} {t1 t2 t3 : TE} {p : Pos} (h1 : PE X e1 t1) (h2 : PE X e2 t2) (h3 : PE X e3 t3) : PE X (.JoinedStr [e1, e2, e3] p) (tF3 t1 t2 t3) := by
  intro pins s σ H Q I q
  refine wpAny_JoinedStr ?_
  refine thn (h1 pins s σ H _ I q) fun u1 s1 ⟨x, H1, I1, r1, a, ex, la, q1⟩ => ?_
  subst ex
  obtain ⟨k1, rfl⟩ := r1
  have z0 : Str.empty ++ S a = S a := Str.empty_append _
  refine ⟨S a, k1, rfl, by rw [z0, S_length, sizeLine_eq]; (first | lia | omega), ?_⟩
  rw [z0]
  refine thn (h2 pins s1 σ H1 _ I1 q1) fun u2 s2 ⟨y, H2, I2, r2, b, ey, lb, q2⟩ => ?_
  subst ey
  obtain ⟨k2, rfl⟩ := r2
  refine ⟨S b, k2, rfl, by rw [S_app, S_length, List.length_append, sizeLine_eq]; (first | lia | omega), ?_⟩
  rw [S_app]
  refine thn (h3 pins s2 σ H2 _ I2 q2) fun u3 s3 ⟨z, H3, I3, r3, c, ez, lc, q3⟩ => ?_
  subst ez
  obtain ⟨k3, rfl⟩ := r3
  have hl : (S (a ++ b) ++ S c).length ≤ sizeLine := by rw [S_app, S_length, List.length_append, List.length_append, sizeLine_eq]; (first | lia | omega)
  refine ⟨S c, k3, rfl, hl, hl, ?_⟩
  rw [S_app]
  exact ⟨.str (S (a ++ b ++ c)), H3, I3.tok _, ⟨_, rfl⟩, q3⟩
end
end L2

set_option Elab.async false
set_option linter.all false
set_option maxRecDepth 100000
set_option maxHeartbeats 4000000
/-! Wordrace: the line that writes a race. -/
namespace L2
open PySem PySem.Spec PyProof.Rows
end L2
namespace My
open PySem L2 PySem.Spec PyProof.Rows Wr
theorem joinL_len {c n : Nat} : ∀ {ps : List (List Nat)}, (∀ p ∈ ps, p.length ≤ n) → (joinL [c] ps).length ≤ ps.length * (n + 1)
  | [], _ => by simp [joinL]
  | [p], h => by
    have := h p (by simp)
    show p.length ≤ 1 * (n + 1)
    (first | lia | omega)
  | p :: q :: r, h => by
    have ih := joinL_len (c := c) (n := n) (ps := q :: r) fun x hx => h x (List.mem_cons_of_mem _ hx)
    have hp := h p (by simp)
    show (p ++ [c] ++ joinL [c] (q :: r)).length ≤ _
    rw [List.length_append, List.length_append, List.length_singleton]
    rw [List.length_cons] at ih ⊢
    rw [Nat.succ_mul] at ih ⊢
    rw [List.length_cons, Nat.succ_mul]
    (first | lia | omega)
/-- the line that writes a race -/
def wtT (ns : List Int) : List Nat := joinL [32] (ns.map dg)
def lineT (ns : List Int) (ws : List (List Nat)) : List Nat := wtT ns ++ [58, 32] ++ joinL [32] ws
theorem wtT_len {ns : List Int} (hd : DieOk ns) : (wtT ns).length ≤ 8 := by
  have h := joinL_len (c := 32) (n := 1) (ps := ns.map dg) fun p hp => by
    obtain ⟨n, hn, rfl⟩ := List.mem_map.mp hp
    exact Nat.le_refl 1
  rw [List.length_map] at h
  have := hd.hi
  unfold wtT
  (first | lia | omega)
theorem wsT_len {n : Nat} {ws : List (List Nat)} (R : RaceOk n ws) : (joinL [32] ws).length ≤ 28 := by
  have h := joinL_len (c := 32) (n := 6) (ps := ws) fun p hp => (R.w p hp).hi
  have := R.hi
  (first | lia | omega)
end My

set_option linter.all false
/-! How parameters are bound, by their number. -/
namespace L2
open PySem
theorem by1 {P : List Value → Prop} (h : ∀ a, P [a]) : ∀ us : List Value, us.length = 1 → P us
  | [a], _ => h a
theorem by2 {P : List Value → Prop} (h : ∀ a b, P [a, b]) : ∀ us : List Value, us.length = 2 → P us
  | [a, b], _ => h a b
theorem by3 {P : List Value → Prop} (h : ∀ a b c, P [a, b, c]) : ∀ us : List Value, us.length = 3 → P us
  | [a, b, c], _ => h a b c
theorem by4 {P : List Value → Prop} (h : ∀ a b c d, P [a, b, c, d]) : ∀ us : List Value, us.length = 4 → P us
  | [a, b, c, d], _ => h a b c d
theorem bz1 {fd : FuncData} {ps : List Str} (h : ∀ a, bindArgs fd ⟨[a], []⟩ = pure (ps.zip [a])) (us : List Value) (hl : us.length = 1) : bindArgs fd ⟨us, []⟩ = pure (ps.zip us) := by1 (P := fun us => bindArgs fd ⟨us, []⟩ = pure (ps.zip us)) h us hl
theorem bz2 {fd : FuncData} {ps : List Str} (h : ∀ a b, bindArgs fd ⟨[a, b], []⟩ = pure (ps.zip [a, b])) (us : List Value) (hl : us.length = 2) : bindArgs fd ⟨us, []⟩ = pure (ps.zip us) := by2 (P := fun us => bindArgs fd ⟨us, []⟩ = pure (ps.zip us)) h us hl
theorem bz3 {fd : FuncData} {ps : List Str} (h : ∀ a b c, bindArgs fd ⟨[a, b, c], []⟩ = pure (ps.zip [a, b, c])) (us : List Value) (hl : us.length = 3) : bindArgs fd ⟨us, []⟩ = pure (ps.zip us) := by3 (P := fun us => bindArgs fd ⟨us, []⟩ = pure (ps.zip us)) h us hl
theorem bz4 {fd : FuncData} {ps : List Str} (h : ∀ a b c d, bindArgs fd ⟨[a, b, c, d], []⟩ = pure (ps.zip [a, b, c, d])) (us : List Value) (hl : us.length = 4) : bindArgs fd ⟨us, []⟩ = pure (ps.zip us) := by4 (P := fun us => bindArgs fd ⟨us, []⟩ = pure (ps.zip us)) h us hl
end L2

set_option linter.all false
namespace L2
open PySem PySem.Spec PyProof.Rows
section
variable {σ : St} {H : Hp} {Q : VK} {K : PySem.W.Frag} {D : Ends}
end
end L2

set_option Elab.async false
set_option linter.all false
set_option maxRecDepth 100000
set_option maxHeartbeats 4000000
/-! Exceptions of own classes: how one lies behind a call, how it passes through a def. -/
namespace L2
open PySem PySem.Spec PyProof.Rows
/-- the exception at ea, of the class cls, its last station at T -/
def ExcAt (h : Heap) (ea : Addr) (cls : Value) (T : Addr) : Prop :=
  ∃ a0 oe vs oT ts, h.get? ea = some oe ∧ (oe.cls = cls ∧ vs[0]? = some a0) ∧ oe.data = .fields vs ∧ vs[1]? = some (.ref T) ∧ T ≠ ea ∧ h.get? T = some oT ∧ oT.data = .fields ts ∧ ts[3]? = some .none
def CX1 (P : Program) (w : World) : CXT := fun outer H s E e s' => ∃ ea cls T H', e = .ref ea ∧ s'.os = s.os ∧ AllBare s'.gens ∧ Un (frs outer) [] H H' s.heap s'.heap ∧ HOk P w H' s'.heap ∧ ExcAt s'.heap ea cls T ∧
  H' ea = none ∧ H' T = none ∧ s.heap.get? ea = none ∧ s.heap.get? T = none ∧ E cls (some ea) H'
theorem hidF {h : Heap} {B : Heap} : ∀ {l : List Env} {L : List Addr}, (∀ b ∈ frs l, b ∈ L) → h.FunFrames B l → h.FunFrames (PySem.W.hideAll h L) l
  | [], _, _, _ => trivial
  | env :: l, L, hs, ⟨k, ⟨A, o, hf, hn, ho, hd⟩, r⟩ => by
    have hm : A ∈ L := hs A (by unfold frs; rw [List.filterMap_cons, hf]; exact List.mem_cons_self)
    refine ⟨k, ⟨A, o, hf, PySem.W.hideAll_none L hm, ho, hd⟩, hidF (fun b hb => hs b ?_) r⟩
    unfold frs at hb ⊢
    rw [List.filterMap_cons, hf]
    exact List.mem_cons_of_mem _ hb
theorem ObjOk.there {P : Program} {w : World} {H : Hp} {h : Heap} {a : Addr} {o : HO} (x : ObjOk P w H h a o) : ∃ ob, h.get? a = some ob := by
  cases o with
  | lst xs => obtain ⟨_, _, _, _, e⟩ := x; exact ⟨_, e⟩
  | tup xs => obtain ⟨_, _, _, ob, e, _⟩ := x; exact ⟨_, e⟩
  | dK kvs => obtain ⟨_, _, _, _, o, _, _, e, _⟩ := x; exact ⟨_, e⟩
  | dT kvs => obtain ⟨_, _, _, _, o, _, _, e, _⟩ := x; exact ⟨_, e⟩
  | set S n => obtain ⟨o, _, _, _, e, _⟩ := x; exact ⟨_, e⟩
  | ins C dx fs => obtain ⟨_, _, _, e, _⟩ := x; exact ⟨_, e⟩
  | own y => obtain ⟨_, e⟩ := x; exact ⟨_, e⟩
  | xd fs => obtain ⟨_, ⟨_, _, _, e, _⟩, _⟩ := x; exact ⟨_, e⟩
  | rng lo hi => obtain ⟨_, _, _, e⟩ := x; exact ⟨_, e⟩
  | frz ob u => obtain ⟨e, _⟩ := x; exact ⟨_, e⟩
  | tbl ps => exact ⟨_, show h.get? a = some _ from x⟩
  | met f y => exact ⟨_, show h.get? a = some _ from x⟩
  | ext φ => obtain ⟨_, ⟨_, e⟩, _⟩ := x; exact ⟨_, e⟩
section
variable {P : Program} {w : World} {K : PySem.W.Frag} {mg : Str → Option Value} {base : Heap} {N : List Str} {qual : Str} {scope : Scope} {f : Addr} {cd : Value} {A : Around} {outer : List Env} {s : Shared} {H : Hp} {E : XK} {CX : CXT}
/-- the last step: the state behind the frame, out of the body's state s2 and the heap h' that the station was written to -/
theorem cx_of {pins : List (Addr × Obj)} {σ : St} {H2 : Hp} {s2 : Shared} {L : List Addr} {ea : Addr} {cls a0 : Value} {h' : Heap}
    (J : Inv (cxOf CX P w K mg base N qual scope f cd A outer s H E) pins σ H2 s2) (hL : ∀ b ∈ L, H2 b = none ∧ (b ∈ frs outer ∨ s.heap.get? b = none)) (hLf : ∀ b ∈ frs outer, b ∈ L) (hea : s.heap.get? ea = none) (heH : H2 ea = none)
    (fl : Heap.FlyingW (PySem.W.hideAll s2.heap L) outer ea cls a0 h') (up : s2.heap.UpToSlots h') (q : E cls (some ea) H2) : CX1 P w outer H s E (.ref ea) { s2 with heap := h' } := by
  obtain ⟨f1, f2, f3, oe, vs, T, oT, ts, he, hc, hd, h1, hnT, hTe, hT, hdT, h3⟩ := fl
  have kp : ∀ b o, b ∉ L → s2.heap.get? b = some o → h'.get? b = some o := fun b o hb e => f1 b o (PySem.W.hideAll_get L e hb)
  have trk : ∀ b u, H2 b = some u → b ∉ L := fun b u e hb => by rw [(hL b hb).1] at e; cases e
  have hTH : H2 T = none := by
    cases e : H2 T with
    | none => rfl
    | some u =>
      obtain ⟨o, ho⟩ := (J.hok T u e).there
      have := PySem.W.hideAll_get L ho (trk T u e)
      rw [hnT] at this; cases this
  refine ⟨ea, cls, T, H2, rfl, J.os, J.bare, ?_, ?_, ⟨a0, oe, vs, oT, ts, he, hc, hd, h1, hTe, hT, hdT, h3⟩, heH, hTH, hea, ?_, q⟩
  · refine ⟨fun b o e n hb hx => ?_, fun b o e n hb hx => ?_, fun b o e n hx => ?_, fun b o e hx => ?_, J.base.tups, J.base.frzs, J.base.tbls⟩
    · have e2 := J.base.keep b o e n hb hx
      exact kp b o (fun hl => by rcases (hL b hl).2 with z | z; exact hb z; rw [e] at z; cases z) e2
    · obtain ⟨sl, e2⟩ := J.base.slot b o e n hb hx
      obtain ⟨_, o', ho', hnf⟩ := J.ok.funs.mem hb
      have eo : o = o' := Option.some.inj ((show s.heap.get? b = some o from e).symm.trans ho')
      subst eo
      obtain ⟨sl', e3⟩ := up b _ e2 (fun ws z => hnf ws z)
      exact ⟨sl', e3⟩
    · exact J.base.free b o e n hx
    · obtain ⟨o', e2⟩ := J.base.there b o e hx
      by_cases hl : b ∈ L
      · rcases (hL b hl).2 with z | z
        · obtain ⟨sl, e3⟩ := J.base.slot b o e (J.ok.frf b z) z hx
          obtain ⟨_, o4, ho4, hnf⟩ := J.ok.funs.mem z
          have eo : o = o4 := Option.some.inj ((show s.heap.get? b = some o from e).symm.trans ho4)
          subst eo
          obtain ⟨sl', e4⟩ := up b _ e3 (fun ws z => hnf ws z)
          exact ⟨_, e4⟩
        · rw [e] at z; cases z
      · exact ⟨o', kp b o' hl e2⟩
  · intro b u e
    refine (J.hok b u e).stay (fun c v hc q => kp c v ?_ q) (fun _ q => q) fun _ _ q => q
    rcases hc with z | z
    · rw [z]; exact trk b u e
    · exact trk c _ z
  · cases e : s.heap.get? T with
    | none => rfl
    | some o =>
      obtain ⟨o', e2⟩ := J.base.there T o e (by simp [cxOf])
      by_cases hl : T ∈ L
      · rcases (hL T hl).2 with z | z
        · obtain ⟨_, o4, ho4, hnf⟩ := f3.mem z
          rw [hT] at ho4
          cases ho4
          exact absurd hdT (hnf ts)
        · rw [e] at z; cases z
      · have := PySem.W.hideAll_get L e2 hl
        rw [hnT] at this; cases this
/-- an exception of a callee leaves this def too -/
theorem pass1 : Passes (CX1 P w) (cxOf (CX1 P w) P w K mg base N qual scope f cd A outer s H E) E := by
  intro pins σ H1 s1 e s2 I c
  obtain ⟨ea, cls, T, H', rfl, os, bare, un, hok, ⟨a0, oe, vs, oT, ts, he, hc, hd, h1, hTe, hT, hdT, h3⟩, hea, hTH, nea, nT, q⟩ := c
  have J : Inv (cxOf (CX1 P w) P w K mg base N qual scope f cd A outer s H E) pins σ H' s2 := I.call' (s' := s2) (ch := []) os un hok bare fun b hb => by simp at hb
  have up0 : ∀ b, s1.heap.get? b = none → s.heap.get? b = none := fun b hb => by
    cases e : s.heap.get? b with
    | none => rfl
    | some o =>
      obtain ⟨o', e2⟩ := I.base.there b o e (by simp [cxOf])
      rw [hb] at e2; cases e2
  have hloc := J.ok.above
  have stk := J.stack
  have nloc : s.heap.get? (cxOf (CX1 P w) P w K mg base N qual scope f cd A outer s H E).env.locals = none := Heap.get?_none_of_le hloc
  let L : List Addr := ea :: T :: (cxOf (CX1 P w) P w K mg base N qual scope f cd A outer s H E).env.locals :: frs outer
  have hLs : ∀ b ∈ frs ((cxOf (CX1 P w) P w K mg base N qual scope f cd A outer s H E).env :: outer), b ∈ L := fun b hb => by
    have := J.stkSub b hb
    exact List.mem_cons_of_mem _ (List.mem_cons_of_mem _ this)
  refine wpAny_leaves_onW (base := PySem.W.hideAll s2.heap L) (L := (cxOf (CX1 P w) P w K mg base N qual scope f cd A outer s H E).env.locals) (cls := cls) (a0 := a0) J.ok.frames ?_ ?_ fun h' fl up => ?_
  · rfl
  · exact ⟨fun b o e => PySem.W.of_hideAll L e, PySem.W.hideAll_none L (by simp [L]), hidF hLs stk, oe, vs, T, oT, ts, he, hc, hd, h1, PySem.W.hideAll_none L (by simp [L]), hTe, hT, hdT, h3⟩
  · refine cx_of J (L := L) (fun b hb => ?_) (fun b hb => by simp [L, hb]) (up0 ea nea) hea fl up q
    rcases List.mem_cons.mp hb with z | hb
    · rw [z]; exact ⟨hea, .inr (up0 ea nea)⟩
    · rcases List.mem_cons.mp hb with z | hb
      · rw [z]; exact ⟨hTH, .inr (up0 T nT)⟩
      · rcases List.mem_cons.mp hb with z | hb
        · rw [z]; exact ⟨J.free, .inr nloc⟩
        · exact ⟨J.stkFree b (by
            obtain ⟨e, he', hf⟩ := List.mem_filterMap.mp (show b ∈ outer.filterMap (·.frame) from hb)
            exact List.mem_filterMap.mpr ⟨e, List.mem_cons_of_mem _ he', hf⟩), .inl hb⟩
end
end L2

set_option Elab.async false
set_option linter.all false
set_option maxRecDepth 100000
set_option maxHeartbeats 4000000
/-! Exceptions of own classes: raise; defs that refuse. -/
namespace L2
open PySem PySem.Spec PyProof.Rows
section
variable {P : Program} {w : World} {K : PySem.W.Frag} {mg : Str → Option Value} {base : Heap}
/-- a def that goes through goes through here as well -/
theorem FnOk.toX {k : Nat} {f : Addr} {fd : FuncData} {ps : List Str} {sp : Sp} (F : FnOk P w K mg base CX0 k f fd ps sp) : FnOk P w K mg base (CX1 P w) k f fd ps sp :=
  ⟨F.len, fun A outer s H args us vs Q E hr he hb hv hs => codeAny_mono (F.run A outer s H args us vs Q E hr he hb hv hs) fun r s' h => by
    cases r with
    | error e => exact h.elim
    | ok fl => cases fl <;> exact h⟩
structure DfX (P : Program) (w : World) (K : PySem.W.Frag) (mg : Str → Option Value) (base : Heap) (x : Str) (k : Nat) (f : Addr) (fd : FuncData) (ps : List Str) (sp : Sp) : Prop where
  ok : FnOk P w K mg base (CX1 P w) k f fd ps sp
  m : mg x = some (.ref f)
  kp : PySem.W.keepIn K (.ref f) = true
  b : Binds K fd ps []
end
/-- a call of a def that may refuse: what E wants of the refusal -/
theorem pe_callX {X : Cx} {E : XK} {x : Str} {k k' : Nat} {f : Addr} {fd : FuncData} {ps : List Str} {sp : Sp} {p pos : Pos} {e : Expr} {es : List Expr} {t : TA} (hx : Passes (CX1 X.prog X.w) X E) (D : DfX X.prog X.w X.K X.mg X.base x k f fd ps sp) (hr : Room k' X.A) (hg : Gl X x) (ha : PA X (e :: es) t) (hk : k ≤ k' := by decide)
    (hdb : (x == ("__debug__" : Str)) = false := by decide) (he : starEach (e :: es) X.env = (false, eval e X.env) :: starEach es X.env := by rfl) (hpl : (backTo pos (starEach es X.env)).any (·.1) = false := by rfl) :
    PE X (.Call (.Name x p) (e :: es) [] pos) (tCall sp [] E t) := pe_call D.ok (hr.mono hk) hg D.m D.kp D.b .nil hx ha hdb he hpl
/-- an own class of exceptions, over the base -/
structure Exc (K : PySem.W.Frag) (mg : Str → Option Value) (x : Str) (C : Addr) : Prop where
  m : mg x = some (.ref C)
  cl : ∃ bmB newId, PySem.W.excIn K C bmB newId = true ∧ ∃ B initId, ExcBaseFacts B newId initId bmB
def tRaise (C : Addr) (E : XK) : TS := fun _ _ H => ∀ ea, H ea = none → E (.ref C) (some ea) H
theorem own_obj {K : PySem.W.Frag} {h : Heap} {C : Addr} {bmB : List Value} {newId : String} (X : K.In h) (q : PySem.W.excIn K C bmB newId = true) :
    ∃ bm N nm q bs hdct sn sub ab col dd k0 k1 k2 k3 k5 mN, h.get? C = some (excClassObj nm q C N bs bm hdct sn sub ab col dd k0 k1 k2 k3 k5 newId) ∧ h.Ns N mN ∧ mN "__init__" = none ∧ OwnTail h bmB bm := by
  unfold PySem.W.excIn at q
  split at q
  · rename_i dd cd sl ho
    split at q
    · rename_i C' bm k0 k1 k2 k3 n k5 hm hs
      simp only [Bool.and_eq_true, beq_iff_eq, Bool.not_eq_true'] at q
      obtain ⟨⟨⟨⟨⟨rfl, rfl⟩, hdel⟩, ht⟩, hok⟩, hni⟩ := q
      obtain ⟨nm, bs, mro, ns, qn, hd, sn, sub, ab, col, del⟩ := cd
      dsimp only at hm hdel hok hni
      subst hm hdel
      have hsl : sl = #[k0, k1, k2, k3, some (.builtin n), k5] := by
        obtain ⟨l⟩ := sl
        simp only at hs
        rw [hs]
      subst hsl
      exact ⟨bm, ns, nm, qn, bs, hd, sn, sub, ab, col, dd, k0, k1, k2, k3, k5, _, X _ _ ho, .of_isNs (PySem.W.isNs_of_in X hok), PySem.W.nsMap_none_of_in X hok hni, PySem.W.tail_of_in X ht⟩
    · cases q
  · cases q
section
variable {P : Program} {w : World} {K : PySem.W.Frag} {mg : Str → Option Value} {base : Heap} {N : List Str} {qual : Str} {scope : Scope} {f : Addr} {cd : Value} {A : Around} {outer : List Env} {s : Shared} {H : Hp} {E : XK}
theorem xe_made {pins : List (Addr × Obj)} {σ : St} {H2 : Hp} {s2 : Shared} {h' : Heap} {ea : Addr} {cls : Value} {vs : List Value} (J : Inv (cxOf (CX1 P w) P w K mg base N qual scope f cd A outer s H E) pins σ H2 s2) (mk : Heap.MadeExcOf s2.heap h' ea cls vs)
    (q : E cls (some ea) H2) : (cxOf (CX1 P w) P w K mg base N qual scope f cd A outer s H E).xe (.ref ea) { s2 with heap := h' } := by
  have up0 : ∀ b, s2.heap.get? b = none → s.heap.get? b = none := fun b hb => by
    cases e : s.heap.get? b with
    | none => rfl
    | some o =>
      obtain ⟨o', e2⟩ := J.base.there b o e (by simp [cxOf])
      rw [hb] at e2; cases e2
  have nloc : s.heap.get? (cxOf (CX1 P w) P w K mg base N qual scope f cd A outer s H E).env.locals = none := Heap.get?_none_of_le J.ok.above
  let L : List Addr := (cxOf (CX1 P w) P w K mg base N qual scope f cd A outer s H E).env.locals :: frs outer
  have hLs : ∀ b ∈ frs ((cxOf (CX1 P w) P w K mg base N qual scope f cd A outer s H E).env :: outer), b ∈ L := fun b hb => J.stkSub b hb
  have heH : H2 ea = none := by
    cases e : H2 ea with
    | none => rfl
    | some u =>
      obtain ⟨o, ho⟩ := (J.hok ea u e).there
      rw [mk.new] at ho; cases ho
  refine wpAny_leaves_madeW (base := PySem.W.hideAll s2.heap L) (h := s2.heap) (L := (cxOf (CX1 P w) P w K mg base N qual scope f cd A outer s H E).env.locals) (cls := cls) (args := vs) J.ok.frames rfl (fun b o e => PySem.W.of_hideAll L e) (hidF hLs J.stack) mk fun h2 t fl _ _ up => ?_
  refine cx_of (s2 := s2) (h' := h2) J (L := L) (fun b hb => ?_) (fun b hb => List.mem_cons_of_mem _ hb) (up0 ea mk.new) heH fl ((Heap.UpToSlots.of_keeps mk.keeps).trans up) q
  rcases List.mem_cons.mp hb with z | hb
  · rw [z]; exact ⟨J.free, .inr nloc⟩
  · exact ⟨J.stkFree b (by
      obtain ⟨e, he', hf⟩ := List.mem_filterMap.mp (show b ∈ outer.filterMap (·.frame) from hb)
      exact List.mem_filterMap.mpr ⟨e, List.mem_cons_of_mem _ he', hf⟩), .inl hb⟩
theorem ps_raise {x : Str} {C : Addr} {np cpos pos : Pos} {e₀ : Expr} {ta : TE} (hh : A.handled = none) (X : Exc K mg x C) (hg : Gl (cxOf (CX1 P w) P w K mg base N qual scope f cd A outer s H E) x) (he : PE (cxOf (CX1 P w) P w K mg base N qual scope f cd A outer s H E) e₀ ta)
    (hst : starEach [e₀] (cxOf (CX1 P w) P w K mg base N qual scope f cd A outer s H E).env = [(false, eval e₀ (cxOf (CX1 P w) P w K mg base N qual scope f cd A outer s H E).env)] := by rfl) (hd : (x == ("__debug__" : Str)) = false := by decide) :
    PS (cxOf (CX1 P w) P w K mg base N qual scope f cd A outer s H E) (.Raise (some (.Call (.Name x np) [e₀] [] cpos)) none pos) (fun D σ H1 => ta σ H1 fun _ H2 => tRaise C E D σ H2) := by
  intro pins s1 σ H1 D I q
  obtain ⟨bmB, newId, hx, B, initId, FB⟩ := X.cl
  obtain ⟨tl, N', nm, q', bs, hdct, sn, sub, ab, col, dd, k0, k1, k2, k3, k5, mN, hC, hN, hni, T⟩ := own_obj (h := base) I.ok.mod.kin hx
  have ha : PA (cxOf (CX1 P w) P w K mg base N qual scope f cd A outer s H E) [e₀] (tCons ta tNil) := pa_cons he pa_nil (by rw [hst]; rfl)
  refine wpAny_Raise_call_subT (C := C) (nm := nm) (q := q') (N := N') (bs := bs) (bm := tl) (hdct := hdct) (sn := sn) (sub := sub) (ab := ab) (col := col) (dd := dd) (k0 := k0) (k1 := k1) (k2 := k2) (k3 := k3) (k5 := k5)
    FB (mN := mN) (T.hasType FB.hasBase) (I.ok.hd rfl) (by rw [hst]; rfl) hni (ld_glob I hg X.m ⟨rfl, ?_⟩ hd)
  have hsp := ha cpos pins s1 σ H1 (fun vs H2 => match vs with | [_] => tRaise C E D σ H2 | _ => False) I q
  rw [hst] at hsp ⊢
  refine Calls.evalArgs_plain (thn hsp fun us s2 ⟨vs, H2, I2, r, q2⟩ => ?_)
  match vs, r, q2 with
  | [v], r, q2 =>
    refine ⟨rfl, by rw [← r.length, sizeLine_eq]; exact (by decide : 1 ≤ 16777216), I2.bk _ _ hC, hN.keeps I2.bk, T.keeps I2.bk, fun h' e mk => xe_made I2 mk (q2 e ?_)⟩
    cases z : H2 e with
    | none => rfl
    | some u =>
      obtain ⟨o, ho⟩ := (I2.hok e u z).there
      rw [mk.new] at ho; cases ho
end
end L2

set_option Elab.async false
set_option linter.all false
set_option maxRecDepth 100000
set_option maxHeartbeats 4000000
/-! Exceptions of own classes: isinstance. -/
namespace L2
open PySem PySem.Spec PyProof.Rows PySem.W
/-- what the fragment tells of an own class of exceptions -/
structure ExcK (K : PySem.W.Frag) (C : Addr) : Prop where
  hc : (clsIn K C).isSome = true
  g1 : findIn K (.ref C) "__getattribute__" = some (some (.builtin "BaseException.__getattribute__"))
  g3 : findIn K (.ref C) "__getattr__" = some none
  g2 : findIn K (.ref C) "__class__" = some (some (.builtin "object.__class__"))
  sB : subIn K (.ref C) (.type "BaseException") = some true
  sO : subIn K (.ref C) (.type "object") = some true
section
variable {K : PySem.W.Frag} {C : Addr} {prog : Program} {w : World} {A : Around} {E : Value → Shared → Prop} {h : Heap} {g : Array GenState} {d : Drawn} {t : Nat} {os : OsState} {a : Addr} {o : Obj}
theorem xc_get {R : Result → Shared → Prop} (Z : ExcK K C) (X : K.In h) (hx : h.get? a = some o) (hc : o.cls = .ref C) (hq : R (.ok (.ret (.ref C))) ⟨h, g, d, t, os⟩) :
    codeAny (model prog w) A (.call (.builtin "getset_descriptor.__get__") ⟨[.builtin "object.__class__", .ref a, .ref C], []⟩) R ⟨h, g, d, t, os⟩ := by
  have hT5 : (⟨h, g, d, t, os⟩ : Shared).TypeIs (.builtin "object.__class__") "getset_descriptor" := F.typeOf_object_class
  have sO : subIn K (.ref C) (.type (".".intercalate ("object.__class__".cutAt '.').dropLast)) = some true := by rw [F.owner_object_class]; exact Z.sO
  refine codeAny_call_builtin F.slot_gs_get.plain F.entry_gs_get (F.slot_gs_get.check _ _ _ _ _ _ _ _ hT5 (F.args_gs_get _ _ _) ?_)
  repeat (any_goals (first | assumption | (with_reducible refine wpAny_loadPart_at hx ?_; rw [hc]) | with_reducible refine (looks_subIn X sO).at ?_ | wp_step))
  refine ⟨Code.quiet_builtin _ (by decide +kernel), codeAny_builtin F.entry_object_class ?_⟩
  repeat (any_goals (first | assumption | (with_reducible refine wpAny_loadPart_at hx ?_; rw [hc]) | wp_step))
theorem xc_entry {tk : Tok} {Q : Fin → Shared → Prop} (Z : ExcK K C) (X : K.In h) (hx : h.get? a = some o) (hc : o.cls = .ref C) (hq : Q (.done (.ret (.ref C))) ⟨h, g, d, t, os⟩) :
    wpAny (model prog w) A (Builtin.«object.__getattribute__» ⟨[.ref a, .str "__class__" tk], []⟩) Q E ⟨h, g, d, t, os⟩ := by
  have hT5 : (⟨h, g, d, t, os⟩ : Shared).TypeIs (.builtin "object.__class__") "getset_descriptor" := F.typeOf_object_class
  have f5 := F.typeOf_object_class
  have f6 := F.slot_gs_get.lookup
  have f7 := F.slot_gs_set.lookup
  repeat (any_goals (first | assumption | (with_reducible refine wpAny_loadPart_at hx ?_; rw [hc]) | with_reducible refine (looks_findIn X Z.g2).at ?_ | wp_step))
  refine xc_get Z X hx hc ?_
  repeat (any_goals (first | assumption | wp_step))
theorem xc_check {M : Model} {nameV : Value} {Q : Unit → Shared → Prop} (Z : ExcK K C) (X : K.In h) (hx : h.get? a = some o) (hc : o.cls = .ref C) (hq : Q () ⟨h, g, d, t, os⟩) :
    wpAny M A (checkBuiltinCall "BaseException.__getattribute__" ⟨[.ref a, nameV], []⟩) Q E ⟨h, g, d, t, os⟩ := by
  have hk : builtinKind "BaseException.__getattribute__" = some .slot := by decide +kernel
  have hsplit : splitId "BaseException.__getattribute__" = some ("BaseException", "__getattribute__") := by decide +kernel
  have ha := F.args_bexc_ga (.ref a) nameV
  simp only [checkBuiltinCall, hk, hsplit]
  refine wpAny_bind ?_
  · unfold isInstance
    repeat (first | (with_reducible refine wpAny_loadPart_at hx ?_; rw [hc]) | with_reducible refine (looks_subIn X Z.sB).at ?_ | wp_step)
    exact hq
theorem xc_call {tk : Tok} {R : Result → Shared → Prop} (Z : ExcK K C) (X : K.In h) (hx : h.get? a = some o) (hc : o.cls = .ref C) (hq : R (.ok (.ret (.ref C))) ⟨h, g, d, t, os⟩) :
    codeAny (model prog w) A (.call (.builtin "BaseException.__getattribute__") ⟨[.ref a, .str "__class__" tk], []⟩) R ⟨h, g, d, t, os⟩ :=
  codeAny_call_builtin PySem.F.excAttr_ValueError.ga.plain F.entry_bexc_ga (xc_check Z X hx hc (xc_entry Z X hx hc hq))
theorem xc_by {tk : Tok} {Q : Value → Shared → Prop} (Z : ExcK K C) (X : K.In h) (hx : h.get? a = some o) (hc : o.cls = .ref C) (hq : Q (.ref C) ⟨h, g, d, t, os⟩) :
    wpAny (model prog w) A (getAttrBy (.ref a) (.str "__class__" tk) false) Q E ⟨h, g, d, t, os⟩ := by
  have f3 := PySem.F.excAttr_ValueError.ga.bind (.ref a)
  have hx2 : (Value.builtin "BaseException.__getattribute__" == Value.builtin "object.__getattribute__") = false := by decide +kernel
  have hx1 : (onTheHeap (Value.ref C) && Value.builtin "BaseException.__getattribute__" == Value.builtin "object.__getattribute__") = false := by rw [hx2]; rfl
  repeat (any_goals (first | assumption | (with_reducible refine wpAny_loadPart_at hx ?_; rw [hc]) | with_reducible refine (looks_findIn X Z.g1).at ?_ | with_reducible refine (looks_findIn X Z.g3).at ?_ | wp_step))
  refine xc_call Z X hx hc ?_
  repeat (any_goals (first | assumption | wp_step))
theorem xc_attr {Q : Option Value → Shared → Prop} (Z : ExcK K C) (X : K.In h) (hx : h.get? a = some o) (hc : o.cls = .ref C) (hq : Q (some (.ref C)) ⟨h, g, d, t + 1, os⟩) : wpAny (model prog w) A (getAttr? (.ref a) "__class__") Q E ⟨h, g, d, t, os⟩ := by
  unfold getAttr? getAttrBy?
  repeat (any_goals (first | assumption | with_reducible apply xc_by Z X hx hc | wp_step))
end
/-- an exception's object -/
def ExcIs (a C : Addr) (h : Heap) : Prop := ∃ o, h.get? a = some o ∧ o.cls = .ref C
theorem kitx_exc {K : PySem.W.Frag} {a C : Addr} (Z : ExcK K C) : KitX K (.ref a) (.ref C) (ExcIs a C) where
  ty := fun _ _ _ ⟨o, h1, h2⟩ => h2 ▸ (Looks.ld h1).andThen .now
  it := fun _ _ X _ => by
    have hcD := Z.hc
    unfold clsIn at hcD
    split at hcD
    · rename_i c' d' cd' sl' ho
      intro A' Q' E' s' k q
      unfold isType loadHead
      exact wpAny_bind (wpAny_loadPart (k _ _ (X _ _ ho)) (wpAny_pure q))
    · cases hcD
  ne := fun h tp dd its n sl X htp => by
    have hcD := Z.hc
    refine Bool.eq_false_iff.mpr fun q => ?_
    have e : C = tp := Value.ref.inj (beq_iff_eq.mp q)
    subst e
    unfold clsIn at hcD
    split at hcD
    · rename_i c' d' cd' sl' ho
      have z := (X _ _ ho).symm.trans htp
      cases z
    · cases hcD
  ca := fun {_ _ _ _ _ s} X p k => by
    obtain ⟨h, g, d, t, os⟩ := s
    obtain ⟨o, h1, h2⟩ := p
    exact xc_attr Z X h1 h2 k
end L2

set_option Elab.async false
set_option linter.all false
set_option maxRecDepth 100000
set_option maxHeartbeats 4000000
/-! Exceptions of own classes: a try whose handler returns. -/
namespace L2
open PySem PySem.Spec PyProof.Rows PySem.W
section
variable {M : Model} {A : Around} {E : Value → Shared → Prop} {h : Heap} {g : Array GenState} {d : Drawn} {t : Nat} {os : OsState} {e C CR : Addr} {oe : Obj} {K : PySem.W.Frag}
  {nm q : Str} {N : Addr} {bs bm : List Value} {hdct : Bool} {sn : List Str} {sub : List Value} {ab : Bool} {col : Option Bool} {dd : Option Addr} {k0 k1 k2 k3 k5 : Option Value} {newId : String}
theorem xm_sub {Q : Bool → Shared → Prop} (X : K.In h) (hC : h.get? CR = some (excClassObj nm q CR N bs bm hdct sn sub ab col dd k0 k1 k2 k3 k5 newId)) (hbase : bm.contains (.type "BaseException") = true) (he : h.get? e = some oe) (hcls : oe.cls = .ref C)
    (sb : subIn K (.ref C) (.ref CR) = some true) (hq : Q true ⟨h, g, d, t, os⟩) : wpAny M A (excMatches (.ref e) (.ref CR)) Q E ⟨h, g, d, t, os⟩ := by
  have hcB : (Value.ref CR :: bm).contains (.type "BaseException") = true := by rw [List.contains_cons, hbase, Bool.or_true]
  have f := tc_notTuple
  unfold excMatches
  repeat (first | (with_reducible refine wpAny_loadPart_at he ?_; rw [hcls]) | with_reducible refine wpAny_loadPart_at hC ?_ | (with_reducible refine wpAny_isSubtype_exc hC ?_; rw [hcB]) | with_reducible refine (looks_subIn X sb).at ?_ | wp_step)
  exact hq
end
/-- an exception that is held -/
def EO (ea C : Addr) : HO := .ext (ExcIs ea C)
/-- within an except suite -/
def mkX (X : Cx) (ea : Addr) : Cx := { X with A := X.A.mark (some (.ref ea)), calm := false, xe := fun _ _ => False }
def trX (X : Cx) (xe : Value → Shared → Prop) (pn : List (Addr × Obj)) : Cx := { X with xe := xe, pn := pn }
section
variable {X : Cx} {pins : List (Addr × Obj)} {σ : St} {H : Hp} {s : Shared}
theorem inv_mk {ea : Addr} (I : Inv X pins σ H s) : Inv (mkX X ea) pins σ H s :=
  ⟨⟨I.ok.mod, I.ok.kind, I.ok.glob, I.ok.blt, I.ok.above, I.ok.inj, I.ok.has, I.ok.cab, (fun z => nomatch z), I.ok.frames, I.ok.stk, I.ok.exf, I.ok.bs, I.ok.bsz, I.ok.noex, I.ok.exfs, I.ok.funs, I.ok.frf⟩, I.os, I.bare, I.base, I.loc, I.cell, I.free, I.freeC, I.pin, I.hok, I.len⟩
theorem inv_tr {xe : Value → Shared → Prop} (I : Inv X pins σ H s) : Inv (trX X xe (X.pn ++ pins)) [] σ H s :=
  ⟨⟨I.ok.mod, I.ok.kind, I.ok.glob, I.ok.blt, I.ok.above, I.ok.inj, I.ok.has, I.ok.cab, I.ok.hd, I.ok.frames, I.ok.stk, I.ok.exf, I.ok.bs, I.ok.bsz, I.ok.noex, I.ok.exfs, I.ok.funs, I.ok.frf⟩, I.os, I.bare, I.base, I.loc, I.cell, I.free, I.freeC, fun p hp => I.pin p (by simpa [trX] using hp), I.hok, I.len⟩
theorem tr_inv {xe : Value → Shared → Prop} {p1 : List (Addr × Obj)} (k : X.Ok) (I : Inv (trX X xe (X.pn ++ pins)) p1 σ H s) : Inv X pins σ H s :=
  ⟨k, I.os, I.bare, I.base, I.loc, I.cell, I.free, I.freeC, fun p hp => I.pin p (List.mem_append_left _ hp), I.hok, I.len⟩
theorem mk_inv {ea : Addr} (k : X.Ok) (I : Inv (mkX X ea) pins σ H s) : Inv X pins σ H s := ⟨k, I.os, I.bare, I.base, I.loc, I.cell, I.free, I.freeC, I.pin, I.hok, I.len⟩
/-- the handler's name goes; all names are forgotten -/
theorem Inv.name_goes {h' : Heap} {m' : Str → Option Value} {t' : Nat} (I : Inv X pins σ H s) (hn : h'.Ns X.env.locals m') (sb : Heap.SameBut X.env.locals s.heap h') : Inv X pins (List.replicate X.N.length none) H { s with heap := h', toks := t' } := by
  have kp : ∀ b o, b ≠ X.env.locals → s.heap.get? b = some o → h'.get? b = some o := fun b o hb e => (sb.2 b hb).trans e
  have neL : ∀ b o, X.s₀.heap.get? b = some o → b ≠ X.env.locals := fun b o e => Nat.ne_of_lt (Nat.lt_of_lt_of_le (Heap.lt_size e) I.ok.above)
  refine ⟨I.ok, I.os, I.bare, ⟨fun b o e n f x => kp b o (neL b o e) (I.base.keep b o e n f x), fun b o e n f x => ?_, I.base.free, fun b o e x => ?_, I.base.tups, I.base.frzs, I.base.tbls⟩, ⟨m', hn, fun i x v _ e => ?_⟩, fun x c e => ?_, I.free, I.freeC, fun p hp => ?_, fun b u e => ?_, List.length_replicate⟩
  · obtain ⟨sl, z⟩ := I.base.slot b o e n f x
    exact ⟨sl, kp b _ (neL b o e) z⟩
  · obtain ⟨o', z⟩ := I.base.there b o e x
    exact ⟨o', kp b _ (neL b o e) z⟩
  · rw [List.getElem?_replicate] at e
    split at e <;> cases e
  · obtain ⟨v, z⟩ := I.cell x c e
    exact ⟨v, z.sameBut sb (I.cne x c e)⟩
  · obtain ⟨a, b, c, r⟩ := I.pin p hp
    exact ⟨kp _ _ c a, b, c, r⟩
  · have nl : ∀ b u, H b = some u → b ≠ X.env.locals := fun b u e z => by rw [z, I.free] at e; cases e
    refine (I.hok b u e).stay (fun c v hc q => kp c v ?_ q) (fun _ q => q) fun _ _ q => q
    rcases hc with z | z
    · rw [z]; exact nl b u e
    · exact nl c _ z
end
/-- what a handler is asked: the exception ea of the class C, what it is run on -/
def tTry (i : Nat) (Sub : Addr → Prop) (ts : TS) (tb : XK → TS) : TS := fun D σ H =>
  tb (fun cls a H' => ∃ ea C, a = some ea ∧ cls = .ref C ∧ Sub C ∧ ∀ σ', σ'[i]? = some (some (.ref ea)) → ts { nx := fun _ _ => False, rt := D.rt } σ' (upd H' ea (EO ea C))) D σ H
section
variable {P : Program} {w : World} {K : PySem.W.Frag} {mg : Str → Option Value} {base : Heap} {N : List Str} {qual : Str} {scope : Scope} {f : Addr} {cd : Value} {A : Around} {outer : List Env} {s : Shared} {H : Hp} {E : XK} {CX : CXT}
/-- the state behind the refused call, the exception landed in this frame -/
theorem landed {pins : List (Addr × Obj)} {σ : St} {H1 H' : Hp} {s1 s2 : Shared} {ea T C : Addr} {a0 : Value} {h' : Heap} {xe : Value → Shared → Prop} {pn : List (Addr × Obj)}
    (I : Inv (trX (cxOf CX P w K mg base N qual scope f cd A outer s H E) xe pn) pins σ H1 s1) (os : s2.os = s1.os) (bare : AllBare s2.gens) (un : Un (frs (cxOf CX P w K mg base N qual scope f cd A outer s H E).stack) [] H1 H' s1.heap s2.heap) (hok : HOk P w H' s2.heap) (hea : H' ea = none) (hTH : H' T = none) (nea : s1.heap.get? ea = none) (nT : s1.heap.get? T = none)
    (fl : Heap.FlyingW (PySem.W.hideAll s2.heap (ea :: T :: frs (cxOf CX P w K mg base N qual scope f cd A outer s H E).stack)) (cxOf CX P w K mg base N qual scope f cd A outer s H E).stack ea (.ref C) a0 h') (up : s2.heap.UpToSlots h') : Inv (trX (cxOf CX P w K mg base N qual scope f cd A outer s H E) xe pn) pins σ (upd H' ea (EO ea C)) { s2 with heap := h' } := by
  obtain ⟨f1, f2, f3, oe, vs, T', oT, ts, he, hc, hd, r⟩ := fl
  have stk := I.stack
  have sfr : ∀ b ∈ frs (cxOf CX P w K mg base N qual scope f cd A outer s H E).stack, H' b = none := fun b hb => by
    obtain ⟨_, o, ho, _⟩ := stk.mem hb
    exact un.free b o ho (I.stkFree b hb) (by simp)
  have kp : ∀ b o, b ∉ (ea :: T :: frs (cxOf CX P w K mg base N qual scope f cd A outer s H E).stack) → s2.heap.get? b = some o → h'.get? b = some o := fun b o hb e => f1 b o (PySem.W.hideAll_get _ e hb)
  have trk : ∀ b u, H' b = some u → b ∉ (ea :: T :: frs (cxOf CX P w K mg base N qual scope f cd A outer s H E).stack) := fun b u e hb => by
    rcases List.mem_cons.mp hb with z | hb
    · rw [z, hea] at e; cases e
    · rcases List.mem_cons.mp hb with z | hb
      · rw [z, hTH] at e; cases e
      · rw [sfr b hb] at e; cases e
  have ne1 : ∀ b o, s1.heap.get? b = some o → b ≠ ea := fun b o e z => by rw [z, nea] at e; cases e
  have ne2 : ∀ b o, s1.heap.get? b = some o → b ≠ T := fun b o e z => by rw [z, nT] at e; cases e
  have uo : ∀ b, b ≠ ea → upd H' ea (EO ea C) b = H' b := fun b hb => upd_ne hb
  have ue : ∀ b u, H1 b = some u → b ≠ ea := fun b u e => by
    obtain ⟨o, ho⟩ := (I.hok b u e).there
    exact ne1 b o ho
  refine I.call' (s' := { s2 with heap := h' }) (ch := []) os ⟨fun b o e n hb _ => ?_, fun b o e n hb _ => ?_, fun b o e n _ => ?_, fun b o e _ => ?_, fun b xs e => ?_, fun b o u e => ?_, fun b ps e => ?_⟩ (fun b u e => ?_) bare fun b hb => by simp at hb
  · refine kp b o ?_ (un.keep b o e n hb (by simp))
    intro z
    rcases List.mem_cons.mp z with z | z
    · exact ne1 b o e z
    · rcases List.mem_cons.mp z with z | z
      · exact ne2 b o e z
      · exact hb z
  · obtain ⟨sl, e2⟩ := un.slot b o e n hb (by simp)
    obtain ⟨_, o', ho', hnf⟩ := stk.mem hb
    have eo : o = o' := Option.some.inj (e.symm.trans ho')
    subst eo
    obtain ⟨sl', e3⟩ := up b _ e2 (fun ws z => hnf ws z)
    exact ⟨sl', e3⟩
  · rw [uo b (ne1 b o e)]; exact un.free b o e n (by simp)
  · obtain ⟨o', e2⟩ := un.there b o e (by simp)
    by_cases hb : b ∈ frs (cxOf CX P w K mg base N qual scope f cd A outer s H E).stack
    · obtain ⟨_, o4, ho4, hnf⟩ := f3.mem hb
      exact ⟨o4, ho4⟩
    · exact ⟨o', kp b o' (fun z => by
        rcases List.mem_cons.mp z with z | z
        · exact ne1 b o e z
        · rcases List.mem_cons.mp z with z | z
          · exact ne2 b o e z
          · exact hb z) e2⟩
  · rw [uo b (ue b _ e)]; exact un.tups b xs e
  · rw [uo b (ue b _ e)]; exact un.frzs b o u e
  · obtain ⟨more, z⟩ := un.tbls b ps e
    exact ⟨more, by rw [uo b (ue b _ e)]; exact z⟩
  · by_cases hb : b = ea
    · subst hb
      rw [upd_same] at e
      cases e
      exact ⟨⟨oe, he, hc.1⟩, ⟨oe, he⟩, fun h1 h2 ⟨o, z1, z2⟩ k => ⟨o, k o z1, z2⟩⟩
    · rw [uo b hb] at e
      refine (hok b u e).stay (fun c v hc q => kp c v ?_ q) (fun c q => ?_) fun c x q => ?_
      · rcases hc with z | z
        · rw [z]; exact trk b u e
        · exact trk c _ z
      · rw [uo c (fun z => by rw [z, hea] at q; cases q)]; exact q
      · rw [uo c (fun z => by rw [z, hea] at q; cases q)]; exact q
theorem ps_tryR {x n : Str} {i : Nat} {CR : Addr} {body suite : List Stmt} {b₀ : Stmt} {np hpos pos : Pos} {tb : XK → TS} {ts : TS} (hN : (cxOf CX P w K mg base N qual scope f cd A outer s H E).N.Nodup) (hi : (cxOf CX P w K mg base N qual scope f cd A outer s H E).N[i]? = some n) (hl : (cxOf CX P w K mg base N qual scope f cd A outer s H E).env.kindOf n = some .local)
    (Z : Exc K mg x CR) (hg : Gl (cxOf CX P w K mg base N qual scope f cd A outer s H E) x) (hb : ∀ xe pn E', Passes (CX1 P w) (trX (cxOf CX P w K mg base N qual scope f cd A outer s H E) xe pn) E' → PSs (trX (cxOf CX P w K mg base N qual scope f cd A outer s H E) xe pn) body (tb E'))
    (hs : ∀ ea, PSs (mkX (cxOf CX P w K mg base N qual scope f cd A outer s H E) ea) (b₀ :: suite) ts) (hd : (x == ("__debug__" : Str)) = false := by decide) :
    PS (cxOf CX P w K mg base N qual scope f cd A outer s H E) (.Try body [.ExceptHandler (some (.Name x np)) (some n) (b₀ :: suite) hpos] [] [] pos) (tTry i (fun C => subIn K (.ref C) (.ref CR) = some true) ts tb) := by
  intro pins s0 σ H0 D I q
  refine wpAny_Try_except ?_
  refine wpAny_mono (hb (fun e s₁ => wpAny (model P w) (cxOf CX P w K mg base N qual scope f cd A outer s H E).A (noteFrame e (cxOf CX P w K mg base N qual scope f cd A outer s H E).env) (fun _ s₂ => wpAny (model P w) (cxOf CX P w K mg base N qual scope f cd A outer s H E).A (setFlight e none) (fun _ s₃ => wpAny (model P w) (cxOf CX P w K mg base N qual scope f cd A outer s H E).A (handleBy e (cxOf CX P w K mg base N qual scope f cd A outer s H E).env [.ExceptHandler (some (.Name x np)) (some n) (b₀ :: suite) hpos]) (SP (cxOf CX P w K mg base N qual scope f cd A outer s H E) pins D) (cxOf CX P w K mg base N qual scope f cd A outer s H E).xe s₃) (cxOf CX P w K mg base N qual scope f cd A outer s H E).xe s₂) (cxOf CX P w K mg base N qual scope f cd A outer s H E).xe s₁) ((cxOf CX P w K mg base N qual scope f cd A outer s H E).pn ++ pins)
    _ ?_ [] s0 σ H0 D (inv_tr I) q) (fun fl s1 hh => ?_) fun _ _ z => z
  · intro pins1 σ1 H1 s1 e s2 I1 c
    obtain ⟨ea, cls, T, H', rfl, os, bare, un, hok, ⟨a0, oe, vs, oT, ts', he, hc, hd', h1, hTe, hT, hdT, h3⟩, hea, hTH, nea, nT, ea2, C, eae, rfl, hsub, kq⟩ := c
    cases eae
    have stk := I1.stack
    have sfr : ∀ b ∈ frs (cxOf CX P w K mg base N qual scope f cd A outer s H E).stack, b ∈ (ea :: T :: frs (cxOf CX P w K mg base N qual scope f cd A outer s H E).stack) := fun b hb => List.mem_cons_of_mem _ (List.mem_cons_of_mem _ hb)
    have stk2 : s2.heap.FunFrames base (cxOf CX P w K mg base N qual scope f cd A outer s H E).stack := (I1.call' (s' := s2) (ch := []) os un hok bare fun b hb => by simp at hb).stack
    have land : ∀ h', Heap.FlyingW (PySem.W.hideAll s2.heap (ea :: T :: frs (cxOf CX P w K mg base N qual scope f cd A outer s H E).stack)) (cxOf CX P w K mg base N qual scope f cd A outer s H E).stack ea (.ref C) a0 h' → s2.heap.UpToSlots h' → Inv (cxOf CX P w K mg base N qual scope f cd A outer s H E) pins σ1 (upd H' ea (EO ea C)) { s2 with heap := h' } := fun h' fl up =>
      tr_inv I.ok (landed I1 os bare un hok hea hTH nea nT fl up)
    refine wpAny_looks_onW (base := PySem.W.hideAll s2.heap (ea :: T :: frs (cxOf CX P w K mg base N qual scope f cd A outer s H E).stack)) (L := (cxOf CX P w K mg base N qual scope f cd A outer s H E).env.locals) (cls := .ref C) (a0 := a0) I.ok.frames rfl ?_ fun h4 held sm4 => ?_
    · exact ⟨fun b o e => PySem.W.of_hideAll _ e, PySem.W.hideAll_none _ (by simp), hidF sfr stk2, oe, vs, T, oT, ts', he, hc, hd', h1, PySem.W.hideAll_none _ (by simp), hTe, hT, hdT, h3⟩
    refine wpAny_landsW held fun h5 fl5 sm5 => ?_
    have sm25 := sm4.trans sm5
    have J5 := land h5 fl5 sm25
    refine wpAny_handleBy_cons (codeAny_handlers_test (ld_glob (X := mkX (cxOf CX P w K mg base N qual scope f cd A outer s H E) ea) (inv_mk J5) hg Z.m ?_ hd)) (by intro q; cases q)
    obtain ⟨bmB, newId, hx, B, initId, FB⟩ := Z.cl
    obtain ⟨tl, N', nm, q', bs, hdct, sn, sub, ab, col, dd, k0, k1, k2, k3, k5, mN, hC, hN', hni, TT⟩ := own_obj (h := h5) J5.kIn hx
    obtain ⟨ob, hob, hobc⟩ := fl5.there
    refine xm_sub (K := K) J5.kIn hC (TT.hasType FB.hasBase) hob hobc hsub (codeAny_handlers_suite_as ?_)
    refine lands_againW fl5 fun h6 fl6 sm6 => ?_
    have J6 := land h6 fl6 (sm25.trans sm6)
    refine store_ok (X := (cxOf CX P w K mg base N qual scope f cd A outer s H E)) (v := .ref ea) J6 hN hi (.inl hl) rfl (fun s7 J7 => ?_) (.inr hl)
    have hli : i < σ1.length := by rw [I1.len]; exact (List.getElem?_eq_some_iff.mp hi).1
    refine wpAny_mono (hs ea pins s7 _ _ _ (inv_mk J7) (kq _ (by rw [List.getElem?_set_self hli]))) (fun fl s8 h8 => ?_) fun _ _ z => z.elim
    cases fl with
    | ret u =>
      obtain ⟨v, σ8, H8, J8, r8, q8⟩ := h8
      obtain ⟨m8, ns8, _⟩ := J8.loc
      refine wpAny_nameGoes hl ns8 (by rw [I.ok.kind]; rfl) fun h9 m9 ns9 sb9 => ?_
      exact ⟨v, _, H8, (mk_inv I.ok J8).name_goes ns9 sb9, r8, q8⟩
    | next => obtain ⟨_, _, _, z⟩ := h8; exact z.elim
    | brk => obtain ⟨_, _, _, z⟩ := h8; exact z.elim
    | cont => obtain ⟨_, _, _, z⟩ := h8; exact z.elim
  · cases fl with
    | next =>
      obtain ⟨σ', H', I', d⟩ := hh
      exact pss_nil pins s1 σ' H' D (tr_inv I.ok I') d
    | brk => obtain ⟨σ', H', I', d⟩ := hh; exact ⟨σ', H', tr_inv I.ok I', d⟩
    | cont => obtain ⟨σ', H', I', d⟩ := hh; exact ⟨σ', H', tr_inv I.ok I', d⟩
    | ret u => obtain ⟨v, σ', H', I', r, d⟩ := hh; exact ⟨v, σ', H', tr_inv I.ok I', r, d⟩
end
end L2

set_option Elab.async false
set_option linter.all false
set_option maxRecDepth 100000
set_option maxHeartbeats 4000000
/-! Exceptions of own classes: isinstance, lists of bools, calls within an except suite. -/
namespace L2
open PySem PySem.Spec PyProof.Rows PySem.W
/-- a class as a value -/
def cV : V → Value
  | .ref D => .ref D
  | .ty T => .type T
  | _ => .none
/-- isinstance(e, c) of an exception that is held -/
def rIsX (K : PySem.W.Frag) : List V → Hp → VK → Prop := fun xs H Q => ∃ ea c C b, xs = [.ref ea, c] ∧ H ea = some (EO ea C) ∧ ExcK K C ∧ kitOne K (.ref C) (cV c) = some b ∧ Q (.bl b) H
section
variable {X : Cx} {H : Hp} {Q : VK} {K : PySem.W.Frag}
theorem call_isX (K : PySem.W.Frag) (hK : X.K = K) : CallR X (.builtin "isinstance") (rIsX K) := by
  subst hK
  intro pins s σ H xs us Q I r h
  obtain ⟨ea, c, C, b, rfl, hE, Z, e, q⟩ := h
  obtain ⟨u, w', rfl, r1, r2⟩ := vals2 r
  cases r1
  have p : ExcIs ea C s.heap := (show ObjOk X.prog X.w H s.heap ea (EO ea C) from I.hok ea _ hE).1
  have hw : w' = cV c := by
    cases c with
    | ref D => exact r2
    | ty T => exact r2
    | _ =>
      exfalso
      unfold kitOne cV at e
      rw [if_neg (by simp)] at e
      cases e
  subst hw
  exact kia_one (kitx_exc Z) I.kIn p e (fun z => nomatch z) fun tk => ⟨.bl b, H, I.tok tk, rfl, q⟩
theorem flat_bls (bs : List Bool) : (bs.map V.bl).all flatV = true := by
  rw [List.all_eq_true]
  intro v hv
  obtain ⟨l, _, rfl⟩ := List.mem_map.mp hv
  rfl
theorem countP_bls : ∀ {bs : List Bool} {us : List Value}, Vals (bs.map V.bl) us → us.countP (eqU (.bl true)) = bs.countP id
  | [], _, .nil => rfl
  | b :: bs, _, .cons r t => by
    rw [List.countP_cons, List.countP_cons, countP_bls t, eqU_of r rfl]
    cases b <;> rfl
def rCntB (K : PySem.W.Frag) : V → List V → Hp → VK → Prop := fun x vs H Q => ∃ p, ∃ bs : List Bool, x = .ref p ∧ vs = [.bl true] ∧ SqL K H p (bs.map V.bl) ∧ Q (.int (bs.countP id : Nat)) H
theorem mt_countB (K : PySem.W.Frag) (hK : X.K = K) : MtR X "list.count" (rCntB K) := by
  subst hK
  intro pins s σ H x xs v us Q I rx rs h
  obtain ⟨p, bs, rfl, rfl, hq, q⟩ := h
  cases rx
  obtain ⟨u, rfl, ru⟩ := vals1 rs
  obtain ⟨its, rv, pl, hz⟩ := I.list hq
  obtain ⟨o, ho, hc, n, hd⟩ := pl.isList
  obtain ⟨oc, odd, odt, osl⟩ := o
  simp only at hc hd
  subst hc; subst hd
  refine call_meets PySem.F.slot_list_count ⟨_, ho, rfl⟩ PySem.F.entry_list_count (PySem.F.args_list_count_2 _ _) (SeqAt.list_countAt p its.toArray n odd osl u (eqU (.bl true))) ⟨ho, fun y hy => mem_eqAt ru rfl rv (flat_bls bs) y (by simpa using hy), ?_⟩
  rw [show its.toArray.toList = its from rfl, countP_bls rv]
  exact ⟨.int _, H, I.tok _, ⟨_, rfl⟩, q⟩
def rIdxB (K : PySem.W.Frag) : V → List V → Hp → VK → Prop := fun x vs H Q => ∃ p j, ∃ bs : List Bool, x = .ref p ∧ vs = [.bl true] ∧ SqL K H p (bs.map V.bl) ∧ bs[j]? = some true ∧ (∀ m, m < j → bs[m]? = some false) ∧ Q (.int (j : Nat)) H
theorem mt_indexB (K : PySem.W.Frag) (hK : X.K = K) : MtR X "list.index" (rIdxB K) := by
  subst hK
  intro pins s σ H x xs v us Q I rx rs h
  obtain ⟨p, j, bs, rfl, rfl, hq, hj, hlt, q⟩ := h
  cases rx
  obtain ⟨u, rfl, ru⟩ := vals1 rs
  obtain ⟨its, rv, pl, hz⟩ := I.list hq
  have hl := rv.length
  rw [List.length_map] at hl
  rw [List.length_map, sizeLine_eq] at hz
  have hjl := (List.getElem?_eq_some_iff.mp hj).1
  obtain ⟨o, ho, hc, n, hd⟩ := pl.isList
  obtain ⟨oc, odd, odt, osl⟩ := o
  simp only at hc hd
  subst hc; subst hd
  have item : ∀ m b (h1 : m < its.toArray.size), bs[m]? = some b → eqU (.bl true) its.toArray[m] = (b == true) := fun m b h1 h2 => by
    have h3 : m < its.length := by rw [List.size_toArray] at h1; exact h1
    have e1 : its[m]? = some its.toArray[m] := by rw [List.getElem?_eq_getElem h3]; rfl
    obtain ⟨x, hx, r⟩ := vals_at rv e1
    rw [List.getElem?_map, h2] at hx
    cases hx
    rw [eqU_of r rfl]; rfl
  refine call_meets PySem.F.slot_list_index ⟨_, ho, rfl⟩ PySem.F.entry_list_index (PySem.F.args_list_index_2 _ _)
    (SeqAt.list_indexAt p its.toArray n odd osl u (eqU (.bl true)) j (by rw [List.size_toArray]; (first | lia | omega)) (by (first | lia | omega)) ?_ ?_) ⟨ho, fun y hy => mem_eqAt ru rfl rv (flat_bls bs) y (by simpa using hy), ?_⟩
  · rw [item _ _ _ hj]; rfl
  · intro m h1 h2
    rw [item m _ h1 (hlt m h2)]; rfl
  · exact ⟨.int _, H, I.tok _, ⟨_, rfl⟩, q⟩
end
/-! ### calls within an except suite -/
structure RoomM (k : Nat) (A : Around) : Prop where
  dp : A.depth + 3 * k + 5 < recursionLimit
  un : A.units + 16 * k + 200 < cLine
theorem Room.toM {k : Nat} {A : Around} (r : Room k A) (x : Option Value) : RoomM k (A.mark x) := ⟨r.dp, r.un⟩
theorem RoomM.deeper {k : Nat} {A : Around} (r : RoomM (k + 1) A) (env : Env) : RoomM k (A.deeper env) :=
  ⟨by have := r.dp; show A.depth + 1 + 3 * k + 5 < _; (first | lia | omega), by have := r.un; show A.units + 3 + 16 * k + 200 < _; (first | lia | omega)⟩
theorem RoomM.mono {j k : Nat} {A : Around} (r : RoomM k A) (h : j ≤ k) : RoomM j A := ⟨by have := r.dp; (first | lia | omega), by have := r.un; (first | lia | omega)⟩
structure FnOkM (P : Program) (w : World) (K : PySem.W.Frag) (mg : Str → Option Value) (base : Heap) (k : Nat) (f : Addr) (fd : FuncData) (ps : List Str) (sp : Sp) : Prop where
  len : ∀ vs H Q E, sp vs H Q E → vs.length = ps.length
  run : ∀ (A : Around) (outer : List Env) (s : Shared) (H : Hp) (args : Args) (us : List Value) (vs : List V) (Q : VK) (E : XK), RoomM k A → Env0 P w K mg base A outer s H → BindsTo s fd args (ps.zip us) → Vals vs us → sp vs H Q E →
    codeAny (model P w) A (.call (.ref f) args) (CR CX0 outer P w H s Q E) s
/-- the context of a def that is called within an except suite -/
def cxM (P : Program) (w : World) (K : PySem.W.Frag) (mg : Str → Option Value) (base : Heap) (N : List Str) (qual : Str) (scope : Scope) (f : Addr) (cd : Value) (A : Around) (outer : List Env) (s : Shared) (H : Hp) : Cx :=
  { cxOf CX0 P w K mg base N qual scope f cd A outer s H E0 with calm := false, xe := fun _ _ => False }
theorem inv_startM {P : Program} {w : World} {K : PySem.W.Frag} {mg : Str → Option Value} {base : Heap} {N ps : List Str} {qual : Str} {scope : Scope} {f : Addr} {cd : Value} {A : Around} {outer : List Env} {s s1 : Shared} {H : Hp} {us : List Value} {vs : List V}
    (S : FnScope N ps scope) (e0 : Env0 P w K mg base A outer s H) (hl : vs.length = ps.length) (r : Vals vs us)
    (x : InCallC s s.heap.objs.size (bindL (envOfC qual scope s.heap.objs.size f cd).kindOf (ps.zip us) fun _ => none) (cellsFrom (s.heap.objs.size + 1) scope.names []) (bindC (envOfC qual scope s.heap.objs.size f cd).kindOf (ps.zip us) fun _ => none) s1) :
    Inv (cxM P w K mg base N qual scope f cd A outer s H) [] (start N vs) H s1 := by
  have e1 : Env0 P w K mg base { A with handled := none } outer s H := ⟨e0.frames, e0.mod, e0.bs, e0.bsz, e0.funs, e0.frf, e0.hok, e0.bare⟩
  have I : Inv (cxOf CX0 P w K mg base N qual scope f cd { A with handled := none } outer s H E0) [] (start N vs) H s1 := inv_start S rfl e1 hl r x
  exact ⟨⟨I.ok.mod, I.ok.kind, I.ok.glob, I.ok.blt, I.ok.above, I.ok.inj, I.ok.has, I.ok.cab, (fun z => nomatch z), Around.frames_deeper e0.frames, I.ok.stk, I.ok.exf, I.ok.bs, I.ok.bsz, I.ok.noex, I.ok.exfs, I.ok.funs, I.ok.frf⟩, I.os, I.bare, I.base, I.loc, I.cell, I.free, I.freeC, I.pin, I.hok, I.len⟩
theorem fn_ofM {P : Program} {w : World} {K : PySem.W.Frag} {mg : Str → Option Value} {base : Heap} {k : Nat} {f : Addr} {name qual : Str} {params : Arguments} {body : List Stmt} {scope : Scope} {dV kV doc pm cdv ct oc : Value} {an od : Option Addr}
    {osl : Array (Option Value)} {N ps : List Str} {sp : Sp} (lk : K.lookup f = some ⟨oc, od, .func (PySem.W.fnOf name qual params body scope dV kV doc pm an cdv ct), osl⟩) (hcd : PySem.W.codeIn K cdv qual = true) (S : FnScope N ps scope)
    (len : ∀ vs H Q E, sp vs H Q E → vs.length = ps.length)
    (hbody : ∀ (A : Around) (outer : List Env) (s : Shared) (H : Hp) (vs : List V) (Q : VK) (E : XK), RoomM k (A.deeper (envOfC qual scope s.heap.objs.size f cdv)) → sp vs H Q E →
      ∃ t, PSs (cxM P w K mg base N qual scope f cdv A outer s H) body t ∧ t { nx := fun _ H' => Q .non H', rt := Q } (start N vs) H) :
    FnOkM P w K mg base (k + 1) f (PySem.W.fnOf name qual params body scope dV kV doc pm an cdv ct) ps sp := by
  refine ⟨len, fun A outer s H args us vs Q E hr e0 hb r hsp => ?_⟩
  have hl := len _ _ _ _ hsp
  have KX : K.In s.heap := e0.mod.kin.keeps fun b o e => (e0.bs b o e).1
  have lim : s.heap.NoLimit := e0.mod.nolimit.keeps fun b o e => (e0.bs b o e).1
  have hkind : ∀ y ∈ ps.zip us, scope.names.lookup y.1 = some .local ∨ (scope.names.lookup y.1 = some .cell ∧ ((cellsFrom (s.heap.objs.size + 1) scope.names []).lookup y.1).isSome = true) := fun ⟨n, v⟩ hy => by
    rcases S.par n (List.of_mem_zip hy).1 with q | q
    · exact .inl q
    · exact .inr ⟨q, PySem.W.cellsFrom_some _ _ _ (.inl q)⟩
  refine codeAny_call_function (by have := hr.dp; (first | lia | omega)) (KX _ _ lk) rfl S.co S.gen rfl (PySem.W.codeRec_of KX hcd) (hb _ _ _ _ ?_)
  refine wpAny_newFunctionEnv_cells S.kind hkind fun env he s1 x => ?_
  subst he
  refine ⟨lim.keeps x.toInCall.keep, codeAny_func ?_⟩
  obtain ⟨t, ht, hq⟩ := hbody A outer s H vs Q E (hr.deeper _) hsp
  have I : Inv (cxM P w K mg base N qual scope f cdv A outer s H) [] (start N vs) H s1 := inv_startM S e0 hl r x
  refine wpAny_mono (ht [] s1 (start N vs) H _ I hq) (fun fl s' hs => ?_) fun e s' hs => hs.elim
  have fin : ∀ {σ' : St} {H' : Hp} {v : V} {u : Value}, Inv (cxM P w K mg base N qual scope f cdv A outer s H) [] σ' H' s' → RelV v u → Q v H' → CE outer P w H s Q u s' :=
    fun {σ' H' v u} J rv q => ⟨v, H', J.os, J.bare, J.base, J.hok, rv, q⟩
  cases fl with
  | ret u =>
    obtain ⟨v, σ', H', J, rv, q⟩ := hs
    exact fin J rv q
  | next =>
    obtain ⟨σ', H', J, q⟩ := hs
    exact fin (v := V.non) (u := Value.none) J rfl q
  | brk =>
    obtain ⟨_, _, _, q⟩ := hs
    exact False.elim q
  | cont =>
    obtain ⟨_, _, _, q⟩ := hs
    exact False.elim q
section
variable {P : Program} {w : World} {K : PySem.W.Frag} {mg : Str → Option Value} {base : Heap}
theorem Fun.okM {x qual : Str} {st : Stmt} {f : Addr} {fd : FuncData} {N ps : List Str} {k : Nat} {sp : Sp} (F : Fun K x qual st f fd) (S : FnScope N ps (defScope st)) (len : ∀ vs H Q E, sp vs H Q E → vs.length = ps.length)
    (hbody : ∀ (cdv : Value) (A : Around) (outer : List Env) (s : Shared) (H : Hp) (vs : List V) (Q : VK) (E : XK), RoomM k (A.deeper (envOfC qual (defScope st) s.heap.objs.size f cdv)) → sp vs H Q E →
      ∃ t, PSs (cxM P w K mg base N qual (defScope st) f cdv A outer s H) (defBody st) t ∧ t { nx := fun _ H' => Q .non H', rt := Q } (start N vs) H) : FnOkM P w K mg base (k + 1) f fd ps sp := by
  obtain ⟨oc, od, kV, doc, pm, an, cdv, ct, osl, rfl, lk, hcd⟩ := F.ex
  exact fn_ofM lk hcd S len fun A outer s H vs Q E hr hsp => hbody cdv A outer s H vs Q E hr hsp
structure DfM (P : Program) (w : World) (K : PySem.W.Frag) (mg : Str → Option Value) (base : Heap) (x : Str) (k : Nat) (f : Addr) (fd : FuncData) (ps : List Str) (sp : Sp) : Prop where
  ok : FnOkM P w K mg base k f fd ps sp
  m : mg x = some (.ref f)
  kp : PySem.W.keepIn K (.ref f) = true
  b : Binds K fd ps []
end
theorem pe_callM {X : Cx} {x : Str} {k k' : Nat} {f : Addr} {fd : FuncData} {ps : List Str} {sp : Sp} {p pos : Pos} {e : Expr} {es : List Expr} {t : TA} (D : DfM X.prog X.w X.K X.mg X.base x k f fd ps sp) (hr : RoomM k' X.A) (hg : Gl X x) (ha : PA X (e :: es) t) (hk : k ≤ k')
    (hdb : (x == ("__debug__" : Str)) = false) (he : starEach (e :: es) X.env = (false, eval e X.env) :: starEach es X.env) (hpl : (backTo pos (starEach es X.env)).any (·.1) = false) :
    PE X (.Call (.Name x p) (e :: es) [] pos) (tCall sp [] E0 t) := by
  intro pins s σ H Q I h
  refine wpAny_Call_Name_kw (ld_glob I hg D.m ?_ hdb)
  refine PySem.W.callWith_K (h₀ := X.base) I.ok.mod.kin D.kp (thn (ha pos pins s σ H _ I h) fun us s1 ⟨vs, H1, I1, r, q⟩ => ⟨I1.kIn, ?_⟩) he hpl
  have q' : sp vs H1 Q E0 := by have z : sp (vs ++ []) H1 Q E0 := q; rw [List.append_nil] at z; exact z
  have hl : us.length = ps.length := by rw [← r.length]; exact D.ok.len _ _ _ _ q'
  refine wpAny_call (codeAny_mono (D.ok.run X.A X.stack s1 H1 ⟨us, []⟩ us vs Q E0 (hr.mono hk) I1.env0 (by have := D.b s1 us I1.kIn (by rw [List.append_nil]; exact hl); rw [List.append_nil] at this; exact this) r q') fun r s' hq => ?_)
  cases r with
  | error e => exact hq.elim
  | ok fl =>
    cases fl with
    | ret u => exact I1.after hq
    | next => exact False.elim hq
    | brk => exact False.elim hq
    | cont => exact False.elim hq
/-- two promises of one def -/
theorem FnOk.or {P : Program} {w : World} {K : PySem.W.Frag} {mg : Str → Option Value} {base : Heap} {CX : CXT} {k : Nat} {f : Addr} {fd : FuncData} {ps : List Str} {sp sp' : Sp} (F : FnOk P w K mg base CX k f fd ps sp) (G : FnOk P w K mg base CX k f fd ps sp') :
    FnOk P w K mg base CX k f fd ps (fun vs H Q E => sp vs H Q E ∨ sp' vs H Q E) :=
  ⟨fun vs H Q E h => h.elim (F.len vs H Q E) (G.len vs H Q E), fun A outer s H args us vs Q E hr he hb hv hs => hs.elim (F.run A outer s H args us vs Q E hr he hb hv) (G.run A outer s H args us vs Q E hr he hb hv)⟩
end L2

set_option Elab.async false
set_option linter.all false
set_option maxRecDepth 100000
set_option maxHeartbeats 4000000
/-! The refusals' classes; defs that refuse. -/
namespace L2
open PySem PySem.Spec PyProof.Rows PySem.W
def bmV : List Value := [.type "ValueError", .type "Exception", .type "BaseException", .type "object"]
def x1In (K : PySem.W.Frag) (cR c : Addr) : Bool := (clsIn K c).isSome && findIn K (.ref c) "__getattribute__" == some (some (.builtin "BaseException.__getattribute__")) && findIn K (.ref c) "__getattr__" == some none
  && findIn K (.ref c) "__class__" == some (some (.builtin "object.__class__")) && subIn K (.ref c) (.type "BaseException") == some true && subIn K (.ref c) (.type "object") == some true
  && subIn K (.ref c) (.ref cR) == some true && kitOne K (.ref c) (.type "ValueError") == some true && excIn K c bmV "ValueError.__new__"
def xcIn (K : PySem.W.Frag) (cs : List Addr) (cR : Addr) : Bool := cs.all (x1In K cR) && excIn K cR bmV "ValueError.__new__" && (cs.zipIdx.all fun x => cs.zipIdx.all fun y => kitOne K (.ref x.1) (.ref y.1) == some (x.2 == y.2))
/-- the classes: NoDie, NoWord, NoRace, NoRow, Over, TooMany, NoNote; RaceError -/
structure Xc (K : PySem.W.Frag) (mg : Str → Option Value) (c : Nat → Addr) : Prop where
  m0 : mg "NoDie" = some (.ref (c 0))
  m1 : mg "NoWord" = some (.ref (c 1))
  m2 : mg "NoRace" = some (.ref (c 2))
  m3 : mg "NoRow" = some (.ref (c 3))
  m4 : mg "Over" = some (.ref (c 4))
  m5 : mg "TooMany" = some (.ref (c 5))
  m6 : mg "NoNote" = some (.ref (c 6))
  m7 : mg "RaceError" = some (.ref (c 7))
  ex : ∀ j, j < 8 → excIn K (c j) bmV "ValueError.__new__" = true
  k : ∀ j, j < 7 → ExcK K (c j)
  sb : ∀ j, j < 7 → subIn K (.ref (c j)) (.ref (c 7)) = some true
  iv : ∀ j, j < 7 → kitOne K (.ref (c j)) (.type "ValueError") = some true
  ix : ∀ i j, i < 7 → j < 7 → kitOne K (.ref (c i)) (.ref (c j)) = some (i == j)
theorem Xc.e {K : PySem.W.Frag} {mg : Str → Option Value} {c : Nat → Addr} (Y : Xc K mg c) (j : Nat) (hj : j < 8) {x : Str} (h : mg x = some (.ref (c j))) : Exc K mg x (c j) :=
  ⟨h, bmV, _, Y.ex j hj, _, _, PySem.F.excBase_ValueError⟩
theorem xc_of {K : PySem.W.Frag} {mg : Str → Option Value} {a0 a1 a2 a3 a4 a5 a6 a7 : Addr} (h : xcIn K [a0, a1, a2, a3, a4, a5, a6] a7 = true) (m0 : mg "NoDie" = some (.ref a0)) (m1 : mg "NoWord" = some (.ref a1)) (m2 : mg "NoRace" = some (.ref a2)) (m3 : mg "NoRow" = some (.ref a3))
    (m4 : mg "Over" = some (.ref a4)) (m5 : mg "TooMany" = some (.ref a5)) (m6 : mg "NoNote" = some (.ref a6)) (m7 : mg "RaceError" = some (.ref a7)) : ∃ c, Xc K mg c := by
  unfold xcIn at h
  rw [Bool.and_eq_true, Bool.and_eq_true] at h
  obtain ⟨⟨h1, h2⟩, h3⟩ := h
  rw [List.all_eq_true] at h1 h3
  let l := [a0, a1, a2, a3, a4, a5, a6]
  have hl : ∀ j, j < 7 → [a0, a1, a2, a3, a4, a5, a6, a7].getD j 0 ∈ l := fun j hj => by
    match j, hj with
    | 0, _ => simp [l]
    | 1, _ => simp [l]
    | 2, _ => simp [l]
    | 3, _ => simp [l]
    | 4, _ => simp [l]
    | 5, _ => simp [l]
    | 6, _ => simp [l]
  have hz : ∀ j, j < 7 → ([a0, a1, a2, a3, a4, a5, a6, a7].getD j 0, j) ∈ l.zipIdx := fun j hj => by
    match j, hj with
    | 0, _ => simp [l]
    | 1, _ => simp [l]
    | 2, _ => simp [l]
    | 3, _ => simp [l]
    | 4, _ => simp [l]
    | 5, _ => simp [l]
    | 6, _ => simp [l]
  have h1' : ∀ j, j < 7 → x1In K a7 ([a0, a1, a2, a3, a4, a5, a6, a7].getD j 0) = true := fun j hj => h1 _ (hl j hj)
  refine ⟨fun j => [a0, a1, a2, a3, a4, a5, a6, a7].getD j 0, m0, m1, m2, m3, m4, m5, m6, m7, fun j hj => ?_, fun j hj => ?_, fun j hj => ?_, fun j hj => ?_, fun i j hi hj => ?_⟩
  · by_cases h7 : j < 7
    · have z := h1' j h7
      unfold x1In at z
      rw [Bool.and_eq_true] at z
      exact z.2
    · obtain rfl : j = 7 := by (first | lia | omega)
      exact h2
  all_goals first
    | (have z := h1' j hj
       unfold x1In at z
       simp only [Bool.and_eq_true, beq_iff_eq] at z
       obtain ⟨⟨⟨⟨⟨⟨⟨⟨z1, z2⟩, z3⟩, z4⟩, z5⟩, z6⟩, z7⟩, z8⟩, z9⟩ := z
       first | exact ⟨z1, z2, z3, z4, z5, z6⟩ | exact z7 | exact z8)
    | skip
  have z := h3 _ (hz i hi)
  rw [List.all_eq_true] at z
  exact beq_iff_eq.mp (z _ (hz j hj))
/-- what a refusal is called -/
def kindT (j : Nat) : List Nat := [[100, 105, 101], [119, 111, 114, 100], [114, 97, 99, 101], [114, 111, 119], [111, 118, 101, 114], [109, 97, 110, 121], [110, 111, 116, 101]].getD j []
theorem boot_ValueError : bootBuiltins "ValueError" = some (.type "ValueError") := by decide +kernel
section
variable {P : Program} {w : World} {K : PySem.W.Frag} {mg : Str → Option Value} {base : Heap} {CX : CXT}
theorem Fun.okG {x qual : Str} {st : Stmt} {f : Addr} {fd : FuncData} {N ps : List Str} {k : Nat} {sp : Sp} (F : Fun K x qual st f fd) (S : FnScope N ps (defScope st)) (len : ∀ vs H Q E, sp vs H Q E → vs.length = ps.length)
    (hbody : ∀ (cdv : Value) (A : Around) (outer : List Env) (s : Shared) (H : Hp) (vs : List V) (Q : VK) (E : XK), Room k (A.deeper (envOfC qual (defScope st) s.heap.objs.size f cdv)) → sp vs H Q E →
      ∃ t, PSs (cxOf CX P w K mg base N qual (defScope st) f cdv A outer s H E) (defBody st) t ∧ t { nx := fun _ H' => Q .non H', rt := Q } (start N vs) H) : FnOk P w K mg base CX (k + 1) f fd ps sp := by
  obtain ⟨oc, od, kV, doc, pm, an, cdv, ct, osl, rfl, lk, hcd⟩ := F.ex
  exact fn_of lk hcd S len fun A outer s H vs Q E hr hsp => hbody cdv A outer s H vs Q E hr hsp
end
theorem g_try {i : Nat} {Sub : Addr → Prop} {ts : TS} {tb : XK → TS} {D : Ends} {σ : St} {H : Hp}
    (h : tb (fun cls a H' => ∃ ea C, a = some ea ∧ cls = .ref C ∧ Sub C ∧ ∀ σ', σ'[i]? = some (some (.ref ea)) → ts { nx := fun _ _ => False, rt := D.rt } σ' (upd H' ea (EO ea C))) D σ H) : tTry i Sub ts tb D σ H := h
section
variable {X : Cx} {H : Hp} {Q : VK} {K : PySem.W.Frag} {mg : Str → Option Value} {c : Nat → Addr}
theorem g_isX {ea : Addr} {i j : Nat} (Y : Xc K mg c) (h : H ea = some (EO ea (c i))) (hi : i < 7) (hj : j < 7) (k : Q (.bl (i == j)) H) : rIsX K [.ref ea, .ref (c j)] H Q := ⟨ea, _, c i, _, rfl, h, Y.k i hi, Y.ix i j hi hj, k⟩
theorem g_isV {ea : Addr} {i : Nat} (Y : Xc K mg c) (h : H ea = some (EO ea (c i))) (hi : i < 7) (k : Q (.bl true) H) : rIsX K [.ref ea, .ty "ValueError"] H Q := ⟨ea, _, c i, _, rfl, h, Y.k i hi, Y.iv i hi, k⟩
end
end L2

set_option Elab.async false
set_option linter.all false
set_option maxRecDepth 100000
set_option maxHeartbeats 4000000
/-! What is refused, and by which class. -/
namespace My
open PySem L2 PySem.Spec PyProof.Rows Wr
/-- no race: the class's number -/
def RaceBad (ns : List Int) (ws : List (List Nat)) (j : Nat) : Prop := (j = 0 ∧ ¬ DieOk ns) ∨ (j = 1 ∧ DieOk ns ∧ (∀ l ∈ ws, l.length ≤ 1000) ∧ ∃ l ∈ ws, ¬ WordOk ns.length l) ∨
  (j = 2 ∧ DieOk ns ∧ (∀ l ∈ ws, WordOk ns.length l) ∧ ws.length ≤ 1000 ∧ (ws.length < 1 ∨ 4 < ws.length ∨ ∃ p, ∃ hp : p < ws.length, ((others ws p).any fun o => within ws[p] o) = true))
/-- no die, no word -/
def WordBad (ns : List Int) (l : List Nat) (j : Nat) : Prop := (j = 0 ∧ ¬ DieOk ns) ∨ (j = 1 ∧ DieOk ns ∧ l.length ≤ 1000 ∧ ¬ WordOk ns.length l)
/-- the first word that is none -/
theorem first_bad {n : Nat} {ws : List (List Nat)} (h : ∃ l ∈ ws, ¬ WordOk n l) : ∃ i, ∃ hi : i < ws.length, ¬ WordOk n ws[i] ∧ ∀ k (hk : k < i), WordOk n (ws[k]'(Nat.lt_trans hk hi)) := by
  obtain ⟨l, hl, hb⟩ := h
  induction ws with
  | nil => cases hl
  | cons w r ih =>
    by_cases hw : WordOk n w
    · have hr : l ∈ r := by
        rcases List.mem_cons.mp hl with z | z
        · rw [z] at hb; exact absurd hw hb
        · exact z
      obtain ⟨i, hi, a, b⟩ := ih hr
      refine ⟨i + 1, by simpa using hi, by simpa using a, fun k hk => ?_⟩
      cases k with
      | zero => exact hw
      | succ k => exact b k (by (first | lia | omega))
    · exact ⟨0, by simp, by simpa using hw, fun k hk => by (first | lia | omega)⟩
end My


set_option Elab.async false
set_option linter.all false
set_option maxRecDepth 100000
set_option maxHeartbeats 4000000
namespace My
open PySem L2 PySem.Spec PyProof.Rows Wr
/-! no twin is laid for what follows: it would be large -/
def _root_.PySem.W.Fast.tw17597698585992801336 : Unit := ()
def _root_.PySem.W.Fast.tw16311414623719742603 : Unit := ()
def _root_.PySem.W.Fast.tw14056597865454311100 : Unit := ()
def _root_.PySem.W.Fast.tw2342683802359543308 : Unit := ()
def _root_.PySem.W.Fast.tw3800918069330540559 : Unit := ()
def _root_.PySem.W.Fast.tw4811898525352003393 : Unit := ()
def _root_.PySem.W.Fast.tw2161886849381265743 : Unit := ()
def _root_.PySem.W.Fast.tw10188664276887427309 : Unit := ()
def _root_.PySem.W.Fast.tw9155753096551703197 : Unit := ()
def _root_.PySem.W.Fast.tw12620938188138734943 : Unit := ()
def _root_.PySem.W.Fast.tw15829706298245834259 : Unit := ()
noncomputable def twP : (G : Str → Str → Str → Str → Str → Str → Str → Str → Str → Str → Str → Str → Str → Str → Str → Str → Str → Str → Str → Str → Str → Str → Str → Str → Str → Str → Str → Str → Str → Str → Str → Str → Str → Str → Str → Str → Str → Str → Str → Str → Str → Str → Str → Str → Str → Str → Str → Str → Str → Str → Str → Str → Str → Str → Str → Str → Str → Str → Str → Str → Str → Str → Str → Str → Str → Str → Str → Str → Str → Str → Str → Str → Str → Str → Str → Str → Str → Str → Str → Str → Str → Str → Str → Str → Str → Str → Str → Str → Str → Str → Str → Str → Str → Str → Str → Str → Str → Str → Str → Str → Str → Str → Str → Str → Str → Str → Str → Str → Str → Str → Str → Str → Str → Str → Str → Str → Str → Str → Str → Str → Str → Str → Str → Str → Str → Str → Str → Str → Str → Str → Str → Str → Str → Str → Str → Str → Str → Str → Str → Str → Str → Str → Str → Str → Str → Str → Str → Str → Str → Str → Str → Str → Str → Str → Str → Str → Str → Str → Str → Str → Str → Str → Str → Str → Str → Str → Str → Str → Str →  Program) ×' (PySem.Challenge.pw_wordrace_k16_no_race = G (Str.ofString "__name__") (Str.ofString "wordrace.errors") (Str.ofString "RaceError") (Str.ofString "ValueError") (Str.ofString "NoDie") (Str.ofString "NoWord") (Str.ofString "NoRace") (Str.ofString "NoRow") (Str.ofString "Over") (Str.ofString "TooMany") (Str.ofString "NoNote") (Str.ofString "wordrace.parts") (Str.ofString "SIGNS") (Str.ofString "abcd") (Str.ofString "LEAST_WEIGHTS") (Str.ofString "MOST_WEIGHTS") (Str.ofString "LEAST_WEIGHT") (Str.ofString "MOST_WEIGHT") (Str.ofString "MOST_SIGNS") (Str.ofString "MOST_WORDS") (Str.ofString "MOST_THROWS") (Str.ofString "signs_of") (Str.ofString "die") (Str.ofString "len") (Str.ofString "is_thrown") (Str.ofString "text") (Str.ofString "signs") (Str.ofString "all") (Str.ofString "sign") (Str.ofString ".0") (Str.ofString "fast") (Str.ofString "check_die") (Str.ofString "a die has 2 to 4 weights") (Str.ofString "min") (Str.ofString "max") (Str.ofString "a weight is a number from 1 to 9") (Str.ofString "check_word") (Str.ofString "word") (Str.ofString "a word has 1 to 6 signs") (Str.ofString "a word has signs of its die alone") (Str.ofString "stands_within_another") (Str.ofString "words") (Str.ofString "place") (Str.ofString "others") (Str.ofString "any") (Str.ofString "other") (Str.ofString "check_race") (Str.ofString "a race has 1 to 4 words") (Str.ofString "range") (Str.ofString "no word of a race stands within another one") (Str.ofString "check_row") (Str.ofString "row") (Str.ofString "a row has at most 60 signs") (Str.ofString "a row has signs of its die alone") (Str.ofString "beginnings_of") (Str.ofString "texts") (Str.ofString "") (Str.ofString "extend") (Str.ofString "many") (Str.ofString "sorted") (Str.ofString "set") (Str.ofString "key") (Str.ofString "longest_at_end") (Str.ofString "begun") (Str.ofString "beginning") (Str.ofString "endswith") (Str.ofString "wordrace.words") (Str.ofString "overlaps") (Str.ofString "one") (Str.ofString "shorter") (Str.ofString "beginnings") (Str.ofString "state_of") (Str.ofString "ended") (Str.ofString "throws") (Str.ofString "enumerate") (Str.ofString "wordrace.counts") (Str.ofString "check_many") (Str.ofString "a row has 0 to 60 throws") (Str.ofString "one_throw_more") (Str.ofString "counted") (Str.ofString "longer") (Str.ofString "state") (Str.ofString "number") (Str.ofString "items") (Str.ofString "after") (Str.ofString "get") (Str.ofString "rows_by_state") (Str.ofString "throw") (Str.ofString "open_rows") (Str.ofString "sum") (Str.ofString "ended_rows") (Str.ofString "wordrace.notes") (Str.ofString "shown") (Str.ofString "weights") (Str.ofString " ") (Str.ofString "join") (Str.ofString "str") (Str.ofString "weight") (Str.ofString "listed") (Str.ofString ": ") (Str.ofString "wordrace.races") (Str.ofString "common_factor") (Str.ofString "numbers") (Str.ofString "factor") (Str.ofString "rest") (Str.ofString "abs") (Str.ofString "smaller") (Str.ofString "share_of") (Str.ofString "top") (Str.ofString "bottom") (Str.ofString "added") (Str.ofString "taken_away") (Str.ofString "worth") (Str.ofString "index") (Str.ofString "one_with_other") (Str.ofString "together") (Str.ofString "equation_of") (Str.ofString "zip") (Str.ofString "freed_of") (Str.ofString "used") (Str.ofString "equation") (Str.ofString "own") (Str.ofString "solved") (Str.ofString "equations") (Str.ofString "state_of_open") (Str.ofString "a row that holds a word is not open") (Str.ofString "shares") (Str.ofString "mean") (Str.ofString "odds") (Str.ofString "two words as long as one another are wanted, and not one word twice") (Str.ofString "first") (Str.ofString "second") (Str.ofString "both") (Str.ofString "law_wordrace_k16_no_race") (Str.ofString "_law_cell_at") (Str.ofString "script") (Str.ofString "k") (Str.ofString "_law_next") (Str.ofString "seed") (Str.ofString "_law_die") (Str.ofString "cell") (Str.ofString "_law_thrown") (Str.ofString "_law_word") (Str.ofString "_law_kind") (Str.ofString "e") (Str.ofString "kinds") (Str.ofString "isinstance") (Str.ofString "count") (Str.ofString "race") (Str.ofString "over") (Str.ofString "note") (Str.ofString "_law_asked") (Str.ofString "turn") (Str.ofString "_law_tried") (Str.ofString "done") (Str.ofString "law") (Str.ofString "piece") (Str.ofString "five") (Str.ofString "aab") (Str.ofString "abb") (Str.ofString "bba") (Str.ofString "baa") (Str.ofString "bab") (Str.ofString "six") (Str.ofString "aaa") (Str.ofString "bbb") (Str.ofString "list") (Str.ofString "a") (Str.ofString "/claim/cut.py")) := by
  refine' ⟨_, _⟩
  rotate_left
  · delta PySem.Challenge.pw_wordrace_k16_no_race
    generalize Str.ofString "__name__" = x0
    generalize Str.ofString "wordrace.errors" = x1
    generalize Str.ofString "RaceError" = x2
    generalize Str.ofString "ValueError" = x3
    generalize Str.ofString "NoDie" = x4
    generalize Str.ofString "NoWord" = x5
    generalize Str.ofString "NoRace" = x6
    generalize Str.ofString "NoRow" = x7
    generalize Str.ofString "Over" = x8
    generalize Str.ofString "TooMany" = x9
    generalize Str.ofString "NoNote" = x10
    generalize Str.ofString "wordrace.parts" = x11
    generalize Str.ofString "SIGNS" = x12
    generalize Str.ofString "abcd" = x13
    generalize Str.ofString "LEAST_WEIGHTS" = x14
    generalize Str.ofString "MOST_WEIGHTS" = x15
    generalize Str.ofString "LEAST_WEIGHT" = x16
    generalize Str.ofString "MOST_WEIGHT" = x17
    generalize Str.ofString "MOST_SIGNS" = x18
    generalize Str.ofString "MOST_WORDS" = x19
    generalize Str.ofString "MOST_THROWS" = x20
    generalize Str.ofString "signs_of" = x21
    generalize Str.ofString "die" = x22
    generalize Str.ofString "len" = x23
    generalize Str.ofString "is_thrown" = x24
    generalize Str.ofString "text" = x25
    generalize Str.ofString "signs" = x26
    generalize Str.ofString "all" = x27
    generalize Str.ofString "sign" = x28
    generalize Str.ofString ".0" = x29
    generalize Str.ofString "fast" = x30
    generalize Str.ofString "check_die" = x31
    generalize Str.ofString "a die has 2 to 4 weights" = x32
    generalize Str.ofString "min" = x33
    generalize Str.ofString "max" = x34
    generalize Str.ofString "a weight is a number from 1 to 9" = x35
    generalize Str.ofString "check_word" = x36
    generalize Str.ofString "word" = x37
    generalize Str.ofString "a word has 1 to 6 signs" = x38
    generalize Str.ofString "a word has signs of its die alone" = x39
    generalize Str.ofString "stands_within_another" = x40
    generalize Str.ofString "words" = x41
    generalize Str.ofString "place" = x42
    generalize Str.ofString "others" = x43
    generalize Str.ofString "any" = x44
    generalize Str.ofString "other" = x45
    generalize Str.ofString "check_race" = x46
    generalize Str.ofString "a race has 1 to 4 words" = x47
    generalize Str.ofString "range" = x48
    generalize Str.ofString "no word of a race stands within another one" = x49
    generalize Str.ofString "check_row" = x50
    generalize Str.ofString "row" = x51
    generalize Str.ofString "a row has at most 60 signs" = x52
    generalize Str.ofString "a row has signs of its die alone" = x53
    generalize Str.ofString "beginnings_of" = x54
    generalize Str.ofString "texts" = x55
    generalize Str.ofString "" = x56
    generalize Str.ofString "extend" = x57
    generalize Str.ofString "many" = x58
    generalize Str.ofString "sorted" = x59
    generalize Str.ofString "set" = x60
    generalize Str.ofString "key" = x61
    generalize Str.ofString "longest_at_end" = x62
    generalize Str.ofString "begun" = x63
    generalize Str.ofString "beginning" = x64
    generalize Str.ofString "endswith" = x65
    generalize Str.ofString "wordrace.words" = x66
    generalize Str.ofString "overlaps" = x67
    generalize Str.ofString "one" = x68
    generalize Str.ofString "shorter" = x69
    generalize Str.ofString "beginnings" = x70
    generalize Str.ofString "state_of" = x71
    generalize Str.ofString "ended" = x72
    generalize Str.ofString "throws" = x73
    generalize Str.ofString "enumerate" = x74
    generalize Str.ofString "wordrace.counts" = x75
    generalize Str.ofString "check_many" = x76
    generalize Str.ofString "a row has 0 to 60 throws" = x77
    generalize Str.ofString "one_throw_more" = x78
    generalize Str.ofString "counted" = x79
    generalize Str.ofString "longer" = x80
    generalize Str.ofString "state" = x81
    generalize Str.ofString "number" = x82
    generalize Str.ofString "items" = x83
    generalize Str.ofString "after" = x84
    generalize Str.ofString "get" = x85
    generalize Str.ofString "rows_by_state" = x86
    generalize Str.ofString "throw" = x87
    generalize Str.ofString "open_rows" = x88
    generalize Str.ofString "sum" = x89
    generalize Str.ofString "ended_rows" = x90
    generalize Str.ofString "wordrace.notes" = x91
    generalize Str.ofString "shown" = x92
    generalize Str.ofString "weights" = x93
    generalize Str.ofString " " = x94
    generalize Str.ofString "join" = x95
    generalize Str.ofString "str" = x96
    generalize Str.ofString "weight" = x97
    generalize Str.ofString "listed" = x98
    generalize Str.ofString ": " = x99
    generalize Str.ofString "wordrace.races" = x100
    generalize Str.ofString "common_factor" = x101
    generalize Str.ofString "numbers" = x102
    generalize Str.ofString "factor" = x103
    generalize Str.ofString "rest" = x104
    generalize Str.ofString "abs" = x105
    generalize Str.ofString "smaller" = x106
    generalize Str.ofString "share_of" = x107
    generalize Str.ofString "top" = x108
    generalize Str.ofString "bottom" = x109
    generalize Str.ofString "added" = x110
    generalize Str.ofString "taken_away" = x111
    generalize Str.ofString "worth" = x112
    generalize Str.ofString "index" = x113
    generalize Str.ofString "one_with_other" = x114
    generalize Str.ofString "together" = x115
    generalize Str.ofString "equation_of" = x116
    generalize Str.ofString "zip" = x117
    generalize Str.ofString "freed_of" = x118
    generalize Str.ofString "used" = x119
    generalize Str.ofString "equation" = x120
    generalize Str.ofString "own" = x121
    generalize Str.ofString "solved" = x122
    generalize Str.ofString "equations" = x123
    generalize Str.ofString "state_of_open" = x124
    generalize Str.ofString "a row that holds a word is not open" = x125
    generalize Str.ofString "shares" = x126
    generalize Str.ofString "mean" = x127
    generalize Str.ofString "odds" = x128
    generalize Str.ofString "two words as long as one another are wanted, and not one word twice" = x129
    generalize Str.ofString "first" = x130
    generalize Str.ofString "second" = x131
    generalize Str.ofString "both" = x132
    generalize Str.ofString "law_wordrace_k16_no_race" = x133
    generalize Str.ofString "_law_cell_at" = x134
    generalize Str.ofString "script" = x135
    generalize Str.ofString "k" = x136
    generalize Str.ofString "_law_next" = x137
    generalize Str.ofString "seed" = x138
    generalize Str.ofString "_law_die" = x139
    generalize Str.ofString "cell" = x140
    generalize Str.ofString "_law_thrown" = x141
    generalize Str.ofString "_law_word" = x142
    generalize Str.ofString "_law_kind" = x143
    generalize Str.ofString "e" = x144
    generalize Str.ofString "kinds" = x145
    generalize Str.ofString "isinstance" = x146
    generalize Str.ofString "count" = x147
    generalize Str.ofString "race" = x148
    generalize Str.ofString "over" = x149
    generalize Str.ofString "note" = x150
    generalize Str.ofString "_law_asked" = x151
    generalize Str.ofString "turn" = x152
    generalize Str.ofString "_law_tried" = x153
    generalize Str.ofString "done" = x154
    generalize Str.ofString "law" = x155
    generalize Str.ofString "piece" = x156
    generalize Str.ofString "five" = x157
    generalize Str.ofString "aab" = x158
    generalize Str.ofString "abb" = x159
    generalize Str.ofString "bba" = x160
    generalize Str.ofString "baa" = x161
    generalize Str.ofString "bab" = x162
    generalize Str.ofString "six" = x163
    generalize Str.ofString "aaa" = x164
    generalize Str.ofString "bbb" = x165
    generalize Str.ofString "list" = x166
    generalize Str.ofString "a" = x167
    generalize Str.ofString "/claim/cut.py" = x168
    exact rfl
noncomputable def twG : Str → Str → Str → Str → Str → Str → Str → Str → Str → Str → Str → Str → Str → Str → Str → Str → Str → Str → Str → Str → Str → Str → Str → Str → Str → Str → Str → Str → Str → Str → Str → Str → Str → Str → Str → Str → Str → Str → Str → Str → Str → Str → Str → Str → Str → Str → Str → Str → Str → Str → Str → Str → Str → Str → Str → Str → Str → Str → Str → Str → Str → Str → Str → Str → Str → Str → Str → Str → Str → Str → Str → Str → Str → Str → Str → Str → Str → Str → Str → Str → Str → Str → Str → Str → Str → Str → Str → Str → Str → Str → Str → Str → Str → Str → Str → Str → Str → Str → Str → Str → Str → Str → Str → Str → Str → Str → Str → Str → Str → Str → Str → Str → Str → Str → Str → Str → Str → Str → Str → Str → Str → Str → Str → Str → Str → Str → Str → Str → Str → Str → Str → Str → Str → Str → Str → Str → Str → Str → Str → Str → Str → Str → Str → Str → Str → Str → Str → Str → Str → Str → Str → Str → Str → Str → Str → Str → Str → Str → Str → Str → Str → Str → Str → Str → Str → Str → Str → Str → Str →  Program := twP.1
theorem twE : PySem.Challenge.pw_wordrace_k16_no_race = twG (Str.ofString "__name__") (Str.ofString "wordrace.errors") (Str.ofString "RaceError") (Str.ofString "ValueError") (Str.ofString "NoDie") (Str.ofString "NoWord") (Str.ofString "NoRace") (Str.ofString "NoRow") (Str.ofString "Over") (Str.ofString "TooMany") (Str.ofString "NoNote") (Str.ofString "wordrace.parts") (Str.ofString "SIGNS") (Str.ofString "abcd") (Str.ofString "LEAST_WEIGHTS") (Str.ofString "MOST_WEIGHTS") (Str.ofString "LEAST_WEIGHT") (Str.ofString "MOST_WEIGHT") (Str.ofString "MOST_SIGNS") (Str.ofString "MOST_WORDS") (Str.ofString "MOST_THROWS") (Str.ofString "signs_of") (Str.ofString "die") (Str.ofString "len") (Str.ofString "is_thrown") (Str.ofString "text") (Str.ofString "signs") (Str.ofString "all") (Str.ofString "sign") (Str.ofString ".0") (Str.ofString "fast") (Str.ofString "check_die") (Str.ofString "a die has 2 to 4 weights") (Str.ofString "min") (Str.ofString "max") (Str.ofString "a weight is a number from 1 to 9") (Str.ofString "check_word") (Str.ofString "word") (Str.ofString "a word has 1 to 6 signs") (Str.ofString "a word has signs of its die alone") (Str.ofString "stands_within_another") (Str.ofString "words") (Str.ofString "place") (Str.ofString "others") (Str.ofString "any") (Str.ofString "other") (Str.ofString "check_race") (Str.ofString "a race has 1 to 4 words") (Str.ofString "range") (Str.ofString "no word of a race stands within another one") (Str.ofString "check_row") (Str.ofString "row") (Str.ofString "a row has at most 60 signs") (Str.ofString "a row has signs of its die alone") (Str.ofString "beginnings_of") (Str.ofString "texts") (Str.ofString "") (Str.ofString "extend") (Str.ofString "many") (Str.ofString "sorted") (Str.ofString "set") (Str.ofString "key") (Str.ofString "longest_at_end") (Str.ofString "begun") (Str.ofString "beginning") (Str.ofString "endswith") (Str.ofString "wordrace.words") (Str.ofString "overlaps") (Str.ofString "one") (Str.ofString "shorter") (Str.ofString "beginnings") (Str.ofString "state_of") (Str.ofString "ended") (Str.ofString "throws") (Str.ofString "enumerate") (Str.ofString "wordrace.counts") (Str.ofString "check_many") (Str.ofString "a row has 0 to 60 throws") (Str.ofString "one_throw_more") (Str.ofString "counted") (Str.ofString "longer") (Str.ofString "state") (Str.ofString "number") (Str.ofString "items") (Str.ofString "after") (Str.ofString "get") (Str.ofString "rows_by_state") (Str.ofString "throw") (Str.ofString "open_rows") (Str.ofString "sum") (Str.ofString "ended_rows") (Str.ofString "wordrace.notes") (Str.ofString "shown") (Str.ofString "weights") (Str.ofString " ") (Str.ofString "join") (Str.ofString "str") (Str.ofString "weight") (Str.ofString "listed") (Str.ofString ": ") (Str.ofString "wordrace.races") (Str.ofString "common_factor") (Str.ofString "numbers") (Str.ofString "factor") (Str.ofString "rest") (Str.ofString "abs") (Str.ofString "smaller") (Str.ofString "share_of") (Str.ofString "top") (Str.ofString "bottom") (Str.ofString "added") (Str.ofString "taken_away") (Str.ofString "worth") (Str.ofString "index") (Str.ofString "one_with_other") (Str.ofString "together") (Str.ofString "equation_of") (Str.ofString "zip") (Str.ofString "freed_of") (Str.ofString "used") (Str.ofString "equation") (Str.ofString "own") (Str.ofString "solved") (Str.ofString "equations") (Str.ofString "state_of_open") (Str.ofString "a row that holds a word is not open") (Str.ofString "shares") (Str.ofString "mean") (Str.ofString "odds") (Str.ofString "two words as long as one another are wanted, and not one word twice") (Str.ofString "first") (Str.ofString "second") (Str.ofString "both") (Str.ofString "law_wordrace_k16_no_race") (Str.ofString "_law_cell_at") (Str.ofString "script") (Str.ofString "k") (Str.ofString "_law_next") (Str.ofString "seed") (Str.ofString "_law_die") (Str.ofString "cell") (Str.ofString "_law_thrown") (Str.ofString "_law_word") (Str.ofString "_law_kind") (Str.ofString "e") (Str.ofString "kinds") (Str.ofString "isinstance") (Str.ofString "count") (Str.ofString "race") (Str.ofString "over") (Str.ofString "note") (Str.ofString "_law_asked") (Str.ofString "turn") (Str.ofString "_law_tried") (Str.ofString "done") (Str.ofString "law") (Str.ofString "piece") (Str.ofString "five") (Str.ofString "aab") (Str.ofString "abb") (Str.ofString "bba") (Str.ofString "baa") (Str.ofString "bab") (Str.ofString "six") (Str.ofString "aaa") (Str.ofString "bbb") (Str.ofString "list") (Str.ofString "a") (Str.ofString "/claim/cut.py") := twP.2
theorem tx0 : Str.ofString "__name__" = Str.mk (Array.mk [95, 95, 110, 97, 109, 101, 95, 95]) := by decide +kernel
theorem tx1 : Str.ofString "wordrace.errors" = Str.mk (Array.mk [119, 111, 114, 100, 114, 97, 99, 101, 46, 101, 114, 114, 111, 114, 115]) := by decide +kernel
theorem tx2 : Str.ofString "RaceError" = Str.mk (Array.mk [82, 97, 99, 101, 69, 114, 114, 111, 114]) := by decide +kernel
theorem tx3 : Str.ofString "ValueError" = Str.mk (Array.mk [86, 97, 108, 117, 101, 69, 114, 114, 111, 114]) := by decide +kernel
theorem tx4 : Str.ofString "NoDie" = Str.mk (Array.mk [78, 111, 68, 105, 101]) := by decide +kernel
theorem tx5 : Str.ofString "NoWord" = Str.mk (Array.mk [78, 111, 87, 111, 114, 100]) := by decide +kernel
theorem tx6 : Str.ofString "NoRace" = Str.mk (Array.mk [78, 111, 82, 97, 99, 101]) := by decide +kernel
theorem tx7 : Str.ofString "NoRow" = Str.mk (Array.mk [78, 111, 82, 111, 119]) := by decide +kernel
theorem tx8 : Str.ofString "Over" = Str.mk (Array.mk [79, 118, 101, 114]) := by decide +kernel
theorem tx9 : Str.ofString "TooMany" = Str.mk (Array.mk [84, 111, 111, 77, 97, 110, 121]) := by decide +kernel
theorem tx10 : Str.ofString "NoNote" = Str.mk (Array.mk [78, 111, 78, 111, 116, 101]) := by decide +kernel
theorem tx11 : Str.ofString "wordrace.parts" = Str.mk (Array.mk [119, 111, 114, 100, 114, 97, 99, 101, 46, 112, 97, 114, 116, 115]) := by decide +kernel
theorem tx12 : Str.ofString "SIGNS" = Str.mk (Array.mk [83, 73, 71, 78, 83]) := by decide +kernel
theorem tx13 : Str.ofString "abcd" = Str.mk (Array.mk [97, 98, 99, 100]) := by decide +kernel
theorem tx14 : Str.ofString "LEAST_WEIGHTS" = Str.mk (Array.mk [76, 69, 65, 83, 84, 95, 87, 69, 73, 71, 72, 84, 83]) := by decide +kernel
theorem tx15 : Str.ofString "MOST_WEIGHTS" = Str.mk (Array.mk [77, 79, 83, 84, 95, 87, 69, 73, 71, 72, 84, 83]) := by decide +kernel
theorem tx16 : Str.ofString "LEAST_WEIGHT" = Str.mk (Array.mk [76, 69, 65, 83, 84, 95, 87, 69, 73, 71, 72, 84]) := by decide +kernel
theorem tx17 : Str.ofString "MOST_WEIGHT" = Str.mk (Array.mk [77, 79, 83, 84, 95, 87, 69, 73, 71, 72, 84]) := by decide +kernel
theorem tx18 : Str.ofString "MOST_SIGNS" = Str.mk (Array.mk [77, 79, 83, 84, 95, 83, 73, 71, 78, 83]) := by decide +kernel
theorem tx19 : Str.ofString "MOST_WORDS" = Str.mk (Array.mk [77, 79, 83, 84, 95, 87, 79, 82, 68, 83]) := by decide +kernel
theorem tx20 : Str.ofString "MOST_THROWS" = Str.mk (Array.mk [77, 79, 83, 84, 95, 84, 72, 82, 79, 87, 83]) := by decide +kernel
theorem tx21 : Str.ofString "signs_of" = Str.mk (Array.mk [115, 105, 103, 110, 115, 95, 111, 102]) := by decide +kernel
theorem tx22 : Str.ofString "die" = Str.mk (Array.mk [100, 105, 101]) := by decide +kernel
theorem tx23 : Str.ofString "len" = Str.mk (Array.mk [108, 101, 110]) := by decide +kernel
theorem tx24 : Str.ofString "is_thrown" = Str.mk (Array.mk [105, 115, 95, 116, 104, 114, 111, 119, 110]) := by decide +kernel
theorem tx25 : Str.ofString "text" = Str.mk (Array.mk [116, 101, 120, 116]) := by decide +kernel
theorem tx26 : Str.ofString "signs" = Str.mk (Array.mk [115, 105, 103, 110, 115]) := by decide +kernel
theorem tx27 : Str.ofString "all" = Str.mk (Array.mk [97, 108, 108]) := by decide +kernel
theorem tx28 : Str.ofString "sign" = Str.mk (Array.mk [115, 105, 103, 110]) := by decide +kernel
theorem tx29 : Str.ofString ".0" = Str.mk (Array.mk [46, 48]) := by decide +kernel
theorem tx30 : Str.ofString "fast" = Str.mk (Array.mk [102, 97, 115, 116]) := by decide +kernel
theorem tx31 : Str.ofString "check_die" = Str.mk (Array.mk [99, 104, 101, 99, 107, 95, 100, 105, 101]) := by decide +kernel
theorem tx32 : Str.ofString "a die has 2 to 4 weights" = Str.mk (Array.mk [97, 32, 100, 105, 101, 32, 104, 97, 115, 32, 50, 32, 116, 111, 32, 52, 32, 119, 101, 105, 103, 104, 116, 115]) := by decide +kernel
theorem tx33 : Str.ofString "min" = Str.mk (Array.mk [109, 105, 110]) := by decide +kernel
theorem tx34 : Str.ofString "max" = Str.mk (Array.mk [109, 97, 120]) := by decide +kernel
theorem tx35 : Str.ofString "a weight is a number from 1 to 9" = Str.mk (Array.mk [97, 32, 119, 101, 105, 103, 104, 116, 32, 105, 115, 32, 97, 32, 110, 117, 109, 98, 101, 114, 32, 102, 114, 111, 109, 32, 49, 32, 116, 111, 32, 57]) := by decide +kernel
theorem tx36 : Str.ofString "check_word" = Str.mk (Array.mk [99, 104, 101, 99, 107, 95, 119, 111, 114, 100]) := by decide +kernel
theorem tx37 : Str.ofString "word" = Str.mk (Array.mk [119, 111, 114, 100]) := by decide +kernel
theorem tx38 : Str.ofString "a word has 1 to 6 signs" = Str.mk (Array.mk [97, 32, 119, 111, 114, 100, 32, 104, 97, 115, 32, 49, 32, 116, 111, 32, 54, 32, 115, 105, 103, 110, 115]) := by decide +kernel
theorem tx39 : Str.ofString "a word has signs of its die alone" = Str.mk (Array.mk [97, 32, 119, 111, 114, 100, 32, 104, 97, 115, 32, 115, 105, 103, 110, 115, 32, 111, 102, 32, 105, 116, 115, 32, 100, 105, 101, 32, 97, 108, 111, 110, 101]) := by decide +kernel
theorem tx40 : Str.ofString "stands_within_another" = Str.mk (Array.mk [115, 116, 97, 110, 100, 115, 95, 119, 105, 116, 104, 105, 110, 95, 97, 110, 111, 116, 104, 101, 114]) := by decide +kernel
theorem tx41 : Str.ofString "words" = Str.mk (Array.mk [119, 111, 114, 100, 115]) := by decide +kernel
theorem tx42 : Str.ofString "place" = Str.mk (Array.mk [112, 108, 97, 99, 101]) := by decide +kernel
theorem tx43 : Str.ofString "others" = Str.mk (Array.mk [111, 116, 104, 101, 114, 115]) := by decide +kernel
theorem tx44 : Str.ofString "any" = Str.mk (Array.mk [97, 110, 121]) := by decide +kernel
theorem tx45 : Str.ofString "other" = Str.mk (Array.mk [111, 116, 104, 101, 114]) := by decide +kernel
theorem tx46 : Str.ofString "check_race" = Str.mk (Array.mk [99, 104, 101, 99, 107, 95, 114, 97, 99, 101]) := by decide +kernel
theorem tx47 : Str.ofString "a race has 1 to 4 words" = Str.mk (Array.mk [97, 32, 114, 97, 99, 101, 32, 104, 97, 115, 32, 49, 32, 116, 111, 32, 52, 32, 119, 111, 114, 100, 115]) := by decide +kernel
theorem tx48 : Str.ofString "range" = Str.mk (Array.mk [114, 97, 110, 103, 101]) := by decide +kernel
theorem tx49 : Str.ofString "no word of a race stands within another one" = Str.mk (Array.mk [110, 111, 32, 119, 111, 114, 100, 32, 111, 102, 32, 97, 32, 114, 97, 99, 101, 32, 115, 116, 97, 110, 100, 115, 32, 119, 105, 116, 104, 105, 110, 32, 97, 110, 111, 116, 104, 101, 114, 32, 111, 110, 101]) := by decide +kernel
theorem tx50 : Str.ofString "check_row" = Str.mk (Array.mk [99, 104, 101, 99, 107, 95, 114, 111, 119]) := by decide +kernel
theorem tx51 : Str.ofString "row" = Str.mk (Array.mk [114, 111, 119]) := by decide +kernel
theorem tx52 : Str.ofString "a row has at most 60 signs" = Str.mk (Array.mk [97, 32, 114, 111, 119, 32, 104, 97, 115, 32, 97, 116, 32, 109, 111, 115, 116, 32, 54, 48, 32, 115, 105, 103, 110, 115]) := by decide +kernel
theorem tx53 : Str.ofString "a row has signs of its die alone" = Str.mk (Array.mk [97, 32, 114, 111, 119, 32, 104, 97, 115, 32, 115, 105, 103, 110, 115, 32, 111, 102, 32, 105, 116, 115, 32, 100, 105, 101, 32, 97, 108, 111, 110, 101]) := by decide +kernel
theorem tx54 : Str.ofString "beginnings_of" = Str.mk (Array.mk [98, 101, 103, 105, 110, 110, 105, 110, 103, 115, 95, 111, 102]) := by decide +kernel
theorem tx55 : Str.ofString "texts" = Str.mk (Array.mk [116, 101, 120, 116, 115]) := by decide +kernel
theorem tx56 : Str.ofString "" = Str.mk (Array.mk []) := by decide +kernel
theorem tx57 : Str.ofString "extend" = Str.mk (Array.mk [101, 120, 116, 101, 110, 100]) := by decide +kernel
theorem tx58 : Str.ofString "many" = Str.mk (Array.mk [109, 97, 110, 121]) := by decide +kernel
theorem tx59 : Str.ofString "sorted" = Str.mk (Array.mk [115, 111, 114, 116, 101, 100]) := by decide +kernel
theorem tx60 : Str.ofString "set" = Str.mk (Array.mk [115, 101, 116]) := by decide +kernel
theorem tx61 : Str.ofString "key" = Str.mk (Array.mk [107, 101, 121]) := by decide +kernel
theorem tx62 : Str.ofString "longest_at_end" = Str.mk (Array.mk [108, 111, 110, 103, 101, 115, 116, 95, 97, 116, 95, 101, 110, 100]) := by decide +kernel
theorem tx63 : Str.ofString "begun" = Str.mk (Array.mk [98, 101, 103, 117, 110]) := by decide +kernel
theorem tx64 : Str.ofString "beginning" = Str.mk (Array.mk [98, 101, 103, 105, 110, 110, 105, 110, 103]) := by decide +kernel
theorem tx65 : Str.ofString "endswith" = Str.mk (Array.mk [101, 110, 100, 115, 119, 105, 116, 104]) := by decide +kernel
theorem tx66 : Str.ofString "wordrace.words" = Str.mk (Array.mk [119, 111, 114, 100, 114, 97, 99, 101, 46, 119, 111, 114, 100, 115]) := by decide +kernel
theorem tx67 : Str.ofString "overlaps" = Str.mk (Array.mk [111, 118, 101, 114, 108, 97, 112, 115]) := by decide +kernel
theorem tx68 : Str.ofString "one" = Str.mk (Array.mk [111, 110, 101]) := by decide +kernel
theorem tx69 : Str.ofString "shorter" = Str.mk (Array.mk [115, 104, 111, 114, 116, 101, 114]) := by decide +kernel
theorem tx70 : Str.ofString "beginnings" = Str.mk (Array.mk [98, 101, 103, 105, 110, 110, 105, 110, 103, 115]) := by decide +kernel
theorem tx71 : Str.ofString "state_of" = Str.mk (Array.mk [115, 116, 97, 116, 101, 95, 111, 102]) := by decide +kernel
theorem tx72 : Str.ofString "ended" = Str.mk (Array.mk [101, 110, 100, 101, 100]) := by decide +kernel
theorem tx73 : Str.ofString "throws" = Str.mk (Array.mk [116, 104, 114, 111, 119, 115]) := by decide +kernel
theorem tx74 : Str.ofString "enumerate" = Str.mk (Array.mk [101, 110, 117, 109, 101, 114, 97, 116, 101]) := by decide +kernel
theorem tx75 : Str.ofString "wordrace.counts" = Str.mk (Array.mk [119, 111, 114, 100, 114, 97, 99, 101, 46, 99, 111, 117, 110, 116, 115]) := by decide +kernel
theorem tx76 : Str.ofString "check_many" = Str.mk (Array.mk [99, 104, 101, 99, 107, 95, 109, 97, 110, 121]) := by decide +kernel
theorem tx77 : Str.ofString "a row has 0 to 60 throws" = Str.mk (Array.mk [97, 32, 114, 111, 119, 32, 104, 97, 115, 32, 48, 32, 116, 111, 32, 54, 48, 32, 116, 104, 114, 111, 119, 115]) := by decide +kernel
theorem tx78 : Str.ofString "one_throw_more" = Str.mk (Array.mk [111, 110, 101, 95, 116, 104, 114, 111, 119, 95, 109, 111, 114, 101]) := by decide +kernel
theorem tx79 : Str.ofString "counted" = Str.mk (Array.mk [99, 111, 117, 110, 116, 101, 100]) := by decide +kernel
theorem tx80 : Str.ofString "longer" = Str.mk (Array.mk [108, 111, 110, 103, 101, 114]) := by decide +kernel
theorem tx81 : Str.ofString "state" = Str.mk (Array.mk [115, 116, 97, 116, 101]) := by decide +kernel
theorem tx82 : Str.ofString "number" = Str.mk (Array.mk [110, 117, 109, 98, 101, 114]) := by decide +kernel
theorem tx83 : Str.ofString "items" = Str.mk (Array.mk [105, 116, 101, 109, 115]) := by decide +kernel
theorem tx84 : Str.ofString "after" = Str.mk (Array.mk [97, 102, 116, 101, 114]) := by decide +kernel
theorem tx85 : Str.ofString "get" = Str.mk (Array.mk [103, 101, 116]) := by decide +kernel
theorem tx86 : Str.ofString "rows_by_state" = Str.mk (Array.mk [114, 111, 119, 115, 95, 98, 121, 95, 115, 116, 97, 116, 101]) := by decide +kernel
theorem tx87 : Str.ofString "throw" = Str.mk (Array.mk [116, 104, 114, 111, 119]) := by decide +kernel
theorem tx88 : Str.ofString "open_rows" = Str.mk (Array.mk [111, 112, 101, 110, 95, 114, 111, 119, 115]) := by decide +kernel
theorem tx89 : Str.ofString "sum" = Str.mk (Array.mk [115, 117, 109]) := by decide +kernel
theorem tx90 : Str.ofString "ended_rows" = Str.mk (Array.mk [101, 110, 100, 101, 100, 95, 114, 111, 119, 115]) := by decide +kernel
theorem tx91 : Str.ofString "wordrace.notes" = Str.mk (Array.mk [119, 111, 114, 100, 114, 97, 99, 101, 46, 110, 111, 116, 101, 115]) := by decide +kernel
theorem tx92 : Str.ofString "shown" = Str.mk (Array.mk [115, 104, 111, 119, 110]) := by decide +kernel
theorem tx93 : Str.ofString "weights" = Str.mk (Array.mk [119, 101, 105, 103, 104, 116, 115]) := by decide +kernel
theorem tx94 : Str.ofString " " = Str.mk (Array.mk [32]) := by decide +kernel
theorem tx95 : Str.ofString "join" = Str.mk (Array.mk [106, 111, 105, 110]) := by decide +kernel
theorem tx96 : Str.ofString "str" = Str.mk (Array.mk [115, 116, 114]) := by decide +kernel
theorem tx97 : Str.ofString "weight" = Str.mk (Array.mk [119, 101, 105, 103, 104, 116]) := by decide +kernel
theorem tx98 : Str.ofString "listed" = Str.mk (Array.mk [108, 105, 115, 116, 101, 100]) := by decide +kernel
theorem tx99 : Str.ofString ": " = Str.mk (Array.mk [58, 32]) := by decide +kernel
theorem tx100 : Str.ofString "wordrace.races" = Str.mk (Array.mk [119, 111, 114, 100, 114, 97, 99, 101, 46, 114, 97, 99, 101, 115]) := by decide +kernel
theorem tx101 : Str.ofString "common_factor" = Str.mk (Array.mk [99, 111, 109, 109, 111, 110, 95, 102, 97, 99, 116, 111, 114]) := by decide +kernel
theorem tx102 : Str.ofString "numbers" = Str.mk (Array.mk [110, 117, 109, 98, 101, 114, 115]) := by decide +kernel
theorem tx103 : Str.ofString "factor" = Str.mk (Array.mk [102, 97, 99, 116, 111, 114]) := by decide +kernel
theorem tx104 : Str.ofString "rest" = Str.mk (Array.mk [114, 101, 115, 116]) := by decide +kernel
theorem tx105 : Str.ofString "abs" = Str.mk (Array.mk [97, 98, 115]) := by decide +kernel
theorem tx106 : Str.ofString "smaller" = Str.mk (Array.mk [115, 109, 97, 108, 108, 101, 114]) := by decide +kernel
theorem tx107 : Str.ofString "share_of" = Str.mk (Array.mk [115, 104, 97, 114, 101, 95, 111, 102]) := by decide +kernel
theorem tx108 : Str.ofString "top" = Str.mk (Array.mk [116, 111, 112]) := by decide +kernel
theorem tx109 : Str.ofString "bottom" = Str.mk (Array.mk [98, 111, 116, 116, 111, 109]) := by decide +kernel
theorem tx110 : Str.ofString "added" = Str.mk (Array.mk [97, 100, 100, 101, 100]) := by decide +kernel
theorem tx111 : Str.ofString "taken_away" = Str.mk (Array.mk [116, 97, 107, 101, 110, 95, 97, 119, 97, 121]) := by decide +kernel
theorem tx112 : Str.ofString "worth" = Str.mk (Array.mk [119, 111, 114, 116, 104]) := by decide +kernel
theorem tx113 : Str.ofString "index" = Str.mk (Array.mk [105, 110, 100, 101, 120]) := by decide +kernel
theorem tx114 : Str.ofString "one_with_other" = Str.mk (Array.mk [111, 110, 101, 95, 119, 105, 116, 104, 95, 111, 116, 104, 101, 114]) := by decide +kernel
theorem tx115 : Str.ofString "together" = Str.mk (Array.mk [116, 111, 103, 101, 116, 104, 101, 114]) := by decide +kernel
theorem tx116 : Str.ofString "equation_of" = Str.mk (Array.mk [101, 113, 117, 97, 116, 105, 111, 110, 95, 111, 102]) := by decide +kernel
theorem tx117 : Str.ofString "zip" = Str.mk (Array.mk [122, 105, 112]) := by decide +kernel
theorem tx118 : Str.ofString "freed_of" = Str.mk (Array.mk [102, 114, 101, 101, 100, 95, 111, 102]) := by decide +kernel
theorem tx119 : Str.ofString "used" = Str.mk (Array.mk [117, 115, 101, 100]) := by decide +kernel
theorem tx120 : Str.ofString "equation" = Str.mk (Array.mk [101, 113, 117, 97, 116, 105, 111, 110]) := by decide +kernel
theorem tx121 : Str.ofString "own" = Str.mk (Array.mk [111, 119, 110]) := by decide +kernel
theorem tx122 : Str.ofString "solved" = Str.mk (Array.mk [115, 111, 108, 118, 101, 100]) := by decide +kernel
theorem tx123 : Str.ofString "equations" = Str.mk (Array.mk [101, 113, 117, 97, 116, 105, 111, 110, 115]) := by decide +kernel
theorem tx124 : Str.ofString "state_of_open" = Str.mk (Array.mk [115, 116, 97, 116, 101, 95, 111, 102, 95, 111, 112, 101, 110]) := by decide +kernel
theorem tx125 : Str.ofString "a row that holds a word is not open" = Str.mk (Array.mk [97, 32, 114, 111, 119, 32, 116, 104, 97, 116, 32, 104, 111, 108, 100, 115, 32, 97, 32, 119, 111, 114, 100, 32, 105, 115, 32, 110, 111, 116, 32, 111, 112, 101, 110]) := by decide +kernel
theorem tx126 : Str.ofString "shares" = Str.mk (Array.mk [115, 104, 97, 114, 101, 115]) := by decide +kernel
theorem tx127 : Str.ofString "mean" = Str.mk (Array.mk [109, 101, 97, 110]) := by decide +kernel
theorem tx128 : Str.ofString "odds" = Str.mk (Array.mk [111, 100, 100, 115]) := by decide +kernel
theorem tx129 : Str.ofString "two words as long as one another are wanted, and not one word twice" = Str.mk (Array.mk [116, 119, 111, 32, 119, 111, 114, 100, 115, 32, 97, 115, 32, 108, 111, 110, 103, 32, 97, 115, 32, 111, 110, 101, 32, 97, 110, 111, 116, 104, 101, 114, 32, 97, 114, 101, 32, 119, 97, 110, 116, 101, 100, 44, 32, 97, 110, 100, 32, 110, 111, 116, 32, 111, 110, 101, 32, 119, 111, 114, 100, 32, 116, 119, 105, 99, 101]) := by decide +kernel
theorem tx130 : Str.ofString "first" = Str.mk (Array.mk [102, 105, 114, 115, 116]) := by decide +kernel
theorem tx131 : Str.ofString "second" = Str.mk (Array.mk [115, 101, 99, 111, 110, 100]) := by decide +kernel
theorem tx132 : Str.ofString "both" = Str.mk (Array.mk [98, 111, 116, 104]) := by decide +kernel
theorem tx133 : Str.ofString "law_wordrace_k16_no_race" = Str.mk (Array.mk [108, 97, 119, 95, 119, 111, 114, 100, 114, 97, 99, 101, 95, 107, 49, 54, 95, 110, 111, 95, 114, 97, 99, 101]) := by decide +kernel
theorem tx134 : Str.ofString "_law_cell_at" = Str.mk (Array.mk [95, 108, 97, 119, 95, 99, 101, 108, 108, 95, 97, 116]) := by decide +kernel
theorem tx135 : Str.ofString "script" = Str.mk (Array.mk [115, 99, 114, 105, 112, 116]) := by decide +kernel
theorem tx136 : Str.ofString "k" = Str.mk (Array.mk [107]) := by decide +kernel
theorem tx137 : Str.ofString "_law_next" = Str.mk (Array.mk [95, 108, 97, 119, 95, 110, 101, 120, 116]) := by decide +kernel
theorem tx138 : Str.ofString "seed" = Str.mk (Array.mk [115, 101, 101, 100]) := by decide +kernel
theorem tx139 : Str.ofString "_law_die" = Str.mk (Array.mk [95, 108, 97, 119, 95, 100, 105, 101]) := by decide +kernel
theorem tx140 : Str.ofString "cell" = Str.mk (Array.mk [99, 101, 108, 108]) := by decide +kernel
theorem tx141 : Str.ofString "_law_thrown" = Str.mk (Array.mk [95, 108, 97, 119, 95, 116, 104, 114, 111, 119, 110]) := by decide +kernel
theorem tx142 : Str.ofString "_law_word" = Str.mk (Array.mk [95, 108, 97, 119, 95, 119, 111, 114, 100]) := by decide +kernel
theorem tx143 : Str.ofString "_law_kind" = Str.mk (Array.mk [95, 108, 97, 119, 95, 107, 105, 110, 100]) := by decide +kernel
theorem tx144 : Str.ofString "e" = Str.mk (Array.mk [101]) := by decide +kernel
theorem tx145 : Str.ofString "kinds" = Str.mk (Array.mk [107, 105, 110, 100, 115]) := by decide +kernel
theorem tx146 : Str.ofString "isinstance" = Str.mk (Array.mk [105, 115, 105, 110, 115, 116, 97, 110, 99, 101]) := by decide +kernel
theorem tx147 : Str.ofString "count" = Str.mk (Array.mk [99, 111, 117, 110, 116]) := by decide +kernel
theorem tx148 : Str.ofString "race" = Str.mk (Array.mk [114, 97, 99, 101]) := by decide +kernel
theorem tx149 : Str.ofString "over" = Str.mk (Array.mk [111, 118, 101, 114]) := by decide +kernel
theorem tx150 : Str.ofString "note" = Str.mk (Array.mk [110, 111, 116, 101]) := by decide +kernel
theorem tx151 : Str.ofString "_law_asked" = Str.mk (Array.mk [95, 108, 97, 119, 95, 97, 115, 107, 101, 100]) := by decide +kernel
theorem tx152 : Str.ofString "turn" = Str.mk (Array.mk [116, 117, 114, 110]) := by decide +kernel
theorem tx153 : Str.ofString "_law_tried" = Str.mk (Array.mk [95, 108, 97, 119, 95, 116, 114, 105, 101, 100]) := by decide +kernel
theorem tx154 : Str.ofString "done" = Str.mk (Array.mk [100, 111, 110, 101]) := by decide +kernel
theorem tx155 : Str.ofString "law" = Str.mk (Array.mk [108, 97, 119]) := by decide +kernel
theorem tx156 : Str.ofString "piece" = Str.mk (Array.mk [112, 105, 101, 99, 101]) := by decide +kernel
theorem tx157 : Str.ofString "five" = Str.mk (Array.mk [102, 105, 118, 101]) := by decide +kernel
theorem tx158 : Str.ofString "aab" = Str.mk (Array.mk [97, 97, 98]) := by decide +kernel
theorem tx159 : Str.ofString "abb" = Str.mk (Array.mk [97, 98, 98]) := by decide +kernel
theorem tx160 : Str.ofString "bba" = Str.mk (Array.mk [98, 98, 97]) := by decide +kernel
theorem tx161 : Str.ofString "baa" = Str.mk (Array.mk [98, 97, 97]) := by decide +kernel
theorem tx162 : Str.ofString "bab" = Str.mk (Array.mk [98, 97, 98]) := by decide +kernel
theorem tx163 : Str.ofString "six" = Str.mk (Array.mk [115, 105, 120]) := by decide +kernel
theorem tx164 : Str.ofString "aaa" = Str.mk (Array.mk [97, 97, 97]) := by decide +kernel
theorem tx165 : Str.ofString "bbb" = Str.mk (Array.mk [98, 98, 98]) := by decide +kernel
theorem tx166 : Str.ofString "list" = Str.mk (Array.mk [108, 105, 115, 116]) := by decide +kernel
theorem tx167 : Str.ofString "a" = Str.mk (Array.mk [97]) := by decide +kernel
theorem tx168 : Str.ofString "/claim/cut.py" = Str.mk (Array.mk [47, 99, 108, 97, 105, 109, 47, 99, 117, 116, 46, 112, 121]) := by decide +kernel
noncomputable def _root_.PySem.W.Fast.tw7905913942357450635 : Program := twG (Str.mk (Array.mk [95, 95, 110, 97, 109, 101, 95, 95])) (Str.mk (Array.mk [119, 111, 114, 100, 114, 97, 99, 101, 46, 101, 114, 114, 111, 114, 115])) (Str.mk (Array.mk [82, 97, 99, 101, 69, 114, 114, 111, 114])) (Str.mk (Array.mk [86, 97, 108, 117, 101, 69, 114, 114, 111, 114])) (Str.mk (Array.mk [78, 111, 68, 105, 101])) (Str.mk (Array.mk [78, 111, 87, 111, 114, 100])) (Str.mk (Array.mk [78, 111, 82, 97, 99, 101])) (Str.mk (Array.mk [78, 111, 82, 111, 119])) (Str.mk (Array.mk [79, 118, 101, 114])) (Str.mk (Array.mk [84, 111, 111, 77, 97, 110, 121])) (Str.mk (Array.mk [78, 111, 78, 111, 116, 101])) (Str.mk (Array.mk [119, 111, 114, 100, 114, 97, 99, 101, 46, 112, 97, 114, 116, 115])) (Str.mk (Array.mk [83, 73, 71, 78, 83])) (Str.mk (Array.mk [97, 98, 99, 100])) (Str.mk (Array.mk [76, 69, 65, 83, 84, 95, 87, 69, 73, 71, 72, 84, 83])) (Str.mk (Array.mk [77, 79, 83, 84, 95, 87, 69, 73, 71, 72, 84, 83])) (Str.mk (Array.mk [76, 69, 65, 83, 84, 95, 87, 69, 73, 71, 72, 84])) (Str.mk (Array.mk [77, 79, 83, 84, 95, 87, 69, 73, 71, 72, 84])) (Str.mk (Array.mk [77, 79, 83, 84, 95, 83, 73, 71, 78, 83])) (Str.mk (Array.mk [77, 79, 83, 84, 95, 87, 79, 82, 68, 83])) (Str.mk (Array.mk [77, 79, 83, 84, 95, 84, 72, 82, 79, 87, 83])) (Str.mk (Array.mk [115, 105, 103, 110, 115, 95, 111, 102])) (Str.mk (Array.mk [100, 105, 101])) (Str.mk (Array.mk [108, 101, 110])) (Str.mk (Array.mk [105, 115, 95, 116, 104, 114, 111, 119, 110])) (Str.mk (Array.mk [116, 101, 120, 116])) (Str.mk (Array.mk [115, 105, 103, 110, 115])) (Str.mk (Array.mk [97, 108, 108])) (Str.mk (Array.mk [115, 105, 103, 110])) (Str.mk (Array.mk [46, 48])) (Str.mk (Array.mk [102, 97, 115, 116])) (Str.mk (Array.mk [99, 104, 101, 99, 107, 95, 100, 105, 101])) (Str.mk (Array.mk [97, 32, 100, 105, 101, 32, 104, 97, 115, 32, 50, 32, 116, 111, 32, 52, 32, 119, 101, 105, 103, 104, 116, 115])) (Str.mk (Array.mk [109, 105, 110])) (Str.mk (Array.mk [109, 97, 120])) (Str.mk (Array.mk [97, 32, 119, 101, 105, 103, 104, 116, 32, 105, 115, 32, 97, 32, 110, 117, 109, 98, 101, 114, 32, 102, 114, 111, 109, 32, 49, 32, 116, 111, 32, 57])) (Str.mk (Array.mk [99, 104, 101, 99, 107, 95, 119, 111, 114, 100])) (Str.mk (Array.mk [119, 111, 114, 100])) (Str.mk (Array.mk [97, 32, 119, 111, 114, 100, 32, 104, 97, 115, 32, 49, 32, 116, 111, 32, 54, 32, 115, 105, 103, 110, 115])) (Str.mk (Array.mk [97, 32, 119, 111, 114, 100, 32, 104, 97, 115, 32, 115, 105, 103, 110, 115, 32, 111, 102, 32, 105, 116, 115, 32, 100, 105, 101, 32, 97, 108, 111, 110, 101])) (Str.mk (Array.mk [115, 116, 97, 110, 100, 115, 95, 119, 105, 116, 104, 105, 110, 95, 97, 110, 111, 116, 104, 101, 114])) (Str.mk (Array.mk [119, 111, 114, 100, 115])) (Str.mk (Array.mk [112, 108, 97, 99, 101])) (Str.mk (Array.mk [111, 116, 104, 101, 114, 115])) (Str.mk (Array.mk [97, 110, 121])) (Str.mk (Array.mk [111, 116, 104, 101, 114])) (Str.mk (Array.mk [99, 104, 101, 99, 107, 95, 114, 97, 99, 101])) (Str.mk (Array.mk [97, 32, 114, 97, 99, 101, 32, 104, 97, 115, 32, 49, 32, 116, 111, 32, 52, 32, 119, 111, 114, 100, 115])) (Str.mk (Array.mk [114, 97, 110, 103, 101])) (Str.mk (Array.mk [110, 111, 32, 119, 111, 114, 100, 32, 111, 102, 32, 97, 32, 114, 97, 99, 101, 32, 115, 116, 97, 110, 100, 115, 32, 119, 105, 116, 104, 105, 110, 32, 97, 110, 111, 116, 104, 101, 114, 32, 111, 110, 101])) (Str.mk (Array.mk [99, 104, 101, 99, 107, 95, 114, 111, 119])) (Str.mk (Array.mk [114, 111, 119])) (Str.mk (Array.mk [97, 32, 114, 111, 119, 32, 104, 97, 115, 32, 97, 116, 32, 109, 111, 115, 116, 32, 54, 48, 32, 115, 105, 103, 110, 115])) (Str.mk (Array.mk [97, 32, 114, 111, 119, 32, 104, 97, 115, 32, 115, 105, 103, 110, 115, 32, 111, 102, 32, 105, 116, 115, 32, 100, 105, 101, 32, 97, 108, 111, 110, 101])) (Str.mk (Array.mk [98, 101, 103, 105, 110, 110, 105, 110, 103, 115, 95, 111, 102])) (Str.mk (Array.mk [116, 101, 120, 116, 115])) (Str.mk (Array.mk [])) (Str.mk (Array.mk [101, 120, 116, 101, 110, 100])) (Str.mk (Array.mk [109, 97, 110, 121])) (Str.mk (Array.mk [115, 111, 114, 116, 101, 100])) (Str.mk (Array.mk [115, 101, 116])) (Str.mk (Array.mk [107, 101, 121])) (Str.mk (Array.mk [108, 111, 110, 103, 101, 115, 116, 95, 97, 116, 95, 101, 110, 100])) (Str.mk (Array.mk [98, 101, 103, 117, 110])) (Str.mk (Array.mk [98, 101, 103, 105, 110, 110, 105, 110, 103])) (Str.mk (Array.mk [101, 110, 100, 115, 119, 105, 116, 104])) (Str.mk (Array.mk [119, 111, 114, 100, 114, 97, 99, 101, 46, 119, 111, 114, 100, 115])) (Str.mk (Array.mk [111, 118, 101, 114, 108, 97, 112, 115])) (Str.mk (Array.mk [111, 110, 101])) (Str.mk (Array.mk [115, 104, 111, 114, 116, 101, 114])) (Str.mk (Array.mk [98, 101, 103, 105, 110, 110, 105, 110, 103, 115])) (Str.mk (Array.mk [115, 116, 97, 116, 101, 95, 111, 102])) (Str.mk (Array.mk [101, 110, 100, 101, 100])) (Str.mk (Array.mk [116, 104, 114, 111, 119, 115])) (Str.mk (Array.mk [101, 110, 117, 109, 101, 114, 97, 116, 101])) (Str.mk (Array.mk [119, 111, 114, 100, 114, 97, 99, 101, 46, 99, 111, 117, 110, 116, 115])) (Str.mk (Array.mk [99, 104, 101, 99, 107, 95, 109, 97, 110, 121])) (Str.mk (Array.mk [97, 32, 114, 111, 119, 32, 104, 97, 115, 32, 48, 32, 116, 111, 32, 54, 48, 32, 116, 104, 114, 111, 119, 115])) (Str.mk (Array.mk [111, 110, 101, 95, 116, 104, 114, 111, 119, 95, 109, 111, 114, 101])) (Str.mk (Array.mk [99, 111, 117, 110, 116, 101, 100])) (Str.mk (Array.mk [108, 111, 110, 103, 101, 114])) (Str.mk (Array.mk [115, 116, 97, 116, 101])) (Str.mk (Array.mk [110, 117, 109, 98, 101, 114])) (Str.mk (Array.mk [105, 116, 101, 109, 115])) (Str.mk (Array.mk [97, 102, 116, 101, 114])) (Str.mk (Array.mk [103, 101, 116])) (Str.mk (Array.mk [114, 111, 119, 115, 95, 98, 121, 95, 115, 116, 97, 116, 101])) (Str.mk (Array.mk [116, 104, 114, 111, 119])) (Str.mk (Array.mk [111, 112, 101, 110, 95, 114, 111, 119, 115])) (Str.mk (Array.mk [115, 117, 109])) (Str.mk (Array.mk [101, 110, 100, 101, 100, 95, 114, 111, 119, 115])) (Str.mk (Array.mk [119, 111, 114, 100, 114, 97, 99, 101, 46, 110, 111, 116, 101, 115])) (Str.mk (Array.mk [115, 104, 111, 119, 110])) (Str.mk (Array.mk [119, 101, 105, 103, 104, 116, 115])) (Str.mk (Array.mk [32])) (Str.mk (Array.mk [106, 111, 105, 110])) (Str.mk (Array.mk [115, 116, 114])) (Str.mk (Array.mk [119, 101, 105, 103, 104, 116])) (Str.mk (Array.mk [108, 105, 115, 116, 101, 100])) (Str.mk (Array.mk [58, 32])) (Str.mk (Array.mk [119, 111, 114, 100, 114, 97, 99, 101, 46, 114, 97, 99, 101, 115])) (Str.mk (Array.mk [99, 111, 109, 109, 111, 110, 95, 102, 97, 99, 116, 111, 114])) (Str.mk (Array.mk [110, 117, 109, 98, 101, 114, 115])) (Str.mk (Array.mk [102, 97, 99, 116, 111, 114])) (Str.mk (Array.mk [114, 101, 115, 116])) (Str.mk (Array.mk [97, 98, 115])) (Str.mk (Array.mk [115, 109, 97, 108, 108, 101, 114])) (Str.mk (Array.mk [115, 104, 97, 114, 101, 95, 111, 102])) (Str.mk (Array.mk [116, 111, 112])) (Str.mk (Array.mk [98, 111, 116, 116, 111, 109])) (Str.mk (Array.mk [97, 100, 100, 101, 100])) (Str.mk (Array.mk [116, 97, 107, 101, 110, 95, 97, 119, 97, 121])) (Str.mk (Array.mk [119, 111, 114, 116, 104])) (Str.mk (Array.mk [105, 110, 100, 101, 120])) (Str.mk (Array.mk [111, 110, 101, 95, 119, 105, 116, 104, 95, 111, 116, 104, 101, 114])) (Str.mk (Array.mk [116, 111, 103, 101, 116, 104, 101, 114])) (Str.mk (Array.mk [101, 113, 117, 97, 116, 105, 111, 110, 95, 111, 102])) (Str.mk (Array.mk [122, 105, 112])) (Str.mk (Array.mk [102, 114, 101, 101, 100, 95, 111, 102])) (Str.mk (Array.mk [117, 115, 101, 100])) (Str.mk (Array.mk [101, 113, 117, 97, 116, 105, 111, 110])) (Str.mk (Array.mk [111, 119, 110])) (Str.mk (Array.mk [115, 111, 108, 118, 101, 100])) (Str.mk (Array.mk [101, 113, 117, 97, 116, 105, 111, 110, 115])) (Str.mk (Array.mk [115, 116, 97, 116, 101, 95, 111, 102, 95, 111, 112, 101, 110])) (Str.mk (Array.mk [97, 32, 114, 111, 119, 32, 116, 104, 97, 116, 32, 104, 111, 108, 100, 115, 32, 97, 32, 119, 111, 114, 100, 32, 105, 115, 32, 110, 111, 116, 32, 111, 112, 101, 110])) (Str.mk (Array.mk [115, 104, 97, 114, 101, 115])) (Str.mk (Array.mk [109, 101, 97, 110])) (Str.mk (Array.mk [111, 100, 100, 115])) (Str.mk (Array.mk [116, 119, 111, 32, 119, 111, 114, 100, 115, 32, 97, 115, 32, 108, 111, 110, 103, 32, 97, 115, 32, 111, 110, 101, 32, 97, 110, 111, 116, 104, 101, 114, 32, 97, 114, 101, 32, 119, 97, 110, 116, 101, 100, 44, 32, 97, 110, 100, 32, 110, 111, 116, 32, 111, 110, 101, 32, 119, 111, 114, 100, 32, 116, 119, 105, 99, 101])) (Str.mk (Array.mk [102, 105, 114, 115, 116])) (Str.mk (Array.mk [115, 101, 99, 111, 110, 100])) (Str.mk (Array.mk [98, 111, 116, 104])) (Str.mk (Array.mk [108, 97, 119, 95, 119, 111, 114, 100, 114, 97, 99, 101, 95, 107, 49, 54, 95, 110, 111, 95, 114, 97, 99, 101])) (Str.mk (Array.mk [95, 108, 97, 119, 95, 99, 101, 108, 108, 95, 97, 116])) (Str.mk (Array.mk [115, 99, 114, 105, 112, 116])) (Str.mk (Array.mk [107])) (Str.mk (Array.mk [95, 108, 97, 119, 95, 110, 101, 120, 116])) (Str.mk (Array.mk [115, 101, 101, 100])) (Str.mk (Array.mk [95, 108, 97, 119, 95, 100, 105, 101])) (Str.mk (Array.mk [99, 101, 108, 108])) (Str.mk (Array.mk [95, 108, 97, 119, 95, 116, 104, 114, 111, 119, 110])) (Str.mk (Array.mk [95, 108, 97, 119, 95, 119, 111, 114, 100])) (Str.mk (Array.mk [95, 108, 97, 119, 95, 107, 105, 110, 100])) (Str.mk (Array.mk [101])) (Str.mk (Array.mk [107, 105, 110, 100, 115])) (Str.mk (Array.mk [105, 115, 105, 110, 115, 116, 97, 110, 99, 101])) (Str.mk (Array.mk [99, 111, 117, 110, 116])) (Str.mk (Array.mk [114, 97, 99, 101])) (Str.mk (Array.mk [111, 118, 101, 114])) (Str.mk (Array.mk [110, 111, 116, 101])) (Str.mk (Array.mk [95, 108, 97, 119, 95, 97, 115, 107, 101, 100])) (Str.mk (Array.mk [116, 117, 114, 110])) (Str.mk (Array.mk [95, 108, 97, 119, 95, 116, 114, 105, 101, 100])) (Str.mk (Array.mk [100, 111, 110, 101])) (Str.mk (Array.mk [108, 97, 119])) (Str.mk (Array.mk [112, 105, 101, 99, 101])) (Str.mk (Array.mk [102, 105, 118, 101])) (Str.mk (Array.mk [97, 97, 98])) (Str.mk (Array.mk [97, 98, 98])) (Str.mk (Array.mk [98, 98, 97])) (Str.mk (Array.mk [98, 97, 97])) (Str.mk (Array.mk [98, 97, 98])) (Str.mk (Array.mk [115, 105, 120])) (Str.mk (Array.mk [97, 97, 97])) (Str.mk (Array.mk [98, 98, 98])) (Str.mk (Array.mk [108, 105, 115, 116])) (Str.mk (Array.mk [97])) (Str.mk (Array.mk [47, 99, 108, 97, 105, 109, 47, 99, 117, 116, 46, 112, 121]))
theorem _root_.PySem.W.Fast.te7905913942357450635 : PySem.Challenge.pw_wordrace_k16_no_race = PySem.W.Fast.tw7905913942357450635 := twE.trans (congr (congr (congr (congr (congr (congr (congr (congr (congr (congr (congr (congr (congr (congr (congr (congr (congr (congr (congr (congr (congr (congr (congr (congr (congr (congr (congr (congr (congr (congr (congr (congr (congr (congr (congr (congr (congr (congr (congr (congr (congr (congr (congr (congr (congr (congr (congr (congr (congr (congr (congr (congr (congr (congr (congr (congr (congr (congr (congr (congr (congr (congr (congr (congr (congr (congr (congr (congr (congr (congr (congr (congr (congr (congr (congr (congr (congr (congr (congr (congr (congr (congr (congr (congr (congr (congr (congr (congr (congr (congr (congr (congr (congr (congr (congr (congr (congr (congr (congr (congr (congr (congr (congr (congr (congr (congr (congr (congr (congr (congr (congr (congr (congr (congr (congr (congr (congr (congr (congr (congr (congr (congr (congr (congr (congr (congr (congr (congr (congr (congr (congr (congr (congr (congr (congr (congr (congr (congr (congr (congr (congr (congr (congr (congr (congr (congr (congr (congr (congr (congr (congr (congr (congr (congr (congr (congr (congr (congr (congr (congr (congr (congr (congr (congr (congr (congr (congr (congr (congrArg twG tx0) tx1) tx2) tx3) tx4) tx5) tx6) tx7) tx8) tx9) tx10) tx11) tx12) tx13) tx14) tx15) tx16) tx17) tx18) tx19) tx20) tx21) tx22) tx23) tx24) tx25) tx26) tx27) tx28) tx29) tx30) tx31) tx32) tx33) tx34) tx35) tx36) tx37) tx38) tx39) tx40) tx41) tx42) tx43) tx44) tx45) tx46) tx47) tx48) tx49) tx50) tx51) tx52) tx53) tx54) tx55) tx56) tx57) tx58) tx59) tx60) tx61) tx62) tx63) tx64) tx65) tx66) tx67) tx68) tx69) tx70) tx71) tx72) tx73) tx74) tx75) tx76) tx77) tx78) tx79) tx80) tx81) tx82) tx83) tx84) tx85) tx86) tx87) tx88) tx89) tx90) tx91) tx92) tx93) tx94) tx95) tx96) tx97) tx98) tx99) tx100) tx101) tx102) tx103) tx104) tx105) tx106) tx107) tx108) tx109) tx110) tx111) tx112) tx113) tx114) tx115) tx116) tx117) tx118) tx119) tx120) tx121) tx122) tx123) tx124) tx125) tx126) tx127) tx128) tx129) tx130) tx131) tx132) tx133) tx134) tx135) tx136) tx137) tx138) tx139) tx140) tx141) tx142) tx143) tx144) tx145) tx146) tx147) tx148) tx149) tx150) tx151) tx152) tx153) tx154) tx155) tx156) tx157) tx158) tx159) tx160) tx161) tx162) tx163) tx164) tx165) tx166) tx167) tx168)
def top (i : Nat) : Stmt := PySem.Challenge.pw_wordrace_k16_no_race.main.body.getD i (.Pass ⟨0, 0, 0, 0⟩)
def stt0 : Stmt := top 0
def stt1 : Stmt := top 1
def stt2 : Stmt := top 2
def stt3 : Stmt := top 3
def stt4 : Stmt := top 4
def stt5 : Stmt := top 5
def stt6 : Stmt := top 6
def stt7 : Stmt := top 7
def stt8 : Stmt := top 8
def stt9 : Stmt := top 9
def stt10 : Stmt := top 10
def stt11 : Stmt := top 11
def stt12 : Stmt := top 12
def stt13 : Stmt := top 13
def stt14 : Stmt := top 14
def stt15 : Stmt := top 15
def stt16 : Stmt := top 16
def stt17 : Stmt := top 17
def stt18 : Stmt := top 18
def stt19 : Stmt := top 19
def stt20 : Stmt := top 20
def stt21 : Stmt := top 21
def stt22 : Stmt := top 22
def stt23 : Stmt := top 23
def stt24 : Stmt := top 24
def stt25 : Stmt := top 25
def stt26 : Stmt := top 26
def stt27 : Stmt := top 27
def stt28 : Stmt := top 28
def stt29 : Stmt := top 29
def stt30 : Stmt := top 30
def stt31 : Stmt := top 31
def stt32 : Stmt := top 32
def stt33 : Stmt := top 33
def stt34 : Stmt := top 34
def stt35 : Stmt := top 35
def stt36 : Stmt := top 36
def stt37 : Stmt := top 37
def stt38 : Stmt := top 38
def stt39 : Stmt := top 39
def stt40 : Stmt := top 40
def stt41 : Stmt := top 41
def stt42 : Stmt := top 42
def stt43 : Stmt := top 43
def stt44 : Stmt := top 44
def stt45 : Stmt := top 45
def stt46 : Stmt := top 46
def stt47 : Stmt := top 47
def stt48 : Stmt := top 48
def stt49 : Stmt := top 49
def stt50 : Stmt := top 50
def stt51 : Stmt := top 51
def stt52 : Stmt := top 52
def stt53 : Stmt := top 53
def stt54 : Stmt := top 54
def stt55 : Stmt := top 55
def stt56 : Stmt := top 56
def stt57 : Stmt := top 57
def stt58 : Stmt := top 58
def stt59 : Stmt := top 59
def stt60 : Stmt := top 60
def stt61 : Stmt := top 61
def stt62 : Stmt := top 62
def stt63 : Stmt := top 63
def prV : Program := { PySem.Challenge.pw_wordrace_k16_no_race with main := { PySem.Challenge.pw_wordrace_k16_no_race.main with body := [stt0, stt1, stt2, stt3, stt4, stt5, stt6, stt7, stt8, stt9, stt10, stt11, stt12, stt13, stt14, stt15, stt16, stt17, stt18, stt19, stt20, stt21, stt22, stt23, stt24, stt25, stt26, stt27, stt28, stt29, stt30, stt31, stt32, stt33, stt34, stt35, stt36, stt37, stt38, stt39, stt40, stt41, stt42, stt43, stt44, stt45, stt46, stt47, stt48, stt49, stt50, stt51, stt52, stt53, stt54, stt55, stt56, stt57, stt58, stt59, stt60, stt61, stt62, stt63] } }
theorem prV_eq : PySem.Challenge.pw_wordrace_k16_no_race = prV := by rfl
def lawV : PySem.W.OpenLaw := { PySem.Challenge.rw_wordrace_k16_no_race with prog := prV }
theorem lawV_eq : PySem.Challenge.rw_wordrace_k16_no_race = lawV := by show ({ PySem.Challenge.rw_wordrace_k16_no_race with prog := PySem.Challenge.pw_wordrace_k16_no_race } : PySem.W.OpenLaw) = _; rw [prV_eq]; rfl
abbrev s_signs_of : Stmt := stt18
abbrev s_is_thrown : Stmt := stt19
abbrev s_check_die : Stmt := stt20
abbrev s_check_word : Stmt := stt21
abbrev s_stands_within_another : Stmt := stt22
abbrev s_check_race : Stmt := stt23
abbrev s_beginnings_of : Stmt := stt25
abbrev s_beginnings : Stmt := stt29
abbrev s_state_of : Stmt := stt30
abbrev s_ended : Stmt := stt31
abbrev s_open_rows : Stmt := stt36
abbrev s_ended_rows : Stmt := stt37
abbrev s_shown : Stmt := stt39
abbrev s_state_of_open : Stmt := stt50
abbrev s_shares : Stmt := stt51
abbrev s_mean : Stmt := stt52
abbrev s_odds : Stmt := stt53
abbrev s_law_cell_at : Stmt := stt55
abbrev s_law_next : Stmt := stt56
abbrev s_law_die : Stmt := stt57
abbrev s_law_thrown : Stmt := stt58
abbrev s_law_word : Stmt := stt59
abbrev s_law_kind : Stmt := stt60
abbrev s_law_asked : Stmt := stt61
abbrev s_law_tried : Stmt := stt62
abbrev s_law : Stmt := stt63
structure Bl (mg : Str → Option Value) : Prop where
  len : mg "len" = none
  min : mg "min" = none
  max : mg "max" = none
  all : mg "all" = none
  any : mg "any" = none
  isinstance : mg "isinstance" = none
  sum : mg "sum" = none
  abs : mg "abs" = none
  list : mg "list" = none
  sorted : mg "sorted" = none
  str : mg "str" = none
  range : mg "range" = none
  enumerate : mg "enumerate" = none
  set : mg "set" = none
  zip : mg "zip" = none
  ValueError : mg "ValueError" = none
structure Cs (P : Program) (mg : Str → Option Value) : Prop where
  tree : P.given.tree = none
  SIGNS : ∃ t_SIGNS, mg "SIGNS" = some (.str (S [97, 98, 99, 100]) t_SIGNS)
  LEAST_WEIGHTS : ∃ t_LEAST_WEIGHTS, mg "LEAST_WEIGHTS" = some (.int 2 t_LEAST_WEIGHTS)
  MOST_WEIGHTS : ∃ t_MOST_WEIGHTS, mg "MOST_WEIGHTS" = some (.int 4 t_MOST_WEIGHTS)
  LEAST_WEIGHT : ∃ t_LEAST_WEIGHT, mg "LEAST_WEIGHT" = some (.int 1 t_LEAST_WEIGHT)
  MOST_WEIGHT : ∃ t_MOST_WEIGHT, mg "MOST_WEIGHT" = some (.int 9 t_MOST_WEIGHT)
  MOST_SIGNS : ∃ t_MOST_SIGNS, mg "MOST_SIGNS" = some (.int 6 t_MOST_SIGNS)
  MOST_WORDS : ∃ t_MOST_WORDS, mg "MOST_WORDS" = some (.int 4 t_MOST_WORDS)
  MOST_THROWS : ∃ t_MOST_THROWS, mg "MOST_THROWS" = some (.int 60 t_MOST_THROWS)
local macro_rules | `(tactic| walk_at "go0") => `(tactic| first
  | with_reducible refine g_seq ?_ | with_reducible refine g_asg ?_ | with_reducible refine g_name ?_ | with_reducible refine g_drop ?_ | with_reducible refine g_ret ?_ | with_reducible refine g_next ?_
  | with_reducible refine g_par ?_ | with_reducible refine g_un ?_ | with_reducible refine g_neg ?_ | with_reducible refine g_retN ?_ | with_reducible refine g_sub ?_
  | with_reducible refine g_op ?_ | with_reducible refine g_c ?_ | ((with_reducible refine g_varT ?_); refine ⟨_, rfl, ?_⟩) | with_reducible refine g_rI0 ?_ | ((with_reducible refine g_rI ?c ?_); (case c => first | exact ⟨by decide, by decide⟩ | exact (show (0 : Int) < _ by first | decide | (first | lia | omega)) | exact Or.inl ⟨by decide, by decide⟩ | exact Or.inr ⟨by decide, by decide⟩ | exact Or.inl ⟨by (first | lia | omega), by (first | lia | omega)⟩ | exact Or.inr ⟨by (first | lia | omega), by (first | lia | omega)⟩))
  | with_reducible refine g_test ?_ | with_reducible refine g_tb ?_ | with_reducible refine g_cb ?_ | with_reducible refine g_cons ?_ | with_reducible refine g_nil ?_
  | with_reducible refine g_sl ?_ | with_reducible refine g_nopart ?_ | with_reducible refine g_part ?_ | with_reducible refine g_and ?_ | with_reducible refine g_or ?_ | with_reducible refine g_not ?_
  | with_reducible refine g_andV ?_ | with_reducible refine g_orV ?_ | with_reducible refine g_notV ?_ | with_reducible refine g_call ?_ | with_reducible refine g_bm ?_ | with_reducible refine g_lst ?_ | with_reducible refine g_tup ?_
  | with_reducible refine g_comp ?_ | with_reducible refine g_istr ?_ | with_reducible refine g_ienum ?_ | with_reducible refine g_ilist ?_ | with_reducible refine g_rng1 ?_ | with_reducible refine g_rng2 ?_ | with_reducible refine g_yes ?_ | with_reducible refine g_for ?_
  | with_reducible refine g_dget2 ?_ | with_reducible refine g_dget ?_ | with_reducible refine g_dput ?_ | with_reducible refine g_dnew ?_ | with_reducible refine g_disp1 ?_ | with_reducible refine g_iitems ?_ | with_reducible refine g_izipS ?_ | with_reducible refine g_izipL ?_
  | with_reducible refine g_eqI ?_ | with_reducible refine g_neI ?_ | with_reducible refine g_eqS ?_ | with_reducible refine g_neS ?_ | with_reducible refine g_inS ?_ | with_reducible refine g_ew ?_ | with_reducible refine g_sw ?_ | with_reducible refine g_tyS ?_ | with_reducible refine g_tyL (by assumption) ?_ | with_reducible refine g_tyL (SqL.of (by assumption)) ?_ | with_reducible refine ⟨_, rfl, ?_⟩ | with_reducible refine And.intro rfl ?_ | ((with_reducible refine And.intro (a := _ ≤ sizeLine) ?hz ?_); (case hz => first | decide | exact small (by (first | lia | omega)) | exact small (by simp))))
local macro_rules | `(tactic| walk_at "go1") => `(tactic| first | walk_at "go0" | with_reducible refine g_if ?_)
local macro_rules | `(tactic| walk_at "go") => `(tactic| repeat walk_at "go1")
local macro_rules | `(tactic| walk_at "goJ") => `(tactic| repeat walk_at "go0")
section
variable {P : Program} {w : World} {K : PySem.W.Frag} {mg : Str → Option Value} {base : Heap} {c : Nat → Addr}


def sp_law_next (_ : PySem.W.Frag) : Sp := fun vs H Q _ => ∃ i, vs = [.int i] ∧ ∀ v : Int, 0 ≤ v → v < 2147483629 → Q (.int v) H
theorem sc_law_next : FnScope ["seed"] ["seed"] (defScope s_law_next) := ⟨rfl, rfl, rfl, by decide +kernel, rfl, by decide +kernel, by decide +kernel⟩
theorem ok_law_next {f : Addr} {fd : FuncData} (F : Fun K "_law_next" "_law_next" s_law_next f fd) (M : Bl mg) (T : Cs P mg)  : FnOk P w K mg base CX0 37 f fd ["seed"] (sp_law_next K) := by
  refine F.ok sc_law_next (fun vs H Q E h => ?_) (fun cdv A outer s H vs Q E hr h => ?_)
  · obtain ⟨i, rfl, _⟩ := h; rfl
  · obtain ⟨i, rfl, k⟩ := h
    have b1 := Int.emod_nonneg (i + 7919) (show (2147483647 : Int) ≠ 0 by decide)
    have b2 := Int.emod_lt_of_pos (i + 7919) (show (0 : Int) < 2147483647 by decide)
    refine ⟨_, (pss_cons (ps_set (i := 0) sc_law_next.nd rfl (Or.inl rfl) (pe_op op_mod (pe_op op_add (pv 0) pe_int) pe_int) rfl (Or.inl rfl))
  (pss_one (ps_ret (pe_op op_mod (pe_op op_add (pe_op op_add (pe_op op_mul (pv 0) (pv 0)) (pe_op op_mul pe_int (pv 0))) pe_int) pe_int)))), ?_⟩
    walk_at "go"
    exact k _ (Int.emod_nonneg _ (by decide)) (Int.emod_lt_of_pos _ (by decide))


def sp_law_die (_ : PySem.W.Frag) : Sp := fun vs H Q _ => ∃ c : Int, vs = [.int c] ∧ ∀ a ns H', DieOk ns → H a = none → Same H H' → H' a = some (.lst (ns.map V.int)) → Q (.ref a) H'
theorem sc_law_die : FnScope ["cell", "many"] ["cell"] (defScope s_law_die) := ⟨rfl, rfl, rfl, by decide +kernel, rfl, by decide +kernel, by decide +kernel⟩
theorem ok_law_die {f : Addr} {fd : FuncData} (F : Fun K "_law_die" "_law_die" s_law_die f fd) (M : Bl mg) (T : Cs P mg) {f_law_next : Addr} {fd_law_next : FuncData} (D_law_next : Df P w K mg base "_law_next" 37 f_law_next fd_law_next ["seed"] (sp_law_next K)) : FnOk P w K mg base CX0 38 f fd ["cell"] (sp_law_die K) := by
  refine F.ok sc_law_die (fun vs H Q E h => ?_) (fun cdv A outer s H vs Q E hr h => ?_)
  · obtain ⟨c, rfl, _⟩ := h; rfl
  · obtain ⟨c, rfl, k⟩ := h
    have b1 := Int.emod_nonneg c (show (3 : Int) ≠ 0 by decide)
    have b2 := Int.emod_lt_of_pos c (show (0 : Int) < 3 by decide)
    have fin : ∀ {D : Addr} {H' : Hp} {ys : List V}, H D = none → Same H H' → H' D = some (.lst ys) → All2 (fun (_ : Nat) y => ∃ n : Int, y = V.int n ∧ 1 ≤ n ∧ n ≤ 9) (List.range (2 + c % 3).toNat) ys → Q (.ref D) H' := fun {D H' ys} hD t1 hy ha => by
      obtain ⟨ns, rfl, hl, hp⟩ := all2_ints ha
      rw [List.length_range] at hl
      exact k D ns H' ⟨by (first | lia | omega), by (first | lia | omega), hp⟩ hD t1 hy
    refine ⟨_, (pss_cons (ps_set (i := 1) sc_law_die.nd rfl (Or.inl rfl) (pe_op op_add pe_int (pe_op op_mod (pv 0) pe_int)) rfl (Or.inl rfl))
  (pss_cons (ps_if (pt_cmpR op_eq (pe_op op_mod (pe_op op_fdiv (pv 0) pe_int) pe_int) pe_int (nomark _))
  (pss_one (ps_ret (pe_compD (defScope s_law_die) ["cell", "many"] ["k"] [none] ⟨rfl, by decide +kernel, by decide +kernel, by decide +kernel, by decide +kernel, rfl, by decide +kernel⟩ (pi_range1 (by rfl) M.range (pa_cons (pv 1) pa_nil rfl) rfl) (fun s3 H3 C fp => ⟨pgb (i := 0) (by decide +kernel) rfl rfl, pif_nil, pe_int⟩) rfl rfl rfl (fun _ => rfl))))
  pss_nil)
  (pss_one (ps_ret (pe_compD (defScope s_law_die) ["cell", "many"] ["k", "cell"] [none, some 0] ⟨rfl, by decide +kernel, by decide +kernel, by decide +kernel, by decide +kernel, rfl, by decide +kernel⟩ (pi_range1 (by rfl) M.range (pa_cons (pv 1) pa_nil rfl) rfl) (fun s3 H3 C fp => ⟨pgb (i := 0) (by decide +kernel) rfl rfl, pif_nil, (pe_op op_add pe_int (pe_op op_mod (pe_op op_fdiv (pe_callD D_law_next hr (glb rfl) (pa_cons (pe_op op_add (pe_op op_fdiv (pvb 1) pe_int) (pe_op op_mul pe_int (pvb 0))) pa_nil rfl) (by decide) (by decide) rfl rfl) pe_int) pe_int))⟩) rfl rfl rfl (fun _ => rfl)))))), ?_⟩
    walk_at "go"
    refine g_ite (fun _ => ?_) (fun _ => ?_)
    · walk_at "go"
      refine ⟨by (first | lia | omega), by (first | lia | omega), ?_⟩
      intro D hD
      refine comp_genT (fun _ y _ => ∃ n : Int, y = V.int n ∧ 1 ≤ n ∧ n ≤ 9) (goes_range 0 _ _) hD (by rw [List.length_range]; exact small (by (first | lia | omega))) (fun _ _ _ _ _ h => h) (fun j hj H' R t1 _ k1 => ?_) (fun H' ys t1 hy ha => fin hD t1 hy ha)
      walk_at "go"
      exact k1 _ _ (Same.refl _) ⟨1, rfl, by decide, by decide⟩
    · walk_at "go"
      refine ⟨by (first | lia | omega), by (first | lia | omega), ?_⟩
      intro D hD
      refine comp_genT (fun _ y _ => ∃ n : Int, y = V.int n ∧ 1 ≤ n ∧ n ≤ 9) (goes_range 0 _ _) hD (by rw [List.length_range]; exact small (by (first | lia | omega))) (fun _ _ _ _ _ h => h) (fun j hj H' R t1 _ k1 => ?_) (fun H' ys t1 hy ha => fin hD t1 hy ha)
      walk_at "go"
      refine ⟨_, rfl, fun v v0 v1 => ?_⟩
      walk_at "go"
      have c1 := Int.emod_nonneg (v / 7) (show (9 : Int) ≠ 0 by decide)
      have c2 := Int.emod_lt_of_pos (v / 7) (show (0 : Int) < 9 by decide)
      exact k1 _ _ (Same.refl _) ⟨_, rfl, by (first | lia | omega), by (first | lia | omega)⟩


def sp_law_thrown (_ : PySem.W.Frag) : Sp := fun vs H Q _ => ∃ c m g : Int, vs = [.int c, .int m, .int g] ∧ 0 ≤ m ∧ m ≤ 100 ∧ 1 ≤ g ∧ g ≤ 4 ∧ ∀ l : List Nat, l.length = m.toNat → (∀ x ∈ l, x ∈ abcd.take g.toNat) → Q (.str (S l)) H
theorem abcd_at {v g : Int} (h1 : 1 ≤ g) (h2 : g ≤ 4) : ∃ x, atI abcd (v % g) = some x ∧ x ∈ abcd.take g.toNat := by
  have c1 := Int.emod_nonneg v (show g ≠ 0 by (first | lia | omega))
  have c2 := Int.emod_lt_of_pos v (show 0 < g by (first | lia | omega))
  obtain ⟨n, hn⟩ := Int.eq_ofNat_of_zero_le c1
  have hn' : v % g = (n : Int) := hn
  rw [hn'] at c2 ⊢
  have hl : abcd.length = 4 := rfl
  have h4 : n < abcd.length := by (first | lia | omega)
  refine ⟨abcd[n], atI_nat (List.getElem?_eq_getElem h4), ?_⟩
  rw [List.mem_take_iff_getElem]
  exact ⟨n, by (first | lia | omega), rfl⟩
theorem sc_law_thrown : FnScope ["cell", "many", "signs", "text", "seed", "k"] ["cell", "many", "signs"] (defScope s_law_thrown) := ⟨rfl, rfl, rfl, by decide +kernel, rfl, by decide +kernel, by decide +kernel⟩
theorem ok_law_thrown {f : Addr} {fd : FuncData} (F : Fun K "_law_thrown" "_law_thrown" s_law_thrown f fd) (M : Bl mg) (T : Cs P mg) {f_law_next : Addr} {fd_law_next : FuncData} (D_law_next : Df P w K mg base "_law_next" 37 f_law_next fd_law_next ["seed"] (sp_law_next K)) : FnOk P w K mg base CX0 38 f fd ["cell", "many", "signs"] (sp_law_thrown K) := by
  refine F.ok sc_law_thrown (fun vs H Q E h => ?_) (fun cdv A outer s H vs Q E hr h => ?_)
  · obtain ⟨c, m, g, rfl, _⟩ := h; rfl
  · obtain ⟨c, m, g, rfl, m0, m1, g0, g1, k⟩ := h
    refine ⟨_, (pss_cons (ps_set (i := 3) sc_law_thrown.nd rfl (Or.inl rfl) (pe_strS [] (by decide +kernel)) rfl (Or.inl rfl))
  (pss_cons (ps_set (i := 4) sc_law_thrown.nd rfl (Or.inl rfl) (pe_callD D_law_next hr (by rfl) (pa_cons (pv 0) pa_nil rfl) (by decide) (by decide) rfl rfl) rfl (Or.inl rfl))
  (pss_cons (ps_for PassesOwn.never rfl (pi_range1 (by rfl) M.range (pa_cons (pv 1) pa_nil rfl) rfl) (pg_name (i := 5) sc_law_thrown.nd rfl (Or.inl rfl) (Or.inl rfl))
  (pss_cons (ps_set (i := 3) sc_law_thrown.nd rfl (Or.inl rfl) (pe_op op_addS (pv 3) (pe_ix ix_S (pe_strS [97, 98, 99, 100] (by decide +kernel)) (pe_op op_mod (pe_op op_fdiv (pv 4) pe_int) (pv 2)) (fun _ _ => rfl))) rfl (Or.inl rfl))
    (pss_one (ps_set (i := 4) sc_law_thrown.nd rfl (Or.inl rfl) (pe_callD D_law_next hr (by rfl) (pa_cons (pe_op op_add (pv 4) (pv 5)) pa_nil rfl) (by decide) (by decide) rfl rfl) rfl (Or.inl rfl)))) (fun _ => rfl))
  (pss_one (ps_ret (pv 3)))))), ?_⟩
    walk_at "go"
    refine ⟨_, rfl, fun v v0 v1 => ?_⟩
    walk_at "go"
    refine ⟨by (first | lia | omega), by (first | lia | omega), ?_⟩
    refine forR (fun i σ H2 => ∃ (l : List Nat) (u : Int) (kk : Option V), H2 = H ∧ σ = [some (.int c), some (.int m), some (.int g), some (.str (S l)), some (.int u), kk] ∧ l.length = i ∧ ∀ x ∈ l, x ∈ abcd.take g.toNat) ⟨[], v, none, rfl, rfl, rfl, by simp⟩ ?_ ?_
    · rintro i σ H2 hi ⟨l, u, kk, rfl, rfl, hl, hx⟩
      walk_at "go"
      obtain ⟨x, e, hx'⟩ := abcd_at (v := u / 7) g0 g1
      refine g_ixS (by decide) e ?_
      refine g_addS (by rw [List.length_singleton]; exact small (by (first | lia | omega))) ?_
      walk_at "go"
      refine ⟨_, rfl, fun u' _ _ => ?_⟩
      walk_at "go"
      refine ⟨l ++ [x], u', some (.int (0 + i)), rfl, rfl, by simp [hl], fun y hy => ?_⟩
      rcases List.mem_append.mp hy with z | z
      · exact hx y z
      · have : y = x := by simpa using z
        subst this; exact hx'
    · rintro σ H2 ⟨l, u, kk, rfl, rfl, hl, hx⟩
      walk_at "go"
      exact k l hl hx


def sp_law_word (_ : PySem.W.Frag) : Sp := fun vs H Q _ => ∃ c g : Int, vs = [.int c, .int g] ∧ 1 ≤ g ∧ g ≤ 4 ∧ ∀ l : List Nat, WordOk g.toNat l → Q (.str (S l)) H
theorem rep_take {n : Nat} {l : List Nat} (hw : WordOk n l) {k : Nat} (hk : 1 ≤ k) : WordOk n ((List.replicate 6 (l.take k)).flatten.take l.length) := by
  have h1 := hw.lo
  have h2 := hw.hi
  have hlen : 1 ≤ (l.take k).length := by rw [List.length_take]; (first | lia | omega)
  have hf : (List.replicate 6 (l.take k)).flatten.length = 6 * (l.take k).length := by simp; (first | lia | omega)
  have ht : ((List.replicate 6 (l.take k)).flatten.take l.length).length = l.length := by rw [List.length_take, hf]; (first | lia | omega)
  refine ⟨by rw [ht]; exact h1, by rw [ht]; exact h2, fun c hc => ?_⟩
  have hc := List.mem_of_mem_take hc
  rw [List.mem_flatten] at hc
  obtain ⟨r, hr, hcr⟩ := hc
  have := List.eq_of_mem_replicate hr
  subst this
  exact hw.s c (List.mem_of_mem_take hcr)
theorem sc_law_word : FnScope ["cell", "signs", "word"] ["cell", "signs"] (defScope s_law_word) := ⟨rfl, rfl, rfl, by decide +kernel, rfl, by decide +kernel, by decide +kernel⟩
theorem ok_law_word {f : Addr} {fd : FuncData} (F : Fun K "_law_word" "_law_word" s_law_word f fd) (M : Bl mg) (T : Cs P mg) {f_law_thrown : Addr} {fd_law_thrown : FuncData} (D_law_thrown : Df P w K mg base "_law_thrown" 38 f_law_thrown fd_law_thrown ["cell", "many", "signs"] (sp_law_thrown K)) : FnOk P w K mg base CX0 39 f fd ["cell", "signs"] (sp_law_word K) := by
  refine F.ok sc_law_word (fun vs H Q E h => ?_) (fun cdv A outer s H vs Q E hr h => ?_)
  · obtain ⟨c, g, rfl, _⟩ := h; rfl
  · obtain ⟨c, g, rfl, g0, g1, k⟩ := h
    have b1 := Int.emod_nonneg c (show (6 : Int) ≠ 0 by decide)
    have b2 := Int.emod_lt_of_pos c (show (0 : Int) < 6 by decide)
    refine ⟨_, (pss_cons (ps_set (i := 2) sc_law_word.nd rfl (Or.inl rfl) (pe_callD D_law_thrown hr (by rfl) (pa_cons (pe_op op_fdiv (pv 0) pe_int) (pa_cons (pe_op op_add pe_int (pe_op op_mod (pv 0) pe_int)) (pa_cons (pv 1) pa_nil rfl) rfl) rfl) (by decide) (by decide) rfl rfl) rfl (Or.inl rfl))
  (pss_cons (ps_if (pt_cmpR op_eq (pe_op op_mod (pe_op op_fdiv (pv 0) pe_int) pe_int) pe_int (nomark _))
  (pss_one (ps_set (i := 2) sc_law_word.nd rfl (Or.inl rfl) (pe_slice sl_str (pe_op op_mulS (pe_slice sl_str (pv 2) po_none (po_some (pe_op op_add pe_int (pe_op op_mod (pe_op op_fdiv (pv 0) pe_int) pe_int)))) pe_int) po_none (po_some (pe_callB call_lenS (by rfl) M.len PySem.boot_len (pa_cons (pv 2) pa_nil rfl) (by decide) (by decide) rfl rfl))) rfl (Or.inl rfl)))
  pss_nil)
  (pss_one (ps_ret (pv 2))))), ?_⟩
    walk_at "go"
    refine ⟨_, _, _, rfl, by (first | lia | omega), by (first | lia | omega), by (first | lia | omega), by (first | lia | omega), fun l hl hx => ?_⟩
    have hw : WordOk g.toNat l := ⟨by (first | lia | omega), by (first | lia | omega), hx⟩
    walk_at "go"
    refine g_ite (fun _ => ?_) (fun _ => ?_)
    · have d1 := Int.emod_nonneg (c / 24) (show (2 : Int) ≠ 0 by decide)
      have d2 := Int.emod_lt_of_pos (c / 24) (show (0 : Int) < 2 by decide)
      walk_at "go"
      refine g_slS (small (by (first | lia | omega))) ?_
      obtain ⟨n, hn⟩ := Int.eq_ofNat_of_zero_le (show 0 ≤ 1 + c / 24 % 2 by (first | lia | omega))
      have hn' : 1 + c / 24 % 2 = (n : Int) := hn
      rw [hn', cutL_to]
      walk_at "go"
      refine ⟨_, 6, rfl, rfl, by decide, by rw [List.length_take]; (first | lia | omega), ?_⟩
      walk_at "go"
      refine g_slS (by
        have : (List.replicate 6 (l.take n)).flatten.length = 6 * (l.take n).length := by simp; (first | lia | omega)
        rw [this, List.length_take]; exact small (by (first | lia | omega))) ?_
      rw [cutL_to]
      walk_at "go"
      exact k _ (rep_take hw (by (first | lia | omega)))
    · walk_at "go"
      exact k l hw


def sp_law_cell_at (K : PySem.W.Frag) : Sp := fun vs H Q _ => ∃ a, ∃ ns : List Int, ∃ k : Nat, vs = [.ref a, .int k] ∧ SqL K H a (ns.map V.int) ∧ ∀ v, Q (.int v) H
theorem sc_law_cell_at : FnScope ["script", "k"] ["script", "k"] (defScope s_law_cell_at) := ⟨rfl, rfl, rfl, by decide +kernel, rfl, by decide +kernel, by decide +kernel⟩
theorem ok_law_cell_at {f : Addr} {fd : FuncData} (F : Fun K "_law_cell_at" "_law_cell_at" s_law_cell_at f fd) (M : Bl mg) (T : Cs P mg)  : FnOk P w K mg base CX0 37 f fd ["script", "k"] (sp_law_cell_at K) := by
  refine F.ok sc_law_cell_at (fun vs H Q E h => ?_) (fun cdv A outer s H vs Q E hr h => ?_)
  · obtain ⟨a, ns, k, rfl, _⟩ := h; rfl
  · obtain ⟨a, ns, k, rfl, hS, q⟩ := h
    have hl : (ns.map V.int).length = ns.length := List.length_map ..
    refine ⟨_, (pss_cons (ps_if (pt_cmpR op_lt (pv 1) (pe_callB (call_lenK K rfl) (by rfl) M.len PySem.boot_len (pa_cons (pv 0) pa_nil rfl) (by decide) (by decide) rfl rfl) (nomark _))
  (pss_one (ps_ret (pe_ix (ix_listK K rfl) (pv 0) (pv 1) (fun _ _ => rfl))))
  pss_nil)
  (pss_one (ps_ret pe_int))), ?_⟩
    walk_at "go"
    refine ⟨_, _, rfl, .inl hS, ?_⟩
    walk_at "go"
    refine g_ite (fun hk => ?_) (fun hk => ?_)
    · walk_at "go"
      have hk' : k < ns.length := by (first | lia | omega)
      exact g_ixL hS (atI_nat (v := V.int ns[k]) (by rw [List.getElem?_map, List.getElem?_eq_getElem hk']; rfl)) (q _)
    · walk_at "go"
      exact q _


def sp_check_die (K : PySem.W.Frag) : Sp := fun vs H Q _ => ∃ a ns, vs = [.ref a] ∧ SqL K H a (ns.map V.int) ∧ DieOk ns ∧ Q .non H
theorem sc_check_die : FnScope ["die"] ["die"] (defScope s_check_die) := ⟨rfl, rfl, rfl, by decide +kernel, rfl, by decide +kernel, by decide +kernel⟩
theorem ok_check_die {f : Addr} {fd : FuncData} (F : Fun K "check_die" "check_die" s_check_die f fd) (M : Bl mg) (T : Cs P mg)  : FnOk P w K mg base CX0 37 f fd ["die"] (sp_check_die K) := by
  refine F.ok sc_check_die (fun vs H Q E h => ?_) (fun cdv A outer s H vs Q E hr h => ?_)
  · obtain ⟨a, ns, rfl, _⟩ := h; rfl
  · obtain ⟨a, ns, rfl, hS, hd, k⟩ := h
    have hl : (ns.map V.int).length = ns.length := List.length_map ..
    have h1 := hd.lo
    have h2 := hd.hi
    have hne : ns ≠ [] := by intro z; subst z; simp at h1
    refine ⟨_, (pss_cons (ps_if (PW.pt (pw_or (pt_cmpR op_lt (pe_callB (call_lenK K rfl) (by rfl) M.len PySem.boot_len (pa_cons (pv 0) pa_nil rfl) (by decide) (by decide) rfl rfl) (pe_gI (by rfl) T.LEAST_WEIGHTS (by decide)) (nomark _)) (pw_or1 (pt_cmpR op_gt (pe_callB (call_lenK K rfl) (by rfl) M.len PySem.boot_len (pa_cons (pv 0) pa_nil rfl) (by decide) (by decide) rfl rfl) (pe_gI (by rfl) T.MOST_WEIGHTS (by decide)) (nomark _)))))
  (pss_one ps_never)
  pss_nil)
  (pss_one (ps_if (PW.pt (pw_or (pt_cmpR op_lt (pe_callB (call_minK K rfl rfl) (by rfl) M.min boot_min (pa_cons (pv 0) pa_nil rfl) (by decide) (by decide) rfl rfl) (pe_gI (by rfl) T.LEAST_WEIGHT (by decide)) (nomark _)) (pw_or1 (pt_cmpR op_gt (pe_callB (call_maxK K rfl rfl) (by rfl) M.max boot_max (pa_cons (pv 0) pa_nil rfl) (by decide) (by decide) rfl rfl) (pe_gI (by rfl) T.MOST_WEIGHT (by decide)) (nomark _)))))
  (pss_one ps_never)
  pss_nil))), ?_⟩
    walk_at "go"
    refine ⟨_, _, rfl, .inl hS, ?_⟩
    walk_at "go"
    refine iteFd (by (first | lia | omega)) ?_
    walk_at "go"
    refine ⟨_, _, rfl, .inl hS, ?_⟩
    walk_at "go"
    refine iteFd (by (first | lia | omega)) ?_
    walk_at "go"
    refine ⟨a, ns, rfl, hS, hne, fun M hM _ => ?_⟩
    have hM' := hd.w M hM
    walk_at "go"
    refine iteFd (by (first | lia | omega)) ?_
    walk_at "go"
    refine ⟨a, ns, rfl, hS, hne, fun M2 hM2 _ => ?_⟩
    have hM2' := hd.w M2 hM2
    walk_at "go"
    refine iteFd (by (first | lia | omega)) ?_
    walk_at "go"
    exact k

def sp_check_dieR (K : PySem.W.Frag) (c : Nat → Addr) : Sp := fun vs H Q E => ∃ a ns, vs = [.ref a] ∧ SqL K H a (ns.map V.int) ∧ ¬ DieOk ns ∧ ∀ ea, H ea = none → E (.ref (c 0)) (some ea) H
theorem okR_check_die {f : Addr} {fd : FuncData} (F : Fun K "check_die" "check_die" s_check_die f fd) (M : Bl mg) (T : Cs P mg) (Y : Xc K mg c)  : FnOk P w K mg base (CX1 P w) 37 f fd ["die"] (sp_check_dieR K c) := by
  refine F.okG sc_check_die (fun vs H Q E h => ?_) (fun cdv A outer s H vs Q E hr h => ?_)
  · obtain ⟨a, ns, rfl, _⟩ := h; rfl
  · obtain ⟨a, ns, rfl, hS, hd, k⟩ := h
    have hl : (ns.map V.int).length = ns.length := List.length_map ..
    by_cases h24 : 2 ≤ ns.length ∧ ns.length ≤ 4
    · have hne : ns ≠ [] := by intro z; subst z; simp at h24
      refine ⟨_, (pss_cons (ps_if (PW.pt (pw_or (pt_cmpR op_lt (pe_callB (call_lenK K rfl) (by rfl) M.len PySem.boot_len (pa_cons (pv 0) pa_nil rfl) (by decide) (by decide) rfl rfl) (pe_gI (by rfl) T.LEAST_WEIGHTS (by decide)) (nomark _)) (pw_or1 (pt_cmpR op_gt (pe_callB (call_lenK K rfl) (by rfl) M.len PySem.boot_len (pa_cons (pv 0) pa_nil rfl) (by decide) (by decide) rfl rfl) (pe_gI (by rfl) T.MOST_WEIGHTS (by decide)) (nomark _)))))
  (pss_one ps_never)
  pss_nil)
  (pss_one (ps_if (PW.pt (pw_or (pt_cmpR op_lt (pe_callB (call_minK K rfl rfl) (by rfl) M.min boot_min (pa_cons (pv 0) pa_nil rfl) (by decide) (by decide) rfl rfl) (pe_gI (by rfl) T.LEAST_WEIGHT (by decide)) (nomark _)) (pw_or1 (pt_cmpR op_gt (pe_callB (call_maxK K rfl rfl) (by rfl) M.max boot_max (pa_cons (pv 0) pa_nil rfl) (by decide) (by decide) rfl rfl) (pe_gI (by rfl) T.MOST_WEIGHT (by decide)) (nomark _)))))
  (pss_one (ps_raise hr.hd (Y.e 0 (by decide) Y.m0) (by rfl) (pe_strS [97, 32, 119, 101, 105, 103, 104, 116, 32, 105, 115, 32, 97, 32, 110, 117, 109, 98, 101, 114, 32, 102, 114, 111, 109, 32, 49, 32, 116, 111, 32, 57] (by decide +kernel)) rfl (by decide)))
  pss_nil))), ?_⟩
      walk_at "go"
      refine ⟨_, _, rfl, .inl hS, ?_⟩
      walk_at "go"
      refine iteFd (by (first | lia | omega)) ?_
      walk_at "go"
      refine ⟨_, _, rfl, .inl hS, ?_⟩
      walk_at "go"
      refine iteFd (by (first | lia | omega)) ?_
      walk_at "go"
      refine ⟨a, ns, rfl, hS, hne, fun M hM hm => ?_⟩
      walk_at "go"
      refine g_ite (fun _ => ?_) (fun h1 => ?_)
      · walk_at "go"
        exact fun ea he => k ea he
      · walk_at "go"
        refine ⟨a, ns, rfl, hS, hne, fun M2 hM2 hm2 => ?_⟩
        walk_at "go"
        refine iteTd ?_ ?_
        · refine Classical.byContradiction fun z => hd ⟨h24.1, h24.2, fun n hn => ⟨?_, ?_⟩⟩
          · have := hm n hn; (first | lia | omega)
          · have := hm2 n hn; (first | lia | omega)
        · walk_at "go"
          exact fun ea he => k ea he
    · refine ⟨_, (pss_cons (ps_if (PW.pt (pw_or (pt_cmpR op_lt (pe_callB (call_lenK K rfl) (by rfl) M.len PySem.boot_len (pa_cons (pv 0) pa_nil rfl) (by decide) (by decide) rfl rfl) (pe_gI (by rfl) T.LEAST_WEIGHTS (by decide)) (nomark _)) (pw_or1 (pt_cmpR op_gt (pe_callB (call_lenK K rfl) (by rfl) M.len PySem.boot_len (pa_cons (pv 0) pa_nil rfl) (by decide) (by decide) rfl rfl) (pe_gI (by rfl) T.MOST_WEIGHTS (by decide)) (nomark _)))))
  (pss_one (ps_raise hr.hd (Y.e 0 (by decide) Y.m0) (by rfl) (pe_strS [97, 32, 100, 105, 101, 32, 104, 97, 115, 32, 50, 32, 116, 111, 32, 52, 32, 119, 101, 105, 103, 104, 116, 115] (by decide +kernel)) rfl (by decide)))
  pss_nil)
  pss_never), ?_⟩
      walk_at "go"
      refine ⟨_, _, rfl, .inl hS, ?_⟩
      walk_at "go"
      refine g_ite (fun _ => ?_) (fun h1 => ?_)
      · walk_at "go"
        exact fun ea he => k ea he
      · walk_at "go"
        refine ⟨_, _, rfl, .inl hS, ?_⟩
        walk_at "go"
        refine iteTd (by (first | lia | omega)) ?_
        walk_at "go"
        exact fun ea he => k ea he


def sp_signs_of (K : PySem.W.Frag) : Sp := fun vs H Q _ => ∃ a xs, vs = [.ref a] ∧ SqL K H a xs ∧ Q (.str (S (abcd.take xs.length))) H
theorem sc_signs_of : FnScope ["die"] ["die"] (defScope s_signs_of) := ⟨rfl, rfl, rfl, by decide +kernel, rfl, by decide +kernel, by decide +kernel⟩
theorem ok_signs_of {f : Addr} {fd : FuncData} (F : Fun K "signs_of" "signs_of" s_signs_of f fd) (M : Bl mg) (T : Cs P mg)  : FnOk P w K mg base CX0 37 f fd ["die"] (sp_signs_of K) := by
  refine F.ok sc_signs_of (fun vs H Q E h => ?_) (fun cdv A outer s H vs Q E hr h => ?_)
  · obtain ⟨a, xs, rfl, _⟩ := h; rfl
  · obtain ⟨a, xs, rfl, hS, k⟩ := h
    refine ⟨_, (pss_one (ps_ret (pe_slice sl_str (pe_gS (by rfl) T.SIGNS (by decide)) po_none (po_some (pe_callB (call_lenK K rfl) (by rfl) M.len PySem.boot_len (pa_cons (pv 0) pa_nil rfl) (by decide) (by decide) rfl rfl))))), ?_⟩
    walk_at "go"
    refine ⟨_, _, rfl, .inl hS, ?_⟩
    walk_at "go"
    refine g_slS (by decide) ?_
    rw [cutL_to]
    exact k


def sp_is_thrown (K : PySem.W.Frag) : Sp := fun vs H Q _ => ∃ a xs l, vs = [.ref a, .str (S l)] ∧ SqL K H a xs ∧ l.length ≤ 1000 ∧ ∀ H', Same H H' → Q (.bl (l.all fun c => decide (c ∈ abcd.take xs.length))) H'
theorem sc_is_thrown : FnScope ["die", "text", "signs"] ["die", "text"] (defScope s_is_thrown) := ⟨rfl, rfl, rfl, by decide +kernel, rfl, by decide +kernel, by decide +kernel⟩
theorem ok_is_thrown {f : Addr} {fd : FuncData} (F : Fun K "is_thrown" "is_thrown" s_is_thrown f fd) (M : Bl mg) (T : Cs P mg) {f_signs_of : Addr} {fd_signs_of : FuncData} (D_signs_of : Df P w K mg base "signs_of" 37 f_signs_of fd_signs_of ["die"] (sp_signs_of K)) : FnOk P w K mg base CX0 38 f fd ["die", "text"] (sp_is_thrown K) := by
  refine F.ok sc_is_thrown (fun vs H Q E h => ?_) (fun cdv A outer s H vs Q E hr h => ?_)
  · obtain ⟨a, xs, l, rfl, _⟩ := h; rfl
  · obtain ⟨a, xs, l, rfl, hS, hl, k⟩ := h
    refine ⟨_, (pss_cons (ps_set (i := 2) sc_is_thrown.nd rfl (Or.inr rfl) (pe_callD D_signs_of hr (by rfl) (pa_cons (pv 0) pa_nil rfl) (by decide) (by decide) rfl rfl) rfl (Or.inl rfl))
  (pss_one (ps_ret (pe_callB (call_allK K rfl rfl) (by rfl) M.all boot_all (pa_cons (pe_compD (defScope s_is_thrown) ["die", "text", "signs"] ["sign", "signs"] [none, some 2] ⟨rfl, by decide +kernel, by decide +kernel, by decide +kernel, by decide +kernel, rfl, by decide +kernel⟩ (pi_str (pv 1)) (fun s3 H3 C fp => ⟨pgb (i := 0) (by decide +kernel) rfl rfl, pif_nil, (pe_cmpR op_inS (pvb 0) (pvb 1) (by with_unfolding_all rfl))⟩) rfl rfl rfl (fun _ => rfl)) pa_nil rfl) (by decide) (by decide) rfl rfl)))), ?_⟩
    walk_at "go"
    refine ⟨a, xs, rfl, hS, ?_⟩
    walk_at "go"
    intro D hD
    refine comp_map (fun c => V.bl (decide (c ∈ abcd.take xs.length))) (goes_str l _) hD (small hl) (fun c hc H' R s1 k1 => ?_) (fun H' s1 hy => ?_)
    · walk_at "go"
      rw [within_one]
      exact k1 _ (Same.refl _)
    · walk_at "go"
      refine ⟨D, l.map fun c => decide (c ∈ abcd.take xs.length), rfl, SqL.of (by rw [hy]; simp), ?_⟩
      have e : (l.map fun c => decide (c ∈ abcd.take xs.length)).all id = l.all fun c => decide (c ∈ abcd.take xs.length) := by rw [List.all_map]; rfl
      rw [e]
      exact k H' s1


def sp_check_word (K : PySem.W.Frag) : Sp := fun vs H Q _ => ∃ a xs l, vs = [.ref a, .str (S l)] ∧ SqL K H a xs ∧ WordOk xs.length l ∧ ∀ H', Same H H' → Q .non H'
theorem sc_check_word : FnScope ["die", "word"] ["die", "word"] (defScope s_check_word) := ⟨rfl, rfl, rfl, by decide +kernel, rfl, by decide +kernel, by decide +kernel⟩
theorem ok_check_word {f : Addr} {fd : FuncData} (F : Fun K "check_word" "check_word" s_check_word f fd) (M : Bl mg) (T : Cs P mg) {f_is_thrown : Addr} {fd_is_thrown : FuncData} (D_is_thrown : Df P w K mg base "is_thrown" 38 f_is_thrown fd_is_thrown ["die", "text"] (sp_is_thrown K)) : FnOk P w K mg base CX0 39 f fd ["die", "word"] (sp_check_word K) := by
  refine F.ok sc_check_word (fun vs H Q E h => ?_) (fun cdv A outer s H vs Q E hr h => ?_)
  · obtain ⟨a, xs, l, rfl, _⟩ := h; rfl
  · obtain ⟨a, xs, l, rfl, hS, hw, k⟩ := h
    have h1 := hw.lo
    have h2 := hw.hi
    refine ⟨_, (pss_cons (ps_if (PW.pt (pw_or (pt_cmpR op_lt (pe_callB call_lenS (by rfl) M.len PySem.boot_len (pa_cons (pv 1) pa_nil rfl) (by decide) (by decide) rfl rfl) pe_int (nomark _)) (pw_or1 (pt_cmpR op_gt (pe_callB call_lenS (by rfl) M.len PySem.boot_len (pa_cons (pv 1) pa_nil rfl) (by decide) (by decide) rfl rfl) (pe_gI (by rfl) T.MOST_SIGNS (by decide)) (nomark _)))))
  (pss_one ps_never)
  pss_nil)
  (pss_one (ps_if (pt_not (pt_val (pe_callD D_is_thrown hr (by rfl) (pa_cons (pv 0) (pa_cons (pv 1) pa_nil rfl) rfl) (by decide) (by decide) rfl rfl) (fun _ => rfl)))
  (pss_one ps_never)
  pss_nil))), ?_⟩
    walk_at "go"
    refine iteFd (by (first | lia | omega)) ?_
    walk_at "go"
    refine iteFd (by (first | lia | omega)) ?_
    walk_at "go"
    refine ⟨a, xs, l, rfl, hS, by (first | lia | omega), fun H' s1 => ?_⟩
    have e : (l.all fun c => decide (c ∈ abcd.take xs.length)) = true := by
      rw [List.all_eq_true]
      exact fun c hc => decide_eq_true (hw.s c hc)
    rw [e]
    walk_at "go"
    refine iteF ?_
    walk_at "go"
    exact k H' s1

def sp_check_wordR (K : PySem.W.Frag) (c : Nat → Addr) : Sp := fun vs H Q E => ∃ a xs l, vs = [.ref a, .str (S l)] ∧ SqL K H a xs ∧ l.length ≤ 1000 ∧ ¬ WordOk xs.length l ∧ ∀ H' ea, Same H H' → H' ea = none → E (.ref (c 1)) (some ea) H'
theorem okR_check_word {f : Addr} {fd : FuncData} (F : Fun K "check_word" "check_word" s_check_word f fd) (M : Bl mg) (T : Cs P mg) (Y : Xc K mg c) {f_is_thrown : Addr} {fd_is_thrown : FuncData} (D_is_thrown : Df P w K mg base "is_thrown" 38 f_is_thrown fd_is_thrown ["die", "text"] (sp_is_thrown K)) : FnOk P w K mg base (CX1 P w) 39 f fd ["die", "word"] (sp_check_wordR K c) := by
  refine F.okG sc_check_word (fun vs H Q E h => ?_) (fun cdv A outer s H vs Q E hr h => ?_)
  · obtain ⟨a, xs, l, rfl, _⟩ := h; rfl
  · obtain ⟨a, xs, l, rfl, hS, hl, hw, k⟩ := h
    by_cases h16 : 1 ≤ l.length ∧ l.length ≤ 6
    · refine ⟨_, (pss_cons (ps_if (PW.pt (pw_or (pt_cmpR op_lt (pe_callB call_lenS (by rfl) M.len PySem.boot_len (pa_cons (pv 1) pa_nil rfl) (by decide) (by decide) rfl rfl) pe_int (nomark _)) (pw_or1 (pt_cmpR op_gt (pe_callB call_lenS (by rfl) M.len PySem.boot_len (pa_cons (pv 1) pa_nil rfl) (by decide) (by decide) rfl rfl) (pe_gI (by rfl) T.MOST_SIGNS (by decide)) (nomark _)))))
  (pss_one ps_never)
  pss_nil)
  (pss_one (ps_if (pt_not (pt_val (pe_callD D_is_thrown hr (by rfl) (pa_cons (pv 0) (pa_cons (pv 1) pa_nil rfl) rfl) (by decide) (by decide) rfl rfl) (fun _ => rfl)))
  (pss_one (ps_raise hr.hd (Y.e 1 (by decide) Y.m1) (by rfl) (pe_strS [97, 32, 119, 111, 114, 100, 32, 104, 97, 115, 32, 115, 105, 103, 110, 115, 32, 111, 102, 32, 105, 116, 115, 32, 100, 105, 101, 32, 97, 108, 111, 110, 101] (by decide +kernel)) rfl (by decide)))
  pss_nil))), ?_⟩
      walk_at "go"
      refine iteFd (by (first | lia | omega)) ?_
      walk_at "go"
      refine iteFd (by (first | lia | omega)) ?_
      walk_at "go"
      refine ⟨a, xs, l, rfl, hS, by (first | lia | omega), fun H' s1 => ?_⟩
      have e : (l.all fun c => decide (c ∈ abcd.take xs.length)) = false := by
        refine Bool.eq_false_iff.mpr fun z => hw ⟨h16.1, h16.2, fun x hx => ?_⟩
        rw [List.all_eq_true] at z
        exact of_decide_eq_true (z x hx)
      rw [e]
      walk_at "go"
      refine iteT ?_
      walk_at "go"
      exact fun ea he => k H' ea s1 he
    · refine ⟨_, (pss_cons (ps_if (PW.pt (pw_or (pt_cmpR op_lt (pe_callB call_lenS (by rfl) M.len PySem.boot_len (pa_cons (pv 1) pa_nil rfl) (by decide) (by decide) rfl rfl) pe_int (nomark _)) (pw_or1 (pt_cmpR op_gt (pe_callB call_lenS (by rfl) M.len PySem.boot_len (pa_cons (pv 1) pa_nil rfl) (by decide) (by decide) rfl rfl) (pe_gI (by rfl) T.MOST_SIGNS (by decide)) (nomark _)))))
  (pss_one (ps_raise hr.hd (Y.e 1 (by decide) Y.m1) (by rfl) (pe_strS [97, 32, 119, 111, 114, 100, 32, 104, 97, 115, 32, 49, 32, 116, 111, 32, 54, 32, 115, 105, 103, 110, 115] (by decide +kernel)) rfl (by decide)))
  pss_nil)
  pss_never), ?_⟩
      walk_at "go"
      refine g_ite (fun _ => ?_) (fun h1 => ?_)
      · walk_at "go"
        exact fun ea he => k H ea (Same.refl _) he
      · walk_at "go"
        refine iteTd (by (first | lia | omega)) ?_
        walk_at "go"
        exact fun ea he => k H ea (Same.refl _) he


def sp_oddsR (K : PySem.W.Frag) (c : Nat → Addr) : Sp := fun vs H Q E => ∃ a, ∃ ns : List Int, ∃ one other j, vs = [.ref a, .str (S one), .str (S other)] ∧ SqL K H a (ns.map V.int) ∧ (WordBad ns one j ∨ (DieOk ns ∧ WordOk ns.length one ∧ WordBad ns other j) ∨
  (j = 2 ∧ DieOk ns ∧ WordOk ns.length one ∧ WordOk ns.length other ∧ (one.length ≠ other.length ∨ one = other))) ∧ ∀ H' ea, Same H H' → H' ea = none → E (.ref (c j)) (some ea) H'
theorem sc_odds : FnScope ["die", "one", "other", "first", "second", "both"] ["die", "one", "other"] (defScope s_odds) := ⟨rfl, rfl, rfl, by decide +kernel, rfl, by decide +kernel, by decide +kernel⟩
theorem okR_odds {f : Addr} {fd : FuncData} (F : Fun K "odds" "odds" s_odds f fd) (M : Bl mg) (T : Cs P mg) (Y : Xc K mg c) {f_check_die : Addr} {fd_check_die : FuncData} (D_check_die : Df P w K mg base "check_die" 37 f_check_die fd_check_die ["die"] (sp_check_die K)) (R_check_die : DfX P w K mg base "check_die" 37 f_check_die fd_check_die ["die"] (sp_check_dieR K c)) {f_check_word : Addr} {fd_check_word : FuncData} (D_check_word : Df P w K mg base "check_word" 39 f_check_word fd_check_word ["die", "word"] (sp_check_word K)) (R_check_word : DfX P w K mg base "check_word" 39 f_check_word fd_check_word ["die", "word"] (sp_check_wordR K c)) : FnOk P w K mg base (CX1 P w) 42 f fd ["die", "one", "other"] (sp_oddsR K c) := by
  refine F.okG sc_odds (fun vs H Q E h => ?_) (fun cdv A outer s H vs Q E hr h => ?_)
  · obtain ⟨a, ns, one, other, j, rfl, _⟩ := h; rfl
  · obtain ⟨a, ns, one, other, j, rfl, hS, hb, k⟩ := h
    have hm : (ns.map V.int).length = ns.length := List.length_map ..
    rcases hb with (⟨rfl, hd⟩ | ⟨rfl, hd, hl, hw⟩) | ⟨hd0, hw0, (⟨rfl, hd⟩ | ⟨rfl, hd, hl, hw⟩)⟩ | ⟨rfl, hd, hw0, hw1, hne⟩
    · refine ⟨_, (pss_cons (ps_expr (pe_callX pass1 R_check_die hr (by rfl) (pa_cons (pv 0) pa_nil rfl) (by decide) (by decide) rfl rfl) rfl)
  pss_never), ?_⟩
      walk_at "go"
      exact ⟨a, ns, rfl, hS, hd, fun ea he => k H ea (Same.refl _) he⟩
    · refine ⟨_, (pss_cons (ps_expr (pe_callD D_check_die hr (by rfl) (pa_cons (pv 0) pa_nil rfl) (by decide) (by decide) rfl rfl) rfl)
  (pss_cons (ps_expr (pe_callX pass1 R_check_word hr (by rfl) (pa_cons (pv 0) (pa_cons (pv 1) pa_nil rfl) rfl) (by decide) (by decide) rfl rfl) rfl)
  pss_never)), ?_⟩
      walk_at "go"
      refine ⟨a, ns, rfl, hS, hd, ?_⟩
      walk_at "go"
      exact ⟨a, _, one, rfl, hS, hl, by rw [hm]; exact hw, k⟩
    · exact absurd hd0 hd
    · refine ⟨_, (pss_cons (ps_expr (pe_callD D_check_die hr (by rfl) (pa_cons (pv 0) pa_nil rfl) (by decide) (by decide) rfl rfl) rfl)
  (pss_cons (ps_expr (pe_callD D_check_word hr (by rfl) (pa_cons (pv 0) (pa_cons (pv 1) pa_nil rfl) rfl) (by decide) (by decide) rfl rfl) rfl)
  (pss_cons (ps_expr (pe_callX pass1 R_check_word hr (by rfl) (pa_cons (pv 0) (pa_cons (pv 2) pa_nil rfl) rfl) (by decide) (by decide) rfl rfl) rfl)
  pss_never))), ?_⟩
      walk_at "go"
      refine ⟨a, ns, rfl, hS, hd, ?_⟩
      walk_at "go"
      refine ⟨a, _, one, rfl, hS, by rw [hm]; exact hw0, fun H1 s1 => ?_⟩
      walk_at "go"
      exact ⟨a, _, other, rfl, s1.seq hS, hl, by rw [hm]; exact hw, fun H' ea s2 he => k H' ea (s1.trans s2) he⟩
    · have o1 := hw0.hi
      have o2 := hw1.hi
      refine ⟨_, (pss_cons (ps_expr (pe_callD D_check_die hr (by rfl) (pa_cons (pv 0) pa_nil rfl) (by decide) (by decide) rfl rfl) rfl)
  (pss_cons (ps_expr (pe_callD D_check_word hr (by rfl) (pa_cons (pv 0) (pa_cons (pv 1) pa_nil rfl) rfl) (by decide) (by decide) rfl rfl) rfl)
  (pss_cons (ps_expr (pe_callD D_check_word hr (by rfl) (pa_cons (pv 0) (pa_cons (pv 2) pa_nil rfl) rfl) (by decide) (by decide) rfl rfl) rfl)
  (pss_cons (ps_if (PW.pt (pw_or (pt_cmpR op_ne (pe_callB call_lenS (by rfl) M.len PySem.boot_len (pa_cons (pv 1) pa_nil rfl) (by decide) (by decide) rfl rfl) (pe_callB call_lenS (by rfl) M.len PySem.boot_len (pa_cons (pv 2) pa_nil rfl) (by decide) (by decide) rfl rfl) (nomark _)) (pw_or1 (pt_cmpR op_eq (pv 1) (pv 2) (nomark _)))))
  (pss_one (ps_raise hr.hd (Y.e 2 (by decide) Y.m2) (by rfl) (pe_strS [116, 119, 111, 32, 119, 111, 114, 100, 115, 32, 97, 115, 32, 108, 111, 110, 103, 32, 97, 115, 32, 111, 110, 101, 32, 97, 110, 111, 116, 104, 101, 114, 32, 97, 114, 101, 32, 119, 97, 110, 116, 101, 100, 44, 32, 97, 110, 100, 32, 110, 111, 116, 32, 111, 110, 101, 32, 119, 111, 114, 100, 32, 116, 119, 105, 99, 101] (by decide +kernel)) rfl (by decide)))
  pss_nil)
  pss_never)))), ?_⟩
      walk_at "go"
      refine ⟨a, ns, rfl, hS, hd, ?_⟩
      walk_at "go"
      refine ⟨a, _, one, rfl, hS, by rw [hm]; exact hw0, fun H1 s1 => ?_⟩
      walk_at "go"
      refine ⟨a, _, other, rfl, s1.seq hS, by rw [hm]; exact hw1, fun H2 s2 => ?_⟩
      walk_at "go"
      by_cases e : one.length = other.length
      · rw [decide_eq_true (show (one.length : Int) = (other.length : Int) by (first | lia | omega))]
        refine iteF ?_
        walk_at "go"
        rcases hne with z | z
        · exact absurd e z
        · rw [decide_eq_true z]
          refine iteT ?_
          walk_at "go"
          exact fun ea he => k H2 ea (s1.trans s2) he
      · rw [decide_eq_false (show ¬ (one.length : Int) = (other.length : Int) by (first | lia | omega))]
        refine iteT ?_
        walk_at "go"
        exact fun ea he => k H2 ea (s1.trans s2) he


def sp_stands_within_another (K : PySem.W.Frag) : Sp := fun vs H Q _ => ∃ a ws, ∃ p : Nat, ∃ hp : p < ws.length, vs = [.ref a, .int p] ∧ SqL K H a (txs ws) ∧ ws.length ≤ 1000 ∧ ∀ H', Same H H' → Q (.bl ((others ws p).any fun o => within ws[p] o)) H'
theorem sc_stands_within_another : FnScope ["words", "place", "others"] ["words", "place"] (defScope s_stands_within_another) := ⟨rfl, rfl, rfl, by decide +kernel, rfl, by decide +kernel, by decide +kernel⟩
theorem ok_stands_within_another {f : Addr} {fd : FuncData} (F : Fun K "stands_within_another" "stands_within_another" s_stands_within_another f fd) (M : Bl mg) (T : Cs P mg)  : FnOk P w K mg base CX0 37 f fd ["words", "place"] (sp_stands_within_another K) := by
  refine F.ok sc_stands_within_another (fun vs H Q E h => ?_) (fun cdv A outer s H vs Q E hr h => ?_)
  · obtain ⟨a, ws, p, hp, rfl, _⟩ := h; rfl
  · obtain ⟨a, ws, p, hp, rfl, hS, hl, k⟩ := h
    refine ⟨_, (pss_cons (ps_set (i := 2) sc_stands_within_another.nd rfl (Or.inl rfl) (pe_op op_cat (pe_slice (sl_listK K rfl) (pv 0) po_none (po_some (pv 1))) (pe_slice (sl_listK K rfl) (pv 0) (po_some (pe_op op_add (pv 1) pe_int)) po_none)) rfl (Or.inl rfl))
  (pss_one (ps_ret (pe_callB (call_anyK K rfl rfl) (by rfl) M.any boot_any (pa_cons (pe_compD (defScope s_stands_within_another) ["words", "place", "others"] ["other", "words", "place"] [none, some 0, some 1] ⟨rfl, by decide +kernel, by decide +kernel, by decide +kernel, by decide +kernel, rfl, by decide +kernel⟩ (pi_listK K rfl (pv 2)) (fun s3 H3 C fp => ⟨pgb (i := 0) (by decide +kernel) rfl rfl, pif_nil, (pe_cmpR op_inS (pe_ix (ix_listK K rfl) (pvb 1) (pvb 2) (fun _ _ => rfl)) (pvb 0) (by with_unfolding_all rfl))⟩) rfl rfl rfl (fun _ => rfl)) pa_nil rfl) (by decide) (by decide) rfl rfl)))), ?_⟩
    walk_at "go"
    refine ⟨a, _, rfl, hS, fun b1 n1 => ?_⟩
    rw [cutV_eq, cutL_to]
    have s1 : Same H (upd H b1 (.lst ((txs ws).take p))) := same_upd (Same.refl _) n1
    walk_at "go"
    refine ⟨a, _, rfl, s1.seq hS, fun b2 n2 => ?_⟩
    rw [cutV_eq, show (p : Int) + 1 = ((p + 1 : Nat) : Int) by (first | lia | omega), cutL_from]
    have n12 : b1 ≠ b2 := ne_of_none upd_same n2
    refine ⟨b1, b2, _, _, rfl, rfl, by rw [upd_ne n12]; exact upd_same, upd_same, by rw [List.length_take, List.length_drop, txs_len]; exact small (by (first | lia | omega)), fun b3 n3 => ?_⟩
    have s2 : Same H (upd (upd H b1 (.lst ((txs ws).take p))) b2 (.lst ((txs ws).drop (p + 1)))) := same_upd s1 (s1.free n2)
    have s3 := same_upd (o := .lst ((txs ws).take p ++ (txs ws).drop (p + 1))) s2 (s2.free n3)
    have eo : (txs ws).take p ++ (txs ws).drop (p + 1) = txs (others ws p) := by unfold others; simp [List.map_take, List.map_drop]
    walk_at "go"
    refine ⟨⟨_, (SqL.of upd_same)⟩, ?_⟩
    intro D hD
    refine comp_map (src := others ws p) (gv := fun l => V.str (S l)) (fun l => V.bl (within ws[p] l)) (show Goes _ _ (txs (others ws p)) from by rw [← eo]; exact goes_list (SqL.of upd_same)) hD (by unfold others; rw [List.length_append, List.length_take, List.length_drop]; exact small (by (first | lia | omega))) (fun l hl' H' R t1 k1 => ?_) (fun H' t1 hy => ?_)
    · walk_at "go"
      refine g_ixL (t1.seq (s3.seq hS)) (atI_nat (txs_at hp)) ?_
      walk_at "go"
      exact k1 _ (Same.refl _)
    · walk_at "go"
      refine ⟨D, (others ws p).map fun l => within ws[p] l, rfl, SqL.of (by rw [hy]; simp), ?_⟩
      have e : ((others ws p).map fun l => within ws[p] l).any id = (others ws p).any fun o => within ws[p] o := by rw [List.any_map]; rfl
      rw [e]
      exact k H' (s3.trans t1)

def sp_check_race (K : PySem.W.Frag) : Sp := fun vs H Q _ => ∃ d a, ∃ ns : List Int, ∃ ws, vs = [.ref d, .ref a] ∧ SqL K H d (ns.map V.int) ∧ DieOk ns ∧ SqL K H a (txs ws) ∧ RaceOk ns.length ws ∧ ∀ H', Same H H' → Q .non H'
theorem sc_check_race : FnScope ["die", "words", "word"] ["die", "words"] (defScope s_check_race) := ⟨rfl, rfl, rfl, by decide +kernel, rfl, by decide +kernel, by decide +kernel⟩
theorem ok_check_race {f : Addr} {fd : FuncData} (F : Fun K "check_race" "check_race" s_check_race f fd) (M : Bl mg) (T : Cs P mg) {f_check_die : Addr} {fd_check_die : FuncData} (D_check_die : Df P w K mg base "check_die" 37 f_check_die fd_check_die ["die"] (sp_check_die K)) {f_check_word : Addr} {fd_check_word : FuncData} (D_check_word : Df P w K mg base "check_word" 39 f_check_word fd_check_word ["die", "word"] (sp_check_word K)) {f_stands_within_another : Addr} {fd_stands_within_another : FuncData} (D_stands_within_another : Df P w K mg base "stands_within_another" 37 f_stands_within_another fd_stands_within_another ["words", "place"] (sp_stands_within_another K)) : FnOk P w K mg base CX0 40 f fd ["die", "words"] (sp_check_race K) := by
  refine F.ok sc_check_race (fun vs H Q E h => ?_) (fun cdv A outer s H vs Q E hr h => ?_)
  · obtain ⟨d, a, ns, ws, rfl, _⟩ := h; rfl
  · obtain ⟨d, a, ns, ws, rfl, hd, hdo, hS, hw, k⟩ := h
    have hl : (ns.map V.int).length = ns.length := List.length_map ..
    have q1 := hw.lo
    have q2 := hw.hi
    have hsl := txs_len ws
    refine ⟨_, (pss_cons (ps_expr (pe_callD D_check_die hr (by rfl) (pa_cons (pv 0) pa_nil rfl) (by decide) (by decide) rfl rfl) rfl)
  (pss_cons (ps_for PassesOwn.never rfl (pi_listK K rfl (pv 1)) (pg_name (i := 2) sc_check_race.nd rfl (Or.inl rfl) (Or.inl rfl))
  (pss_one (ps_expr (pe_callD D_check_word hr (by rfl) (pa_cons (pv 0) (pa_cons (pv 2) pa_nil rfl) rfl) (by decide) (by decide) rfl rfl) rfl)) (fun _ => rfl))
  (pss_cons (ps_if (PW.pt (pw_or (pt_cmpR op_lt (pe_callB (call_lenK K rfl) (by rfl) M.len PySem.boot_len (pa_cons (pv 1) pa_nil rfl) (by decide) (by decide) rfl rfl) pe_int (nomark _)) (pw_or1 (pt_cmpR op_gt (pe_callB (call_lenK K rfl) (by rfl) M.len PySem.boot_len (pa_cons (pv 1) pa_nil rfl) (by decide) (by decide) rfl rfl) (pe_gI (by rfl) T.MOST_WORDS (by decide)) (nomark _)))))
  (pss_one ps_never)
  pss_nil)
  (pss_one (ps_if (pt_val (pe_callB (call_anyK K rfl rfl) (by rfl) M.any boot_any (pa_cons (pe_compD (defScope s_check_race) ["die", "words", "word"] ["place", "words"] [none, some 1] ⟨rfl, by decide +kernel, by decide +kernel, by decide +kernel, by decide +kernel, rfl, by decide +kernel⟩ (pi_range1 (by rfl) M.range (pa_cons (pe_callB (call_lenK K rfl) (by rfl) M.len PySem.boot_len (pa_cons (pv 1) pa_nil rfl) (by decide) (by decide) rfl rfl) pa_nil rfl) rfl) (fun s3 H3 C fp => ⟨pgb (i := 0) (by decide +kernel) rfl rfl, pif_nil, (pe_callD D_stands_within_another hr (glb rfl) (pa_cons (pvb 1) (pa_cons (pvb 0) pa_nil rfl) rfl) (by decide) (by decide) rfl rfl)⟩) rfl rfl rfl (fun _ => rfl)) pa_nil rfl) (by decide) (by decide) rfl rfl) (fun _ => rfl))
  (pss_one ps_never)
  pss_nil))))), ?_⟩
    walk_at "go"
    refine ⟨d, ns, rfl, hd, hdo, ?_⟩
    walk_at "go"
    refine ⟨⟨_, hS⟩, ?_⟩
    refine forL (xs := txs ws) (fun i σ H2 => ∃ v : Option V, Same H H2 ∧ σ = [some (.ref d), some (.ref a), v]) ⟨none, Same.refl _, rfl⟩ (fun i σ H2 _ ⟨_, s1, _⟩ => s1.seq hS) ?_ ?_
    · rintro i x σ H2 hi ⟨v, s1, rfl⟩
      have hlt : i < ws.length := by have := (List.getElem?_eq_some_iff.mp hi).1; (first | lia | omega)
      rw [txs_at hlt] at hi
      obtain rfl := (Option.some.inj hi).symm
      walk_at "go"
      refine ⟨d, _, ws[i], rfl, s1.seq hd, by rw [hl]; exact hw.w _ (List.getElem_mem hlt), fun H3 s3 => ?_⟩
      exact ⟨_, s1.trans s3, rfl⟩
    · rintro σ H2 ⟨v, s1, rfl⟩
      walk_at "go"
      refine ⟨_, _, rfl, .inl (s1.seq hS), ?_⟩
      walk_at "go"
      refine iteFd (by (first | lia | omega)) ?_
      walk_at "go"
      refine ⟨_, _, rfl, .inl (s1.seq hS), ?_⟩
      walk_at "go"
      refine iteFd (by (first | lia | omega)) ?_
      walk_at "go"
      refine ⟨_, _, rfl, .inl (s1.seq hS), ?_⟩
      walk_at "go"
      refine ⟨by (first | lia | omega), by (first | lia | omega), ?_⟩
      intro D hD
      refine comp_map (src := List.range ((txs ws).length : Int).toNat) (fun _ => V.bl false) (goes_range 0 _ _) hD (by rw [List.length_range]; exact small (by (first | lia | omega))) (fun j hj H' R t1 k1 => ?_) (fun H' t1 hy => ?_)
      · have hj' : j < ws.length := by have := List.mem_range.mp hj; (first | lia | omega)
        walk_at "go"
        refine ⟨a, ws, j, hj', by rw [show (0 : Int) + (j : Int) = (j : Int) by (first | lia | omega)]; rfl, t1.seq (s1.seq hS), by (first | lia | omega), fun H3 s3 => ?_⟩
        rw [hw.not_within hj']
        exact k1 H3 s3
      · walk_at "go"
        refine ⟨D, (List.range ((txs ws).length : Int).toNat).map fun _ => false, rfl, SqL.of (by rw [hy]; simp), ?_⟩
        have e : ((List.range ((txs ws).length : Int).toNat).map fun _ => false).any id = false := by simp
        rw [e]
        walk_at "go"
        refine iteF ?_
        walk_at "go"
        exact k H' (s1.trans t1)
def sp_check_raceR (K : PySem.W.Frag) (c : Nat → Addr) : Sp := fun vs H Q E => ∃ d a, ∃ ns : List Int, ∃ ws j, vs = [.ref d, .ref a] ∧ SqL K H d (ns.map V.int) ∧ SqL K H a (txs ws) ∧ RaceBad ns ws j ∧ ∀ H' ea, Same H H' → H' ea = none → E (.ref (c j)) (some ea) H'
theorem okR_check_race {f : Addr} {fd : FuncData} (F : Fun K "check_race" "check_race" s_check_race f fd) (M : Bl mg) (T : Cs P mg) (Y : Xc K mg c) {f_check_die : Addr} {fd_check_die : FuncData} (D_check_die : Df P w K mg base "check_die" 37 f_check_die fd_check_die ["die"] (sp_check_die K)) (R_check_die : DfX P w K mg base "check_die" 37 f_check_die fd_check_die ["die"] (sp_check_dieR K c)) {f_check_word : Addr} {fd_check_word : FuncData} (D_check_word : Df P w K mg base "check_word" 39 f_check_word fd_check_word ["die", "word"] (sp_check_word K)) {f_stands_within_another : Addr} {fd_stands_within_another : FuncData} (D_stands_within_another : Df P w K mg base "stands_within_another" 37 f_stands_within_another fd_stands_within_another ["words", "place"] (sp_stands_within_another K)) (W_check_word : DfX P w K mg base "check_word" 39 f_check_word fd_check_word ["die", "word"] (fun vs H Q E => sp_check_word K vs H Q E ∨ sp_check_wordR K c vs H Q E)) : FnOk P w K mg base (CX1 P w) 40 f fd ["die", "words"] (sp_check_raceR K c) := by
  refine F.okG sc_check_race (fun vs H Q E h => ?_) (fun cdv A outer s H vs Q E hr h => ?_)
  · obtain ⟨d, a, ns, ws, j, rfl, _⟩ := h; rfl
  · obtain ⟨d, a, ns, ws, j, rfl, hd, hS, hb, k⟩ := h
    have hl : (ns.map V.int).length = ns.length := List.length_map ..
    have hsl := txs_len ws
    rcases hb with ⟨rfl, hdo⟩ | ⟨rfl, hdo, hwl, hbad⟩ | ⟨rfl, hdo, hwo, hwl, hbad⟩
    · refine ⟨_, (pss_cons (ps_expr (pe_callX pass1 R_check_die hr (by rfl) (pa_cons (pv 0) pa_nil rfl) (by decide) (by decide) rfl rfl) rfl)
  pss_never), ?_⟩
      walk_at "go"
      exact ⟨d, ns, rfl, hd, hdo, fun ea he => k H ea (Same.refl _) he⟩
    · obtain ⟨m, hm, hm1, hm2⟩ := first_bad hbad
      refine ⟨_, (pss_cons (ps_expr (pe_callD D_check_die hr (by rfl) (pa_cons (pv 0) pa_nil rfl) (by decide) (by decide) rfl rfl) rfl)
  (pss_cons (ps_for PassesOwn.leaving rfl (pi_listK K rfl (pv 1)) (pg_name (i := 2) sc_check_race.nd rfl (Or.inl rfl) (Or.inl rfl))
  (pss_one (ps_expr (pe_callX pass1 W_check_word hr (by rfl) (pa_cons (pv 0) (pa_cons (pv 2) pa_nil rfl) rfl) (by decide) (by decide) rfl rfl) rfl)) (fun _ => rfl))
  pss_never)), ?_⟩
      walk_at "go"
      refine ⟨d, ns, rfl, hd, hdo, ?_⟩
      walk_at "go"
      refine ⟨⟨_, hS⟩, ?_⟩
      refine forL (xs := txs ws) (fun i σ H2 => ∃ v : Option V, Same H H2 ∧ i ≤ m ∧ σ = [some (.ref d), some (.ref a), v]) ⟨none, Same.refl _, Nat.zero_le _, rfl⟩ (fun i σ H2 _ ⟨_, s1, _⟩ => s1.seq hS) ?_ ?_
      · rintro i x σ H2 hi ⟨v, s1, him, rfl⟩
        have hlt : i < ws.length := by have := (List.getElem?_eq_some_iff.mp hi).1; (first | lia | omega)
        rw [txs_at hlt] at hi
        obtain rfl := (Option.some.inj hi).symm
        walk_at "go"
        by_cases hii : i = m
        · subst hii
          exact .inr ⟨d, _, ws[i], rfl, s1.seq hd, hwl _ (List.getElem_mem hlt), by rw [hl]; exact hm1, fun H3 ea s3 he => k H3 ea (s1.trans s3) he⟩
        · refine .inl ⟨d, _, ws[i], rfl, s1.seq hd, by rw [hl]; exact hm2 i (by (first | lia | omega)), fun H3 s3 => ?_⟩
          exact ⟨_, s1.trans s3, by (first | lia | omega), rfl⟩
      · rintro σ H2 ⟨v, s1, him, rfl⟩
        (first | lia | omega)
    · by_cases h14 : 1 ≤ ws.length ∧ ws.length ≤ 4
      · obtain ⟨p, hp, hpw⟩ : ∃ p, ∃ hp : p < ws.length, ((others ws p).any fun o => within ws[p] o) = true := by
          rcases hbad with z | z | z
          · (first | lia | omega)
          · (first | lia | omega)
          · exact z
        refine ⟨_, (pss_cons (ps_expr (pe_callD D_check_die hr (by rfl) (pa_cons (pv 0) pa_nil rfl) (by decide) (by decide) rfl rfl) rfl)
  (pss_cons (ps_for PassesOwn.leaving rfl (pi_listK K rfl (pv 1)) (pg_name (i := 2) sc_check_race.nd rfl (Or.inl rfl) (Or.inl rfl))
  (pss_one (ps_expr (pe_callD D_check_word hr (by rfl) (pa_cons (pv 0) (pa_cons (pv 2) pa_nil rfl) rfl) (by decide) (by decide) rfl rfl) rfl)) (fun _ => rfl))
  (pss_cons (ps_if (PW.pt (pw_or (pt_cmpR op_lt (pe_callB (call_lenK K rfl) (by rfl) M.len PySem.boot_len (pa_cons (pv 1) pa_nil rfl) (by decide) (by decide) rfl rfl) pe_int (nomark _)) (pw_or1 (pt_cmpR op_gt (pe_callB (call_lenK K rfl) (by rfl) M.len PySem.boot_len (pa_cons (pv 1) pa_nil rfl) (by decide) (by decide) rfl rfl) (pe_gI (by rfl) T.MOST_WORDS (by decide)) (nomark _)))))
  (pss_one ps_never)
  pss_nil)
  (pss_one (ps_if (pt_val (pe_callB (call_anyK K rfl rfl) (by rfl) M.any boot_any (pa_cons (pe_compD (defScope s_check_race) ["die", "words", "word"] ["place", "words"] [none, some 1] ⟨rfl, by decide +kernel, by decide +kernel, by decide +kernel, by decide +kernel, rfl, by decide +kernel⟩ (pi_range1 (by rfl) M.range (pa_cons (pe_callB (call_lenK K rfl) (by rfl) M.len PySem.boot_len (pa_cons (pv 1) pa_nil rfl) (by decide) (by decide) rfl rfl) pa_nil rfl) rfl) (fun s3 H3 C fp => ⟨pgb (i := 0) (by decide +kernel) rfl rfl, pif_nil, (pe_callD D_stands_within_another hr (glb rfl) (pa_cons (pvb 1) (pa_cons (pvb 0) pa_nil rfl) rfl) (by decide) (by decide) rfl rfl)⟩) rfl rfl rfl (fun _ => rfl)) pa_nil rfl) (by decide) (by decide) rfl rfl) (fun _ => rfl))
  (pss_one (ps_raise hr.hd (Y.e 2 (by decide) Y.m2) (by rfl) (pe_strS [110, 111, 32, 119, 111, 114, 100, 32, 111, 102, 32, 97, 32, 114, 97, 99, 101, 32, 115, 116, 97, 110, 100, 115, 32, 119, 105, 116, 104, 105, 110, 32, 97, 110, 111, 116, 104, 101, 114, 32, 111, 110, 101] (by decide +kernel)) rfl (by decide)))
  pss_nil))))), ?_⟩
        walk_at "go"
        refine ⟨d, ns, rfl, hd, hdo, ?_⟩
        walk_at "go"
        refine ⟨⟨_, hS⟩, ?_⟩
        refine forL (xs := txs ws) (fun i σ H2 => ∃ v : Option V, Same H H2 ∧ σ = [some (.ref d), some (.ref a), v]) ⟨none, Same.refl _, rfl⟩ (fun i σ H2 _ ⟨_, s1, _⟩ => s1.seq hS) ?_ ?_
        · rintro i x σ H2 hi ⟨v, s1, rfl⟩
          have hlt : i < ws.length := by have := (List.getElem?_eq_some_iff.mp hi).1; (first | lia | omega)
          rw [txs_at hlt] at hi
          obtain rfl := (Option.some.inj hi).symm
          walk_at "go"
          refine ⟨d, _, ws[i], rfl, s1.seq hd, by rw [hl]; exact hwo _ (List.getElem_mem hlt), fun H3 s3 => ?_⟩
          exact ⟨_, s1.trans s3, rfl⟩
        · rintro σ H2 ⟨v, s1, rfl⟩
          walk_at "go"
          refine ⟨_, _, rfl, .inl (s1.seq hS), ?_⟩
          walk_at "go"
          refine iteFd (by (first | lia | omega)) ?_
          walk_at "go"
          refine ⟨_, _, rfl, .inl (s1.seq hS), ?_⟩
          walk_at "go"
          refine iteFd (by (first | lia | omega)) ?_
          walk_at "go"
          refine ⟨_, _, rfl, .inl (s1.seq hS), ?_⟩
          walk_at "go"
          refine ⟨by (first | lia | omega), by (first | lia | omega), ?_⟩
          intro D hD
          refine comp_map (src := List.range ((txs ws).length : Int).toNat) (fun j => V.bl (if hj : j < ws.length then (others ws j).any fun o => within ws[j] o else false)) (goes_range 0 _ _) hD (by rw [List.length_range]; exact small (by (first | lia | omega))) (fun j hj H' R t1 k1 => ?_) (fun H' t1 hy => ?_)
          · have hj' : j < ws.length := by have := List.mem_range.mp hj; (first | lia | omega)
            walk_at "go"
            refine ⟨a, ws, j, hj', by rw [show (0 : Int) + (j : Int) = (j : Int) by (first | lia | omega)]; rfl, t1.seq (s1.seq hS), by (first | lia | omega), fun H3 s3 => ?_⟩
            rw [dif_pos hj'] at k1
            exact k1 H3 s3
          · walk_at "go"
            refine ⟨D, (List.range ((txs ws).length : Int).toNat).map fun j => if hj : j < ws.length then (others ws j).any fun o => within ws[j] o else false, rfl, SqL.of (by rw [hy, List.map_map]; rfl), ?_⟩
            have e : ((List.range ((txs ws).length : Int).toNat).map fun j => if hj : j < ws.length then (others ws j).any fun o => within ws[j] o else false).any id = true := by
              rw [List.any_map, List.any_eq_true]
              refine ⟨p, List.mem_range.mpr (by (first | lia | omega)), ?_⟩
              show (if hj : p < ws.length then (others ws p).any fun o => within ws[p] o else false) = true
              rw [dif_pos hp]; exact hpw
            rw [e]
            walk_at "go"
            refine iteT ?_
            walk_at "go"
            exact fun ea he => k H' ea (s1.trans t1) he
      · refine ⟨_, (pss_cons (ps_expr (pe_callD D_check_die hr (by rfl) (pa_cons (pv 0) pa_nil rfl) (by decide) (by decide) rfl rfl) rfl)
  (pss_cons (ps_for PassesOwn.leaving rfl (pi_listK K rfl (pv 1)) (pg_name (i := 2) sc_check_race.nd rfl (Or.inl rfl) (Or.inl rfl))
  (pss_one (ps_expr (pe_callD D_check_word hr (by rfl) (pa_cons (pv 0) (pa_cons (pv 2) pa_nil rfl) rfl) (by decide) (by decide) rfl rfl) rfl)) (fun _ => rfl))
  (pss_cons (ps_if (PW.pt (pw_or (pt_cmpR op_lt (pe_callB (call_lenK K rfl) (by rfl) M.len PySem.boot_len (pa_cons (pv 1) pa_nil rfl) (by decide) (by decide) rfl rfl) pe_int (nomark _)) (pw_or1 (pt_cmpR op_gt (pe_callB (call_lenK K rfl) (by rfl) M.len PySem.boot_len (pa_cons (pv 1) pa_nil rfl) (by decide) (by decide) rfl rfl) (pe_gI (by rfl) T.MOST_WORDS (by decide)) (nomark _)))))
  (pss_one (ps_raise hr.hd (Y.e 2 (by decide) Y.m2) (by rfl) (pe_strS [97, 32, 114, 97, 99, 101, 32, 104, 97, 115, 32, 49, 32, 116, 111, 32, 52, 32, 119, 111, 114, 100, 115] (by decide +kernel)) rfl (by decide)))
  pss_nil)
  pss_never))), ?_⟩
        walk_at "go"
        refine ⟨d, ns, rfl, hd, hdo, ?_⟩
        walk_at "go"
        refine ⟨⟨_, hS⟩, ?_⟩
        refine forL (xs := txs ws) (fun i σ H2 => ∃ v : Option V, Same H H2 ∧ σ = [some (.ref d), some (.ref a), v]) ⟨none, Same.refl _, rfl⟩ (fun i σ H2 _ ⟨_, s1, _⟩ => s1.seq hS) ?_ ?_
        · rintro i x σ H2 hi ⟨v, s1, rfl⟩
          have hlt : i < ws.length := by have := (List.getElem?_eq_some_iff.mp hi).1; (first | lia | omega)
          rw [txs_at hlt] at hi
          obtain rfl := (Option.some.inj hi).symm
          walk_at "go"
          refine ⟨d, _, ws[i], rfl, s1.seq hd, by rw [hl]; exact hwo _ (List.getElem_mem hlt), fun H3 s3 => ?_⟩
          exact ⟨_, s1.trans s3, rfl⟩
        · rintro σ H2 ⟨v, s1, rfl⟩
          walk_at "go"
          refine ⟨_, _, rfl, .inl (s1.seq hS), ?_⟩
          walk_at "go"
          refine g_ite (fun _ => ?_) (fun h1 => ?_)
          · walk_at "go"
            exact fun ea he => k H2 ea s1 he
          · walk_at "go"
            refine ⟨_, _, rfl, .inl (s1.seq hS), ?_⟩
            walk_at "go"
            refine iteTd (by (first | lia | omega)) ?_
            walk_at "go"
            exact fun ea he => k H2 ea s1 he


def sp_shown (K : PySem.W.Frag) : Sp := fun vs H Q _ => ∃ d a, ∃ ns : List Int, ∃ ws, vs = [.ref d, .ref a] ∧ SqL K H d (ns.map V.int) ∧ DieOk ns ∧ SqL K H a (txs ws) ∧ RaceOk ns.length ws ∧ ∀ H', Same H H' → Q (.str (S (lineT ns ws))) H'
theorem sc_shown : FnScope ["die", "words", "weights", "listed"] ["die", "words"] (defScope s_shown) := ⟨rfl, rfl, rfl, by decide +kernel, rfl, by decide +kernel, by decide +kernel⟩
theorem ok_shown {f : Addr} {fd : FuncData} (F : Fun K "shown" "shown" s_shown f fd) (M : Bl mg) (T : Cs P mg) {f_check_race : Addr} {fd_check_race : FuncData} (D_check_race : Df P w K mg base "check_race" 40 f_check_race fd_check_race ["die", "words"] (sp_check_race K)) : FnOk P w K mg base CX0 41 f fd ["die", "words"] (sp_shown K) := by
  refine F.ok sc_shown (fun vs H Q E h => ?_) (fun cdv A outer s H vs Q E hr h => ?_)
  · obtain ⟨d, a, ns, ws, rfl, _⟩ := h; rfl
  · obtain ⟨d, a, ns, ws, rfl, hd, hdo, hS, hw, k⟩ := h
    have d4 := hdo.hi
    have w4 := hw.hi
    have l1 := wtT_len hdo
    have l2 := wsT_len hw
    refine ⟨_, (pss_cons (ps_expr (pe_callD D_check_race hr (by rfl) (pa_cons (pv 0) (pa_cons (pv 1) pa_nil rfl) rfl) (by decide) (by decide) rfl rfl) rfl)
  (pss_cons (ps_set (i := 2) sc_shown.nd rfl (Or.inl rfl) (pe_bmK K rfl PySem.F.plainAttrs_str PySem.F.slot_str_join PySem.F.type_str_join (mt_joinK K rfl) (pe_strS [32] (by decide +kernel)) (pa_cons (pe_compD (defScope s_shown) ["die", "words", "weights", "listed"] ["weight"] [none] ⟨rfl, by decide +kernel, by decide +kernel, by decide +kernel, by decide +kernel, rfl, by decide +kernel⟩ (pi_listK K rfl (pv 0)) (fun s3 H3 C fp => ⟨pgb (i := 0) (by decide +kernel) rfl rfl, pif_nil, (pe_callTy call_strI (glb rfl) M.str boot_str (pa_cons (pvb 0) pa_nil rfl) (by decide) (by decide) rfl rfl)⟩) rfl rfl rfl (fun _ => rfl)) pa_nil rfl) rfl rfl rfl rfl rfl) rfl (Or.inl rfl))
  (pss_cons (ps_set (i := 3) sc_shown.nd rfl (Or.inl rfl) (pe_bmK K rfl PySem.F.plainAttrs_str PySem.F.slot_str_join PySem.F.type_str_join (mt_joinK K rfl) (pe_strS [32] (by decide +kernel)) (pa_cons (pv 1) pa_nil rfl) rfl rfl rfl rfl rfl) rfl (Or.inl rfl))
  (pss_one (ps_ret (pe_f3 (pe_fv (pv 2)) (pe_strS [58, 32] (by decide +kernel)) (pe_fv (pv 3)))))))), ?_⟩
    walk_at "go"
    refine ⟨d, a, ns, ws, rfl, hd, hdo, hS, hw, fun H1 s1 => ?_⟩
    walk_at "go"
    refine ⟨⟨_, s1.seq hd⟩, ?_⟩
    intro D hD
    refine comp_map (src := ns) (gv := V.int) (fun n => V.str (S (dg n))) (goes_list (s1.seq hd)) hD (small (by (first | lia | omega))) (fun n hn H' R t1 k1 => ?_) (fun H2 s2 hy => ?_)
    · have := hdo.w n hn
      walk_at "go"
      refine ⟨by (first | lia | omega), by (first | lia | omega), ?_⟩
      exact k1 _ (Same.refl _)
    · have hy' : H2 D = some (.lst ((ns.map dg).map fun l => V.str (S l))) := by rw [hy, List.map_map]; rfl
      walk_at "go"
      refine ⟨_, D, ns.map dg, rfl, rfl, SqL.of hy', by rw [List.length_map]; (first | lia | omega), fun t ht => ?_, by decide, ?_⟩
      · obtain ⟨n, hn, rfl⟩ := List.mem_map.mp ht
        show 1 ≤ 1000
        decide
      · walk_at "go"
        refine ⟨_, a, ws, rfl, rfl, (s1.trans s2).seq hS, by (first | lia | omega), fun t ht => by have := (hw.w t ht).hi; (first | lia | omega), by decide, ?_⟩
        walk_at "go"
        unfold tF3 tFv
        walk_at "go"
        refine ⟨by show (wtT ns).length ≤ _; (first | lia | omega), ?_⟩
        walk_at "go"
        refine ⟨by show (wtT ns).length ≤ _; (first | lia | omega), ?_⟩
        walk_at "go"
        refine ⟨by decide, ?_⟩
        walk_at "go"
        refine ⟨by (first | lia | omega), ?_⟩
        walk_at "go"
        refine ⟨by (first | lia | omega), ?_⟩
        exact k H2 (s1.trans s2)

def sp_shownR (K : PySem.W.Frag) (c : Nat → Addr) : Sp := fun vs H Q E => ∃ d a, ∃ ns : List Int, ∃ ws j, vs = [.ref d, .ref a] ∧ SqL K H d (ns.map V.int) ∧ SqL K H a (txs ws) ∧ RaceBad ns ws j ∧ ∀ H' ea, Same H H' → H' ea = none → E (.ref (c j)) (some ea) H'
theorem okR_shown {f : Addr} {fd : FuncData} (F : Fun K "shown" "shown" s_shown f fd) (M : Bl mg) (T : Cs P mg) (Y : Xc K mg c) {f_check_race : Addr} {fd_check_race : FuncData} (R_check_race : DfX P w K mg base "check_race" 40 f_check_race fd_check_race ["die", "words"] (sp_check_raceR K c)) : FnOk P w K mg base (CX1 P w) 41 f fd ["die", "words"] (sp_shownR K c) := by
  refine F.okG sc_shown (fun vs H Q E h => ?_) (fun cdv A outer s H vs Q E hr h => ?_)
  · obtain ⟨d, a, ns, ws, j, rfl, _⟩ := h; rfl
  · obtain ⟨d, a, ns, ws, j, rfl, hd, hS, hb, k⟩ := h
    refine ⟨_, (pss_cons (ps_expr (pe_callX pass1 R_check_race hr (by rfl) (pa_cons (pv 0) (pa_cons (pv 1) pa_nil rfl) rfl) (by decide) (by decide) rfl rfl) rfl)
  pss_never), ?_⟩
    walk_at "go"
    exact ⟨d, a, ns, ws, j, rfl, hd, hS, hb, k⟩


def sp_beginnings_of (K : PySem.W.Frag) : Sp := fun vs H Q _ => ∃ a ws, ∃ n : Nat, vs = [.ref a] ∧ SqL K H a (txs ws) ∧ RaceOk n ws ∧ ∀ r bs H', Same H H' → H r = none → H' r = some (.lst (txs bs)) → BegO ws bs → Q (.ref r) H'
theorem sc_beginnings_of : FnScope ["words", "texts", "word"] ["words"] (defScope s_beginnings_of) := ⟨rfl, rfl, rfl, by decide +kernel, rfl, by decide +kernel, by decide +kernel⟩
theorem ok_beginnings_of {f : Addr} {fd : FuncData} (F : Fun K "beginnings_of" "beginnings_of" s_beginnings_of f fd) (M : Bl mg) (T : Cs P mg)  : FnOk P w K mg base CX0 37 f fd ["words"] (sp_beginnings_of K) := by
  refine F.ok sc_beginnings_of (fun vs H Q E h => ?_) (fun cdv A outer s H vs Q E hr h => ?_)
  · obtain ⟨a, ws, n, rfl, _⟩ := h; rfl
  · obtain ⟨a, ws, n, rfl, hS, hR, k⟩ := h
    have hsl := txs_len ws
    have hw4 := hR.hi
    refine ⟨_, (pss_cons (ps_set (i := 1) sc_beginnings_of.nd rfl (Or.inl rfl) (pe_lst (pa_cons (pe_strS [] (by decide +kernel)) pa_nil rfl)) rfl (Or.inl rfl))
  (pss_cons (ps_for PassesOwn.never rfl (pi_listK K rfl (pv 0)) (pg_name (i := 2) sc_beginnings_of.nd rfl (Or.inr rfl) (Or.inl rfl))
  (pss_one (ps_expr (pe_bmK K rfl PySem.F.plainAttrs_list PySem.F.slot_list_extend PySem.F.type_list_extend mt_extend (pv 1) (pa_cons (pe_compD (defScope s_beginnings_of) ["words", "texts", "word"] ["many", "word"] [none, some 2] ⟨rfl, by decide +kernel, by decide +kernel, by decide +kernel, by decide +kernel, rfl, by decide +kernel⟩ (pi_range2 (by rfl) M.range (pa_cons pe_int (pa_cons (pe_op op_add (pe_callB call_lenS (by rfl) M.len PySem.boot_len (pa_cons (pv 2) pa_nil rfl) (by decide) (by decide) rfl rfl) pe_int) pa_nil rfl) rfl) rfl rfl) (fun s3 H3 C fp => ⟨pgb (i := 0) (by decide +kernel) rfl rfl, pif_nil, (pe_slice sl_str (pvb 1) po_none (po_some (pvb 0)))⟩) rfl rfl rfl (fun _ => rfl)) pa_nil rfl) rfl rfl rfl rfl rfl) rfl)) (fun _ => rfl))
  (pss_one (ps_ret (pe_sortS K rfl (pe_callB (call_sortedT P w rfl rfl rfl) (by rfl) M.sorted boot_sorted (pa_cons (pe_callTy (call_setT K P w rfl rfl rfl rfl) (by rfl) M.set boot_set (pa_cons (pv 1) pa_nil rfl) (by decide) (by decide) rfl rfl) pa_nil rfl) (by decide) (by decide) rfl rfl) (by rfl) M.sorted (by rfl) M.len rfl))))), ?_⟩
    walk_at "go"
    intro p0 n0
    have s0 := same_upd (o := .lst [.str (S [])]) (Same.refl H) n0
    walk_at "go"
    refine ⟨⟨_, s0.seq hS⟩, ?_⟩
    refine forL (xs := txs ws) (fun i σ H2 => ∃ y : Option V, Same H H2 ∧ H2 p0 = some (.lst (txs (begT (ws.take i)))) ∧ σ = [some (.ref a), some (.ref p0), y]) ⟨none, s0, upd_same, rfl⟩ (fun i σ H2 _ ⟨_, e, _⟩ => e.seq hS) ?_ ?_
    · rintro i x σ H2 hi ⟨y, s1, e1, rfl⟩
      have hlt : i < ws.length := by have := (List.getElem?_eq_some_iff.mp hi).1; (first | lia | omega)
      rw [txs_at hlt] at hi
      obtain rfl := (Option.some.inj hi).symm
      have hwi := (hR.w _ (List.getElem_mem hlt)).hi
      walk_at "go"
      refine ⟨_, _, rfl, by (first | lia | omega), ?_⟩
      rw [show ((ws[i].length : Int) + 1 - 1).toNat = ws[i].length by (first | lia | omega)]
      intro D hD
      refine comp_map (src := List.range ws[i].length) (gv := fun (k : Nat) => V.int (1 + (k : Int))) (fun k => V.str (S (ws[i].take (k + 1)))) (goes_range 1 _ _) hD (by rw [List.length_range]; exact small (by (first | lia | omega))) (fun j hj H' R t1 k1 => ?_) (fun H' t1 hy => ?_)
      · walk_at "go"
        refine g_slS (small (by (first | lia | omega))) ?_
        rw [show (1 : Int) + (j : Int) = ((j + 1 : Nat) : Int) by (first | lia | omega), cutL_to]
        exact k1 _ (Same.refl _)
      · have e2 := t1 _ _ e1
        have hb1 := begT_len (ws := ws.take i) fun l hl => hR.w l (List.mem_of_mem_take hl)
        have hlt' : (ws.take i).length ≤ 4 := by rw [List.length_take]; (first | lia | omega)
        walk_at "go"
        refine ⟨p0, D, _, _, rfl, rfl, e2, hy, ?_, ?_⟩
        · rw [txs_len, List.length_map, List.length_range]
          unfold begT
          rw [List.length_cons]
          exact small (by (first | lia | omega))
        · refine ⟨_, same_upd (s1.trans t1) n0, ?_, rfl⟩
          rw [upd_same, begT_step ws i hlt, txs, txs, List.map_append, List.map_map]
          rfl
    · rintro σ H2 ⟨y, s1, e1, rfl⟩
      rw [txs_len, List.take_length] at e1
      have hne := hR.race.ne
      have h2 := met_two hR
      have hml := metL_len (begT ws)
      have hbl : (begT ws).length ≤ 25 := by
        have := begT_len hR.w
        unfold begT
        rw [List.length_cons]
        (first | lia | omega)
      walk_at "go"
      refine g_sortS ?_
      walk_at "go"
      refine ⟨p0, begT ws, rfl, SqL.of e1, by (first | lia | omega), fun r1 n1 => ?_⟩
      have s2 := same_upd (o := TxtO P w r1 (metL (begT ws))) (Same.refl H2) n1
      walk_at "go"
      refine ⟨r1, metL (begT ws), rfl, upd_same, h2, by (first | lia | omega), fun r2 ys n2 hp2 hs2 => ?_⟩
      have s3 := same_upd (o := .lst (ys.map V.str)) (Same.refl (upd H2 r1 (TxtO P w r1 (metL (begT ws))))) n2
      have yl : ys.length = (metL (begT ws)).length := hp2.length_eq
      have ynd : ys.Nodup := hp2.nodup_iff.mpr (metL_nodup _)
      have hmem : ∀ t ∈ ys.map (fun x => x.cps.toList), t.length ≤ 6 := fun t ht => by
        obtain ⟨x, hx, rfl⟩ := List.mem_map.mp ht
        obtain ⟨u, hu, e⟩ := mem_metL.mp (hp2.mem_iff.mp hx)
        rw [← e, S_cps]
        exact hR.race.len ((begT_mem hne).mp hu)
      have tnd : (ys.map fun x => x.cps.toList).Nodup := by
        rw [List.Nodup, List.pairwise_map]
        refine ynd.imp fun {a b} h z => h ?_
        rw [← S_of a, ← S_of b, z]
      refine ⟨r2, _, rfl, by rw [← strs_back]; exact SqL.of upd_same, by rw [List.length_map]; (first | lia | omega), by rw [List.length_map]; (first | lia | omega), tnd, fun t ht => by have := hmem t ht; (first | lia | omega), fun r bs nr hp hs => ?_⟩
      exact k r bs _ (same_upd ((s1.trans s2).trans s3) (((s1.trans s2).trans s3).free nr)) (((s1.trans s2).trans s3).free nr) upd_same (begO_of hne hp2 ynd hs2 hp hs)


def sp_beginnings (K : PySem.W.Frag) : Sp := fun vs H Q _ => ∃ d a, ∃ ns : List Int, ∃ ws, vs = [.ref d, .ref a] ∧ SqL K H d (ns.map V.int) ∧ DieOk ns ∧ SqL K H a (txs ws) ∧ RaceOk ns.length ws ∧ ∀ r bs H', Same H H' → H r = none → H' r = some (.lst (txs bs)) → BegO ws bs → Q (.ref r) H'
theorem sc_beginnings : FnScope ["die", "words"] ["die", "words"] (defScope s_beginnings) := ⟨rfl, rfl, rfl, by decide +kernel, rfl, by decide +kernel, by decide +kernel⟩
theorem ok_beginnings {f : Addr} {fd : FuncData} (F : Fun K "beginnings" "beginnings" s_beginnings f fd) (M : Bl mg) (T : Cs P mg) {f_check_race : Addr} {fd_check_race : FuncData} (D_check_race : Df P w K mg base "check_race" 40 f_check_race fd_check_race ["die", "words"] (sp_check_race K)) {f_beginnings_of : Addr} {fd_beginnings_of : FuncData} (D_beginnings_of : Df P w K mg base "beginnings_of" 37 f_beginnings_of fd_beginnings_of ["words"] (sp_beginnings_of K)) : FnOk P w K mg base CX0 41 f fd ["die", "words"] (sp_beginnings K) := by
  refine F.ok sc_beginnings (fun vs H Q E h => ?_) (fun cdv A outer s H vs Q E hr h => ?_)
  · obtain ⟨d, a, ns, ws, rfl, _⟩ := h; rfl
  · obtain ⟨d, a, ns, ws, rfl, hd, hdo, hS, hw, k⟩ := h
    refine ⟨_, (pss_cons (ps_expr (pe_callD D_check_race hr (by rfl) (pa_cons (pv 0) (pa_cons (pv 1) pa_nil rfl) rfl) (by decide) (by decide) rfl rfl) rfl)
  (pss_one (ps_ret (pe_callD D_beginnings_of hr (by rfl) (pa_cons (pv 1) pa_nil rfl) (by decide) (by decide) rfl rfl)))), ?_⟩
    walk_at "go"
    refine ⟨d, a, ns, ws, rfl, hd, hdo, hS, hw, fun H1 s1 => ?_⟩
    walk_at "go"
    refine ⟨a, ws, _, rfl, s1.seq hS, hw, fun r bs H2 s2 nr hr2 hBO => ?_⟩
    exact k r bs H2 (s1.trans s2) (s1.free nr) hr2 hBO

def sp_beginningsR (K : PySem.W.Frag) (c : Nat → Addr) : Sp := fun vs H Q E => ∃ d a, ∃ ns : List Int, ∃ ws j, vs = [.ref d, .ref a] ∧ SqL K H d (ns.map V.int) ∧ SqL K H a (txs ws) ∧ RaceBad ns ws j ∧ ∀ H' ea, Same H H' → H' ea = none → E (.ref (c j)) (some ea) H'
theorem okR_beginnings {f : Addr} {fd : FuncData} (F : Fun K "beginnings" "beginnings" s_beginnings f fd) (M : Bl mg) (T : Cs P mg) (Y : Xc K mg c) {f_check_race : Addr} {fd_check_race : FuncData} (R_check_race : DfX P w K mg base "check_race" 40 f_check_race fd_check_race ["die", "words"] (sp_check_raceR K c)) : FnOk P w K mg base (CX1 P w) 41 f fd ["die", "words"] (sp_beginningsR K c) := by
  refine F.okG sc_beginnings (fun vs H Q E h => ?_) (fun cdv A outer s H vs Q E hr h => ?_)
  · obtain ⟨d, a, ns, ws, j, rfl, _⟩ := h; rfl
  · obtain ⟨d, a, ns, ws, j, rfl, hd, hS, hb, k⟩ := h
    refine ⟨_, (pss_cons (ps_expr (pe_callX pass1 R_check_race hr (by rfl) (pa_cons (pv 0) (pa_cons (pv 1) pa_nil rfl) rfl) (by decide) (by decide) rfl rfl) rfl)
  pss_never), ?_⟩
    walk_at "go"
    exact ⟨d, a, ns, ws, j, rfl, hd, hS, hb, k⟩


def sp_state_ofR (K : PySem.W.Frag) (c : Nat → Addr) : Sp := fun vs H Q E => ∃ d a, ∃ ns : List Int, ∃ ws j x, vs = [.ref d, .ref a, x] ∧ SqL K H d (ns.map V.int) ∧ SqL K H a (txs ws) ∧ RaceBad ns ws j ∧ ∀ H' ea, Same H H' → H' ea = none → E (.ref (c j)) (some ea) H'
theorem sc_state_of : FnScope ["die", "words", "row"] ["die", "words", "row"] (defScope s_state_of) := ⟨rfl, rfl, rfl, by decide +kernel, rfl, by decide +kernel, by decide +kernel⟩
theorem okR_state_of {f : Addr} {fd : FuncData} (F : Fun K "state_of" "state_of" s_state_of f fd) (M : Bl mg) (T : Cs P mg) (Y : Xc K mg c) {f_check_race : Addr} {fd_check_race : FuncData} (R_check_race : DfX P w K mg base "check_race" 40 f_check_race fd_check_race ["die", "words"] (sp_check_raceR K c)) : FnOk P w K mg base (CX1 P w) 41 f fd ["die", "words", "row"] (sp_state_ofR K c) := by
  refine F.okG sc_state_of (fun vs H Q E h => ?_) (fun cdv A outer s H vs Q E hr h => ?_)
  · obtain ⟨d, a, ns, ws, j, x, rfl, _⟩ := h; rfl
  · obtain ⟨d, a, ns, ws, j, x, rfl, hd, hS, hb, k⟩ := h
    refine ⟨_, (pss_cons (ps_expr (pe_callX pass1 R_check_race hr (by rfl) (pa_cons (pv 0) (pa_cons (pv 1) pa_nil rfl) rfl) (by decide) (by decide) rfl rfl) rfl)
  pss_never), ?_⟩
    walk_at "go"
    exact ⟨d, a, ns, ws, j, rfl, hd, hS, hb, k⟩


def sp_endedR (K : PySem.W.Frag) (c : Nat → Addr) : Sp := fun vs H Q E => ∃ d a, ∃ ns : List Int, ∃ ws j x, vs = [.ref d, .ref a, x] ∧ SqL K H d (ns.map V.int) ∧ SqL K H a (txs ws) ∧ RaceBad ns ws j ∧ ∀ H' ea, Same H H' → H' ea = none → E (.ref (c j)) (some ea) H'
theorem sc_ended : FnScope ["die", "words", "row", "throws", "place", "word"] ["die", "words", "row"] (defScope s_ended) := ⟨rfl, rfl, rfl, by decide +kernel, rfl, by decide +kernel, by decide +kernel⟩
theorem okR_ended {f : Addr} {fd : FuncData} (F : Fun K "ended" "ended" s_ended f fd) (M : Bl mg) (T : Cs P mg) (Y : Xc K mg c) {f_check_race : Addr} {fd_check_race : FuncData} (R_check_race : DfX P w K mg base "check_race" 40 f_check_race fd_check_race ["die", "words"] (sp_check_raceR K c)) : FnOk P w K mg base (CX1 P w) 41 f fd ["die", "words", "row"] (sp_endedR K c) := by
  refine F.okG sc_ended (fun vs H Q E h => ?_) (fun cdv A outer s H vs Q E hr h => ?_)
  · obtain ⟨d, a, ns, ws, j, x, rfl, _⟩ := h; rfl
  · obtain ⟨d, a, ns, ws, j, x, rfl, hd, hS, hb, k⟩ := h
    refine ⟨_, (pss_cons (ps_expr (pe_callX pass1 R_check_race hr (by rfl) (pa_cons (pv 0) (pa_cons (pv 1) pa_nil rfl) rfl) (by decide) (by decide) rfl rfl) rfl)
  pss_never), ?_⟩
    walk_at "go"
    exact ⟨d, a, ns, ws, j, rfl, hd, hS, hb, k⟩


def sp_state_of_openR (K : PySem.W.Frag) (c : Nat → Addr) : Sp := fun vs H Q E => ∃ d a, ∃ ns : List Int, ∃ ws j x, vs = [.ref d, .ref a, x] ∧ SqL K H d (ns.map V.int) ∧ SqL K H a (txs ws) ∧ RaceBad ns ws j ∧ ∀ H' ea, Same H H' → H' ea = none → E (.ref (c j)) (some ea) H'
theorem sc_state_of_open : FnScope ["die", "words", "row", "state"] ["die", "words", "row"] (defScope s_state_of_open) := ⟨rfl, rfl, rfl, by decide +kernel, rfl, by decide +kernel, by decide +kernel⟩
theorem okR_state_of_open {f : Addr} {fd : FuncData} (F : Fun K "state_of_open" "state_of_open" s_state_of_open f fd) (M : Bl mg) (T : Cs P mg) (Y : Xc K mg c) {f_state_of : Addr} {fd_state_of : FuncData} (R_state_of : DfX P w K mg base "state_of" 41 f_state_of fd_state_of ["die", "words", "row"] (sp_state_ofR K c)) : FnOk P w K mg base (CX1 P w) 42 f fd ["die", "words", "row"] (sp_state_of_openR K c) := by
  refine F.okG sc_state_of_open (fun vs H Q E h => ?_) (fun cdv A outer s H vs Q E hr h => ?_)
  · obtain ⟨d, a, ns, ws, j, x, rfl, _⟩ := h; rfl
  · obtain ⟨d, a, ns, ws, j, x, rfl, hd, hS, hb, k⟩ := h
    refine ⟨_, (pss_cons (ps_set (i := 3) sc_state_of_open.nd rfl (Or.inl rfl) (pe_callX pass1 R_state_of hr (by rfl) (pa_cons (pv 0) (pa_cons (pv 1) (pa_cons (pv 2) pa_nil rfl) rfl) rfl) (by decide) (by decide) rfl rfl) rfl (Or.inl rfl))
  pss_never), ?_⟩
    walk_at "go"
    exact ⟨d, a, ns, ws, j, _, rfl, hd, hS, hb, k⟩


def sp_sharesR (K : PySem.W.Frag) (c : Nat → Addr) : Sp := fun vs H Q E => ∃ d a, ∃ ns : List Int, ∃ ws j x, vs = [.ref d, .ref a, x] ∧ SqL K H d (ns.map V.int) ∧ SqL K H a (txs ws) ∧ RaceBad ns ws j ∧ ∀ H' ea, Same H H' → H' ea = none → E (.ref (c j)) (some ea) H'
theorem sc_shares : FnScope ["die", "words", "row", "state", "begun", "numbers"] ["die", "words", "row"] (defScope s_shares) := ⟨rfl, rfl, rfl, by decide +kernel, rfl, by decide +kernel, by decide +kernel⟩
theorem okR_shares {f : Addr} {fd : FuncData} (F : Fun K "shares" "shares" s_shares f fd) (M : Bl mg) (T : Cs P mg) (Y : Xc K mg c) {f_state_of_open : Addr} {fd_state_of_open : FuncData} (R_state_of_open : DfX P w K mg base "state_of_open" 42 f_state_of_open fd_state_of_open ["die", "words", "row"] (sp_state_of_openR K c)) : FnOk P w K mg base (CX1 P w) 43 f fd ["die", "words", "row"] (sp_sharesR K c) := by
  refine F.okG sc_shares (fun vs H Q E h => ?_) (fun cdv A outer s H vs Q E hr h => ?_)
  · obtain ⟨d, a, ns, ws, j, x, rfl, _⟩ := h; rfl
  · obtain ⟨d, a, ns, ws, j, x, rfl, hd, hS, hb, k⟩ := h
    refine ⟨_, (pss_cons (ps_set (i := 3) sc_shares.nd rfl (Or.inr rfl) (pe_callX pass1 R_state_of_open hr (by rfl) (pa_cons (pv 0) (pa_cons (pv 1) (pa_cons (pv 2) pa_nil rfl) rfl) rfl) (by decide) (by decide) rfl rfl) rfl (Or.inl rfl))
  pss_never), ?_⟩
    walk_at "go"
    exact ⟨d, a, ns, ws, j, _, rfl, hd, hS, hb, k⟩


def sp_meanR (K : PySem.W.Frag) (c : Nat → Addr) : Sp := fun vs H Q E => ∃ d a, ∃ ns : List Int, ∃ ws j x, vs = [.ref d, .ref a, x] ∧ SqL K H d (ns.map V.int) ∧ SqL K H a (txs ws) ∧ RaceBad ns ws j ∧ ∀ H' ea, Same H H' → H' ea = none → E (.ref (c j)) (some ea) H'
theorem sc_mean : FnScope ["die", "words", "row", "state", "begun", "numbers"] ["die", "words", "row"] (defScope s_mean) := ⟨rfl, rfl, rfl, by decide +kernel, rfl, by decide +kernel, by decide +kernel⟩
theorem okR_mean {f : Addr} {fd : FuncData} (F : Fun K "mean" "mean" s_mean f fd) (M : Bl mg) (T : Cs P mg) (Y : Xc K mg c) {f_state_of_open : Addr} {fd_state_of_open : FuncData} (R_state_of_open : DfX P w K mg base "state_of_open" 42 f_state_of_open fd_state_of_open ["die", "words", "row"] (sp_state_of_openR K c)) : FnOk P w K mg base (CX1 P w) 43 f fd ["die", "words", "row"] (sp_meanR K c) := by
  refine F.okG sc_mean (fun vs H Q E h => ?_) (fun cdv A outer s H vs Q E hr h => ?_)
  · obtain ⟨d, a, ns, ws, j, x, rfl, _⟩ := h; rfl
  · obtain ⟨d, a, ns, ws, j, x, rfl, hd, hS, hb, k⟩ := h
    refine ⟨_, (pss_cons (ps_set (i := 3) sc_mean.nd rfl (Or.inl rfl) (pe_callX pass1 R_state_of_open hr (by rfl) (pa_cons (pv 0) (pa_cons (pv 1) (pa_cons (pv 2) pa_nil rfl) rfl) rfl) (by decide) (by decide) rfl rfl) rfl (Or.inl rfl))
  pss_never), ?_⟩
    walk_at "go"
    exact ⟨d, a, ns, ws, j, _, rfl, hd, hS, hb, k⟩


def sp_open_rowsR (K : PySem.W.Frag) (c : Nat → Addr) : Sp := fun vs H Q E => ∃ d a, ∃ ns : List Int, ∃ ws j x, vs = [.ref d, .ref a, x] ∧ SqL K H d (ns.map V.int) ∧ SqL K H a (txs ws) ∧ RaceBad ns ws j ∧ ∀ H' ea, Same H H' → H' ea = none → E (.ref (c j)) (some ea) H'
theorem sc_open_rows : FnScope ["die", "words", "many", "counted"] ["die", "words", "many"] (defScope s_open_rows) := ⟨rfl, rfl, rfl, by decide +kernel, rfl, by decide +kernel, by decide +kernel⟩
theorem okR_open_rows {f : Addr} {fd : FuncData} (F : Fun K "open_rows" "open_rows" s_open_rows f fd) (M : Bl mg) (T : Cs P mg) (Y : Xc K mg c) {f_check_race : Addr} {fd_check_race : FuncData} (R_check_race : DfX P w K mg base "check_race" 40 f_check_race fd_check_race ["die", "words"] (sp_check_raceR K c)) : FnOk P w K mg base (CX1 P w) 41 f fd ["die", "words", "many"] (sp_open_rowsR K c) := by
  refine F.okG sc_open_rows (fun vs H Q E h => ?_) (fun cdv A outer s H vs Q E hr h => ?_)
  · obtain ⟨d, a, ns, ws, j, x, rfl, _⟩ := h; rfl
  · obtain ⟨d, a, ns, ws, j, x, rfl, hd, hS, hb, k⟩ := h
    refine ⟨_, (pss_cons (ps_expr (pe_callX pass1 R_check_race hr (by rfl) (pa_cons (pv 0) (pa_cons (pv 1) pa_nil rfl) rfl) (by decide) (by decide) rfl rfl) rfl)
  pss_never), ?_⟩
    walk_at "go"
    exact ⟨d, a, ns, ws, j, rfl, hd, hS, hb, k⟩


def sp_ended_rowsR (K : PySem.W.Frag) (c : Nat → Addr) : Sp := fun vs H Q E => ∃ d a, ∃ ns : List Int, ∃ ws j x, vs = [.ref d, .ref a, x] ∧ SqL K H d (ns.map V.int) ∧ SqL K H a (txs ws) ∧ RaceBad ns ws j ∧ ∀ H' ea, Same H H' → H' ea = none → E (.ref (c j)) (some ea) H'
theorem sc_ended_rows : FnScope ["die", "words", "many", "counted"] ["die", "words", "many"] (defScope s_ended_rows) := ⟨rfl, rfl, rfl, by decide +kernel, rfl, by decide +kernel, by decide +kernel⟩
theorem okR_ended_rows {f : Addr} {fd : FuncData} (F : Fun K "ended_rows" "ended_rows" s_ended_rows f fd) (M : Bl mg) (T : Cs P mg) (Y : Xc K mg c) {f_check_race : Addr} {fd_check_race : FuncData} (R_check_race : DfX P w K mg base "check_race" 40 f_check_race fd_check_race ["die", "words"] (sp_check_raceR K c)) : FnOk P w K mg base (CX1 P w) 41 f fd ["die", "words", "many"] (sp_ended_rowsR K c) := by
  refine F.okG sc_ended_rows (fun vs H Q E h => ?_) (fun cdv A outer s H vs Q E hr h => ?_)
  · obtain ⟨d, a, ns, ws, j, x, rfl, _⟩ := h; rfl
  · obtain ⟨d, a, ns, ws, j, x, rfl, hd, hS, hb, k⟩ := h
    refine ⟨_, (pss_cons (ps_expr (pe_callX pass1 R_check_race hr (by rfl) (pa_cons (pv 0) (pa_cons (pv 1) pa_nil rfl) rfl) (by decide) (by decide) rfl rfl) rfl)
  pss_never), ?_⟩
    walk_at "go"
    exact ⟨d, a, ns, ws, j, rfl, hd, hS, hb, k⟩


def sp_law_askedR (K : PySem.W.Frag) (c : Nat → Addr) : Sp := fun vs H Q E => ∃ t d a, ∃ ns : List Int, ∃ ws x, vs = [.int t, .ref d, .ref a, .str x] ∧ SqL K H d (ns.map V.int) ∧ SqL K H a (txs ws) ∧ RaceBad ns ws 2 ∧ ∀ H' ea, Same H H' → H' ea = none → E (.ref (c 2)) (some ea) H'
theorem sc_law_asked : FnScope ["turn", "die", "words", "row"] ["turn", "die", "words", "row"] (defScope s_law_asked) := ⟨rfl, rfl, rfl, by decide +kernel, rfl, by decide +kernel, by decide +kernel⟩
theorem okR_law_asked {f : Addr} {fd : FuncData} (F : Fun K "_law_asked" "_law_asked" s_law_asked f fd) (M : Bl mg) (T : Cs P mg) (Y : Xc K mg c) {f_beginnings : Addr} {fd_beginnings : FuncData} (R_beginnings : DfX P w K mg base "beginnings" 41 f_beginnings fd_beginnings ["die", "words"] (sp_beginningsR K c)) {f_state_of : Addr} {fd_state_of : FuncData} (R_state_of : DfX P w K mg base "state_of" 41 f_state_of fd_state_of ["die", "words", "row"] (sp_state_ofR K c)) {f_ended : Addr} {fd_ended : FuncData} (R_ended : DfX P w K mg base "ended" 41 f_ended fd_ended ["die", "words", "row"] (sp_endedR K c)) {f_shares : Addr} {fd_shares : FuncData} (R_shares : DfX P w K mg base "shares" 43 f_shares fd_shares ["die", "words", "row"] (sp_sharesR K c)) {f_mean : Addr} {fd_mean : FuncData} (R_mean : DfX P w K mg base "mean" 43 f_mean fd_mean ["die", "words", "row"] (sp_meanR K c)) {f_open_rows : Addr} {fd_open_rows : FuncData} (R_open_rows : DfX P w K mg base "open_rows" 41 f_open_rows fd_open_rows ["die", "words", "many"] (sp_open_rowsR K c)) {f_ended_rows : Addr} {fd_ended_rows : FuncData} (R_ended_rows : DfX P w K mg base "ended_rows" 41 f_ended_rows fd_ended_rows ["die", "words", "many"] (sp_ended_rowsR K c)) {f_shown : Addr} {fd_shown : FuncData} (R_shown : DfX P w K mg base "shown" 41 f_shown fd_shown ["die", "words"] (sp_shownR K c)) : FnOk P w K mg base (CX1 P w) 44 f fd ["turn", "die", "words", "row"] (sp_law_askedR K c) := by
  refine F.okG sc_law_asked (fun vs H Q E h => ?_) (fun cdv A outer s H vs Q E hr h => ?_)
  · obtain ⟨t, d, a, ns, ws, x, rfl, _⟩ := h; rfl
  · obtain ⟨t, d, a, ns, ws, x, rfl, hd, hS, hbad, k⟩ := h
    refine ⟨_, (pss_cons (ps_if (pt_cmpR op_eq (pv 0) pe_int (nomark _))
  (pss_one (ps_ret (pe_callX pass1 R_beginnings hr (by rfl) (pa_cons (pv 1) (pa_cons (pv 2) pa_nil rfl) rfl) (by decide) (by decide) rfl rfl)))
  pss_nil)
  (pss_cons (ps_if (pt_cmpR op_eq (pv 0) pe_int (nomark _))
  (pss_one (ps_ret (pe_callX pass1 R_state_of hr (by rfl) (pa_cons (pv 1) (pa_cons (pv 2) (pa_cons (pv 3) pa_nil rfl) rfl) rfl) (by decide) (by decide) rfl rfl)))
  pss_nil)
  (pss_cons (ps_if (pt_cmpR op_eq (pv 0) pe_int (nomark _))
  (pss_one (ps_ret (pe_callX pass1 R_ended hr (by rfl) (pa_cons (pv 1) (pa_cons (pv 2) (pa_cons (pv 3) pa_nil rfl) rfl) rfl) (by decide) (by decide) rfl rfl)))
  pss_nil)
  (pss_cons (ps_if (pt_cmpR op_eq (pv 0) pe_int (nomark _))
  (pss_one (ps_ret (pe_callX pass1 R_shares hr (by rfl) (pa_cons (pv 1) (pa_cons (pv 2) (pa_cons (pv 3) pa_nil rfl) rfl) rfl) (by decide) (by decide) rfl rfl)))
  pss_nil)
  (pss_cons (ps_if (pt_cmpR op_eq (pv 0) pe_int (nomark _))
  (pss_one (ps_ret (pe_callX pass1 R_mean hr (by rfl) (pa_cons (pv 1) (pa_cons (pv 2) (pa_cons (pv 3) pa_nil rfl) rfl) rfl) (by decide) (by decide) rfl rfl)))
  pss_nil)
  (pss_cons (ps_if (pt_cmpR op_eq (pv 0) pe_int (nomark _))
  (pss_one (ps_ret (pe_callX pass1 R_open_rows hr (by rfl) (pa_cons (pv 1) (pa_cons (pv 2) (pa_cons pe_int pa_nil rfl) rfl) rfl) (by decide) (by decide) rfl rfl)))
  pss_nil)
  (pss_cons (ps_if (pt_cmpR op_eq (pv 0) pe_int (nomark _))
  (pss_one (ps_ret (pe_callX pass1 R_ended_rows hr (by rfl) (pa_cons (pv 1) (pa_cons (pv 2) (pa_cons (pe_un un_neg pe_int) pa_nil rfl) rfl) rfl) (by decide) (by decide) rfl rfl)))
  pss_nil)
  (pss_one (ps_ret (pe_callX pass1 R_shown hr (by rfl) (pa_cons (pv 1) (pa_cons (pv 2) pa_nil rfl) rfl) (by decide) (by decide) rfl rfl)))))))))), ?_⟩
    walk_at "go"
    refine g_ite (fun _ => ?_) (fun _ => ?_)
    · walk_at "go"
      exact ⟨d, a, ns, ws, 2, rfl, hd, hS, hbad, k⟩
    walk_at "go"
    refine g_ite (fun _ => ?_) (fun _ => ?_)
    · walk_at "go"
      exact ⟨d, a, ns, ws, 2, _, rfl, hd, hS, hbad, k⟩
    walk_at "go"
    refine g_ite (fun _ => ?_) (fun _ => ?_)
    · walk_at "go"
      exact ⟨d, a, ns, ws, 2, _, rfl, hd, hS, hbad, k⟩
    walk_at "go"
    refine g_ite (fun _ => ?_) (fun _ => ?_)
    · walk_at "go"
      exact ⟨d, a, ns, ws, 2, _, rfl, hd, hS, hbad, k⟩
    walk_at "go"
    refine g_ite (fun _ => ?_) (fun _ => ?_)
    · walk_at "go"
      exact ⟨d, a, ns, ws, 2, _, rfl, hd, hS, hbad, k⟩
    walk_at "go"
    refine g_ite (fun _ => ?_) (fun _ => ?_)
    · walk_at "go"
      exact ⟨d, a, ns, ws, 2, _, rfl, hd, hS, hbad, k⟩
    walk_at "go"
    refine g_ite (fun _ => ?_) (fun _ => ?_)
    · walk_at "go"
      exact ⟨d, a, ns, ws, 2, _, rfl, hd, hS, hbad, k⟩
    walk_at "go"
    exact ⟨d, a, ns, ws, 2, rfl, hd, hS, hbad, k⟩


def kindB (j : Nat) : List Bool := [j == 0, j == 1, j == 2, j == 3, j == 4, j == 5, j == 6]
theorem kindB_n : ∀ j, j < 7 → (kindB j).countP id = 1 := by decide
theorem kindB_j : ∀ j, j < 7 → (kindB j)[j]? = some true := by decide
theorem kindB_m : ∀ j, j < 7 → ∀ m, m < j → (kindB j)[m]? = some false := by decide
theorem kindT_at : ∀ j, j < 7 → (List.map (fun l => V.str (S l)) [[100, 105, 101], [119, 111, 114, 100], [114, 97, 99, 101], [114, 111, 119], [111, 118, 101, 114], [109, 97, 110, 121], [110, 111, 116, 101]])[j]? = some (.str (S (kindT j))) := fun j hj => by
  rw [List.getElem?_map, List.getElem?_eq_getElem hj]
  unfold kindT
  rw [List.getD_eq_getElem?_getD, List.getElem?_eq_getElem hj]
  rfl
def sp_law_kind (K : PySem.W.Frag) (c : Nat → Addr) : Sp := fun vs H Q _ => ∃ ea j, vs = [.ref ea] ∧ j < 7 ∧ H ea = some (EO ea (c j)) ∧ ∀ H', Same H H' → Q (.str (S (kindT j))) H'
theorem sc_law_kind : FnScope ["e", "kinds"] ["e"] (defScope s_law_kind) := ⟨rfl, rfl, rfl, by decide +kernel, rfl, by decide +kernel, by decide +kernel⟩
theorem okM_law_kind {f : Addr} {fd : FuncData} (F : Fun K "_law_kind" "_law_kind" s_law_kind f fd) (M : Bl mg) (T : Cs P mg) (Y : Xc K mg c)  : FnOkM P w K mg base 37 f fd ["e"] (sp_law_kind K c) := by
  refine F.okM sc_law_kind (fun vs H Q E h => ?_) (fun cdv A outer s H vs Q E hr h => ?_)
  · obtain ⟨ea, j, rfl, _⟩ := h; rfl
  · obtain ⟨ea, j, rfl, hj, hE, k⟩ := h
    refine ⟨_, (pss_cons (ps_set (i := 1) sc_law_kind.nd rfl (Or.inl rfl) (pe_lst (pa_cons (pe_callB (call_isX K rfl) (by rfl) M.isinstance boot_isinstance (pa_cons (pv 0) (pa_cons (pe_glob (v := .ref (c 0)) (by rfl) Y.m0 rfl (by decide)) pa_nil rfl) rfl) (by decide) (by decide) rfl rfl) (pa_cons (pe_callB (call_isX K rfl) (by rfl) M.isinstance boot_isinstance (pa_cons (pv 0) (pa_cons (pe_glob (v := .ref (c 1)) (by rfl) Y.m1 rfl (by decide)) pa_nil rfl) rfl) (by decide) (by decide) rfl rfl) (pa_cons (pe_callB (call_isX K rfl) (by rfl) M.isinstance boot_isinstance (pa_cons (pv 0) (pa_cons (pe_glob (v := .ref (c 2)) (by rfl) Y.m2 rfl (by decide)) pa_nil rfl) rfl) (by decide) (by decide) rfl rfl) (pa_cons (pe_callB (call_isX K rfl) (by rfl) M.isinstance boot_isinstance (pa_cons (pv 0) (pa_cons (pe_glob (v := .ref (c 3)) (by rfl) Y.m3 rfl (by decide)) pa_nil rfl) rfl) (by decide) (by decide) rfl rfl) pa_nil rfl) rfl) rfl) rfl)) rfl (Or.inl rfl))
  (pss_cons (ps_set (i := 1) sc_law_kind.nd rfl (Or.inl rfl) (pe_op op_cat (pv 1) (pe_lst (pa_cons (pe_callB (call_isX K rfl) (by rfl) M.isinstance boot_isinstance (pa_cons (pv 0) (pa_cons (pe_glob (v := .ref (c 4)) (by rfl) Y.m4 rfl (by decide)) pa_nil rfl) rfl) (by decide) (by decide) rfl rfl) (pa_cons (pe_callB (call_isX K rfl) (by rfl) M.isinstance boot_isinstance (pa_cons (pv 0) (pa_cons (pe_glob (v := .ref (c 5)) (by rfl) Y.m5 rfl (by decide)) pa_nil rfl) rfl) (by decide) (by decide) rfl rfl) (pa_cons (pe_callB (call_isX K rfl) (by rfl) M.isinstance boot_isinstance (pa_cons (pv 0) (pa_cons (pe_glob (v := .ref (c 6)) (by rfl) Y.m6 rfl (by decide)) pa_nil rfl) rfl) (by decide) (by decide) rfl rfl) pa_nil rfl) rfl) rfl))) rfl (Or.inl rfl))
  (pss_cons (ps_if (PW.pt (pw_or (pt_not (pt_val (pe_callB (call_isX K rfl) (by rfl) M.isinstance boot_isinstance (pa_cons (pv 0) (pa_cons (pe_bltn (v := .ty "ValueError") (by rfl) M.ValueError boot_ValueError rfl (by decide) (by decide)) pa_nil rfl) rfl) (by decide) (by decide) rfl rfl) (fun _ => rfl))) (pw_or1 (pt_cmpR op_ne (pe_bmK K rfl PySem.F.plainAttrs_list PySem.F.slot_list_count PySem.F.type_list_count (mt_countB K rfl) (pv 1) (pa_cons pe_bl pa_nil rfl) rfl rfl rfl rfl rfl) pe_int (nomark _)))))
  (pss_one (ps_ret (pe_strS [111, 116, 104, 101, 114] (by decide +kernel))))
  pss_nil)
  (pss_one (ps_ret (pe_ix (ix_listK K rfl) (pe_lst (pa_cons (pe_strS [100, 105, 101] (by decide +kernel)) (pa_cons (pe_strS [119, 111, 114, 100] (by decide +kernel)) (pa_cons (pe_strS [114, 97, 99, 101] (by decide +kernel)) (pa_cons (pe_strS [114, 111, 119] (by decide +kernel)) (pa_cons (pe_strS [111, 118, 101, 114] (by decide +kernel)) (pa_cons (pe_strS [109, 97, 110, 121] (by decide +kernel)) (pa_cons (pe_strS [110, 111, 116, 101] (by decide +kernel)) pa_nil rfl) rfl) rfl) rfl) rfl) rfl) rfl)) (pe_bmK K rfl PySem.F.plainAttrs_list PySem.F.slot_list_index PySem.F.type_list_index (mt_indexB K rfl) (pv 1) (pa_cons pe_bl pa_nil rfl) rfl rfl rfl rfl rfl) (fun _ _ => rfl))))))), ?_⟩
    walk_at "go"
    refine g_isX Y hE hj (by decide) ?_
    walk_at "go"
    refine g_isX Y hE hj (by decide) ?_
    walk_at "go"
    refine g_isX Y hE hj (by decide) ?_
    walk_at "go"
    refine g_isX Y hE hj (by decide) ?_
    walk_at "go"
    intro p hp
    have s1 : Same H (upd H p (.lst [.bl (j == 0), .bl (j == 1), .bl (j == 2), .bl (j == 3)])) := same_upd (Same.refl _) hp
    have hE1 := s1 _ _ hE
    have e1 : upd H p (.lst [.bl (j == 0), .bl (j == 1), .bl (j == 2), .bl (j == 3)]) p = some (.lst [.bl (j == 0), .bl (j == 1), .bl (j == 2), .bl (j == 3)]) := upd_same
    revert s1 hE1 e1
    generalize upd H p (.lst [.bl (j == 0), .bl (j == 1), .bl (j == 2), .bl (j == 3)]) = H1
    intro s1 hE1 e1
    walk_at "go"
    refine g_isX Y hE1 hj (by decide) ?_
    walk_at "go"
    refine g_isX Y hE1 hj (by decide) ?_
    walk_at "go"
    refine g_isX Y hE1 hj (by decide) ?_
    walk_at "go"
    intro p2 hp2
    have s2 : Same H1 (upd H1 p2 (.lst [.bl (j == 4), .bl (j == 5), .bl (j == 6)])) := same_upd (Same.refl _) hp2
    refine ⟨p, p2, _, _, rfl, rfl, s2 _ _ e1, upd_same, (show 4 + 3 ≤ sizeLine by rw [sizeLine_eq]; decide), fun p3 hp3 => ?_⟩
    have s3 : Same H (upd (upd H1 p2 (.lst [.bl (j == 4), .bl (j == 5), .bl (j == 6)])) p3 (.lst ((kindB j).map V.bl))) := (s1.trans s2).trans (same_upd (Same.refl _) hp3)
    have hE3 := s3 _ _ hE
    have e3 : upd (upd H1 p2 (.lst [.bl (j == 4), .bl (j == 5), .bl (j == 6)])) p3 (.lst ((kindB j).map V.bl)) p3 = some (.lst ((kindB j).map V.bl)) := upd_same
    show gName 1 _ _ (upd (upd H1 p2 (.lst [.bl (j == 4), .bl (j == 5), .bl (j == 6)])) p3 (.lst ((kindB j).map V.bl))) _
    revert s3 hE3 e3
    generalize upd (upd H1 p2 (.lst [.bl (j == 4), .bl (j == 5), .bl (j == 6)])) p3 (.lst ((kindB j).map V.bl)) = H3
    intro s3 hE3 e3
    walk_at "go"
    refine g_isV Y hE3 hj ?_
    walk_at "go"
    refine iteF ?_
    walk_at "go"
    refine ⟨p3, kindB j, rfl, rfl, SqL.of e3, ?_⟩
    rw [kindB_n j hj]
    walk_at "go"
    refine iteF ?_
    walk_at "go"
    intro p4 hp4
    have s4 : Same H3 (upd H3 p4 (.lst (List.map (fun l => V.str (S l)) [[100, 105, 101], [119, 111, 114, 100], [114, 97, 99, 101], [114, 111, 119], [111, 118, 101, 114], [109, 97, 110, 121], [110, 111, 116, 101]]))) := same_upd (Same.refl _) hp4
    walk_at "go"
    refine g_tyL (SqL.of (s4 _ _ e3)) ?_
    walk_at "go"
    refine ⟨p3, j, kindB j, rfl, rfl, SqL.of (s4 _ _ e3), kindB_j j hj, kindB_m j hj, ?_⟩
    refine g_ixL (SqL.of (xs := List.map (fun l => V.str (S l)) [[100, 105, 101], [119, 111, 114, 100], [114, 97, 99, 101], [114, 111, 119], [111, 118, 101, 114], [109, 97, 110, 121], [110, 111, 116, 101]]) upd_same) (atI_nat (kindT_at j hj)) ?_
    exact k _ (s3.trans s4)


def sp_law_tried (K : PySem.W.Frag) (c : Nat → Addr) : Sp := fun vs H Q E => ∃ t d a, ∃ ns : List Int, ∃ ws, vs = [.int t, .ref d, .ref a] ∧ SqL K H d (ns.map V.int) ∧ SqL K H a (txs ws) ∧ ((t ≠ 8 ∧ RaceBad ns ws 2) ∨
  (t = 8 ∧ DieOk ns ∧ ∃ one other, ws = [one, other] ∧ WordOk ns.length one ∧ WordOk ns.length other ∧ (one.length ≠ other.length ∨ one = other))) ∧ ∀ H', Same H H' → Q (.str (S (kindT 2))) H'
theorem sc_law_tried : FnScope ["turn", "die", "words", "e"] ["turn", "die", "words"] (defScope s_law_tried) := ⟨rfl, rfl, rfl, by decide +kernel, rfl, by decide +kernel, by decide +kernel⟩
theorem okT_law_tried {f : Addr} {fd : FuncData} (F : Fun K "_law_tried" "_law_tried" s_law_tried f fd) (M : Bl mg) (T : Cs P mg) (Y : Xc K mg c) {f_odds : Addr} {fd_odds : FuncData} (R_odds : DfX P w K mg base "odds" 42 f_odds fd_odds ["die", "one", "other"] (sp_oddsR K c)) {f_law_asked : Addr} {fd_law_asked : FuncData} (R_law_asked : DfX P w K mg base "_law_asked" 44 f_law_asked fd_law_asked ["turn", "die", "words", "row"] (sp_law_askedR K c)) {f_law_kind : Addr} {fd_law_kind : FuncData} (Q_law_kind : DfM P w K mg base "_law_kind" 37 f_law_kind fd_law_kind ["e"] (sp_law_kind K c)) : FnOk P w K mg base CX0 45 f fd ["turn", "die", "words"] (sp_law_tried K c) := by
  refine F.okG sc_law_tried (fun vs H Q E h => ?_) (fun cdv A outer s H vs Q E hr h => ?_)
  · obtain ⟨t, d, a, ns, ws, rfl, _⟩ := h; rfl
  · obtain ⟨t, d, a, ns, ws, rfl, hd, hS, hb, k⟩ := h
    refine ⟨_, (pss_cons (ps_tryR (i := 3) sc_law_tried.nd rfl rfl (Y.e 7 (by decide) Y.m7) (by rfl) (fun xe pn E2 hx => (pss_one (ps_if (pt_cmpR op_eq (pv 0) pe_int (nomark _))
    (pss_one (ps_expr (pe_callX hx R_odds hr (by rfl) (pa_cons (pv 1) (pa_cons (pe_ix (ix_listK K rfl) (pv 2) pe_int (fun _ _ => rfl)) (pa_cons (pe_ix (ix_listK K rfl) (pv 2) pe_int (fun _ _ => rfl)) pa_nil rfl) rfl) rfl) (by decide) (by decide) rfl rfl) rfl))
    (pss_one (ps_expr (pe_callX hx R_law_asked hr (by rfl) (pa_cons (pv 0) (pa_cons (pv 1) (pa_cons (pv 2) (pa_cons (pe_strS [101] (by decide +kernel)) pa_nil rfl) rfl) rfl) rfl) (by decide) (by decide) rfl rfl) rfl))))) (fun ea => (pss_one (ps_ret (pe_callM Q_law_kind (hr.toM _) (by rfl) (pa_cons (pv 3) pa_nil rfl) (by decide) (by decide) rfl rfl)))) (by decide))
  (pss_one (ps_ret (pe_strS [100, 111, 110, 101] (by decide +kernel))))), ?_⟩
    walk_at "go"
    refine g_try ?_
    walk_at "go"
    refine g_ite (fun ht => ?_) (fun ht => ?_)
    · rcases hb with ⟨z, _⟩ | ⟨_, hdo, one, other, rfl, h1, h2, h3⟩
      · exact absurd ht z
      walk_at "go"
      refine g_ixL hS (atI_nat (j := 0) rfl) ?_
      walk_at "go"
      refine g_ixL hS (atI_nat (j := 1) rfl) ?_
      walk_at "go"
      refine ⟨d, ns, one, other, 2, rfl, hd, .inr (.inr ⟨rfl, hdo, h1, h2, h3⟩), fun H1 ea s1 he => ⟨ea, c 2, rfl, rfl, Y.sb 2 (by decide), fun σ' hσ => ?_⟩⟩
      walk_at "go"
      refine g_varT ⟨_, hσ, ?_⟩
      walk_at "go"
      exact ⟨ea, 2, rfl, by decide, upd_same, fun H2 s2 => k H2 ((same_upd s1 (s1.free he)).trans s2)⟩
    · rcases hb with ⟨_, hb⟩ | ⟨z, _⟩
      case inr => exact absurd z ht
      walk_at "go"
      refine ⟨t, d, a, ns, ws, _, rfl, hd, hS, hb, fun H1 ea s1 he => ⟨ea, c 2, rfl, rfl, Y.sb 2 (by decide), fun σ' hσ => ?_⟩⟩
      walk_at "go"
      refine g_varT ⟨_, hσ, ?_⟩
      walk_at "go"
      exact ⟨ea, 2, rfl, by decide, upd_same, fun H2 s2 => k H2 ((same_upd s1 (s1.free he)).trans s2)⟩


def sp_law (K : PySem.W.Frag) : Sp := fun vs H Q _ => ∃ (a : Addr) (ns : List Int), vs = [.ref a] ∧ SqL K H a (ns.map V.int) ∧ ns.length ≤ 63 ∧ ∀ H', Q (.bl true) H'
theorem at_lastT {ws : List (List Nat)} {one : List Nat} (h : ws.getLast? = some one) : atI (txs ws) (-1) = some (.str (S one)) := by
  have hne : ws ≠ [] := fun z => by rw [z] at h; cases h
  have hp : 0 < ws.length := List.length_pos_iff.mpr hne
  rw [List.getLast?_eq_getElem?] at h
  obtain ⟨h1, h2⟩ := List.getElem?_eq_some_iff.mp h
  have := txs_at (ws := ws) (i := ws.length - 1) h1
  rw [h2] at this
  unfold atI ixN
  rw [txs_len, if_neg (by decide), if_pos (by (first | lia | omega))]
  show (txs ws)[_]? = _
  rw [show ((-1 : Int) + (ws.length : Int)).toNat = ws.length - 1 by (first | lia | omega)]
  exact this
theorem beg_last {w : List Nat} {bs : List (List Nat)} (h : BegO [w] bs) : bs.getLast? = some w := by
  have hw : w ∈ bs := (h.l.mem w).mpr ⟨w, by simp, List.prefix_rfl⟩
  obtain ⟨i, hi, e⟩ := List.getElem_of_mem hw
  rw [List.getLast?_eq_getElem?]
  by_cases hz : i = bs.length - 1
  · subst hz; rw [List.getElem?_eq_getElem hi, e]
  · exfalso
    have o := List.pairwise_iff_getElem.mp h.ord i (bs.length - 1) hi (by (first | lia | omega)) (by (first | lia | omega))
    rw [e] at o
    obtain ⟨v, hv, hp⟩ := (h.l.mem _).mp (List.getElem_mem (l := bs) (n := bs.length - 1) (by (first | lia | omega)))
    obtain rfl : v = w := by simpa using hv
    rcases o with o | ⟨o, o2⟩
    · have := hp.length_le; (first | lia | omega)
    · rw [hp.eq_of_length o.symm, ltC_irr] at o2; cases o2
theorem cutL_end {α : Type} {l : List α} (h : l ≠ []) : cutL l (some (-1)) none = l.drop (l.length - 1) := by
  have hp : 0 < l.length := List.length_pos_iff.mpr h
  have e := sIx_some l.length 0 (-1)
  rw [if_pos (by decide)] at e
  have e' : HT.sIx l.length 0 (some (-1)) = l.length - 1 := by (first | lia | omega)
  unfold cutL
  rw [e']
  show (l.drop (l.length - 1)).take (l.length - (l.length - 1)) = _
  exact List.take_of_length_le (by rw [List.length_drop]; (first | lia | omega))
theorem line_end {ns : List Int} {w : List Nat} (h : 1 ≤ w.length) : cutL (lineT ns [w]) (some (-1)) none = cutL w (some (-1)) none := by
  have hw : w ≠ [] := fun z => by rw [z] at h; simp at h
  have e : lineT ns [w] = (wtT ns ++ [58, 32]) ++ w := rfl
  rw [e, cutL_end hw, cutL_end (by simp), List.length_append, List.drop_append]
  generalize wtT ns ++ [58, 32] = u
  rw [List.drop_eq_nil_of_le (by (first | lia | omega)), List.nil_append]
  congr 1
  (first | lia | omega)
theorem one_race {n : Nat} {w : List Nat} (h : WordOk n w) : RaceOk n [w] := ⟨by simp, by simp, fun l hl => by rw [List.mem_singleton.mp hl]; exact h, List.pairwise_singleton ..⟩
theorem ab_word {n : Nat} (h : 2 ≤ n) {l : List Nat} (h1 : 1 ≤ l.length) (h2 : l.length ≤ 6) (hs : ∀ c ∈ l, c = 97 ∨ c = 98) : WordOk n l := ⟨h1, h2, fun c hc => by
  obtain ⟨m, rfl⟩ : ∃ m, n = m + 2 := ⟨n - 2, by (first | lia | omega)⟩
  rcases hs c hc with z | z <;> rw [z]
  · exact List.mem_cons_self
  · exact List.mem_cons_of_mem _ List.mem_cons_self⟩
theorem piece_in {w : List Nat} {i j : Nat} (hi : i < w.length) : within ((w.drop i).take j) w = true := by
  unfold within
  rw [List.any_eq_true]
  exact ⟨i, List.mem_range.mpr (by (first | lia | omega)), by rw [List.isPrefixOf_iff_prefix]; exact List.take_prefix ..⟩
theorem self_in (w : List Nat) : within w w = true := by
  unfold within
  rw [List.any_eq_true]
  exact ⟨0, List.mem_range.mpr (by (first | lia | omega)), by rw [List.isPrefixOf_iff_prefix]; exact List.prefix_rfl⟩
def fiveW : List (List Nat) := [[97, 97, 98], [97, 98, 98], [98, 98, 97], [98, 97, 97], [98, 97, 98]]
def sixW : List (List Nat) := [[97, 97, 98], [97, 98, 98], [98, 98, 97], [98, 97, 97], [97, 97, 97], [98, 98, 98]]
theorem two_words {n : Nat} {a b : List Nat} (ha : WordOk n a) (hb : WordOk n b) : ∀ l ∈ [a, b], WordOk n l := fun l hl => by
  rcases List.mem_cons.mp hl with z | z
  · rw [z]; exact ha
  · rw [List.mem_singleton.mp z]; exact hb
theorem six_at {dn : List Int} {w pc : List Nat} (hd : DieOk dn) (hw : WordOk dn.length w) (hp : WordOk dn.length pc) (hin : within pc w = true) {H : Hp} {p1 p2 p3 p4 p5 p6 : Addr} (e1 : H p1 = some (.lst (txs []))) (e2 : H p2 = some (.lst (txs fiveW))) (e3 : H p3 = some (.lst (txs sixW)))
    (e4 : H p4 = some (.lst (txs [w, pc]))) (e5 : H p5 = some (.lst (txs [pc, w]))) (e6 : H p6 = some (.lst (txs [[97, 97, 98], [97, 98, 98], w, w]))) (v : Int) :
    ∃ q ws, atI [V.ref p1, V.ref p2, V.ref p3, V.ref p4, V.ref p5, V.ref p6] (v % 6) = some (.ref q) ∧ H q = some (.lst (txs ws)) ∧ RaceBad dn ws 2 := by
  have n2 := hd.lo
  have ab : ∀ l ∈ fiveW ++ sixW, WordOk dn.length l := fun l hl => by
    have hl' : 1 ≤ l.length ∧ l.length ≤ 6 ∧ ∀ c ∈ l, c = 97 ∨ c = 98 := by
      revert l; decide
    exact ab_word n2 hl'.1 hl'.2.1 hl'.2.2
  have hab : ∀ l, l ∈ fiveW → WordOk dn.length l := fun l hl => ab l (List.mem_append_left _ hl)
  obtain ⟨j, ej⟩ := Int.eq_ofNat_of_zero_le (Int.emod_nonneg v (show (6 : Int) ≠ 0 by decide))
  have hj : j < 6 := by have := Int.emod_lt_of_pos v (show (0 : Int) < 6 by decide); (first | lia | omega)
  rw [ej]
  match j, hj with
  | 0, _ => exact ⟨p1, _, rfl, e1, .inr (.inr ⟨rfl, hd, fun l (hl : l ∈ []) => by (cases hl), by decide, .inl (by decide)⟩)⟩
  | 1, _ => exact ⟨p2, _, rfl, e2, .inr (.inr ⟨rfl, hd, hab, by decide, .inr (.inl (by decide))⟩)⟩
  | 2, _ => exact ⟨p3, _, rfl, e3, .inr (.inr ⟨rfl, hd, fun l hl => ab l (List.mem_append_right _ hl), by decide, .inr (.inl (by decide))⟩)⟩
  | 3, _ => exact ⟨p4, _, rfl, e4, .inr (.inr ⟨rfl, hd, two_words hw hp, by simp, .inr (.inr ⟨1, by simp, by show (within pc w || false) = true; rw [hin]; rfl⟩)⟩)⟩
  | 4, _ => exact ⟨p5, _, rfl, e5, .inr (.inr ⟨rfl, hd, two_words hp hw, by simp, .inr (.inr ⟨0, by simp, by show (within pc w || false) = true; rw [hin]; rfl⟩)⟩)⟩
  | 5, _ => exact ⟨p6, _, rfl, e6, .inr (.inr ⟨rfl, hd, fun l hl => by
      rcases List.mem_cons.mp hl with z | z
      · rw [z]; exact hab _ (by decide)
      rcases List.mem_cons.mp z with z | z
      · rw [z]; exact hab _ (by decide)
      rcases List.mem_cons.mp z with z | z
      · rw [z]; exact hw
      · rw [List.mem_singleton.mp z]; exact hw, by simp, .inr (.inr ⟨2, by simp, by show (within w [97, 97, 98] || (within w [97, 98, 98] || (within w w || false))) = true; rw [self_in]; simp⟩)⟩)⟩
theorem sc_law : FnScope ["script", "die", "word", "piece", "five", "six", "words", "turn", "other"] ["script"] (defScope s_law) := ⟨rfl, rfl, rfl, by decide +kernel, rfl, by decide +kernel, by decide +kernel⟩
theorem ok_law {f : Addr} {fd : FuncData} (F : Fun K "law" "law" s_law f fd) (M : Bl mg) (T : Cs P mg) {f_law_die : Addr} {fd_law_die : FuncData} (D_law_die : Df P w K mg base "_law_die" 38 f_law_die fd_law_die ["cell"] (sp_law_die K)) {f_law_word : Addr} {fd_law_word : FuncData} (D_law_word : Df P w K mg base "_law_word" 39 f_law_word fd_law_word ["cell", "signs"] (sp_law_word K)) {f_law_cell_at : Addr} {fd_law_cell_at : FuncData} (D_law_cell_at : Df P w K mg base "_law_cell_at" 37 f_law_cell_at fd_law_cell_at ["script", "k"] (sp_law_cell_at K)) {f_law_tried : Addr} {fd_law_tried : FuncData} (D_law_tried : Df P w K mg base "_law_tried" 45 f_law_tried fd_law_tried ["turn", "die", "words"] (sp_law_tried K c)) {f_beginnings : Addr} {fd_beginnings : FuncData} (D_beginnings : Df P w K mg base "beginnings" 41 f_beginnings fd_beginnings ["die", "words"] (sp_beginnings K)) {f_shown : Addr} {fd_shown : FuncData} (D_shown : Df P w K mg base "shown" 41 f_shown fd_shown ["die", "words"] (sp_shown K)) : FnOk P w K mg base CX0 46 f fd ["script"] (sp_law K) := by
  refine F.ok sc_law (fun vs H Q E h => ?_) (fun cdv A outer s H vs Q E hr h => ?_)
  · obtain ⟨a, ns, rfl, _⟩ := h; rfl
  · obtain ⟨a, sc, rfl, hS, hlen, k⟩ := h
    refine ⟨_, (pss_cons (ps_set (i := 1) sc_law.nd rfl (Or.inl rfl) (pe_callD D_law_die hr (by rfl) (pa_cons (pe_op op_mod (pe_callD D_law_cell_at hr (by rfl) (pa_cons (pv 0) (pa_cons pe_int pa_nil rfl) rfl) (by decide) (by decide) rfl rfl) pe_int) pa_nil rfl) (by decide) (by decide) rfl rfl) rfl (Or.inl rfl))
  (pss_cons (ps_set (i := 2) sc_law.nd rfl (Or.inl rfl) (pe_callD D_law_word hr (by rfl) (pa_cons (pe_op op_mod (pe_callD D_law_cell_at hr (by rfl) (pa_cons (pv 0) (pa_cons pe_int pa_nil rfl) rfl) (by decide) (by decide) rfl rfl) pe_int) (pa_cons (pe_callB (call_lenK K rfl) (by rfl) M.len PySem.boot_len (pa_cons (pv 1) pa_nil rfl) (by decide) (by decide) rfl rfl) pa_nil rfl) rfl) (by decide) (by decide) rfl rfl) rfl (Or.inl rfl))
  (pss_cons (ps_set (i := 3) sc_law.nd rfl (Or.inl rfl) (pe_slice sl_str (pv 2) (po_some (pe_op op_mod (pe_callD D_law_cell_at hr (by rfl) (pa_cons (pv 0) (pa_cons pe_int pa_nil rfl) rfl) (by decide) (by decide) rfl rfl) (pe_callB call_lenS (by rfl) M.len PySem.boot_len (pa_cons (pv 2) pa_nil rfl) (by decide) (by decide) rfl rfl))) po_none) rfl (Or.inl rfl))
  (pss_cons (ps_set (i := 3) sc_law.nd rfl (Or.inl rfl) (pe_slice sl_str (pv 3) po_none (po_some (pe_op op_add pe_int (pe_op op_mod (pe_callD D_law_cell_at hr (by rfl) (pa_cons (pv 0) (pa_cons pe_int pa_nil rfl) rfl) (by decide) (by decide) rfl rfl) (pe_callB call_lenS (by rfl) M.len PySem.boot_len (pa_cons (pv 3) pa_nil rfl) (by decide) (by decide) rfl rfl))))) rfl (Or.inl rfl))
  (pss_cons (ps_set (i := 4) sc_law.nd rfl (Or.inl rfl) (pe_lst (pa_cons (pe_strS [97, 97, 98] (by decide +kernel)) (pa_cons (pe_strS [97, 98, 98] (by decide +kernel)) (pa_cons (pe_strS [98, 98, 97] (by decide +kernel)) (pa_cons (pe_strS [98, 97, 97] (by decide +kernel)) (pa_cons (pe_strS [98, 97, 98] (by decide +kernel)) pa_nil rfl) rfl) rfl) rfl) rfl)) rfl (Or.inl rfl))
  (pss_cons (ps_set (i := 5) sc_law.nd rfl (Or.inl rfl) (pe_op op_cat (pe_slice (sl_listK K rfl) (pv 4) po_none (po_some pe_int)) (pe_lst (pa_cons (pe_strS [97, 97, 97] (by decide +kernel)) (pa_cons (pe_strS [98, 98, 98] (by decide +kernel)) pa_nil rfl) rfl))) rfl (Or.inl rfl))
  (pss_cons (ps_set (i := 6) sc_law.nd rfl (Or.inl rfl) (pe_ix (ix_listK K rfl) (pe_lst (pa_cons (pe_lst pa_nil) (pa_cons (pv 4) (pa_cons (pv 5) (pa_cons (pe_lst (pa_cons (pv 2) (pa_cons (pv 3) pa_nil rfl) rfl)) (pa_cons (pe_lst (pa_cons (pv 3) (pa_cons (pv 2) pa_nil rfl) rfl)) (pa_cons (pe_op op_cat (pe_slice (sl_listK K rfl) (pv 4) po_none (po_some pe_int)) (pe_lst (pa_cons (pv 2) (pa_cons (pv 2) pa_nil rfl) rfl))) pa_nil rfl) rfl) rfl) rfl) rfl) rfl)) (pe_op op_mod (pe_callD D_law_cell_at hr (by rfl) (pa_cons (pv 0) (pa_cons pe_int pa_nil rfl) rfl) (by decide) (by decide) rfl rfl) pe_int) (fun _ _ => rfl)) rfl (Or.inl rfl))
  (pss_cons (ps_for PassesOwn.never rfl (pi_range1 (by rfl) M.range (pa_cons pe_int pa_nil rfl) rfl) (pg_name (i := 7) sc_law.nd rfl (Or.inl rfl) (Or.inl rfl))
  (pss_one (ps_if (pt_cmpR op_ne (pe_callD D_law_tried hr (by rfl) (pa_cons (pv 7) (pa_cons (pe_callTy (call_listK K rfl) (by rfl) M.list boot_list (pa_cons (pv 1) pa_nil rfl) (by decide) (by decide) rfl rfl) (pa_cons (pe_callTy (call_listK K rfl) (by rfl) M.list boot_list (pa_cons (pv 6) pa_nil rfl) (by decide) (by decide) rfl rfl) pa_nil rfl) rfl) rfl) (by decide) (by decide) rfl rfl) (pe_strS [114, 97, 99, 101] (by decide +kernel)) (nomark _))
    (pss_one (ps_ret pe_bl))
    pss_nil)) (fun _ => rfl))
  (pss_cons (ps_set (i := 8) sc_law.nd rfl (Or.inl rfl) (pe_slice sl_str (pe_op op_addS (pv 2) (pe_strS [97] (by decide +kernel))) po_none (po_some pe_int)) rfl (Or.inl rfl))
  (pss_cons (ps_if (PW.pt (pw_or (pt_cmpR op_ne (pe_callD D_law_tried hr (by rfl) (pa_cons pe_int (pa_cons (pe_callTy (call_listK K rfl) (by rfl) M.list boot_list (pa_cons (pv 1) pa_nil rfl) (by decide) (by decide) rfl rfl) (pa_cons (pe_lst (pa_cons (pv 2) (pa_cons (pv 2) pa_nil rfl) rfl)) pa_nil rfl) rfl) rfl) (by decide) (by decide) rfl rfl) (pe_strS [114, 97, 99, 101] (by decide +kernel)) (nomark _)) (pw_or1 (pt_cmpR op_ne (pe_callD D_law_tried hr (by rfl) (pa_cons pe_int (pa_cons (pe_callTy (call_listK K rfl) (by rfl) M.list boot_list (pa_cons (pv 1) pa_nil rfl) (by decide) (by decide) rfl rfl) (pa_cons (pe_lst (pa_cons (pv 2) (pa_cons (pv 8) pa_nil rfl) rfl)) pa_nil rfl) rfl) rfl) (by decide) (by decide) rfl rfl) (pe_strS [114, 97, 99, 101] (by decide +kernel)) (nomark _)))))
  (pss_one (ps_ret pe_bl))
  pss_nil)
  (pss_one (ps_ret (pe_and (pe_cmpR op_eq (pe_ix (ix_listK K rfl) (pe_callD D_beginnings hr (by rfl) (pa_cons (pe_callTy (call_listK K rfl) (by rfl) M.list boot_list (pa_cons (pv 1) pa_nil rfl) (by decide) (by decide) rfl rfl) (pa_cons (pe_lst (pa_cons (pv 2) pa_nil rfl)) pa_nil rfl) rfl) (by decide) (by decide) rfl rfl) (pe_un un_neg pe_int) (fun _ _ => rfl)) (pv 2) (nomark _)) (pe_one (pe_cmpR op_eq (pe_slice sl_str (pe_callD D_shown hr (by rfl) (pa_cons (pe_callTy (call_listK K rfl) (by rfl) M.list boot_list (pa_cons (pv 1) pa_nil rfl) (by decide) (by decide) rfl rfl) (pa_cons (pe_lst (pa_cons (pv 2) pa_nil rfl)) pa_nil rfl) rfl) (by decide) (by decide) rfl rfl) (po_some (pe_un un_neg pe_int)) po_none) (pe_slice sl_str (pv 2) (po_some (pe_un un_neg pe_int)) po_none) (nomark _)))))))))))))))), ?_⟩
    walk_at "go"
    refine ⟨a, sc, 0, rfl, hS, fun v0 => ?_⟩
    walk_at "go"
    refine ⟨_, rfl, fun d dn H1 hd hf1 s1 hd1 => ?_⟩
    have q1 := hd.lo
    have q2 := hd.hi
    have hl : (dn.map V.int).length = dn.length := List.length_map ..
    have hg : ((dn.map V.int).length : Int).toNat = dn.length := by (first | lia | omega)
    walk_at "go"
    refine ⟨a, sc, 1, rfl, s1.seq hS, fun v1 => ?_⟩
    walk_at "go"
    refine ⟨_, _, rfl, .inl (SqL.of hd1), ?_⟩
    walk_at "go"
    refine ⟨_, _, rfl, by (first | lia | omega), by (first | lia | omega), fun w hw => ?_⟩
    rw [hg] at hw
    have w1 := hw.lo
    have w6 := hw.hi
    walk_at "go"
    refine ⟨a, sc, 2, rfl, s1.seq hS, fun v2 => ?_⟩
    walk_at "go"
    refine g_slS (small (by (first | lia | omega))) ?_
    obtain ⟨i, ei⟩ := Int.eq_ofNat_of_zero_le (Int.emod_nonneg v2 (show (w.length : Int) ≠ 0 by (first | lia | omega)))
    have hi : i < w.length := by have := Int.emod_lt_of_pos v2 (show (0 : Int) < w.length by (first | lia | omega)); (first | lia | omega)
    rw [show v2 % (w.length : Int) = (i : Int) from ei, cutL_from]
    have dl : (w.drop i).length = w.length - i := List.length_drop ..
    walk_at "go"
    refine ⟨a, sc, 3, rfl, s1.seq hS, fun v3 => ?_⟩
    walk_at "go"
    refine g_slS (small (by (first | lia | omega))) ?_
    obtain ⟨j, ej⟩ := Int.eq_ofNat_of_zero_le (Int.emod_nonneg v3 (show ((w.drop i).length : Int) ≠ 0 by (first | lia | omega)))
    rw [show v3 % ((w.drop i).length : Int) = (j : Int) from ej, show (1 : Int) + (j : Int) = ((j + 1 : Nat) : Int) by (first | lia | omega), cutL_to]
    have hin := piece_in (j := j + 1) hi
    have hp : WordOk dn.length ((w.drop i).take (j + 1)) := ⟨by rw [List.length_take, dl]; (first | lia | omega), by rw [List.length_take, dl]; (first | lia | omega), fun c hc => hw.s c (List.mem_of_mem_drop (List.mem_of_mem_take hc))⟩
    generalize (w.drop i).take (j + 1) = pc at hin hp ⊢
    walk_at "go"
    intro p2 n2
    have t2 := same_upd (o := .lst (txs fiveW)) (Same.refl H1) n2
    have e2 : upd H1 p2 (.lst (txs fiveW)) p2 = some (.lst (txs fiveW)) := upd_same
    change gName _ _ _ (upd H1 p2 (.lst (txs fiveW))) _
    generalize upd H1 p2 (.lst (txs fiveW)) = G2 at t2 e2 ⊢
    walk_at "go"
    refine ⟨p2, _, rfl, SqL.of e2, fun m1 x1 => ?_⟩
    have y1 := same_upd (o := .lst (txs (fiveW.take 4))) (Same.refl G2) x1
    have f1 : upd G2 m1 (.lst (txs (fiveW.take 4))) m1 = some (.lst (txs (fiveW.take 4))) := upd_same
    change tLst _ _ (upd G2 m1 (.lst (txs (fiveW.take 4)))) _
    generalize upd G2 m1 (.lst (txs (fiveW.take 4))) = G2a at y1 f1 ⊢
    walk_at "go"
    intro m2 x2
    have y2 := same_upd (o := .lst (txs [[97, 97, 97], [98, 98, 98]])) (Same.refl G2a) x2
    have f2 : upd G2a m2 (.lst (txs [[97, 97, 97], [98, 98, 98]])) m2 = some (.lst (txs [[97, 97, 97], [98, 98, 98]])) := upd_same
    change rCat _ _ (upd G2a m2 (.lst (txs [[97, 97, 97], [98, 98, 98]]))) _
    generalize upd G2a m2 (.lst (txs [[97, 97, 97], [98, 98, 98]])) = G2b at y2 f2 ⊢
    refine ⟨m1, m2, _, _, rfl, rfl, y2 _ _ f1, f2, (show 4 + 2 ≤ sizeLine by rw [sizeLine_eq]; decide), fun p3 n3 => ?_⟩
    have t3 := same_upd (o := .lst (txs sixW)) (Same.refl G2b) n3
    have e3 : upd G2b p3 (.lst (txs sixW)) p3 = some (.lst (txs sixW)) := upd_same
    change gName _ _ _ (upd G2b p3 (.lst (txs sixW))) _
    generalize upd G2b p3 (.lst (txs sixW)) = G3 at t3 e3 ⊢
    have z3 : Same G2 G3 := (y1.trans y2).trans t3
    walk_at "go"
    intro p1 n1
    have t1 := same_upd (o := .lst (txs [])) (Same.refl G3) n1
    have e1 : upd G3 p1 (.lst (txs [])) p1 = some (.lst (txs [])) := upd_same
    change tCons _ _ _ (upd G3 p1 (.lst (txs []))) _
    generalize upd G3 p1 (.lst (txs [])) = G1 at t1 e1 ⊢
    walk_at "go"
    intro p4 n4
    have t4 := same_upd (o := .lst (txs [w, pc])) (Same.refl G1) n4
    have e4 : upd G1 p4 (.lst (txs [w, pc])) p4 = some (.lst (txs [w, pc])) := upd_same
    change tCons _ _ _ (upd G1 p4 (.lst (txs [w, pc]))) _
    generalize upd G1 p4 (.lst (txs [w, pc])) = G4 at t4 e4 ⊢
    walk_at "go"
    intro p5 n5
    have t5 := same_upd (o := .lst (txs [pc, w])) (Same.refl G4) n5
    have e5 : upd G4 p5 (.lst (txs [pc, w])) p5 = some (.lst (txs [pc, w])) := upd_same
    change tCons _ _ _ (upd G4 p5 (.lst (txs [pc, w]))) _
    generalize upd G4 p5 (.lst (txs [pc, w])) = G5 at t5 e5 ⊢
    walk_at "go"
    have z5 : Same G3 G5 := (t1.trans t4).trans t5
    have e25 := z5 _ _ (z3 _ _ e2)
    refine ⟨p2, _, rfl, SqL.of e25, fun m3 x3 => ?_⟩
    have y3 := same_upd (o := .lst (txs (fiveW.take 2))) (Same.refl G5) x3
    have f3 : upd G5 m3 (.lst (txs (fiveW.take 2))) m3 = some (.lst (txs (fiveW.take 2))) := upd_same
    change tLst _ _ (upd G5 m3 (.lst (txs (fiveW.take 2)))) _
    generalize upd G5 m3 (.lst (txs (fiveW.take 2))) = G5a at y3 f3 ⊢
    walk_at "go"
    intro m4 x4
    have y4 := same_upd (o := .lst (txs [w, w])) (Same.refl G5a) x4
    have f4 : upd G5a m4 (.lst (txs [w, w])) m4 = some (.lst (txs [w, w])) := upd_same
    change rCat _ _ (upd G5a m4 (.lst (txs [w, w]))) _
    generalize upd G5a m4 (.lst (txs [w, w])) = G5b at y4 f4 ⊢
    refine ⟨m3, m4, _, _, rfl, rfl, y4 _ _ f3, f4, (show 2 + 2 ≤ sizeLine by rw [sizeLine_eq]; decide), fun p6 n6 => ?_⟩
    have t6 := same_upd (o := .lst (txs [[97, 97, 98], [97, 98, 98], w, w])) (Same.refl G5b) n6
    have e6 : upd G5b p6 (.lst (txs [[97, 97, 98], [97, 98, 98], w, w])) p6 = some (.lst (txs [[97, 97, 98], [97, 98, 98], w, w])) := upd_same
    change tNil _ (upd G5b p6 (.lst (txs [[97, 97, 98], [97, 98, 98], w, w]))) _
    generalize upd G5b p6 (.lst (txs [[97, 97, 98], [97, 98, 98], w, w])) = G6 at t6 e6 ⊢
    walk_at "go"
    intro p7 n7
    have t7 := same_upd (o := .lst [.ref p1, .ref p2, .ref p3, .ref p4, .ref p5, .ref p6]) (Same.refl G6) n7
    have e7 : upd G6 p7 (.lst [.ref p1, .ref p2, .ref p3, .ref p4, .ref p5, .ref p6]) p7 = some (.lst [.ref p1, .ref p2, .ref p3, .ref p4, .ref p5, .ref p6]) := upd_same
    generalize upd G6 p7 (.lst [.ref p1, .ref p2, .ref p3, .ref p4, .ref p5, .ref p6]) = G7 at t7 e7 ⊢
    have z7 : Same G5 G7 := ((y3.trans y4).trans t6).trans t7
    have z17 : Same H1 G7 := ((t2.trans z3).trans z5).trans z7
    have hd7 := z17 _ _ hd1
    walk_at "go"
    refine ⟨a, sc, 4, rfl, (s1.trans z17).seq hS, fun v4 => ?_⟩
    walk_at "go"
    obtain ⟨q, ws, eq, eH, hbad⟩ := six_at hd hw hp hin (z7 _ _ (t5 _ _ (t4 _ _ e1))) (z7 _ _ e25) (z7 _ _ (z5 _ _ e3)) (z7 _ _ (t5 _ _ e4)) (z7 _ _ e5) (t7 _ _ e6) v4
    refine g_ixL (SqL.of e7) eq ?_
    walk_at "go"
    refine ⟨by decide, by decide, ?_⟩
    refine forR (fun i σ H3 => ∃ x : Option V, Same G7 H3 ∧ σ = [some (.ref a), some (.ref d), some (.str (S w)), some (.str (S pc)), some (.ref p2), some (.ref p3), some (.ref q), x, none]) ⟨none, Same.refl _, rfl⟩ ?_ ?_
    · rintro i σ H3 hi ⟨x, s3, rfl⟩
      walk_at "go"
      refine ⟨_, _, rfl, .inl (SqL.of (s3 _ _ hd7)), fun l1 m1 => ?_⟩
      have u1 := same_upd (o := .lst (dn.map V.int)) (Same.refl H3) m1
      walk_at "go"
      refine ⟨_, _, rfl, .inl (SqL.of (u1 _ _ (s3 _ _ eH))), fun l2 m2 => ?_⟩
      have u2 := same_upd (o := .lst (txs ws)) (Same.refl (upd H3 l1 (.lst (dn.map V.int)))) m2
      walk_at "go"
      refine ⟨_, l1, l2, dn, ws, rfl, SqL.of (u2 _ _ upd_same), SqL.of upd_same, .inl ⟨by (first | lia | omega), hbad⟩, fun H4 s4 => ?_⟩
      walk_at "go"
      refine iteF ?_
      walk_at "go"
      exact ⟨_, ((s3.trans u1).trans u2).trans s4, rfl⟩
    · rintro σ H3 ⟨x, s3, rfl⟩
      have hd3 := s3 _ _ hd7
      walk_at "go"
      refine g_addS (small (by show _ + 1 ≤ 1000; (first | lia | omega))) ?_
      walk_at "go"
      refine g_slS (by rw [List.length_append]; show _ + 1 ≤ _; exact small (by (first | lia | omega))) ?_
      rw [show ((6 : Int)) = ((6 : Nat) : Int) from rfl, cutL_to]
      have ho : WordOk dn.length ((w ++ [97]).take 6) := ⟨by rw [List.length_take, List.length_append]; show 1 ≤ min 6 (_ + 1); (first | lia | omega), by rw [List.length_take]; (first | lia | omega), fun c hc => by
        rcases List.mem_append.mp (List.mem_of_mem_take hc) with z | z
        · exact hw.s c z
        · exact (ab_word (l := [97]) q1 (by decide) (by decide) (by decide)).s c z⟩
      have hoo : w.length ≠ ((w ++ [97]).take 6).length ∨ w = (w ++ [97]).take 6 := by
        by_cases h6 : w.length = 6
        · exact .inr (by rw [← h6, List.take_left])
        · exact .inl (by rw [List.length_take, List.length_append]; show _ ≠ min 6 (_ + 1); (first | lia | omega))
      generalize (w ++ [97]).take 6 = oth at ho hoo ⊢
      walk_at "go"
      refine ⟨_, _, rfl, .inl (SqL.of hd3), fun l1 m1 => ?_⟩
      have u1 := same_upd (o := .lst (dn.map V.int)) (Same.refl H3) m1
      walk_at "go"
      intro l2 m2
      have u2 := same_upd (o := .lst (txs [w, w])) (Same.refl (upd H3 l1 (.lst (dn.map V.int)))) m2
      walk_at "go"
      refine ⟨8, l1, l2, dn, [w, w], rfl, SqL.of (u2 _ _ upd_same), SqL.of upd_same, .inr ⟨rfl, hd, w, w, rfl, hw, hw, .inr rfl⟩, fun H4 s4 => ?_⟩
      walk_at "go"
      refine iteF ?_
      have u4 : Same H3 H4 := (u1.trans u2).trans s4
      have hd4 := u4 _ _ hd3
      walk_at "go"
      refine ⟨_, _, rfl, .inl (SqL.of hd4), fun l3 m3 => ?_⟩
      have u3 := same_upd (o := .lst (dn.map V.int)) (Same.refl H4) m3
      walk_at "go"
      intro l4 m4
      have u4 := same_upd (o := .lst (txs [w, oth])) (Same.refl (upd H4 l3 (.lst (dn.map V.int)))) m4
      walk_at "go"
      refine ⟨8, l3, l4, dn, [w, oth], rfl, SqL.of (u4 _ _ upd_same), SqL.of upd_same, .inr ⟨rfl, hd, w, oth, rfl, hw, ho, hoo⟩, fun H5 s5 => ?_⟩
      have hd5 := s5 _ _ (u4 _ _ (u3 _ _ hd4))
      walk_at "go"
      refine iteF ?_
      walk_at "go"
      refine ⟨_, _, rfl, .inl (SqL.of hd5), fun l5 m5 => ?_⟩
      have u5 := same_upd (o := .lst (dn.map V.int)) (Same.refl H5) m5
      walk_at "go"
      intro l6 m6
      have u6 := same_upd (o := .lst (txs [w])) (Same.refl (upd H5 l5 (.lst (dn.map V.int)))) m6
      walk_at "go"
      refine ⟨l5, l6, dn, [w], rfl, SqL.of (u6 _ _ upd_same), hd, SqL.of upd_same, one_race hw, fun r bs H6 s6 nr er BO => ?_⟩
      have hd6 := s6 _ _ (u6 _ _ (u5 _ _ hd5))
      walk_at "go"
      refine g_ixL (SqL.of er) (at_lastT (beg_last BO)) ?_
      walk_at "go"
      refine iteTd rfl ?_
      walk_at "go"
      refine ⟨_, _, rfl, .inl (SqL.of hd6), fun l7 m7 => ?_⟩
      have u7 := same_upd (o := .lst (dn.map V.int)) (Same.refl H6) m7
      walk_at "go"
      intro l8 m8
      have u8 := same_upd (o := .lst (txs [w])) (Same.refl (upd H6 l7 (.lst (dn.map V.int)))) m8
      walk_at "go"
      refine ⟨l7, l8, dn, [w], rfl, SqL.of (u8 _ _ upd_same), hd, SqL.of upd_same, one_race hw, fun H7 s7 => ?_⟩
      walk_at "go"
      have ll : (lineT dn [w]).length ≤ 1000 := by
        show ((wtT dn ++ [58, 32]) ++ w).length ≤ 1000
        have := wtT_len hd
        rw [List.length_append, List.length_append]
        show _ + 2 + _ ≤ _
        (first | lia | omega)
      refine g_slS (small ll) ?_
      walk_at "go"
      refine g_slS (small (by (first | lia | omega))) ?_
      walk_at "go"
      rw [decide_eq_true (line_end w1)]
      exact k _


end
theorem all_mk {l : PySem.W.OpenLaw} {w : World} {K : PySem.W.Frag} {h : Heap} {mg : Str → Option Value} {fa : Addr} (gt : l.prog.given.tree = none) (X : K.In h) (G : h.Ns mainGlobals mg) (hfa : mg "law" = some (.ref fa))
    {f0 : Addr} {od0 an0 : Option Addr} {sl0 : Array (Option Value)} {oc0 kV0 dc0 pm0 cd0 ct0 : Value}
    (a0 : PySem.W.nsIn K mainGlobals "_law_next" = some (some (.ref f0))) (l0 : K.lookup f0 = some ⟨oc0, od0, .func (PySem.W.fnOf "_law_next" "_law_next" (defArgs s_law_next) (defBody s_law_next) (defScope s_law_next) .none kV0 dc0 pm0 an0 cd0 ct0), sl0⟩) (c0 : PySem.W.codeIn K cd0 "_law_next" = true) (k0 : PySem.W.keepIn K (.ref f0) = true)
    {f1 : Addr} {od1 an1 : Option Addr} {sl1 : Array (Option Value)} {oc1 kV1 dc1 pm1 cd1 ct1 : Value}
    (a1 : PySem.W.nsIn K mainGlobals "_law_die" = some (some (.ref f1))) (l1 : K.lookup f1 = some ⟨oc1, od1, .func (PySem.W.fnOf "_law_die" "_law_die" (defArgs s_law_die) (defBody s_law_die) (defScope s_law_die) .none kV1 dc1 pm1 an1 cd1 ct1), sl1⟩) (c1 : PySem.W.codeIn K cd1 "_law_die" = true) (k1 : PySem.W.keepIn K (.ref f1) = true)
    {f2 : Addr} {od2 an2 : Option Addr} {sl2 : Array (Option Value)} {oc2 kV2 dc2 pm2 cd2 ct2 : Value}
    (a2 : PySem.W.nsIn K mainGlobals "_law_thrown" = some (some (.ref f2))) (l2 : K.lookup f2 = some ⟨oc2, od2, .func (PySem.W.fnOf "_law_thrown" "_law_thrown" (defArgs s_law_thrown) (defBody s_law_thrown) (defScope s_law_thrown) .none kV2 dc2 pm2 an2 cd2 ct2), sl2⟩) (c2 : PySem.W.codeIn K cd2 "_law_thrown" = true) (k2 : PySem.W.keepIn K (.ref f2) = true)
    {f3 : Addr} {od3 an3 : Option Addr} {sl3 : Array (Option Value)} {oc3 kV3 dc3 pm3 cd3 ct3 : Value}
    (a3 : PySem.W.nsIn K mainGlobals "_law_word" = some (some (.ref f3))) (l3 : K.lookup f3 = some ⟨oc3, od3, .func (PySem.W.fnOf "_law_word" "_law_word" (defArgs s_law_word) (defBody s_law_word) (defScope s_law_word) .none kV3 dc3 pm3 an3 cd3 ct3), sl3⟩) (c3 : PySem.W.codeIn K cd3 "_law_word" = true) (k3 : PySem.W.keepIn K (.ref f3) = true)
    {f4 : Addr} {od4 an4 : Option Addr} {sl4 : Array (Option Value)} {oc4 kV4 dc4 pm4 cd4 ct4 : Value}
    (a4 : PySem.W.nsIn K mainGlobals "_law_cell_at" = some (some (.ref f4))) (l4 : K.lookup f4 = some ⟨oc4, od4, .func (PySem.W.fnOf "_law_cell_at" "_law_cell_at" (defArgs s_law_cell_at) (defBody s_law_cell_at) (defScope s_law_cell_at) .none kV4 dc4 pm4 an4 cd4 ct4), sl4⟩) (c4 : PySem.W.codeIn K cd4 "_law_cell_at" = true) (k4 : PySem.W.keepIn K (.ref f4) = true)
    {f5 : Addr} {od5 an5 : Option Addr} {sl5 : Array (Option Value)} {oc5 kV5 dc5 pm5 cd5 ct5 : Value}
    (a5 : PySem.W.nsIn K mainGlobals "check_die" = some (some (.ref f5))) (l5 : K.lookup f5 = some ⟨oc5, od5, .func (PySem.W.fnOf "check_die" "check_die" (defArgs s_check_die) (defBody s_check_die) (defScope s_check_die) .none kV5 dc5 pm5 an5 cd5 ct5), sl5⟩) (c5 : PySem.W.codeIn K cd5 "check_die" = true) (k5 : PySem.W.keepIn K (.ref f5) = true)
    {f6 : Addr} {od6 an6 : Option Addr} {sl6 : Array (Option Value)} {oc6 kV6 dc6 pm6 cd6 ct6 : Value}
    (a6 : PySem.W.nsIn K mainGlobals "signs_of" = some (some (.ref f6))) (l6 : K.lookup f6 = some ⟨oc6, od6, .func (PySem.W.fnOf "signs_of" "signs_of" (defArgs s_signs_of) (defBody s_signs_of) (defScope s_signs_of) .none kV6 dc6 pm6 an6 cd6 ct6), sl6⟩) (c6 : PySem.W.codeIn K cd6 "signs_of" = true) (k6 : PySem.W.keepIn K (.ref f6) = true)
    {f7 : Addr} {od7 an7 : Option Addr} {sl7 : Array (Option Value)} {oc7 kV7 dc7 pm7 cd7 ct7 : Value}
    (a7 : PySem.W.nsIn K mainGlobals "is_thrown" = some (some (.ref f7))) (l7 : K.lookup f7 = some ⟨oc7, od7, .func (PySem.W.fnOf "is_thrown" "is_thrown" (defArgs s_is_thrown) (defBody s_is_thrown) (defScope s_is_thrown) .none kV7 dc7 pm7 an7 cd7 ct7), sl7⟩) (c7 : PySem.W.codeIn K cd7 "is_thrown" = true) (k7 : PySem.W.keepIn K (.ref f7) = true)
    {f8 : Addr} {od8 an8 : Option Addr} {sl8 : Array (Option Value)} {oc8 kV8 dc8 pm8 cd8 ct8 : Value}
    (a8 : PySem.W.nsIn K mainGlobals "check_word" = some (some (.ref f8))) (l8 : K.lookup f8 = some ⟨oc8, od8, .func (PySem.W.fnOf "check_word" "check_word" (defArgs s_check_word) (defBody s_check_word) (defScope s_check_word) .none kV8 dc8 pm8 an8 cd8 ct8), sl8⟩) (c8 : PySem.W.codeIn K cd8 "check_word" = true) (k8 : PySem.W.keepIn K (.ref f8) = true)
    {f9 : Addr} {od9 an9 : Option Addr} {sl9 : Array (Option Value)} {oc9 kV9 dc9 pm9 cd9 ct9 : Value}
    (a9 : PySem.W.nsIn K mainGlobals "odds" = some (some (.ref f9))) (l9 : K.lookup f9 = some ⟨oc9, od9, .func (PySem.W.fnOf "odds" "odds" (defArgs s_odds) (defBody s_odds) (defScope s_odds) .none kV9 dc9 pm9 an9 cd9 ct9), sl9⟩) (c9 : PySem.W.codeIn K cd9 "odds" = true) (k9 : PySem.W.keepIn K (.ref f9) = true)
    {f10 : Addr} {od10 an10 : Option Addr} {sl10 : Array (Option Value)} {oc10 kV10 dc10 pm10 cd10 ct10 : Value}
    (a10 : PySem.W.nsIn K mainGlobals "stands_within_another" = some (some (.ref f10))) (l10 : K.lookup f10 = some ⟨oc10, od10, .func (PySem.W.fnOf "stands_within_another" "stands_within_another" (defArgs s_stands_within_another) (defBody s_stands_within_another) (defScope s_stands_within_another) .none kV10 dc10 pm10 an10 cd10 ct10), sl10⟩) (c10 : PySem.W.codeIn K cd10 "stands_within_another" = true) (k10 : PySem.W.keepIn K (.ref f10) = true)
    {f11 : Addr} {od11 an11 : Option Addr} {sl11 : Array (Option Value)} {oc11 kV11 dc11 pm11 cd11 ct11 : Value}
    (a11 : PySem.W.nsIn K mainGlobals "check_race" = some (some (.ref f11))) (l11 : K.lookup f11 = some ⟨oc11, od11, .func (PySem.W.fnOf "check_race" "check_race" (defArgs s_check_race) (defBody s_check_race) (defScope s_check_race) .none kV11 dc11 pm11 an11 cd11 ct11), sl11⟩) (c11 : PySem.W.codeIn K cd11 "check_race" = true) (k11 : PySem.W.keepIn K (.ref f11) = true)
    {f12 : Addr} {od12 an12 : Option Addr} {sl12 : Array (Option Value)} {oc12 kV12 dc12 pm12 cd12 ct12 : Value}
    (a12 : PySem.W.nsIn K mainGlobals "shown" = some (some (.ref f12))) (l12 : K.lookup f12 = some ⟨oc12, od12, .func (PySem.W.fnOf "shown" "shown" (defArgs s_shown) (defBody s_shown) (defScope s_shown) .none kV12 dc12 pm12 an12 cd12 ct12), sl12⟩) (c12 : PySem.W.codeIn K cd12 "shown" = true) (k12 : PySem.W.keepIn K (.ref f12) = true)
    {f13 : Addr} {od13 an13 : Option Addr} {sl13 : Array (Option Value)} {oc13 kV13 dc13 pm13 cd13 ct13 : Value}
    (a13 : PySem.W.nsIn K mainGlobals "beginnings_of" = some (some (.ref f13))) (l13 : K.lookup f13 = some ⟨oc13, od13, .func (PySem.W.fnOf "beginnings_of" "beginnings_of" (defArgs s_beginnings_of) (defBody s_beginnings_of) (defScope s_beginnings_of) .none kV13 dc13 pm13 an13 cd13 ct13), sl13⟩) (c13 : PySem.W.codeIn K cd13 "beginnings_of" = true) (k13 : PySem.W.keepIn K (.ref f13) = true)
    {f14 : Addr} {od14 an14 : Option Addr} {sl14 : Array (Option Value)} {oc14 kV14 dc14 pm14 cd14 ct14 : Value}
    (a14 : PySem.W.nsIn K mainGlobals "beginnings" = some (some (.ref f14))) (l14 : K.lookup f14 = some ⟨oc14, od14, .func (PySem.W.fnOf "beginnings" "beginnings" (defArgs s_beginnings) (defBody s_beginnings) (defScope s_beginnings) .none kV14 dc14 pm14 an14 cd14 ct14), sl14⟩) (c14 : PySem.W.codeIn K cd14 "beginnings" = true) (k14 : PySem.W.keepIn K (.ref f14) = true)
    {f15 : Addr} {od15 an15 : Option Addr} {sl15 : Array (Option Value)} {oc15 kV15 dc15 pm15 cd15 ct15 : Value}
    (a15 : PySem.W.nsIn K mainGlobals "state_of" = some (some (.ref f15))) (l15 : K.lookup f15 = some ⟨oc15, od15, .func (PySem.W.fnOf "state_of" "state_of" (defArgs s_state_of) (defBody s_state_of) (defScope s_state_of) .none kV15 dc15 pm15 an15 cd15 ct15), sl15⟩) (c15 : PySem.W.codeIn K cd15 "state_of" = true) (k15 : PySem.W.keepIn K (.ref f15) = true)
    {f16 : Addr} {od16 an16 : Option Addr} {sl16 : Array (Option Value)} {oc16 kV16 dc16 pm16 cd16 ct16 : Value}
    (a16 : PySem.W.nsIn K mainGlobals "ended" = some (some (.ref f16))) (l16 : K.lookup f16 = some ⟨oc16, od16, .func (PySem.W.fnOf "ended" "ended" (defArgs s_ended) (defBody s_ended) (defScope s_ended) .none kV16 dc16 pm16 an16 cd16 ct16), sl16⟩) (c16 : PySem.W.codeIn K cd16 "ended" = true) (k16 : PySem.W.keepIn K (.ref f16) = true)
    {f17 : Addr} {od17 an17 : Option Addr} {sl17 : Array (Option Value)} {oc17 kV17 dc17 pm17 cd17 ct17 : Value}
    (a17 : PySem.W.nsIn K mainGlobals "state_of_open" = some (some (.ref f17))) (l17 : K.lookup f17 = some ⟨oc17, od17, .func (PySem.W.fnOf "state_of_open" "state_of_open" (defArgs s_state_of_open) (defBody s_state_of_open) (defScope s_state_of_open) .none kV17 dc17 pm17 an17 cd17 ct17), sl17⟩) (c17 : PySem.W.codeIn K cd17 "state_of_open" = true) (k17 : PySem.W.keepIn K (.ref f17) = true)
    {f18 : Addr} {od18 an18 : Option Addr} {sl18 : Array (Option Value)} {oc18 kV18 dc18 pm18 cd18 ct18 : Value}
    (a18 : PySem.W.nsIn K mainGlobals "shares" = some (some (.ref f18))) (l18 : K.lookup f18 = some ⟨oc18, od18, .func (PySem.W.fnOf "shares" "shares" (defArgs s_shares) (defBody s_shares) (defScope s_shares) .none kV18 dc18 pm18 an18 cd18 ct18), sl18⟩) (c18 : PySem.W.codeIn K cd18 "shares" = true) (k18 : PySem.W.keepIn K (.ref f18) = true)
    {f19 : Addr} {od19 an19 : Option Addr} {sl19 : Array (Option Value)} {oc19 kV19 dc19 pm19 cd19 ct19 : Value}
    (a19 : PySem.W.nsIn K mainGlobals "mean" = some (some (.ref f19))) (l19 : K.lookup f19 = some ⟨oc19, od19, .func (PySem.W.fnOf "mean" "mean" (defArgs s_mean) (defBody s_mean) (defScope s_mean) .none kV19 dc19 pm19 an19 cd19 ct19), sl19⟩) (c19 : PySem.W.codeIn K cd19 "mean" = true) (k19 : PySem.W.keepIn K (.ref f19) = true)
    {f20 : Addr} {od20 an20 : Option Addr} {sl20 : Array (Option Value)} {oc20 kV20 dc20 pm20 cd20 ct20 : Value}
    (a20 : PySem.W.nsIn K mainGlobals "open_rows" = some (some (.ref f20))) (l20 : K.lookup f20 = some ⟨oc20, od20, .func (PySem.W.fnOf "open_rows" "open_rows" (defArgs s_open_rows) (defBody s_open_rows) (defScope s_open_rows) .none kV20 dc20 pm20 an20 cd20 ct20), sl20⟩) (c20 : PySem.W.codeIn K cd20 "open_rows" = true) (k20 : PySem.W.keepIn K (.ref f20) = true)
    {f21 : Addr} {od21 an21 : Option Addr} {sl21 : Array (Option Value)} {oc21 kV21 dc21 pm21 cd21 ct21 : Value}
    (a21 : PySem.W.nsIn K mainGlobals "ended_rows" = some (some (.ref f21))) (l21 : K.lookup f21 = some ⟨oc21, od21, .func (PySem.W.fnOf "ended_rows" "ended_rows" (defArgs s_ended_rows) (defBody s_ended_rows) (defScope s_ended_rows) .none kV21 dc21 pm21 an21 cd21 ct21), sl21⟩) (c21 : PySem.W.codeIn K cd21 "ended_rows" = true) (k21 : PySem.W.keepIn K (.ref f21) = true)
    {f22 : Addr} {od22 an22 : Option Addr} {sl22 : Array (Option Value)} {oc22 kV22 dc22 pm22 cd22 ct22 : Value}
    (a22 : PySem.W.nsIn K mainGlobals "_law_asked" = some (some (.ref f22))) (l22 : K.lookup f22 = some ⟨oc22, od22, .func (PySem.W.fnOf "_law_asked" "_law_asked" (defArgs s_law_asked) (defBody s_law_asked) (defScope s_law_asked) .none kV22 dc22 pm22 an22 cd22 ct22), sl22⟩) (c22 : PySem.W.codeIn K cd22 "_law_asked" = true) (k22 : PySem.W.keepIn K (.ref f22) = true)
    {f23 : Addr} {od23 an23 : Option Addr} {sl23 : Array (Option Value)} {oc23 kV23 dc23 pm23 cd23 ct23 : Value}
    (a23 : PySem.W.nsIn K mainGlobals "_law_kind" = some (some (.ref f23))) (l23 : K.lookup f23 = some ⟨oc23, od23, .func (PySem.W.fnOf "_law_kind" "_law_kind" (defArgs s_law_kind) (defBody s_law_kind) (defScope s_law_kind) .none kV23 dc23 pm23 an23 cd23 ct23), sl23⟩) (c23 : PySem.W.codeIn K cd23 "_law_kind" = true) (k23 : PySem.W.keepIn K (.ref f23) = true)
    {f24 : Addr} {od24 an24 : Option Addr} {sl24 : Array (Option Value)} {oc24 kV24 dc24 pm24 cd24 ct24 : Value}
    (a24 : PySem.W.nsIn K mainGlobals "_law_tried" = some (some (.ref f24))) (l24 : K.lookup f24 = some ⟨oc24, od24, .func (PySem.W.fnOf "_law_tried" "_law_tried" (defArgs s_law_tried) (defBody s_law_tried) (defScope s_law_tried) .none kV24 dc24 pm24 an24 cd24 ct24), sl24⟩) (c24 : PySem.W.codeIn K cd24 "_law_tried" = true) (k24 : PySem.W.keepIn K (.ref f24) = true)
    {f25 : Addr} {od25 an25 : Option Addr} {sl25 : Array (Option Value)} {oc25 kV25 dc25 pm25 cd25 ct25 : Value}
    (a25 : PySem.W.nsIn K mainGlobals "law" = some (some (.ref f25))) (l25 : K.lookup f25 = some ⟨oc25, od25, .func (PySem.W.fnOf "law" "law" (defArgs s_law) (defBody s_law) (defScope s_law) .none kV25 dc25 pm25 an25 cd25 ct25), sl25⟩) (c25 : PySem.W.codeIn K cd25 "law" = true) (k25 : PySem.W.keepIn K (.ref f25) = true)
    {x0 : Addr} {x1 : Addr} {x2 : Addr} {x3 : Addr} {x4 : Addr} {x5 : Addr} {x6 : Addr} {x7 : Addr}
    (y0 : PySem.W.nsIn K mainGlobals "NoDie" = some (some (.ref x0)))
    (y1 : PySem.W.nsIn K mainGlobals "NoWord" = some (some (.ref x1)))
    (y2 : PySem.W.nsIn K mainGlobals "NoRace" = some (some (.ref x2)))
    (y3 : PySem.W.nsIn K mainGlobals "NoRow" = some (some (.ref x3)))
    (y4 : PySem.W.nsIn K mainGlobals "Over" = some (some (.ref x4)))
    (y5 : PySem.W.nsIn K mainGlobals "TooMany" = some (some (.ref x5)))
    (y6 : PySem.W.nsIn K mainGlobals "NoNote" = some (some (.ref x6)))
    (y7 : PySem.W.nsIn K mainGlobals "RaceError" = some (some (.ref x7)))
    (yc : xcIn K [x0, x1, x2, x3, x4, x5, x6] x7 = true)
    {t_SIGNS : Tok} (z_SIGNS : PySem.W.nsIn K mainGlobals "SIGNS" = some (some (.str (Str.ofString "abcd") t_SIGNS)))
    {t_LEAST_WEIGHTS : Tok} (z_LEAST_WEIGHTS : PySem.W.nsIn K mainGlobals "LEAST_WEIGHTS" = some (some (.int 2 t_LEAST_WEIGHTS)))
    {t_MOST_WEIGHTS : Tok} (z_MOST_WEIGHTS : PySem.W.nsIn K mainGlobals "MOST_WEIGHTS" = some (some (.int 4 t_MOST_WEIGHTS)))
    {t_LEAST_WEIGHT : Tok} (z_LEAST_WEIGHT : PySem.W.nsIn K mainGlobals "LEAST_WEIGHT" = some (some (.int 1 t_LEAST_WEIGHT)))
    {t_MOST_WEIGHT : Tok} (z_MOST_WEIGHT : PySem.W.nsIn K mainGlobals "MOST_WEIGHT" = some (some (.int 9 t_MOST_WEIGHT)))
    {t_MOST_SIGNS : Tok} (z_MOST_SIGNS : PySem.W.nsIn K mainGlobals "MOST_SIGNS" = some (some (.int 6 t_MOST_SIGNS)))
    {t_MOST_WORDS : Tok} (z_MOST_WORDS : PySem.W.nsIn K mainGlobals "MOST_WORDS" = some (some (.int 4 t_MOST_WORDS)))
    {t_MOST_THROWS : Tok} (z_MOST_THROWS : PySem.W.nsIn K mainGlobals "MOST_THROWS" = some (some (.int 60 t_MOST_THROWS)))
    (b_len : PySem.W.nsIn K mainGlobals "len" = some none)
    (b_min : PySem.W.nsIn K mainGlobals "min" = some none)
    (b_max : PySem.W.nsIn K mainGlobals "max" = some none)
    (b_all : PySem.W.nsIn K mainGlobals "all" = some none)
    (b_any : PySem.W.nsIn K mainGlobals "any" = some none)
    (b_isinstance : PySem.W.nsIn K mainGlobals "isinstance" = some none)
    (b_sum : PySem.W.nsIn K mainGlobals "sum" = some none)
    (b_abs : PySem.W.nsIn K mainGlobals "abs" = some none)
    (b_list : PySem.W.nsIn K mainGlobals "list" = some none)
    (b_sorted : PySem.W.nsIn K mainGlobals "sorted" = some none)
    (b_str : PySem.W.nsIn K mainGlobals "str" = some none)
    (b_range : PySem.W.nsIn K mainGlobals "range" = some none)
    (b_enumerate : PySem.W.nsIn K mainGlobals "enumerate" = some none)
    (b_set : PySem.W.nsIn K mainGlobals "set" = some none)
    (b_zip : PySem.W.nsIn K mainGlobals "zip" = some none)
    (b_ValueError : PySem.W.nsIn K mainGlobals "ValueError" = some none)
    : ∃ fd : FuncData, (∀ (s : Shared) (v : Value), BindsTo s fd ⟨[v], []⟩ [("script", v)]) ∧ ∀ base : Heap, K.In base → base.Ns mainGlobals mg → FnOk l.prog w K mg base CX0 46 fa fd ["script"] (sp_law K) := by
  have e := hfa.symm.trans (PySem.W.mg_of X G a25)
  cases e
  have M : Bl mg := ⟨PySem.W.mg_none_of X G b_len, PySem.W.mg_none_of X G b_min, PySem.W.mg_none_of X G b_max, PySem.W.mg_none_of X G b_all, PySem.W.mg_none_of X G b_any, PySem.W.mg_none_of X G b_isinstance, PySem.W.mg_none_of X G b_sum, PySem.W.mg_none_of X G b_abs, PySem.W.mg_none_of X G b_list, PySem.W.mg_none_of X G b_sorted, PySem.W.mg_none_of X G b_str, PySem.W.mg_none_of X G b_range, PySem.W.mg_none_of X G b_enumerate, PySem.W.mg_none_of X G b_set, PySem.W.mg_none_of X G b_zip, PySem.W.mg_none_of X G b_ValueError⟩
  have T : Cs l.prog mg := ⟨gt, ⟨t_SIGNS, by rw [PySem.W.mg_of X G z_SIGNS, show (Str.ofString "abcd") = S [97, 98, 99, 100] from by decide +kernel]⟩, ⟨t_LEAST_WEIGHTS, PySem.W.mg_of X G z_LEAST_WEIGHTS⟩, ⟨t_MOST_WEIGHTS, PySem.W.mg_of X G z_MOST_WEIGHTS⟩, ⟨t_LEAST_WEIGHT, PySem.W.mg_of X G z_LEAST_WEIGHT⟩, ⟨t_MOST_WEIGHT, PySem.W.mg_of X G z_MOST_WEIGHT⟩, ⟨t_MOST_SIGNS, PySem.W.mg_of X G z_MOST_SIGNS⟩, ⟨t_MOST_WORDS, PySem.W.mg_of X G z_MOST_WORDS⟩, ⟨t_MOST_THROWS, PySem.W.mg_of X G z_MOST_THROWS⟩⟩
  obtain ⟨c, Y⟩ := xc_of (mg := mg) yc (PySem.W.mg_of X G y0) (PySem.W.mg_of X G y1) (PySem.W.mg_of X G y2) (PySem.W.mg_of X G y3) (PySem.W.mg_of X G y4) (PySem.W.mg_of X G y5) (PySem.W.mg_of X G y6) (PySem.W.mg_of X G y7)
  have F0 := fun_mk (st := s_law_next) l0 c0 k0
  have B0 := F0.binds (ps := ["seed"]) fun _ _ _ _ _ _ us hl => bz1 (fun _ => rfl) us hl
  have F1 := fun_mk (st := s_law_die) l1 c1 k1
  have B1 := F1.binds (ps := ["cell"]) fun _ _ _ _ _ _ us hl => bz1 (fun _ => rfl) us hl
  have F2 := fun_mk (st := s_law_thrown) l2 c2 k2
  have B2 := F2.binds (ps := ["cell", "many", "signs"]) fun _ _ _ _ _ _ us hl => bz3 (fun _ _ _ => rfl) us hl
  have F3 := fun_mk (st := s_law_word) l3 c3 k3
  have B3 := F3.binds (ps := ["cell", "signs"]) fun _ _ _ _ _ _ us hl => bz2 (fun _ _ => rfl) us hl
  have F4 := fun_mk (st := s_law_cell_at) l4 c4 k4
  have B4 := F4.binds (ps := ["script", "k"]) fun _ _ _ _ _ _ us hl => bz2 (fun _ _ => rfl) us hl
  have F5 := fun_mk (st := s_check_die) l5 c5 k5
  have B5 := F5.binds (ps := ["die"]) fun _ _ _ _ _ _ us hl => bz1 (fun _ => rfl) us hl
  have F6 := fun_mk (st := s_signs_of) l6 c6 k6
  have B6 := F6.binds (ps := ["die"]) fun _ _ _ _ _ _ us hl => bz1 (fun _ => rfl) us hl
  have F7 := fun_mk (st := s_is_thrown) l7 c7 k7
  have B7 := F7.binds (ps := ["die", "text"]) fun _ _ _ _ _ _ us hl => bz2 (fun _ _ => rfl) us hl
  have F8 := fun_mk (st := s_check_word) l8 c8 k8
  have B8 := F8.binds (ps := ["die", "word"]) fun _ _ _ _ _ _ us hl => bz2 (fun _ _ => rfl) us hl
  have F9 := fun_mk (st := s_odds) l9 c9 k9
  have B9 := F9.binds (ps := ["die", "one", "other"]) fun _ _ _ _ _ _ us hl => bz3 (fun _ _ _ => rfl) us hl
  have F10 := fun_mk (st := s_stands_within_another) l10 c10 k10
  have B10 := F10.binds (ps := ["words", "place"]) fun _ _ _ _ _ _ us hl => bz2 (fun _ _ => rfl) us hl
  have F11 := fun_mk (st := s_check_race) l11 c11 k11
  have B11 := F11.binds (ps := ["die", "words"]) fun _ _ _ _ _ _ us hl => bz2 (fun _ _ => rfl) us hl
  have F12 := fun_mk (st := s_shown) l12 c12 k12
  have B12 := F12.binds (ps := ["die", "words"]) fun _ _ _ _ _ _ us hl => bz2 (fun _ _ => rfl) us hl
  have F13 := fun_mk (st := s_beginnings_of) l13 c13 k13
  have B13 := F13.binds (ps := ["words"]) fun _ _ _ _ _ _ us hl => bz1 (fun _ => rfl) us hl
  have F14 := fun_mk (st := s_beginnings) l14 c14 k14
  have B14 := F14.binds (ps := ["die", "words"]) fun _ _ _ _ _ _ us hl => bz2 (fun _ _ => rfl) us hl
  have F15 := fun_mk (st := s_state_of) l15 c15 k15
  have B15 := F15.binds (ps := ["die", "words", "row"]) fun _ _ _ _ _ _ us hl => bz3 (fun _ _ _ => rfl) us hl
  have F16 := fun_mk (st := s_ended) l16 c16 k16
  have B16 := F16.binds (ps := ["die", "words", "row"]) fun _ _ _ _ _ _ us hl => bz3 (fun _ _ _ => rfl) us hl
  have F17 := fun_mk (st := s_state_of_open) l17 c17 k17
  have B17 := F17.binds (ps := ["die", "words", "row"]) fun _ _ _ _ _ _ us hl => bz3 (fun _ _ _ => rfl) us hl
  have F18 := fun_mk (st := s_shares) l18 c18 k18
  have B18 := F18.binds (ps := ["die", "words", "row"]) fun _ _ _ _ _ _ us hl => bz3 (fun _ _ _ => rfl) us hl
  have F19 := fun_mk (st := s_mean) l19 c19 k19
  have B19 := F19.binds (ps := ["die", "words", "row"]) fun _ _ _ _ _ _ us hl => bz3 (fun _ _ _ => rfl) us hl
  have F20 := fun_mk (st := s_open_rows) l20 c20 k20
  have B20 := F20.binds (ps := ["die", "words", "many"]) fun _ _ _ _ _ _ us hl => bz3 (fun _ _ _ => rfl) us hl
  have F21 := fun_mk (st := s_ended_rows) l21 c21 k21
  have B21 := F21.binds (ps := ["die", "words", "many"]) fun _ _ _ _ _ _ us hl => bz3 (fun _ _ _ => rfl) us hl
  have F22 := fun_mk (st := s_law_asked) l22 c22 k22
  have B22 := F22.binds (ps := ["turn", "die", "words", "row"]) fun _ _ _ _ _ _ us hl => bz4 (fun _ _ _ _ => rfl) us hl
  have F23 := fun_mk (st := s_law_kind) l23 c23 k23
  have B23 := F23.binds (ps := ["e"]) fun _ _ _ _ _ _ us hl => bz1 (fun _ => rfl) us hl
  have F24 := fun_mk (st := s_law_tried) l24 c24 k24
  have B24 := F24.binds (ps := ["turn", "die", "words"]) fun _ _ _ _ _ _ us hl => bz3 (fun _ _ _ => rfl) us hl
  have F25 := fun_mk (st := s_law) l25 c25 k25
  refine ⟨PySem.W.fnOf "law" "law" (defArgs s_law) (defBody s_law) (defScope s_law) .none kV25 dc25 pm25 an25 cd25 ct25, fun s v => .of_eq rfl, fun base _ _ => ?_⟩
  have D0 : Df l.prog w K mg base "_law_next" 37 f0 _ _ (sp_law_next K) := ⟨ok_law_next F0 M T , PySem.W.mg_of X G a0, F0.kp, B0⟩
  have D1 : Df l.prog w K mg base "_law_die" 38 f1 _ _ (sp_law_die K) := ⟨ok_law_die F1 M T D0, PySem.W.mg_of X G a1, F1.kp, B1⟩
  have D2 : Df l.prog w K mg base "_law_thrown" 38 f2 _ _ (sp_law_thrown K) := ⟨ok_law_thrown F2 M T D0, PySem.W.mg_of X G a2, F2.kp, B2⟩
  have D3 : Df l.prog w K mg base "_law_word" 39 f3 _ _ (sp_law_word K) := ⟨ok_law_word F3 M T D2, PySem.W.mg_of X G a3, F3.kp, B3⟩
  have D4 : Df l.prog w K mg base "_law_cell_at" 37 f4 _ _ (sp_law_cell_at K) := ⟨ok_law_cell_at F4 M T , PySem.W.mg_of X G a4, F4.kp, B4⟩
  have D5 : Df l.prog w K mg base "check_die" 37 f5 _ _ (sp_check_die K) := ⟨ok_check_die F5 M T , PySem.W.mg_of X G a5, F5.kp, B5⟩
  have R5 : DfX l.prog w K mg base "check_die" 37 f5 _ _ (sp_check_dieR K c) := ⟨okR_check_die F5 M T Y , PySem.W.mg_of X G a5, F5.kp, B5⟩
  have D6 : Df l.prog w K mg base "signs_of" 37 f6 _ _ (sp_signs_of K) := ⟨ok_signs_of F6 M T , PySem.W.mg_of X G a6, F6.kp, B6⟩
  have D7 : Df l.prog w K mg base "is_thrown" 38 f7 _ _ (sp_is_thrown K) := ⟨ok_is_thrown F7 M T D6, PySem.W.mg_of X G a7, F7.kp, B7⟩
  have D8 : Df l.prog w K mg base "check_word" 39 f8 _ _ (sp_check_word K) := ⟨ok_check_word F8 M T D7, PySem.W.mg_of X G a8, F8.kp, B8⟩
  have R8 : DfX l.prog w K mg base "check_word" 39 f8 _ _ (sp_check_wordR K c) := ⟨okR_check_word F8 M T Y D7, PySem.W.mg_of X G a8, F8.kp, B8⟩
  have W8 : DfX l.prog w K mg base "check_word" 39 f8 _ _ (fun vs H Q E => sp_check_word K vs H Q E ∨ sp_check_wordR K c vs H Q E) := ⟨FnOk.or D8.ok.toX R8.ok, D8.m, D8.kp, D8.b⟩
  have R9 : DfX l.prog w K mg base "odds" 42 f9 _ _ (sp_oddsR K c) := ⟨okR_odds F9 M T Y D5 R5 D8 R8, PySem.W.mg_of X G a9, F9.kp, B9⟩
  have D10 : Df l.prog w K mg base "stands_within_another" 37 f10 _ _ (sp_stands_within_another K) := ⟨ok_stands_within_another F10 M T , PySem.W.mg_of X G a10, F10.kp, B10⟩
  have D11 : Df l.prog w K mg base "check_race" 40 f11 _ _ (sp_check_race K) := ⟨ok_check_race F11 M T D5 D8 D10, PySem.W.mg_of X G a11, F11.kp, B11⟩
  have R11 : DfX l.prog w K mg base "check_race" 40 f11 _ _ (sp_check_raceR K c) := ⟨okR_check_race F11 M T Y D5 R5 D8 D10 W8, PySem.W.mg_of X G a11, F11.kp, B11⟩
  have D12 : Df l.prog w K mg base "shown" 41 f12 _ _ (sp_shown K) := ⟨ok_shown F12 M T D11, PySem.W.mg_of X G a12, F12.kp, B12⟩
  have R12 : DfX l.prog w K mg base "shown" 41 f12 _ _ (sp_shownR K c) := ⟨okR_shown F12 M T Y R11, PySem.W.mg_of X G a12, F12.kp, B12⟩
  have D13 : Df l.prog w K mg base "beginnings_of" 37 f13 _ _ (sp_beginnings_of K) := ⟨ok_beginnings_of F13 M T , PySem.W.mg_of X G a13, F13.kp, B13⟩
  have D14 : Df l.prog w K mg base "beginnings" 41 f14 _ _ (sp_beginnings K) := ⟨ok_beginnings F14 M T D11 D13, PySem.W.mg_of X G a14, F14.kp, B14⟩
  have R14 : DfX l.prog w K mg base "beginnings" 41 f14 _ _ (sp_beginningsR K c) := ⟨okR_beginnings F14 M T Y R11, PySem.W.mg_of X G a14, F14.kp, B14⟩
  have R15 : DfX l.prog w K mg base "state_of" 41 f15 _ _ (sp_state_ofR K c) := ⟨okR_state_of F15 M T Y R11, PySem.W.mg_of X G a15, F15.kp, B15⟩
  have R16 : DfX l.prog w K mg base "ended" 41 f16 _ _ (sp_endedR K c) := ⟨okR_ended F16 M T Y R11, PySem.W.mg_of X G a16, F16.kp, B16⟩
  have R17 : DfX l.prog w K mg base "state_of_open" 42 f17 _ _ (sp_state_of_openR K c) := ⟨okR_state_of_open F17 M T Y R15, PySem.W.mg_of X G a17, F17.kp, B17⟩
  have R18 : DfX l.prog w K mg base "shares" 43 f18 _ _ (sp_sharesR K c) := ⟨okR_shares F18 M T Y R17, PySem.W.mg_of X G a18, F18.kp, B18⟩
  have R19 : DfX l.prog w K mg base "mean" 43 f19 _ _ (sp_meanR K c) := ⟨okR_mean F19 M T Y R17, PySem.W.mg_of X G a19, F19.kp, B19⟩
  have R20 : DfX l.prog w K mg base "open_rows" 41 f20 _ _ (sp_open_rowsR K c) := ⟨okR_open_rows F20 M T Y R11, PySem.W.mg_of X G a20, F20.kp, B20⟩
  have R21 : DfX l.prog w K mg base "ended_rows" 41 f21 _ _ (sp_ended_rowsR K c) := ⟨okR_ended_rows F21 M T Y R11, PySem.W.mg_of X G a21, F21.kp, B21⟩
  have R22 : DfX l.prog w K mg base "_law_asked" 44 f22 _ _ (sp_law_askedR K c) := ⟨okR_law_asked F22 M T Y R14 R15 R16 R18 R19 R20 R21 R12, PySem.W.mg_of X G a22, F22.kp, B22⟩
  have Q23 : DfM l.prog w K mg base "_law_kind" 37 f23 _ _ (sp_law_kind K c) := ⟨okM_law_kind F23 M T Y , PySem.W.mg_of X G a23, F23.kp, B23⟩
  have D24 : Df l.prog w K mg base "_law_tried" 45 f24 _ _ (sp_law_tried K c) := ⟨okT_law_tried F24 M T Y R9 R22 Q23, PySem.W.mg_of X G a24, F24.kp, B24⟩
  exact ok_law F25 M T D1 D3 D4 D24 D14 D12
theorem walk {l : PySem.W.OpenLaw} {q : Program} {loose : List Str} {XP : (Str → Option Value) → Heap → Prop} {YP : World → Heap → Prop} {d : DefRec} {K : Params → PySem.W.Frag} (hi : PyProof.Rows.importsNone q = true) (hn : l.most = some 63) (hdf : d.params.defaults = [])
    (hY : ∀ (w : World) (h : Heap), YP w h → (K w.params).In h)
    (F : ∀ (w : World) (mg : Str → Option Value) (fa : Addr) (h : Heap), (K w.params).In h → h.Ns mainGlobals mg → mg d.name = some (.ref fa) →
      ∃ fd : FuncData, (∀ (s : Shared) (u : Value), BindsTo s fd ⟨[u], []⟩ [("script", u)]) ∧ ∀ base : Heap, (K w.params).In base → base.Ns mainGlobals mg → FnOk l.prog w (K w.params) mg base CX0 46 fa fd ["script"] (sp_law (K w.params))) :
    PySem.W.WalkO q loose XP YP l.row.toRowW d [] (fun f vs => PySem.call f vs) :=
  L2.walk_of (n := 63) (k := 46) (x := "script") (CX := fun _ => CX0) (sp := fun w => sp_law (K w.params)) hi hn (by decide) hdf ⟨rfl, by decide, by decide⟩ hY F (fun _ _ a ns hl _ hS => ⟨a, ns, rfl, hS, hl, fun _ => rfl⟩) fun _ _ _ _ _ z => z
end My
open PySem PySem.W PyProof.Rows
set_option maxRecDepth 100000 in
set_option maxHeartbeats 0 in
theorem My.lawV_holds : My.lawV.Holds := by
  w_on; o_law; k_head; (case hw => w_witness2)
  k_fill
  refine My.walk (l := My.lawV) ?hi rfl rfl (fun w h Y => PySem.W.kIn_of Y) ?F
  case hi => decide +kernel
  case F =>
    intro w mg fa h KX G hmg
    refine' My.all_mk rfl KX G hmg ?a0 ?l0 ?c0 ?k0 ?a1 ?l1 ?c1 ?k1 ?a2 ?l2 ?c2 ?k2 ?a3 ?l3 ?c3 ?k3 ?a4 ?l4 ?c4 ?k4 ?a5 ?l5 ?c5 ?k5 ?a6 ?l6 ?c6 ?k6 ?a7 ?l7 ?c7 ?k7 ?a8 ?l8 ?c8 ?k8 ?a9 ?l9 ?c9 ?k9 ?a10 ?l10 ?c10 ?k10 ?a11 ?l11 ?c11 ?k11 ?a12 ?l12 ?c12 ?k12 ?a13 ?l13 ?c13 ?k13 ?a14 ?l14 ?c14 ?k14 ?a15 ?l15 ?c15 ?k15 ?a16 ?l16 ?c16 ?k16 ?a17 ?l17 ?c17 ?k17 ?a18 ?l18 ?c18 ?k18 ?a19 ?l19 ?c19 ?k19 ?a20 ?l20 ?c20 ?k20 ?a21 ?l21 ?c21 ?k21 ?a22 ?l22 ?c22 ?k22 ?a23 ?l23 ?c23 ?k23 ?a24 ?l24 ?c24 ?k24 ?a25 ?l25 ?c25 ?k25 ?y0 ?y1 ?y2 ?y3 ?y4 ?y5 ?y6 ?y7 ?yc ?z_SIGNS ?z_LEAST_WEIGHTS ?z_MOST_WEIGHTS ?z_LEAST_WEIGHT ?z_MOST_WEIGHT ?z_MOST_SIGNS ?z_MOST_WORDS ?z_MOST_THROWS ?b_len ?b_min ?b_max ?b_all ?b_any ?b_isinstance ?b_sum ?b_abs ?b_list ?b_sorted ?b_str ?b_range ?b_enumerate ?b_set ?b_zip ?b_ValueError
    (case a0 => k_is)
    (case l0 => k_is)
    (case c0 => k_is)
    (case k0 => k_is)
    (case a1 => k_is)
    (case l1 => k_is)
    (case c1 => k_is)
    (case k1 => k_is)
    (case a2 => k_is)
    (case l2 => k_is)
    (case c2 => k_is)
    (case k2 => k_is)
    (case a3 => k_is)
    (case l3 => k_is)
    (case c3 => k_is)
    (case k3 => k_is)
    (case a4 => k_is)
    (case l4 => k_is)
    (case c4 => k_is)
    (case k4 => k_is)
    (case a5 => k_is)
    (case l5 => k_is)
    (case c5 => k_is)
    (case k5 => k_is)
    (case a6 => k_is)
    (case l6 => k_is)
    (case c6 => k_is)
    (case k6 => k_is)
    (case a7 => k_is)
    (case l7 => k_is)
    (case c7 => k_is)
    (case k7 => k_is)
    (case a8 => k_is)
    (case l8 => k_is)
    (case c8 => k_is)
    (case k8 => k_is)
    (case a9 => k_is)
    (case l9 => k_is)
    (case c9 => k_is)
    (case k9 => k_is)
    (case a10 => k_is)
    (case l10 => k_is)
    (case c10 => k_is)
    (case k10 => k_is)
    (case a11 => k_is)
    (case l11 => k_is)
    (case c11 => k_is)
    (case k11 => k_is)
    (case a12 => k_is)
    (case l12 => k_is)
    (case c12 => k_is)
    (case k12 => k_is)
    (case a13 => k_is)
    (case l13 => k_is)
    (case c13 => k_is)
    (case k13 => k_is)
    (case a14 => k_is)
    (case l14 => k_is)
    (case c14 => k_is)
    (case k14 => k_is)
    (case a15 => k_is)
    (case l15 => k_is)
    (case c15 => k_is)
    (case k15 => k_is)
    (case a16 => k_is)
    (case l16 => k_is)
    (case c16 => k_is)
    (case k16 => k_is)
    (case a17 => k_is)
    (case l17 => k_is)
    (case c17 => k_is)
    (case k17 => k_is)
    (case a18 => k_is)
    (case l18 => k_is)
    (case c18 => k_is)
    (case k18 => k_is)
    (case a19 => k_is)
    (case l19 => k_is)
    (case c19 => k_is)
    (case k19 => k_is)
    (case a20 => k_is)
    (case l20 => k_is)
    (case c20 => k_is)
    (case k20 => k_is)
    (case a21 => k_is)
    (case l21 => k_is)
    (case c21 => k_is)
    (case k21 => k_is)
    (case a22 => k_is)
    (case l22 => k_is)
    (case c22 => k_is)
    (case k22 => k_is)
    (case a23 => k_is)
    (case l23 => k_is)
    (case c23 => k_is)
    (case k23 => k_is)
    (case a24 => k_is)
    (case l24 => k_is)
    (case c24 => k_is)
    (case k24 => k_is)
    (case a25 => k_is)
    (case l25 => k_is)
    (case c25 => k_is)
    (case k25 => k_is)
    (case y0 => k_is)
    (case y1 => k_is)
    (case y2 => k_is)
    (case y3 => k_is)
    (case y4 => k_is)
    (case y5 => k_is)
    (case y6 => k_is)
    (case y7 => k_is)
    (case yc => kernel_rfl)
    (case z_SIGNS => k_is)
    (case z_LEAST_WEIGHTS => k_is)
    (case z_MOST_WEIGHTS => k_is)
    (case z_LEAST_WEIGHT => k_is)
    (case z_MOST_WEIGHT => k_is)
    (case z_MOST_SIGNS => k_is)
    (case z_MOST_WORDS => k_is)
    (case z_MOST_THROWS => k_is)
    (case b_len => k_is)
    (case b_min => k_is)
    (case b_max => k_is)
    (case b_all => k_is)
    (case b_any => k_is)
    (case b_isinstance => k_is)
    (case b_sum => k_is)
    (case b_abs => k_is)
    (case b_list => k_is)
    (case b_sorted => k_is)
    (case b_str => k_is)
    (case b_range => k_is)
    (case b_enumerate => k_is)
    (case b_set => k_is)
    (case b_zip => k_is)
    (case b_ValueError => k_is)
theorem PySem.Challenge.cw_wordrace_k16_no_race_holds : PySem.Challenge.rw_wordrace_k16_no_race.Holds := by
  rw [My.lawV_eq]
  exact My.lawV_holds
