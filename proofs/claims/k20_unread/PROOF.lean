import PyProof.Rows.All
import Wide.All
import OpenK.AllK
import Wide.FinOn
import Lean
import PyProof.EqAt
import PyProof.EqKinds
import PyProof.TupleCall
import PyProof.DictItems
import PyProof.Draws
import PyProof.ZipIter
import PyProof.CallStr
import KE.KIntText
import PyProof.StationsW
import OpenK.KOwn
import KE.KIsAll
import PyProof.ExcArgsOwn
import PyProof.Rows.CountFlat
import PyProof.StrCalls6
import PyProof.StrLawsTight
import PySem.Challenge.RW_wordrace_k20_unread

set_option Elab.async false
set_option linter.all false
set_option maxRecDepth 100000
/-! THE HAND LAYER, for ints, bools, texts, own classes, LISTS and tuples (index, slices, in, append, pop ..), calls, loops. Paste it whole ahead of your own text; what your proof does not reach may be deleted. -/
namespace L2
open PySem PySem.Spec PyProof.Rows

/-- a key: an int or a str -/
abbrev Key := Sum Int Str
def keyIs : Key → Value → Bool
  | .inl k, v => Value.isInt k v
  | .inr x, v => Value.isStrOf x v
def keyH (w : World) : Key → Int
  | .inl k => hashInt k
  | .inr x => hashStr w x
theorem keyIs_shape : ∀ {k : Key} {v : Value}, keyIs k v = true → (∃ i t, k = Sum.inl i ∧ v = Value.int i t) ∨ (∃ x t, k = Sum.inr x ∧ v = Value.str x t)
  | .inl i, v, h => by
    obtain ⟨t, e⟩ := Value.isInt_shape (k := i) (v := v) h
    exact .inl ⟨i, t, rfl, e⟩
  | .inr x, v, h => by
    obtain ⟨t, e⟩ := Value.isStrOf_shape (x := x) (v := v) h
    exact .inr ⟨x, t, rfl, e⟩
theorem key_ll (a b : Int) : decide ((Sum.inl a : Key) = Sum.inl b) = (a == b) := by
  by_cases e : a = b
  · subst e; simp
  · have h : ¬ (Sum.inl a : Key) = Sum.inl b := fun q => e (Sum.inl.inj q)
    rw [decide_eq_false h]
    exact (beq_eq_false_iff_ne.mpr e).symm
theorem key_rr (a b : Str) : decide ((Sum.inr a : Key) = Sum.inr b) = decide (a = b) := by
  by_cases e : a = b
  · subst e; simp
  · have h : ¬ (Sum.inr a : Key) = Sum.inr b := fun q => e (Sum.inr.inj q)
    rw [decide_eq_false h, decide_eq_false e]
theorem key_lr (a : Int) (b : Str) : decide ((Sum.inl a : Key) = Sum.inr b) = false := decide_eq_false (fun q => nomatch q)
theorem key_rl (a : Str) (b : Int) : decide ((Sum.inr a : Key) = Sum.inl b) = false := decide_eq_false (fun q => nomatch q)

def mixKind (prog : Program) (w : World) : PySem.KeyKind prog w Key where
  is := keyIs
  hash := keyH w
  inj := fun v a b ha hb => by
    rcases keyIs_shape ha with ⟨i, t, rfl, rfl⟩ | ⟨x, t, rfl, rfl⟩
    · rcases keyIs_shape hb with ⟨j, u, rfl, e⟩ | ⟨y, u, rfl, e⟩
      · injection e with e1 _; rw [e1]
      · exact nomatch e
    · rcases keyIs_shape hb with ⟨j, u, rfl, e⟩ | ⟨y, u, rfl, e⟩
      · exact nomatch e
      · injection e with e1 _; rw [e1]
  byValue := fun k v h => by
    rcases keyIs_shape h with ⟨i, t, rfl, rfl⟩ | ⟨x, t, rfl, rfl⟩ <;> rfl
  pyHash := fun hv h => by
    rcases keyIs_shape hv with ⟨i, t, rfl, rfl⟩ | ⟨x, t, rfl, rfl⟩
    · exact wpAny_pyHash_int h
    · exact wpAny_pyHash_str h
  eqBool := fun hu hv h => by
    rcases keyIs_shape hu with ⟨i, t, rfl, rfl⟩ | ⟨x, t, rfl, rfl⟩
    · rcases keyIs_shape hv with ⟨j, u, rfl, rfl⟩ | ⟨y, u, rfl, rfl⟩
      · rw [key_ll] at h; exact wpAny_eqBool_int h
      · rw [key_lr] at h; exact SeqAt.EqAt.int_str i t y u _ _ _ _ h
    · rcases keyIs_shape hv with ⟨j, u, rfl, rfl⟩ | ⟨y, u, rfl, rfl⟩
      · rw [key_rl] at h; exact SeqAt.EqAt.str_int x t j u _ _ _ _ h
      · rw [key_rr] at h; exact wpAny_eqBool_str h
  «strs» := fun k x t v h => by
    rcases keyIs_shape h with ⟨i, u, rfl, e⟩ | ⟨y, u, rfl, e⟩
    · exact nomatch e
    · injection e with e1 _
      subst e1
      cases v <;> rfl

end L2

namespace L2
open PySem PySem.Spec PyProof.Rows

/-- a value, without the heap -/
inductive V where
  | non | bl (b : Bool) | int (i : Int) | str (x : Str) | byt (b : Array UInt8) | flt (b : UInt64) | ref (a : Addr) | ty (n : String)
  deriving DecidableEq

def RelV : V → Value → Prop
  | .non, u => u = Value.none
  | .bl b, u => u = Value.bool b
  | .int i, u => ∃ t, u = Value.int i t
  | .str x, u => ∃ t, u = Value.str x t
  | .byt b, u => ∃ t, u = Value.bytes b t
  | .flt b, u => ∃ t, u = Value.float b t
  | .ref a, u => u = Value.ref a
  | .ty n, u => u = Value.type n

abbrev Vals : List V → List Value → Prop := Paired RelV
theorem Vals.length {xs : List V} {us : List Value} (r : Vals xs us) : xs.length = us.length := Paired.length r
theorem Vals.get : ∀ {xs : List V} {us : List Value} {i : Nat} {x : V}, Vals xs us → xs[i]? = some x → ∃ u, us[i]? = some u ∧ RelV x u
  | _, _, _, _, .nil, e => by simp at e
  | _, _, 0, _, .cons r _, e => by simp at e; subst e; exact ⟨_, rfl, r⟩
  | _, _, i + 1, x, .cons _ t, e => by
    obtain ⟨u, h1, h2⟩ := Vals.get (i := i) (x := x) t (by simpa using e)
    exact ⟨u, by simpa using h1, h2⟩
theorem Vals.append : ∀ {xs ys : List V} {us ws : List Value}, Vals xs us → Vals ys ws → Vals (xs ++ ys) (us ++ ws)
  | _, _, _, _, .nil, s => s
  | _, _, _, _, .cons r t, s => .cons r (Vals.append t s)
theorem Vals.take : ∀ {xs : List V} {us : List Value} (n : Nat), Vals xs us → Vals (xs.take n) (us.take n)
  | _, _, 0, _ => .nil
  | _, _, _ + 1, .nil => .nil
  | _, _, n + 1, .cons r t => .cons r (Vals.take n t)
theorem Vals.drop : ∀ {xs : List V} {us : List Value} (n : Nat), Vals xs us → Vals (xs.drop n) (us.drop n)
  | _, _, 0, r => r
  | _, _, _ + 1, .nil => .nil
  | _, _, n + 1, .cons _ t => Vals.drop n t
def RelO : Option V → Option Value → Prop
  | some v, some u => RelV v u
  | none, none => True
  | _, _ => False
def KV {κ : Type} : List (κ × V) → List (κ × Value) → Prop := Paired fun (p : κ × V) (q : κ × Value) => p.1 = q.1 ∧ RelV p.2 q.2

/-- a key of a dict (00_mix): an int or a text -/
def kV : Key → V
  | .inl i => .int i
  | .inr x => .str x

/-- what stands at a tracked address -/
inductive HO where
  /-- a list -/
  | lst (xs : List V)
  /-- a tuple (never changes) -/
  | tup (xs : List V)
  /-- a dict whose keys are ints and texts; one whose keys are tuples of ints and texts (the empty one is both) -/
  | dK (kvs : List (Key × V)) | dT (kvs : List (List Key × V))
  /-- a set of ints: its members, its size -/
  | set (S : Int → Bool) (n : Nat)
  /-- an instance of the class at C, its dict at dx, its attributes -/
  | ins (C dx : Addr) (fs : List (Str × V))
  /-- the dict of the instance at x -/
  | own (x : Addr)
  /-- the dict of an exception -/
  | xd (fs : List (Str × V))
  /-- a bound method, f of x -/
  | met (f x : Addr)
  /-- a range object lo, lo + 1, .. below hi -/
  | rng (lo hi : Int)
  /-- a thing that is known to the object (the script; a dict while a loop walks it): read, never written while it is so -/
  | frz (o : Obj) (u : HO)
  /-- a code object's table -/
  | tbl (ps : Array Value)
  /-- any other thing, by what is true of its one object (a def of one's own: SetO a S n := HO.ext fun h => ..) -/
  | ext (φ : Heap → Prop)

abbrev Hp := Addr → Option HO
def upd (H : Hp) (a : Addr) (o : HO) : Hp := fun b => if b = a then some o else H b
theorem upd_same {H : Hp} {a : Addr} {o : HO} : upd H a o a = some o := by unfold upd; rw [if_pos rfl]
theorem upd_ne {H : Hp} {a b : Addr} {o : HO} (h : b ≠ a) : upd H a o b = H b := by unfold upd; rw [if_neg h]
theorem ne_of_none {H : Hp} {a b : Addr} {o : HO} (h : H a = some o) (h' : H b = none) : a ≠ b := by
  intro e; subst e; rw [h] at h'; cases h'

section
variable (P : Program) (w : World)
def ObjOk (H : Hp) (h : Heap) (a : Addr) : HO → Prop
  | .lst xs => xs.length ≤ sizeLine ∧ ∃ (its : List Value) (n : Nat), Vals xs its ∧ h.get? a = some { cls := .type "list", data := .seq its.toArray n }
  | .tup xs => xs.length ≤ sizeLine ∧ ∃ its : List Value, Vals xs its ∧ IsTup h a its.toArray
  | .dK kvs => kvs.length ≤ sizeLine ∧ (a == sysModules) = false ∧ ∃ vs, KV kvs vs ∧ h.DictOf (mixKind P w) a vs
  | .dT kvs => kvs.length ≤ sizeLine ∧ (a == sysModules) = false ∧ ∃ xs : List (List Key × Addr × Value),
      Paired (fun (p : List Key × V) (q : List Key × Addr × Value) => p.1 = q.1 ∧ H q.2.1 = some (.tup (p.1.map kV)) ∧ RelV p.2 q.2.2) kvs xs ∧
      ∃ o es ep, h.get? a = some o ∧ o.ExactDict ∧ o.data = .dict es ep ∧ es.toList = xs.map (entryOfKey (tupleKind (mixKind P w))) ∧ (xs.map (·.1)).Nodup
  | .set S n => h.SetOf (intKind P w) a S n
  | .ins C dx fs => H dx = some (.own a) ∧ fs.length ≤ 1000 ∧ dx ≠ a ∧ h.get? a = some (PySem.W.instObj C dx) ∧
      ∃ mA, h.Ns1 dx mA ∧ (∀ f, RelO (fs.lookup f) (mA f)) ∧ PySem.Within mA (fs.map (·.1))
  | .own _ => ∃ o, h.get? a = some o
  | .xd fs => ∃ mA, h.Ns1 a mA ∧ ∀ f, RelO (fs.lookup f) (mA f)
  | .rng lo hi => ∃ t u v, h.get? a = some { cls := .type "range", data := .fields #[.int lo t, .int hi u, .int 1 v] }
  | .frz o u => h.get? a = some o ∧ ObjOk H h a u
  | .tbl ps => h.get? a = some { cls := .none, data := .fields ps }
  | .met f x => h.get? a = some (PySem.W.methodObj (.ref f) (.ref x))
  | .ext φ => φ h ∧ (∃ o, h.get? a = some o) ∧ ∀ h1 h2 : Heap, φ h1 → (∀ o, h1.get? a = some o → h2.get? a = some o) → φ h2
/-- the abstract heap is held -/
def HOk (H : Hp) (h : Heap) : Prop := ∀ a o, H a = some o → ObjOk P w H h a o
end

section
variable {P : Program} {w : World} {H H' : Hp} {h h' : Heap} {a : Addr} {o : HO}
theorem ObjOk.lt (x : ObjOk P w H h a o) : a < h.objs.size := by
  cases o with
  | lst xs => obtain ⟨_, _, _, _, e⟩ := x; exact Heap.lt_size e
  | tup xs => obtain ⟨_, _, _, p⟩ := x; exact p.lt
  | dK kvs => obtain ⟨_, _, _, _, o, _, _, e, _⟩ := x; exact Heap.lt_size e
  | dT kvs => obtain ⟨_, _, _, _, o, _, _, e, _⟩ := x; exact Heap.lt_size e
  | set S n => obtain ⟨o, _, _, _, e, _⟩ := x; exact Heap.lt_size e
  | ins C dx fs => obtain ⟨_, _, _, e, _⟩ := x; exact Heap.lt_size e
  | own y => obtain ⟨_, e⟩ := x; exact Heap.lt_size e
  | xd fs => obtain ⟨_, ⟨_, _, _, e, _⟩, _⟩ := x; exact Heap.lt_size e
  | rng lo hi => obtain ⟨_, _, _, e⟩ := x; exact Heap.lt_size e
  | frz ob u => obtain ⟨e, _⟩ := x; exact Heap.lt_size e
  | tbl ps => exact Heap.lt_size (show h.get? a = some _ from x)
  | met f y => exact Heap.lt_size (show h.get? a = some _ from x)
  | ext φ => obtain ⟨_, ⟨_, e⟩, _⟩ := x; exact Heap.lt_size e
theorem Paired.mapP {α β : Type} {F G : α → β → Prop} : ∀ {l₁ : List α} {l₂ : List β}, Paired F l₁ l₂ → (∀ a b, F a b → G a b) → Paired G l₁ l₂
  | _, _, .nil, _ => .nil
  | _, _, .cons r t, f => .cons (f _ _ r) (Paired.mapP t f)
/-- what an object's description leans on: its own object, its own dict, the tuples -/
theorem ObjOk.stay (x : ObjOk P w H h a o) (k : ∀ b u, (b = a ∨ H b = some (.own a)) → h.get? b = some u → h'.get? b = some u)
    (ho : ∀ b, H b = some (.own a) → H' b = some (.own a)) (ht : ∀ b xs, H b = some (.tup xs) → H' b = some (.tup xs)) : ObjOk P w H' h' a o := by
  induction o with
  | lst xs => obtain ⟨z, its, n, r, e⟩ := x; exact ⟨z, its, n, r, k _ _ (.inl rfl) e⟩
  | tup xs => obtain ⟨z, its, r, ob, e, c⟩ := x; exact ⟨z, its, r, ob, k _ _ (.inl rfl) e, c⟩
  | dK kvs => obtain ⟨z, y, vs, r, ob, es, ep, e, c⟩ := x; exact ⟨z, y, vs, r, ob, es, ep, k _ _ (.inl rfl) e, c⟩
  | dT kvs =>
    obtain ⟨z, y, xs, r, ob, es, ep, e, c⟩ := x
    exact ⟨z, y, xs, Paired.mapP r fun p q z => ⟨z.1, ht _ _ z.2.1, z.2.2⟩, ob, es, ep, k _ _ (.inl rfl) e, c⟩
  | set S n => obtain ⟨ob, es, ep, t, e, c⟩ := x; exact ⟨ob, es, ep, t, k _ _ (.inl rfl) e, c⟩
  | ins C dx fs =>
    obtain ⟨d, z, ne, e, mA, ⟨od, es, ep, e2, c⟩, r⟩ := x
    exact ⟨ho _ d, z, ne, k _ _ (.inl rfl) e, mA, ⟨od, es, ep, k _ _ (.inr d) e2, c⟩, r⟩
  | own y => obtain ⟨ob, e⟩ := x; exact ⟨ob, k _ _ (.inl rfl) e⟩
  | xd fs => obtain ⟨mA, ⟨od, es, ep, e, c⟩, r⟩ := x; exact ⟨mA, ⟨od, es, ep, k _ _ (.inl rfl) e, c⟩, r⟩
  | rng lo hi => obtain ⟨t, u, v, e⟩ := x; exact ⟨t, u, v, k _ _ (.inl rfl) e⟩
  | frz ob u ih => obtain ⟨e, q⟩ := x; exact ⟨k _ _ (.inl rfl) e, ih q⟩
  | tbl ps =>
    have e : h.get? a = some { cls := .none, data := .fields ps } := x
    show h'.get? a = some { cls := .none, data := .fields ps }
    exact k a _ (.inl rfl) e
  | met f y =>
    have e : h.get? a = some (PySem.W.methodObj (.ref f) (.ref y)) := x
    show h'.get? a = some (PySem.W.methodObj (.ref f) (.ref y))
    exact k a _ (.inl rfl) e
  | ext φ => obtain ⟨p, ⟨o, e⟩, st⟩ := x; exact ⟨st _ _ p fun o q => k _ _ (.inl rfl) q, ⟨o, k _ _ (.inl rfl) e⟩, st⟩
theorem HOk.lt (x : HOk P w H h) (e : H a = some o) : a < h.objs.size := (x a o e).lt
theorem HOk.fresh (x : HOk P w H h) (e : h.objs.size ≤ a) : H a = none := by
  cases q : H a with
  | none => rfl
  | some u => exact absurd (Nat.lt_of_lt_of_le (x.lt q) e) (Nat.lt_irrefl _)
/-- every object of the heap is kept -/
theorem HOk.kept (x : HOk P w H h) (k : ∀ b u, h.get? b = some u → h'.get? b = some u) : HOk P w H h' := fun a o e =>
  (x a o e).stay (fun b u _ q => k b u q) (fun _ q => q) fun _ _ q => q
/-- a new object is laid and tracked -/
theorem HOk.laid (x : HOk P w H h) (k : ∀ b u, h.get? b = some u → h'.get? b = some u) (hp : h.objs.size ≤ a) (new : ObjOk P w (upd H a o) h' a o) : HOk P w (upd H a o) h' := fun b u e => by
  have hn := x.fresh hp
  by_cases hb : b = a
  · subst hb; rw [upd_same] at e; cases e; exact new
  · rw [upd_ne hb] at e
    exact (x b u e).stay (fun c v _ q => k c v q) (fun c q => by rw [upd_ne (ne_of_none q hn)]; exact q) fun c xs q => by rw [upd_ne (ne_of_none q hn)]; exact q
end

/-- what may be read as u: it is u, or a known u -/
def Rd (H : Hp) (a : Addr) (u : HO) : Prop := H a = some u ∨ ∃ o, H a = some (.frz o u)
theorem Rd.ok {P : Program} {w : World} {H : Hp} {h : Heap} {a : Addr} {u : HO} (r : Rd H a u) (x : HOk P w H h) : ObjOk P w H h a u := by
  rcases r with r | ⟨o, r⟩
  · exact x a u r
  · obtain ⟨_, q⟩ := x a _ r
    exact q
/-- what may be written -/
def Mut : Option HO → Prop
  | some (.lst _) => True
  | some (.dK _) => True
  | some (.dT _) => True
  | some (.set _ _) => True
  | some (.ins _ _ _) => True
  | some (.ext _) => True
  | _ => False
section
variable {P : Program} {w : World} {H : Hp} {h h' : Heap} {x e : Addr} {o' : HO}
/-- the object at e is changed: x itself, or the dict of the instance x -/
theorem HOk.write (ok : HOk P w H h) (mu : Mut (H x)) (he : e = x ∨ H e = some (.own x)) (k : ∀ b u, b ≠ e → h.get? b = some u → h'.get? b = some u) (heo : ∃ u, h'.get? e = some u)
    (new : ObjOk P w (upd H x o') h' x o') : HOk P w (upd H x o') h' := fun b u q => by
  have nown : ∀ c y, H c = some (.own y) → c ≠ x := fun c y r z => by subst z; rw [r] at mu; exact mu
  have ntup : ∀ c xs, H c = some (.tup xs) → c ≠ x := fun c xs r z => by subst z; rw [r] at mu; exact mu
  by_cases hb : b = x
  · subst hb; rw [upd_same] at q; cases q; exact new
  · rw [upd_ne hb] at q
    by_cases hbe : b = e
    · have q' : H b = some (.own x) := by
        rcases he with z | z
        · exact absurd (hbe.trans z) hb
        · rw [hbe]; exact z
      rw [q] at q'; cases q'
      obtain ⟨v, hv⟩ := heo
      exact ⟨v, by rw [hbe]; exact hv⟩
    · refine (ok b u q).stay (fun c v hc r => k c v ?_ r) (fun c r => by rw [upd_ne (nown c b r)]; exact r) fun c xs r => by rw [upd_ne (ntup c xs r)]; exact r
      rcases hc with rfl | hc
      · exact hbe
      · rintro rfl
        rcases he with z | z
        · exact nown c b hc z
        · rw [hc] at z; cases z; exact hb rfl
end

/-! ### kept unless tracked; of the frames at fs (the callers') the slots may change (an exception that passes writes there); of the records at ex (iterators) nothing is said -/
structure Un (fs ex : List Addr) (H H' : Hp) (h h' : Heap) : Prop where
  keep : ∀ b o, h.get? b = some o → H b = none → b ∉ fs → b ∉ ex → h'.get? b = some o
  slot : ∀ b o, h.get? b = some o → H b = none → b ∈ fs → b ∉ ex → ∃ sl, h'.get? b = some { o with slots := sl }
  free : ∀ b o, h.get? b = some o → H b = none → b ∉ ex → H' b = none
  there : ∀ b o, h.get? b = some o → b ∉ ex → ∃ o', h'.get? b = some o'
  tups : ∀ b xs, H b = some (.tup xs) → H' b = some (.tup xs)
  frzs : ∀ b o u, H b = some (.frz o u) → H' b = some (.frz o u)
  tbls : ∀ b ps, H b = some (.tbl ps) → ∃ more, H' b = some (.tbl (ps ++ more))
section
variable {fs fs' ex ex' : List Addr} {H H1 H2 : Hp} {h h1 h2 h' : Heap} {a x e : Addr} {o : HO}
theorem Un.any (u : Un fs ex H H1 h h1) {b : Addr} {ob : Obj} (q : h.get? b = some ob) (n : H b = none) (hx : b ∉ ex) : ∃ sl, h1.get? b = some { ob with slots := sl } := by
  by_cases hb : b ∈ fs
  · exact u.slot b ob q n hb hx
  · exact ⟨ob.slots, u.keep b ob q n hb hx⟩
theorem Un.kept (k : ∀ b u, h.get? b = some u → h'.get? b = some u) : Un fs ex H H h h' :=
  ⟨fun b ob q _ _ _ => k b ob q, fun b ob q _ _ _ => ⟨ob.slots, k b ob q⟩, fun _ _ _ n _ => n, fun b ob q _ => ⟨ob, k b ob q⟩, fun _ _ q => q, fun _ _ _ q => q, fun _ ps q => ⟨#[], by rw [q]; simp⟩⟩
theorem Un.refl : Un fs ex H H h h := Un.kept fun _ _ q => q
theorem Un.laid (k : ∀ b u, h.get? b = some u → h'.get? b = some u) (hp : h.objs.size ≤ a) (hn : H a = none) : Un fs ex H (upd H a o) h h' where
  keep := fun b u q _ _ _ => k b u q
  slot := fun b u q _ _ _ => ⟨u.slots, k b u q⟩
  free := fun b u q n _ => by rw [upd_ne (Nat.ne_of_lt (Nat.lt_of_lt_of_le (Heap.lt_size q) hp))]; exact n
  there := fun b u q _ => ⟨u, k b u q⟩
  tups := fun b xs q => by rw [upd_ne (ne_of_none q hn)]; exact q
  frzs := fun b u xs q => by rw [upd_ne (ne_of_none q hn)]; exact q
  tbls := fun b ps q => ⟨#[], by rw [upd_ne (ne_of_none q hn), q]; simp⟩
theorem Un.write (mu : Mut (H x)) (he : e = x ∨ H e = some (.own x)) (k : ∀ b u, b ≠ e → h.get? b = some u → h'.get? b = some u) (heo : ∃ u, h'.get? e = some u) : Un fs ex H (upd H x o) h h' := by
  have hx : ∀ b, H b = none → b ≠ x := fun b n z => by subst z; rw [n] at mu; exact mu
  have hb : ∀ b, H b = none → b ≠ e := fun b n z => by
    subst z
    rcases he with r | r
    · exact hx b n r
    · rw [n] at r; cases r
  have hm : ∀ b u, H b = some u → ¬ Mut (some u) → b ≠ x := fun b u q nm z => by subst z; rw [q] at mu; exact nm mu
  refine ⟨fun b u q n _ _ => k b u (hb b n) q, fun b u q n _ _ => ⟨u.slots, k b u (hb b n) q⟩, fun b u q n _ => by rw [upd_ne (hx b n)]; exact n, fun b u q _ => ?_,
    fun b xs q => by rw [upd_ne (hm b _ q fun z => z)]; exact q, fun b u xs q => by rw [upd_ne (hm b _ q fun z => z)]; exact q, fun b ps q => ⟨#[], by rw [upd_ne (hm b _ q fun z => z), q]; simp⟩⟩
  by_cases hbe : b = e
  · subst hbe; exact heo
  · exact ⟨u, k b u hbe q⟩
end

/-! ### the heap without what is tracked -/
def trk (h : Heap) (H : Hp) : List Addr := (List.range h.objs.size).filter fun a => (H a).isSome
def hidT (h : Heap) (H : Hp) : Heap := PySem.W.hideAll h (trk h H)
theorem hidT_size (h : Heap) (H : Hp) : (hidT h H).objs.size = h.objs.size := PySem.W.hideAll_size _ _
theorem hidT_get {h : Heap} {H : Hp} {b : Addr} {o : Obj} (e : h.get? b = some o) (n : H b = none) : (hidT h H).get? b = some o :=
  PySem.W.hideAll_get _ e fun hm => by
    have q : (H b).isSome = true := (List.mem_filter.mp hm).2
    rw [n] at q; simp at q
theorem of_hidT {h : Heap} {H : Hp} {b : Addr} {o : Obj} (e : (hidT h H).get? b = some o) : h.get? b = some o ∧ H b = none := by
  have e' : h.get? b = some o := PySem.W.of_hideAll (trk h H) e
  refine ⟨e', ?_⟩
  cases q : H b with
  | none => rfl
  | some x =>
    have hm : b ∈ trk h H := List.mem_filter.mpr ⟨List.mem_range.mpr (Heap.lt_size e'), by simp [q]⟩
    have z : (hidT h H).get? b = none := PySem.W.hideAll_none (trk h H) hm
    rw [z] at e; cases e

/-! ### OpenK's ledger, filled with every new object but one -/
end L2

namespace L2
open PySem PySem.Spec PyProof.Rows

/-- the module's facts, over the base: the heap at the law's entry without what is tracked there -/
structure Mod (K : PySem.W.Frag) (mg : Str → Option Value) (base : Heap) : Prop where
  kin : K.In base
  glob : base.Ns mainGlobals mg
  blt : ∃ mb, base.Ns builtinsNs mb ∧ ∀ x : Str, x ≠ "__name__" → mb x = bootBuiltins x
  nolimit : base.NoLimit
  seer : base.NoSeer

/-- the context: a def's body (or a comprehension's block) running. base: fixed through the whole law; s₀, H₀: the entry; outer: the frames whose slots others may change (a def's callers); stack: all frames that run;
   ex: iterators that were made ahead of the entry and are walked here (a comprehension's); fn: the names whose cells were made at the entry (a def: all; a comprehension's block: its own); calm: not within an except suite; pn: pins that every state bears; xe: what is wanted of an exception that leaves the code -/
structure Cx where
  prog : Program
  w : World
  K : PySem.W.Frag
  mg : Str → Option Value
  base : Heap
  A : Around
  N : List Str
  s₀ : Shared
  H₀ : Hp
  env : Env
  outer : List Env
  stack : List Env
  ex : List Addr
  fn : Str → Bool
  calm : Bool
  pn : List (Addr × Obj)
  xe : Value → Shared → Prop
/-- the callers' frames -/
def frs (l : List Env) : List Addr := l.filterMap (·.frame)
abbrev Cx.fs (X : Cx) : List Addr := frs X.outer

def Vis (sc : Scope) (x : Str) : Prop := sc.names.lookup x = some .local ∨ sc.names.lookup x = some .cell ∨ sc.names.lookup x = some .free
def Loc (sc : Scope) (x : Str) : Prop := sc.names.lookup x = some .local ∨ sc.names.lookup x = some .cell
def Look (env : Env) (h : Heap) (m : Str → Option Value) (x : Str) (u : Value) : Prop :=
  (env.kindOf x = some .local ∧ m x = some u) ∨ ((env.kindOf x = some .cell ∨ env.kindOf x = some .free) ∧ ∃ c, env.cells.lookup x = some c ∧ h.IsCell c (some u))

structure Cx.Ok (X : Cx) : Prop where
  mod : Mod X.K X.mg X.base
  kind : X.env.scope.kind = .function
  glob : X.env.globals = mainGlobals
  blt : X.env.builtins = builtinsNs
  above : X.s₀.heap.objs.size ≤ X.env.locals
  inj : ∀ x y c, X.env.cells.lookup x = some c → X.env.cells.lookup y = some c → x = y
  has : ∀ x, (X.env.kindOf x = some .cell ∨ X.env.kindOf x = some .free) → ∃ c, X.env.cells.lookup x = some c
  cab : ∀ x c, X.fn x = true → X.env.cells.lookup x = some c → X.s₀.heap.objs.size ≤ c
  hd : X.calm = true → X.A.handled = none
  frames : X.A.frames = some X.stack
  stk : X.stack = X.outer ∨ (X.stack = X.env :: X.outer ∧ X.env.frame = some X.env.locals)
  exf : ∀ b ∈ X.ex, b ≠ X.env.locals ∧ ∀ x c, X.env.cells.lookup x = some c → c ≠ b
  bs : ∀ b o, X.base.get? b = some o → X.s₀.heap.get? b = some o ∧ X.H₀ b = none
  bsz : X.base.objs.size ≤ X.s₀.heap.objs.size
  noex : ∀ b o, X.base.get? b = some o → b ∉ X.ex
  exfs : ∀ b ∈ X.ex, b ∉ X.fs
  funs : X.s₀.heap.FunFrames X.base X.outer
  frf : ∀ b ∈ X.fs, X.H₀ b = none

structure Inv (X : Cx) (pins : List (Addr × Obj)) (σ : List (Option V)) (H : Hp) (s : Shared) : Prop where
  ok : X.Ok
  os : s.os = X.s₀.os
  bare : AllBare s.gens
  base : Un X.fs X.ex X.H₀ H X.s₀.heap s.heap
  loc : ∃ m, s.heap.Ns X.env.locals m ∧ ∀ (i : Nat) (x : Str) (v : V), X.N[i]? = some x → σ[i]? = some (some v) → Vis X.env.scope x → ∃ u, RelV v u ∧ Look X.env s.heap m x u
  cell : ∀ x c, X.env.cells.lookup x = some c → ∃ v, s.heap.IsCell c v
  free : H X.env.locals = none
  freeC : ∀ x c, X.env.cells.lookup x = some c → H c = none
  pin : ∀ p ∈ X.pn ++ pins, s.heap.get? p.1 = some p.2 ∧ H p.1 = none ∧ p.1 ≠ X.env.locals ∧ p.1 ∉ X.fs ∧ ∀ v, p.2.data ≠ .cell v
  hok : HOk X.prog X.w H s.heap
  len : σ.length = X.N.length

section
variable {X : Cx} {pins : List (Addr × Obj)} {σ : List (Option V)} {H H' : Hp} {s : Shared} {h' : Heap}

theorem Cx.Ok.nofr (ok : X.Ok) {b : Addr} {o : Obj} (e : X.base.get? b = some o) : b ∉ X.fs := fun hb => by
  have := (ok.funs.mem hb).1
  rw [e] at this; cases this
theorem Inv.bs (I : Inv X pins σ H s) : ∀ b o, X.base.get? b = some o → s.heap.get? b = some o ∧ H b = none := fun b o e =>
  ⟨I.base.keep b o (I.ok.bs b o e).1 (I.ok.bs b o e).2 (I.ok.nofr e) (I.ok.noex b o e), I.base.free b o (I.ok.bs b o e).1 (I.ok.bs b o e).2 (I.ok.noex b o e)⟩
theorem Inv.bk (I : Inv X pins σ H s) : ∀ b o, X.base.get? b = some o → s.heap.get? b = some o := fun b o e => (I.bs b o e).1
theorem Inv.mod (I : Inv X pins σ H s) : Mod X.K X.mg X.base := I.ok.mod
theorem Inv.kIn (I : Inv X pins σ H s) : X.K.In s.heap := I.ok.mod.kin.keeps I.bk
theorem Inv.lt (I : Inv X pins σ H s) : X.env.locals < s.heap.objs.size := let ⟨_, hn, _⟩ := I.loc; hn.lt
theorem Inv.sz (I : Inv X pins σ H s) : X.s₀.heap.objs.size ≤ s.heap.objs.size := Nat.le_trans I.ok.above (Nat.le_of_lt I.lt)
theorem Inv.nofs (I : Inv X pins σ H s) {a : Addr} (h : s.heap.objs.size ≤ a) : a ∉ X.fs := fun hb => by
  obtain ⟨_, o, ho, _⟩ := I.ok.funs.mem hb
  exact absurd (Nat.lt_of_lt_of_le (Heap.lt_size ho) (Nat.le_trans I.sz h)) (Nat.lt_irrefl _)
theorem Inv.cne (I : Inv X pins σ H s) : ∀ x c, X.env.cells.lookup x = some c → c ≠ X.env.locals := fun x c e z => by
  obtain ⟨v, o, ho, hd⟩ := I.cell x c e
  obtain ⟨m, ⟨o', es, ep, ho', hd', _⟩, _⟩ := I.loc
  rw [z, ho'] at ho; cases ho; rw [hd'] at hd; cases hd
theorem Inv.funs (I : Inv X pins σ H s) : s.heap.FunFrames X.base X.outer := by
  have all : ∀ (l : List Env), (∀ b ∈ frs l, b ∈ X.fs) → X.s₀.heap.FunFrames X.base l → s.heap.FunFrames X.base l := by
    intro l
    induction l with
    | nil => intro _ _; trivial
    | cons env r ih =>
      intro hs hl
      obtain ⟨hk, ⟨L, o, hf, hn, ho, hd⟩, hr⟩ := hl
      have hL : L ∈ X.fs := hs L (by unfold frs; rw [List.filterMap_cons, hf]; exact List.mem_cons_self)
      obtain ⟨sl, e⟩ := I.base.slot L o ho (I.ok.frf L hL) hL fun z => I.ok.exfs L z hL
      exact ⟨hk, ⟨L, _, hf, hn, e, hd⟩, ih (fun b hb => hs b (by unfold frs; rw [List.filterMap_cons, hf]; exact List.mem_cons_of_mem _ hb)) hr⟩
  exact all X.outer (fun _ hb => hb) I.ok.funs

/-- the frames that run, for a call -/
theorem Inv.stack (I : Inv X pins σ H s) : s.heap.FunFrames X.base X.stack := by
  rcases I.ok.stk with e | ⟨e, hf⟩
  · rw [e]; exact I.funs
  · rw [e]
    obtain ⟨m, hn, _⟩ := I.loc
    refine .cons (by rw [I.ok.kind]; decide) hf hn ?_ I.funs
    exact Heap.get?_none_of_le (Nat.le_trans I.ok.bsz I.ok.above)
theorem Inv.stkSub (I : Inv X pins σ H s) : ∀ b ∈ frs X.stack, b ∈ X.env.locals :: X.fs := fun b hb => by
  rcases I.ok.stk with e | ⟨e, hf⟩
  · rw [e] at hb; exact List.mem_cons_of_mem _ hb
  · rw [e] at hb
    unfold frs at hb
    rw [List.filterMap_cons, hf] at hb
    exact hb
theorem Inv.stkFree (I : Inv X pins σ H s) : ∀ b ∈ frs X.stack, H b = none := fun b hb => by
  rcases List.mem_cons.mp (I.stkSub b hb) with e | hb
  · rw [e]; exact I.free
  · obtain ⟨_, o, ho, _⟩ := I.ok.funs.mem hb
    exact I.base.free b o ho (I.ok.frf b hb) fun z => I.ok.exfs b z hb

/-- THE STEP: the untracked objects but the frame and the records at ch are kept (the callers' frames up to slots), the frame's map is kept, the new abstract heap is held -/
theorem Inv.step {g' : Array GenState} {t' : Nat} {d' : Drawn} {ch : List Addr} (I : Inv X pins σ H s)
    (hch : ∀ b ∈ ch, (b ∈ X.ex ∨ X.s₀.heap.objs.size ≤ b) ∧ b ≠ X.env.locals ∧ (∀ x c, X.env.cells.lookup x = some c → c ≠ b) ∧ ∀ p ∈ X.pn ++ pins, p.1 ≠ b)
    (keep : ∀ b o, b ≠ X.env.locals → b ∉ X.fs → b ∉ ch → s.heap.get? b = some o → H b = none → h'.get? b = some o)
    (slot : ∀ b o, b ≠ X.env.locals → b ∈ X.fs → b ∉ ch → s.heap.get? b = some o → H b = none → ∃ sl, h'.get? b = some { o with slots := sl }) (free : ∀ b o, b ∉ ch → s.heap.get? b = some o → H b = none → H' b = none)
    (there : ∀ b o, b ∉ ch → s.heap.get? b = some o → ∃ o', h'.get? b = some o')
    (tups : ∀ b xs, H b = some (.tup xs) → H' b = some (.tup xs)) (frzs : ∀ b o u, H b = some (.frz o u) → H' b = some (.frz o u)) (tbls : ∀ b ps, H b = some (.tbl ps) → ∃ more, H' b = some (.tbl (ps ++ more)))
    (ns : ∀ m, s.heap.Ns X.env.locals m → h'.Ns X.env.locals m) (hok : HOk X.prog X.w H' h') (hg : AllBare g') :
    Inv X pins σ H' { s with heap := h', gens := g', drawn := d', toks := t' } := by
  have neL : ∀ b o, X.s₀.heap.get? b = some o → b ≠ X.env.locals := fun b o e => Nat.ne_of_lt (Nat.lt_of_lt_of_le (Heap.lt_size e) I.ok.above)
  have neC : ∀ b o, X.s₀.heap.get? b = some o → b ∉ X.ex → b ∉ ch := fun b o e hx hb => by
    rcases (hch b hb).1 with z | z
    · exact hx z
    · exact absurd (Nat.lt_of_lt_of_le (Heap.lt_size e) z) (Nat.lt_irrefl _)
  have cellK : ∀ x c, X.env.cells.lookup x = some c → ∀ v, s.heap.IsCell c v → h'.IsCell c v := fun x c e v ⟨o, ho, hd⟩ => by
    have nch : c ∉ ch := fun z => (hch c z).2.2.1 x c e rfl
    by_cases hc : c ∈ X.fs
    · obtain ⟨sl, q⟩ := slot c o (I.cne x c e) hc nch ho (I.freeC x c e)
      exact ⟨_, q, hd⟩
    · exact ⟨o, keep c o (I.cne x c e) hc nch ho (I.freeC x c e), hd⟩
  refine ⟨I.ok, I.os, hg, ⟨fun b o e n hb hx => ?_, fun b o e n hb hx => ?_, fun b o e n hx => ?_, fun b o e hx => ?_, fun b xs e => tups b xs (I.base.tups b xs e), fun b o xs e => frzs b o xs (I.base.frzs b o xs e), fun b ps e => ?_⟩, ?_, fun x c e => ?_, ?_, fun x c e => ?_, fun p hp => ?_, hok, I.len⟩
  · exact keep b o (neL b o e) hb (neC b o e hx) (I.base.keep b o e n hb hx) (I.base.free b o e n hx)
  · obtain ⟨sl, e1⟩ := I.base.slot b o e n hb hx
    obtain ⟨sl', e2⟩ := slot b _ (neL b o e) hb (neC b o e hx) e1 (I.base.free b o e n hx)
    exact ⟨sl', e2⟩
  · obtain ⟨o', e1⟩ := I.base.there b o e hx
    exact free b o' (neC b o e hx) e1 (I.base.free b o e n hx)
  · obtain ⟨o', e1⟩ := I.base.there b o e hx
    exact there b o' (neC b o e hx) e1
  · obtain ⟨m1, e1⟩ := I.base.tbls b ps e
    obtain ⟨m2, e2⟩ := tbls b _ e1
    exact ⟨m1 ++ m2, by rw [e2, Array.append_assoc]⟩
  · obtain ⟨m, hn, hl⟩ := I.loc
    refine ⟨m, ns m hn, fun i x v e1 e2 e3 => ?_⟩
    obtain ⟨u, r, l⟩ := hl i x v e1 e2 e3
    refine ⟨u, r, ?_⟩
    rcases l with l | ⟨k, c, e, z⟩
    · exact .inl l
    · exact .inr ⟨k, c, e, cellK x c e _ z⟩
  · obtain ⟨v, z⟩ := I.cell x c e
    exact ⟨v, cellK x c e v z⟩
  · obtain ⟨m, ⟨o, _, _, ho, _⟩, _⟩ := I.loc
    exact free _ o (fun z => (hch _ z).2.1 rfl) ho I.free
  · obtain ⟨v, o, ho, hd⟩ := I.cell x c e
    exact free c o (fun z => (hch c z).2.2.1 x c e rfl) ho (I.freeC x c e)
  · obtain ⟨e, n, ne, nf, d⟩ := I.pin p hp
    have nch : p.1 ∉ ch := fun z => (hch p.1 z).2.2.2 p hp rfl
    exact ⟨keep p.1 p.2 ne nf nch e n, free p.1 p.2 nch e n, ne, nf, d⟩
/-- .. where the frame's own object is kept too -/
theorem Inv.un {t' : Nat} (I : Inv X pins σ H s) (u : Un X.fs [] H H' s.heap h') (hok : HOk X.prog X.w H' h') : Inv X pins σ H' { s with heap := h', toks := t' } := by
  obtain ⟨m, ⟨o, es, ep, ho, r⟩, _⟩ := id I.loc
  obtain ⟨sl, hL⟩ := u.any ho I.free (by simp)
  exact I.step (g' := s.gens) (d' := s.drawn) (ch := []) (fun _ z => nomatch z) (fun b o _ hb _ e n => u.keep b o e n hb (by simp)) (fun b o _ hb _ e n => u.slot b o e n hb (by simp)) (fun b o _ e n => u.free b o e n (by simp)) (fun b o _ e => u.there b o e (by simp)) u.tups u.frzs u.tbls (fun m' hm => by
    obtain ⟨o', es', ep', ho', r'⟩ := hm
    rw [ho] at ho'; cases ho'
    exact ⟨_, es', ep', hL, r'⟩) hok I.bare
/-- behind a call (or a comprehension's block): the slots of this frame may have changed too, the records at ch may have turned -/
theorem Inv.call {g' : Array GenState} {t' : Nat} {d' : Drawn} {ch : List Addr} (I : Inv X pins σ H s) (u : Un (frs X.stack) ch H H' s.heap h') (hok : HOk X.prog X.w H' h') (hg : AllBare g')
    (hch : ∀ b ∈ ch, (b ∈ X.ex ∨ X.s₀.heap.objs.size ≤ b) ∧ b ≠ X.env.locals ∧ (∀ x c, X.env.cells.lookup x = some c → c ≠ b) ∧ ∀ p ∈ X.pn ++ pins, p.1 ≠ b) :
    Inv X pins σ H' { s with heap := h', gens := g', drawn := d', toks := t' } := by
  obtain ⟨m, ⟨o, es, ep, ho, r⟩, _⟩ := id I.loc
  obtain ⟨sl, hL⟩ := u.any ho I.free fun z => (hch _ z).2.1 rfl
  exact I.step (ch := ch) hch (fun b o hL hb hc e n => u.keep b o e n (fun z => (List.mem_cons.mp (I.stkSub b z)).elim hL hb) hc) (fun b o _ _ hc e n => u.any e n hc) (fun b o hc e n => u.free b o e n hc) (fun b o hc e => u.there b o e hc) u.tups u.frzs u.tbls (fun m' hm => by
    obtain ⟨o', es', ep', ho', r'⟩ := hm
    rw [ho] at ho'; cases ho'
    exact ⟨_, es', ep', hL, r'⟩) hok hg
/-- an untracked record of ours (an iterator) has turned -/
theorem Inv.turned {t' : Nat} {it : Addr} (I : Inv X pins σ H s) (k : ∀ b o, b ≠ it → s.heap.get? b = some o → h'.get? b = some o) (hn : H it = none) (hL : it ≠ X.env.locals)
    (h1 : it ∈ X.ex ∨ X.s₀.heap.objs.size ≤ it) (h2 : ∀ x c, X.env.cells.lookup x = some c → c ≠ it) (h3 : ∀ p ∈ X.pn ++ pins, p.1 ≠ it) : Inv X pins σ H { s with heap := h', toks := t' } := by
  have nit : ∀ b u, H b = some u → b ≠ it := fun b u e z => by rw [z, hn] at e; cases e
  refine I.step (g' := s.gens) (d' := s.drawn) (ch := [it]) (fun b hb => ?_) (fun b o _ _ hc e _ => k b o (fun z => hc (by simp [z])) e) (fun b o _ _ hc e _ => ⟨o.slots, k b o (fun z => hc (by simp [z])) e⟩) (fun _ _ _ _ n => n)
    (fun b o hc e => ⟨o, k b o (fun z => hc (by simp [z])) e⟩) (fun _ _ e => e) (fun _ _ _ e => e) (fun b ps e => ⟨#[], by rw [e]; simp⟩) (fun m hm => ?_) (fun b u e => ?_) I.bare
  · have e : b = it := by simpa using hb
    subst e
    exact ⟨h1, hL, h2, h3⟩
  · obtain ⟨o, es, ep, ho, r⟩ := hm
    exact ⟨o, es, ep, k _ o (Ne.symm hL) ho, r⟩
  · refine (I.hok b u e).stay (fun c v hc q => k c v ?_ q) (fun _ q => q) fun _ _ q => q
    rcases hc with z | z
    · rw [z]; exact nit b u e
    · exact nit c _ z
theorem Inv.tok (I : Inv X pins σ H s) (t : Nat) : Inv X pins σ H { s with toks := t } := I.un (h' := s.heap) (t' := t) Un.refl I.hok
/-- all objects kept -/
theorem Inv.kept {t' : Nat} (I : Inv X pins σ H s) (k : ∀ b u, s.heap.get? b = some u → h'.get? b = some u) : Inv X pins σ H { s with heap := h', toks := t' } := I.un (Un.kept k) (I.hok.kept k)
/-- a new object laid and tracked -/
theorem Inv.laid {a : Addr} {o : HO} {t' : Nat} (I : Inv X pins σ H s) (k : ∀ b u, s.heap.get? b = some u → h'.get? b = some u) (hp : s.heap.objs.size ≤ a) (new : ObjOk X.prog X.w (upd H a o) h' a o) :
    Inv X pins σ (upd H a o) { s with heap := h', toks := t' } := I.un (Un.laid k hp (I.hok.fresh hp)) (I.hok.laid k hp new)
/-- an object written -/
theorem Inv.write {x e : Addr} {o : HO} {t' : Nat} (I : Inv X pins σ H s) (mu : Mut (H x)) (he : e = x ∨ H e = some (.own x)) (k : ∀ b u, b ≠ e → s.heap.get? b = some u → h'.get? b = some u) (heo : ∃ u, h'.get? e = some u)
    (new : ObjOk X.prog X.w (upd H x o) h' x o) : Inv X pins σ (upd H x o) { s with heap := h', toks := t' } := I.un (Un.write mu he k heo) (I.hok.write mu he k heo new)
theorem Inv.pins_of {pins' : List (Addr × Obj)} (I : Inv X pins σ H s) (h : ∀ p ∈ pins', s.heap.get? p.1 = some p.2 ∧ H p.1 = none ∧ p.1 ≠ X.env.locals ∧ p.1 ∉ X.fs ∧ ∀ v, p.2.data ≠ .cell v) : Inv X pins' σ H s :=
  ⟨I.ok, I.os, I.bare, I.base, I.loc, I.cell, I.free, I.freeC, fun p hp => (List.mem_append.mp hp).elim (fun z => I.pin p (List.mem_append_left _ z)) (h p), I.hok, I.len⟩

theorem nodup_ix {N : List Str} (hN : N.Nodup) {i j : Nat} {x : Str} (a : N[i]? = some x) (b : N[j]? = some x) : i = j := by
  obtain ⟨h1, e1⟩ := List.getElem?_eq_some_iff.mp a
  obtain ⟨h2, e2⟩ := List.getElem?_eq_some_iff.mp b
  exact (List.getElem_inj hN).mp (e1.trans e2.symm)

/-- a name is stored; what changed -/
theorem store_ok2 {M : Model} {A : Around} {E : Value → Shared → Prop} {i : Nat} {x : Str} {v : V} {u : Value} {Q : Unit → Shared → Prop} (I : Inv X pins σ H s) (hN : X.N.Nodup) (hi : X.N[i]? = some x) (hx : Loc X.env.scope x) (r : RelV v u)
    (h : ∀ s', Inv X pins (σ.set i (some v)) H s' → (∃ a, Heap.SameBut a s.heap s'.heap ∧ (a = X.env.locals ∨ X.env.cells.lookup x = some a)) → Q () s') (hf : X.fn x = true ∨ X.env.scope.names.lookup x = some .local := by first | exact .inl rfl | exact .inr rfl | assumption) : wpAny M A (storeName X.env x u) Q E s := by
  obtain ⟨m, hn, hl⟩ := id I.loc
  have hcls : (X.env.scope.kind == .class || (X.env.scope.kind == .module && X.env.locals != X.env.globals)) = false := by rw [I.ok.kind]; rfl
  have hiσ : i < σ.length := by rw [I.len]; exact (List.getElem?_eq_some_iff.mp hi).1
  have cne := I.cne
  have tracked : ∀ {a : Addr} {h' : Heap}, (∃ o, s.heap.get? a = some o ∧ H a = none) → Heap.SameBut a s.heap h' → HOk X.prog X.w H h' := fun {a h'} ha hs b ob e => by
    obtain ⟨_, _, hfree⟩ := ha
    refine (I.hok b ob e).stay (fun c w' hc q => (hs.2 c ?_).trans q) (fun _ q => q) fun _ _ q => q
    rintro rfl
    rcases hc with rfl | hc
    · rw [hfree] at e; cases e
    · rw [hfree] at hc; cases hc
  rcases hx with hk | hk
  · refine wpAny_storeName_local hk hn (fun h' hn' hs => ?_) hcls
    obtain ⟨oL, _, _, hoL, _⟩ := id hn
    refine h _ ⟨I.ok, I.os, I.bare, ⟨fun b o e n hb hx => ?_, fun b o e n hb hx => ?_, I.base.free, fun b o e hx => ?_, I.base.tups, I.base.frzs, I.base.tbls⟩, ⟨_, hn', fun j y v' e1 e2 e3 => ?_⟩, fun y c e => ?_, I.free, I.freeC, fun p hp => ?_, tracked ⟨oL, hoL, I.free⟩ hs, by simpa using I.len⟩ ⟨_, hs, .inl rfl⟩
    · exact (hs.2 b (Nat.ne_of_lt (Nat.lt_of_lt_of_le (Heap.lt_size e) I.ok.above))).trans (I.base.keep b o e n hb hx)
    · obtain ⟨sl, e1⟩ := I.base.slot b o e n hb hx
      exact ⟨sl, (hs.2 b (Nat.ne_of_lt (Nat.lt_of_lt_of_le (Heap.lt_size e) I.ok.above))).trans e1⟩
    · obtain ⟨o', e1⟩ := I.base.there b o e hx
      exact ⟨o', (hs.2 b (Nat.ne_of_lt (Nat.lt_of_lt_of_le (Heap.lt_size e) I.ok.above))).trans e1⟩
    · by_cases hj : j = i
      · subst hj
        rw [hi] at e1; cases e1
        rw [List.getElem?_set_self hiσ] at e2
        cases e2
        exact ⟨u, r, .inl ⟨hk, by simp⟩⟩
      · rw [List.getElem?_set_ne (Ne.symm hj)] at e2
        obtain ⟨u', r', q⟩ := hl j y v' e1 e2 e3
        refine ⟨u', r', ?_⟩
        rcases q with ⟨k, e⟩ | ⟨k, c, e, z⟩
        · refine .inl ⟨k, ?_⟩
          have : y ≠ x := fun e => hj (nodup_ix hN e1 (e ▸ hi))
          simp [this, e]
        · exact .inr ⟨k, c, e, z.sameBut hs (cne y c e)⟩
    · obtain ⟨w', z⟩ := I.cell y c e
      exact ⟨w', z.sameBut hs (cne y c e)⟩
    · obtain ⟨e, n, ne, nf, d⟩ := I.pin p hp
      exact ⟨(hs.2 p.1 ne).trans e, n, ne, nf, d⟩
  · have hfn : X.fn x = true := by
      rcases hf with z | z
      · exact z
      · rw [z] at hk; cases hk
    obtain ⟨c, hc⟩ := I.ok.has x (.inl hk)
    obtain ⟨w', z⟩ := I.cell x c hc
    refine wpAny_storeName_cell I.ok.kind hk hc z (fun h' hc' hs => ?_)
    obtain ⟨oc, hoc, hocd⟩ := id z
    refine h { s with heap := h' } ⟨I.ok, I.os, I.bare, ⟨fun b o e n hb hx => ?_, fun b o e n hb hx => ?_, I.base.free, fun b o e hx => ?_, I.base.tups, I.base.frzs, I.base.tbls⟩, ⟨m, hn.sameBut hs (Ne.symm (cne x c hc)), fun j y v' e1 e2 e3 => ?_⟩, fun y c' e => ?_, I.free, I.freeC, fun p hp => ?_, tracked ⟨oc, hoc, I.freeC x c hc⟩ hs, by simpa using I.len⟩ ⟨c, hs, .inr hc⟩
    · exact (hs.2 b (Nat.ne_of_lt (Nat.lt_of_lt_of_le (Heap.lt_size e) (I.ok.cab x c hfn hc)))).trans (I.base.keep b o e n hb hx)
    · obtain ⟨sl, e1⟩ := I.base.slot b o e n hb hx
      exact ⟨sl, (hs.2 b (Nat.ne_of_lt (Nat.lt_of_lt_of_le (Heap.lt_size e) (I.ok.cab x c hfn hc)))).trans e1⟩
    · obtain ⟨o', e1⟩ := I.base.there b o e hx
      exact ⟨o', (hs.2 b (Nat.ne_of_lt (Nat.lt_of_lt_of_le (Heap.lt_size e) (I.ok.cab x c hfn hc)))).trans e1⟩
    · by_cases hj : j = i
      · subst hj
        rw [hi] at e1; cases e1
        rw [List.getElem?_set_self hiσ] at e2
        cases e2
        exact ⟨u, r, .inr ⟨.inl hk, c, hc, hc'⟩⟩
      · rw [List.getElem?_set_ne (Ne.symm hj)] at e2
        obtain ⟨u', r', q⟩ := hl j y v' e1 e2 e3
        refine ⟨u', r', ?_⟩
        rcases q with q | ⟨k, c', e, z'⟩
        · exact .inl q
        · refine .inr ⟨k, c', e, z'.sameBut hs ?_⟩
          rintro rfl
          exact hj (nodup_ix hN e1 (I.ok.inj _ _ _ e hc ▸ hi))
    · by_cases hcc : c' = c
      · subst hcc; exact ⟨_, hc'⟩
      · obtain ⟨w2, z2⟩ := I.cell y c' e
        exact ⟨w2, z2.sameBut hs hcc⟩
    · obtain ⟨e, n, ne, nf, d⟩ := I.pin p hp
      refine ⟨(hs.2 p.1 ?_).trans e, n, ne, nf, d⟩
      intro q
      rw [q, hoc] at e
      have q' : oc = p.2 := Option.some.inj e
      exact d w' (by rw [← q']; exact hocd)
theorem store_ok {M : Model} {A : Around} {E : Value → Shared → Prop} {i : Nat} {x : Str} {v : V} {u : Value} {Q : Unit → Shared → Prop} (I : Inv X pins σ H s) (hN : X.N.Nodup) (hi : X.N[i]? = some x) (hx : Loc X.env.scope x) (r : RelV v u)
    (h : ∀ s', Inv X pins (σ.set i (some v)) H s' → Q () s') (hf : X.fn x = true ∨ X.env.scope.names.lookup x = some .local := by first | exact .inl rfl | exact .inr rfl | assumption) : wpAny M A (storeName X.env x u) Q E s :=
  store_ok2 I hN hi hx r (fun s' I' _ => h s' I') hf
/-- behind a call or a block, the state as it is -/
theorem Inv.call' {s' : Shared} {ch : List Addr} (I : Inv X pins σ H s) (ho : s'.os = s.os) (u : Un (frs X.stack) ch H H' s.heap s'.heap) (hok : HOk X.prog X.w H' s'.heap) (hg : AllBare s'.gens)
    (hch : ∀ b ∈ ch, (b ∈ X.ex ∨ X.s₀.heap.objs.size ≤ b) ∧ b ≠ X.env.locals ∧ (∀ x c, X.env.cells.lookup x = some c → c ≠ b) ∧ ∀ p ∈ X.pn ++ pins, p.1 ≠ b) : Inv X pins σ H' s' := by
  obtain ⟨h', g', d', t', o'⟩ := s'
  have e : o' = s.os := ho
  subst e
  exact I.call (g' := g') (t' := t') (d' := d') u hok hg hch
end

/-! ### the judgements -/
/-- an exception: its class, its own dict's address (where it has one), the abstract heap behind it -/
abbrev XK := Value → Option Addr → Hp → Prop
abbrev St := List (Option V)
abbrev VK := V → Hp → Prop
/-- an expression's reading; a test's; an argument list's -/
abbrev TE := St → Hp → VK → Prop
abbrev TT := St → Hp → (Bool → Hp → Prop) → Prop
abbrev TA := St → Hp → (List V → Hp → Prop) → Prop
/-- what is wanted behind a statement -/
structure Ends where
  nx : St → Hp → Prop
  rt : VK
  bk : St → Hp → Prop := fun _ _ => False
  ct : St → Hp → Prop := fun _ _ => False
abbrev TS := Ends → St → Hp → Prop

def EP (X : Cx) (pins : List (Addr × Obj)) (σ : St) (Q : VK) (u : Value) (s' : Shared) : Prop := ∃ v H', Inv X pins σ H' s' ∧ RelV v u ∧ Q v H'
def TP (X : Cx) (pins : List (Addr × Obj)) (σ : St) (Q : Bool → Hp → Prop) (b : Bool) (s' : Shared) : Prop := ∃ H', Inv X pins σ H' s' ∧ Q b H'
def AP (X : Cx) (pins : List (Addr × Obj)) (σ : St) (Q : List V → Hp → Prop) (us : List Value) (s' : Shared) : Prop := ∃ vs H', Inv X pins σ H' s' ∧ Vals vs us ∧ Q vs H'
def SP (X : Cx) (pins : List (Addr × Obj)) (D : Ends) (f : Flow) (s' : Shared) : Prop :=
  match f with
  | .next => ∃ σ' H', Inv X pins σ' H' s' ∧ D.nx σ' H'
  | .brk => ∃ σ' H', Inv X pins σ' H' s' ∧ D.bk σ' H'
  | .cont => ∃ σ' H', Inv X pins σ' H' s' ∧ D.ct σ' H'
  | .ret u => ∃ v σ' H', Inv X pins σ' H' s' ∧ RelV v u ∧ D.rt v H'

def PE (X : Cx) (e : Expr) (t : TE) : Prop :=
  ∀ (pins : List (Addr × Obj)) (s : Shared) (σ : St) (H : Hp) (Q : VK), Inv X pins σ H s → t σ H Q → wpAny (model X.prog X.w) X.A (eval e X.env) (EP X pins σ Q) X.xe s
def PT (X : Cx) (e : Expr) (t : TT) : Prop :=
  ∀ (pins : List (Addr × Obj)) (s : Shared) (σ : St) (H : Hp) (Q : Bool → Hp → Prop), Inv X pins σ H s → t σ H Q → wpAny (model X.prog X.w) X.A (isTrue e X.env (eval e X.env)) (TP X pins σ Q) X.xe s
/-- a test whatever its 'whole' is (and, or) -/
def PW (X : Cx) (e : Expr) (t : TT) : Prop :=
  ∀ (whole : Sem Value) (pins : List (Addr × Obj)) (s : Shared) (σ : St) (H : Hp) (Q : Bool → Hp → Prop), Inv X pins σ H s → t σ H Q → wpAny (model X.prog X.w) X.A (isTrue e X.env whole) (TP X pins σ Q) X.xe s
theorem PW.pt {X : Cx} {e : Expr} {t : TT} (h : PW X e t) : PT X e t := h _
/-- an argument list (no star), from the left -/
def PA (X : Cx) (es : List Expr) (t : TA) : Prop :=
  ∀ (pos : Pos) (pins : List (Addr × Obj)) (s : Shared) (σ : St) (H : Hp) (Q : List V → Hp → Prop), Inv X pins σ H s → t σ H Q → wpAny (model X.prog X.w) X.A (spliced (backTo pos (starEach es X.env))) (AP X pins σ Q) X.xe s
def PS (X : Cx) (st : Stmt) (t : TS) : Prop :=
  ∀ (pins : List (Addr × Obj)) (s : Shared) (σ : St) (H : Hp) (D : Ends), Inv X pins σ H s → t D σ H → wpAny (model X.prog X.w) X.A (exec st X.env) (SP X pins D) X.xe s
def PSs (X : Cx) (st : List Stmt) (t : TS) : Prop :=
  ∀ (pins : List (Addr × Obj)) (s : Shared) (σ : St) (H : Hp) (D : Ends), Inv X pins σ H s → t D σ H → wpAny (model X.prog X.w) X.A (execs st X.env) (SP X pins D) X.xe s
/-- weaken the end -/
theorem thn {α : Type} {t : Sem α} {Q Q' : α → Shared → Prop} {M : Model} {A : Around} {E : Value → Shared → Prop} {s : Shared} (h : wpAny M A t Q E s) (hQ : ∀ a s, Q a s → Q' a s) : wpAny M A t Q' E s := wpAny_mono h hQ fun _ _ x => x
end L2

namespace L2
open PySem PySem.Spec PyProof.Rows
section
variable {X : Cx}

/-! ### names and constants -/
def tVar (i : Nat) : TE := fun σ H Q => ∃ v, σ[i]? = some (some v) ∧ Q v H
def tC (v : V) : TE := fun _ H Q => Q v H
theorem pe_var {i : Nat} {x : Str} {pos : Pos} (hN : X.N[i]? = some x) (hv : Vis X.env.scope x) (hd : (x == ("__debug__" : Str)) = false := by decide) (hcd : (x == ("__classdict__" : Str)) = false := by decide) : PE X (.Name x pos) (tVar i) := by
  intro pins s σ H Q I h
  obtain ⟨v, e, h⟩ := h
  obtain ⟨m, hn, hl⟩ := I.loc
  obtain ⟨u, r, l⟩ := hl i x v hN e hv
  have fin : EP X pins σ Q u s := ⟨v, H, I, r, h⟩
  rcases l with ⟨hk, hm⟩ | ⟨hk, c, hc, hcell⟩
  · exact wpAny_Name (wpAny_loadName_local I.ok.kind hk hn hm fin) hd
  · rcases hk with hk | hk
    · exact wpAny_Name (wpAny_loadName_cell I.ok.kind hk hc hcell fin) hd
    · exact wpAny_Name (wpAny_loadName_free I.ok.kind hk hc hcell fin hcd) hd
theorem pe_int {i j pos} : PE X (.Constant (.int i) j pos) (tC (.int i)) := fun _ _ _ H _ I h => wpAny_Constant_int ⟨.int i, H, I.tok _, ⟨_, rfl⟩, h⟩
theorem pe_bl {b j pos} : PE X (.Constant (.bool b) j pos) (tC (.bl b)) := fun _ _ _ H _ I h => Constant_bool ⟨.bl b, H, I, rfl, h⟩
theorem pe_str {x j pos} : PE X (.Constant (.str x) j pos) (tC (.str x)) := fun _ _ _ H _ I h => Calls.Constant_str ⟨.str x, H, I.tok _, ⟨_, rfl⟩, h⟩

/-- a global name of the def -/
def Gl (X : Cx) (x : Str) : Prop := X.env.kindOf x = some .globalImplicit
theorem ld_glob {E : Value → Shared → Prop} {pins : List (Addr × Obj)} {s : Shared} {σ : St} {H : Hp} {x : Str} {u : Value} {pos : Pos} {Q : Value → Shared → Prop} (I : Inv X pins σ H s) (hg : Gl X x) (hm : X.mg x = some u) (h : Q u s)
    (hd : (x == ("__debug__" : Str)) = false := by decide) : wpAny (model X.prog X.w) X.A (eval (.Name x pos) X.env) Q E s :=
  Calls.Name_function_global I.ok.kind hg (Calls.loadGlobal_global (by rw [I.ok.glob]; exact I.mod.glob.keeps I.bk) hm h) hd
theorem ld_blt {E : Value → Shared → Prop} {pins : List (Addr × Obj)} {s : Shared} {σ : St} {H : Hp} {x : Str} {u : Value} {pos : Pos} {Q : Value → Shared → Prop} (I : Inv X pins σ H s) (hg : Gl X x) (hm : X.mg x = none) (hv : bootBuiltins x = some u) (h : Q u s)
    (hn : x ≠ "__name__" := by decide) (hd : (x == ("__debug__" : Str)) = false := by decide) : wpAny (model X.prog X.w) X.A (eval (.Name x pos) X.env) Q E s := by
  obtain ⟨mb, h1, h2⟩ := I.mod.blt
  exact Calls.Name_function_global I.ok.kind hg (Calls.loadGlobal_builtin (by rw [I.ok.glob]; exact I.mod.glob.keeps I.bk) hm (by rw [I.ok.blt]; exact h1.keeps I.bk) ((h2 x hn).trans hv) h) hd
/-- a module's constant, a class, a function, as a value -/
theorem pe_glob {x : Str} {v : V} {u : Value} {pos : Pos} (hg : Gl X x) (hm : X.mg x = some u) (r : RelV v u) (hd : (x == ("__debug__" : Str)) = false := by decide) : PE X (.Name x pos) (tC v) :=
  fun _ _ _ H _ I h => ld_glob I hg hm ⟨v, H, I, r, h⟩ hd
theorem pe_bltn {x : Str} {v : V} {u : Value} {pos : Pos} (hg : Gl X x) (hm : X.mg x = none) (hv : bootBuiltins x = some u) (r : RelV v u) (hn : x ≠ "__name__" := by decide) (hd : (x == ("__debug__" : Str)) = false := by decide) : PE X (.Name x pos) (tC v) :=
  fun _ _ _ H _ I h => ld_blt I hg hm hv ⟨v, H, I, r, h⟩ hn hd

/-! ### arithmetic -/
variable {a b : Expr} {ta tb : TE} {pos : Pos}
/-! ### comparisons -/
/-- a comparison as a value, as a test -/
def tB (t : TE) : TT := fun σ H Q => t σ H fun x H1 => ∃ c, x = .bl c ∧ Q c H1
/-- an expression whose value is a bool, as a test -/
theorem pt_val {e : Expr} {t : TE} (h : PE X e t) (he : ∀ whole, isTrue e X.env whole = (do let v ← whole; standAt e.pos; holding [v] (truthy v)) := by intro _; rfl) : PT X e (tB t) := by
  intro pins s σ H Q I hw
  refine isTrue_plain (thn (h pins s σ H _ I hw) fun v s1 ⟨x, H1, I1, r1, q1⟩ => ?_) (he _)
  obtain ⟨d, rfl, q⟩ := q1
  cases r1
  exact wpAny_truthy_bool ⟨H1, I1, q⟩

/-! ### and, or, not -/
variable {tA tB' : TT} {rest : List Expr}
def tOr (t u : TT) : TT := fun σ H Q => t σ H fun c H1 => if c = true then Q true H1 else u σ H1 Q
def tNot (t : TT) : TT := fun σ H Q => t σ H fun c H1 => Q (!c) H1
theorem pw_or1 (ha : PT X a tA) : PW X (.BoolOp .Or [a] pos) tA := by
  intro wh pins s σ H Q I h
  refine isTrue_or (thn (ha pins s σ H Q I h) fun c s1 e => ?_)
  cases c with
  | false => exact isTrue_or_nil e
  | true => exact e
theorem pw_or (ha : PT X a tA) (hb : PW X (.BoolOp .Or (b :: rest) pos) tB') : PW X (.BoolOp .Or (a :: b :: rest) pos) (tOr tA tB') := by
  intro wh pins s σ H Q I h
  refine isTrue_or (thn (ha pins s σ H _ I h) fun c s1 ⟨H1, I1, q1⟩ => ?_)
  cases c with
  | true => exact ⟨H1, I1, q1⟩
  | false => exact hb wh pins s1 σ H1 Q I1 q1
theorem pt_not (ha : PT X a tA) : PT X (.UnaryOp .Not a pos) (tNot tA) := by
  intro pins s σ H Q I h
  exact isTrue_not (ha pins s σ H (fun c H1 => Q (!c) H1) I h)
def tOrV (ta tb : TE) : TE := fun σ H Q => ta σ H fun x H1 => ∃ c, x = .bl c ∧ if c = true then Q (.bl true) H1 else tb σ H1 Q
theorem pe_one {op} {t : TE} (h : PE X a t) : PE X (.BoolOp op [a] pos) t := fun pins s σ H Q I hw => BoolOp_one (h pins s σ H Q I hw)
theorem pe_or (ha : PE X a ta) (hb : PE X (.BoolOp .Or (b :: rest) pos) tb) : PE X (.BoolOp .Or (a :: b :: rest) pos) (tOrV ta tb) := by
  intro pins s σ H Q I h
  refine BoolOp_or (thn (ha pins s σ H _ I h) fun v s1 ⟨x, H1, I1, r1, q1⟩ => ?_)
  obtain ⟨c, rfl, q1⟩ := q1
  cases r1
  refine wpAny_truthy_bool ?_
  cases c with
  | false => exact hb pins s1 σ H1 Q I1 q1
  | true => exact ⟨.bl true, H1, I1, rfl, q1⟩
/-- a if t else b -/
def tIf (t : TT) (ta tb : TE) : TE := fun σ H Q => t σ H fun c H1 => if c = true then ta σ H1 Q else tb σ H1 Q
theorem pe_ifExp {c : Expr} (hc : PT X c tA) (ha : PE X a ta) (hb : PE X b tb) : PE X (.IfExp c a b pos) (tIf tA ta tb) := by
  intro pins s σ H Q I h
  refine wpAny_IfExp (thn (hc pins s σ H _ I h) fun d s1 ⟨H1, I1, q1⟩ => ?_)
  cases d with
  | true => exact ha pins s1 σ H1 Q I1 q1
  | false => exact hb pins s1 σ H1 Q I1 q1
end
end L2

namespace L2
open PySem PySem.Spec PyProof.Rows

/-! ### a list, a tuple that is read: tracked, frozen, or an object of the module -/
def SqL (K : PySem.W.Frag) (H : Hp) (a : Addr) (xs : List V) : Prop :=
  Rd H a (.lst xs) ∨
    ∃ (o : Obj) (its : Array Value) (n : Nat), K.lookup a = some o ∧ o.cls = .type "list" ∧ o.dict = none ∧ o.data = .seq its n ∧ its.size ≤ sizeLine ∧ Vals xs its.toList
def SqT (K : PySem.W.Frag) (H : Hp) (a : Addr) (xs : List V) : Prop :=
  Rd H a (.tup xs) ∨
    ∃ (o : Obj) (its : Array Value) (n : Nat), K.lookup a = some o ∧ o.cls = .type "tuple" ∧ o.data = .seq its n ∧ its.size ≤ sizeLine ∧ Vals xs its.toList
def absV : Value → Option V
  | .none => some .non
  | .bool b => some (.bl b)
  | .int i _ => some (.int i)
  | .str x _ => some (.str x)
  | .bytes b _ => some (.byt b)
  | .float b _ => some (.flt b)
  | .ref a => some (.ref a)
  | .type n => some (.ty n)
  | _ => none
theorem RelV.abs {x : V} {u : Value} (r : RelV x u) : absV u = some x := by
  cases x with
  | non => cases r; rfl
  | bl _ => cases r; rfl
  | int _ => obtain ⟨t, rfl⟩ := r; rfl
  | str _ => obtain ⟨t, rfl⟩ := r; rfl
  | byt _ => obtain ⟨t, rfl⟩ := r; rfl
  | flt _ => obtain ⟨t, rfl⟩ := r; rfl
  | ref _ => cases r; rfl
  | ty _ => cases r; rfl
theorem RelV.inj {x y : V} {u : Value} (r : RelV x u) (q : RelV y u) : x = y := Option.some.inj (r.abs.symm.trans q.abs)
theorem Vals.inj : ∀ {xs ys : List V} {us : List Value}, Vals xs us → Vals ys us → xs = ys
  | _, _, _, .nil, .nil => rfl
  | _, _, _, .cons r t, .cons r' t' => by rw [r.inj r', Vals.inj t t']
section
variable {X : Cx} {pins : List (Addr × Obj)} {σ : St} {H : Hp} {s : Shared} {a : Addr} {xs ys : List V}
theorem SqL.of {K : PySem.W.Frag} (h : H a = some (.lst xs)) : SqL K H a xs := .inl (.inl h)
theorem Inv.list (I : Inv X pins σ H s) (h : SqL X.K H a xs) : ∃ its : List Value, Vals xs its ∧ PlainL s.heap a its.toArray ∧ xs.length ≤ sizeLine := by
  rcases h with h | ⟨o, its, n, hk, hc, hd, hs, hz, r⟩
  · obtain ⟨z, its, n, r, e⟩ := h.ok I.hok
    exact ⟨its, r, ⟨_, n, e, rfl, rfl, rfl⟩, z⟩
  · refine ⟨its.toList, r, ⟨o, n, I.kIn a o hk, hc, hd, by simpa using hs⟩, ?_⟩
    have e := r.length
    simp only [Array.length_toList] at e
    omega
theorem Inv.tuple (I : Inv X pins σ H s) (h : SqT X.K H a xs) : ∃ its : List Value, Vals xs its ∧ IsTup s.heap a its.toArray ∧ xs.length ≤ sizeLine := by
  rcases h with h | ⟨o, its, n, hk, hc, hs, hz, r⟩
  · obtain ⟨z, its, r, p⟩ := h.ok I.hok
    exact ⟨its, r, p, z⟩
  · refine ⟨its.toList, r, ⟨o, I.kIn a o hk, hc, n, by simpa using hs⟩, ?_⟩
    have e := r.length
    simp only [Array.length_toList] at e
    omega
theorem Inv.list_inj (I : Inv X pins σ H s) (h : SqL X.K H a xs) (h' : SqL X.K H a ys) : xs = ys := by
  obtain ⟨its, r, ⟨o, n, e, _, _, d⟩, _⟩ := I.list h
  obtain ⟨its', r', ⟨o', n', e', _, _, d'⟩, _⟩ := I.list h'
  rw [e] at e'; cases e'
  rw [d] at d'
  injection d' with d1 _
  have : its = its' := by simpa using congrArg Array.toList d1
  subst this
  exact r.inj r'
end

/-! ### another wish about exceptions -/
abbrev Cx.wish (X : Cx) (E : Value → Shared → Prop) : Cx := { X with xe := E }
/-- no exception leaves -/
abbrev Cx.nox (X : Cx) : Cx := X.wish fun _ _ => False
theorem Cx.Ok.wish {X : Cx} (ok : X.Ok) (E : Value → Shared → Prop) : (X.wish E).Ok :=
  ⟨ok.mod, ok.kind, ok.glob, ok.blt, ok.above, ok.inj, ok.has, ok.cab, ok.hd, ok.frames, ok.stk, ok.exf, ok.bs, ok.bsz, ok.noex, ok.exfs, ok.funs, ok.frf⟩
theorem Cx.Ok.unwish {X : Cx} {E : Value → Shared → Prop} (ok : (X.wish E).Ok) : X.Ok :=
  ⟨ok.mod, ok.kind, ok.glob, ok.blt, ok.above, ok.inj, ok.has, ok.cab, ok.hd, ok.frames, ok.stk, ok.exf, ok.bs, ok.bsz, ok.noex, ok.exfs, ok.funs, ok.frf⟩
section
variable {X : Cx} {pins : List (Addr × Obj)} {σ : St} {H : Hp} {s : Shared} {E : Value → Shared → Prop}
theorem Inv.wish (I : Inv X pins σ H s) (E : Value → Shared → Prop) : Inv (X.wish E) pins σ H s := ⟨I.ok.wish E, I.os, I.bare, I.base, I.loc, I.cell, I.free, I.freeC, I.pin, I.hok, I.len⟩
theorem Inv.unwish (I : Inv (X.wish E) pins σ H s) : Inv X pins σ H s := ⟨I.ok.unwish, I.os, I.bare, I.base, I.loc, I.cell, I.free, I.freeC, I.pin, I.hok, I.len⟩
theorem SP.unwish {D : Ends} {f : Flow} {s' : Shared} (h : SP (X.wish E) pins D f s') : SP X pins D f s' := by
  cases f with
  | next => obtain ⟨σ', H', I, q⟩ := h; exact ⟨σ', H', I.unwish, q⟩
  | brk => obtain ⟨σ', H', I, q⟩ := h; exact ⟨σ', H', I.unwish, q⟩
  | cont => obtain ⟨σ', H', I, q⟩ := h; exact ⟨σ', H', I.unwish, q⟩
  | ret u => obtain ⟨v, σ', H', I, r, q⟩ := h; exact ⟨v, σ', H', I.unwish, r, q⟩
theorem PSs.nox {st : List Stmt} {t : TS} (h : PSs X.nox st t) : PSs X st t := fun pins s σ H D I hw =>
  wpAny_mono (h pins s σ H D (I.wish _) hw) (fun _ _ q => q.unwish) fun _ _ z => False.elim z
end

/-! ### blocks and small statements -/
section
variable {X : Cx} {st : Stmt} {rest : List Stmt} {t u : TS} {e : Expr} {te : TE} {pos : Pos}
def tNext : TS := fun D σ H => D.nx σ H
def tSeq (t u : TS) : TS := fun D σ H => t { D with nx := u D } σ H
theorem pss_nil : PSs X [] tNext := fun _ _ σ H _ I h => wpAny_execs_nil ⟨σ, H, I, h⟩
theorem pss_cons (h1 : PS X st t) (h2 : PSs X rest u) : PSs X (st :: rest) (tSeq t u) := by
  intro pins s σ H D I h
  refine wpAny_execs_cons (thn (h1 pins s σ H { D with nx := u D } I h) fun f s1 q => ?_)
  cases f with
  | next =>
    obtain ⟨σ', H', I', q⟩ := q
    exact h2 pins s1 σ' H' D I' q
  | ret v => exact q
  | brk => exact q
  | cont => exact q
theorem pss_one (h1 : PS X st t) : PSs X [st] t := by
  intro pins s σ H D I h
  refine wpAny_execs_cons (thn (h1 pins s σ H D I h) fun f s1 q => ?_)
  cases f with
  | next => exact wpAny_execs_nil q
  | ret v => exact q
  | brk => exact q
  | cont => exact q
/-- in a def's body nothing is shown -/
theorem Inv.quiet {pins : List (Addr × Obj)} {σ : St} {H : Hp} {s : Shared} (I : Inv X pins σ H s) : interactive X.env = false := by simp [interactive, I.ok.kind]
/-- an expression whose value is dropped -/
def tDrop (te : TE) : TS := fun D σ H => te σ H fun _ H1 => D.nx σ H1
theorem ps_expr (he : PE X e te) (hs : swapsWith e none pos.line X.env = pure false := by rfl) : PS X (.Expr e pos) (tDrop te) := by
  intro pins s σ H D I h
  exact wpAny_Expr_any (thn (he pins s σ H _ I h) fun v s1 ⟨x, H1, I1, r1, q1⟩ => ⟨σ, H1, I1, q1⟩) I.quiet hs
def tRet (te : TE) : TS := fun D σ H => te σ H D.rt
theorem ps_ret (he : PE X e te) : PS X (.Return (some e) pos) (tRet te) := by
  intro pins s σ H D I h
  exact wpAny_Return_some (thn (he pins s σ H _ I h) fun v s1 ⟨x, H1, I1, r1, q1⟩ => ⟨x, σ, H1, I1, r1, q1⟩)
def tIfS (c : TT) (t u : TS) : TS := fun D σ H => c σ H fun b H1 => if b = true then t D σ H1 else u D σ H1
theorem ps_if {c : Expr} {a b : List Stmt} {tc : TT} (hc : PT X c tc) (ha : PSs X a t) (hb : PSs X b u) : PS X (.If c a b pos) (tIfS tc t u) := by
  intro pins s σ H D I h
  refine wpAny_If (thn (hc pins s σ H _ I h) fun d s1 ⟨H1, I1, q1⟩ => ?_)
  cases d with
  | true => exact ha pins s1 σ H1 D I1 q1
  | false => exact hb pins s1 σ H1 D I1 q1
/-- code that the proof never comes to -/
def tNever : TS := fun _ _ _ => False
theorem ps_never : PS X st tNever := fun _ _ _ _ _ _ h => h.elim
theorem pss_never {sts : List Stmt} : PSs X sts tNever := fun _ _ _ _ _ _ h => h.elim
end

/-! ### targets -/
abbrev TG := V → St → Hp → (St → Hp → Prop) → Prop
def PG (X : Cx) (target : Expr) (t : TG) : Prop :=
  ∀ (pins : List (Addr × Obj)) (s : Shared) (σ : St) (H : Hp) (v : V) (u : Value) (Q : St → Hp → Prop), Inv X pins σ H s → RelV v u → t v σ H Q →
    wpAny (model X.prog X.w) X.A (assign target X.env u) (fun _ s' => ∃ σ' H', Inv X pins σ' H' s' ∧ Q σ' H') X.xe s
section
variable {X : Cx} {pos : Pos}
def gName (i : Nat) : TG := fun v σ H Q => Q (σ.set i (some v)) H
theorem pg_name {i : Nat} {x : Str} (hN : X.N.Nodup) (hi : X.N[i]? = some x) (hx : Loc X.env.scope x) (hf : X.fn x = true ∨ X.env.scope.names.lookup x = some .local := by first | exact .inl rfl | exact .inr rfl | assumption) : PG X (.Name x pos) (gName i) := by
  intro pins s σ H v u Q I r h
  exact wpAny_assign_Name (store_ok I hN hi hx r (fun s' I' => ⟨_, H, I', h⟩) hf)
/-- target = value -/
def tAsg (te : TE) (g : TG) : TS := fun D σ H => te σ H fun x H1 => g x σ H1 D.nx
/-- name = value -/
theorem ps_set {i : Nat} {x : Str} {e : Expr} {te : TE} {pos' : Pos} (hN : X.N.Nodup) (hi : X.N[i]? = some x) (hx : Loc X.env.scope x) (he : PE X e te) (hs : swapsWith e (some (.Name x pos')) pos.line X.env = pure false := by rfl) (hf : X.fn x = true ∨ X.env.scope.names.lookup x = some .local := by first | exact .inl rfl | exact .inr rfl | assumption) :
    PS X (.Assign [.Name x pos'] e pos) (tAsg te (gName i)) := by
  intro pins s σ H D I h
  refine wpAny_Assign_Name (thn (he pins s σ H _ I h) fun v s1 ⟨y, H1, I1, r1, q1⟩ => ?_) hs
  exact store_ok I1 hN hi hx r1 (fun s2 I2 => ⟨_, H1, I2, q1⟩) hf
end

/-! ### while -/
section
variable {X : Cx} {pos : Pos}
end

/-! ### what a loop or a comprehension walks -/
/-- at turn i: it yields x (the heap may grow), or it stops -/
structure It where
  go : Nat → Hp → Prop
  yld : Nat → Hp → V → Hp → Prop
  stop : Nat → Hp → Prop
/-- the iterator's own objects may turn: they are not the frame's, not pinned, younger than the entry (or a comprehension's own) -/
def FpOk (X : Cx) (pins : List (Addr × Obj)) (H : Hp) (b : Addr) : Prop :=
  H b = none ∧ b ≠ X.env.locals ∧ b ∉ X.fs ∧ (b ∈ X.ex ∨ X.s₀.heap.objs.size ≤ b) ∧ (∀ x c, X.env.cells.lookup x = some c → c ≠ b) ∧ ∀ p ∈ X.pn ++ pins, p.1 ≠ b
theorem Inv.fpOk {X : Cx} {pins : List (Addr × Obj)} {σ : St} {H H' : Hp} {s : Shared} {b : Addr} (I : Inv X pins σ H s) (hb : s.heap.objs.size ≤ b) (hn : H' b = none) : FpOk X pins H' b := by
  refine ⟨hn, Nat.ne_of_gt (Nat.lt_of_lt_of_le I.lt hb), I.nofs hb, .inr (Nat.le_trans I.sz hb), fun x c e z => ?_, fun p hp z => ?_⟩
  · obtain ⟨v, q⟩ := I.cell x c e
    exact absurd (Nat.lt_of_lt_of_le q.lt (by rw [z]; exact hb)) (Nat.lt_irrefl _)
  · exact absurd (Nat.lt_of_lt_of_le (Heap.lt_size (I.pin p hp).1) (by rw [z]; exact hb)) (Nat.lt_irrefl _)
structure Turn (P : Program) (w : World) (K : PySem.W.Frag) (tg : Expr) (J : It) (fp : List Addr) (it : Addr) (tn : Nat → Heap → Prop) : Prop where
  mem : it ∈ fp
  obj : ∀ i h, tn i h → ∀ b ∈ fp, ∃ o, h.get? b = some o ∧ ∀ v, o.data ≠ .cell v
  keep : ∀ i h h', tn i h → (∀ b ∈ fp, ∀ o, h.get? b = some o → h'.get? b = some o) → tn i h'
  item : ∀ (X : Cx), X.prog = P → X.w = w → X.K = K → X.calm = true → ∀ (i : Nat) (pins : List (Addr × Obj)) (s : Shared) (σ : St) (H : Hp) (E : Value → Shared → Prop), Inv X pins σ H s → (∀ b ∈ fp, FpOk X pins H b) → tn i s.heap → J.go i H →
    wpAny (model P w) X.A (pyNext (.ref it)) (fun r s1 => ∃ u, r = some u ∧
      wpAny (model P w) X.A (letOwnedTupleGo tg (.ref it) u) (fun _ s2 => ∃ x H', Inv X pins σ H' s2 ∧ RelV x u ∧ J.yld i H x H' ∧ tn (i + 1) s2.heap ∧ ∀ b ∈ fp, H' b = none) E s1) E s
  done : ∀ (X : Cx), X.prog = P → X.w = w → X.K = K → X.calm = true → ∀ (i : Nat) (pins : List (Addr × Obj)) (s : Shared) (σ : St) (H : Hp) (E : Value → Shared → Prop), Inv X pins σ H s → (∀ b ∈ fp, FpOk X pins H b) → tn i s.heap → J.stop i H →
    wpAny (model P w) X.A (pyNext (.ref it)) (fun r s1 => r = none ∧ Inv X pins σ H s1) E s
  self : ∀ (A : Around) (i : Nat) (s : Shared) (Q : Value → Shared → Prop) (E : Value → Shared → Prop), tn i s.heap → Q (.ref it) s → wpAny (model P w) A (pyIter (.ref it)) Q E s
abbrev TI := St → Hp → (It → Hp → Prop) → Prop
/-- an iterator has come -/
def PIE (X : Cx) (pins : List (Addr × Obj)) (σ : St) (tg : Expr) (R : It → Hp → Prop) (itv : Value) (s2 : Shared) : Prop :=
  ∃ (it : Addr) (fp : List Addr) (tn : Nat → Heap → Prop) (J : It) (H' : Hp), itv = .ref it ∧ Inv X pins σ H' s2 ∧ Turn X.prog X.w X.K tg J fp it tn ∧ tn 0 s2.heap ∧ (∀ b ∈ fp, FpOk X pins H' b) ∧ R J H'
def PI (X : Cx) (tg iter : Expr) (wi : TI) : Prop :=
  ∀ (pins : List (Addr × Obj)) (s : Shared) (σ : St) (H : Hp) (R : It → Hp → Prop), Inv X pins σ H s → wi σ H R →
    wpAny (model X.prog X.w) X.A (eval iter X.env) (fun v s1 => wpAny (model X.prog X.w) X.A (pyIter v) (PIE X pins σ tg R) X.xe s1) X.xe s

/-- the step ahead of the store is nothing for an iterator that keeps no tuple -/
theorem go_of {M : Model} {A : Around} {E : Value → Shared → Prop} {s : Shared} {tg : Expr} {it : Addr} {u : Value} {o : Obj} {n : String} {vs : Array Value} {Q : Unit → Shared → Prop} (ho : s.heap.get? it = some o) (hc : o.cls = .type n) (hd : o.data = .fields vs)
    (hn : ["enumerate", "zip", "dict_itemiterator", "dict_reverseitemiterator", "odict_iterator", "itertools.zip_longest", "itertools.pairwise"].contains n = false) (hQ : Q () s) : wpAny M A (letOwnedTupleGo tg (.ref it) u) Q E s := by
  unfold letOwnedTupleGo
  cases tg <;> first
    | exact wpAny_pure hQ
    | (cases u <;> first
        | exact wpAny_pure hQ
        | (refine wpAny_bind (wpAny_load ho ?_)
           rw [hc, hd]
           show wpAny M A (if (["enumerate", "zip", "dict_itemiterator", "dict_reverseitemiterator", "odict_iterator", "itertools.zip_longest", "itertools.pairwise"].contains n && vs[0]? == some (rawInt _)) = true then _ else _) Q E s
           rw [if_neg (by intro h; rw [hn, Bool.false_and] at h; cases h)]
           exact wpAny_pure hQ))

/-- the list at a, as it stands at each turn (a loop may append to it) -/
def Itl (K : PySem.W.Frag) (a : Addr) : It :=
  ⟨fun i H => ∃ xs x, SqL K H a xs ∧ xs[i]? = some x, fun i H x H' => H' = H ∧ ∀ xs, SqL K H a xs → xs[i]? = some x, fun i H => ∃ xs, SqL K H a xs ∧ xs.length ≤ i⟩
/-- lo, lo + 1, .. (n of them) -/
def Itr (lo : Int) (n : Nat) : It := ⟨fun i _ => i < n, fun i H x H' => H' = H ∧ x = .int (lo + i), fun i _ => n ≤ i⟩
theorem turn_list {P : Program} {w : World} {K : PySem.W.Frag} {tg : Expr} (a it : Addr) : Turn P w K tg (Itl K a) [it] it (fun i h => h.IsListIter it a i) where
  mem := by simp
  obj := fun i h st b hb => by
    have e : b = it := by simpa using hb
    subst e
    obtain ⟨o, e, c, d⟩ := st
    exact ⟨o, e, fun v z => by rw [d] at z; cases z⟩
  keep := fun i h h' st k => st.at fun o e => k it (by simp) o e
  item := by
    intro X hP hw hK hc i pins s σ H E I hf st hg
    subst hP hw hK
    obtain ⟨xs, x, hq, hx⟩ := hg
    obtain ⟨its, rv, p, hz⟩ := I.list hq
    obtain ⟨u, hu, ru⟩ := rv.get hx
    obtain ⟨f0, f1, f2, f3, f4, f5⟩ := hf it (by simp)
    refine wpAny_pyNext_list_item st p.isList (x := u) (by simpa using hu) fun h' st' sb => ?_
    have I1 : Inv X pins σ H { s with heap := h' } := I.turned (t' := s.toks) (fun b o hb e => (sb.2 b hb).trans e) f0 f1 f3 f4 f5
    obtain ⟨o, e, c, d⟩ := id st'
    exact ⟨u, rfl, go_of (s := { s with heap := h' }) e c d (by decide) ⟨x, H, I1, ru, ⟨rfl, fun ys hy => by rw [I.list_inj hy hq]; exact hx⟩, st', fun b hb => (hf b hb).1⟩⟩
  done := by
    intro X hP hw hK hc i pins s σ H E I hf st hg
    subst hP hw hK
    obtain ⟨xs, hq, hx⟩ := hg
    obtain ⟨its, rv, p, hz⟩ := I.list hq
    obtain ⟨f0, f1, f2, f3, f4, f5⟩ := hf it (by simp)
    have hl := rv.length
    exact wpAny_pyNext_list_end (I.ok.hd hc) st p.isList (by simp; omega) fun h' eb => ⟨rfl, I.turned (t' := s.toks) (fun b o hb e => eb b o hb e) f0 f1 f3 f4 f5⟩
  self := fun _ _ _ _ _ st h => wpAny_pyIter_listiter st h
theorem turn_range {P : Program} {w : World} {K : PySem.W.Frag} {tg : Expr} (it : Addr) (lo : Int) (n : Nat) : Turn P w K tg (Itr lo n) [it] it (fun i h => IsRangeIter h it (lo + (i : Nat) * 1) ((n : Int) - (i : Nat)) 1) where
  mem := by simp
  obj := fun i h st b hb => by
    have e : b = it := by simpa using hb
    subst e
    exact ⟨_, st, fun v z => by
      have z' : Data.fields _ = Data.cell v := z
      cases z'⟩
  keep := fun i h h' st k => k it (by simp) _ st
  item := by
    intro X hP hw hK hc i pins s σ H E I hf st hg
    subst hP hw hK
    obtain ⟨f0, f1, f2, f3, f4, f5⟩ := hf it (by simp)
    have W := Walks.range (prog := X.prog) (w := X.w) (I.ok.hd hc) it lo 1 n
    refine W.item i s _ _ hg st fun v h' tk hv st' kk => ?_
    obtain ⟨t, rfl⟩ := hv
    have I1 : Inv X pins σ H { s with heap := h', toks := tk } := I.turned (fun b o hb e => kk b o (by simpa using hb) e) f0 f1 f3 f4 f5
    refine ⟨_, rfl, go_of (s := { s with heap := h', toks := tk }) (n := "range_iterator") st' rfl rfl (by decide) ⟨.int (lo + i), H, I1, ⟨t, ?_⟩, ⟨rfl, rfl⟩, st', fun b hb => (hf b hb).1⟩⟩
    rw [Int.mul_one]
  done := by
    intro X hP hw hK hc i pins s σ H E I hf st hg
    subst hP hw hK
    obtain ⟨f0, f1, f2, f3, f4, f5⟩ := hf it (by simp)
    exact wpAny_pyNext_range_end (I.ok.hd hc) st (by have : n ≤ i := hg; omega) fun h' eb => ⟨rfl, I.turned (t' := s.toks) (fun b o hb e => eb b o hb e) f0 f1 f3 f4 f5⟩
  self := fun _ _ _ _ _ st h => wpAny_pyIter_rangeiter st h
end L2

namespace L2
open PySem PySem.Spec PyProof.Rows
section
variable {X : Cx} {tg : Expr}
def iList (K : PySem.W.Frag) (tl : TE) : TI := fun σ H R => tl σ H fun x H1 => ∃ a, x = .ref a ∧ (∃ xs, SqL K H1 a xs) ∧ R (Itl K a) H1
theorem pi_list {l : Expr} {tl : TE} (hl : PE X l tl) : PI X tg l (iList X.K tl) := by
  intro pins s σ H R I h
  refine thn (hl pins s σ H _ I h) fun v s1 ⟨x, H1, I1, r1, q1⟩ => ?_
  obtain ⟨a, e, ⟨xs, hq⟩, q⟩ := q1
  subst e
  cases r1
  obtain ⟨its, rv, p, hz⟩ := I1.list hq
  refine wpAny_pyIter_list p.isList ?_
  refine ⟨s1.heap.objs.size, [s1.heap.objs.size], _, _, H1, rfl, I1.kept (t' := s1.toks) fun b o e => Heap.get?_push_of_some _ e, turn_list a _, ⟨_, Heap.get?_push_size _ rfl, rfl, rfl⟩, fun b hb => ?_, q⟩
  have e : b = s1.heap.objs.size := by simpa using hb
  subst e
  exact I1.fpOk (Nat.le_refl _) (I1.hok.fresh (Nat.le_refl _))
/-- a range object just made, walked -/
theorem range_it {pins : List (Addr × Obj)} {σ : St} {H : Hp} {s : Shared} {R : It → Hp → Prop} {E : Value → Shared → Prop} {lo hi : Int} {t u v : Tok} {tk : Nat} (I : Inv X pins σ H s) (h1 : -(2 ^ 62) ≤ lo) (h2 : lo < 2 ^ 62) (h3 : -(2 ^ 62) ≤ hi) (h4 : hi < 2 ^ 62)
    (q : R (Itr lo (hi - lo).toNat) H) : wpAny (model X.prog X.w) X.A (pyIter (.ref s.heap.objs.size)) (PIE X pins σ tg R) E { s with heap := s.heap.push { cls := .type "range", data := .fields #[.int lo t, .int hi u, .int 1 v] }, toks := tk } := by
  refine wpAny_pyIter_range (IsRange.new ..) (small_one h1 h2 h3 h4) ?_
  have I1 : Inv X pins σ H { s with heap := s.heap.push { cls := .type "range", data := .fields #[.int lo t, .int hi u, .int 1 v] }, toks := tk } := I.kept fun b o e => Heap.get?_push_of_some _ e
  refine ⟨(s.heap.push { cls := .type "range", data := .fields #[.int lo t, .int hi u, .int 1 v] }).objs.size, [(s.heap.push { cls := .type "range", data := .fields #[.int lo t, .int hi u, .int 1 v] }).objs.size], _, _, H, rfl,
    I1.kept (t' := tk) fun b o e => Heap.get?_push_of_some _ e, turn_range _ lo (hi - lo).toNat, ?_, fun b hb => ?_, q⟩
  · have e1 : lo + ((0 : Nat) : Int) * 1 = lo := by simp
    have e2 : (((hi - lo).toNat : Nat) : Int) - ((0 : Nat) : Int) = Builtin.Range.rangeSize lo hi 1 := by rw [rangeSize_one]; split <;> omega
    show IsRangeIter _ _ (lo + ((0 : Nat) : Int) * 1) ((((hi - lo).toNat : Nat) : Int) - ((0 : Nat) : Int)) 1
    rw [e1, e2]
    exact Heap.get?_push_size _ rfl
  · have e : b = (s.heap.push { cls := .type "range", data := .fields #[.int lo t, .int hi u, .int 1 v] }).objs.size := by simpa using hb
    subst e
    exact I1.fpOk (Nat.le_refl _) (I1.hok.fresh (Nat.le_refl _))
def iRng1 (ta : TA) : TI := fun σ H R => ta σ H fun vs H1 => ∃ j : Int, vs = [.int j] ∧ -(2 ^ 62) ≤ j ∧ j < 2 ^ 62 ∧ R (Itr 0 j.toNat) H1
theorem pi_range1 {a : Expr} {ta : TA} {p pos : Pos} (hg : Gl X "range") (hm : X.mg "range" = none) (ha : PA X [a] ta) (hs : starEach [a] X.env = [(false, eval a X.env)] := by rfl) : PI X tg (.Call (.Name "range" p) [a] [] pos) (iRng1 ta) := by
  intro pins s σ H R I h
  refine Call_ (ld_blt I hg hm boot_range (PyProof.Rows.callWith_type1 (thn (ha pos pins s σ H _ I h) fun us s1 ⟨vs, H1, I1, r1, q1⟩ => ?_) hs rfl))
  obtain ⟨j, e, q1, q2, q⟩ := q1
  subst e
  cases r1 with
  | cons r rr =>
    cases rr
    obtain ⟨t, rfl⟩ := r
    exact call_range_1 (range_it I1 (by omega) (by omega) q1 q2 (by simpa using q))
/-! ### for -/
/-- W: the invariant by the turn and a measure; N: what the body is to reach -/
def tFor (wi : TI) (g : TG) (tb : TS) : TS := fun D σ H => wi σ H fun J H1 => ∃ W : Nat → Nat → St → Hp → Prop, (∃ m, W 0 m σ H1) ∧ ∀ i m σ H, W i m σ H →
  (J.stop i H ∧ D.nx σ H) ∨ (J.go i H ∧ ∃ N : St → Hp → Prop, (∀ σ' H', N σ' H' → ∃ m', m' < m ∧ W (i + 1) m' σ' H') ∧ ∀ x H', J.yld i H x H' → g x σ H' fun σ2 H2 => tb { D with nx := N, ct := N, bk := D.nx } σ2 H2)
/-- the records at fp as they stand -/
def pinsAt (fp : List Addr) (h : Heap) : List (Addr × Obj) := fp.filterMap fun b => (h.get? b).map fun o => (b, o)
theorem mem_pinsAt {fp : List Addr} {h : Heap} {b : Addr} {o : Obj} (hb : b ∈ fp) (e : h.get? b = some o) : (b, o) ∈ pinsAt fp h := List.mem_filterMap.mpr ⟨b, hb, by rw [e]; rfl⟩
theorem of_pinsAt {fp : List Addr} {h : Heap} {p : Addr × Obj} (hp : p ∈ pinsAt fp h) : p.1 ∈ fp ∧ h.get? p.1 = some p.2 := by
  obtain ⟨b, hb, e⟩ := List.mem_filterMap.mp hp
  cases q : h.get? b with
  | none => rw [q] at e; cases e
  | some o =>
    rw [q] at e
    have e' : (b, o) = p := Option.some.inj e
    subst e'
    exact ⟨hb, q⟩
theorem Inv.pinned {pins : List (Addr × Obj)} {σ : St} {H : Hp} {s : Shared} {fp : List Addr} (I : Inv X pins σ H s) (hf : ∀ b ∈ fp, FpOk X pins H b) (ho : ∀ b ∈ fp, ∃ o, s.heap.get? b = some o ∧ ∀ v, o.data ≠ .cell v) : Inv X (pins ++ pinsAt fp s.heap) σ H s :=
  I.pins_of fun p hp => (List.mem_append.mp hp).elim (fun z => I.pin p (List.mem_append_right _ z)) fun z => by
    obtain ⟨hb, e⟩ := of_pinsAt z
    obtain ⟨f0, f1, f2, _⟩ := hf p.1 hb
    obtain ⟨o, e', d⟩ := ho p.1 hb
    rw [e] at e'; cases e'
    exact ⟨e, f0, f1, f2, d⟩
theorem Inv.unpinned {pins pl : List (Addr × Obj)} {σ : St} {H : Hp} {s : Shared} (I : Inv X (pins ++ pl) σ H s) : Inv X pins σ H s := I.pins_of fun p hp => I.pin p (List.mem_append_right _ (List.mem_append_left _ hp))
theorem ps_for {iter : Expr} {body : List Stmt} {wi : TI} {g : TG} {tb : TS} {pos : Pos} (hp : PassesOwn (model X.prog X.w) X.A X.env X.xe) (hc : X.calm = true) (hi : PI X tg iter wi) (hg : PG X tg g) (hb : PSs X body tb)
    (hs : ∀ x, foldedSetIterable iter X.env x = pure x := by intro _; rfl) : PS X (.For tg iter body [] pos) (tFor wi g tb) := by
  intro pins s σ H D I h
  refine wpAny_For (thn (hi pins s σ H _ I h) fun v s1 h1 => thn h1 fun itv s2 h2 => ?_) hs
  obtain ⟨it, fp, tn, J, H2, e, I2, T, st2, f2, W, ⟨m0, w0⟩, turn⟩ := h2
  subst e
  -- what stays true of the iterator's objects through the loop
  have stat : ∀ {H' : Hp}, (∀ b ∈ fp, H' b = none) → ∀ b ∈ fp, FpOk X pins H' b := fun hn b hb => ⟨hn b hb, (f2 b hb).2⟩
  refine codeAny_forLoop_any (fun n s' => ∃ i σ' H', Inv X pins σ' H' s' ∧ tn i s'.heap ∧ (∀ b ∈ fp, H' b = none) ∧ W i n σ' H') ?_ m0 ⟨0, σ, H2, I2, st2, fun b hb => (f2 b hb).1, w0⟩
  rintro n s3 ⟨i, σ3, H3, I3, st3, fr3, w3⟩
  rcases turn i n σ3 H3 w3 with ⟨stop, qn⟩ | ⟨go, N, hN, step⟩
  · refine wpAny_passesOwn hp (thn (T.done X rfl rfl rfl hc i pins s3 σ3 H3 X.xe I3 (stat fr3) st3 stop) fun r s4 ⟨hr, I4⟩ => ?_)
    subst hr
    exact wpAny_execs_nil ⟨σ3, H3, I4, qn⟩
  · refine wpAny_passesOwn hp (thn (T.item X rfl rfl rfl hc i pins s3 σ3 H3 X.xe I3 (stat fr3) st3 go) fun r s4 ⟨u, hr, h4⟩ => ?_)
    subst hr
    refine wpAny_passesOwn hp (thn h4 fun _ s5 ⟨x, H5, I5, r5, y5, st5, fr5⟩ => ?_)
    have I5' := I5.pinned (stat fr5) (T.obj _ _ st5)
    refine wpAny_passesOwn hp (thn (hg _ s5 σ3 H5 x u _ I5' r5 (step x H5 y5)) fun _ s6 ⟨σ6, H6, I6, q6⟩ => ?_)
    refine wpAny_passesOwn hp (thn (hb _ s6 σ6 H6 _ I6 q6) fun f s7 q7 => ?_)
    have again : ∀ {σ7 : St} {H7 : Hp}, Inv X (pins ++ pinsAt fp s5.heap) σ7 H7 s7 → N σ7 H7 → ∃ m, m < n ∧ ∃ i σ' H', Inv X pins σ' H' s7 ∧ tn i s7.heap ∧ (∀ b ∈ fp, H' b = none) ∧ W i m σ' H' := fun {σ7 H7} I7 n7 => by
      obtain ⟨m', hm, w7⟩ := hN σ7 H7 n7
      refine ⟨m', hm, i + 1, σ7, H7, I7.unpinned, T.keep _ _ _ st5 fun b hb o e => (I7.pin (b, o) (List.mem_append_right _ (List.mem_append_right _ (mem_pinsAt hb e)))).1, fun b hb => ?_, w7⟩
      obtain ⟨o, e, d⟩ := T.obj _ _ st5 b hb
      exact (I7.pin (b, o) (List.mem_append_right _ (List.mem_append_right _ (mem_pinsAt hb e)))).2.1
    cases f with
    | next => obtain ⟨σ7, H7, I7, n7⟩ := q7; exact again I7 n7
    | cont => obtain ⟨σ7, H7, I7, n7⟩ := q7; exact again I7 n7
    | brk => obtain ⟨σ7, H7, I7, q7⟩ := q7; exact ⟨σ7, H7, I7.unpinned, q7⟩
    | ret v => obtain ⟨x7, σ7, H7, I7, r7, q7⟩ := q7; exact ⟨x7, σ7, H7, I7.unpinned, r7, q7⟩
end

/-! ### the forms one uses -/
/-- over a list that the body leaves as it is -/
theorem for_list {K : PySem.W.Frag} {a : Addr} {xs : List V} {g : TG} {tb : TS} {D : Ends} {σ : St} {H : Hp} (Pv : Nat → St → Hp → Prop) (h0 : Pv 0 σ H) (hl : ∀ i σ H, i ≤ xs.length → Pv i σ H → SqL K H a xs)
    (hs : ∀ i x σ H, xs[i]? = some x → Pv i σ H → g x σ H fun σ2 H2 => tb { D with nx := Pv (i + 1), ct := Pv (i + 1), bk := D.nx } σ2 H2) (hd : ∀ σ H, Pv xs.length σ H → D.nx σ H) :
    ∃ W : Nat → Nat → St → Hp → Prop, (∃ m, W 0 m σ H) ∧ ∀ i m σ H, W i m σ H →
      ((Itl K a).stop i H ∧ D.nx σ H) ∨ ((Itl K a).go i H ∧ ∃ N : St → Hp → Prop, (∀ σ' H', N σ' H' → ∃ m', m' < m ∧ W (i + 1) m' σ' H') ∧ ∀ x H', (Itl K a).yld i H x H' → g x σ H' fun σ2 H2 => tb { D with nx := N, ct := N, bk := D.nx } σ2 H2) := by
  refine ⟨fun i m σ H => m = xs.length - i ∧ i ≤ xs.length ∧ Pv i σ H, ⟨xs.length, by simp, Nat.zero_le _, h0⟩, ?_⟩
  rintro i m σ H ⟨rfl, hi, p⟩
  have q := hl i σ H hi p
  by_cases hlt : i < xs.length
  · refine .inr ⟨⟨xs, xs[i], q, by simp [hlt]⟩, Pv (i + 1), fun σ' H' p' => ⟨xs.length - (i + 1), by omega, rfl, hlt, p'⟩, fun x H' y => ?_⟩
    obtain ⟨e, y⟩ := y
    subst e
    exact hs i x σ _ (y xs q) p
  · have e : i = xs.length := by omega
    subst e
    exact .inl ⟨⟨xs, q, Nat.le_refl _⟩, hd σ H p⟩
theorem for_range {lo : Int} {n : Nat} {g : TG} {tb : TS} {D : Ends} {σ : St} {H : Hp} (Pv : Nat → St → Hp → Prop) (h0 : Pv 0 σ H)
    (hs : ∀ i σ H, i < n → Pv i σ H → g (.int (lo + i)) σ H fun σ2 H2 => tb { D with nx := Pv (i + 1), ct := Pv (i + 1), bk := D.nx } σ2 H2) (hd : ∀ σ H, Pv n σ H → D.nx σ H) :
    ∃ W : Nat → Nat → St → Hp → Prop, (∃ m, W 0 m σ H) ∧ ∀ i m σ H, W i m σ H →
      ((Itr lo n).stop i H ∧ D.nx σ H) ∨ ((Itr lo n).go i H ∧ ∃ N : St → Hp → Prop, (∀ σ' H', N σ' H' → ∃ m', m' < m ∧ W (i + 1) m' σ' H') ∧ ∀ x H', (Itr lo n).yld i H x H' → g x σ H' fun σ2 H2 => tb { D with nx := N, ct := N, bk := D.nx } σ2 H2) := by
  refine ⟨fun i m σ H => m = n - i ∧ i ≤ n ∧ Pv i σ H, ⟨n, by simp, Nat.zero_le _, h0⟩, ?_⟩
  rintro i m σ H ⟨rfl, hi, p⟩
  by_cases hlt : i < n
  · refine .inr ⟨hlt, Pv (i + 1), fun σ' H' p' => ⟨n - (i + 1), by omega, rfl, hlt, p'⟩, fun x H' y => ?_⟩
    obtain ⟨e, y⟩ := y
    subst e y
    exact hs i σ _ hlt p
  · have e : i = n := by omega
    subst e
    exact .inl ⟨Nat.le_refl _, hd σ H p⟩
end L2

namespace L2
open PySem PySem.Spec PyProof.Rows

abbrev R2 := V → V → Hp → VK → Prop
/-- a two-place operation on values: f is binaryOp op, inplaceOp op or compareOp op -/
def OpR (X : Cx) (f : Value → Value → Sem Value) (r : R2) : Prop :=
  ∀ (pins : List (Addr × Obj)) (s : Shared) (σ : St) (H : Hp) (x y : V) (v u : Value) (Q : VK), Inv X pins σ H s → RelV x v → RelV y u → r x y H Q →
    wpAny (model X.prog X.w) X.A (f v u) (EP X pins σ Q) X.xe s
/-- a call of a value that is known (a builtin, a type) with values -/
def CallR (X : Cx) (f : Value) (r : List V → Hp → VK → Prop) : Prop :=
  ∀ (pins : List (Addr × Obj)) (s : Shared) (σ : St) (H : Hp) (xs : List V) (us : List Value) (Q : VK), Inv X pins σ H s → Vals xs us → r xs H Q →
    wpAny (model X.prog X.w) X.A (call f us) (EP X pins σ Q) X.xe s
def tOp (r : R2) (ta tb : TE) : TE := fun σ H Q => ta σ H fun x H1 => tb σ H1 fun y H2 => r x y H2 Q
/-- ints in, under C, and a value out -/
def rI (C : Int → Int → Prop) (g : Int → Int → V) : R2 := fun x y H Q => ∃ i j, x = .int i ∧ y = .int j ∧ C i j ∧ Q (g i j) H
def rI0 (g : Int → Int → V) : R2 := fun x y H Q => ∃ i j, x = .int i ∧ y = .int j ∧ Q (g i j) H
section
variable {X : Cx} {a b c : Expr} {ta tb tc : TE} {pos : Pos}

theorem binT (ha : PE X a ta) (hb : PE X b tb) {pins : List (Addr × Obj)} {s : Shared} {σ : St} {H : Hp} {R : V → V → Hp → Prop} (I : Inv X pins σ H s)
    (h : ta σ H fun x H1 => tb σ H1 fun y H2 => R x y H2) {Q : Value → Shared → Prop} {f : Value → Value → Sem Value}
    (hf : ∀ v u s2 x y H2, Inv X pins σ H2 s2 → RelV x v → RelV y u → R x y H2 → wpAny (model X.prog X.w) X.A (f v u) Q X.xe s2) :
    wpAny (model X.prog X.w) X.A (eval a X.env) (fun v s₁ => wpAny (model X.prog X.w) X.A (eval b X.env) (fun u s₂ => wpAny (model X.prog X.w) X.A (f v u) Q X.xe s₂) X.xe s₁) X.xe s := by
  refine thn (ha pins s σ H _ I h) fun v s1 ⟨x, H1, I1, r1, q1⟩ => ?_
  refine thn (hb pins s1 σ H1 _ I1 q1) fun u s2 ⟨y, H2, I2, r2, q2⟩ => ?_
  exact hf v u s2 x y H2 I2 r1 r2 q2

theorem pe_op {op : Operator} {r : R2} (ho : OpR X (binaryOp op) r) (ha : PE X a ta) (hb : PE X b tb) : PE X (.BinOp a op b pos) (tOp r ta tb) := by
  intro pins s σ H Q I h
  exact wpAny_BinOp (binT ha hb I h fun v u s2 x y H2 I2 rx ry q => ho pins s2 σ H2 x y v u Q I2 rx ry q)
/-! ### ints -/
theorem opI {f : Value → Value → Sem Value} {C : Int → Int → Prop} {g : Int → Int → Int}
    (rule : ∀ (i j : Int) (t u : Tok) (s : Shared) (Q : Value → Shared → Prop) (E : Value → Shared → Prop), C i j → Q (.int (g i j) s.toks) { s with toks := s.toks + 1 } → wpAny (model X.prog X.w) X.A (f (.int i t) (.int j u)) Q E s) :
    OpR X f (rI C fun i j => .int (g i j)) := by
  intro pins s σ H x y v u Q I rx ry h
  obtain ⟨i, j, rfl, rfl, hc, q⟩ := h
  obtain ⟨t, rfl⟩ := rx
  obtain ⟨t', rfl⟩ := ry
  exact rule i j t t' s _ _ hc ⟨.int (g i j), H, I.tok _, ⟨_, rfl⟩, q⟩
theorem opI0 {f : Value → Value → Sem Value} {g : Int → Int → Int}
    (rule : ∀ (i j : Int) (t u : Tok) (s : Shared) (Q : Value → Shared → Prop) (E : Value → Shared → Prop), Q (.int (g i j) s.toks) { s with toks := s.toks + 1 } → wpAny (model X.prog X.w) X.A (f (.int i t) (.int j u)) Q E s) :
    OpR X f (rI0 fun i j => .int (g i j)) := by
  intro pins s σ H x y v u Q I rx ry h
  obtain ⟨i, j, rfl, rfl, q⟩ := h
  obtain ⟨t, rfl⟩ := rx
  obtain ⟨t', rfl⟩ := ry
  exact rule i j t t' s _ _ ⟨.int (g i j), H, I.tok _, ⟨_, rfl⟩, q⟩
theorem opB0 {f : Value → Value → Sem Value} {g : Int → Int → Bool}
    (rule : ∀ (i j : Int) (t u : Tok) (s : Shared) (Q : Value → Shared → Prop) (E : Value → Shared → Prop), Q (.bool (g i j)) s → wpAny (model X.prog X.w) X.A (f (.int i t) (.int j u)) Q E s) :
    OpR X f (rI0 fun i j => .bl (g i j)) := by
  intro pins s σ H x y v u Q I rx ry h
  obtain ⟨i, j, rfl, rfl, q⟩ := h
  obtain ⟨t, rfl⟩ := rx
  obtain ⟨t', rfl⟩ := ry
  exact rule i j t t' s _ _ ⟨.bl (g i j), H, I, rfl, q⟩

def CDiv (i j : Int) : Prop := 0 < j ∧ j < 1073741824
def CMul (i j : Int) : Prop := (-(2 ^ 64) < i ∧ i < 2 ^ 64) ∨ (-(2 ^ 64) < j ∧ j < 2 ^ 64)
theorem CMul.ok {i j : Int} (h : CMul i j) : IntMulOk i j := by
  rcases h with ⟨h1, h2⟩ | ⟨h1, h2⟩
  · exact .of_left (intBits_le_64 h1 h2)
  · exact .of_right (intBits_le_64 h1 h2)
theorem op_add : OpR X (binaryOp .Add) (rI0 fun i j => .int (i + j)) := opI0 fun _ _ _ _ _ _ _ q => add_int q
theorem op_sub : OpR X (binaryOp .Sub) (rI0 fun i j => .int (i - j)) := opI0 fun _ _ _ _ _ _ _ q => sub_int q
theorem op_mul : OpR X (binaryOp .Mult) (rI CMul fun i j => .int (i * j)) := opI fun _ _ _ _ _ _ _ hc q => mul_int q hc.ok
/-- // by a positive divisor -/
theorem op_fdiv : OpR X (binaryOp .FloorDiv) (rI CDiv fun i j => .int (i / j)) := opI fun i j _ _ _ _ _ hc q => by
  have h1 : (0 : Int) < j := hc.1
  have h2 : j < 1073741824 := hc.2
  exact floordiv_int (by omega) (by rw [Int.fdiv_eq_ediv_of_nonneg i (by omega)]; exact q) (.inl (PyProof.noPylong_small (by omega)))
/-- % by a positive divisor of any size -/
theorem op_mod : OpR X (binaryOp .Mod) (rI (fun _ j => 0 < j) fun i j => .int (i % j)) := opI fun i j _ _ _ _ _ hc q => by
  have h1 : (0 : Int) < j := hc
  exact mod_int' (by omega) (by rw [Int.fmod_eq_emod_of_nonneg i (by omega)]; exact q)
/-! ### bools among ints: n += (a < b) -/
end

/-! ### comparisons -/
/-- the scalars that == tells apart as data does -/
def scal : V → V → Bool
  | .non, .non => true | .non, .int _ => true | .int _, .non => true | .non, .bl _ => true | .bl _, .non => true | .non, .str _ => true | .str _, .non => true
  | .int _, .int _ => true | .bl _, .bl _ => true | .str _, .str _ => true | .byt _, .byt _ => true
  | .int _, .str _ => true | .str _, .int _ => true | .bl _, .str _ => true | .str _, .bl _ => true
  | _, _ => false
def rEq : R2 := fun x y H Q => scal x y = true ∧ Q (.bl (decide (x = y))) H
def rNe : R2 := fun x y H Q => scal x y = true ∧ Q (.bl (!decide (x = y))) H

theorem dec_int {i j : Int} : decide (V.int i = V.int j) = (i == j) := by
  rw [Bool.eq_iff_iff]
  simp
theorem dec_bl {i j : Bool} : decide (V.bl i = V.bl j) = (i == j) := by
  rw [Bool.eq_iff_iff]
  simp
theorem dec_str {i j : Str} : decide (V.str i = V.str j) = (i == j) := by
  rw [Bool.eq_iff_iff]
  simp
theorem dec_byt {i j : Array UInt8} : decide (V.byt i = V.byt j) = (i.toList == j.toList) := by
  rw [Bool.eq_iff_iff]
  cases i
  cases j
  simp

section
variable {X : Cx} {a b c : Expr} {ta tb tc : TE} {pos : Pos}
theorem fin_bl {pins : List (Addr × Obj)} {σ : St} {H : Hp} {s : Shared} {Q : VK} {k k' : Bool} (I : Inv X pins σ H s) (q : Q (.bl k) H) (e : k = k') : EP X pins σ Q (.bool k') s := by
  subst e
  exact ⟨.bl k, H, I, rfl, q⟩
theorem op_eq : OpR X (compareOp .Eq) rEq := by
  intro pins s σ H x y v u Q I rx ry h
  obtain ⟨hs, q⟩ := h
  cases x with
  | non =>
    cases rx
    cases y with
    | non => cases ry; exact PySem.EqNone.eq_none_none (fin_bl I q (by simp))
    | bl j => cases ry; exact PySem.EqNone.eq_none_bool (fin_bl I q (by simp))
    | int j => obtain ⟨t', rfl⟩ := ry; exact PySem.EqNone.eq_none_int (fin_bl I q (by simp))
    | str j => obtain ⟨t', rfl⟩ := ry; exact PySem.EqNone.eq_none_str (fin_bl I q (by simp))
    | _ => exact absurd (show false = true from hs) Bool.false_ne_true
  | bl i =>
    cases rx
    cases y with
    | non => cases ry; exact PySem.EqNone.eq_bool_none (fin_bl I q (by simp))
    | bl j => cases ry; exact eq_bool (fin_bl I q dec_bl)
    | str j => obtain ⟨t', rfl⟩ := ry; exact PySem.EqMixed.eq_bool_str (fin_bl I q (by simp))
    | _ => exact absurd (show false = true from hs) Bool.false_ne_true
  | int i =>
    obtain ⟨t, rfl⟩ := rx
    cases y with
    | non => cases ry; exact PySem.EqNone.eq_int_none (fin_bl I q (by simp))
    | int j => obtain ⟨t', rfl⟩ := ry; exact eq_int (fin_bl I q dec_int)
    | str j => obtain ⟨t', rfl⟩ := ry; exact PySem.EqMixed.eq_int_str (fin_bl I q (by simp))
    | _ => exact absurd (show false = true from hs) Bool.false_ne_true
  | str i =>
    obtain ⟨t, rfl⟩ := rx
    cases y with
    | non => cases ry; exact PySem.EqNone.eq_str_none (fin_bl I q (by simp))
    | bl j => cases ry; exact PySem.EqMixed.eq_str_bool (fin_bl I q (by simp))
    | int j => obtain ⟨t', rfl⟩ := ry; exact PySem.EqMixed.eq_str_int (fin_bl I q (by simp))
    | str j => obtain ⟨t', rfl⟩ := ry; exact eq_str (fin_bl I q dec_str)
    | _ => exact absurd (show false = true from hs) Bool.false_ne_true
  | byt i =>
    obtain ⟨t, rfl⟩ := rx
    cases y with
    | byt j => obtain ⟨t', rfl⟩ := ry; exact PySem.W.eq_bytes (fin_bl I q dec_byt)
    | _ => exact absurd (show false = true from hs) Bool.false_ne_true
  | _ => cases y <;> exact absurd (show false = true from hs) Bool.false_ne_true
theorem op_ne : OpR X (compareOp .NotEq) rNe := by
  intro pins s σ H x y v u Q I rx ry h
  obtain ⟨hs, q⟩ := h
  cases x with
  | non =>
    cases rx
    cases y with
    | non => cases ry; exact PySem.EqNone.ne_none_none (fin_bl I q (by simp))
    | bl j => cases ry; exact PySem.EqNone.ne_none_bool (fin_bl I q (by simp))
    | int j => obtain ⟨t', rfl⟩ := ry; exact PySem.EqNone.ne_none_int (fin_bl I q (by simp))
    | str j => obtain ⟨t', rfl⟩ := ry; exact PySem.EqNone.ne_none_str (fin_bl I q (by simp))
    | _ => exact absurd (show false = true from hs) Bool.false_ne_true
  | bl i =>
    cases rx
    cases y with
    | non => cases ry; exact PySem.EqNone.ne_bool_none (fin_bl I q (by simp))
    | bl j => cases ry; exact ne_bool (fin_bl I q (congrArg not dec_bl))
    | str j => obtain ⟨t', rfl⟩ := ry; exact PySem.EqMixed.ne_bool_str (fin_bl I q (by simp))
    | _ => exact absurd (show false = true from hs) Bool.false_ne_true
  | int i =>
    obtain ⟨t, rfl⟩ := rx
    cases y with
    | non => cases ry; exact PySem.EqNone.ne_int_none (fin_bl I q (by simp))
    | int j => obtain ⟨t', rfl⟩ := ry; exact ne_int (fin_bl I q (congrArg not dec_int))
    | str j => obtain ⟨t', rfl⟩ := ry; exact PySem.EqMixed.ne_int_str (fin_bl I q (by simp))
    | _ => exact absurd (show false = true from hs) Bool.false_ne_true
  | str i =>
    obtain ⟨t, rfl⟩ := rx
    cases y with
    | non => cases ry; exact PySem.EqNone.ne_str_none (fin_bl I q (by simp))
    | bl j => cases ry; exact PySem.EqMixed.ne_str_bool (fin_bl I q (by simp))
    | int j => obtain ⟨t', rfl⟩ := ry; exact PySem.EqMixed.ne_str_int (fin_bl I q (by simp))
    | str j => obtain ⟨t', rfl⟩ := ry; exact ne_str (fin_bl I q (congrArg not dec_str))
    | _ => exact absurd (show false = true from hs) Bool.false_ne_true
  | byt i =>
    obtain ⟨t, rfl⟩ := rx
    cases y with
    | byt j => obtain ⟨t', rfl⟩ := ry; exact PySem.W.ne_bytes (fin_bl I q (congrArg not dec_byt))
    | _ => exact absurd (show false = true from hs) Bool.false_ne_true
  | _ => cases y <;> exact absurd (show false = true from hs) Bool.false_ne_true

theorem op_lt : OpR X (compareOp .Lt) (rI0 fun i j => .bl (decide (i < j))) := opB0 fun _ _ _ _ _ _ _ q => lt_int q
theorem op_gt : OpR X (compareOp .Gt) (rI0 fun i j => .bl (decide (j < i))) := opB0 fun _ _ _ _ _ _ _ q => gt_int q
/-- the one string within the other -/
theorem op_in_str : OpR X (compareOp .In) (fun x y H Q => ∃ i j, x = .str i ∧ y = .str j ∧ Q (.bl (!(Builtin.Str.occurrences j i 0 j.length 1).isEmpty)) H) := by
  intro pins s σ H x y v u Q I rx ry h
  obtain ⟨i, j, rfl, rfl, q⟩ := h
  obtain ⟨t, rfl⟩ := rx
  obtain ⟨t', rfl⟩ := ry
  exact in_str (fin_bl I q rfl)

theorem nomark (b : Expr) {op : CmpOp} (h : op ≠ .In := by decide) (h2 : op ≠ .NotIn := by decide) : behindInMarks op b = false := by
  have e1 : (op == CmpOp.In) = false := by cases op <;> first | rfl | exact absurd rfl h
  have e2 : (op == CmpOp.NotIn) = false := by cases op <;> first | rfl | exact absurd rfl h2
  cases b <;> simp [behindInMarks, e1, e2]
/-- a comparison as a value; hm: nomark b, or (for in, not in) by with_unfolding_all rfl -/
theorem pe_cmpR {op : CmpOp} {r : R2} (ho : OpR X (compareOp op) r) (ha : PE X a ta) (hb : PE X b tb) (hm : behindInMarks op b = false) : PE X (.Compare a [op] [b] pos) (tOp r ta tb) := by
  intro pins s σ H Q I h
  exact wpAny_Compare1 (binT ha hb I h fun v u s2 x y H2 I2 rx ry q => ho pins s2 σ H2 x y v u Q I2 rx ry q) hm
/-- a reading of a value as a test -/
def tTest (t : TE) : TT := fun σ H Q => t σ H fun x H' => ∃ k, x = .bl k ∧ Q k H'
theorem pt_cmpR {op : CmpOp} {r : R2} (ho : OpR X (compareOp op) r) (ha : PE X a ta) (hb : PE X b tb) (hm : behindInMarks op b = false) : PT X (.Compare a [op] [b] pos) (tTest (tOp r ta tb)) := by
  intro pins s σ H Q I h
  refine wpAny_isTrue_Compare1 (thn (ha pins s σ H _ I h) fun v s1 ⟨x, H1, I1, r1, q1⟩ => thn (hb pins s1 σ H1 _ I1 q1) fun u s2 ⟨y, H2, I2, r2, q2⟩ =>
    thn (ho pins s2 σ H2 x y v u _ I2 r1 r2 q2) fun c s3 ⟨z, H3, I3, r3, k, e, q3⟩ => ?_) hm
  subst e
  cases r3
  exact wpAny_truthy_bool ⟨H3, I3, q3⟩
/-! ### truth -/
theorem line63 : (sizeLine : Nat) < 2 ^ 63 := by rw [sizeLine_eq]; decide
/-! ### strs and bytes -/
theorem op_add_str : OpR X (binaryOp .Add) (fun x y H Q => ∃ i j, x = .str i ∧ y = .str j ∧ i.length + j.length ≤ sizeLine ∧ Q (.str (i ++ j)) H) := by
  intro pins s σ H x y v u Q I rx ry h
  obtain ⟨i, j, rfl, rfl, hz, q⟩ := h
  obtain ⟨t, rfl⟩ := rx
  obtain ⟨t', rfl⟩ := ry
  exact add_str (fun t' tk => ⟨.str (i ++ j), H, I.tok _, ⟨_, rfl⟩, q⟩) hz
/-! ### scalar builtins, by CallR -/
theorem vals1 {x : V} {us : List Value} (r : Vals [x] us) : ∃ u, us = [u] ∧ RelV x u := by
  cases r with
  | cons r1 r2 => cases r2; exact ⟨_, rfl, r1⟩
theorem vals2 {x y : V} {us : List Value} (r : Vals [x, y] us) : ∃ u w', us = [u, w'] ∧ RelV x u ∧ RelV y w' := by
  cases r with
  | cons r1 r2 =>
    cases r2 with
    | cons r3 r4 => cases r4; exact ⟨_, _, rfl, r1, r3⟩
end
end L2

namespace L2
open PySem PySem.Spec PyProof.Rows

/-! ### an instance, its attributes a map -/
section
variable {prog : Program} {w : World} {A : Around} {E : Value → Shared → Prop} {s : Shared} {K : PySem.W.Frag} {x dx C f : Addr} {mA : Str → Option Value} {name : Str} {v : Value}

end

/-! ### the attributes as a list of pairs -/
section
variable {P : Program} {w : World} {H H' : Hp} {h h' : Heap} {a C dx : Addr} {fs fs' : List (Str × V)}
end

/-! ### what of the text a class must have -/
section
variable {X : Cx} {pins : List (Addr × Obj)} {σ : St} {H : Hp} {s : Shared} {a C dx : Addr} {fs : List (Str × V)} {f : Str} {v : V} {A : Around} {E : Value → Shared → Prop}

end

/-! ### readings and rules -/
section
variable {X : Cx} {o e value : Expr} {f : Str} {pos pos' tpos : Pos} {ta tv : TE}
end

/-! ### isinstance -/
section
variable {X : Cx} {pins : List (Addr × Obj)} {σ : St} {H : Hp} {s : Shared} {A : Around} {E : Value → Shared → Prop} {Q : Value → Shared → Prop} {c : Value} {b : Bool}
end
end L2

namespace L2
open PySem PySem.Spec PyProof.Rows

/-! ### room -/
structure Room (k : Nat) (A : Around) : Prop where
  hd : A.handled = none
  dp : A.depth + 3 * k + 5 < recursionLimit
  un : A.units + 16 * k + 200 < cLine
theorem Room.mono {j k : Nat} {A : Around} (r : Room k A) (h : j ≤ k) : Room j A := ⟨r.hd, by have := r.dp; omega, by have := r.un; omega⟩
theorem Room.deeper {k : Nat} {A : Around} (r : Room (k + 1) A) (env : Env) : Room k (A.deeper env) :=
  ⟨r.hd, by have := r.dp; show A.depth + 1 + 3 * k + 5 < _; omega, by have := r.un; show A.units + 3 + 16 * k + 200 < _; omega⟩
theorem Room.depth {k : Nat} {A : Around} (r : Room k A) : A.depth < recursionLimit := by have := r.dp; omega
/-! ### argument lists and displays -/
def tNil : TA := fun _ H Q => Q [] H
def tCons (ta : TE) (tr : TA) : TA := fun σ H Q => ta σ H fun x H1 => tr σ H1 fun xs H2 => Q (x :: xs) H2
section
variable {X : Cx} {e : Expr} {es : List Expr} {te : TE} {t : TA} {pos : Pos}
theorem pa_nil : PA X [] tNil := fun _ _ _ _ H Q I h => Calls.spliced_nil ⟨[], H, I, .nil, h⟩
theorem pa_cons (ha : PE X e te) (hr : PA X es t) (hs : starEach (e :: es) X.env = (false, eval e X.env) :: starEach es X.env := by rfl) : PA X (e :: es) (tCons te t) := by
  intro pos pins s σ H Q I h
  rw [hs]
  show wpAny _ _ (spliced ((false, eval e X.env) :: backTo pos (starEach es X.env))) _ _ s
  refine Calls.spliced_cons (thn (ha pins s σ H _ I h) fun u s1 ⟨x, H1, I1, r1, q1⟩ => ?_)
  exact thn (hr pos pins s1 σ H1 _ I1 q1) fun us s2 ⟨xs, H2, I2, r2, q2⟩ => ⟨x :: xs, H2, I2, .cons r1 r2, q2⟩

/-- a tuple, a list of written items -/
def tTup (t : TA) : TE := fun σ H Q => t σ H fun xs H1 => xs.length ≤ sizeLine ∧ ∀ p, H1 p = none → Q (.ref p) (upd H1 p (.tup xs))
def tLst (t : TA) : TE := fun σ H Q => t σ H fun xs H1 => xs.length ≤ sizeLine ∧ ∀ p, H1 p = none → Q (.ref p) (upd H1 p (.lst xs))
theorem pe_tup {x1} (h : PA X es t) : PE X (.Tuple es x1 pos) (tTup t) := by
  intro pins s σ H Q I hq
  refine wpAny_Tuple_spliced (thn (h pos pins s σ H _ I hq) fun us s1 ⟨xs, H1, I1, r, z, q⟩ => ⟨by rw [← r.length]; exact z, ?_⟩)
  have hf : H1 s1.heap.objs.size = none := I1.hok.fresh (Nat.le_refl _)
  refine ⟨.ref s1.heap.objs.size, upd H1 s1.heap.objs.size (.tup xs), I1.laid (t' := s1.toks) (fun b u e => Heap.get?_push_of_some _ e) (Nat.le_refl _) ?_, rfl, q _ hf⟩
  exact ⟨z, us, r, ⟨_, Heap.get?_push_size _ rfl, rfl, _, rfl⟩⟩
theorem pe_lst (h : PA X es t) : PE X (.List es pos) (tLst t) := by
  intro pins s σ H Q I hq
  refine wpAny_List_spliced (thn (h pos pins s σ H _ I hq) fun us s1 ⟨xs, H1, I1, r, z, q⟩ => ⟨by rw [← r.length]; exact z, ?_⟩)
  have hf : H1 s1.heap.objs.size = none := I1.hok.fresh (Nat.le_refl _)
  refine ⟨.ref s1.heap.objs.size, upd H1 s1.heap.objs.size (.lst xs), I1.laid (t' := s1.toks) (fun b u e => Heap.get?_push_of_some _ e) (Nat.le_refl _) ?_, rfl, q _ hf⟩
  exact ⟨z, us, 0, r, Heap.get?_push_size _ rfl⟩
end

/-! ### what a def promises -/
/-- a def's promise: the bound arguments in the parameters' order, the heap, the wanted end, the wanted exception -/
abbrev Sp := List V → Hp → VK → XK → Prop
/-- how an exception lies behind a call (file 08 gives it): the callers' frames, abstract heap and state ahead of the call, the wish, the exception, the state -/
abbrev CXT := List Env → Hp → Shared → XK → Value → Shared → Prop

/-- the state at a call -/
structure Env0 (P : Program) (w : World) (K : PySem.W.Frag) (mg : Str → Option Value) (base : Heap) (A : Around) (outer : List Env) (s : Shared) (H : Hp) : Prop where
  frames : A.frames = some outer
  mod : Mod K mg base
  bs : ∀ b o, base.get? b = some o → s.heap.get? b = some o ∧ H b = none
  bsz : base.objs.size ≤ s.heap.objs.size
  funs : s.heap.FunFrames base outer
  frf : ∀ b ∈ frs outer, H b = none
  hok : HOk P w H s.heap
  bare : AllBare s.gens
/-- a call's end -/
def CE (outer : List Env) (P : Program) (w : World) (H : Hp) (s : Shared) (Q : VK) (u : Value) (s' : Shared) : Prop :=
  ∃ v H', s'.os = s.os ∧ AllBare s'.gens ∧ Un (frs outer) [] H H' s.heap s'.heap ∧ HOk P w H' s'.heap ∧ RelV v u ∧ Q v H'
def CR (CX : CXT) (outer : List Env) (P : Program) (w : World) (H : Hp) (s : Shared) (Q : VK) (E : XK) (r : Result) (s' : Shared) : Prop :=
  match r with
  | .ok (.ret u) => CE outer P w H s Q u s'
  | .ok _ => False
  | .error e => CX outer H s E e s'
structure FnOk (P : Program) (w : World) (K : PySem.W.Frag) (mg : Str → Option Value) (base : Heap) (CX : CXT) (k : Nat) (f : Addr) (fd : FuncData) (ps : List Str) (sp : Sp) : Prop where
  len : ∀ vs H Q E, sp vs H Q E → vs.length = ps.length
  run : ∀ (A : Around) (outer : List Env) (s : Shared) (H : Hp) (args : Args) (us : List Value) (vs : List V) (Q : VK) (E : XK), Room k A → Env0 P w K mg base A outer s H → BindsTo s fd args (ps.zip us) → Vals vs us → sp vs H Q E →
    codeAny (model P w) A (.call (.ref f) args) (CR CX outer P w H s Q E) s
section
variable {X : Cx} {pins : List (Addr × Obj)} {σ : St} {H : Hp} {s s' : Shared}
/-- from a body: what a callee wants -/
theorem Inv.env0 (I : Inv X pins σ H s) : Env0 X.prog X.w X.K X.mg X.base X.A X.stack s H :=
  ⟨I.ok.frames, I.ok.mod, I.bs, Nat.le_trans I.ok.bsz I.sz, I.stack, I.stkFree, I.hok, I.bare⟩
/-- behind a call -/
theorem Inv.after {Q : VK} {u : Value} (I : Inv X pins σ H s) (h : CE X.stack X.prog X.w H s Q u s') : EP X pins σ Q u s' := by
  obtain ⟨v, H', os, bare, un, hok, r, q⟩ := h
  obtain ⟨hh, g, d, t, os'⟩ := s'
  obtain rfl : os' = s.os := os
  exact ⟨v, H', I.call (h' := hh) (g' := g) (d' := d) (t' := t) (ch := []) un hok bare (fun b z => absurd z (by simp)), r, q⟩
end

/-! ### calls -/
/-- f(..): the written arguments, then the defaults dvs; E: what is wanted of an exception -/
def tCall (sp : Sp) (dvs : List V) (E : XK) (t : TA) : TE := fun σ H Q => t σ H fun vs H1 => sp (vs ++ dvs) H1 Q E
/-- how the parameters are bound: us the positional arguments, kw the keywords' values by name, ds the defaults that fill up -/
def Binds (K : PySem.W.Frag) (fd : FuncData) (ps : List Str) (ds : List Value) : Prop :=
  ∀ (s : Shared) (us : List Value), K.In s.heap → (us ++ ds).length = ps.length → BindsTo s fd ⟨us, []⟩ (ps.zip (us ++ ds))
/-- every parameter is given -/
theorem Binds.all {K : PySem.W.Frag} {fd : FuncData} {ps : List Str} (h : ∀ us : List Value, us.length = ps.length → bindArgs fd ⟨us, []⟩ = pure (ps.zip us)) : Binds K fd ps [] := fun s us _ hl => by
  rw [List.append_nil] at hl ⊢
  exact .of_eq (h us hl)

/-- an exception of a callee reaches what this body wants of exceptions -/
def Passes (CX : CXT) (X : Cx) (E : XK) : Prop := ∀ (pins : List (Addr × Obj)) (σ : St) (H : Hp) (s : Shared) (e : Value) (s' : Shared), Inv X pins σ H s → CX X.stack H s E e s' → X.xe e s'

section
variable {X : Cx} {CX : CXT} {k : Nat} {f C : Addr} {fd : FuncData} {ps : List Str} {sp : Sp} {dvs : List V} {ds : List Value} {E : XK} {x m : Str} {p pos apos : Pos} {e o : Expr} {es : List Expr} {ta : TE} {t : TA}

/-- the callee runs -/
theorem run_fn {pins : List (Addr × Obj)} {σ : St} {H : Hp} {s : Shared} {Q : VK} {us : List Value} {vs : List V} (F : FnOk X.prog X.w X.K X.mg X.base CX k f fd ps sp) (hr : Room k X.A) (hb : Binds X.K fd ps ds) (hd : Vals dvs ds) (hx : Passes CX X E)
    (I : Inv X pins σ H s) (r : Vals vs us) (h : sp (vs ++ dvs) H Q E) : wpAny (model X.prog X.w) X.A (call (.ref f) us) (EP X pins σ Q) X.xe s := by
  have r2 : Vals (vs ++ dvs) (us ++ ds) := r.append hd
  have hl : (us ++ ds).length = ps.length := by rw [← r2.length]; exact F.len _ _ _ _ h
  refine wpAny_call (codeAny_mono (F.run X.A X.stack s H ⟨us, []⟩ (us ++ ds) (vs ++ dvs) Q E hr I.env0 (hb s us I.kIn hl) r2 h) fun r s' hq => ?_)
  cases r with
  | error e => exact hx pins σ H s e s' I hq
  | ok fl =>
    cases fl with
    | ret u => exact I.after hq
    | next => exact False.elim hq
    | brk => exact False.elim hq
    | cont => exact False.elim hq

theorem pe_call (F : FnOk X.prog X.w X.K X.mg X.base CX k f fd ps sp) (hr : Room k X.A) (hg : Gl X x) (hm : X.mg x = some (.ref f)) (hk : PySem.W.keepIn X.K (.ref f) = true) (hb : Binds X.K fd ps ds) (hd : Vals dvs ds) (hx : Passes CX X E)
    (ha : PA X (e :: es) t) (hdb : (x == ("__debug__" : Str)) = false := by decide) (he : starEach (e :: es) X.env = (false, eval e X.env) :: starEach es X.env := by rfl) (hpl : (backTo pos (starEach es X.env)).any (·.1) = false := by rfl) :
    PE X (.Call (.Name x p) (e :: es) [] pos) (tCall sp dvs E t) := by
  intro pins s σ H Q I h
  refine wpAny_Call_Name_kw (ld_glob I hg hm ?_ hdb)
  refine PySem.W.callWith_K (h₀ := X.base) I.ok.mod.kin hk (thn (ha pos pins s σ H _ I h) fun us s1 ⟨vs, H1, I1, r, q⟩ => ⟨I1.kIn, ?_⟩) he hpl
  exact run_fn F hr hb hd hx I1 r q
end

/-! ### keywords -/
section
variable {X : Cx} {CX : CXT} {k : Nat} {f C : Addr} {fd : FuncData} {ps ks : List Str} {sp : Sp} {E : XK} {x m : Str} {p pos apos kpos : Pos} {e o : Expr} {es : List Expr} {kws : List Keyword} {te ta : TE} {t tk : TA} {nm : Option Str}
variable {g : List Value → List Value → List Value} {gV : List V → List V → List V}
end

/-! ### a def's body keeps its promise -/
/-- names: the parameters first -/
structure FnScope (N P : List Str) (sc : Scope) : Prop where
  kind : sc.kind = .function
  co : sc.isCoroutine = false
  gen : sc.isGenerator = false
  nd : N.Nodup
  pre : N.take P.length = P
  par : ∀ x ∈ P, sc.names.lookup x = some .local ∨ sc.names.lookup x = some .cell
  nofree : ∀ y ∈ sc.names, y.2 ≠ .free

theorem bindL_out {kindOf : Str → Option NameKind} {x : Str} : ∀ {binds : List (Str × Value)} {m : Str → Option Value}, (∀ v, (x, v) ∉ binds) → bindL kindOf binds m x = m x
  | [], _, _ => rfl
  | (n, v) :: r, m, h => by
    unfold bindL
    rw [bindL_out fun w hw => h w (List.mem_cons_of_mem _ hw)]
    split
    · have : x ≠ n := by rintro rfl; exact h v List.mem_cons_self
      simp [this]
    · rfl
theorem bindC_out {kindOf : Str → Option NameKind} {x : Str} : ∀ {binds : List (Str × Value)} {m : Str → Option Value}, (∀ v, (x, v) ∉ binds) → bindC kindOf binds m x = m x
  | [], _, _ => rfl
  | (n, v) :: r, m, h => by
    unfold bindC
    rw [bindC_out fun w hw => h w (List.mem_cons_of_mem _ hw)]
    split
    · rfl
    · have : x ≠ n := by rintro rfl; exact h v List.mem_cons_self
      simp [this]
theorem bindL_get {kindOf : Str → Option NameKind} {x : Str} {v : Value} : ∀ {P : List Str} {vs : List Value} {i : Nat} {m : Str → Option Value}, P.Nodup → P[i]? = some x → vs[i]? = some v → kindOf x = some .local →
    bindL kindOf (P.zip vs) m x = some v
  | [], _, _, _, _, h, _, _ => by simp at h
  | _ :: _, [], _, _, _, _, h, _ => by simp at h
  | p :: P, w :: vs, 0, m, nd, h1, h2, hk => by
    simp at h1 h2; subst h1; subst h2
    show bindL kindOf ((p, w) :: P.zip vs) m p = _
    unfold bindL
    rw [bindL_out fun v hv => (List.nodup_cons.mp nd).1 (List.of_mem_zip hv).1, if_pos hk]
    simp
  | p :: P, w :: vs, i + 1, m, nd, h1, h2, hk => by
    show bindL kindOf ((p, w) :: P.zip vs) m x = _
    unfold bindL
    exact bindL_get (i := i) (List.nodup_cons.mp nd).2 (by simpa using h1) (by simpa using h2) hk
theorem bindC_get {kindOf : Str → Option NameKind} {x : Str} {v : Value} : ∀ {P : List Str} {vs : List Value} {i : Nat} {m : Str → Option Value}, P.Nodup → P[i]? = some x → vs[i]? = some v → kindOf x ≠ some .local →
    bindC kindOf (P.zip vs) m x = some v
  | [], _, _, _, _, h, _, _ => by simp at h
  | _ :: _, [], _, _, _, _, h, _ => by simp at h
  | p :: P, w :: vs, 0, m, nd, h1, h2, hk => by
    simp at h1 h2; subst h1; subst h2
    show bindC kindOf ((p, w) :: P.zip vs) m p = _
    unfold bindC
    rw [bindC_out fun v hv => (List.nodup_cons.mp nd).1 (List.of_mem_zip hv).1, if_neg hk]
    simp
  | p :: P, w :: vs, i + 1, m, nd, h1, h2, hk => by
    show bindC kindOf ((p, w) :: P.zip vs) m x = _
    unfold bindC
    exact bindC_get (i := i) (List.nodup_cons.mp nd).2 (by simpa using h1) (by simpa using h2) hk

/-- the names' values at the entry -/
def start (N : List Str) (vs : List V) : St := vs.map some ++ List.replicate (N.length - vs.length) none

/-- the context of a def's body, at its entry; an exception leaves the frame, then lies as CX says -/
def cxOf (CX : CXT) (P : Program) (w : World) (K : PySem.W.Frag) (mg : Str → Option Value) (base : Heap) (N : List Str) (qual : Str) (scope : Scope) (f : Addr) (cd : Value) (A : Around) (outer : List Env) (s : Shared) (H : Hp) (E : XK) : Cx where
  prog := P
  w := w
  K := K
  mg := mg
  base := base
  A := A.deeper (envOfC qual scope s.heap.objs.size f cd)
  N := N
  s₀ := s
  H₀ := H
  env := envOfC qual scope s.heap.objs.size f cd
  outer := outer
  stack := envOfC qual scope s.heap.objs.size f cd :: outer
  ex := []
  calm := true
  fn := fun _ => true
  pn := []
  xe := fun e s' => wpAny (model P w) (A.deeper (envOfC qual scope s.heap.objs.size f cd)) (leaving (envOfC qual scope s.heap.objs.size f cd) e) (fun _ s'' => CX outer H s E e s'') (fun e' s'' => CX outer H s E e' s'') s'

theorem cell_has {sc : Scope} {n : Nat} {x : Str} (h : sc.names.lookup x = some .cell) : ∃ c, (cellsFrom n sc.names []).lookup x = some c := by
  have q := PySem.W.cellsFrom_some sc.names n [] (.inl h)
  exact Option.isSome_iff_exists.mp q

theorem inv_start {CX : CXT} {P : Program} {w : World} {K : PySem.W.Frag} {mg : Str → Option Value} {base : Heap} {N ps : List Str} {qual : Str} {scope : Scope} {f : Addr} {cd : Value} {A : Around} {outer : List Env} {s s1 : Shared} {H : Hp} {E : XK} {us : List Value} {vs : List V}
    (S : FnScope N ps scope) (hd : A.handled = none) (e0 : Env0 P w K mg base A outer s H) (hl : vs.length = ps.length) (r : Vals vs us)
    (x : InCallC s s.heap.objs.size (bindL (envOfC qual scope s.heap.objs.size f cd).kindOf (ps.zip us) fun _ => none) (cellsFrom (s.heap.objs.size + 1) scope.names []) (bindC (envOfC qual scope s.heap.objs.size f cd).kindOf (ps.zip us) fun _ => none) s1) :
    Inv (cxOf CX P w K mg base N qual scope f cd A outer s H E) [] (start N vs) H s1 := by
  have hpl : ps.length ≤ N.length := by have := congrArg List.length S.pre; rw [List.length_take] at this; omega
  obtain ⟨h1, tk, rfl, hk⟩ := x.done
  have noA : ∀ b : Addr, b ∉ (cxOf CX P w K mg base N qual scope f cd A outer s H E).ex := fun b z => absurd (show b ∈ ([] : List Addr) from z) (by simp)
  refine ⟨⟨e0.mod, S.kind, rfl, rfl, Nat.le_refl _, fun y z c h1 h2 => ?_, fun y hy => ?_, fun y c _ h => ?_, fun _ => hd, Around.frames_deeper e0.frames, .inr ⟨rfl, rfl⟩, fun b z => absurd z (noA b), e0.bs, e0.bsz, fun b _ _ => noA b, fun b z => absurd z (noA b), e0.funs, e0.frf⟩,
    rfl, e0.bare, Un.kept hk, ⟨_, x.toInCall.ns, fun i y v h1 h2 h3 => ?_⟩, fun y c h => ⟨_, x.cell y c h⟩, e0.hok.fresh (Nat.le_refl _), fun y c h => ?_, fun p hp => absurd (show p ∈ ([] : List (Addr × Obj)) from hp) (by simp), e0.hok.kept hk, ?_⟩
  · exact name_of_addr x.apart (PySem.mem_of_lookup h1) (PySem.mem_of_lookup h2)
  · have hy : scope.names.lookup y = some .cell ∨ scope.names.lookup y = some .free := hy
    rcases hy with hy | hy
    · exact cell_has hy
    · exact absurd rfl (S.nofree _ (PySem.mem_of_lookup hy))
  · exact Nat.le_of_lt (x.above y c (PySem.mem_of_lookup h))
  · have hi : i < vs.length := by
      unfold start at h2
      by_cases hi : i < vs.length
      · exact hi
      · rw [List.getElem?_append_right (by simpa using hi)] at h2
        rw [List.getElem?_replicate] at h2
        split at h2 <;> cases h2
    have ha : vs[i]? = some v := by
      unfold start at h2
      rw [List.getElem?_append_left (by simpa using hi), List.getElem?_map] at h2
      cases e : vs[i]? with
      | none => rw [e] at h2; cases h2
      | some a => rw [e] at h2; cases h2; rfl
    obtain ⟨u, hu, rv⟩ := r.get ha
    have hp : ps[i]? = some y := by
      rw [← S.pre, List.getElem?_take_of_lt (by omega)]; exact h1
    have ndP : ps.Nodup := by rw [← S.pre]; exact S.nd.sublist (List.take_sublist _ _)
    refine ⟨u, rv, ?_⟩
    rcases S.par y (List.mem_of_getElem? hp) with k | k
    · exact .inl ⟨k, bindL_get ndP hp hu k⟩
    · obtain ⟨c, e⟩ := cell_has (n := s.heap.objs.size + 1) k
      refine .inr ⟨.inl k, c, e, ?_⟩
      have q := x.cell y c e
      rw [bindC_get ndP hp hu (by show scope.names.lookup y ≠ _; rw [k]; decide)] at q
      exact q
  · exact e0.hok.fresh (Nat.le_of_lt (x.above y c (PySem.mem_of_lookup h)))
  · unfold start
    show _ = N.length
    rw [List.length_append, List.length_map, List.length_replicate]
    omega

/-- THE RULE: a def (or a method) of the text, by its body. The body's reading t is chosen for each entry; it is run at the parameters' values -/
theorem fn_of {CX : CXT} {P : Program} {w : World} {K : PySem.W.Frag} {mg : Str → Option Value} {base : Heap} {k : Nat} {f : Addr} {name qual : Str} {params : Arguments} {body : List Stmt} {scope : Scope} {dV kV doc pm cdv ct oc : Value} {an od : Option Addr}
    {osl : Array (Option Value)} {N ps : List Str} {sp : Sp} (lk : K.lookup f = some ⟨oc, od, .func (PySem.W.fnOf name qual params body scope dV kV doc pm an cdv ct), osl⟩) (hcd : PySem.W.codeIn K cdv qual = true) (S : FnScope N ps scope)
    (len : ∀ vs H Q E, sp vs H Q E → vs.length = ps.length)
    (hbody : ∀ (A : Around) (outer : List Env) (s : Shared) (H : Hp) (vs : List V) (Q : VK) (E : XK), Room k (A.deeper (envOfC qual scope s.heap.objs.size f cdv)) → sp vs H Q E →
      ∃ t, PSs (cxOf CX P w K mg base N qual scope f cdv A outer s H E) body t ∧ t { nx := fun _ H' => Q .non H', rt := Q } (start N vs) H) :
    FnOk P w K mg base CX (k + 1) f (PySem.W.fnOf name qual params body scope dV kV doc pm an cdv ct) ps sp := by
  refine ⟨len, fun A outer s H args us vs Q E hr e0 hb r hsp => ?_⟩
  have hl := len _ _ _ _ hsp
  have KX : K.In s.heap := e0.mod.kin.keeps fun b o e => (e0.bs b o e).1
  have lim : s.heap.NoLimit := e0.mod.nolimit.keeps fun b o e => (e0.bs b o e).1
  have hkind : ∀ y ∈ ps.zip us, scope.names.lookup y.1 = some .local ∨ (scope.names.lookup y.1 = some .cell ∧ ((cellsFrom (s.heap.objs.size + 1) scope.names []).lookup y.1).isSome = true) := fun ⟨n, v⟩ hy => by
    rcases S.par n (List.of_mem_zip hy).1 with q | q
    · exact .inl q
    · exact .inr ⟨q, PySem.W.cellsFrom_some _ _ _ (.inl q)⟩
  refine codeAny_call_function hr.depth (KX _ _ lk) rfl S.co S.gen rfl (PySem.W.codeRec_of KX hcd) (hb _ _ _ _ ?_)
  refine wpAny_newFunctionEnv_cells S.kind hkind fun env he s1 x => ?_
  subst he
  refine ⟨lim.keeps x.toInCall.keep, codeAny_func ?_⟩
  obtain ⟨t, ht, hq⟩ := hbody A outer s H vs Q E (hr.deeper _) hsp
  have I : Inv (cxOf CX P w K mg base N qual scope f cdv A outer s H E) [] (start N vs) H s1 := inv_start S hr.hd e0 hl r x
  refine wpAny_mono (ht [] s1 (start N vs) H _ I hq) (fun fl s' hs => ?_) fun e s' hs => hs
  have fin : ∀ {σ' : St} {H' : Hp} {v : V} {u : Value}, Inv (cxOf CX P w K mg base N qual scope f cdv A outer s H E) [] σ' H' s' → RelV v u → Q v H' → CE outer P w H s Q u s' :=
    fun {σ' H' v u} J rv q => ⟨v, H', J.os, J.bare, J.base, J.hok, rv, q⟩
  cases fl with
  | ret u =>
    obtain ⟨v, σ', H', J, rv, q⟩ := hs
    exact fin J rv q
  | next =>
    obtain ⟨σ', H', J, q⟩ := hs
    exact fin (v := V.non) (u := Value.none) J rfl q
  | brk =>
    obtain ⟨_, _, _, q⟩ := hs
    exact False.elim q
  | cont =>
    obtain ⟨_, _, _, q⟩ := hs
    exact False.elim q
end L2

namespace L2
open PySem PySem.Spec PyProof.Rows
section
variable {X : Cx} {x : Str} {p pos : Pos} {e : Expr} {es : List Expr} {t : TA} {id T : String} {r : List V → Hp → VK → Prop}

def tCB (r : List V → Hp → VK → Prop) (t : TA) : TE := fun σ H Q => t σ H fun vs H1 => r vs H1 Q
/-- f(e, ..), f a built-in function -/
theorem pe_callB (hc : CallR X (.builtin id) r) (hg : Gl X x) (hm : X.mg x = none) (hv : bootBuiltins x = some (.builtin id)) (ha : PA X (e :: es) t) (hn : x ≠ "__name__" := by decide) (hdb : (x == ("__debug__" : Str)) = false := by decide)
    (he : starEach (e :: es) X.env = (false, eval e X.env) :: starEach es X.env := by rfl) (hpl : (backTo pos (starEach es X.env)).any (·.1) = false := by rfl) : PE X (.Call (.Name x p) (e :: es) [] pos) (tCB r t) := by
  intro pins s σ H Q I h
  refine wpAny_Call_Name_kw (ld_blt I hg hm hv ?_ hn hdb)
  exact PyProof.Rows.callWith_builtin1 (thn (ha pos pins s σ H _ I h) fun us s1 ⟨vs, H1, I1, r1, q1⟩ => hc pins s1 σ H1 vs us Q I1 r1 q1) he hpl
/-- T(e, ..), T a built-in type -/
theorem pe_callTy (hc : CallR X (.type T) r) (hg : Gl X x) (hm : X.mg x = none) (hv : bootBuiltins x = some (.type T)) (ha : PA X (e :: es) t) (hn : x ≠ "__name__" := by decide) (hdb : (x == ("__debug__" : Str)) = false := by decide)
    (he : starEach (e :: es) X.env = (false, eval e X.env) :: starEach es X.env := by rfl) (hpl : (backTo pos (starEach es X.env)).any (·.1) = false := by rfl) : PE X (.Call (.Name x p) (e :: es) [] pos) (tCB r t) := by
  intro pins s σ H Q I h
  refine wpAny_Call_Name_kw (ld_blt I hg hm hv ?_ hn hdb)
  exact PyProof.Rows.callWith_type1 (thn (ha pos pins s σ H _ I h) fun us s1 ⟨vs, H1, I1, r1, q1⟩ => hc pins s1 σ H1 vs us Q I1 r1 q1) he hpl
end
end L2

namespace HT
open PySem PyProof.Rows

section
open PySem.SeqAt
open PySem.AutoSeq1 (wpAny_loadPart')
open PySem.MeetsSeq PySem.MeetsSeq2 PySem.MeetsSeq3

end

section
variable {prog : Program} {w : World} {A : Around} {E : Value → Shared → Prop} {s : Shared}

/-! ### t[a:b], not the whole -/
/-- a slice's bound as a place among n (d where it is left out) -/
def sIx (n d : Nat) : Option Int → Nat
  | none => d
  | some v => if v < 0 then (v + (n : Int)).toNat else min v.toNat n
theorem sIx_none (n d : Nat) : sIx n d none = d := rfl
theorem sIx_nat (n d k : Nat) : sIx n d (some (k : Int)) = min k n := by
  show (if (k : Int) < 0 then ((k : Int) + (n : Int)).toNat else min (k : Int).toNat n) = min k n
  rw [if_neg (by omega), Int.toNat_natCast]
theorem sIx_le (n d : Nat) (hd : d ≤ n) (o : Option Int) : sIx n d o ≤ n := by
  cases o with
  | none => exact hd
  | some v =>
    show (if v < 0 then (v + (n : Int)).toNat else min v.toNat n) ≤ n
    by_cases hv : v < 0
    · rw [if_pos hv]; omega
    · rw [if_neg hv]; exact Nat.min_le_right _ _
end
end HT

namespace L2
open PySem PySem.Spec PyProof.Rows

/-! ### the parts of a slice -/
abbrev TO := St → Hp → (Option Int → Hp → Prop) → Prop
/-- a slice's part (left out, or an int) -/
def PO (X : Cx) (e : Option Expr) (t : TO) : Prop :=
  ∀ (pins : List (Addr × Obj)) (s : Shared) (σ : St) (H : Hp) (Q : Option Int → Hp → Prop), Inv X pins σ H s → t σ H Q →
    wpAny (model X.prog X.w) X.A (evalPart e X.env) (fun u s' => ∃ o H', Inv X pins σ H' s' ∧ IsPart u o ∧ Q o H') X.xe s
def tNoPart : TO := fun _ H Q => Q none H
def tPart (t : TE) : TO := fun σ H Q => t σ H fun x H1 => ∃ i, x = .int i ∧ Q (some i) H1

theorem intsAre_of {ns : List Int} : ∀ {us : List Value}, Vals (ns.map V.int) us → IntsAre us ns := by
  induction ns with
  | nil => intro us r; rw [List.map_nil] at r; cases r; exact .nil
  | cons n ns ih =>
    intro us r
    rw [List.map_cons] at r
    cases r with
    | cons r1 r2 =>
      obtain ⟨t, e⟩ := r1
      subst e
      exact .cons n t (ih r2)

section
variable {X : Cx} {e : Expr} {te : TE} {lo hi : Option Expr} {tl th : TO} {pos p2 : Pos}

theorem po_none : PO X none tNoPart := by
  intro pins s σ H Q I h
  rw [evalPart_none]
  exact wpAny_pure ⟨none, H, I, .none, h⟩
theorem po_some (h : PE X e te) : PO X (some e) (tPart te) := by
  intro pins s σ H Q I hw
  rw [evalPart_some]
  refine thn (h pins s σ H _ I hw) fun u s1 ⟨x, H1, I1, r1, q1⟩ => ?_
  obtain ⟨i, rfl, q⟩ := q1
  obtain ⟨t, rfl⟩ := r1
  exact ⟨some i, H1, I1, .int i t, q⟩

/-- what a slice of a value is, by values: the slice object stands at sl -/
def SlR (X : Cx) (r : V → Option Int → Option Int → Hp → VK → Prop) : Prop :=
  ∀ (pins : List (Addr × Obj)) (s : Shared) (σ : St) (H : Hp) (x : V) (v vl vu : Value) (lo hi : Option Int) (sl : Addr) (Q : VK), Inv X pins σ H s → RelV x v → s.heap.IsSliceOf sl vl vu .none → IsPart vl lo → IsPart vu hi → r x lo hi H Q →
    ∃ T id, typeLookup (.type T) "__getitem__" = pure (some (.builtin id)) ∧ s.TypeIs v T ∧ wpAny (model X.prog X.w) X.A (getItem v (.ref sl)) (EP X pins σ Q) X.xe s
def tSl (r : V → Option Int → Option Int → Hp → VK → Prop) (te : TE) (tl th : TO) : TE := fun σ H Q => te σ H fun x H1 => tl σ H1 fun l H2 => th σ H2 fun u H3 => r x l u H3 Q
/-- a[lo:hi], any a -/
theorem pe_slice {r : V → Option Int → Option Int → Hp → VK → Prop} (hr : SlR X r) (he : PE X e te) (hl : PO X lo tl) (hu : PO X hi th) : PE X (.Subscript e (.Slice lo hi none p2) pos) (tSl r te tl th) := by
  intro pins s σ H Q I h
  refine Subscript_ (thn (he pins s σ H _ I h) fun v s1 ⟨x, H1, I1, r1, q1⟩ => ?_)
  refine wpAny_Slice (thn (hl pins s1 σ H1 _ I1 q1) fun vl s2 ⟨l, H2, I2, pl, q2⟩ => thn (hu pins s2 σ H2 _ I2 q2) fun vu s3 ⟨u, H3, I3, pu, q3⟩ => ?_)
  rw [evalPart_none]
  refine wpAny_pure ?_
  have I4 : Inv X pins σ H3 { s3 with heap := s3.heap.push { cls := .type "slice", data := .fields #[vl, vu, .none] } } := I3.kept (t' := s3.toks) fun b ob q => Heap.get?_push_of_some _ q
  obtain ⟨T, id, hT, ht, hg⟩ := hr pins { s3 with heap := s3.heap.push { cls := .type "slice", data := .fields #[vl, vu, .none] } } σ H3 x v vl vu l u s3.heap.objs.size Q I4 r1 (Heap.IsSliceOf.new ..) pl pu q3
  show wpAny (model X.prog X.w) X.A (subscriptTail e (.Slice lo hi none p2) v (.ref s3.heap.objs.size)) (EP X pins σ Q) X.xe { s3 with heap := s3.heap.push { cls := .type "slice", data := .fields #[vl, vu, .none] } }
  exact tail_any (ops := [.ref s3.heap.objs.size, v]) ht hT hg (by with_unfolding_all rfl)

/-- the items of xs[lo:hi] -/
def cutV (xs : List V) (lo hi : Option Int) : List V := (xs.drop (HT.sIx xs.length 0 lo)).take (HT.sIx xs.length xs.length hi - HT.sIx xs.length 0 lo)
theorem cutV_length (xs : List V) (lo hi : Option Int) : (cutV xs lo hi).length ≤ xs.length := by
  unfold cutV
  rw [List.length_take, List.length_drop]
  omega
/-! ### t < u, t + u -/
end
end L2

namespace L2
open PySem PySem.Spec PyProof.Rows

/-! ### places -/
/-- the place that an index of any sign means -/
def ixN (n : Nat) (i : Int) : Option Nat := if 0 ≤ i then (if i < n then some i.toNat else none) else if -(n : Int) ≤ i then some (i + n).toNat else none
def atI {α : Type} (xs : List α) (i : Int) : Option α := (ixN xs.length i).bind fun j => xs[j]?
theorem ixN_seq {n : Nat} {i : Int} {j : Nat} (h : ixN n i = some j) : seqIndex? i n = some j ∧ j < n ∧ -(n : Int) ≤ i ∧ i < n := by
  unfold ixN at h
  by_cases h0 : 0 ≤ i
  · rw [if_pos h0] at h
    by_cases h1 : i < n
    · rw [if_pos h1] at h
      have e : i.toNat = j := Option.some.inj h
      exact ⟨by rw [seqIndex_of h0 h1, e], by omega, by omega, h1⟩
    · rw [if_neg h1] at h; cases h
  · rw [if_neg h0] at h
    by_cases h1 : -(n : Int) ≤ i
    · rw [if_pos h1] at h
      have e : (i + n).toNat = j := Option.some.inj h
      exact ⟨by rw [seqIndex_neg (by omega) h1, e], by omega, h1, by omega⟩
    · rw [if_neg h1] at h; cases h
theorem atI_get {α : Type} {xs : List α} {i : Int} {v : α} (h : atI xs i = some v) : ∃ j, seqIndex? i xs.length = some j ∧ xs[j]? = some v ∧ j < xs.length ∧ -(xs.length : Int) ≤ i ∧ i < xs.length := by
  unfold atI at h
  cases e : ixN xs.length i with
  | none => rw [e] at h; cases h
  | some j =>
    rw [e] at h
    obtain ⟨h1, h2, h3, h4⟩ := ixN_seq e
    exact ⟨j, h1, h, h2, h3, h4⟩
theorem atI_nat {α : Type} {xs : List α} {j : Nat} {v : α} (h : xs[j]? = some v) : atI xs (j : Int) = some v := by
  have hj : j < xs.length := (List.getElem?_eq_some_iff.mp h).1
  have e : ixN xs.length (j : Int) = some j := by
    unfold ixN
    rw [if_pos (by omega), if_pos (by omega)]; simp
  unfold atI; rw [e]; exact h
theorem atI_last {α : Type} (xs : List α) (v : α) : atI (xs ++ [v]) (-1) = some v := by
  have hl : (xs ++ [v]).length = xs.length + 1 := by simp
  have e : ixN (xs ++ [v]).length (-1) = some xs.length := by
    unfold ixN
    rw [hl, if_neg (by decide), if_pos (by omega)]
    congr 1
    omega
  unfold atI
  rw [e]
  show (xs ++ [v])[xs.length]? = some v
  simp

/-! ### what may be subscripted -/
/-- what stands as an index of a plain subscript -/
def PlainIx (b : Expr) : Prop := ∀ o i, subscripted b false o i = operate [o, i] (getItem o i)
/-- a subscript by values -/
def IxR (X : Cx) (r : R2) : Prop :=
  ∀ (value slice : Expr) (pins : List (Addr × Obj)) (s : Shared) (σ : St) (H : Hp) (x y : V) (v u : Value) (Q : VK), Inv X pins σ H s → RelV x v → RelV y u → r x y H Q →
    subscripted slice false v u = operate [v, u] (getItem v u) → wpAny (model X.prog X.w) X.A (subscriptTail value slice v u) (EP X pins σ Q) X.xe s
/-- a call of a builtin's method by values: the receiver, the arguments -/
def MtR (X : Cx) (id : String) (r : V → List V → Hp → VK → Prop) : Prop :=
  ∀ (pins : List (Addr × Obj)) (s : Shared) (σ : St) (H : Hp) (x : V) (xs : List V) (v : Value) (us : List Value) (Q : VK), Inv X pins σ H s → RelV x v → Vals xs us → r x xs H Q →
    wpAny (model X.prog X.w) X.A (call (.builtin id) (v :: us)) (EP X pins σ Q) X.xe s
section
variable {X : Cx} {a b : Expr} {ta tb : TE} {pos : Pos}
/-- a[b] -/
theorem pe_ix {r : R2} (hr : IxR X r) (ha : PE X a ta) (hb : PE X b tb) (hs : PlainIx b) : PE X (.Subscript a b pos) (tOp r ta tb) := by
  intro pins s σ H Q I h
  exact Subscript_ (binT ha hb I h fun v u s2 x y H2 I2 rx ry q => hr a b pins s2 σ H2 x y v u Q I2 rx ry q (hs _ _))

def rIxL (K : PySem.W.Frag) : R2 := fun x y H Q => ∃ p xs i v, x = .ref p ∧ y = .int i ∧ SqL K H p xs ∧ atI xs i = some v ∧ Q v H
def rIxS : R2 := fun x y H Q => ∃ z i c, x = .str z ∧ y = .int i ∧ z.length ≤ sizeLine ∧ atI z.cps.toList i = some c ∧ Q (.str ⟨#[c]⟩) H
theorem ix_list : IxR X (rIxL X.K) := by
  intro value slice pins s σ H x y v u Q I rx ry h hs
  obtain ⟨p, xs, i, z, rfl, rfl, hq, he, q⟩ := h
  cases rx
  obtain ⟨t, rfl⟩ := ry
  obtain ⟨its, r, pl, hz⟩ := I.list hq
  obtain ⟨j, h1, h2, h3, h4, h5⟩ := atI_get he
  obtain ⟨w, ew, rw'⟩ := r.get h2
  have hl := r.length
  have hn := line63
  have fin : EP X pins σ Q w s := ⟨z, H, I, rw', q⟩
  by_cases h0 : 0 ≤ i
  · have hj : i.toNat = j := by
      rw [seqIndex_of h0 h5] at h1
      exact Option.some.inj h1
    exact item_listR pl.isList h0 (by omega) (by rw [hj]; simpa using ew) fin hs
  · have hj : (i + (its.toArray.size : Int)).toNat = j := by
      rw [seqIndex_neg (by omega) h4] at h1
      rw [List.size_toArray, ← hl]
      exact Option.some.inj h1
    exact subscriptTail_builtinR (x := w) pl.isList.typeIs slot_list_getitem.lookup
      (wpAny_getItem_list_neg (Q := fun r s' => r = w ∧ EP X pins σ Q r s') pl.isList (by omega) (by rw [List.size_toArray] <;> omega) (by omega) (by rw [hj]; simpa using ew) ⟨rfl, fin⟩) hs
theorem ix_str : IxR X rIxS := by
  intro value slice pins s σ H x y v u Q I rx ry h hs
  obtain ⟨z, i, c, rfl, rfl, hz, he, q⟩ := h
  obtain ⟨t, rfl⟩ := rx
  obtain ⟨t', rfl⟩ := ry
  obtain ⟨j, h1, h2, h3, h4, h5⟩ := atI_get he
  have hl : z.cps.toList.length = z.length := by simp [Str.length]
  rw [hl] at h1 h4 h5
  have hn := line63
  exact tail_any (typeIs_str s z t) slot_str_getitem.lookup (getItem_str (c := c) (by
    have e1 : decide (i < -(2 ^ 63 : Int)) = false := decide_eq_false (by omega)
    have e2 : decide (i ≥ 2 ^ 63) = false := decide_eq_false (by omega)
    rw [e1, e2, Bool.or_false]) (by rw [h1]; simpa using h2) ⟨.str ⟨#[c]⟩, H, I.tok _, ⟨_, rfl⟩, q⟩) hs
/-! ### xs[i] = v, any sign -/
/-! ### slices -/
theorem slice_bounds (lo hi : Option Int) (n : Nat) : (sliceBounds lo hi none n).1 = ((HT.sIx n 0 lo : Nat) : Int) ∧ (sliceBounds lo hi none n).2.1 = ((HT.sIx n n hi : Nat) : Int) ∧ (sliceBounds lo hi none n).2.2 = 1 := by
  refine ⟨?_, ?_, rfl⟩
  · cases lo with
    | none => simp [sliceBounds, HT.sIx]
    | some i =>
      simp only [sliceBounds, HT.sIx, Option.getD_none, show (1 : Int) > 0 by decide, if_true]
      by_cases h : i < 0
      · simp only [h, if_true] <;> omega
      · simp only [h, if_false] <;> omega
  · cases hi with
    | none => simp [sliceBounds, HT.sIx]
    | some i =>
      simp only [sliceBounds, HT.sIx, Option.getD_none, show (1 : Int) > 0 by decide, if_true]
      by_cases h : i < 0
      · simp only [h, if_true] <;> omega
      · simp only [h, if_false] <;> omega
theorem slicePick_cut (its : List Value) (lo hi : Option Int) : slicePick its.toArray lo hi none = ((its.drop (HT.sIx its.length 0 lo)).take (HT.sIx its.length its.length hi - HT.sIx its.length 0 lo)).toArray := by
  obtain ⟨h1, h2, h3⟩ := slice_bounds lo hi its.toArray.size
  unfold slicePick
  rw [h1, h2, h3]
  simp only [sliceRange_one, pick_run, List.size_toArray] <;> rfl
/-- xs[lo:hi] of a list: a new list -/
def rSlL (K : PySem.W.Frag) : V → Option Int → Option Int → Hp → VK → Prop := fun x lo hi H Q => ∃ a xs, x = .ref a ∧ SqL K H a xs ∧ ∀ p, H p = none → Q (.ref p) (upd H p (.lst (cutV xs lo hi)))
theorem sl_list : SlR X (rSlL X.K) := by
  intro pins s σ H x v vl vu lo hi sl Q I rx hs pl pu h
  obtain ⟨a, xs, rfl, hx, q⟩ := h
  cases rx
  obtain ⟨its, r, ht, hz⟩ := I.list hx
  have hlen := r.length
  refine ⟨"list", _, slot_list_getitem.lookup, ht.isList.typeIs, ?_⟩
  refine wpAny_getItem_list_slice ht.isList hs pl pu .none (by simp) ?_ (by rw [List.size_toArray] <;> omega)
  rw [slicePick_cut, ← hlen]
  refine ⟨.ref s.heap.objs.size, _, I.laid (t' := s.toks) (o := .lst (cutV xs lo hi)) (fun b ob q => Heap.get?_push_of_some _ q) (Nat.le_refl _) ?_, rfl, q _ (I.hok.fresh (Nat.le_refl _))⟩
  exact ⟨Nat.le_trans (cutV_length xs lo hi) hz, _, 0, (r.drop (HT.sIx xs.length 0 lo)).take (HT.sIx xs.length xs.length hi - HT.sIx xs.length 0 lo), Heap.get?_push_size _ rfl⟩

/-! ### in, not in: flat items -/
def flatV : V → Bool
  | .non => true
  | .bl _ => true
  | .int _ => true
  | .str _ => true
  | _ => false
/-- == of flat values -/
def eqV : V → V → Bool
  | .non, .non => true
  | .bl a, .bl b => a == b
  | .bl a, .int b => (if a then 1 else 0) == b
  | .int a, .bl b => a == (if b then 1 else 0)
  | .int a, .int b => a == b
  | .str a, .str b => a == b
  | _, _ => false
theorem eqAt_V {A : Around} {s : Shared} {y x : V} {u v : Value} (ry : RelV y u) (rx : RelV x v) (fy : flatV y = true) (fx : flatV x = true) : SeqAt.EqAt A s u v (eqV y x) := by
  cases y with
  | non =>
    cases ry
    cases x with
    | non => cases rx; exact SeqAt.EqAt.same _
    | bl b => cases rx; exact SeqAt.EqAt.none_bool b
    | int b => obtain ⟨t, rfl⟩ := rx; exact SeqAt.EqAt.none_int b t
    | str b => obtain ⟨t, rfl⟩ := rx; exact SeqAt.EqAt.none_str b t
    | _ => exact absurd (show false = true from fx) Bool.false_ne_true
  | bl a =>
    cases ry
    cases x with
    | non => cases rx; exact SeqAt.EqAt.bool_none a
    | bl b => cases rx; exact SeqAt.EqAt.bool_bool a b
    | int b => obtain ⟨t, rfl⟩ := rx; exact SeqAt.EqAt.bool_int a b t
    | str b => obtain ⟨t, rfl⟩ := rx; exact SeqAt.EqAt.bool_str a b t
    | _ => exact absurd (show false = true from fx) Bool.false_ne_true
  | int a =>
    obtain ⟨t', rfl⟩ := ry
    cases x with
    | non => cases rx; exact SeqAt.EqAt.int_none a t'
    | bl b => cases rx; exact SeqAt.EqAt.int_bool a t' b
    | int b => obtain ⟨t, rfl⟩ := rx; exact SeqAt.EqAt.int_int a t' b t
    | str b => obtain ⟨t, rfl⟩ := rx; exact SeqAt.EqAt.int_str a t' b t
    | _ => exact absurd (show false = true from fx) Bool.false_ne_true
  | str a =>
    obtain ⟨t', rfl⟩ := ry
    cases x with
    | non => cases rx; exact SeqAt.EqAt.str_none a t'
    | bl b => cases rx; exact SeqAt.EqAt.str_bool a t' b
    | int b => obtain ⟨t, rfl⟩ := rx; exact SeqAt.EqAt.str_int a t' b t
    | str b => obtain ⟨t, rfl⟩ := rx; exact SeqAt.EqAt.str_str a t' b t
    | _ => exact absurd (show false = true from fx) Bool.false_ne_true
  | _ => exact absurd (show false = true from fy) Bool.false_ne_true
/-- the items' answers, read off the values (a value's own answer does not lean on its token) -/
def eqU (x : V) (u : Value) : Bool := match u with
  | .none => eqV .non x
  | .bool b => eqV (.bl b) x
  | .int i _ => eqV (.int i) x
  | .str z _ => eqV (.str z) x
  | _ => false
theorem eqU_of {x y : V} {u : Value} (r : RelV y u) (f : flatV y = true) : eqU x u = eqV y x := by
  cases y with
  | non => cases r; rfl
  | bl b => cases r; rfl
  | int i => obtain ⟨t, rfl⟩ := r; rfl
  | str z => obtain ⟨t, rfl⟩ := r; rfl
  | _ => exact absurd (show false = true from f) Bool.false_ne_true
theorem mem_eqAt {A : Around} {s : Shared} {x : V} {v : Value} (rx : RelV x v) (fx : flatV x = true) : ∀ {xs : List V} {us : List Value}, Vals xs us → xs.all flatV = true → ∀ u ∈ us, SeqAt.EqAt A s u v (eqU x u)
  | _, _, .nil, _ => fun u hu => by cases hu
  | y :: xs, u :: us, .cons r t, f => fun u' hu => by
    rw [List.all_cons, Bool.and_eq_true] at f
    rcases List.mem_cons.mp hu with rfl | hu
    · rw [eqU_of r f.1]; exact eqAt_V r rx f.1 fx
    · exact mem_eqAt rx fx t f.2 u' hu
/-! ### len, list(x), tuple(x) of any list or tuple that is read -/
theorem call_len_seq : CallR X (.builtin "len") (fun xs H Q => ∃ p ys, xs = [.ref p] ∧ (SqL X.K H p ys ∨ SqT X.K H p ys) ∧ Q (.int ys.length) H) := by
  intro pins s σ H xs us Q I r h
  obtain ⟨p, ys, rfl, hq, q⟩ := h
  obtain ⟨u, rfl, rx⟩ := vals1 r
  cases rx
  have hn := line63
  rcases hq with hq | hq
  · obtain ⟨its, r', pl, hz⟩ := I.list hq
    have hlen := r'.length
    exact Calls.call_len_list pl.isList (by simp only [List.size_toArray] <;> omega) ⟨.int ys.length, H, I.tok _, ⟨s.toks + 1, by rw [List.size_toArray, hlen]⟩, q⟩
  · obtain ⟨its, r', pl, hz⟩ := I.tuple hq
    have hlen := r'.length
    exact len_tuple pl (by simp only [List.size_toArray] <;> omega) ⟨.int ys.length, H, I.tok _, ⟨s.toks + 1, by rw [List.size_toArray, hlen]⟩, q⟩
theorem call_len_str : CallR X (.builtin "len") (fun xs H Q => ∃ z, xs = [.str z] ∧ z.length ≤ sizeLine ∧ Q (.int z.length) H) := by
  intro pins s σ H xs us Q I r h
  obtain ⟨z, rfl, hz, q⟩ := h
  obtain ⟨u, rfl, t, rfl⟩ := vals1 r
  have hn := line63
  exact len_str (by omega) ⟨.int z.length, H, I.tok _, ⟨_, rfl⟩, q⟩
/-! ### the call of a builtin's method: o.m(..) -/
/-- the value is of that builtin type -/
def tyV (K : PySem.W.Frag) (T : String) (x : V) (H : Hp) : Prop := match x with
  | .str _ => T = "str"
  | .int _ => T = "int"
  | .ref p => (T = "list" ∧ ∃ xs, SqL K H p xs) ∨ (T = "tuple" ∧ ∃ o, K.lookup p = some o ∧ o.cls = .type "tuple" ∧ o.dict = none) ∨
      (T = "dict" ∧ ((∃ kvs, H p = some (.dK kvs)) ∨ ∃ kvs, H p = some (.dT kvs))) ∨ (T = "set" ∧ ∃ S n, H p = some (.set S n))
  | _ => False
theorem tyV_is {pins : List (Addr × Obj)} {σ : St} {H : Hp} {s : Shared} {T : String} {x : V} {v : Value} (I : Inv X pins σ H s) (r : RelV x v) (ty : tyV X.K T x H) :
    s.TypeIs v T ∧ ∀ a, v = .ref a → ∃ ob, s.heap.get? a = some ob ∧ ob.dict = none := by
  cases x with
  | str z =>
    obtain ⟨t, rfl⟩ := r
    cases (show T = "str" from ty)
    exact ⟨typeIs_str s z t, fun _ e => nomatch e⟩
  | int i =>
    obtain ⟨t, rfl⟩ := r
    cases (show T = "int" from ty)
    exact ⟨typeIs_int s i t, fun _ e => nomatch e⟩
  | ref p =>
    cases r
    rcases ty with ⟨rfl, xs, hq⟩ | ⟨rfl, o, hk, hc, hd⟩ | ⟨rfl, hk⟩ | ⟨rfl, S, n, hk⟩
    · obtain ⟨its, _, pl, _⟩ := I.list hq
      refine ⟨pl.isList.typeIs, fun a e => ?_⟩
      cases e
      obtain ⟨o, n, e, c, hd, _⟩ := pl
      exact ⟨o, e, hd⟩
    · refine ⟨⟨o, I.kIn p o hk, hc⟩, fun a e => ?_⟩
      cases e
      exact ⟨o, I.kIn _ o hk, hd⟩
    · have z : ∃ o, s.heap.get? p = some o ∧ o.ExactDict := by
        rcases hk with ⟨kvs, hk⟩ | ⟨kvs, hk⟩
        · obtain ⟨_, _, _, _, o, _, _, e, ex, _⟩ := I.hok p _ hk
          exact ⟨o, e, ex⟩
        · obtain ⟨_, _, _, _, o, _, _, e, ex, _⟩ := I.hok p _ hk
          exact ⟨o, e, ex⟩
      obtain ⟨o, e, ex⟩ := z
      refine ⟨⟨o, e, ex.1⟩, fun a e2 => ?_⟩
      cases e2
      exact ⟨o, e, ex.2.1⟩
    · obtain ⟨o, _, _, _, e, ex, _⟩ := I.hok p _ hk
      refine ⟨⟨o, e, ex.1⟩, fun a e2 => ?_⟩
      cases e2
      exact ⟨o, e, ex.2.1⟩
  | _ => exact False.elim ty
def tBM (K : PySem.W.Frag) (T : String) (r : V → List V → Hp → VK → Prop) (to : TE) (t : TA) : TE := fun σ H Q => to σ H fun x H1 => tyV K T x H1 ∧ t σ H1 fun xs H2 => r x xs H2 Q
variable {o e : Expr} {es : List Expr} {to : TE} {t : TA} {name : Str} {apos cpos : Pos} {T id : String} {r : V → List V → Hp → VK → Prop}
theorem pe_bm (pa : PlainAttrs T) (slot : Slot T name id) (hty : typeOf (.builtin id) = pure (.type "method_descriptor")) (hm : MtR X id r) (ho : PE X o to) (ha : PA X (e :: es) t)
    (hbase : attributeBase o name X.env (eval o X.env) = eval o X.env := by rfl)
    (hfew : ((backTo cpos (starEach (e :: es) X.env)).all (fun x => !x.1) && (backToKw cpos (keywordEach [] X.env)).all (fun x => x.1.isSome)
      && decide ((e :: es).length + ([] : List Keyword).length + (if ([] : List Keyword).isEmpty then 0 else 1) < 30)) = true := by rfl)
    (hline : (apos.endLine == cpos.line) = true := by rfl) (hs : starEach (e :: es) X.env = (false, eval e X.env) :: starEach es X.env := by rfl) (hplain : (backTo cpos (starEach es X.env)).any (·.1) = false := by rfl) :
    PE X (.Call (.Attribute o name apos) (e :: es) [] cpos) (tBM X.K T r to t) := by
  intro pins s σ H Q I h
  refine wpAny_Call_method_late hbase hfew hline rfl (thn (ho pins s σ H _ I h) fun v s1 ⟨x, H1, I1, r1, ty, q1⟩ => ?_)
  obtain ⟨h1, h2⟩ := tyV_is I1 r1 ty
  refine ⟨T, id, pa, slot, hty, h1, h2, ?_⟩
  have hA := ha cpos pins s1 σ H1 _ I1 q1
  rw [hs] at hA ⊢
  refine Calls.callWith_builtin (by show (false || (backTo cpos (starEach es X.env)).any (·.1)) = false; rw [hplain] <;> rfl) (Calls.evalArgs_plain ?_)
  exact thn hA fun us s2 ⟨vs, H2, I2, r2, q2⟩ => hm pins s2 σ H2 x vs v us Q I2 r1 r2 q2
/- xs.append(e), list.index on a module's tuple .. are MtR facts of 06m -/
end
end L2

namespace L2
open PySem PySem.Spec PyProof.Rows

def MtM (X : Cx) (id : String) (r : V → List V → Hp → VK → Prop) : Prop :=
  ∀ (pins : List (Addr × Obj)) (s : Shared) (σ : St) (H : Hp) (x : V) (xs : List V) (v : Value) (us : List Value) (Q : VK), Inv X pins σ H s → RelV x v → Vals xs us → r x xs H Q →
    wpAny (model X.prog X.w) X.A (call (.builtin id) (v :: us)) (EP X pins σ Q) X.xe s

/-! ### lists of values -/
theorem Vals.one : ∀ {x : V} {us : List Value}, Vals [x] us → ∃ u, us = [u] ∧ RelV x u
  | _, _, .cons r .nil => ⟨_, rfl, r⟩
section
variable {X : Cx} {pins : List (Addr × Obj)} {σ : St} {H : Hp} {s : Shared} {l b : Addr} {xs ys zs : List V}

/-! ### the two steps: a tracked list is rewritten, a new list is laid -/
theorem Inv.lset {its its' : List Value} {n : Nat} {f : Array Value → Array Value} {t' : Nat} (I : Inv X pins σ H s) (hH : H l = some (.lst xs))
    (e : s.heap.get? l = some { cls := .type "list", data := .seq its.toArray n }) (hf : f its.toArray = its'.toArray) (hv : Vals ys its') (hz : ys.length ≤ sizeLine) :
    Inv X pins σ (upd H l (.lst ys)) { s with heap := s.heap.update l (Obj.mapSeq f), toks := t' } := by
  have q := PySem.IsL.update e f
  rw [hf] at q
  refine I.write (x := l) (e := l) (by rw [hH]; exact trivial) (.inl rfl) (fun b' u hb hu => (Heap.get?_update_other s.heap (Obj.mapSeq f) (Ne.symm hb)).trans hu) ⟨_, q⟩ ?_
  exact ⟨hz, its', _, hv, q⟩
theorem Inv.lnew {its : List Value} {t' : Nat} (I : Inv X pins σ H s) (hv : Vals ys its) (hz : ys.length ≤ sizeLine) :
    Inv X pins σ (upd H s.heap.objs.size (.lst ys)) { s with heap := s.heap.push { cls := .type "list", data := .seq its.toArray }, toks := t' } :=
  I.laid (fun _ _ q => Heap.get?_push_of_some _ q) (Nat.le_refl _) ⟨hz, its, 0, hv, Heap.get?_push_size _ rfl⟩
theorem Inv.fresh (I : Inv X pins σ H s) : H s.heap.objs.size = none := I.hok.fresh (Nat.le_refl _)
theorem Inv.lstM (I : Inv X pins σ H s) (hH : H l = some (.lst xs)) : xs.length ≤ sizeLine ∧ ∃ (its : List Value) (n : Nat), Vals xs its ∧ xs.length = its.length ∧ s.heap.get? l = some { cls := .type "list", data := .seq its.toArray n } := by
  obtain ⟨z, its, n, r, e⟩ := I.hok l _ hH
  exact ⟨z, its, n, r, r.length, e⟩

end

section
variable {X : Cx}

/-! ### methods -/
def rAppend : V → List V → Hp → VK → Prop := fun x vs H Q => ∃ l xs y, x = .ref l ∧ vs = [y] ∧ H l = some (.lst xs) ∧ xs.length < sizeLine ∧ Q .non (upd H l (.lst (xs ++ [y])))
theorem mt_append : MtM X "list.append" rAppend := by
  intro pins s σ H x vs v us Q I rx rv h
  obtain ⟨l, xs, y, rfl, rfl, hH, hz, q⟩ := h
  cases rx
  obtain ⟨u, rfl, ru⟩ := rv.one
  obtain ⟨z, its, n, r, hl, e⟩ := I.lstM hH
  refine call_meets F.slot_list_append ⟨_, e, rfl⟩ F.entry_list_append (F.args_list_append_2 _ _) (PySem.list_append l its.toArray n u (by rw [List.size_toArray]; omega)) ⟨e, ?_⟩
  refine ⟨.non, _, I.lset (its' := its ++ [u]) hH e (by simp) (r.append (.cons ru .nil)) ?_, rfl, q⟩
  rw [List.length_append, List.length_singleton]
  omega

/-! ### list + list, list += list, list * int -/
def rCat : R2 := fun x y H Q => ∃ l b xs zs, x = .ref l ∧ y = .ref b ∧ H l = some (.lst xs) ∧ H b = some (.lst zs) ∧ xs.length + zs.length ≤ sizeLine ∧ ∀ p, H p = none → Q (.ref p) (upd H p (.lst (xs ++ zs)))
theorem op_cat : OpR X (binaryOp .Add) rCat := by
  intro pins s σ H x y v u Q I rx ry h
  obtain ⟨l, b, xs, zs, rfl, rfl, hH, hB, hz, q⟩ := h
  cases rx
  cases ry
  obtain ⟨z, its, n, r, hl, e⟩ := I.lstM hH
  obtain ⟨z2, its2, n2, r2, hl2, e2⟩ := I.lstM hB
  refine PySem.P.add_list e e2 ?_ (by rw [List.size_toArray, List.size_toArray]; omega)
  have ea : its.toArray ++ its2.toArray = (its ++ its2).toArray := by simp
  rw [ea]
  exact ⟨.ref _, _, I.lnew (t' := s.toks) (r.append r2) (by rw [List.length_append]; omega), rfl, q _ I.fresh⟩
/-! ### del xs[i] -/
end

/-! ### xs[a:b] = ys -/
section
variable {prog : Program} {w : World} {A : Around} {E : Value → Shared → Prop} {s : Shared}
end

section
variable {X : Cx}
end
end L2

namespace Att
open PySem PySem.W PySem.Calls PyProof.Rows

/-! ### the script -/
theorem ints_of_wellAll {P : Params} {h : Heap} : ∀ (ns : List Int) (vs : List Value), WellAll P h vs (ns.map WData.int) → IntsAre vs ns := by
  intro ns
  induction ns with
  | nil =>
    intro vs w
    rw [List.map_nil] at w
    cases w
    exact .nil
  | cons n ns ih =>
    intro vs w
    rw [List.map_cons] at w
    cases w with
    | cons a b =>
      cases a
      exact .cons _ _ (ih _ b)

theorem script_of {l : OpenLaw} {n : Nat} (hn : l.most = some n) {P : Params} {h : Heap} {args : List WData} {vals : List Value}
    (hpre : l.row.toRowW.claim.pre args = true) (hwl : WellAll P h vals args) :
    ∃ a vs ns, vals = [Value.ref a] ∧ args = [WData.list (ns.map WData.int)] ∧ h.get? a = some { cls := .type "list", data := .seq vs.toArray } ∧ IntsAre vs ns ∧ ns.length ≤ n := by
  have hsh : WShape.hasAll [] args [.list .int] = true := (pre_splitW hpre).1
  have hc : l.pre.holds [] { args := args } = true := (pre_splitW hpre).2
  obtain ⟨d, r, rfl, h1, h2⟩ := hasAllW_cons hsh
  obtain rfl := hasAllW_nil h2
  obtain ⟨xs, rfl, h3⟩ := hasW_list h1
  obtain ⟨ns, rfl⟩ := items_int h3
  have hlen : ns.length ≤ n := by
    unfold OpenLaw.pre at hc
    have h4 : (WTm.not (.lt (.lit (.int (n : Int))) (.len (.arg 0)))).holds [] { args := [.list (ns.map .int)] } = true := by
      have h4 := (holds_andW hc).1
      rw [hn] at h4
      exact h4
    have h5 := condW_of h4 (w_not (w_lt w_lit (w_len_list (w_arg rfl))))
    rw [List.length_map] at h5
    refine Nat.le_of_not_lt fun q => ?_
    have q' : (n : Int) < ((ns.length : Nat) : Int) := by omega
    first
      | (rw [decide_eq_true q'] at h5; exact absurd h5 (by decide))
      | (simp at h5; omega)
  cases hwl with
  | cons w1 w2 =>
    cases w2
    cases w1 with
    | list ho hall => exact ⟨_, _, ns, rfl, rfl, ho, ints_of_wellAll ns _ hall, hlen⟩

theorem post_true (l : OpenLaw) (args : List WData) : l.row.toRowW.claim.post args (.bool true) args = true :=
  postW_of (r := l.row.toRowW) (X := (true == true))
    (show WShape.has [] (.bool true) .bool = true by first | rfl | decide | simp [WShape.has, WShape.arms, WShape.armsAll])
    (show (WTm.eq .res (.lit (.bool true))).value [] { args := args, res := some (.bool true), after := args } = some (.bool (true == true)) from w_eq_bool (w_res rfl) w_lit) rfl

/-! ### the attachment: holds_open's last premise (the goal 'hc' behind k_head) from a wpAny of the law's body -/
/-- the same from a codeAny of the CALL (for a layer whose function contracts speak of calls) -/
theorem attach_call {l : OpenLaw} {n : Nat} {q : Program} {loose : List Str} {XP : (Str → Option Value) → Heap → Prop} {YP : World → Heap → Prop} {d : DefRec}
    (hn : l.most = some n) (hdf : d.params.defaults = [])
    (call : ∀ (w : World) (s₀ s₁ : Shared) (mg mb : Str → Option Value) (fa : Addr) (o : Obj) (pm cd doc : Value) (a : Addr) (vs : List Value) (ns : List Int),
      Ground q loose [] XP w s₀ mg mb s₁.heap → YP w s₁.heap →
      s₁.heap.get? fa = some o → o.data = .func (docDef d.name d.params d.body d.scope pm cd doc) → s₁.heap.CodeRec cd d.name → mg d.name = some (.ref fa) →
      s₁.heap.get? a = some { cls := .type "list", data := .seq vs.toArray } → IntsAre vs ns → ns.length ≤ n → s₁.gens = #[] →
      codeAny (model l.prog w) callerA (.call (.ref fa) ⟨[.ref a], []⟩) (fun r s' => r = .ok (.ret (.bool true)) ∧ OldK s₁.heap s'.heap ∧ s'.os = s₁.os ∧ AllBare s'.gens) s₁) :
    WalkO q loose XP YP l.row.toRowW d [] (fun f vs => PySem.call f vs) := by
  intro w s₀ s₁ mg mb G Y fa o pm cd doc dV kV ho hd hcd hD hmg hg args vals as hpre hlay hrd hwl hlo
  obtain rfl : dV = .none := Dflts.none hD hdf
  obtain rfl : kV = .none := Dflts.noKw hD
  obtain ⟨a, vs, ns, rfl, rfl, hobj, hints, hlen⟩ := script_of hn hpre hwl
  refine enter_call (codeAny_mono (call w s₀ s₁ mg mb fa o pm cd doc a vs ns G Y ho (fd_plain hd) hcd hmg hobj hints hlen hg) fun r s' hq => ?_)
  obtain ⟨rfl, h2, h3, h4⟩ := hq
  exact ⟨.inl ⟨.bool true, .bool true, [], rfl, fun _ => rfl, .bool true, post_true l _, fun _ => ⟨List.Pairwise.nil, fun _ hm => (nomatch hm)⟩⟩, h2, h3, h4⟩

/-! ### rules over ANY heap (no ledger) from facts about the written part K: the library's own take a ledger (News) for what they write -/
section
variable {prog : Program} {w : World} {A : Around} {E : Value → Shared → Prop} {s : Shared} {K : Frag}

/-! the whole heap as the ledger: makes every rule that writes through a ledger a rule over any heap -/
end
end Att

namespace L2
open PySem PySem.Spec PyProof.Rows

theorem vals_ints : ∀ {vs : List Value} {ns : List Int}, IntsAre vs ns → Vals (ns.map V.int) vs
  | _, _, .nil => .nil
  | _, _, .cons n t h => .cons ⟨t, rfl⟩ (vals_ints h)

/-- nothing is tracked but the script, known to the object (or it is an object of the module) -/
def Only (H : Hp) : Prop := ∀ b, H b = none ∨ ∃ o xs, H b = some (.frz o (.lst xs))

/-- THE HEAD: the law's promise, at the heap behind the top. F, the promise of the law's def, may use that base is part of the heap (so K.In base, base.Ns mainGlobals mg stand in Mod) -/
theorem law_call {P : Program} {w : World} {K : PySem.W.Frag} {mg mb : Str → Option Value} {CX : CXT} {k : Nat} {fa a : Addr} {fd : FuncData} {x : Str} {sp : Sp} {s₁ : Shared} {vs : List Value} {ns : List Int}
    (KX : K.In s₁.heap) (hns : s₁.heap.Ns mainGlobals mg) (hb : s₁.heap.Ns builtinsNs mb) (hbb : ∀ x : Str, x ≠ "__name__" → mb x = bootBuiltins x) (hlim : s₁.heap.NoLimit) (hseer : s₁.heap.NoSeer) (hg : s₁.gens = #[])
    (ha : s₁.heap.get? a = some { cls := .type "list", data := .seq vs.toArray }) (hi : IntsAre vs ns) (hl : ns.length ≤ sizeLine) (hr : Room k callerA)
    (F : ∀ base : Heap, K.In base → base.Ns mainGlobals mg → FnOk P w K mg base CX k fa fd [x] sp) (hbind : ∀ (s : Shared) (u : Value), BindsTo s fd ⟨[u], []⟩ [(x, u)])
    (hsp : ∀ H : Hp, Only H → SqL K H a (ns.map V.int) → sp [.ref a] H (fun v _ => v = .bl true) fun _ _ _ => False)
    (hCX : ∀ H e s', CX [] H s₁ (fun _ _ _ => False) e s' → False) :
    codeAny (model P w) callerA (.call (.ref fa) ⟨[.ref a], []⟩) (fun r s' => r = .ok (.ret (.bool true)) ∧ OldK s₁.heap s'.heap ∧ s'.os = s₁.os ∧ AllBare s'.gens) s₁ := by
  have rv := vals_ints hi
  have lenV := hi.length
  -- from an abstract heap in which nothing but the script may be tracked
  have core : ∀ H : Hp, Only H → SqL K H a (ns.map V.int) → HOk P w H s₁.heap → (∀ b, H b ≠ none → b = a) → (H a ≠ none → K.lookup a = none) →
      codeAny (model P w) callerA (.call (.ref fa) ⟨[.ref a], []⟩) (fun r s' => r = .ok (.ret (.bool true)) ∧ OldK s₁.heap s'.heap ∧ s'.os = s₁.os ∧ AllBare s'.gens) s₁ := by
    intro H hO hS hok hA hK
    have base_of : ∀ {b : Addr} {o : Obj}, s₁.heap.get? b = some o → H b = none → (hidT s₁.heap H).get? b = some o := fun e n => hidT_get e n
    have noA : ∀ {b : Addr} {o : Obj} {es : Array DictEntry} {ep : Nat}, s₁.heap.get? b = some o → o.data = .dict es ep → H b = none := fun {b o es ep} e d => by
      cases q : H b with
      | none => rfl
      | some u =>
        have e' : b = a := hA b (by rw [q]; simp)
        subst e'
        rw [ha] at e; cases e
        have d' : Data.seq vs.toArray _ = Data.dict es ep := d
        cases d'
    have nsK : ∀ {b : Addr} {m : Str → Option Value}, s₁.heap.Ns b m → (hidT s₁.heap H).Ns b m := fun {b m} ⟨o, es, ep, e, d, r⟩ => ⟨o, es, ep, base_of e (noA e d), d, r⟩
    have hKb : K.In (hidT s₁.heap H) := fun b o e => base_of (KX b o e) (by
      cases q : H b with
      | none => rfl
      | some u =>
        have e' : b = a := hA b (by rw [q]; simp)
        subst e'
        rw [hK (by rw [q]; simp)] at e; cases e)
    have noM : ∀ {b : Addr} {o : Obj}, s₁.heap.get? b = some o → o.cls = .type "module" → H b = none := fun {b o} e d => by
      cases q : H b with
      | none => rfl
      | some u =>
        have e' : b = a := hA b (by rw [q]; simp)
        subst e'
        rw [ha] at e; cases e
        exact absurd (show Value.type "list" = Value.type "module" from d) (by decide)
    have hSr : (hidT s₁.heap H).NoSeer := ⟨let ⟨mc, h1, h2⟩ := hseer.statics; ⟨mc, nsK h1, h2⟩, let ⟨mm, h1, h2⟩ := hseer.mods; ⟨mm, nsK h1, h2⟩, let ⟨mb, h1, h2⟩ := hseer.imp; ⟨mb, nsK h1, h2⟩,
      let ⟨mg, bm, ob, h1, h2, h3, h4, h5⟩ := hseer.main; ⟨mg, bm, ob, nsK h1, h2, base_of h3 (noM h3 h4), h4, h5⟩⟩
    have hM : Mod K mg (hidT s₁.heap H) := ⟨hKb, nsK hns, ⟨mb, nsK hb, hbb⟩, (let ⟨mc, h1, h2⟩ := hlim; ⟨mc, nsK h1, h2⟩), hSr⟩
    have e0 : Env0 P w K mg (hidT s₁.heap H) callerA [] s₁ H := ⟨rfl, hM, fun b o e => of_hidT e, Nat.le_of_eq (hidT_size _ _), trivial, fun b hb => absurd (show b ∈ ([] : List Addr) from hb) (by simp), hok, .of_eq hg⟩
    refine codeAny_mono ((F _ hKb (nsK hns)).run callerA [] s₁ H ⟨[.ref a], []⟩ [.ref a] [.ref a] _ _ hr e0 (hbind s₁ (.ref a)) (.cons rfl .nil) (hsp H hO hS)) fun r s' h => ?_
    cases r with
    | error e => exact (hCX H e s' h).elim
    | ok fl =>
      cases fl with
      | next => exact False.elim h
      | brk => exact False.elim h
      | cont => exact False.elim h
      | ret u =>
        obtain ⟨v, H', os, bare, un, hok', r', q⟩ := h
        have q' : v = .bl true := q
        subst q'
        obtain rfl : u = Value.bool true := r'
        refine ⟨rfl, OldK.of_keep fun b o e => ?_, os, bare⟩
        cases q : H b with
        | none => exact un.keep b o e q (by intro z; exact absurd (show b ∈ ([] : List Addr) from z) (by simp)) (by simp)
        | some u =>
          rcases hO b with z | ⟨ob, xs, z⟩
          · rw [q] at z; cases z
          · have z2 := un.frzs b ob _ z
            obtain ⟨e1, _⟩ := hok b _ z
            obtain ⟨e2, _⟩ := hok' b _ z2
            rw [e] at e1; cases e1
            exact e2
  cases hk : K.lookup a with
  | some o =>
    -- the script is one of the module's own objects
    have e := KX a o hk
    rw [ha] at e
    cases e
    refine core (fun _ => none) (fun _ => .inl rfl) (.inr ⟨_, vs.toArray, _, hk, rfl, rfl, rfl, by rw [List.size_toArray, lenV]; exact hl, by simpa using rv⟩) (fun b u z => by have z' : (none : Option HO) = some u := z; cases z') (fun b z => absurd rfl z) fun z => absurd rfl z
  | none =>
    refine core (fun b => if b = a then some (.frz { cls := .type "list", data := .seq vs.toArray } (.lst (ns.map V.int))) else none) (fun b => ?_) (.inl (.inr ⟨{ cls := .type "list", data := .seq vs.toArray }, if_pos rfl⟩)) (fun b u z => ?_) (fun b z => ?_) fun _ => hk
    · by_cases hb : b = a
      · exact .inr ⟨_, _, if_pos hb⟩
      · exact .inl (if_neg hb)
    · by_cases hb : b = a
      · have z' := (if_pos hb).symm.trans z
        cases z'
        subst hb
        exact ⟨ha, by rw [List.length_map]; exact hl, vs, _, rv, ha⟩
      · have z' := (if_neg hb).symm.trans z
        cases z'
    · by_cases hb : b = a
      · exact hb
      · exact absurd (if_neg hb) z
end L2

namespace L2
open PySem PySem.Spec PyProof.Rows

/-- the goal that k_head leaves (case hc), from the law's promise. F gives the function object fd (K's own) once, then the promise over every base -/
theorem walk_of {l : PySem.W.OpenLaw} {n k : Nat} {q : Program} {loose : List Str} {XP : (Str → Option Value) → Heap → Prop} {YP : World → Heap → Prop} {d : DefRec} {K : Params → PySem.W.Frag} {CX : World → CXT} {sp : World → Sp} {x : Str}
    (hi : PyProof.Rows.importsNone q = true) (hn : l.most = some n) (hn2 : n ≤ sizeLine) (hdf : d.params.defaults = []) (hr : Room k callerA)
    (hY : ∀ (w : World) (h : Heap), YP w h → (K w.params).In h)
    (F : ∀ (w : World) (mg : Str → Option Value) (fa : Addr) (h : Heap), (K w.params).In h → h.Ns mainGlobals mg → mg d.name = some (.ref fa) →
      ∃ fd : FuncData, (∀ (s : Shared) (u : Value), BindsTo s fd ⟨[u], []⟩ [(x, u)]) ∧
        ∀ base : Heap, (K w.params).In base → base.Ns mainGlobals mg → FnOk l.prog w (K w.params) mg base (CX w) k fa fd [x] (sp w))
    (hsp : ∀ (w : World) (H : Hp) (a : Addr) (ns : List Int), ns.length ≤ n → Only H → SqL (K w.params) H a (ns.map V.int) → sp w [.ref a] H (fun v _ => v = .bl true) fun _ _ _ => False)
    (hCX : ∀ (w : World) (H : Hp) (s : Shared) (e : Value) (s' : Shared), CX w [] H s (fun _ _ _ => False) e s' → False) :
    PySem.W.WalkO q loose XP YP l.row.toRowW d [] (fun f vs => PySem.call f vs) := by
  refine Att.attach_call hn hdf fun w s₀ s₁ mg mb fa o pm cd doc a vs ns G Y ho hd hcd hmg hobj hints hlen hg => ?_
  have KX := hY w _ Y
  obtain ⟨fd, hb, hF⟩ := F w mg fa _ KX G.T.g hmg
  exact law_call KX G.T.g G.T.b G.T.builtins G.T.nolimit (G.T.seer hi) hg hobj hints (Nat.le_trans hlen hn2) hr hF hb (fun H hO hS => hsp w H a ns hlen hO hS) fun H e s' => hCX w H s₁ e s'
end L2

/- THE LAST THEOREM (shape; LID, My.* are yours):
   My.Adr: a structure of the addresses that your layer names (classes, functions); My.Txt K t: a structure (Prop) of the equations over K;
   My.txt_mk : {K} {implicit addresses ..} (e1 : nsIn K mainGlobals "law" = some (some (.ref f))) (e2 : K.lookup f = some ⟨oc, od, .func (fnOf "law" "law" params body scope dV kV doc pm an cdv ct), sl⟩) (e3 : codeIn K cdv "law" = true) .. : ∃ t, My.Txt K t

set_option maxRecDepth 100000 in
set_option maxHeartbeats 0 in
theorem PySem.Challenge.cw_LID_holds : PySem.Challenge.rw_LID.Holds := by
  w_on; o_law; k_head; (case hw => w_witness2)
  k_fill
  refine L2.walk_of (l := PySem.Challenge.rw_LID) (n := 63) (k := 40) (x := "script") (CX := fun w => ..) (sp := fun _ => My.sp_law) rfl (by decide) rfl ⟨rfl, by decide, by decide⟩ (fun w h Y => PySem.W.kIn_of Y) ?F ?S ?C
  case F =>
    intro w mg fa h KX G hmg
    have T : ∃ t, My.Txt (L2.KOf KX) t := by
      dsimp only [L2.KOf]                          -- K must stand as «<heap const> w.params» for k_is
      refine' My.txt_mk ?e1 ?e2 ?e3 ..
      (case e1 => PySem.W.k_is)                    -- in the order: a name -> its address -> its object -> its parts
      (case e2 => PySem.W.k_is)
      ..
    obtain ⟨t, T⟩ := T
    have e0 := hmg.symm.trans (PySem.W.mg_of KX G T.law)
    cases e0                                       -- fa is the law's own address
    exact ⟨_, fun s u => .of_eq rfl, fun base kb nb => My.law_fn T kb nb⟩     -- if «.of_eq rfl» comes too early: refine' ⟨_, ?b, fun base kb nb => My.law_fn T kb nb⟩; exact fun s u => .of_eq rfl
  case S => exact fun w H a ns hl hO hS => ..
  case C => exact ..
(the tactic k_is has no namespace: write k_is) -/

/-! SHORT WORDS over the layer: a def of the text, its body, what a loop and a test want. -/
namespace L2
open PySem PySem.Spec PyProof.Rows

/-! ### the text by places -/
def defArgs (s : Stmt) : Arguments := match s with
  | .FunctionDef _ a _ _ _ _ _ _ _ _ => a
  | _ => { posonlyargs := [], args := [], vararg := none, kwonlyargs := [], kw_defaults := [], kwarg := none, defaults := [] }
def defBody (s : Stmt) : List Stmt := match s with
  | .FunctionDef _ _ b _ _ _ _ _ _ _ => b
  | _ => []
def defScope (s : Stmt) : Scope := match s with
  | .FunctionDef _ _ _ _ _ _ sc _ _ _ => sc
  | _ => { kind := .function, names := [], isGenerator := false, isCoroutine := false }

/-! ### no exception leaves a def -/
abbrev CX0 : CXT := fun _ _ _ _ _ _ => False
abbrev E0 : XK := fun _ _ _ => False
theorem pass0 {X : Cx} : Passes CX0 X E0 := fun _ _ _ _ _ _ _ h => h.elim

/-! ### a def (or method) of the text as it stands behind the top -/
structure Fun (K : PySem.W.Frag) (x qual : Str) (st : Stmt) (f : Addr) (fd : FuncData) : Prop where
  ex : ∃ (oc : Value) (od : Option Addr) (kV doc pm : Value) (an : Option Addr) (cdv ct : Value) (osl : Array (Option Value)),
    fd = PySem.W.fnOf x qual (defArgs st) (defBody st) (defScope st) .none kV doc pm an cdv ct ∧ K.lookup f = some ⟨oc, od, .func fd, osl⟩ ∧ PySem.W.codeIn K cdv qual = true
  kp : PySem.W.keepIn K (.ref f) = true
section
variable {P : Program} {w : World} {K : PySem.W.Frag} {mg : Str → Option Value} {base : Heap}
/-- THE RULE for a def: its body as a term of rules, and the reading of that term -/
theorem Fun.ok {x qual : Str} {st : Stmt} {f : Addr} {fd : FuncData} {N ps : List Str} {k : Nat} {sp : Sp} (F : Fun K x qual st f fd) (S : FnScope N ps (defScope st)) (len : ∀ vs H Q E, sp vs H Q E → vs.length = ps.length)
    (hbody : ∀ (cdv : Value) (A : Around) (outer : List Env) (s : Shared) (H : Hp) (vs : List V) (Q : VK) (E : XK), Room k (A.deeper (envOfC qual (defScope st) s.heap.objs.size f cdv)) → sp vs H Q E →
      ∃ t, PSs (cxOf CX0 P w K mg base N qual (defScope st) f cdv A outer s H E).nox (defBody st) t ∧ t { nx := fun _ H' => Q .non H', rt := Q } (start N vs) H) : FnOk P w K mg base CX0 (k + 1) f fd ps sp := by
  obtain ⟨oc, od, kV, doc, pm, an, cdv, ct, osl, rfl, lk, hcd⟩ := F.ex
  refine fn_of lk hcd S len fun A outer s H vs Q E hr hsp => ?_
  obtain ⟨t, h, q⟩ := hbody cdv A outer s H vs Q E hr hsp
  exact ⟨t, h.nox, q⟩
/-- how its arguments bind (no defaults): h is «fun _ _ _ _ _ _ us hl => match us, hl with | [_, _], _ => rfl», one _ a parameter -/
theorem Fun.binds {x qual : Str} {st : Stmt} {f : Addr} {fd : FuncData} {ps : List Str} (F : Fun K x qual st f fd)
    (h : ∀ (kV doc pm : Value) (an : Option Addr) (cdv ct : Value) (us : List Value), us.length = ps.length → bindArgs (PySem.W.fnOf x qual (defArgs st) (defBody st) (defScope st) .none kV doc pm an cdv ct) ⟨us, []⟩ = pure (ps.zip us)) : Binds K fd ps [] := by
  obtain ⟨oc, od, kV, doc, pm, an, cdv, ct, osl, rfl, lk, hcd⟩ := F.ex
  exact .all (h kV doc pm an cdv ct)
theorem fun_mk {x qual : Str} {st : Stmt} {f : Addr} {oc : Value} {od an : Option Addr} {osl : Array (Option Value)} {kV doc pm cdv ct : Value} (l : K.lookup f = some ⟨oc, od, .func (PySem.W.fnOf x qual (defArgs st) (defBody st) (defScope st) .none kV doc pm an cdv ct), osl⟩)
    (c : PySem.W.codeIn K cdv qual = true) (k : PySem.W.keepIn K (.ref f) = true) : Fun K x qual st f (PySem.W.fnOf x qual (defArgs st) (defBody st) (defScope st) .none kV doc pm an cdv ct) := ⟨⟨oc, od, kV, doc, pm, an, cdv, ct, osl, rfl, l, c⟩, k⟩
end
theorem small1000 {n : Nat} (h : n ≤ 1000) : n < sizeLine := Nat.lt_of_le_of_lt h (by decide)

/-! ### expressions in short: the name that stands in the i-th slot -/
section
variable {X : Cx}
theorem pv (i : Nat) {x : Str} {pos : Pos} (hN : X.N[i]? = some x := by rfl) (hv : Vis X.env.scope x := by first | exact Or.inl rfl | exact Or.inr (Or.inl rfl) | exact Or.inr (Or.inr rfl)) (hd : (x == ("__debug__" : Str)) = false := by decide)
    (hcd : (x == ("__classdict__" : Str)) = false := by decide) : PE X (.Name x pos) (tVar i) := pe_var hN hv hd hcd
end

/-! ### tests -/
theorem iteF {A B : Prop} (h : B) : if false = true then A else B := by
  rw [if_neg Bool.false_ne_true]
  exact h
theorem iteT {A B : Prop} (h : A) : if true = true then A else B := by
  rw [if_pos rfl]
  exact h
theorem iteNS {c A B : Prop} [Decidable c] (hc : c) (h : B) : if (!decide c) = true then A else B := by
  rw [decide_eq_true hc]
  exact iteF h

/-! ### heaps -/
/-- all that was tracked is as it was -/
def Same (H H' : Hp) : Prop := ∀ b o, H b = some o → H' b = some o
theorem Same.refl (H : Hp) : Same H H := fun _ _ h => h
theorem Same.trans {H H1 H2 : Hp} (a : Same H H1) (b : Same H1 H2) : Same H H2 := fun c o h => b c o (a c o h)
theorem Same.free {H H' : Hp} (e : Same H H') {l : Addr} (h : H' l = Option.none) : H l = Option.none := by
  cases q : H l with
  | none => rfl
  | some o =>
    rw [e l o q] at h
    cases h
theorem Same.seq {K : PySem.W.Frag} {H H' : Hp} {a : Addr} {xs : List V} (e : Same H H') (h : SqL K H a xs) : SqL K H' a xs := by
  rcases h with (h | ⟨o, h⟩) | h
  · exact .inl (.inl (e _ _ h))
  · exact .inl (.inr ⟨o, e _ _ h⟩)
  · exact .inr h

end L2

set_option Elab.async false
set_option linter.all false
set_option maxRecDepth 100000
set_option maxHeartbeats 4000000
/-! Wordrace: rules beside the hand layer: comprehensions, texts, calls over lists. -/
namespace L2
open PySem PySem.Spec PyProof.Rows

theorem HOk.but {P : Program} {w : World} {H : Hp} {h h' : Heap} {it : Addr} (ok : HOk P w H h) (hn : H it = none) (k : ∀ b o, b ≠ it → h.get? b = some o → h'.get? b = some o) : HOk P w H h' := fun b u e => by
  have nit : ∀ b u, H b = some u → b ≠ it := fun b u e z => by rw [z, hn] at e; cases e
  refine (ok b u e).stay (fun c v hc q => k c v ?_ q) (fun _ q => q) fun _ _ q => q
  rcases hc with z | z
  · rw [z]; exact nit b u e
  · exact nit c _ z

/-! ### the closure of a block -/
def closL (names : List (Str × NameKind)) (cells : List (Str × Addr)) : List (Str × Addr) :=
  (names.filterMap fun x => if x.2 == .free then (cells.lookup x.1).map fun c => (x.1, c) else none).reverse
theorem closL_cons (x : Str × NameKind) (names : List (Str × NameKind)) (cells : List (Str × Addr)) :
    closL (x :: names) cells = closL names cells ++ (if x.2 == .free then (cells.lookup x.1).map fun c => (x.1, c) else none).toList := by
  unfold closL
  rw [List.filterMap_cons]
  cases (if x.2 == .free then (cells.lookup x.1).map fun c => (x.1, c) else none) <;> simp
theorem clos_aux (env : Env) : ∀ (names : List (Str × NameKind)) (cs : List (Str × Addr)), (∀ x ∈ names, x.2 = .free → ∃ c, env.cells.lookup x.1 = some c) →
    (forIn (m := Sem) names cs fun x r => (match x with | (name, kind) => if (kind == .free) = true then do let a ← cellOf env name; pure (ForInStep.yield ((name, a) :: r)) else pure (ForInStep.yield r))) = pure (closL names env.cells ++ cs)
  | [], cs, _ => rfl
  | (n, k) :: r, cs, h => by
    rw [List.forIn_cons, closL_cons]
    have ih := fun cs => clos_aux env r cs fun x hx => h x (List.mem_cons_of_mem _ hx)
    cases hk : (k == NameKind.free) with
    | false =>
      simp only [hk, Bool.false_eq_true, if_false, pure_bind]
      rw [ih]
      simp
    | true =>
      obtain ⟨c, e⟩ := h (n, k) List.mem_cons_self (by simpa using hk)
      have e' : env.cells.lookup n = some c := e
      have ec : cellOf env n = pure c := by unfold cellOf; rw [e']
      simp only [hk, if_true, ec, pure_bind, e', Option.map_some, Option.toList]
      rw [ih]
      simp
theorem closureFor_eq {scope : Scope} {env : Env} (h : ∀ x ∈ scope.names, x.2 = .free → ∃ c, env.cells.lookup x.1 = some c) : closureFor scope env = pure (closL scope.names env.cells) := by
  have e := clos_aux env scope.names [] h
  unfold closureFor
  rw [List.append_nil] at e
  simp only [bind_pure]
  exact e
theorem closL_sound {names : List (Str × NameKind)} {cells : List (Str × Addr)} {n : Str} {c : Addr} (h : (closL names cells).lookup n = some c) : cells.lookup n = some c := by
  have m := PySem.mem_of_lookup h
  unfold closL at m
  rw [List.mem_reverse, List.mem_filterMap] at m
  obtain ⟨x, _, e⟩ := m
  split at e
  · cases q : cells.lookup x.1 with
    | none => rw [q] at e; cases e
    | some c' =>
      rw [q] at e
      cases e
      exact q
  · cases e
theorem lookup_of_mem {n : Str} {c : Addr} : ∀ {l : List (Str × Addr)}, (n, c) ∈ l → ∃ c', l.lookup n = some c'
  | [], h => by simp at h
  | (k, v) :: r, h => by
    rw [List.lookup_cons]
    cases e : n == k with
    | true => exact ⟨v, rfl⟩
    | false =>
      rcases List.mem_cons.mp h with z | z
      · cases z; simp at e
      · exact lookup_of_mem z
theorem closL_has {names : List (Str × NameKind)} {cells : List (Str × Addr)} {n : Str} {c : Addr} (hm : (n, NameKind.free) ∈ names) (hc : cells.lookup n = some c) : (closL names cells).lookup n = some c := by
  have m : (n, c) ∈ closL names cells := by
    unfold closL
    rw [List.mem_reverse, List.mem_filterMap]
    exact ⟨(n, .free), hm, by simp [hc]⟩
  obtain ⟨c', e⟩ := lookup_of_mem m
  rw [e, ← hc, closL_sound e]

/-! ### the block's names -/
theorem relabel_some {env : Env} : ∀ {names : List (Str × NameKind)} {x : Str} {k : NameKind}, names.lookup x = some k → k ≠ .free →
    (names.map fun (n, k) => if (k == NameKind.free && env.scope.kind == .function && env.kindOf n == some .cell) then (n, NameKind.cell) else (n, k)).lookup x = some k
  | [], _, _, h, _ => by simp at h
  | (n, q) :: r, x, k, h, hk => by
    have ih := @relabel_some env r x k
    show List.lookup x ((if (q == NameKind.free && env.scope.kind == .function && env.kindOf n == some .cell) = true then (n, NameKind.cell) else (n, q)) :: _) = _
    cases hx : x == n with
    | true =>
      simp only [List.lookup_cons, hx] at h
      cases h
      have e : (q == NameKind.free) = false := by simpa using hk
      simp [List.lookup_cons, hx, e]
    | false =>
      simp only [List.lookup_cons, hx] at h
      by_cases hc : (q == NameKind.free && env.scope.kind == .function && env.kindOf n == some .cell) = true
      · rw [if_pos hc]; simp only [List.lookup_cons, hx]; exact ih h hk
      · rw [if_neg hc]; simp only [List.lookup_cons, hx]; exact ih h hk
theorem relabel_free {env : Env} : ∀ {names : List (Str × NameKind)} {x : Str}, names.lookup x = some .free →
    (names.map fun (n, k) => if (k == NameKind.free && env.scope.kind == .function && env.kindOf n == some .cell) then (n, NameKind.cell) else (n, k)).lookup x = some .cell ∨
    (names.map fun (n, k) => if (k == NameKind.free && env.scope.kind == .function && env.kindOf n == some .cell) then (n, NameKind.cell) else (n, k)).lookup x = some .free
  | [], _, h => by simp at h
  | (n, q) :: r, x, h => by
    have ih := @relabel_free env r x
    show List.lookup x ((if (q == NameKind.free && env.scope.kind == .function && env.kindOf n == some .cell) = true then (n, NameKind.cell) else (n, q)) :: _) = _ ∨
      List.lookup x ((if (q == NameKind.free && env.scope.kind == .function && env.kindOf n == some .cell) = true then (n, NameKind.cell) else (n, q)) :: _) = _
    cases hx : x == n with
    | true =>
      simp only [List.lookup_cons, hx] at h
      cases h
      by_cases hc : (NameKind.free == NameKind.free && env.scope.kind == .function && env.kindOf n == some .cell) = true
      · rw [if_pos hc]; simp [List.lookup_cons, hx]
      · rw [if_neg hc]; simp [List.lookup_cons, hx]
    | false =>
      simp only [List.lookup_cons, hx] at h
      by_cases hc : (q == NameKind.free && env.scope.kind == .function && env.kindOf n == some .cell) = true
      · rw [if_pos hc]; simp only [List.lookup_cons, hx]; exact ih h
      · rw [if_neg hc]; simp only [List.lookup_cons, hx]; exact ih h
theorem relabel_back {env : Env} : ∀ {names : List (Str × NameKind)} {x : Str} {k : NameKind},
    (names.map fun (n, k) => if (k == NameKind.free && env.scope.kind == .function && env.kindOf n == some .cell) then (n, NameKind.cell) else (n, k)).lookup x = some k →
    names.lookup x = some k ∨ names.lookup x = some .free
  | [], _, _, h => by simp at h
  | (n, q) :: r, x, k, h => by
    have ih := @relabel_back env r x k
    have h' : List.lookup x ((if (q == NameKind.free && env.scope.kind == .function && env.kindOf n == some .cell) = true then (n, NameKind.cell) else (n, q)) :: _) = _ := h
    cases hx : x == n with
    | true =>
      by_cases hc : (q == NameKind.free && env.scope.kind == .function && env.kindOf n == some .cell) = true
      · have hq : q = .free := by
          cases q <;> first | rfl | (exact absurd hc (by simp))
        subst hq
        simp [List.lookup_cons, hx]
      · rw [if_neg hc] at h'; simp only [List.lookup_cons, hx] at h' ⊢; exact .inl h'
    | false =>
      by_cases hc : (q == NameKind.free && env.scope.kind == .function && env.kindOf n == some .cell) = true
      · rw [if_pos hc] at h'; simp only [List.lookup_cons, hx] at h' ⊢; exact ih h'
      · rw [if_neg hc] at h'; simp only [List.lookup_cons, hx] at h' ⊢; exact ih h'

/-- a comprehension's scope within a def (or block) of scope sc0 whose names are N0; its own names N, mp: which slot of N0 each free one is -/
structure CompSc (sc0 : Scope) (N0 N : List Str) (mp : List (Option Nat)) (sc : Scope) : Prop where
  kind : sc.kind = .function
  nocell : ∀ y ∈ sc.names, y.2 ≠ .cell
  own : ∀ y ∈ sc.names, y.2 = .local → sc.names.lookup y.1 = some .local
  free : ∀ y ∈ sc.names, y.2 = .free → sc0.names.lookup y.1 = some .cell ∨ sc0.names.lookup y.1 = some .free
  nd : N.Nodup
  len : mp.length = N.length
  map : ((mp.zip N).all fun p => match p.1 with | none => true | some i => (N0[i]? == some p.2) && (sc.names.lookup p.2 == some .free)) = true

def pick (mp : List (Option Nat)) (σ : St) : St := mp.map fun o => o.bind fun i => (σ[i]?).bind id

def blk (X : Cx) (N : List Str) (sc : Scope) (s3 : Shared) (H3 : Hp) (C : Addr) (fp : List Addr) : Cx where
  prog := X.prog
  w := X.w
  K := X.K
  mg := X.mg
  base := X.base
  A := X.A
  N := N
  s₀ := s3
  H₀ := H3
  env := compEnvC sc (closL sc.names X.env.cells) C X.env
  outer := X.stack
  stack := X.stack
  ex := fp
  fn := fun _ => false
  calm := X.calm
  pn := []
  xe := fun _ _ => False

section
variable {X : Cx} {N : List Str} {mp : List (Option Nat)} {sc : Scope} {pins : List (Addr × Obj)} {σ : St} {H : Hp} {s : Shared}

theorem blk_inv {fp : List Addr} {h' : Heap} {m : Str → Option Value} {ob : Obj} {t' : Nat} (S : CompSc X.env.scope X.N N mp sc) (I : Inv X pins σ H s) (hf : ∀ b ∈ fp, FpOk X pins H b ∧ b < s.heap.objs.size)
    (hn : h'.Ns s.heap.objs.size m) (hsb : Heap.SameBut s.heap.objs.size (s.heap.push ob) h') :
    Inv (blk X N sc s H s.heap.objs.size fp) [] (pick mp σ) H { s with heap := h', toks := t' } := by
  have old : ∀ b u, s.heap.get? b = some u → h'.get? b = some u := fun b u e => hsb.extBut b u (Nat.ne_of_lt (Heap.lt_size e)) (Heap.get?_push_of_some _ e)
  have hC : ∀ x c, (closL sc.names X.env.cells).lookup x = some c → X.env.cells.lookup x = some c := fun x c e => closL_sound e
  refine ⟨⟨I.ok.mod, S.kind, I.ok.glob, I.ok.blt, Nat.le_refl _, fun x y c e1 e2 => I.ok.inj x y c (hC x c e1) (hC y c e2), fun x hx => ?_, fun _ _ z _ => absurd (show false = true from z) Bool.false_ne_true, I.ok.hd, I.ok.frames, .inl rfl, fun b hb => ?_, I.bs, Nat.le_trans I.ok.bsz I.sz, fun b o e hb => ?_, fun b hb z => ?_, I.stack, I.stkFree⟩,
    rfl, I.bare, Un.kept old, ⟨m, hn, fun i x v e1 e2 e3 => ?_⟩, fun x c e => ?_, I.hok.fresh (Nat.le_refl _), fun x c e => I.freeC x c (hC x c e), fun p hp => absurd (show p ∈ ([] : List (Addr × Obj)) from hp) (by simp), I.hok.kept old, ?_⟩
  · have hx' : (relabel sc X.env).names.lookup x = some .cell ∨ (relabel sc X.env).names.lookup x = some .free := hx
    have hl : sc.names.lookup x = some .free := by
      rcases hx' with z | z
      · rcases relabel_back z with y | y
        · exact absurd rfl (S.nocell _ (PySem.mem_of_lookup y))
        · exact y
      · rcases relabel_back z with y | y
        · exact y
        · exact y
    have hm := PySem.mem_of_lookup hl
    obtain ⟨c, e⟩ := I.ok.has x (S.free _ hm rfl)
    exact ⟨c, closL_has hm e⟩
  · obtain ⟨⟨f0, f1, f2, f3, f4, f5⟩, hlt⟩ := hf b hb
    exact ⟨Nat.ne_of_lt hlt, fun x c e => f4 x c (hC x c e)⟩
  · obtain ⟨⟨f0, f1, f2, f3, f4, f5⟩, hlt⟩ := hf b hb
    rcases f3 with z | z
    · exact I.ok.noex b o e z
    · exact absurd (Nat.lt_of_lt_of_le (Heap.lt_size (I.ok.bs b o e).1) z) (Nat.lt_irrefl _)
  · obtain ⟨⟨f0, f1, f2, f3, f4, f5⟩, hlt⟩ := hf b hb
    exact (List.mem_cons.mp (I.stkSub b z)).elim f1 f2
  · have e1 : N[i]? = some x := e1
    unfold pick at e2
    rw [List.getElem?_map] at e2
    cases hm : mp[i]? with
    | none => rw [hm] at e2; cases e2
    | some o =>
      rw [hm] at e2
      cases o with
      | none => cases e2
      | some j =>
        have e2' : (σ[j]?).bind id = some v := Option.some.inj e2
        have e4 : σ[j]? = some (some v) := by
          cases q : σ[j]? with
          | none => rw [q] at e2'; cases e2'
          | some z => rw [q] at e2'; exact congrArg some e2'
        have hz : (some j, x) ∈ mp.zip N := by
          refine List.mem_of_getElem? (i := i) ?_
          rw [List.getElem?_zip_eq_some]
          exact ⟨hm, e1⟩
        have ha := List.all_eq_true.mp S.map _ hz
        have ha' : ((X.N[j]? == some x) && (sc.names.lookup x == some .free)) = true := ha
        rw [Bool.and_eq_true] at ha'
        have hN : X.N[j]? = some x := eq_of_beq ha'.1
        have hl : sc.names.lookup x = some .free := eq_of_beq ha'.2
        have hm' := PySem.mem_of_lookup hl
        have hk := S.free _ hm' rfl
        obtain ⟨m0, hn0, hl0⟩ := I.loc
        obtain ⟨u, ru, lk⟩ := hl0 j x v hN e4 (hk.elim (fun z => .inr (.inl z)) fun z => .inr (.inr z))
        refine ⟨u, ru, ?_⟩
        rcases lk with ⟨z, _⟩ | ⟨_, c, ec, oc, hoc, hd⟩
        · have z : X.env.scope.names.lookup x = some .local := z
          rcases hk with y | y
          · rw [z] at y; cases y
          · rw [z] at y; cases y
        · exact .inr ⟨relabel_free hl, c, closL_has hm' ec, oc, old _ _ hoc, hd⟩
  · obtain ⟨v, oc, hoc, hd⟩ := I.cell x c (hC x c e)
    exact ⟨v, oc, old _ _ hoc, hd⟩
  · unfold pick
    rw [List.length_map]
    exact S.len

/-- the tests of a clause -/
def PIf (X : Cx) (ifs : List Expr) (t : TT) : Prop :=
  ∀ (pins : List (Addr × Obj)) (s : Shared) (σ : St) (H : Hp) (Q : Bool → Hp → Prop), Inv X pins σ H s → t σ H Q →
    wpAny (model X.prog X.w) X.A (forIn ifs true fun c r => if r = true then do let ok ← isTrue c X.env (eval c X.env); pure (ForInStep.yield ok) else pure (ForInStep.yield r)) (TP X pins σ Q) X.xe s
def tYes : TT := fun _ H Q => Q true H
theorem pif_nil : PIf X [] tYes := fun pins s σ H Q I h => wpAny_pure ⟨H, I, h⟩
def CompW (J : It) (mp : List (Option Nat)) (g : TG) (ti : TT) (te : TE) (D : Addr) (Q : VK) (σ : St) (H1 : Hp) : Prop := ∃ W : Nat → Nat → St → Hp → Prop, (∃ m, W 0 m (pick mp σ) (upd H1 D (.lst []))) ∧
  ∀ i m σ' H', W i m σ' H' → (J.stop i H' ∧ Q (.ref D) H') ∨ (J.go i H' ∧ ∃ Nx : St → Hp → Prop, (∀ σ2 H2, Nx σ2 H2 → ∃ m', m' < m ∧ W (i + 1) m' σ2 H2) ∧
    ∀ x H'', J.yld i H' x H'' → g x σ' H'' fun σ2 H2 => ti σ2 H2 fun c H3 => if c = true then te σ2 H3 fun y H4 => ∃ ys, H4 D = some (.lst ys) ∧ ys.length < sizeLine ∧ Nx σ2 (upd H4 D (.lst (ys ++ [y]))) else Nx σ2 H3)
def tComp (mp : List (Option Nat)) (wi : TI) (g : TG) (ti : TT) (te : TE) : TE := fun σ H Q => wi σ H fun J H1 => ∀ D, H1 D = none → CompW J mp g ti te D Q σ H1

theorem codeAny_compLoop_go {prog : Program} {w : World} {A : Around} {R : Result → Shared → Prop} {s : Shared} {elt target iter : Expr} {ifs : List Expr} {scope : Scope} {pos : Pos} {it acc : Value} {env : Env} (I : Nat → Shared → Prop)
    (turn : ∀ n s, I n s → wpAny (model prog w) A (pyNext it) (fun r s₁ => match r with
      | none => R (.ok .next) s₁
      | some v => wpAny (model prog w) A (letOwnedTupleGo target it v) (fun _ s₁' => wpAny (model prog w) A (assign target env v) (fun _ s₂ =>
          wpAny (model prog w) A (forIn ifs true fun c r => if r = true then do let ok ← isTrue c env (eval c env); pure (ForInStep.yield ok) else pure (ForInStep.yield r)) (fun ok s₃ =>
            if ok = true then wpAny (model prog w) A (eval elt env) (fun x s₄ =>
              wpAny (model prog w) A (call (.builtin "list.append") [acc, x]) (fun _ s₅ => ∃ m, m < n ∧ I m s₅) (fun _ _ => False) s₄) (fun _ _ => False) s₃
            else ∃ m, m < n ∧ I m s₃) (fun _ _ => False) s₂) (fun _ _ => False) s₁') (fun _ _ => False) s₁) (fun _ _ => False) s)
    (n : Nat) (h : I n s) :
    codeAny (model prog w) A (.compLoop (.ListComp elt [⟨target, iter, ifs, 0⟩] scope pos) 0 it acc env) R s := by
  refine codeAny_loop rfl I (fun n s hI => ?_) n h
  show wpAny _ A ((compTurn (.ListComp elt [⟨target, iter, ifs, 0⟩] scope pos) 0 it acc env).onRaise (fun x => do noteFrame x env; theTreesLotGoes x)) _ _ s
  refine wpAny_noted (wpAny_noRaise ?_)
  rw [compTurn_list]
  refine wpAny_bind (wpAny_standAt (wpAny_bind (wpAny_mono (turn n s hI) (fun r s₁ h₁ => ?_) fun _ _ h' => h')))
  cases r with
  | none => exact wpAny_pure h₁
  | some v =>
    refine wpAny_bind (wpAny_mono h₁ (fun _ s₁' h₁' => ?_) fun _ _ h' => h')
    refine wpAny_bind (wpAny_mono h₁' (fun _ s₂ h₂ => wpAny_bind (wpAny_mono h₂ (fun ok s₃ h₃ => ?_) fun _ _ h' => h')) fun _ _ h' => h')
    cases ok with
    | false => exact wpAny_pure ⟨rfl, h₃⟩
    | true =>
      exact wpAny_bind (wpAny_bind (wpAny_mono h₃ (fun x s₄ h₄ => wpAny_bind (wpAny_mono h₄ (fun _ s₅ h₅ => wpAny_pure (wpAny_pure ⟨rfl, h₅⟩)) fun _ _ h' => h')) fun _ _ h' => h'))

theorem pe_comp {elt tg iter : Expr} {ifs : List Expr} {pos : Pos} {wi : TI} {g : TG} {ti : TT} {te : TE} (hc : X.calm = true) (S : CompSc X.env.scope X.N N mp sc) (hi : PI X tg iter wi)
    (hb : ∀ s3 H3 C fp, PG (blk X N sc s3 H3 C fp) tg g ∧ PIf (blk X N sc s3 H3 C fp) ifs ti ∧ PE (blk X N sc s3 H3 C fp) elt te)
    (hs : ∀ x, foldedSetIterable iter X.env x = pure x := by intro _; rfl) : PE X (.ListComp elt [⟨tg, iter, ifs, 0⟩] sc pos) (tComp mp wi g ti te) := by
  intro pins s σ H Q I h
  rw [eval_ListComp]
  refine wpAny_comprehension_free (use := none) rfl hs (closureFor_eq (fun x hx hf => I.ok.has x.1 (S.free x hx hf))) S.kind S.own (thn (hi pins s σ H _ I h) fun v s1 h1 => thn h1 fun itv s2 h2 => ?_)
  obtain ⟨it, fp, tn, J, H2, rfl, I2, T, st2, f2, q⟩ := h2
  refine wpAny_newObj_type (wpAny_newFunctionEnv S.nocell (by intro y hy; simp at hy) (fun h₁ hns₁ hsb₁ => ?_) S.kind)
  dsimp only at hns₁ hsb₁ ⊢
  have hD : H2 s2.heap.objs.size = none := I2.hok.fresh (Nat.le_refl _)
  obtain ⟨W, ⟨m0, w0⟩, turn⟩ := q _ hD
  have I3 : Inv X pins σ (upd H2 s2.heap.objs.size (.lst [])) { s2 with heap := s2.heap.push { cls := .type "list", dict := none, data := .seq ([] : List Value).toArray } } :=
    I2.laid (t' := s2.toks) (o := .lst []) (fun b o e => Heap.get?_push_of_some _ e) (Nat.le_refl _) ⟨Nat.zero_le _, [], 0, .nil, Heap.get?_push_size _ rfl⟩
  have hDfp : s2.heap.objs.size ∉ fp := fun z => by
    obtain ⟨o, e, _⟩ := T.obj 0 _ st2 _ z
    exact absurd (Heap.lt_size e) (Nat.lt_irrefl _)
  have hf3 : ∀ b ∈ fp, FpOk X pins (upd H2 s2.heap.objs.size (.lst [])) b ∧ b < (s2.heap.push { cls := .type "list", dict := none, data := .seq ([] : List Value).toArray }).objs.size := fun b hb => by
    obtain ⟨o, e, _⟩ := T.obj 0 _ st2 b hb
    have hlt := Heap.lt_size e
    obtain ⟨f0, f1⟩ := f2 b hb
    refine ⟨⟨?_, f1⟩, ?_⟩
    · rw [upd_ne (Nat.ne_of_lt hlt)]; exact f0
    · rw [Heap.size_push]; exact Nat.lt_succ_of_lt hlt
  have IY := blk_inv (N := N) (mp := mp) (sc := sc) (t' := s2.toks + ([] : List (Str × Value)).length) S I3 hf3 hns₁ hsb₁
  have old4 : ∀ b o, s2.heap.get? b = some o → h₁.get? b = some o := fun b o e => by
    have e3 : (s2.heap.push { cls := .type "list", dict := none, data := .seq ([] : List Value).toArray }).get? b = some o := Heap.get?_push_of_some _ e
    exact hsb₁.extBut b o (Nat.ne_of_lt (Heap.lt_size e3)) (Heap.get?_push_of_some _ e3)
  have st4 : tn 0 h₁ := T.keep _ _ _ st2 fun b _ o e => old4 b o e
  have fpY : ∀ {H' : Hp}, (∀ b ∈ fp, H' b = none) → ∀ b ∈ fp, FpOk (blk X N sc { s2 with heap := s2.heap.push { cls := .type "list", dict := none, data := .seq ([] : List Value).toArray } } (upd H2 s2.heap.objs.size (.lst [])) (s2.heap.push { cls := .type "list", dict := none, data := .seq ([] : List Value).toArray }).objs.size fp) [] H' b := fun hn b hb => by
    obtain ⟨x1, x2⟩ := hf3 b hb
    obtain ⟨f0, f1, f2', f3, f4, f5⟩ := x1
    exact ⟨hn b hb, Nat.ne_of_lt x2, fun z => (List.mem_cons.mp (I3.stkSub b z)).elim f1 f2', .inl hb, fun x c e => f4 x c (closL_sound e), fun p hp => absurd (show p ∈ ([] : List (Addr × Obj)) from hp) (by simp)⟩
  obtain ⟨hg, hif, he⟩ := id (hb { s2 with heap := s2.heap.push { cls := .type "list", dict := none, data := .seq ([] : List Value).toArray } } (upd H2 s2.heap.objs.size (.lst [])) (s2.heap.push { cls := .type "list", dict := none, data := .seq ([] : List Value).toArray }).objs.size fp)
  have loop : codeAny (model X.prog X.w) X.A (.compLoop (.ListComp elt [⟨tg, iter, ifs, 0⟩] sc pos) 0 (.ref it) (.ref s2.heap.objs.size) (compEnvC sc (closL sc.names X.env.cells) (s2.heap.push { cls := .type "list", dict := none, data := .seq ([] : List Value).toArray }).objs.size X.env))
      (compPost (model X.prog X.w) X.A X.xe none (EP X pins σ Q) (.ref s2.heap.objs.size) (s2.heap.push { cls := .type "list", dict := none, data := .seq ([] : List Value).toArray }).objs.size) { s2 with heap := h₁, toks := s2.toks + ([] : List (Str × Value)).length } := by
    refine codeAny_compLoop_go (fun n s' => ∃ i σ' H', Inv (blk X N sc { s2 with heap := s2.heap.push { cls := .type "list", dict := none, data := .seq ([] : List Value).toArray } } (upd H2 s2.heap.objs.size (.lst [])) (s2.heap.push { cls := .type "list", dict := none, data := .seq ([] : List Value).toArray }).objs.size fp) [] σ' H' s' ∧
      tn i s'.heap ∧ (∀ b ∈ fp, H' b = none) ∧ W i n σ' H') ?_ m0 ⟨0, _, _, IY, st4, fun b hb => (hf3 b hb).1.1, w0⟩
    rintro n s5 ⟨i, σ5, H5, I5, st5, fr5, w5⟩
    rcases turn i n σ5 H5 w5 with ⟨stop, qn⟩ | ⟨go, Nx, hN, step⟩
    · refine thn (T.done (blk X N sc { s2 with heap := s2.heap.push { cls := .type "list", dict := none, data := .seq ([] : List Value).toArray } } (upd H2 s2.heap.objs.size (.lst [])) (s2.heap.push { cls := .type "list", dict := none, data := .seq ([] : List Value).toArray }).objs.size fp) rfl rfl rfl hc i [] s5 σ5 H5 _ I5 (fpY fr5) st5 stop) fun r s6 ⟨hr, I6⟩ => ?_
      subst hr
      obtain ⟨m6, hn6, _⟩ := id I6.loc
      refine ⟨m6, hn6, fun h7 hs7 => ?_⟩
      have un : Un (frs X.stack) fp (upd H2 s2.heap.objs.size (.lst [])) H5 (s2.heap.push { cls := .type "list", dict := none, data := .seq ([] : List Value).toArray }) s6.heap := I6.base
      have ne : ∀ b o, (s2.heap.push { cls := .type "list", dict := none, data := .seq ([] : List Value).toArray }).get? b = some o → b ≠ (s2.heap.push { cls := .type "list", dict := none, data := .seq ([] : List Value).toArray }).objs.size := fun b o e => Nat.ne_of_lt (Heap.lt_size e)
      have un7 : Un (frs X.stack) fp (upd H2 s2.heap.objs.size (.lst [])) H5 (s2.heap.push { cls := .type "list", dict := none, data := .seq ([] : List Value).toArray }) h7 := by
        refine ⟨fun b o e nn hb hx => hs7.extBut b o (ne b o e) (un.keep b o e nn hb hx), fun b o e nn hb hx => ?_, un.free, fun b o e hx => ?_, un.tups, un.frzs, un.tbls⟩
        · obtain ⟨sl, z⟩ := un.slot b o e nn hb hx
          exact ⟨sl, hs7.extBut b _ (ne b o e) z⟩
        · obtain ⟨o', z⟩ := un.there b o e hx
          exact ⟨o', hs7.extBut b o' (ne b o e) z⟩
      have hok7 : HOk X.prog X.w H5 h7 := HOk.but I6.hok I6.free fun b o hb e => hs7.extBut b o hb e
      refine ⟨.ref s2.heap.objs.size, H5, I3.call' (s' := { s6 with heap := h7 }) (ch := fp) I6.os un7 hok7 I6.bare fun b hb => ?_, rfl, qn⟩
      obtain ⟨⟨f0, f1, f2', f3, f4, f5⟩, _⟩ := hf3 b hb
      exact ⟨f3, f1, f4, f5⟩
    · refine thn (T.item (blk X N sc { s2 with heap := s2.heap.push { cls := .type "list", dict := none, data := .seq ([] : List Value).toArray } } (upd H2 s2.heap.objs.size (.lst [])) (s2.heap.push { cls := .type "list", dict := none, data := .seq ([] : List Value).toArray }).objs.size fp) rfl rfl rfl hc i [] s5 σ5 H5 _ I5 (fpY fr5) st5 go) fun r s6 ⟨u, hr, h6⟩ => ?_
      subst hr
      refine thn h6 fun _ s7 ⟨x, H7, I7, r7, y7, st7, fr7⟩ => ?_
      have I7' := I7.pinned (fpY fr7) (T.obj _ _ st7)
      refine thn (hg _ s7 σ5 H7 x u _ I7' r7 (step x H7 y7)) fun _ s8 ⟨σ8, H8, I8, q8⟩ => ?_
      refine thn (hif _ s8 σ8 H8 _ I8 q8) fun ok s9 ⟨H9, I9, q9⟩ => ?_
      have again : ∀ {σ' : St} {H' : Hp} {s' : Shared}, Inv (blk X N sc { s2 with heap := s2.heap.push { cls := .type "list", dict := none, data := .seq ([] : List Value).toArray } } (upd H2 s2.heap.objs.size (.lst [])) (s2.heap.push { cls := .type "list", dict := none, data := .seq ([] : List Value).toArray }).objs.size fp) ([] ++ pinsAt fp s7.heap) σ' H' s' → Nx σ' H' →
          ∃ m, m < n ∧ ∃ i σ' H', Inv (blk X N sc { s2 with heap := s2.heap.push { cls := .type "list", dict := none, data := .seq ([] : List Value).toArray } } (upd H2 s2.heap.objs.size (.lst [])) (s2.heap.push { cls := .type "list", dict := none, data := .seq ([] : List Value).toArray }).objs.size fp) [] σ' H' s' ∧ tn i s'.heap ∧ (∀ b ∈ fp, H' b = none) ∧ W i m σ' H' := fun {σ' H' s'} J nx => by
        obtain ⟨m', hm, w'⟩ := hN σ' H' nx
        refine ⟨m', hm, i + 1, σ', H', J.unpinned, T.keep _ _ _ st7 fun b hb o e => (J.pin (b, o) (List.mem_append_right _ (List.mem_append_right _ (mem_pinsAt hb e)))).1, fun b hb => ?_, w'⟩
        obtain ⟨o, e, d⟩ := T.obj _ _ st7 b hb
        exact (J.pin (b, o) (List.mem_append_right _ (List.mem_append_right _ (mem_pinsAt hb e)))).2.1
      cases ok with
      | false =>
        rw [if_neg Bool.false_ne_true] at q9 ⊢
        exact again I9 q9
      | true =>
        rw [if_pos rfl] at q9 ⊢
        refine thn (he _ s9 σ8 H9 _ I9 q9) fun yv s10 ⟨y, H10, I10, ry, ys, hy, hl, nx⟩ => ?_
        refine thn (mt_append _ s10 σ8 H10 (.ref s2.heap.objs.size) [y] (.ref s2.heap.objs.size) [yv] (fun v H' => v = .non ∧ H' = upd H10 s2.heap.objs.size (.lst (ys ++ [y]))) I10 rfl (.cons ry .nil) ⟨_, ys, y, rfl, rfl, hy, hl, rfl, rfl⟩) fun _ s11 ⟨_, H11, I11, _, _, e11⟩ => ?_
        subst e11
        exact again I11 nx
  exact codeAny_compStart_list loop (T.self X.A 0 _ _ _ st4 loop)
end
end L2

set_option Elab.async false
set_option linter.all false
set_option maxRecDepth 100000
set_option maxHeartbeats 4000000
namespace L2
open PySem PySem.Spec PyProof.Rows

/-! ### texts by their codes -/
abbrev S (l : List Nat) : Str := ⟨l.toArray⟩
theorem S_length (l : List Nat) : (S l).length = l.length := by simp [Str.length]
theorem S_cps (l : List Nat) : (S l).cps.toList = l := by simp
theorem S_inj {a b : List Nat} : S a = S b ↔ a = b := by
  constructor
  · intro h
    have := congrArg (fun x : Str => x.cps.toList) h
    simpa using this
  · rintro rfl; rfl
theorem S_of (x : Str) : S x.cps.toList = x := by cases x; simp
theorem S_app (a b : List Nat) : S a ++ S b = S (a ++ b) := by
  show Str.mk _ = Str.mk _
  simp

def cutL {α : Type} (l : List α) (lo hi : Option Int) : List α := (l.drop (HT.sIx l.length 0 lo)).take (HT.sIx l.length l.length hi - HT.sIx l.length 0 lo)

section
variable {X : Cx}

theorem sIx_some (n d : Nat) (v : Int) : ((HT.sIx n d (some v) : Nat) : Int) = max 0 (min (if v < 0 then v + (n : Int) else v) (n : Int)) := by
  show (((if v < 0 then (v + (n : Int)).toNat else min v.toNat n) : Nat) : Int) = _
  by_cases h : v < 0
  · rw [if_pos h, if_pos h]; omega
  · rw [if_neg h, if_neg h]; omega
theorem idx_norm (lo hi : Option Int) (n : Nat) : Builtin.Str.strSliceIndices lo hi 1 n = Builtin.Str.strSliceIndices (some ((HT.sIx n 0 lo : Nat) : Int)) (some ((HT.sIx n n hi : Nat) : Int)) 1 n := by
  have a1 : ∀ k : Nat, ¬ ((k : Int) < 0) := fun k => by omega
  have b1 := HT.sIx_le n 0 (Nat.zero_le _) lo
  have b2 := HT.sIx_le n n (Nat.le_refl _) hi
  have c1 : ∀ k : Nat, k ≤ n → max (0 : Int) (min (k : Int) (n : Int)) = k := fun k hk => by omega
  unfold Builtin.Str.strSliceIndices
  simp only [show (1 : Int) > 0 by decide, if_true, a1, if_false, c1 _ b1, c1 _ b2]
  congr 1
  · cases lo with
    | none => rfl
    | some v => exact (sIx_some n 0 v).symm
  · cases hi with
    | none => rfl
    | some v => exact (sIx_some n n v).symm
theorem slice_S (l : List Nat) (lo hi : Option Int) : Txt.slice (S l) lo hi = S (cutL l lo hi) := by
  have hl : (S l).length = l.length := S_length l
  have b1 := HT.sIx_le l.length 0 (Nat.zero_le _) lo
  have b2 := HT.sIx_le l.length l.length (Nat.le_refl _) hi
  unfold Txt.slice
  rw [idx_norm lo hi, hl]
  by_cases hab : HT.sIx l.length 0 lo ≤ HT.sIx l.length l.length hi
  · have key := StrLaws.sliceText_nat (S l) hab (by rw [hl]; exact b2)
    unfold StrLaws.sliceText at key
    rw [hl] at key
    rw [key]
    unfold cutL
    simp
  · have e : Builtin.Str.strSliceIndices (some ((HT.sIx l.length 0 lo : Nat) : Int)) (some ((HT.sIx l.length l.length hi : Nat) : Int)) 1 l.length = [] := by
      have a1 : ∀ k : Nat, ¬ ((k : Int) < 0) := fun k => by omega
      have c1 : ∀ k : Nat, k ≤ l.length → max (0 : Int) (min (k : Int) (l.length : Int)) = k := fun k hk => by omega
      unfold Builtin.Str.strSliceIndices
      simp only [show (1 : Int) > 0 by decide, if_true, a1, if_false, c1 _ b1, c1 _ b2]
      unfold sliceRange
      simp
      omega
    rw [e]
    have hne : l.length ≠ 0 := by omega
    have hne' : ((1 : Int) == 1 && ([] : List Nat).length == l.length) = false := by
      simp only [beq_self_eq_true, Bool.true_and, List.length_nil]
      exact beq_false_of_ne (Ne.symm hne)
    rw [if_neg (by rw [hne']; decide)]
    unfold cutL
    have : HT.sIx l.length l.length hi - HT.sIx l.length 0 lo = 0 := by omega
    rw [this]
    simp
def rSlS : V → Option Int → Option Int → Hp → VK → Prop := fun x lo hi H Q => ∃ l, x = .str (S l) ∧ l.length ≤ sizeLine ∧ Q (.str (S (cutL l lo hi))) H
theorem sl_str : SlR X rSlS := by
  intro pins s σ H x v vl vu lo hi sl Q I rx hs pl pu h
  obtain ⟨l, rfl, hz, q⟩ := h
  obtain ⟨t, rfl⟩ := rx
  refine ⟨"str", _, F.slot_str_getitem.lookup, typeIs_str _ _ _, ?_⟩
  have key : ∀ l' u' : Option (Int × Tok), vl = partValue l' → vu = partValue u' → l'.map (·.1) = lo → u'.map (·.1) = hi → wpAny (model X.prog X.w) X.A (getItem (.str (S l) t) (.ref sl)) (EP X pins σ Q) X.xe s := by
    rintro l' u' rfl rfl rfl rfl
    refine wpAny_getItem_str_slice (l := l') (u := u') (st := none) hs rfl (post_val_or_str ?_)
    have e : (if ((((none : Option (Int × Tok)).map (·.1)).getD 1) == 1 && (slicePicked (S l) l' u' none).length == (S l).length) = true then S l else ⟨((slicePicked (S l) l' u' none).filterMap ((S l).cps[·]?)).toArray⟩) = S (cutL l (l'.map (·.1)) (u'.map (·.1))) := slice_S l _ _
    refine ⟨?_, fun t' k => ?_⟩
    · rw [e, S_length]
      unfold cutL
      rw [List.length_take, List.length_drop]
      omega
    · rw [e]
      exact ⟨.str _, H, I.tok _, ⟨_, rfl⟩, q⟩
  cases pl with
  | none =>
    cases pu with
    | none => exact key none none rfl rfl rfl rfl
    | int j t' => exact key none (some (j, t')) rfl rfl rfl rfl
  | int i t1 =>
    cases pu with
    | none => exact key (some (i, t1)) none rfl rfl rfl rfl
    | int j t' => exact key (some (i, t1)) (some (j, t')) rfl rfl rfl rfl

/-! ### startswith, endswith -/
theorem pre_take (a b : List Nat) : (b.length ≤ a.length ∧ a.take b.length = b) ↔ b.isPrefixOf a = true := by
  rw [List.isPrefixOf_iff_prefix]
  constructor
  · rintro ⟨_, h⟩; rw [List.prefix_iff_eq_take]; exact h.symm
  · intro h; exact ⟨h.length_le, (List.prefix_iff_eq_take.mp h).symm⟩
theorem startswith_S (a b : List Nat) : Txt.startswith (S a) (S b) = b.isPrefixOf a := by
  unfold Txt.startswith
  rw [StrLaws.subAt_eq, S_length, S_length, S_cps, S_cps, List.drop_zero, Nat.zero_add, Bool.eq_iff_iff, ← pre_take]
  simp
def rSw : V → List V → Hp → VK → Prop := fun x vs H Q => ∃ a b, x = .str (S a) ∧ vs = [.str (S b)] ∧ Q (.bl (b.isPrefixOf a)) H
theorem mt_startswith : MtR X "str.startswith" rSw := by
  intro pins s σ H x xs v us Q I rx rs h
  obtain ⟨a, b, rfl, rfl, q⟩ := h
  obtain ⟨t, rfl⟩ := rx
  obtain ⟨u, rfl, t', rfl⟩ := vals1 rs
  exact SC.startswith (by rw [startswith_S]; exact ⟨.bl _, H, I, rfl, q⟩)
/-! ### in -/
def within (a b : List Nat) : Bool := (List.range (b.length + 1)).any fun i => a.isPrefixOf (b.drop i)
theorem in_S (a b : List Nat) : (!(Builtin.Str.occurrences (S b) (S a) 0 (S b).length 1).isEmpty) = within a b := by
  rw [Bool.eq_iff_iff, StrLaws.found_iff]
  unfold within
  rw [List.any_eq_true]
  constructor
  · rintro ⟨i, h1, h2⟩
    rw [S_length, S_length] at h1
    rw [StrLaws.subAt_eq, S_length, S_cps, S_cps] at h2
    refine ⟨i, List.mem_range.mpr (by omega), ?_⟩
    rw [← pre_take]
    exact ⟨by rw [List.length_drop]; omega, by simpa using h2⟩
  · rintro ⟨i, hi, h⟩
    rw [← pre_take] at h
    have hi := List.mem_range.mp hi
    obtain ⟨h1, h2⟩ := h
    rw [List.length_drop] at h1
    refine ⟨i, by rw [S_length, S_length]; omega, ?_⟩
    rw [StrLaws.subAt_eq, S_length, S_cps, S_cps]
    simpa using h2
def rInS : R2 := fun x y H Q => ∃ a b, x = .str (S a) ∧ y = .str (S b) ∧ Q (.bl (within a b)) H
theorem op_inS : OpR X (compareOp .In) rInS := by
  intro pins s σ H x y v u Q I rx ry h
  obtain ⟨a, b, rfl, rfl, q⟩ := h
  exact op_in_str pins s σ H _ _ v u Q I rx ry ⟨S a, S b, rfl, rfl, by rw [in_S]; exact q⟩

/-! ### + and * -/
def rAddS : R2 := fun x y H Q => ∃ a b, x = .str (S a) ∧ y = .str (S b) ∧ a.length + b.length ≤ sizeLine ∧ Q (.str (S (a ++ b))) H
theorem op_addS : OpR X (binaryOp .Add) rAddS := by
  intro pins s σ H x y v u Q I rx ry h
  obtain ⟨a, b, rfl, rfl, hz, q⟩ := h
  exact op_add_str pins s σ H _ _ v u Q I rx ry ⟨S a, S b, rfl, rfl, by rw [S_length, S_length]; exact hz, by rw [S_app]; exact q⟩
theorem foldl_app (a : List Nat) : ∀ (n : Nat) (acc : Array Nat), (List.replicate n a.toArray).foldl (· ++ ·) acc = acc ++ (List.replicate n a).flatten.toArray
  | 0, acc => by simp
  | n + 1, acc => by
    rw [List.replicate_succ, List.foldl_cons, foldl_app a n, List.replicate_succ, List.flatten_cons]
    simp
theorem mul_S (a : List Nat) (n : Nat) : Txt.mul (S a) (n : Int) = S (List.replicate n a).flatten := by
  unfold Txt.mul
  by_cases h0 : (n : Int) < 1
  · have : n = 0 := by omega
    subst this
    rw [if_pos h0]
    rfl
  · rw [if_neg h0]
    by_cases h1 : ((n : Int) == 1 || (S a).length == 0) = true
    · rw [if_pos h1]
      rw [Bool.or_eq_true] at h1
      rcases h1 with h1 | h1
      · have : n = 1 := by have := eq_of_beq h1; omega
        subst this
        simp
      · rw [S_length] at h1
        have : a = [] := by simpa using h1
        subst this
        simp
    · rw [if_neg h1]
      show Str.mk _ = Str.mk _
      congr 1
      have e : (n : Int).toNat = n := by omega
      rw [e, foldl_app]
      simp
def rMulS : R2 := fun x y H Q => ∃ a, ∃ n : Nat, x = .str (S a) ∧ y = .int (n : Int) ∧ n ≤ 1000 ∧ a.length ≤ 1000 ∧ Q (.str (S (List.replicate n a).flatten)) H
theorem op_mulS : OpR X (binaryOp .Mult) rMulS := by
  intro pins s σ H x y v u Q I rx ry h
  obtain ⟨a, n, rfl, rfl, hn, ha, q⟩ := h
  obtain ⟨t, rfl⟩ := rx
  obtain ⟨t', rfl⟩ := ry
  have hs : sizeLine = 16777216 := sizeLine_eq
  have hm : a.length * n ≤ 1000 * 1000 := Nat.mul_le_mul ha hn
  refine SB.mul ⟨?_, fun h1 _ => ?_, fun _ _ => ?_⟩ fun t' k => by rw [mul_S]; exact ⟨.str _, H, I.tok _, ⟨_, rfl⟩, q⟩
  · have e1 : decide ((n : Int) < -(2 ^ 63 : Int)) = false := decide_eq_false (by omega)
    have e2 : decide ((n : Int) ≥ 2 ^ 63) = false := decide_eq_false (by omega)
    rw [e1, e2]; rfl
  · rw [S_length]
    have h2 : (2 ^ 63 - 1 : Int) / 1000 ≤ (2 ^ 63 - 1) / (n : Int) := by
      have : (1 : Int) ≤ n := by omega
      exact Int.le_ediv_of_mul_le (by omega) (by
        have h3 : (2 ^ 63 - 1 : Int) / 1000 * (n : Int) ≤ (2 ^ 63 - 1 : Int) / 1000 * 1000 := Int.mul_le_mul_of_nonneg_left (by omega) (by decide)
        have h4 : (2 ^ 63 - 1 : Int) / 1000 * 1000 ≤ 2 ^ 63 - 1 := by decide
        omega)
    have h5 : (1000 : Int) < (2 ^ 63 - 1 : Int) / 1000 := by decide
    omega
  · unfold Builtin.Str.tooLong
    rw [S_length]
    simp
    omega

/-! ### items, len -/
def rIxSS : R2 := fun x y H Q => ∃ l i c, x = .str (S l) ∧ y = .int i ∧ l.length ≤ sizeLine ∧ atI l i = some c ∧ Q (.str (S [c])) H
theorem ix_S : IxR X rIxSS := by
  intro value slice pins s σ H x y v u Q I rx ry h hs
  obtain ⟨l, i, c, rfl, rfl, hz, he, q⟩ := h
  exact ix_str value slice pins s σ H _ _ v u Q I rx ry ⟨S l, i, c, rfl, rfl, by rw [S_length]; exact hz, by rw [S_cps]; exact he, q⟩ hs

/-! ### walking a text -/
def Its (l : List Nat) : It := ⟨fun i _ => i < l.length, fun i H v H' => H' = H ∧ ∃ c, l[i]? = some c ∧ v = .str (S [c]), fun i _ => l.length ≤ i⟩
theorem turn_str {P : Program} {w : World} {K : PySem.W.Frag} {tg : Expr} {l : List Nat} {t : Tok} {it : Addr} {ty : String}
    (hW : ∀ A' : Around, A'.handled = none → Walks P w A' it [it] [it] (S l).cps.size (SignAt (S l)) (fun i h => h.IsStrIter it ty (S l) t i))
    (hself : ∀ (A : Around) (i : Nat) (s : Shared) (Q : Value → Shared → Prop) (E : Value → Shared → Prop), s.heap.IsStrIter it ty (S l) t i → Q (.ref it) s → wpAny (model P w) A (pyIter (.ref it)) Q E s)
    (hty : ["enumerate", "zip", "dict_itemiterator", "dict_reverseitemiterator", "odict_iterator", "itertools.zip_longest", "itertools.pairwise"].contains ty = false) :
    Turn P w K tg (Its l) [it] it (fun i h => i ≤ l.length ∧ h.IsStrIter it ty (S l) t i) where
  mem := by simp
  obj := fun i h st b hb => by
    have e : b = it := by simpa using hb
    subst e
    obtain ⟨_, o, e, c, d⟩ := st
    exact ⟨o, e, fun v z => by rw [d] at z; cases z⟩
  keep := fun i h h' st k => by
    obtain ⟨hi, o, e, r⟩ := st
    exact ⟨hi, o, k it (by simp) o e, r⟩
  item := by
    intro X hP hw hK hc i pins s σ H E I hf st hg
    subst hP hw hK
    obtain ⟨f0, f1, f2, f3, f4, f5⟩ := hf it (by simp)
    have hg' : i < l.length := hg
    refine (hW X.A (I.ok.hd hc)).item i s _ E (by simpa using hg') st.2 fun v h' tk hv st' hk => ?_
    have I1 : Inv X pins σ H { s with heap := h', toks := tk } := I.turned (t' := tk) (fun b o hb e => hk b o (by simpa using hb) e) f0 f1 f3 f4 f5
    obtain ⟨c, u, hc', rfl⟩ := hv
    obtain ⟨o, e, cl, d⟩ := id st'
    exact ⟨_, rfl, go_of (s := { s with heap := h', toks := tk }) e cl d hty ⟨.str (S [c]), H, I1, ⟨_, rfl⟩, ⟨rfl, c, by simpa using hc', rfl⟩, ⟨hg', st'⟩, fun b hb => (hf b hb).1⟩⟩
  done := by
    intro X hP hw hK hc i pins s σ H E I hf st hg
    subst hP hw hK
    obtain ⟨f0, f1, f2, f3, f4, f5⟩ := hf it (by simp)
    have hg' : l.length ≤ i := hg
    have e : i = (S l).cps.size := by have := st.1; simp; omega
    subst e
    exact (hW X.A (I.ok.hd hc)).done s _ E st.2 fun h' tk hk => ⟨rfl, I.turned (t' := tk) (fun b o hb e => hk b o (by simpa using hb) e) f0 f1 f3 f4 f5⟩
  self := fun A i s Q E st h => hself A i s Q E st.2 h
def iStr (tl : TE) : TI := fun σ H R => tl σ H fun x H1 => ∃ l, x = .str (S l) ∧ R (Its l) H1
theorem pi_str {tg l : Expr} {tl : TE} (hl : PE X l tl) : PI X tg l (iStr tl) := by
  intro pins s σ H R I h
  refine thn (hl pins s σ H _ I h) fun v s1 ⟨x, H1, I1, r1, q1⟩ => ?_
  obtain ⟨l, rfl, q⟩ := q1
  obtain ⟨t, rfl⟩ := r1
  have fin : ∀ b ∈ [s1.heap.objs.size], FpOk X pins H1 b := fun b hb => by
    have e : b = s1.heap.objs.size := by simpa using hb
    subst e
    exact I1.fpOk (Nat.le_refl _) (I1.hok.fresh (Nat.le_refl _))
  cases ha : (S l).cps.all (· < 128)
  · refine wpAny_pyIter_wide ha ?_
    exact ⟨s1.heap.objs.size, [s1.heap.objs.size], _, _, H1, rfl, I1.kept (t' := s1.toks) fun b o e => Heap.get?_push_of_some _ e,
      turn_str (fun A' hA => Walks.strWide hA _ (S l) t) (fun A i s Q E st h => wpAny_pyIter_striter_wide st h) (by decide), ⟨Nat.zero_le _, _, Heap.get?_push_size _ rfl, rfl, rfl⟩, fin, q⟩
  · refine wpAny_pyIter_ascii ha ?_
    exact ⟨s1.heap.objs.size, [s1.heap.objs.size], _, _, H1, rfl, I1.kept (t' := s1.toks) fun b o e => Heap.get?_push_of_some _ e,
      turn_str (fun A' hA => Walks.strAscii hA _ (S l) t) (fun A i s Q E st h => wpAny_pyIter_striter_ascii st h) (by decide), ⟨Nat.zero_le _, _, Heap.get?_push_size _ rfl, rfl, rfl⟩, fin, q⟩

/-! ### all, any, min, max of a list; isinstance -/
theorem vals_at : ∀ {xs : List V} {us : List Value} {i : Nat} {u : Value}, Vals xs us → us[i]? = some u → ∃ x, xs[i]? = some x ∧ RelV x u
  | _, _, _, _, .nil, e => by simp at e
  | _, _, 0, _, .cons r _, e => by simp at e; subst e; exact ⟨_, rfl, r⟩
  | _, _, i + 1, u, .cons _ t, e => by
    obtain ⟨x, h1, h2⟩ := vals_at (i := i) (u := u) t (by simpa using e)
    exact ⟨x, by simpa using h1, h2⟩
theorem all_range (bs : List Bool) : ((List.range bs.length).all fun i => bs.getD i false) = bs.all id := by
  rw [Bool.eq_iff_iff, List.all_eq_true, List.all_eq_true]
  constructor
  · intro h b hb
    obtain ⟨i, hi, rfl⟩ := List.mem_iff_getElem.mp hb
    have := h i (List.mem_range.mpr hi)
    simpa [List.getD, hi] using this
  · intro h i hi
    have hi := List.mem_range.mp hi
    have := h bs[i] (List.getElem_mem hi)
    simpa [List.getD, hi] using this
theorem any_range (bs : List Bool) : ((List.range bs.length).any fun i => bs.getD i false) = bs.any id := by
  rw [Bool.eq_iff_iff, List.any_eq_true, List.any_eq_true]
  constructor
  · rintro ⟨i, hi, h⟩
    have hi := List.mem_range.mp hi
    exact ⟨bs[i], List.getElem_mem hi, by simpa [List.getD, hi] using h⟩
  · rintro ⟨b, hb, h⟩
    obtain ⟨i, hi, rfl⟩ := List.mem_iff_getElem.mp hb
    exact ⟨i, List.mem_range.mpr hi, by simpa [List.getD, hi] using h⟩
theorem bools_truth {prog : Program} {w : World} {A : Around} {bs : List Bool} {its : List Value} (rv : Vals (bs.map V.bl) its) : TruthOf prog w A (fun i v => its.toArray[i]? = some v) (fun i => bs.getD i false) := by
  intro i v s Q E hv q
  obtain ⟨x, hx, r⟩ := vals_at rv (by simpa using hv)
  rw [List.getElem?_map] at hx
  cases e : bs[i]? with
  | none => rw [e] at hx; cases hx
  | some b =>
    rw [e] at hx
    cases hx
    cases r
    have eb : bs.getD i false = b := by simp [List.getD, e]
    have q' : Q (bs.getD i false) s := q
    rw [eb] at q'
    exact wpAny_truthy_bool q'
theorem call_all (hc : X.calm = true) : CallR X (.builtin "all") (fun xs H Q => ∃ p, ∃ bs : List Bool, xs = [.ref p] ∧ SqL X.K H p (bs.map V.bl) ∧ Q (.bl (bs.all id)) H) := by
  intro pins s σ H xs us Q I r h
  obtain ⟨p, bs, rfl, hq, q⟩ := h
  obtain ⟨u, rfl, r1⟩ := vals1 r
  cases r1
  obtain ⟨its, rv, pl, hz⟩ := I.list hq
  have hl := rv.length
  rw [List.length_map] at hl
  refine call_all_walk (wpAny_pyIter_list pl.isList ?_)
  have hne : p ≠ s.heap.objs.size := by
    obtain ⟨o, e, _⟩ := pl.isList
    exact Nat.ne_of_lt (Heap.lt_size e)
  refine ⟨_, _, _, _, _, _, _, rfl, Walks.list (A := X.A.in1) (I.ok.hd hc) _ p hne its.toArray, ⟨⟨_, Heap.get?_push_size _ rfl, rfl, rfl⟩, pl.isList.at fun o e => Heap.get?_push_of_some _ e⟩, bools_truth rv, fun h' tk hk => ?_⟩
  rw [List.size_toArray, ← hl, all_range]
  refine ⟨.bl _, H, I.kept fun b o e => hk b o ?_ (Heap.get?_push_of_some _ e), rfl, q⟩
  simpa using Nat.ne_of_lt (Heap.lt_size e)
theorem call_any (hc : X.calm = true) : CallR X (.builtin "any") (fun xs H Q => ∃ p, ∃ bs : List Bool, xs = [.ref p] ∧ SqL X.K H p (bs.map V.bl) ∧ Q (.bl (bs.any id)) H) := by
  intro pins s σ H xs us Q I r h
  obtain ⟨p, bs, rfl, hq, q⟩ := h
  obtain ⟨u, rfl, r1⟩ := vals1 r
  cases r1
  obtain ⟨its, rv, pl, hz⟩ := I.list hq
  have hl := rv.length
  rw [List.length_map] at hl
  refine call_any_walk (wpAny_pyIter_list pl.isList ?_)
  have hne : p ≠ s.heap.objs.size := by
    obtain ⟨o, e, _⟩ := pl.isList
    exact Nat.ne_of_lt (Heap.lt_size e)
  refine ⟨_, _, _, _, _, _, _, rfl, Walks.list (A := X.A.in1) (I.ok.hd hc) _ p hne its.toArray, ⟨⟨_, Heap.get?_push_size _ rfl, rfl, rfl⟩, pl.isList.at fun o e => Heap.get?_push_of_some _ e⟩, bools_truth rv, fun h' tk hk => ?_⟩
  rw [List.size_toArray, ← hl, any_range]
  refine ⟨.bl _, H, I.kept fun b o e => hk b o ?_ (Heap.get?_push_of_some _ e), rfl, q⟩
  simpa using Nat.ne_of_lt (Heap.lt_size e)
theorem call_minL (hc : X.calm = true) : CallR X (.builtin "min") (fun xs H Q => ∃ p, ∃ ns : List Int, xs = [.ref p] ∧ SqL X.K H p (ns.map V.int) ∧ ns ≠ [] ∧ ∀ M, M ∈ ns → (∀ a ∈ ns, M ≤ a) → Q (.int M) H) := by
  intro pins s σ H xs us Q I r h
  obtain ⟨p, ns, rfl, hq, hne, q⟩ := h
  obtain ⟨u, rfl, r1⟩ := vals1 r
  cases r1
  obtain ⟨its, rv, pl, hz⟩ := I.list hq
  have hi := intsAre_of rv
  obtain ⟨ys, e⟩ := hi.allInts.items
  have hns : ns = ys.toList.map (·.1) := by rw [← hi.numsOf, ← nums_intItems, ← e]
  have hsz : 0 < ys.size := by
    have h3 := List.length_pos_iff.mpr hne
    rw [hns, List.length_map, Array.length_toList] at h3; exact h3
  have hl := pl.isList
  rw [e] at hl
  refine min_intList (I.ok.hd hc) hl hsz fun v h' tk hv hk => ?_
  obtain ⟨t, rfl⟩ := intItems_at hv
  obtain ⟨h1, h2⟩ := argBest_lt (numAt ys) (ys.size - 1)
  refine ⟨.int _, H, I.kept hk, ⟨_, rfl⟩, q _ ?_ fun a ha => ?_⟩
  · rw [hns, numAt_eq]; exact getD_mem (by rw [List.length_map, Array.length_toList]; omega)
  · rw [hns] at ha
    obtain ⟨j, hj, rfl⟩ := mem_getD ha
    rw [List.length_map, Array.length_toList] at hj
    rw [← numAt_eq]; exact h2 j (by omega)
theorem call_maxL (hc : X.calm = true) : CallR X (.builtin "max") (fun xs H Q => ∃ p, ∃ ns : List Int, xs = [.ref p] ∧ SqL X.K H p (ns.map V.int) ∧ ns ≠ [] ∧ ∀ M, M ∈ ns → (∀ a ∈ ns, a ≤ M) → Q (.int M) H) := by
  intro pins s σ H xs us Q I r h
  obtain ⟨p, ns, rfl, hq, hne, q⟩ := h
  obtain ⟨u, rfl, r1⟩ := vals1 r
  cases r1
  obtain ⟨its, rv, pl, hz⟩ := I.list hq
  have hi := intsAre_of rv
  obtain ⟨ys, e⟩ := hi.allInts.items
  have hns : ns = ys.toList.map (·.1) := by rw [← hi.numsOf, ← nums_intItems, ← e]
  have hsz : 0 < ys.size := by
    have h3 := List.length_pos_iff.mpr hne
    rw [hns, List.length_map, Array.length_toList] at h3; exact h3
  have hl := pl.isList
  rw [e] at hl
  refine max_intList (I.ok.hd hc) hl hsz fun v h' tk hv hk => ?_
  obtain ⟨t, rfl⟩ := intItems_at hv
  obtain ⟨h1, h2⟩ := argBest_gt (numAt ys) (ys.size - 1)
  refine ⟨.int _, H, I.kept hk, ⟨_, rfl⟩, q _ ?_ fun a ha => ?_⟩
  · rw [hns, numAt_eq]; exact getD_mem (by rw [List.length_map, Array.length_toList]; omega)
  · rw [hns] at ha
    obtain ⟨j, hj, rfl⟩ := mem_getD ha
    rw [List.length_map, Array.length_toList] at hj
    rw [← numAt_eq]; exact h2 j (by omega)
/-! ### == and != of data -/
mutual
inductive DenV (K : PySem.W.Frag) (H : Hp) : V → PyData → Prop
  | non : DenV K H .non .none
  | bl (b : Bool) : DenV K H (.bl b) (.bool b)
  | int (i : Int) : DenV K H (.int i) (.int i)
  | str (x : Str) : DenV K H (.str x) (.str x)
  | lst {a : Addr} {xs : List V} {ds : List PyData} : SqL K H a xs → DenAll K H xs ds → DenV K H (.ref a) (.list ds)
  | tup {a : Addr} {xs : List V} {ds : List PyData} : SqT K H a xs → DenAll K H xs ds → DenV K H (.ref a) (.tuple ds)
inductive DenAll (K : PySem.W.Frag) (H : Hp) : List V → List PyData → Prop
  | nil : DenAll K H [] []
  | cons {x : V} {d : PyData} {xs : List V} {ds : List PyData} : DenV K H x d → DenAll K H xs ds → DenAll K H (x :: xs) (d :: ds)
end
mutual
theorem DenV.reads {pins : List (Addr × Obj)} {σ : St} {H : Hp} {s : Shared} (I : Inv X pins σ H s) : ∀ {x : V} {d : PyData} {u : Value}, DenV X.K H x d → RelV x u → ∃ as, Reads s.heap u d as
  | _, _, _, .non, r => by cases r; exact ⟨_, Reads.none⟩
  | _, _, _, .bl b, r => by cases r; exact ⟨_, Reads.bool b⟩
  | _, _, _, .int i, r => by obtain ⟨t, rfl⟩ := r; exact ⟨_, Reads.int i t⟩
  | _, _, _, .str x, r => by obtain ⟨t, rfl⟩ := r; exact ⟨_, Reads.str x t⟩
  | _, _, _, .lst hq ha, r => by
    cases r
    obtain ⟨its, rv, pl, hz⟩ := I.list hq
    obtain ⟨as, q⟩ := DenAll.reads I ha rv
    obtain ⟨o, e, c, n, hd⟩ := pl.isList
    exact ⟨_, reads_list_at e c hd (by simpa using q)⟩
  | _, _, _, .tup hq ha, r => by
    cases r
    obtain ⟨its, rv, pl, hz⟩ := I.tuple hq
    obtain ⟨as, q⟩ := DenAll.reads I ha rv
    obtain ⟨o, e, c, n, hd⟩ := pl
    exact ⟨_, reads_tuple_at e c hd (by simpa using q)⟩
theorem DenAll.reads {pins : List (Addr × Obj)} {σ : St} {H : Hp} {s : Shared} (I : Inv X pins σ H s) : ∀ {xs : List V} {ds : List PyData} {us : List Value}, DenAll X.K H xs ds → Vals xs us → ∃ as, ReadsAll s.heap us ds as
  | _, _, _, .nil, .nil => ⟨_, ReadsAll.nil⟩
  | _, _, _, .cons h t, .cons r rs => by
    obtain ⟨as, q⟩ := DenV.reads I h r
    obtain ⟨bs, p⟩ := DenAll.reads I t rs
    exact ⟨_, ReadsAll.cons q p⟩
end
end
end L2

set_option Elab.async false
set_option linter.all false
set_option maxRecDepth 100000
set_option maxHeartbeats 4000000
namespace L2
open PySem PySem.Spec PyProof.Rows

/-! ### names within a block -/
section
variable {X : Cx} {N : List Str} {sc : Scope} {s3 : Shared} {H3 : Hp} {C : Addr} {fp : List Addr}
theorem vis_blk {x : Str} (h : sc.names.lookup x = some .local ∨ sc.names.lookup x = some .free) : Vis (relabel sc X.env) x := by
  rcases h with h | h
  · exact .inl (relabel_some h (by decide))
  · rcases relabel_free (env := X.env) h with z | z
    · exact .inr (.inl z)
    · exact .inr (.inr z)
theorem pvb (i : Nat) {x : Str} {pos : Pos} (hN : N[i]? = some x := by rfl) (hv : sc.names.lookup x = some .local ∨ sc.names.lookup x = some .free := by first | exact Or.inl rfl | exact Or.inr rfl)
    (hd : (x == ("__debug__" : Str)) = false := by decide) (hcd : (x == ("__classdict__" : Str)) = false := by decide) : PE (blk X N sc s3 H3 C fp) (.Name x pos) (tVar i) :=
  pe_var (X := blk X N sc s3 H3 C fp) hN (vis_blk (X := X) hv) hd hcd
theorem glb {x : Str} (h : sc.names.lookup x = some .globalImplicit) : Gl (blk X N sc s3 H3 C fp) x := relabel_some h (by decide)
theorem pgb {i : Nat} {x : Str} {pos : Pos} (hnd : N.Nodup) (hN : N[i]? = some x) (h : sc.names.lookup x = some .local) : PG (blk X N sc s3 H3 C fp) (.Name x pos) (gName i) :=
  pg_name (X := blk X N sc s3 H3 C fp) hnd hN (.inl (relabel_some h (by decide))) (.inr (relabel_some h (by decide)))
end

theorem pe_compD (sc0 : Scope) (N0 N : List Str) (mp : List (Option Nat)) {X : Cx} {sc : Scope} {elt tg iter : Expr} {ifs : List Expr} {pos : Pos} {wi : TI} {g : TG} {ti : TT} {te : TE} (S : CompSc sc0 N0 N mp sc) (hi : PI X tg iter wi)
    (hb : ∀ s3 H3 C fp, PG (blk X N sc s3 H3 C fp) tg g ∧ PIf (blk X N sc s3 H3 C fp) ifs ti ∧ PE (blk X N sc s3 H3 C fp) elt te) (hc : X.calm = true := by rfl) (h0 : X.env.scope = sc0 := by rfl) (hN : X.N = N0 := by rfl)
    (hs : ∀ x, foldedSetIterable iter X.env x = pure x := by intro _; rfl) : PE X (.ListComp elt [⟨tg, iter, ifs, 0⟩] sc pos) (tComp mp wi g ti te) := by
  subst h0 hN
  exact pe_comp hc S hi hb hs

/-! ### defs of the text -/
structure Df (P : Program) (w : World) (K : PySem.W.Frag) (mg : Str → Option Value) (base : Heap) (x : Str) (k : Nat) (f : Addr) (fd : FuncData) (ps : List Str) (sp : Sp) : Prop where
  ok : FnOk P w K mg base CX0 k f fd ps sp
  m : mg x = some (.ref f)
  kp : PySem.W.keepIn K (.ref f) = true
  b : Binds K fd ps []
theorem pe_callD {X : Cx} {x : Str} {k k' : Nat} {f : Addr} {fd : FuncData} {ps : List Str} {sp : Sp} {p pos : Pos} {e : Expr} {es : List Expr} {t : TA} (D : Df X.prog X.w X.K X.mg X.base x k f fd ps sp) (hr : Room k' X.A) (hg : Gl X x) (ha : PA X (e :: es) t) (hk : k ≤ k' := by decide)
    (hdb : (x == ("__debug__" : Str)) = false := by decide) (he : starEach (e :: es) X.env = (false, eval e X.env) :: starEach es X.env := by rfl) (hpl : (backTo pos (starEach es X.env)).any (·.1) = false := by rfl) :
    PE X (.Call (.Name x p) (e :: es) [] pos) (tCall sp [] E0 t) := pe_call D.ok (hr.mono hk) hg D.m D.kp D.b .nil pass0 ha hdb he hpl

/-! ### the rules that name the text's written part, by a name for it -/
section
variable {X : Cx} (K : PySem.W.Frag)
theorem ix_listK (h : X.K = K) : IxR X (rIxL K) := by subst h; exact ix_list
theorem call_lenK (h : X.K = K) : CallR X (.builtin "len") (fun xs H Q => ∃ p ys, xs = [.ref p] ∧ (SqL K H p ys ∨ SqT K H p ys) ∧ Q (.int ys.length) H) := by subst h; exact call_len_seq
theorem sl_listK (h : X.K = K) : SlR X (rSlL K) := by subst h; exact sl_list
theorem pi_listK {tg l : Expr} {tl : TE} (h : X.K = K) (hl : PE X l tl) : PI X tg l (iList K tl) := by subst h; exact pi_list hl
theorem call_allK (h : X.K = K) (hc : X.calm = true) : CallR X (.builtin "all") (fun xs H Q => ∃ p, ∃ bs : List Bool, xs = [.ref p] ∧ SqL K H p (bs.map V.bl) ∧ Q (.bl (bs.all id)) H) := by subst h; exact call_all hc
theorem call_anyK (h : X.K = K) (hc : X.calm = true) : CallR X (.builtin "any") (fun xs H Q => ∃ p, ∃ bs : List Bool, xs = [.ref p] ∧ SqL K H p (bs.map V.bl) ∧ Q (.bl (bs.any id)) H) := by subst h; exact call_any hc
theorem call_minK (h : X.K = K) (hc : X.calm = true) : CallR X (.builtin "min") (fun xs H Q => ∃ p, ∃ ns : List Int, xs = [.ref p] ∧ SqL K H p (ns.map V.int) ∧ ns ≠ [] ∧ ∀ M, M ∈ ns → (∀ a ∈ ns, M ≤ a) → Q (.int M) H) := by subst h; exact call_minL hc
theorem call_maxK (h : X.K = K) (hc : X.calm = true) : CallR X (.builtin "max") (fun xs H Q => ∃ p, ∃ ns : List Int, xs = [.ref p] ∧ SqL K H p (ns.map V.int) ∧ ns ≠ [] ∧ ∀ M, M ∈ ns → (∀ a ∈ ns, a ≤ M) → Q (.int M) H) := by subst h; exact call_maxL hc
theorem pe_bmK (h : X.K = K) {o e : Expr} {es : List Expr} {to : TE} {t : TA} {name : Str} {apos cpos : Pos} {T id : String} {r : V → List V → Hp → VK → Prop} (pa : PlainAttrs T) (slot : Slot T name id) (hty : typeOf (.builtin id) = pure (.type "method_descriptor")) (hm : MtR X id r) (ho : PE X o to) (ha : PA X (e :: es) t)
    (hbase : attributeBase o name X.env (eval o X.env) = eval o X.env)
    (hfew : ((backTo cpos (starEach (e :: es) X.env)).all (fun x => !x.1) && (backToKw cpos (keywordEach [] X.env)).all (fun x => x.1.isSome)
      && decide ((e :: es).length + ([] : List Keyword).length + (if ([] : List Keyword).isEmpty then 0 else 1) < 30)) = true)
    (hline : (apos.endLine == cpos.line) = true) (hs : starEach (e :: es) X.env = (false, eval e X.env) :: starEach es X.env) (hplain : (backTo cpos (starEach es X.env)).any (·.1) = false) :
    PE X (.Call (.Attribute o name apos) (e :: es) [] cpos) (tBM K T r to t) := by subst h; exact pe_bm pa slot hty hm ho ha hbase hfew hline hs hplain
end
/-! ### constants -/
section
variable {X : Cx}
theorem pe_gI {x : Str} {i : Int} {pos : Pos} (hg : Gl X x) (h : ∃ t, X.mg x = some (.int i t)) (hd : (x == ("__debug__" : Str)) = false := by decide) : PE X (.Name x pos) (tC (.int i)) := by
  obtain ⟨t, h⟩ := h
  exact pe_glob hg h ⟨t, rfl⟩ hd
theorem pe_gS {x : Str} {l : List Nat} {pos : Pos} (hg : Gl X x) (h : ∃ t, X.mg x = some (.str (S l) t)) (hd : (x == ("__debug__" : Str)) = false := by decide) : PE X (.Name x pos) (tC (.str (S l))) := by
  obtain ⟨t, h⟩ := h
  exact pe_glob hg h ⟨t, rfl⟩ hd
theorem pe_strS (l : List Nat) {x : Str} {j : Nat} {pos : Pos} (h : x = S l := by decide +kernel) : PE X (.Constant (.str x) j pos) (tC (.str (S l))) := by
  subst h
  exact pe_str
theorem call_lenS : CallR X (.builtin "len") (fun xs H Q => ∃ l, xs = [.str (S l)] ∧ l.length ≤ sizeLine ∧ Q (.int l.length) H) := by
  intro pins s σ H xs us Q I r h
  obtain ⟨l, rfl, hz, q⟩ := h
  exact call_len_str pins s σ H _ us Q I r ⟨S l, rfl, by rw [S_length]; exact hz, by rw [S_length]; exact q⟩
end

/-! ### the readings, a step each -/
section
variable {σ : St} {H : Hp} {Q : VK} {D : Ends} {K : PySem.W.Frag}
theorem g_seq {t u : TS} (h : t { D with nx := u D } σ H) : tSeq t u D σ H := h
theorem g_next (h : D.nx σ H) : tNext D σ H := h
theorem g_ret {te : TE} (h : te σ H D.rt) : tRet te D σ H := h
theorem g_drop {te : TE} (h : te σ H fun _ H1 => D.nx σ H1) : tDrop te D σ H := h
theorem g_asg {te : TE} {g : TG} (h : te σ H fun x H1 => g x σ H1 D.nx) : tAsg te g D σ H := h
theorem g_name {i : Nat} {v : V} {R : St → Hp → Prop} (h : R (σ.set i (some v)) H) : gName i v σ H R := h
theorem g_if {c : TT} {t u : TS} (h : c σ H fun b H1 => if b = true then t D σ H1 else u D σ H1) : tIfS c t u D σ H := h
theorem g_varT {i : Nat} (h : ∃ v, σ[i]? = some (some v) ∧ Q v H) : tVar i σ H Q := h
theorem g_c {v : V} (h : Q v H) : tC v σ H Q := h
theorem g_op {r : R2} {ta tb : TE} (h : ta σ H fun x H1 => tb σ H1 fun y H2 => r x y H2 Q) : tOp r ta tb σ H Q := h
theorem g_rI0 {g : Int → Int → V} {i j : Int} (h : Q (g i j) H) : rI0 g (.int i) (.int j) H Q := ⟨i, j, rfl, rfl, h⟩
theorem g_rI {P : Int → Int → Prop} {g : Int → Int → V} {i j : Int} (c : P i j) (h : Q (g i j) H) : rI P g (.int i) (.int j) H Q := ⟨i, j, rfl, rfl, c, h⟩
theorem g_test {t : TE} {R : Bool → Hp → Prop} (h : t σ H fun x H' => ∃ k, x = .bl k ∧ R k H') : tTest t σ H R := h
theorem g_tb {t : TE} {R : Bool → Hp → Prop} (h : t σ H fun x H' => ∃ k, x = .bl k ∧ R k H') : tB t σ H R := h
theorem g_or {t u : TT} {R : Bool → Hp → Prop} (h : t σ H fun c H1 => if c = true then R true H1 else u σ H1 R) : tOr t u σ H R := h
theorem g_not {t : TT} {R : Bool → Hp → Prop} (h : t σ H fun c H1 => R (!c) H1) : tNot t σ H R := h
theorem g_orV {ta tb : TE} (h : ta σ H fun x H1 => ∃ c, x = .bl c ∧ if c = true then Q (.bl true) H1 else tb σ H1 Q) : tOrV ta tb σ H Q := h
theorem g_cb {r : List V → Hp → VK → Prop} {t : TA} (h : t σ H fun vs H1 => r vs H1 Q) : tCB r t σ H Q := h
theorem g_nil {R : List V → Hp → Prop} (h : R [] H) : tNil σ H R := h
theorem g_cons {ta : TE} {tr : TA} {R : List V → Hp → Prop} (h : ta σ H fun x H1 => tr σ H1 fun xs H2 => R (x :: xs) H2) : tCons ta tr σ H R := h
theorem g_sl {r : V → Option Int → Option Int → Hp → VK → Prop} {te : TE} {tl th : TO} (h : te σ H fun x H1 => tl σ H1 fun l H2 => th σ H2 fun u H3 => r x l u H3 Q) : tSl r te tl th σ H Q := h
theorem g_nopart {R : Option Int → Hp → Prop} (h : R none H) : tNoPart σ H R := h
theorem g_part {t : TE} {R : Option Int → Hp → Prop} (h : t σ H fun x H1 => ∃ i, x = .int i ∧ R (some i) H1) : tPart t σ H R := h
theorem g_call {sp : Sp} {E : XK} {t : TA} (h : t σ H fun vs H1 => sp (vs ++ []) H1 Q E) : tCall sp [] E t σ H Q := h
theorem g_lst {t : TA} (h : t σ H fun xs H1 => xs.length ≤ sizeLine ∧ ∀ p, H1 p = none → Q (.ref p) (upd H1 p (.lst xs))) : tLst t σ H Q := h
theorem g_tup {t : TA} (h : t σ H fun xs H1 => xs.length ≤ sizeLine ∧ ∀ p, H1 p = none → Q (.ref p) (upd H1 p (.tup xs))) : tTup t σ H Q := h
theorem g_addS {a b : List Nat} (c : a.length + b.length ≤ sizeLine) (h : Q (.str (S (a ++ b))) H) : rAddS (.str (S a)) (.str (S b)) H Q := ⟨a, b, rfl, rfl, c, h⟩
theorem g_inS {a b : List Nat} (h : Q (.bl (within a b)) H) : rInS (.str (S a)) (.str (S b)) H Q := ⟨a, b, rfl, rfl, h⟩
theorem tyL {p : Addr} {xs : List V} (h : SqL K H p xs) : tyV K "list" (.ref p) H := Or.inl ⟨rfl, xs, h⟩
theorem g_tyS {x : Str} {A : Prop} (h : A) : tyV K "str" (.str x) H ∧ A := ⟨rfl, h⟩
theorem g_tyL {p : Addr} {xs : List V} {A : Prop} (c : SqL K H p xs) (h : A) : tyV K "list" (.ref p) H ∧ A := ⟨tyL c, h⟩
theorem g_sw {a b : List Nat} (h : Q (.bl (b.isPrefixOf a)) H) : rSw (.str (S a)) [.str (S b)] H Q := ⟨a, b, rfl, rfl, h⟩
theorem g_slS {l : List Nat} {lo hi : Option Int} (c : l.length ≤ sizeLine) (h : Q (.str (S (cutL l lo hi))) H) : rSlS (.str (S l)) lo hi H Q := ⟨l, rfl, c, h⟩
end

theorem dec_S {a b : List Nat} : decide (V.str (S a) = V.str (S b)) = decide (a = b) := by
  by_cases h : a = b
  · subst h; simp
  · rw [decide_eq_false h, decide_eq_false]
    intro z
    exact h (S_inj.mp (V.str.inj z))
theorem dec_I {a b : Int} : decide (V.int a = V.int b) = decide (a = b) := by
  by_cases h : a = b
  · subst h; simp
  · rw [decide_eq_false h, decide_eq_false]
    intro z
    exact h (V.int.inj z)
section
variable {H : Hp} {Q : VK} {K : PySem.W.Frag}
theorem g_eqI {i j : Int} (h : Q (.bl (decide (i = j))) H) : rEq (.int i) (.int j) H Q := ⟨rfl, by rw [dec_I]; exact h⟩
theorem g_neI {i j : Int} (h : Q (.bl (!decide (i = j))) H) : rNe (.int i) (.int j) H Q := ⟨rfl, by rw [dec_I]; exact h⟩
theorem g_eqS {a b : List Nat} (h : Q (.bl (decide (a = b))) H) : rEq (.str (S a)) (.str (S b)) H Q := ⟨rfl, by rw [dec_S]; exact h⟩
theorem g_neS {a b : List Nat} (h : Q (.bl (!decide (a = b))) H) : rNe (.str (S a)) (.str (S b)) H Q := ⟨rfl, by rw [dec_S]; exact h⟩
theorem g_ixS {l : List Nat} {i : Int} {c : Nat} (hz : l.length ≤ sizeLine) (e : atI l i = some c) (h : Q (.str (S [c])) H) : rIxSS (.str (S l)) (.int i) H Q := ⟨l, i, c, rfl, rfl, hz, e, h⟩
theorem g_ixL {p : Addr} {xs : List V} {i : Int} {v : V} (c : SqL K H p xs) (e : atI xs i = some v) (h : Q v H) : rIxL K (.ref p) (.int i) H Q := ⟨p, xs, i, v, rfl, rfl, c, e, h⟩
end
theorem g_ite {c A B : Prop} [Decidable c] (h1 : c → A) (h2 : ¬ c → B) : if decide c = true then A else B := by
  by_cases h : c
  · rw [decide_eq_true h, if_pos rfl]; exact h1 h
  · rw [decide_eq_false h, if_neg Bool.false_ne_true]; exact h2 h
theorem g_iteN {c A B : Prop} [Decidable c] (h1 : ¬ c → A) (h2 : c → B) : if (!decide c) = true then A else B := by
  by_cases h : c
  · rw [decide_eq_true h]; exact iteF (h2 h)
  · rw [decide_eq_false h]; exact iteT (h1 h)
theorem iteTd {c A B : Prop} [Decidable c] (hc : c) (h : A) : if decide c = true then A else B := by rw [decide_eq_true hc]; exact iteT h
theorem iteFd {c A B : Prop} [Decidable c] (hc : ¬ c) (h : B) : if decide c = true then A else B := by rw [decide_eq_false hc]; exact iteF h

theorem small {n : Nat} (h : n ≤ 1000) : n ≤ sizeLine := Nat.le_of_lt (small1000 h)
/-! ### heaps that only grow -/
theorem same_upd {H H1 : Hp} {D : Addr} {o : HO} (e : Same H H1) (hD : H D = none) : Same H (upd H1 D o) := fun b u hb => by
  rw [upd_ne (ne_of_none hb hD)]; exact e b u hb
/-! ### a comprehension over known items -/
inductive All2 {α β : Type} (F : α → β → Prop) : List α → List β → Prop
  | nil : All2 F [] []
  | snoc {a : α} {b : β} {l : List α} {m : List β} : All2 F l m → F a b → All2 F (l ++ [a]) (m ++ [b])
theorem All2.mono {α β : Type} {F G : α → β → Prop} (h : ∀ a b, F a b → G a b) {l : List α} {m : List β} (x : All2 F l m) : All2 G l m := by
  induction x with
  | nil => exact .nil
  | snoc _ f ih => exact .snoc ih (h _ _ f)
theorem All2.map {α β : Type} {f : α → β} {l : List α} {m : List β} (x : All2 (fun a b => b = f a) l m) : m = l.map f := by
  induction x with
  | nil => rfl
  | snoc _ h ih => subst h; rw [ih]; simp
theorem All2.length {α β : Type} {F : α → β → Prop} {l : List α} {m : List β} (x : All2 F l m) : m.length = l.length := by
  induction x with
  | nil => rfl
  | snoc _ h ih => simp [ih]

/-- what an iterator must do to go through xs while the heap only grows -/
structure Goes (J : It) (H1 : Hp) (xs : List V) : Prop where
  go : ∀ i H', Same H1 H' → i < xs.length → J.go i H'
  yld : ∀ i H' x H'', Same H1 H' → i < xs.length → J.yld i H' x H'' → H'' = H' ∧ xs[i]? = some x
  stop : ∀ H', Same H1 H' → J.stop xs.length H'
theorem goes_range (lo : Int) (n : Nat) (H1 : Hp) : Goes (Itr lo n) H1 ((List.range n).map fun (k : Nat) => V.int (lo + (k : Int))) := by
  refine ⟨fun i H' _ hi => ?_, fun i H' x H'' _ hi y => ?_, fun H' _ => ?_⟩
  · rw [List.length_map, List.length_range] at hi; exact hi
  · rw [List.length_map, List.length_range] at hi
    obtain ⟨e, rfl⟩ := y
    refine ⟨e, ?_⟩
    rw [List.getElem?_map, List.getElem?_range hi]
    rfl
  · rw [List.length_map, List.length_range]; exact Nat.le_refl _
theorem goes_list {K : PySem.W.Frag} {a : Addr} {xs : List V} {H1 : Hp} (h : SqL K H1 a xs) : Goes (Itl K a) H1 xs := by
  refine ⟨fun i H' e hi => ⟨xs, xs[i], e.seq h, by simp [hi]⟩, fun i H' x H'' e hi y => ?_, fun H' e => ⟨xs, e.seq h, Nat.le_refl _⟩⟩
  obtain ⟨e', y⟩ := y
  exact ⟨e', y xs (e.seq h)⟩
theorem goes_str (l : List Nat) (H1 : Hp) : Goes (Its l) H1 (l.map fun c => V.str (S [c])) := by
  refine ⟨fun i H' _ hi => ?_, fun i H' x H'' _ hi y => ?_, fun H' _ => ?_⟩
  · rw [List.length_map] at hi; exact hi
  · obtain ⟨e, c, hc, rfl⟩ := y
    refine ⟨e, ?_⟩
    rw [List.getElem?_map, hc]
    rfl
  · rw [List.length_map]; exact Nat.le_refl _

theorem comp_gen {α : Type} {J : It} {src : List α} {gv : α → V} {mp : List (Option Nat)} {σ : St} {H1 : Hp} {ti : TT} {te : TE} {Dd : Addr} {Q : VK} (p : α → Bool) (F : α → V → Hp → Prop) (G : Goes J H1 (src.map gv)) (hD : H1 Dd = none) (hz : src.length ≤ sizeLine)
    (Fm : ∀ a y H H', (∀ b o, b ≠ Dd → H b = some o → H' b = some o) → F a y H → F a y H')
    (ht : ∀ a ∈ src, ∀ (H' : Hp) (R : Bool → Hp → Prop), Same H1 H' → (∀ H'', Same H' H'' → R (p a) H'') → ti ((pick mp σ).set 0 (some (gv a))) H' R)
    (he : ∀ a ∈ src, p a = true → ∀ (H' : Hp) (R : VK), Same H1 H' → H' Dd ≠ none → (∀ y H'', Same H' H'' → F a y H'' → R y H'') → te ((pick mp σ).set 0 (some (gv a))) H' R)
    (q : ∀ H' ys, Same H1 H' → H' Dd = some (.lst ys) → All2 (fun x y => F x y H') (src.filter p) ys → Q (.ref Dd) H') :
    CompW J mp (gName 0) ti te Dd Q σ H1 := by
  let W : Nat → Nat → St → Hp → Prop := fun i m σ' H' => m = src.length - i ∧ i ≤ src.length ∧ (∀ v, σ'.set 0 (some v) = (pick mp σ).set 0 (some v)) ∧ Same H1 H' ∧ ∃ ys, H' Dd = some (.lst ys) ∧ All2 (fun x y => F x y H') ((src.take i).filter p) ys
  have hlm : (src.map gv).length = src.length := List.length_map ..
  refine ⟨W, ⟨src.length, by simp, Nat.zero_le _, fun v => rfl, same_upd (Same.refl _) hD, [], upd_same, by simpa using All2.nil⟩, ?_⟩
  rintro i m σ' H' ⟨rfl, hi, hσ, hS, ys, hy, ha⟩
  by_cases hlt : i < src.length
  · refine .inr ⟨G.go i H' hS (by rw [hlm]; exact hlt), fun σ2 H2 => W (i + 1) (src.length - (i + 1)) σ2 H2, fun σ2 H2 w => ⟨_, by omega, w⟩, fun x H'' y => ?_⟩
    obtain ⟨rfl, hx⟩ := G.yld i H' x H'' hS (by rw [hlm]; exact hlt) y
    obtain ⟨a, hxa, rfl⟩ : ∃ a, src[i]? = some a ∧ gv a = x := by
      rw [List.getElem?_map] at hx
      cases e : src[i]? with
      | none => rw [e] at hx; cases hx
      | some a => rw [e] at hx; exact ⟨a, rfl, Option.some.inj hx⟩
    have hm : a ∈ src := List.mem_of_getElem? hxa
    show ti (σ'.set 0 (some (gv a))) _ _
    rw [hσ (gv a)]
    have hset : ∀ v, ((pick mp σ).set 0 (some (gv a))).set 0 (some v) = (pick mp σ).set 0 (some v) := fun v => List.set_set ..
    have htk : (src.take (i + 1)).filter p = (src.take i).filter p ++ (if p a then [a] else []) := take_succ_filter p src i a hxa
    refine ht a hm _ _ hS fun H3 s3 => ?_
    have hS3 : Same H1 H3 := hS.trans s3
    have hy3 : H3 Dd = some (.lst ys) := s3 _ _ hy
    have ha3 : All2 (fun x y => F x y H3) ((src.take i).filter p) ys := ha.mono fun a b f => Fm a b _ _ (fun c o _ e => s3 c o e) f
    cases hp : p a with
    | false =>
      rw [if_neg Bool.false_ne_true]
      refine ⟨rfl, hlt, hset, hS3, ys, hy3, ?_⟩
      rw [htk, hp]
      simpa using ha3
    | true =>
      rw [if_pos rfl]
      refine he a hm hp H3 _ hS3 (by rw [hy3]; exact fun z => nomatch z) fun y H4 s4 f => ?_
      have hy4 : H4 Dd = some (.lst ys) := s4 _ _ hy3
      have hlen : ys.length ≤ i := by
        rw [ha.length]
        exact Nat.le_trans (List.length_filter_le _ _) (by rw [List.length_take]; omega)
      refine ⟨ys, hy4, by omega, rfl, hlt, hset, same_upd (hS3.trans s4) hD, ys ++ [y], upd_same, ?_⟩
      rw [htk, hp]
      have up : ∀ (c : Addr) (o : HO), c ≠ Dd → H4 c = some o → upd H4 Dd (.lst (ys ++ [y])) c = some o := fun c o hc e => by rw [upd_ne hc]; exact e
      exact All2.snoc (ha3.mono fun a b f' => Fm a b _ _ (fun c o hc e => up c o hc (s4 c o e)) f') (Fm a y _ _ up f)
  · have e : i = src.length := by omega
    subst e
    rw [List.take_length] at ha
    exact .inl ⟨by rw [← hlm]; exact G.stop H' hS, q H' ys hS hy ha⟩

theorem filter_yes {α : Type} (l : List α) : l.filter (fun _ => true) = l := by simp
theorem comp_genT {α : Type} {J : It} {src : List α} {gv : α → V} {mp : List (Option Nat)} {σ : St} {H1 : Hp} {te : TE} {Dd : Addr} {Q : VK} (F : α → V → Hp → Prop) (G : Goes J H1 (src.map gv)) (hD : H1 Dd = none) (hz : src.length ≤ sizeLine)
    (Fm : ∀ a y H H', (∀ b o, b ≠ Dd → H b = some o → H' b = some o) → F a y H → F a y H')
    (he : ∀ a ∈ src, ∀ (H' : Hp) (R : VK), Same H1 H' → H' Dd ≠ none → (∀ y H'', Same H' H'' → F a y H'' → R y H'') → te ((pick mp σ).set 0 (some (gv a))) H' R)
    (q : ∀ H' ys, Same H1 H' → H' Dd = some (.lst ys) → All2 (fun x y => F x y H') src ys → Q (.ref Dd) H') : CompW J mp (gName 0) tYes te Dd Q σ H1 :=
  comp_gen (fun _ => true) F G hD hz Fm (fun _ _ H' R _ k => k H' (Same.refl _)) (fun a ha _ H' R s1 h1 k => he a ha H' R s1 h1 k) fun H' ys s1 hy ha => q H' ys s1 hy (by rw [filter_yes] at ha; exact ha)
theorem comp_map {α : Type} {J : It} {src : List α} {gv : α → V} {mp : List (Option Nat)} {σ : St} {H1 : Hp} {te : TE} {Dd : Addr} {Q : VK} (f : α → V) (G : Goes J H1 (src.map gv)) (hD : H1 Dd = none) (hz : src.length ≤ sizeLine)
    (he : ∀ a ∈ src, ∀ (H' : Hp) (R : VK), Same H1 H' → (∀ H'', Same H' H'' → R (f a) H'') → te ((pick mp σ).set 0 (some (gv a))) H' R)
    (q : ∀ H', Same H1 H' → H' Dd = some (.lst (src.map f)) → Q (.ref Dd) H') : CompW J mp (gName 0) tYes te Dd Q σ H1 :=
  comp_genT (fun x y _ => y = f x) G hD hz (fun _ _ _ _ _ h => h) (fun x hx H' R s1 _ k => he x hx H' R s1 fun H'' s2 => k _ H'' s2 rfl) fun H' ys s1 hy ha => q H' s1 (by rw [hy, ha.map])
theorem all2_ints {α : Type} {P : Int → Prop} {src : List α} {ys : List V} (h : All2 (fun _ y => ∃ n : Int, y = V.int n ∧ P n) src ys) : ∃ ns : List Int, ys = ns.map V.int ∧ ns.length = src.length ∧ ∀ n ∈ ns, P n := by
  induction h with
  | nil => exact ⟨[], rfl, rfl, by simp⟩
  | snoc _ f ih =>
    obtain ⟨ns, rfl, hl, hp⟩ := ih
    obtain ⟨n, rfl, pn⟩ := f
    refine ⟨ns ++ [n], by simp, by simp [hl], fun m hm => ?_⟩
    rcases List.mem_append.mp hm with z | z
    · exact hp m z
    · have : m = n := by simpa using z
      subst this; exact pn
def ForW (J : It) (g : TG) (tb : TS) (D : Ends) (σ : St) (H1 : Hp) : Prop := ∃ W : Nat → Nat → St → Hp → Prop, (∃ m, W 0 m σ H1) ∧ ∀ i m σ H, W i m σ H →
  (J.stop i H ∧ D.nx σ H) ∨ (J.go i H ∧ ∃ N : St → Hp → Prop, (∀ σ' H', N σ' H' → ∃ m', m' < m ∧ W (i + 1) m' σ' H') ∧ ∀ x H', J.yld i H x H' → g x σ H' fun σ2 H2 => tb { D with nx := N, ct := N, bk := D.nx } σ2 H2)
theorem forR {lo : Int} {n : Nat} {g : TG} {tb : TS} {D : Ends} {σ : St} {H : Hp} (Pv : Nat → St → Hp → Prop) (h0 : Pv 0 σ H)
    (hs : ∀ i σ H, i < n → Pv i σ H → g (.int (lo + i)) σ H fun σ2 H2 => tb { D with nx := Pv (i + 1), ct := Pv (i + 1), bk := D.nx } σ2 H2) (hd : ∀ σ H, Pv n σ H → D.nx σ H) : ForW (Itr lo n) g tb D σ H := for_range Pv h0 hs hd
theorem forL {K : PySem.W.Frag} {a : Addr} {xs : List V} {g : TG} {tb : TS} {D : Ends} {σ : St} {H : Hp} (Pv : Nat → St → Hp → Prop) (h0 : Pv 0 σ H) (hl : ∀ i σ H, i ≤ xs.length → Pv i σ H → SqL K H a xs)
    (hs : ∀ i x σ H, xs[i]? = some x → Pv i σ H → g x σ H fun σ2 H2 => tb { D with nx := Pv (i + 1), ct := Pv (i + 1), bk := D.nx } σ2 H2) (hd : ∀ σ H, Pv xs.length σ H → D.nx σ H) : ForW (Itl K a) g tb D σ H := for_list Pv h0 hl hs hd
section
variable {mp : List (Option Nat)} {wi : TI} {g : TG} {ti : TT} {te : TE} {σ : St} {H : Hp} {Q : VK} {R : It → Hp → Prop} {K : PySem.W.Frag}
theorem g_comp (h : wi σ H fun J H1 => ∀ D, H1 D = none → CompW J mp g ti te D Q σ H1) : tComp mp wi g ti te σ H Q := h
theorem g_istr {tl : TE} (h : tl σ H fun x H1 => ∃ l, x = .str (S l) ∧ R (Its l) H1) : iStr tl σ H R := h
theorem g_ilist {tl : TE} (h : tl σ H fun x H1 => ∃ a, x = .ref a ∧ (∃ xs, SqL K H1 a xs) ∧ R (Itl K a) H1) : iList K tl σ H R := h
theorem g_rng1 {ta : TA} (h : ta σ H fun vs H1 => ∃ j : Int, vs = [.int j] ∧ -(2 ^ 62) ≤ j ∧ j < 2 ^ 62 ∧ R (Itr 0 j.toNat) H1) : iRng1 ta σ H R := h
theorem g_for {tb : TS} {D : Ends} (h : wi σ H fun J H1 => ForW J g tb D σ H1) : tFor wi g tb D σ H := h
end
theorem cutL_to {α : Type} (l : List α) (k : Nat) : cutL l none (some (k : Int)) = l.take k := by
  unfold cutL
  rw [HT.sIx_nat, HT.sIx_none, List.drop_zero, Nat.sub_zero]
  by_cases h : k ≤ l.length
  · rw [Nat.min_eq_left h]
  · rw [Nat.min_eq_right (by omega), List.take_length, List.take_of_length_le (by omega)]
theorem cutL_from {α : Type} (l : List α) (k : Nat) : cutL l (some (k : Int)) none = l.drop k := by
  unfold cutL
  rw [HT.sIx_nat, HT.sIx_none]
  by_cases h : k ≤ l.length
  · rw [Nat.min_eq_left h, List.take_of_length_le (by rw [List.length_drop]; omega)]
  · rw [Nat.min_eq_right (by omega), List.drop_length, List.drop_of_length_le (by omega)]
    simp
theorem within_one (c : Nat) (b : List Nat) : within [c] b = decide (c ∈ b) := by
  rw [Bool.eq_iff_iff, decide_eq_true_eq]
  unfold within
  rw [List.any_eq_true]
  constructor
  · rintro ⟨i, hi, h⟩
    rw [List.isPrefixOf_iff_prefix] at h
    exact List.mem_of_mem_drop (h.subset (by simp))
  · intro h
    obtain ⟨i, hi, rfl⟩ := List.mem_iff_getElem.mp h
    refine ⟨i, List.mem_range.mpr (by omega), ?_⟩
    rw [List.isPrefixOf_iff_prefix, List.drop_eq_getElem_cons hi]
    exact ⟨_, rfl⟩

end L2

set_option Elab.async false
set_option linter.all false
set_option maxRecDepth 100000
set_option maxHeartbeats 4000000
namespace L2
open PySem PySem.Spec PyProof.Rows
section
variable {X : Cx} {pins : List (Addr × Obj)} {σ : List (Option V)} {H H' : Hp} {s : Shared} {h' : Heap}
/-- several untracked records of ours have turned -/
theorem Inv.turnedL {t' : Nat} {ch : List Addr} (I : Inv X pins σ H s) (k : ∀ b o, b ∉ ch → s.heap.get? b = some o → h'.get? b = some o)
    (hc : ∀ b ∈ ch, FpOk X pins H b) : Inv X pins σ H { s with heap := h', toks := t' } := by
  have nit : ∀ b u, H b = some u → b ∉ ch := fun b u e z => by rw [(hc b z).1] at e; cases e
  refine I.step (g' := s.gens) (d' := s.drawn) (ch := ch) (fun b hb => ?_) (fun b o _ _ hn e _ => k b o hn e) (fun b o _ _ hn e _ => ⟨o.slots, k b o hn e⟩) (fun _ _ _ _ n => n)
    (fun b o hn e => ⟨o, k b o hn e⟩) (fun _ _ e => e) (fun _ _ _ e => e) (fun b ps e => ⟨#[], by rw [e]; simp⟩) (fun m hm => ?_) (fun b u e => ?_) I.bare
  · obtain ⟨_, f1, _, f3, f4, f5⟩ := hc b hb
    exact ⟨f3, f1, f4, f5⟩
  · obtain ⟨o, es, ep, ho, r⟩ := hm
    exact ⟨o, es, ep, k _ o (fun z => (hc _ z).2.1 rfl) ho, r⟩
  · refine (I.hok b u e).stay (fun c v hcc q => k c v ?_ q) (fun _ q => q) fun _ _ q => q
    rcases hcc with z | z
    · rw [z]; exact nit b u e
    · exact nit c _ z
end
end L2
namespace L2
open PySem PySem.Spec PyProof.Rows
/-! ### data that may be compared -/
mutual
/-- flat or nested data of few layers, without dicts -/
def okD : PyData → Bool
  | .none | .bool _ | .int _ => true
  | .str x => PyData.strOk x
  | .list xs | .tuple xs => okDs xs
  | .dict _ => false
def okDs : List PyData → Bool
  | [] => true
  | x :: xs => okD x && okDs xs
end
mutual
theorem eqv_self : ∀ d : PyData, okD d = true → PyData.eqv d d = true
  | .none, _ => by simp [PyData.eqv]
  | .bool b, _ => by simp [PyData.eqv]
  | .int i, _ => by simp [PyData.eqv]
  | .str x, _ => by simp [PyData.eqv]
  | .list xs, h => by rw [PyData.eqv]; exact eqvAll_self xs (by simpa [okD] using h)
  | .tuple xs, h => by rw [PyData.eqv]; exact eqvAll_self xs (by simpa [okD] using h)
  | .dict _, h => by simp [okD] at h
theorem eqvAll_self : ∀ ds : List PyData, okDs ds = true → PyData.eqvAll ds ds = true
  | [], _ => by simp [PyData.eqvAll]
  | d :: r, h => by
    have h' : okD d = true ∧ okDs r = true := by simpa [okDs] using h
    rw [PyData.eqvAll, eqv_self d h'.1, eqvAll_self r h'.2]; rfl
end
mutual
theorem lay_ok : ∀ d : PyData, okD d = true → d.canLay0 = true
  | .none, _ => by simp [PyData.canLay0]
  | .bool b, _ => by simp [PyData.canLay0]
  | .int i, _ => by simp [PyData.canLay0]
  | .str x, h => by simpa [PyData.canLay0, okD] using h
  | .list xs, h => by rw [PyData.canLay0]; exact layAll_ok xs (by simpa [okD] using h)
  | .tuple xs, h => by rw [PyData.canLay0]; exact layAll_ok xs (by simpa [okD] using h)
  | .dict _, h => by simp [okD] at h
theorem layAll_ok : ∀ ds : List PyData, okDs ds = true → PyData.canLayAll0 ds = true
  | [], _ => by simp [PyData.canLayAll0]
  | d :: r, h => by
    have h' : okD d = true ∧ okDs r = true := by simpa [okDs] using h
    rw [PyData.canLayAll0, lay_ok d h'.1, layAll_ok r h'.2]; rfl
end
end L2

set_option Elab.async false
set_option linter.all false
set_option maxRecDepth 100000
set_option maxHeartbeats 4000000
/-! Wordrace: sets of texts, walked in whatever order. -/
namespace L2
open PySem PySem.Spec PyProof.Rows
open Sem (wp)

section
variable {M : Model} {A : Around} {E : Value → Shared → Prop}
end
/-! ### the set's iterator -/
namespace FS
end FS
end L2

set_option Elab.async false
set_option linter.all false
set_option maxRecDepth 100000
set_option maxHeartbeats 4000000
namespace L2
open PySem PySem.Spec PyProof.Rows
open Sem (wp)
section
variable {prog : Program} {w : World} {A : Around} {E : Value → Shared → Prop} {s : Shared}
/-! ### .. in a drawn order -/
/-! ### a set's iterator walks its elements, each once -/
end
end L2

set_option Elab.async false
set_option linter.all false
set_option maxRecDepth 100000
set_option maxHeartbeats 4000000
/-! Wordrace: numbers of any size, sums, a sign's place. -/
namespace L2
open PySem PySem.Spec PyProof.Rows
section
variable {X : Cx} {pins : List (Addr × Obj)} {σ : List (Option V)} {H : Hp} {s : Shared}
/-! ### a sign's place in a text -/
end
/-! ### steps -/
section
variable {σ : St} {H : Hp} {Q : VK} {D : Ends} {K : PySem.W.Frag}
theorem ixN_nat {n j : Nat} (h : j < n) : ixN n (j : Int) = some j := by
  unfold ixN
  rw [if_pos (by omega), if_pos (by omega)]
  simp
end
end L2

set_option Elab.async false
set_option linter.all false
set_option maxRecDepth 100000
set_option maxHeartbeats 4000000
/-! Wordrace: a name that is given a comprehension: it is stored ahead of the block's names going. -/
namespace L2
open PySem PySem.Spec PyProof.Rows
section
variable {X : Cx} {N : List Str} {mp : List (Option Nat)} {sc : Scope}
theorem ps_setC {i : Nat} {y : Str} {py spos : Pos} {elt tg iter : Expr} {ifs : List Expr} {pos : Pos} {wi : TI} {g : TG} {ti : TT} {te : TE} (hst : PG X (.Name y py) (gName i)) (hc : X.calm = true) (S : CompSc X.env.scope X.N N mp sc) (hi : PI X tg iter wi)
    (hb : ∀ s3 H3 C fp, PG (blk X N sc s3 H3 C fp) tg g ∧ PIf (blk X N sc s3 H3 C fp) ifs ti ∧ PE (blk X N sc s3 H3 C fp) elt te)
    (hsw : swapsWith (.ListComp elt [⟨tg, iter, ifs, 0⟩] sc pos) (some (.Name y py)) spos.line X.env = pure true)
    (hs : ∀ x, foldedSetIterable iter X.env x = pure x := by intro _; rfl) : PS X (.Assign [.Name y py] (.ListComp elt [⟨tg, iter, ifs, 0⟩] sc pos) spos) (tAsg (tComp mp wi g ti te) (gName i)) := by
  intro pins s σ H DD I h
  rw [exec_Assign_Name_used _ _ _ _ hsw]
  refine wpAny_bind (wpAny_standAt (wpAny_bind ?_))
  show wpAny _ X.A (do let _ ← comprehension (.ListComp elt [⟨tg, iter, ifs, 0⟩] sc pos) sc X.env _ (newList []) false (eval iter X.env) (some (assign (.Name y py) X.env))) _ _ s
  refine wpAny_bind (wpAny_mono (wpAny_comprehension_free (use := some (assign (.Name y py) X.env)) (Q := fun _ s' => SP X pins DD .next s') rfl hs (closureFor_eq (fun x hx hf => I.ok.has x.1 (S.free x hx hf))) S.kind S.own
    (thn (hi pins s σ H _ I h) fun v s1 h1 => thn h1 fun itv s2 h2 => ?_)) (fun _ s' hq => wpAny_pure (wpAny_pure hq)) fun _ _ e => e)
  obtain ⟨it, fp, tn, J, H2, rfl, I2, T, st2, f2, q⟩ := h2
  refine wpAny_newObj_type (wpAny_newFunctionEnv S.nocell (by intro y hy; simp at hy) (fun h₁ hns₁ hsb₁ => ?_) S.kind)
  dsimp only at hns₁ hsb₁ ⊢
  have hD : H2 s2.heap.objs.size = none := I2.hok.fresh (Nat.le_refl _)
  obtain ⟨W, ⟨m0, w0⟩, turn⟩ := q _ hD
  have I3 : Inv X pins σ (upd H2 s2.heap.objs.size (.lst [])) { s2 with heap := s2.heap.push { cls := .type "list", dict := none, data := .seq ([] : List Value).toArray } } :=
    I2.laid (t' := s2.toks) (o := .lst []) (fun b o e => Heap.get?_push_of_some _ e) (Nat.le_refl _) ⟨Nat.zero_le _, [], 0, .nil, Heap.get?_push_size _ rfl⟩
  have hDfp : s2.heap.objs.size ∉ fp := fun z => by
    obtain ⟨o, e, _⟩ := T.obj 0 _ st2 _ z
    exact absurd (Heap.lt_size e) (Nat.lt_irrefl _)
  have hf3 : ∀ b ∈ fp, FpOk X pins (upd H2 s2.heap.objs.size (.lst [])) b ∧ b < (s2.heap.push { cls := .type "list", dict := none, data := .seq ([] : List Value).toArray }).objs.size := fun b hb => by
    obtain ⟨o, e, _⟩ := T.obj 0 _ st2 b hb
    have hlt := Heap.lt_size e
    obtain ⟨f0, f1⟩ := f2 b hb
    refine ⟨⟨?_, f1⟩, ?_⟩
    · rw [upd_ne (Nat.ne_of_lt hlt)]; exact f0
    · rw [Heap.size_push]; exact Nat.lt_succ_of_lt hlt
  have IY := blk_inv (N := N) (mp := mp) (sc := sc) (t' := s2.toks + ([] : List (Str × Value)).length) S I3 hf3 hns₁ hsb₁
  have old4 : ∀ b o, s2.heap.get? b = some o → h₁.get? b = some o := fun b o e => by
    have e3 : (s2.heap.push { cls := .type "list", dict := none, data := .seq ([] : List Value).toArray }).get? b = some o := Heap.get?_push_of_some _ e
    exact hsb₁.extBut b o (Nat.ne_of_lt (Heap.lt_size e3)) (Heap.get?_push_of_some _ e3)
  have st4 : tn 0 h₁ := T.keep _ _ _ st2 fun b _ o e => old4 b o e
  have fpY : ∀ {H' : Hp}, (∀ b ∈ fp, H' b = none) → ∀ b ∈ fp, FpOk (blk X N sc { s2 with heap := s2.heap.push { cls := .type "list", dict := none, data := .seq ([] : List Value).toArray } } (upd H2 s2.heap.objs.size (.lst [])) (s2.heap.push { cls := .type "list", dict := none, data := .seq ([] : List Value).toArray }).objs.size fp) [] H' b := fun hn b hb => by
    obtain ⟨x1, x2⟩ := hf3 b hb
    obtain ⟨f0, f1, f2', f3, f4, f5⟩ := x1
    exact ⟨hn b hb, Nat.ne_of_lt x2, fun z => (List.mem_cons.mp (I3.stkSub b z)).elim f1 f2', .inl hb, fun x c e => f4 x c (closL_sound e), fun p hp => absurd (show p ∈ ([] : List (Addr × Obj)) from hp) (by simp)⟩
  obtain ⟨hg, hif, he⟩ := id (hb { s2 with heap := s2.heap.push { cls := .type "list", dict := none, data := .seq ([] : List Value).toArray } } (upd H2 s2.heap.objs.size (.lst [])) (s2.heap.push { cls := .type "list", dict := none, data := .seq ([] : List Value).toArray }).objs.size fp)
  have loop : codeAny (model X.prog X.w) X.A (.compLoop (.ListComp elt [⟨tg, iter, ifs, 0⟩] sc pos) 0 (.ref it) (.ref s2.heap.objs.size) (compEnvC sc (closL sc.names X.env.cells) (s2.heap.push { cls := .type "list", dict := none, data := .seq ([] : List Value).toArray }).objs.size X.env))
      (compPost (model X.prog X.w) X.A X.xe (some (assign (.Name y py) X.env)) (fun _ s' => SP X pins DD .next s') (.ref s2.heap.objs.size) (s2.heap.push { cls := .type "list", dict := none, data := .seq ([] : List Value).toArray }).objs.size) { s2 with heap := h₁, toks := s2.toks + ([] : List (Str × Value)).length } := by
    refine codeAny_compLoop_go (fun n s' => ∃ i σ' H', Inv (blk X N sc { s2 with heap := s2.heap.push { cls := .type "list", dict := none, data := .seq ([] : List Value).toArray } } (upd H2 s2.heap.objs.size (.lst [])) (s2.heap.push { cls := .type "list", dict := none, data := .seq ([] : List Value).toArray }).objs.size fp) [] σ' H' s' ∧
      tn i s'.heap ∧ (∀ b ∈ fp, H' b = none) ∧ W i n σ' H') ?_ m0 ⟨0, _, _, IY, st4, fun b hb => (hf3 b hb).1.1, w0⟩
    rintro n s5 ⟨i, σ5, H5, I5, st5, fr5, w5⟩
    rcases turn i n σ5 H5 w5 with ⟨stop, qn⟩ | ⟨go, Nx, hN, step⟩
    · refine thn (T.done (blk X N sc { s2 with heap := s2.heap.push { cls := .type "list", dict := none, data := .seq ([] : List Value).toArray } } (upd H2 s2.heap.objs.size (.lst [])) (s2.heap.push { cls := .type "list", dict := none, data := .seq ([] : List Value).toArray }).objs.size fp) rfl rfl rfl hc i [] s5 σ5 H5 _ I5 (fpY fr5) st5 stop) fun r s6 ⟨hr, I6⟩ => ?_
      subst hr
      obtain ⟨m6, hn6, _⟩ := id I6.loc
      have hCeq : (blk X N sc { s2 with heap := s2.heap.push { cls := .type "list", dict := none, data := .seq ([] : List Value).toArray } } (upd H2 s2.heap.objs.size (.lst [])) (s2.heap.push { cls := .type "list", dict := none, data := .seq ([] : List Value).toArray }).objs.size fp).env.locals = (s2.heap.push { cls := .type "list", dict := none, data := .seq ([] : List Value).toArray }).objs.size := rfl
      rw [hCeq] at hn6
      have freeC : H5 (s2.heap.push { cls := .type "list", dict := none, data := .seq ([] : List Value).toArray }).objs.size = none := I6.free
      have fC : FpOk X pins H5 (s2.heap.push { cls := .type "list", dict := none, data := .seq ([] : List Value).toArray }).objs.size := I3.fpOk (Nat.le_refl _) freeC
      have un : Un (frs X.stack) fp (upd H2 s2.heap.objs.size (.lst [])) H5 (s2.heap.push { cls := .type "list", dict := none, data := .seq ([] : List Value).toArray }) s6.heap := I6.base
      have IX : Inv X pins σ H5 s6 := I3.call' (s' := s6) (ch := fp) I6.os un I6.hok I6.bare fun b hb => by
        obtain ⟨⟨f0, f1, f2', f3, f4, f5⟩, _⟩ := hf3 b hb
        exact ⟨f3, f1, f4, f5⟩
      obtain ⟨oC, esC, epC, eC, dC, rC⟩ := id hn6
      generalize hCC : (s2.heap.push { cls := .type "list", dict := none, data := .seq ([] : List Value).toArray }).objs.size = CC at *
      have IP := IX.pinned (fp := [CC]) (fun b hb => by
        have e : b = CC := by simpa using hb
        subst e; exact fC) (fun b hb => by
        have e : b = CC := by simpa using hb
        subst e; exact ⟨oC, eC, fun v z => by rw [dC] at z; cases z⟩)
      show wpAny _ X.A (assign (.Name y py) X.env (.ref s2.heap.objs.size)) _ _ s6
      refine thn (hst (pins ++ pinsAt [CC] s6.heap) s6 σ H5 (.ref s2.heap.objs.size) (.ref s2.heap.objs.size) (fun σ' H' => DD.nx σ' H' ∧ H' = H5) IP rfl ⟨qn, rfl⟩) fun _ s7 ⟨σ7, H7, I7, q7, e7⟩ => ?_
      subst e7
      have eC7 : s7.heap.get? CC = some oC := (I7.pin (CC, oC) (List.mem_append_right _ (List.mem_append_right _ (mem_pinsAt (by simp) eC)))).1
      refine ⟨m6, ⟨oC, esC, epC, eC7, dC, rC⟩, fun h8 hs8 => ⟨σ7, H7, ?_, q7⟩⟩
      exact I7.unpinned.turnedL (h' := h8) (t' := s7.toks) (ch := [CC]) (fun b o hb e => hs8.extBut b o (by simpa using hb) e) fun b hb => by
        have e : b = CC := by simpa using hb
        subst e; exact fC
    · refine thn (T.item (blk X N sc { s2 with heap := s2.heap.push { cls := .type "list", dict := none, data := .seq ([] : List Value).toArray } } (upd H2 s2.heap.objs.size (.lst [])) (s2.heap.push { cls := .type "list", dict := none, data := .seq ([] : List Value).toArray }).objs.size fp) rfl rfl rfl hc i [] s5 σ5 H5 _ I5 (fpY fr5) st5 go) fun r s6 ⟨u, hr, h6⟩ => ?_
      subst hr
      refine thn h6 fun _ s7 ⟨x, H7, I7, r7, y7, st7, fr7⟩ => ?_
      have I7' := I7.pinned (fpY fr7) (T.obj _ _ st7)
      refine thn (hg _ s7 σ5 H7 x u _ I7' r7 (step x H7 y7)) fun _ s8 ⟨σ8, H8, I8, q8⟩ => ?_
      refine thn (hif _ s8 σ8 H8 _ I8 q8) fun ok s9 ⟨H9, I9, q9⟩ => ?_
      have again : ∀ {σ' : St} {H' : Hp} {s' : Shared}, Inv (blk X N sc { s2 with heap := s2.heap.push { cls := .type "list", dict := none, data := .seq ([] : List Value).toArray } } (upd H2 s2.heap.objs.size (.lst [])) (s2.heap.push { cls := .type "list", dict := none, data := .seq ([] : List Value).toArray }).objs.size fp) ([] ++ pinsAt fp s7.heap) σ' H' s' → Nx σ' H' →
          ∃ m, m < n ∧ ∃ i σ' H', Inv (blk X N sc { s2 with heap := s2.heap.push { cls := .type "list", dict := none, data := .seq ([] : List Value).toArray } } (upd H2 s2.heap.objs.size (.lst [])) (s2.heap.push { cls := .type "list", dict := none, data := .seq ([] : List Value).toArray }).objs.size fp) [] σ' H' s' ∧ tn i s'.heap ∧ (∀ b ∈ fp, H' b = none) ∧ W i m σ' H' := fun {σ' H' s'} J nx => by
        obtain ⟨m', hm, w'⟩ := hN σ' H' nx
        refine ⟨m', hm, i + 1, σ', H', J.unpinned, T.keep _ _ _ st7 fun b hb o e => (J.pin (b, o) (List.mem_append_right _ (List.mem_append_right _ (mem_pinsAt hb e)))).1, fun b hb => ?_, w'⟩
        obtain ⟨o, e, d⟩ := T.obj _ _ st7 b hb
        exact (J.pin (b, o) (List.mem_append_right _ (List.mem_append_right _ (mem_pinsAt hb e)))).2.1
      cases ok with
      | false =>
        rw [if_neg Bool.false_ne_true] at q9 ⊢
        exact again I9 q9
      | true =>
        rw [if_pos rfl] at q9 ⊢
        refine thn (he _ s9 σ8 H9 _ I9 q9) fun yv s10 ⟨y, H10, I10, ry, ys, hy, hl, nx⟩ => ?_
        refine thn (mt_append _ s10 σ8 H10 (.ref s2.heap.objs.size) [y] (.ref s2.heap.objs.size) [yv] (fun v H' => v = .non ∧ H' = upd H10 s2.heap.objs.size (.lst (ys ++ [y]))) I10 rfl (.cons ry .nil) ⟨_, ys, y, rfl, rfl, hy, hl, rfl, rfl⟩) fun _ s11 ⟨_, H11, I11, _, _, e11⟩ => ?_
        subst e11
        exact again I11 nx
  exact codeAny_compStart_list loop (T.self X.A 0 _ _ _ st4 loop)
theorem ps_setCD (sc0 : Scope) (N0 N : List Str) (mp : List (Option Nat)) {i : Nat} {y : Str} {py spos : Pos} {elt tg iter : Expr} {ifs : List Expr} {pos : Pos} {wi : TI} {g : TG} {ti : TT} {te : TE} (hst : PG X (.Name y py) (gName i)) (S : CompSc sc0 N0 N mp sc) (hi : PI X tg iter wi)
    (hb : ∀ s3 H3 C fp, PG (blk X N sc s3 H3 C fp) tg g ∧ PIf (blk X N sc s3 H3 C fp) ifs ti ∧ PE (blk X N sc s3 H3 C fp) elt te) (hc : X.calm = true := by rfl) (h0 : X.env.scope = sc0 := by rfl) (hN : X.N = N0 := by rfl)
    (hsw : swapsWith (.ListComp elt [⟨tg, iter, ifs, 0⟩] sc pos) (some (.Name y py)) spos.line X.env = pure true := by rfl)
    (hs : ∀ x, foldedSetIterable iter X.env x = pure x := by intro _; rfl) : PS X (.Assign [.Name y py] (.ListComp elt [⟨tg, iter, ifs, 0⟩] sc pos) spos) (tAsg (tComp mp wi g ti te) (gName i)) := by
  subst h0 hN
  exact ps_setC hst hc S hi hb hsw hs
end
end L2

set_option Elab.async false
set_option linter.all false
set_option maxRecDepth 100000
set_option maxHeartbeats 4000000
/-! Wordrace: a set made of a list of texts. -/
namespace L2
open PySem PySem.Spec PyProof.Rows
open Sem (wp)
section
variable {prog : Program} {w : World} {A : Around} {E : Value → Shared → Prop} {s : Shared}
end
/-! ### a list of texts, each once -/
section
variable {prog : Program} {w : World} {A : Around} {R : Result → Shared → Prop} {I : Addr} {fp wr : List Addr} {G : Array GenState → Array GenState → Prop} {n : Nat} {P : Nat → Value → Prop} {St : Nat → Shared → Prop}
end
section
variable {prog : Program} {w : World} {A : Around} {E : Value → Shared → Prop} {s : Shared}
end
end L2

set_option Elab.async false
set_option linter.all false
set_option maxRecDepth 100000
set_option maxHeartbeats 4000000
/-! Wordrace: a set of texts, sorted; sorted and max by the length. -/
namespace L2
open PySem PySem.Spec PyProof.Rows
open Sem (wp)
section
variable {prog : Program} {w : World} {A : Around} {E : Value → Shared → Prop} {s : Shared}
end
/-! ### the rules -/
section
variable {X : Cx} {pins : List (Addr × Obj)} {σ : List (Option V)} {H : Hp} {s : Shared}
/-! ### by the length -/
section
variable {prog : Program} {w : World} {A : Around} {E : Value → Shared → Prop} {s : Shared} {h₀ : Heap} {L l : Addr} {m : Str → Option Value} {news : List (Addr × Obj)} {b : Bool} {vs : List Value} {Q : Value → Shared → Prop}
end
section
variable {σ : St} {H : Hp} {Q : VK} {K : PySem.W.Frag} {te : TE}
end
end
end L2

set_option Elab.async false
set_option linter.all false
set_option maxRecDepth 100000
set_option maxHeartbeats 4000000
/-! Wordrace: places of texts in lists. -/
namespace L2
open PySem PySem.Spec PyProof.Rows
section
variable {X : Cx} {H : Hp} {Q : VK} {K : PySem.W.Frag}
end
end L2

set_option linter.all false
/-! Wordrace: the mathematics of texts, beginnings and states; no library. -/
namespace Wr
abbrev Tx := List Nat
/-- no word stands within another one -/
def Apart (ws : List Tx) : Prop := ∀ w ∈ ws, ∀ w' ∈ ws, w <:+: w' → w = w'
end Wr

set_option linter.all false
/-! Wordrace: rows of numbers, and how a state falls out of them. -/
namespace Wr
/-! ### the common factor -/
end Wr

set_option linter.all false
namespace My
def abcd : List Nat := [97, 98, 99, 100]
structure DieOk (ns : List Int) : Prop where
  lo : 2 ≤ ns.length
  hi : ns.length ≤ 4
  w : ∀ n ∈ ns, 1 ≤ n ∧ n ≤ 9
structure WordOk (n : Nat) (l : List Nat) : Prop where
  lo : 1 ≤ l.length
  hi : l.length ≤ 6
  s : ∀ c ∈ l, c ∈ abcd.take n
end My
/-! Wordrace: point 10's sums over the states of a race. -/
namespace Wr
open My
/-! ### a weight for each state that falls along every way -/
structure Race (n : Nat) (ws : List Tx) : Prop where
  lo : 1 ≤ ws.length
  hi : ws.length ≤ 4
  w : ∀ l ∈ ws, WordOk n l
  nd : ws.Nodup
  apart : Apart ws
theorem Race.ne {n : Nat} {ws : List Tx} (R : Race n ws) : ws ≠ [] := by intro z; subst z; have := R.lo; simp at this
end Wr

set_option linter.all false
namespace Wr
open My
/-! ### what solved tells -/
/-! ### how many states -/
/-! ### the shares that the row tells -/
end Wr

set_option linter.all false
namespace Wr
open My
/-! ### sums over the signs -/
/-! ### solutions -/
end Wr

set_option linter.all false
namespace Wr
open My
/-! ### one word against itself and against another one -/
/-! ### two words of one length -/
end Wr

set_option linter.all false
namespace Wr
open My
/-! ### shares: a fraction in lowest terms -/
/-! ### the worth of at most six signs -/
end Wr

set_option Elab.async false
set_option linter.all false
set_option maxRecDepth 100000
set_option maxHeartbeats 4000000
/-! Wordrace: what the program's values are. -/
namespace My
open PySem L2 PySem.Spec PyProof.Rows Wr
/-- texts as values -/
abbrev txs (ws : List (List Nat)) : List V := ws.map fun l => V.str (S l)
structure RaceOk (n : Nat) (ws : List (List Nat)) : Prop where
  lo : 1 ≤ ws.length
  hi : ws.length ≤ 4
  w : ∀ l ∈ ws, WordOk n l
  apart : ws.Pairwise fun a b => within a b = false ∧ within b a = false
theorem txs_len (ws : List (List Nat)) : (txs ws).length = ws.length := List.length_map ..
theorem txs_at {ws : List (List Nat)} {i : Nat} (h : i < ws.length) : (txs ws)[i]? = some (.str (S ws[i])) := by
  rw [List.getElem?_map, List.getElem?_eq_getElem h]; rfl
theorem cutV_eq (xs : List V) (lo hi : Option Int) : cutV xs lo hi = cutL xs lo hi := rfl
def others (ws : List (List Nat)) (p : Nat) : List (List Nat) := ws.take p ++ ws.drop (p + 1)
theorem RaceOk.not_within {n : Nat} {ws : List (List Nat)} (h : RaceOk n ws) {p : Nat} (hp : p < ws.length) : (others ws p).any (fun o => within ws[p] o) = false := by
  rw [List.any_eq_false]
  intro o ho hw
  have key : ∀ i j (hi : i < ws.length) (hj : j < ws.length), i < j → within ws[i] ws[j] = false ∧ within ws[j] ws[i] = false := fun i j hi hj hij => List.pairwise_iff_getElem.mp h.apart i j hi hj hij
  rcases List.mem_append.mp ho with z | z
  · obtain ⟨i, hi, rfl⟩ := List.mem_take_iff_getElem.mp z
    have := (key i p (by omega) hp (by omega)).2
    rw [this] at hw; cases hw
  · obtain ⟨i, hi, rfl⟩ := List.mem_drop_iff_getElem.mp z
    have := (key p (p + 1 + i) hp (by omega) (by omega)).1
    rw [this] at hw; cases hw
theorem within_iff {a b : List Nat} : within a b = true ↔ a <:+: b := by
  unfold within
  rw [List.any_eq_true]
  constructor
  · rintro ⟨i, _, h⟩
    exact (List.isPrefixOf_iff_prefix.mp h).isInfix.trans (List.drop_suffix i b).isInfix
  · rintro ⟨p, q, h⟩
    refine ⟨p.length, List.mem_range.mpr (by have := congrArg List.length h; simp at this; omega), ?_⟩
    rw [List.isPrefixOf_iff_prefix, ← h, List.append_assoc, List.drop_left]
    exact List.prefix_append _ _
theorem RaceOk.race {n : Nat} {ws : List (List Nat)} (h : RaceOk n ws) : Race n ws := by
  have key : ∀ i j (hi : i < ws.length) (hj : j < ws.length), i < j → within ws[i] ws[j] = false ∧ within ws[j] ws[i] = false := fun i j hi hj hij => List.pairwise_iff_getElem.mp h.apart i j hi hj hij
  have ap : ∀ i j (hi : i < ws.length) (hj : j < ws.length), ws[i] <:+: ws[j] → i = j := fun i j hi hj hin => by
    rcases Nat.lt_trichotomy i j with z | z | z
    · have := (key i j hi hj z).1; rw [within_iff.mpr hin] at this; cases this
    · exact z
    · have := (key j i hj hi z).2; rw [within_iff.mpr hin] at this; cases this
  refine ⟨h.lo, h.hi, h.w, ?_, fun a ha b hb hin => ?_⟩
  · unfold List.Nodup
    rw [List.pairwise_iff_getElem]
    intro i j hi hj hij z
    have := ap i j hi hj (by rw [z]; exact List.infix_rfl)
    omega
  · obtain ⟨i, hi, rfl⟩ := List.mem_iff_getElem.mp ha
    obtain ⟨j, hj, rfl⟩ := List.mem_iff_getElem.mp hb
    have := ap i j hi hj hin
    subst this; rfl
end My

set_option Elab.async false
set_option linter.all false
set_option maxRecDepth 100000
set_option maxHeartbeats 4000000
/-! Wordrace: odds, all words, answers. -/
namespace My
open PySem L2 PySem.Spec PyProof.Rows Wr
end My

set_option Elab.async false
set_option linter.all false
set_option maxRecDepth 100000
set_option maxHeartbeats 4000000
/-! Wordrace: beginnings and states as the program makes them. -/
namespace My
open PySem L2 PySem.Spec PyProof.Rows Wr
end My

set_option linter.all false

namespace L2
open PySem PySem.Spec PyProof.Rows

/-! ### lists of pairs as tables -/
section
variable {κ : Type} [DecidableEq κ]
end


/-! ### a tracked dict, its keys ints and texts or tuples of these -/
section
variable {P : Program} {w : World} {H : Hp} {h : Heap} {a : Addr}
end

section
variable {X : Cx} {pins : List (Addr × Obj)} {σ : St} {H : Hp} {s : Shared} {a : Addr} {y v : V} {u r : Value} {o : Option V} {A : Around} {E : Value → Shared → Prop}

end

section
variable {X : Cx} {pins : List (Addr × Obj)} {σ : St} {H : Hp} {s : Shared} {a : Addr} {kvs : List (Key × V)} {k : Key} {u : Value} {A : Around} {E : Value → Shared → Prop}
end


/-! ### readings and rules -/
section
variable {X : Cx} {o i e value : Expr} {pos pos' tpos : Pos} {td ty tv : TE}
end


/-! ### displays -/
section
variable {X : Cx} {pos : Pos}
end

/-! ### methods -/
section
variable {X : Cx} {pins : List (Addr × Obj)} {σ : St} {H : Hp} {s : Shared} {a : Addr} {y d : V} {u r : Value} {o : Option V} {A : Around} {E : Value → Shared → Prop}
end

section
variable {X : Cx} {o e f : Expr} {apos cpos : Pos} {td ty tx : TE}
end

/-! ### dict(d): a copy -/
section
variable {X : Cx} {pins : List (Addr × Obj)} {σ : St} {H : Hp} {s : Shared} {a : Addr} {kvs : List (Key × V)} {A : Around} {E : Value → Shared → Prop}
end


section
variable {X : Cx} {pins : List (Addr × Obj)} {σ : St} {H : Hp} {s : Shared} {a : Addr} {y : V} {u : Value} {A : Around} {E : Value → Shared → Prop}
end
end L2

namespace L2
open PySem PySem.Spec PyProof.Rows
/-! ### a dict's pairs: keys that differ -/
section
variable {κ : Type} [DecidableEq κ]
end
end L2

set_option Elab.async false
set_option linter.all false
set_option maxRecDepth 100000
set_option maxHeartbeats 4000000
namespace L2
open PySem PySem.Spec PyProof.Rows
section
variable {X : Cx} {pins : List (Addr × Obj)} {σ : List (Option V)} {H H' : Hp} {s : Shared} {h' : Heap}
end
section
variable {X : Cx}
end
/-! ### comprehensions over pairs -/
end L2

set_option linter.all false
/-! Wordrace: rows counted by their states. -/
namespace My
open Wr
/-! nothing is below nought -/
end My

set_option Elab.async false
set_option linter.all false
set_option maxRecDepth 100000
set_option maxHeartbeats 4000000
namespace My
open PySem L2 PySem.Spec PyProof.Rows Wr
end My
namespace L2
open PySem PySem.Spec PyProof.Rows My Wr
theorem iteF' {b : Bool} {A B : Prop} (hb : b = false) (h : B) : if b = true then A else B := by subst hb; exact iteF h
theorem iteT' {b : Bool} {A B : Prop} (hb : b = true) (h : A) : if b = true then A else B := by subst hb; exact iteT h
end L2

set_option Elab.async false
set_option linter.all false
set_option maxRecDepth 100000
set_option maxHeartbeats 4000000


namespace PySem
open Sem (wp)
/-! ### zip of two things that are drawn from -/
section
variable {prog : Program} {w : World} {A : Around} {E : Value → Shared → Prop} {s : Shared} {n1 n2 : Nat} {P1 P2 : Nat → Value → Prop} {St1 St2 : Nat → Heap → Prop} {fp1 fp2 : List Addr}
end
section
variable {prog : Program} {w : World} {A : Around} {E : Value → Shared → Prop} {s : Shared} {n1 n2 : Nat} {P1 P2 : Nat → Value → Prop} {St1 St2 : Nat → Heap → Prop} {fp1 fp2 : List Addr}
end
end PySem
-- second part
namespace PySem
end PySem
namespace L2
open PySem PySem.Spec PyProof.Rows
end L2

set_option Elab.async false
set_option linter.all false
set_option maxRecDepth 100000
set_option maxHeartbeats 4000000
/-! Walks over zip. -/
namespace L2
open PySem PySem.Spec PyProof.Rows
section
variable {K : PySem.W.Frag} {ta : TA} {σ : St} {H : Hp} {R : It → Hp → Prop}
end
end L2

set_option Elab.async false
set_option linter.all false
set_option maxRecDepth 100000
set_option maxHeartbeats 4000000
/-! A sort that keeps the order of equals: the pure part. -/
namespace Stb
open PySem PyProof.Rows
variable (r : Keyed → Int)
variable {r}
end Stb

set_option Elab.async false
set_option linter.all false
set_option maxRecDepth 100000
set_option maxHeartbeats 4000000
/-! A sort that keeps the order of equals: the model's sort walked with the sharper invariants. -/
namespace Stb
open PySem PyProof.Rows
variable {prog : Program} {w : World} {A : Around} {E : Value → Shared → Prop} {s : Shared} {a₀ : Array Keyed} {r : Keyed → Int}
end Stb

set_option Elab.async false
set_option linter.all false
set_option maxRecDepth 100000
set_option maxHeartbeats 4000000
/-! sorted(.., key=..) that keeps the order of equals. -/
namespace Stb
open PySem PyProof.Rows
variable {prog : Program} {w : World} {A : Around} {E : Value → Shared → Prop} {s : Shared} {h₀ : Heap} {L : Addr} {m : Str → Option Value} {news : List (Addr × Obj)} {a kS : Addr} {vs : List Value} {kz : List Int} {keys : Array Value} {e e1 : Nat} {P : PySem.Fin → Shared → Prop} {rk : Value → Int}
end Stb
namespace L2
open PySem PySem.Spec PyProof.Rows
open Sem (wp)
section
variable {prog : Program} {w : World} {A : Around} {E : Value → Shared → Prop} {s : Shared} {h₀ : Heap} {L l : Addr} {m : Str → Option Value} {news : List (Addr × Obj)} {vs : List Value} {Q : Value → Shared → Prop}
end
section
variable {X : Cx} {pins : List (Addr × Obj)} {σ : List (Option V)} {H : Hp} {s : Shared}
end
section
variable {σ : St} {H : Hp} {Q : VK} {K : PySem.W.Frag} {te : TE}
end
end L2

set_option Elab.async false
set_option linter.all false
set_option maxRecDepth 100000
set_option maxHeartbeats 4000000
/-! Wordrace: the beginnings in their order: the shorter ahead, of as long ones by the alphabet. -/
namespace My
open PySem L2 PySem.Spec PyProof.Rows Wr
end My

set_option Elab.async false
set_option linter.all false
set_option maxRecDepth 100000
set_option maxHeartbeats 4000000
/-! int of a truth value. -/
namespace L2
open PySem PySem.Spec PyProof.Rows
end L2

set_option Elab.async false
set_option linter.all false
set_option maxRecDepth 100000
set_option maxHeartbeats 4000000
/-! Tables: a dict from texts to things that lie elsewhere. -/
namespace My
open PySem L2 PySem.Spec PyProof.Rows Wr
end My

set_option Elab.async false
set_option linter.all false
set_option maxRecDepth 100000
set_option maxHeartbeats 4000000
/-! Wordrace: the beginnings, length by length. -/
namespace My
open PySem L2 PySem.Spec PyProof.Rows Wr
end My

set_option Elab.async false
set_option linter.all false
set_option maxRecDepth 100000
set_option maxHeartbeats 4000000
/-! Texts written and read: join, split, str, int, f-strings, a try whose body goes through. -/
namespace L2
open PySem PySem.Spec PyProof.Rows
def joinL (sep : List Nat) : List (List Nat) → List Nat
  | [] => []
  | [x] => x
  | x :: y :: r => x ++ sep ++ joinL sep (y :: r)
theorem join_S (sep : List Nat) : ∀ ts : List (List Nat), Str.join (S sep) (ts.map S) = S (joinL sep ts)
  | [] => rfl
  | [x] => rfl
  | x :: y :: r => by
    have ih := join_S sep (y :: r)
    show S x ++ S sep ++ Str.join (S sep) ((y :: r).map S) = _
    rw [ih, S_app, S_app]
    rfl
theorem strsAre_S : ∀ {ts : List (List Nat)} {its : List Value}, Vals (ts.map fun l => V.str (S l)) its → StrsAre its (ts.map S)
  | [], _, .nil => .nil
  | t :: ts, _, .cons a b => by
    obtain ⟨tk, rfl⟩ := a
    exact .cons _ _ (strsAre_S b)
section
variable {X : Cx}
def rJoin (K : PySem.W.Frag) : V → List V → Hp → VK → Prop := fun x vs H Q => ∃ a p, ∃ ts : List (List Nat), x = .str (S a) ∧ vs = [.ref p] ∧ SqL K H p (ts.map fun l => V.str (S l)) ∧ ts.length ≤ 1000 ∧ (∀ t ∈ ts, t.length ≤ 1000) ∧ a.length ≤ 1000 ∧ Q (.str (S (joinL a ts))) H
theorem mt_joinK (K : PySem.W.Frag) (hK : X.K = K) : MtR X "str.join" (rJoin K) := by
  subst hK
  intro pins s σ H x xs v us Q I rx rs h
  obtain ⟨a, p, ts, rfl, rfl, hq, hl, ht, ha, q⟩ := h
  obtain ⟨t, rfl⟩ := rx
  obtain ⟨u, rfl, ru⟩ := vals1 rs
  cases ru
  obtain ⟨its, rv, pl, hz⟩ := I.list hq
  refine join_list (ys := ts.map S) pl.isList (by simpa using strsAre_S rv) ?_ fun t' k => ?_
  · have h1 : ((ts.map S).map (·.length)).sum ≤ (ts.map S).length * 1000 := StrLaws.sumLen_le _ fun y hy => by
      obtain ⟨z, hz', rfl⟩ := List.mem_map.mp hy
      rw [S_length]; exact ht z hz'
    rw [List.length_map] at h1 ⊢
    rw [S_length]
    have h2 := Nat.mul_le_mul hl ha
    omega
  · have e : Txt.join (S a) (ts.map S) = S (joinL a ts) := by
      show Builtin.Str.glued (S a) (ts.map S) = _
      rw [StrLaws.glued_eq_join, join_S]
    rw [e]
    exact ⟨.str (S (joinL a ts)), H, I.tok k, ⟨_, rfl⟩, q⟩
/-- how a text lies in parts between signs c -/
structure Parts (c : Nat) (l : List Nat) (ps : List (List Nat)) : Prop where
  ne : ps ≠ []
  free : ∀ p ∈ ps, c ∉ p
  join : joinL [c] ps = l
def rSplit : V → List V → Hp → VK → Prop := fun x vs H Q => ∃ a c, x = .str (S a) ∧ vs = [.str (S [c])] ∧ a.length ≤ 1000 ∧ ∀ p ps, H p = none → Parts c a ps → Q (.ref p) (upd H p (.lst (ps.map fun l => V.str (S l))))
theorem vals_pairs : ∀ (l : List (Str × Tok)), Vals ((l.map (·.1)).map fun x => V.str (S x.cps.toList)) (strValues l)
  | [] => .nil
  | (x, t) :: l => .cons ⟨t, by rw [S_of]⟩ (vals_pairs l)
theorem parts_of (a : List Nat) (c : Nat) : Parts c a ((Txt.split (S a) (S [c])).map fun x => x.cps.toList) := by
  refine ⟨fun z => ?_, fun p hp => ?_, ?_⟩
  · have h1 := split_pos (S a) (S [c])
    have := congrArg List.length z
    rw [List.length_map] at this
    simp at this
    rw [this] at h1
    simp at h1
  · obtain ⟨x, hx, rfl⟩ := List.mem_map.mp hp
    exact StrLaws.split_free (S a) c x hx
  · have h := StrLaws.join_split (S a) (S [c])
    have e : Txt.split (S a) (S [c]) = ((Txt.split (S a) (S [c])).map fun x => x.cps.toList).map S := by
      rw [List.map_map]
      conv => lhs; rw [← List.map_id (Txt.split (S a) (S [c]))]
      exact List.map_congr_left fun x _ => (S_of x).symm
    rw [e, join_S] at h
    exact S_inj.mp h
open Builtin Builtin.Str in
theorem mt_split : MtM X "str.split" rSplit := by
  intro pins s σ H x xs v us Q I rx rs h
  obtain ⟨a, c, rfl, rfl, ha, q⟩ := h
  obtain ⟨t, rfl⟩ := rx
  obtain ⟨u, rfl, ru⟩ := vals1 rs
  obtain ⟨t', rfl⟩ := ru
  have hle := split_le (S a) (S [c])
  rw [S_length] at hle
  have hn : H s.heap.objs.size = none := I.hok.fresh (Nat.le_refl _)
  have fin : ∀ (l : List (Str × Tok)) (k : Nat), l.map (·.1) = Txt.split (S a) (S [c]) → EP X pins σ Q (.ref s.heap.objs.size) { s with heap := s.heap.push { cls := .type "list", data := .seq (strValues l).toArray }, toks := k } := fun l k e => by
    refine ⟨.ref s.heap.objs.size, _, I.laid (t' := k) (o := .lst (((Txt.split (S a) (S [c])).map fun x => x.cps.toList).map fun l => V.str (S l))) (fun b o z => Heap.get?_push_of_some _ z) (Nat.le_refl _) ⟨?_, strValues l, 0, ?_, Heap.get?_push_size _ rfl⟩, rfl, q _ _ hn (parts_of a c)⟩
    · rw [List.length_map, List.length_map, sizeLine_eq]; omega
    · have := vals_pairs l
      rw [e] at this
      rw [List.map_map]
      exact this
  have hy : ((S [c]).length == 0) = false := by rw [S_length]; rfl
  have hx : (S a).length ≤ sizeLine := by rw [S_length, sizeLine_eq]; omega
  cases h1 : (decide ((S a).length < (S [c]).length) || decide (strKind (S a) < strKind (S [c])))
  · cases hf : (occurrences (S a) (S [c]) 0 (S a).length ((S a).length + 1)).isEmpty
    · have es : Txt.split (S a) (S [c]) = partsBetween (S a) (occurrences (S a) (S [c]) 0 (S a).length ((S a).length + 1)) (S [c]).length := (if_neg (ne_true_of_eq_false h1)).trans (if_neg (ne_true_of_eq_false hf))
      refine call_meets F.slot_str_split (typeIs_str _ _ _) F.entry_str_split (F.args_str_split_2 _ _) (meets_str_split_sep (S a) (S [c]) t t' h1 hy hf hx (by rw [← es, sizeLine_eq]; omega)) ?_
      show wants (EP X pins σ Q) X.xe _ { s with toks := _, heap := s.heap.push { cls := .type "list", data := .seq (strsFrom s.toks (partsBetween (S a) (occurrences (S a) (S [c]) 0 (S a).length ((S a).length + 1)) (S [c]).length)).toArray } }
      rw [strsFrom_eq]
      exact fin (numbered s.toks _) _ ((numbered_texts _ _).trans es.symm)
    · exact call_meets F.slot_str_split (typeIs_str _ _ _) F.entry_str_split (F.args_str_split_2 _ _) (meets_str_split_not_found (S a) (S [c]) t t' h1 hy hf) (fin [(S a, t)] s.toks ((if_neg (ne_true_of_eq_false h1)).trans (if_pos hf)).symm)
  · exact call_meets F.slot_str_split (typeIs_str _ _ _) F.entry_str_split (F.args_str_split_2 _ _) (meets_str_split_cannot_occur (S a) (S [c]) t t' h1) (fin [(S a, t)] s.toks (if_pos h1).symm)
/-- str of a weight -/
def dg (n : Int) : List Nat := [48 + n.toNat]
theorem digit_text {n : Int} (h0 : 0 ≤ n) (h9 : n ≤ 9) : Str.ofString (toString n) = S (dg n) := by
  have h : n = 0 ∨ n = 1 ∨ n = 2 ∨ n = 3 ∨ n = 4 ∨ n = 5 ∨ n = 6 ∨ n = 7 ∨ n = 8 ∨ n = 9 := by omega
  rcases h with rfl | rfl | rfl | rfl | rfl | rfl | rfl | rfl | rfl | rfl <;> decide +kernel
theorem digit_read {n : Int} (h0 : 0 ≤ n) (h9 : n ≤ 9) : PySem.intText? (S (dg n)) = some n := by
  have h : n = 0 ∨ n = 1 ∨ n = 2 ∨ n = 3 ∨ n = 4 ∨ n = 5 ∨ n = 6 ∨ n = 7 ∨ n = 8 ∨ n = 9 := by omega
  rcases h with rfl | rfl | rfl | rfl | rfl | rfl | rfl | rfl | rfl | rfl <;> decide +kernel
theorem call_strI : CallR X (.type "str") (fun xs H Q => ∃ n : Int, xs = [.int n] ∧ 0 ≤ n ∧ n ≤ 9 ∧ Q (.str (S (dg n))) H) := by
  intro pins s σ H xs us Q I r h
  obtain ⟨n, rfl, h0, h9, q⟩ := h
  obtain ⟨u, rfl, t, rfl⟩ := vals1 r
  refine PySem.P.str_of_int ?_ ?_
  · have : n.natAbs ≤ 9 := by omega
    have h2 : n.natAbs.log2 ≤ 9 := Nat.le_trans (Nat.log2_le_self _) this
    omega
  · exact ⟨.str (S (dg n)), H, I.tok _, ⟨_, by rw [← digit_text h0 h9]⟩, q⟩
theorem call_intT : CallR X (.type "int") (fun xs H Q => ∃ n : Int, xs = [.str (S (dg n))] ∧ 0 ≤ n ∧ n ≤ 9 ∧ Q (.int n) H) := by
  intro pins s σ H xs us Q I r h
  obtain ⟨n, rfl, h0, h9, q⟩ := h
  obtain ⟨u, rfl, t, rfl⟩ := vals1 r
  exact PySem.W.KIN.call_text (digit_read h0 h9) (by rw [S_length]; show 1 ≤ 640; decide) ⟨.int n, H, I.tok _, ⟨_, rfl⟩, q⟩
/-- a try whose body goes through -/
def calmX (X : Cx) : Cx := { X with xe := fun _ _ => False }
theorem inv_calm {pins : List (Addr × Obj)} {σ : St} {H : Hp} {s : Shared} (I : Inv X pins σ H s) : Inv (calmX X) pins σ H s :=
  ⟨⟨I.ok.mod, I.ok.kind, I.ok.glob, I.ok.blt, I.ok.above, I.ok.inj, I.ok.has, I.ok.cab, I.ok.hd, I.ok.frames, I.ok.stk, I.ok.exf, I.ok.bs, I.ok.bsz, I.ok.noex, I.ok.exfs, I.ok.funs, I.ok.frf⟩, I.os, I.bare, I.base, I.loc, I.cell, I.free, I.freeC, I.pin, I.hok, I.len⟩
theorem calm_inv {pins : List (Addr × Obj)} {σ : St} {H : Hp} {s : Shared} (I : Inv (calmX X) pins σ H s) : Inv X pins σ H s :=
  ⟨⟨I.ok.mod, I.ok.kind, I.ok.glob, I.ok.blt, I.ok.above, I.ok.inj, I.ok.has, I.ok.cab, I.ok.hd, I.ok.frames, I.ok.stk, I.ok.exf, I.ok.bs, I.ok.bsz, I.ok.noex, I.ok.exfs, I.ok.funs, I.ok.frf⟩, I.os, I.bare, I.base, I.loc, I.cell, I.free, I.freeC, I.pin, I.hok, I.len⟩
theorem ps_try0 {body : List Stmt} {h₀ : ExceptHandler} {hs : List ExceptHandler} {pos : Pos} {t : TS} (hb : PSs (calmX X) body t) : PS X (.Try body (h₀ :: hs) [] [] pos) t := by
  intro pins s σ H D I q
  refine wpAny_Try_except (wpAny_mono (hb pins s σ H D (inv_calm I) q) (fun f s1 h => ?_) fun _ _ z => z.elim)
  cases f with
  | next =>
    obtain ⟨σ', H', I', d⟩ := h
    exact pss_nil pins s1 σ' H' D (calm_inv I') d
  | brk => obtain ⟨σ', H', I', d⟩ := h; exact ⟨σ', H', calm_inv I', d⟩
  | cont => obtain ⟨σ', H', I', d⟩ := h; exact ⟨σ', H', calm_inv I', d⟩
  | ret u => obtain ⟨v, σ', H', I', r, d⟩ := h; exact ⟨v, σ', H', calm_inv I', r, d⟩
end
end L2

set_option Elab.async false
set_option linter.all false
set_option maxRecDepth 100000
set_option maxHeartbeats 4000000
/-! Wordrace: the line that writes a race. -/
namespace L2
open PySem PySem.Spec PyProof.Rows
def rNotInS : R2 := fun x y H Q => ∃ a b, x = .str (S a) ∧ y = .str (S b) ∧ Q (.bl (!within a b)) H
theorem op_notInS {X : Cx} : OpR X (compareOp .NotIn) rNotInS := by
  intro pins s σ H x y v u Q I rx ry h
  obtain ⟨a, b, rfl, rfl, q⟩ := h
  obtain ⟨t, rfl⟩ := rx
  obtain ⟨t', rfl⟩ := ry
  refine PySem.P.notIn_str ?_
  rw [in_S]
  exact ⟨.bl (!within a b), H, I, rfl, q⟩
theorem g_notInS {a b : List Nat} {H : Hp} {Q : VK} (h : Q (.bl (!within a b)) H) : rNotInS (.str (S a)) (.str (S b)) H Q := ⟨a, b, rfl, rfl, h⟩
end L2
namespace My
open PySem L2 PySem.Spec PyProof.Rows Wr
theorem parts_uniq {c : Nat} : ∀ {ps qs : List (List Nat)}, ps ≠ [] → qs ≠ [] → (∀ p ∈ ps, c ∉ p) → (∀ p ∈ qs, c ∉ p) → joinL [c] ps = joinL [c] qs → ps = qs
  | [], _, h, _, _, _, _ => absurd rfl h
  | _ :: _, [], _, h, _, _, _ => absurd rfl h
  | [p], [q], _, _, _, _, h => by
    have h' : p = q := h
    rw [h']
  | [p], q :: q2 :: r, _, _, hp, hq, h => by
    have h' : p = q ++ [c] ++ joinL [c] (q2 :: r) := h
    exact absurd (by rw [h']; simp) (hp p (by simp))
  | p :: p2 :: r, [q], _, _, hp, hq, h => by
    have h' : p ++ [c] ++ joinL [c] (p2 :: r) = q := h
    exact absurd (by rw [← h']; simp) (hq q (by simp))
  | p :: p2 :: r, q :: q2 :: r', _, _, hp, hq, h => by
    have h' : p ++ (c :: joinL [c] (p2 :: r)) = q ++ (c :: joinL [c] (q2 :: r')) := by
      have h1 : p ++ [c] ++ joinL [c] (p2 :: r) = q ++ [c] ++ joinL [c] (q2 :: r') := h
      simpa using h1
    have cut : ∀ {x : List Nat} {y : List Nat}, c ∉ x → (x ++ c :: y).takeWhile (fun z => decide (z ≠ c)) = x := fun {x y} hx => by
      rw [List.takeWhile_append_of_pos (fun a ha => by simpa using fun e => hx (by rw [← e]; exact ha)), List.takeWhile_cons]
      simp
    have e1 := cut (y := joinL [c] (p2 :: r)) (hp p (by simp))
    have e2 := cut (y := joinL [c] (q2 :: r')) (hq q (by simp))
    rw [h'] at e1
    have epq : p = q := e1.symm.trans e2
    subst epq
    have h2 := (List.cons.inj (List.append_cancel_left h')).2
    rw [parts_uniq (by simp) (by simp) (fun x hx => hp x (List.mem_cons_of_mem _ hx)) (fun x hx => hq x (List.mem_cons_of_mem _ hx)) h2]
theorem _root_.L2.Parts.eq {c : Nat} {l : List Nat} {ps qs : List (List Nat)} (h : Parts c l ps) (ne : qs ≠ []) (hf : ∀ q ∈ qs, c ∉ q) (e : joinL [c] qs = l) : ps = qs :=
  parts_uniq h.ne ne h.free hf (h.join.trans e.symm)
theorem mem_joinL {c x : Nat} : ∀ {ps : List (List Nat)}, x ∈ joinL [c] ps → x = c ∨ ∃ p ∈ ps, x ∈ p
  | [], h => by simp [joinL] at h
  | [p], h => .inr ⟨p, by simp, h⟩
  | p :: q :: r, h => by
    have h' : x ∈ p ++ [c] ++ joinL [c] (q :: r) := h
    rcases List.mem_append.mp h' with z | z
    · rcases List.mem_append.mp z with y | y
      · exact .inr ⟨p, by simp, y⟩
      · exact .inl (by simpa using y)
    · rcases mem_joinL z with y | ⟨t, ht, y⟩
      · exact .inl y
      · exact .inr ⟨t, List.mem_cons_of_mem _ ht, y⟩
theorem joinL_len {c n : Nat} : ∀ {ps : List (List Nat)}, (∀ p ∈ ps, p.length ≤ n) → (joinL [c] ps).length ≤ ps.length * (n + 1)
  | [], _ => by simp [joinL]
  | [p], h => by
    have := h p (by simp)
    show p.length ≤ 1 * (n + 1)
    omega
  | p :: q :: r, h => by
    have ih := joinL_len (c := c) (n := n) (ps := q :: r) fun x hx => h x (List.mem_cons_of_mem _ hx)
    have hp := h p (by simp)
    show (p ++ [c] ++ joinL [c] (q :: r)).length ≤ _
    rw [List.length_append, List.length_append, List.length_singleton]
    rw [List.length_cons] at ih ⊢
    rw [Nat.succ_mul] at ih ⊢
    rw [List.length_cons, Nat.succ_mul]
    omega
/-- the line that writes a race -/
def wtT (ns : List Int) : List Nat := joinL [32] (ns.map dg)
def lineT (ns : List Int) (ws : List (List Nat)) : List Nat := wtT ns ++ [58, 32] ++ joinL [32] ws
theorem dg_mem {n : Int} {x : Nat} (h0 : 0 ≤ n) (h9 : n ≤ 9) (h : x ∈ dg n) : 48 ≤ x ∧ x ≤ 57 := by
  have : x = 48 + n.toNat := by simpa [dg] using h
  omega
theorem die_ne {ns : List Int} (h : DieOk ns) : ns.map dg ≠ [] := fun z => by
  have h1 := congrArg List.length z
  have h2 := h.lo
  rw [List.length_map, List.length_nil] at h1
  omega
theorem word_sign {n : Nat} {ws : List (List Nat)} (R : RaceOk n ws) {w : List Nat} (hw : w ∈ ws) {c : Nat} (hc : c ∈ w) : 97 ≤ c ∧ c ≤ 100 := by
  have := List.mem_of_mem_take ((R.w w hw).s c hc)
  have h : c = 97 ∨ c = 98 ∨ c = 99 ∨ c = 100 := by simpa [abcd] using this
  omega
theorem halves {ns : List Int} {ws : List (List Nat)} (hd : DieOk ns) (R : RaceOk ns.length ws) {ps : List (List Nat)} (h : Parts 58 (lineT ns ws) ps) : ps = [wtT ns, 32 :: joinL [32] ws] := by
  refine h.eq (by simp) (fun q hq => ?_) ?_
  · have hq' : q = wtT ns ∨ q = 32 :: joinL [32] ws := by simpa using hq
    rcases hq' with rfl | rfl
    · intro hm
      rcases mem_joinL hm with z | ⟨p, hp, z⟩
      · omega
      · obtain ⟨n, hn, rfl⟩ := List.mem_map.mp hp
        have h1 := hd.w n hn
        have := dg_mem (by omega) (by omega) z
        omega
    · intro hm
      rcases List.mem_cons.mp hm with z | z
      · omega
      · rcases mem_joinL z with z | ⟨p, hp, z⟩
        · omega
        · have := word_sign R hp z
          omega
  · show wtT ns ++ [58] ++ (32 :: joinL [32] ws) = lineT ns ws
    unfold lineT
    simp
theorem weights_back {ns : List Int} (hd : DieOk ns) {ps : List (List Nat)} (h : Parts 32 (wtT ns) ps) : ps = ns.map dg := by
  refine h.eq (die_ne hd) (fun q hq hm => ?_) rfl
  obtain ⟨n, hn, rfl⟩ := List.mem_map.mp hq
  have h1 := hd.w n hn
  have := dg_mem (by omega) (by omega) hm
  omega
theorem words_back {n : Nat} {ws : List (List Nat)} (R : RaceOk n ws) {ps : List (List Nat)} (h : Parts 32 (joinL [32] ws) ps) : ps = ws := by
  refine h.eq R.race.ne (fun q hq hm => ?_) rfl
  have := word_sign R hq hm
  omega
theorem wtT_len {ns : List Int} (hd : DieOk ns) : (wtT ns).length ≤ 8 := by
  have h := joinL_len (c := 32) (n := 1) (ps := ns.map dg) fun p hp => by
    obtain ⟨n, hn, rfl⟩ := List.mem_map.mp hp
    exact Nat.le_refl 1
  rw [List.length_map] at h
  have := hd.hi
  unfold wtT
  omega
theorem wsT_len {n : Nat} {ws : List (List Nat)} (R : RaceOk n ws) : (joinL [32] ws).length ≤ 28 := by
  have h := joinL_len (c := 32) (n := 6) (ps := ws) fun p hp => (R.w p hp).hi
  have := R.hi
  omega
end My

set_option linter.all false
/-! How parameters are bound, by their number. -/
namespace L2
open PySem
theorem by1 {P : List Value → Prop} (h : ∀ a, P [a]) : ∀ us : List Value, us.length = 1 → P us
  | [a], _ => h a
theorem by2 {P : List Value → Prop} (h : ∀ a b, P [a, b]) : ∀ us : List Value, us.length = 2 → P us
  | [a, b], _ => h a b
theorem by3 {P : List Value → Prop} (h : ∀ a b c, P [a, b, c]) : ∀ us : List Value, us.length = 3 → P us
  | [a, b, c], _ => h a b c
theorem by4 {P : List Value → Prop} (h : ∀ a b c d, P [a, b, c, d]) : ∀ us : List Value, us.length = 4 → P us
  | [a, b, c, d], _ => h a b c d
theorem bz1 {fd : FuncData} {ps : List Str} (h : ∀ a, bindArgs fd ⟨[a], []⟩ = pure (ps.zip [a])) (us : List Value) (hl : us.length = 1) : bindArgs fd ⟨us, []⟩ = pure (ps.zip us) := by1 (P := fun us => bindArgs fd ⟨us, []⟩ = pure (ps.zip us)) h us hl
theorem bz2 {fd : FuncData} {ps : List Str} (h : ∀ a b, bindArgs fd ⟨[a, b], []⟩ = pure (ps.zip [a, b])) (us : List Value) (hl : us.length = 2) : bindArgs fd ⟨us, []⟩ = pure (ps.zip us) := by2 (P := fun us => bindArgs fd ⟨us, []⟩ = pure (ps.zip us)) h us hl
theorem bz3 {fd : FuncData} {ps : List Str} (h : ∀ a b c, bindArgs fd ⟨[a, b, c], []⟩ = pure (ps.zip [a, b, c])) (us : List Value) (hl : us.length = 3) : bindArgs fd ⟨us, []⟩ = pure (ps.zip us) := by3 (P := fun us => bindArgs fd ⟨us, []⟩ = pure (ps.zip us)) h us hl
theorem bz4 {fd : FuncData} {ps : List Str} (h : ∀ a b c d, bindArgs fd ⟨[a, b, c, d], []⟩ = pure (ps.zip [a, b, c, d])) (us : List Value) (hl : us.length = 4) : bindArgs fd ⟨us, []⟩ = pure (ps.zip us) := by4 (P := fun us => bindArgs fd ⟨us, []⟩ = pure (ps.zip us)) h us hl
end L2

set_option linter.all false
namespace L2
open PySem PySem.Spec PyProof.Rows
section
variable {σ : St} {H : Hp} {Q : VK} {K : PySem.W.Frag} {D : Ends}
theorem g_seqL {t u : TS} (h : let d := D; t { d with nx := u d } σ H) : tSeq t u D σ H := h
theorem g_asgL {te : TE} {g : TG} (h : let n := D.nx; te σ H fun x H1 => g x σ H1 n) : tAsg te g D σ H := h
theorem g_ifL {c : TT} {t u : TS} (h : let d := D; c σ H fun b H1 => if b = true then t d σ H1 else u d σ H1) : tIfS c t u D σ H := h
theorem g_opL {r : R2} {ta tb : TE} (h : let q := Q; ta σ H fun x H1 => tb σ H1 fun y H2 => r x y H2 q) : tOp r ta tb σ H Q := h
theorem g_cbL {r : List V → Hp → VK → Prop} {t : TA} (h : let q := Q; t σ H fun vs H1 => r vs H1 q) : tCB r t σ H Q := h
theorem g_bmL {T : String} {r : V → List V → Hp → VK → Prop} {to : TE} {t : TA} (h : let q := Q; to σ H fun x H1 => tyV K T x H1 ∧ t σ H1 fun xs H2 => r x xs H2 q) : tBM K T r to t σ H Q := h
theorem g_callL {sp : Sp} {E : XK} {t : TA} (h : let q := Q; t σ H fun vs H1 => sp (vs ++ []) H1 q E) : tCall sp [] E t σ H Q := h
end
end L2

set_option Elab.async false
set_option linter.all false
set_option maxRecDepth 100000
set_option maxHeartbeats 4000000
/-! What a run keeps of the heap, beside what is known of it. -/
namespace L2
open PySem PySem.Spec PyProof.Rows
/-- no step of the tree spoils P (no calls) -/
def Kp (P : Heap → Prop) {α : Type} : Sem α → Prop
  | .pure _ => True
  | .raise _ => True
  | .unsupported _ => True
  | .finish _ => True
  | .rule _ k => Kp P (k ())
  | .at _ k => Kp P (k ())
  | .load _ _ k => ∀ o, Kp P (k o)
  | .update a _ f k => (∀ h, P h → P (h.update a f)) ∧ Kp P (k ())
  | .alloc o k => (∀ h, P h → P (h.push o)) ∧ ∀ a, Kp P (k a)
  | .loadIfAlive _ k => ∀ o, Kp P (k o)
  | .point _ k => Kp P (k ())
  | .register _ _ => True
  | .fresh k => ∀ t, Kp P (k t)
  | .ask k => ∀ x, Kp P (k x)
  | .choose _ _ k => ∀ x, Kp P (k x)
  | .os _ _ k => ∀ x, Kp P (k x)
  | .call _ _ _ _ _ => False
  | .handled _ k => ∀ x, Kp P (k x)
  | .newGen _ k => ∀ x, Kp P (k x)
  | .genState _ k => ∀ x, Kp P (k x)
  | .resume _ _ _ _ => False
  | .yield _ _ _ _ => True
  | .stack k => ∀ x, Kp P (k x)
  | .fork _ _ => True
  | .thread k => ∀ x, Kp P (k x)
  | .await _ _ _ _ _ => True
theorem kp_bind {P : Heap → Prop} {α β : Type} {t : Sem α} {f : α → Sem β} (h : Kp P t) (g : ∀ a, Kp P (f a)) : Kp P (t >>= f) := by
  show Kp P (t.bind f)
  induction t with
  | pure a => exact g a
  | raise e => trivial
  | unsupported w => trivial
  | finish e => trivial
  | rule t k ih => exact ih () h
  | «at» p k ih => exact ih () h
  | load a p k ih => exact fun o => ih o (h o)
  | update a p u k ih => exact ⟨h.1, ih () h.2⟩
  | alloc o k ih => exact ⟨h.1, fun a => ih a (h.2 a)⟩
  | loadIfAlive a k ih => exact fun o => ih o (h o)
  | point l k ih => exact ih () h
  | register a k ih => trivial
  | fresh k ih => exact fun o => ih o (h o)
  | ask k ih => exact fun o => ih o (h o)
  | choose s n k ih => exact fun o => ih o (h o)
  | os q l k ih => exact fun o => ih o (h o)
  | call c h' g l k ih => exact h.elim
  | handled o k ih => exact fun o => ih o (h o)
  | newGen c k ih => exact fun o => ih o (h o)
  | genState c k ih => exact fun o => ih o (h o)
  | resume g r l k ih => exact h.elim
  | yield v g l k ih => trivial
  | stack k ih => exact fun o => ih o (h o)
  | fork c k ih => trivial
  | thread k ih => exact fun o => ih o (h o)
  | await a t b l k ih => trivial
theorem kp_wp {P : Heap → Prop} {α : Type} {M : Model} {Γ : PySem.Ctx} {t : Sem α} (h : Kp P t) : ∀ {Q : α → Pos → Shared → Prop} {E : Value → Pos → Shared → Prop} {p : Pos} {s : Shared}, Sem.wp M Γ t Q E p s → P s.heap →
    Sem.wp M Γ t (fun a p s => Q a p s ∧ P s.heap) (fun e p s => E e p s ∧ P s.heap) p s := by
  induction t with
  | pure a => exact fun w q => ⟨w, q⟩
  | raise e => exact fun w q => ⟨w, q⟩
  | unsupported w => exact fun w q => w.elim
  | finish e => exact fun w q => w.elim
  | rule t k ih => exact fun w q => ih () h w q
  | «at» p k ih => exact fun w q => ih () h w q
  | load a p k ih => exact fun ⟨o, e, w⟩ q => ⟨o, e, ih o (h o) w q⟩
  | update a p u k ih => exact fun ⟨e, w⟩ q => ⟨e, ih () h.2 w (h.1 _ q)⟩
  | alloc o k ih => exact fun w q => ih _ (h.2 _) w (h.1 _ q)
  | loadIfAlive a k ih => exact fun w q => ih _ (h _) w q
  | point l k ih => exact fun w q => ih () h w q
  | register a k ih => exact fun w q => w.elim
  | fresh k ih => exact fun w q => ih _ (h _) w q
  | ask k ih => exact fun w q => ih _ (h _) w q
  | choose s n k ih => exact fun ⟨e, w⟩ q => ⟨e, ih _ (h _) w q⟩
  | os r l k ih => exact fun w q => ih _ (h _) w q
  | call c h' g l k ih => exact h.elim
  | handled o k ih => exact fun w q => ih _ (h _) w q
  | newGen c k ih => exact fun w q => ih _ (h _) w q
  | genState c k ih => exact fun ⟨st, e, w⟩ q => ⟨st, e, ih _ (h _) w q⟩
  | resume g r l k ih => exact h.elim
  | yield v g l k ih => exact fun w q => w.elim
  | stack k ih => exact fun w q => ih _ (h _) w q
  | fork c k ih => exact fun w q => w.elim
  | thread k ih => exact fun w q => ih _ (h _) w q
  | await a t b l k ih => exact fun w q => w.elim
theorem kp_imp {P : Heap → Prop} {A : Prop} {α : Type} {t : Sem α} (h : Kp P t) : Kp (fun s => A → P s) t := by
  induction t with
  | pure a => trivial
  | raise e => trivial
  | unsupported w => trivial
  | finish e => trivial
  | rule t k ih => exact ih () h
  | «at» p k ih => exact ih () h
  | load a p k ih => exact fun o => ih o (h o)
  | update a p u k ih => exact ⟨fun s q x => h.1 s (q x), ih () h.2⟩
  | alloc o k ih => exact ⟨fun s q x => h.1 s (q x), fun a => ih a (h.2 a)⟩
  | loadIfAlive a k ih => exact fun o => ih o (h o)
  | point l k ih => exact ih () h
  | register a k ih => trivial
  | fresh k ih => exact fun o => ih o (h o)
  | ask k ih => exact fun o => ih o (h o)
  | choose s n k ih => exact fun o => ih o (h o)
  | os q l k ih => exact fun o => ih o (h o)
  | call c h' g l k ih => exact h.elim
  | handled o k ih => exact fun o => ih o (h o)
  | newGen c k ih => exact fun o => ih o (h o)
  | genState c k ih => exact fun o => ih o (h o)
  | resume g r l k ih => exact h.elim
  | yield v g l k ih => trivial
  | stack k ih => exact fun o => ih o (h o)
  | fork c k ih => trivial
  | thread k ih => exact fun o => ih o (h o)
  | await a t b l k ih => trivial
/-- what holds behind the run, and what it keeps -/
theorem kp_any {P : Heap → Prop} {α : Type} {M : Model} {A : Around} {t : Sem α} {Q : α → Shared → Prop} {E : Value → Shared → Prop} {s : Shared} (h : Kp P t) (w : wpAny M A t Q E s) (q : P s.heap) :
    wpAny M A t (fun a s => Q a s ∧ P s.heap) (fun e s => E e s ∧ P s.heap) s := fun Γ p hΓ => kp_wp h (w Γ p hΓ) q
/-- the record at e tells v in its third place -/
def F2 (e : Addr) (v : Value) (h : Heap) : Prop := ∃ o vs, h.get? e = some o ∧ o.data = .fields vs ∧ vs[2]? = some v
/-- where b tells so, the exception at e was raised behind no other one -/
def FX (b : Bool) (e : Addr) (h : Heap) : Prop := b = true → F2 e .none h
section
variable {e : Addr} {v : Value}
theorem F2.push {h : Heap} (o : Obj) (q : F2 e v h) : F2 e v (h.push o) := by
  obtain ⟨o', vs, a, b, c⟩ := q
  exact ⟨o', vs, Heap.get?_push_of_some _ a, b, c⟩
theorem F2.upd {h : Heap} {a : Addr} {f : Obj → Obj} (q : F2 e v h) (hf : ∀ o vs, o.data = .fields vs → ∃ vs', (f o).data = .fields vs' ∧ vs'[2]? = vs[2]?) : F2 e v (h.update a f) := by
  obtain ⟨o, vs, x, y, z⟩ := q
  by_cases ha : a = e
  · subst ha
    obtain ⟨vs', y', z'⟩ := hf o vs y
    exact ⟨f o, vs', Heap.get?_update_self f x (Obj.isFreed_of_fields y'), y', z'.trans z⟩
  · exact ⟨o, vs, (Heap.get?_update_other _ _ ha).trans x, y, z⟩
theorem kp_pure {P : Heap → Prop} {α : Type} {a : α} : Kp P (pure a : Sem α) := trivial
theorem kp_field {P : Heap → Prop} {x : Value} {i : Nat} : Kp P (field x i) := by
  unfold field fieldsOf
  refine kp_bind ?_ fun vs => ?_
  · split
    · refine kp_bind (fun _ => trivial) fun o => ?_
      split <;> trivial
    · trivial
  · split <;> trivial
theorem kp_setField {x y : Value} {i : Nat} (hi : i ≠ 2) : Kp (F2 e v) (setField x i y) := by
  unfold setField
  split
  · unfold updateField
    refine kp_bind (fun _ => trivial) fun o => ?_
    split
    · split
      · refine ⟨fun h q => q.upd fun o vs hd => ⟨_, Obj.data_mapFields hd _, ?_⟩, trivial⟩
        rw [Array.getElem?_setIfInBounds_ne hi]
      · trivial
    · trivial
  · trivial
theorem kp_setFlight {x : Value} {f : Option Addr} : Kp (F2 e v) (setFlight x f) := by
  unfold setFlight
  refine kp_bind kp_field fun t => ?_
  split
  · exact kp_setField (by decide)
  · trivial
theorem kp_import {P : Heap → Prop} {env : Env} {l : List Env} : Kp P (behindIsImport env l) := by
  unfold behindIsImport
  split
  · trivial
  · split
    · trivial
    · exact kp_bind kp_field fun _ => trivial
theorem kp_back {P : Heap → Prop} {env : Env} {b : Bool} {l : List Env} : Kp P (keptBack env b l) := by
  cases l with
  | nil =>
    show Kp P (if _ then _ else _)
    by_cases h : (env.scope.isGenerator || env.scope.isCoroutine) = true
    · rw [if_pos h]; trivial
    · rw [if_neg h]
      refine kp_bind (t := underTheClaimsCaller) ?_ fun _ => kp_pure
      unfold underTheClaimsCaller
      exact kp_bind (t := stack) (fun _ => trivial) fun _ => kp_pure
  | cons c l => trivial
theorem kp_ready : ∀ l : List Env, Kp (F2 e v) (readyFrames l)
  | [] => trivial
  | env :: outer => by
    unfold readyFrames
    split
    · refine kp_bind (fun _ => trivial) fun o => ?_
      split
      · trivial
      · exact kp_bind kp_import fun b => kp_bind kp_back fun b2 => kp_bind ⟨fun h q => q.upd fun o vs hd => ⟨vs, hd, rfl⟩, trivial⟩ fun _ => kp_ready outer
    · trivial
theorem kp_frameOf {env : Env} : Kp (F2 e v) (PySem.frameOf env) := by
  unfold PySem.frameOf
  refine kp_bind ?_ fun l => kp_bind ?_ fun o => ?_
  · unfold frameEnvs
    exact kp_bind (fun _ => trivial) fun _ => trivial
  · generalize l.dropWhile _ = l'
    cases l' with
    | nil => trivial
    | cons a l' => exact kp_bind (kp_ready _) fun _ => trivial
  · split <;> trivial
theorem kp_place {P : Heap → Prop} {f : Addr} {b : Bool} : Kp P (entryPlaceOf f b) := by
  unfold entryPlaceOf
  refine kp_bind (fun _ => trivial) fun l => ?_
  split <;> trivial
theorem kp_entry {a b c d f : Value} {l : List Value} : Kp (F2 e v) (EntryCells.newEntry a b c d f l) := by
  unfold EntryCells.newEntry newFields newObj newObjAsIs
  dsimp only
  repeat' split
  all_goals first
    | exact ⟨fun h q => F2.push _ q, fun _ => True.intro⟩
    | exact True.intro
theorem kp_rest {x t : Value} {env : Env} {f : Addr} {b : Bool} : Kp (F2 e v) (do setField x 1 (← EntryCells.newEntry t (← PySem.frameOf env) .none (rawInt f) .none (← entryPlaceOf f b))) :=
  kp_bind kp_frameOf fun _ => kp_bind kp_place fun _ => kp_bind kp_entry fun _ => kp_setField (by decide)
theorem kp_note {x : Value} {env : Env} : Kp (F2 e v) (noteFrame x env) := by
  unfold noteFrame
  split
  · refine kp_bind kp_field fun t => ?_
    split
    · refine kp_bind kp_field fun y => ?_
      split
      · trivial
      · exact kp_bind (kp_setField (by decide)) fun _ => kp_rest
    · exact kp_rest
  · trivial
theorem kp_leaving {x : Value} {env : Env} : Kp (F2 e v) (leaving env x) := by
  unfold leaving
  exact kp_bind kp_note fun _ => kp_setFlight
end
end L2

set_option Elab.async false
set_option linter.all false
set_option maxRecDepth 100000
set_option maxHeartbeats 4000000
/-! Exceptions of own classes: how one lies behind a call, how it passes through a def. -/
namespace L2
open PySem PySem.Spec PyProof.Rows
/-- the exception at ea, of the class cls, its last station at T -/
def ExcAt (h : Heap) (ea : Addr) (cls : Value) (T : Addr) : Prop :=
  ∃ a0 oe vs oT ts, h.get? ea = some oe ∧ (oe.cls = cls ∧ vs[0]? = some a0) ∧ oe.data = .fields vs ∧ vs[1]? = some (.ref T) ∧ T ≠ ea ∧ h.get? T = some oT ∧ oT.data = .fields ts ∧ ts[3]? = some .none
def CXb (b : Bool) (P : Program) (w : World) : CXT := fun outer H s E e s' => ∃ ea cls T H', e = .ref ea ∧ s'.os = s.os ∧ AllBare s'.gens ∧ Un (frs outer) [] H H' s.heap s'.heap ∧ HOk P w H' s'.heap ∧ ExcAt s'.heap ea cls T ∧
  H' ea = none ∧ H' T = none ∧ s.heap.get? ea = none ∧ s.heap.get? T = none ∧ FX b ea s'.heap ∧ E cls (some ea) H'
abbrev CX1 (P : Program) (w : World) : CXT := CXb true P w
theorem hidF {h : Heap} {B : Heap} : ∀ {l : List Env} {L : List Addr}, (∀ b ∈ frs l, b ∈ L) → h.FunFrames B l → h.FunFrames (PySem.W.hideAll h L) l
  | [], _, _, _ => trivial
  | env :: l, L, hs, ⟨k, ⟨A, o, hf, hn, ho, hd⟩, r⟩ => by
    have hm : A ∈ L := hs A (by unfold frs; rw [List.filterMap_cons, hf]; exact List.mem_cons_self)
    refine ⟨k, ⟨A, o, hf, PySem.W.hideAll_none L hm, ho, hd⟩, hidF (fun b hb => hs b ?_) r⟩
    unfold frs at hb ⊢
    rw [List.filterMap_cons, hf]
    exact List.mem_cons_of_mem _ hb
theorem ObjOk.there {P : Program} {w : World} {H : Hp} {h : Heap} {a : Addr} {o : HO} (x : ObjOk P w H h a o) : ∃ ob, h.get? a = some ob := by
  cases o with
  | lst xs => obtain ⟨_, _, _, _, e⟩ := x; exact ⟨_, e⟩
  | tup xs => obtain ⟨_, _, _, ob, e, _⟩ := x; exact ⟨_, e⟩
  | dK kvs => obtain ⟨_, _, _, _, o, _, _, e, _⟩ := x; exact ⟨_, e⟩
  | dT kvs => obtain ⟨_, _, _, _, o, _, _, e, _⟩ := x; exact ⟨_, e⟩
  | set S n => obtain ⟨o, _, _, _, e, _⟩ := x; exact ⟨_, e⟩
  | ins C dx fs => obtain ⟨_, _, _, e, _⟩ := x; exact ⟨_, e⟩
  | own y => obtain ⟨_, e⟩ := x; exact ⟨_, e⟩
  | xd fs => obtain ⟨_, ⟨_, _, _, e, _⟩, _⟩ := x; exact ⟨_, e⟩
  | rng lo hi => obtain ⟨_, _, _, e⟩ := x; exact ⟨_, e⟩
  | frz ob u => obtain ⟨e, _⟩ := x; exact ⟨_, e⟩
  | tbl ps => exact ⟨_, show h.get? a = some _ from x⟩
  | met f y => exact ⟨_, show h.get? a = some _ from x⟩
  | ext φ => obtain ⟨_, ⟨_, e⟩, _⟩ := x; exact ⟨_, e⟩
section
variable {P : Program} {w : World} {K : PySem.W.Frag} {mg : Str → Option Value} {base : Heap} {N : List Str} {qual : Str} {scope : Scope} {f : Addr} {cd : Value} {A : Around} {outer : List Env} {s : Shared} {H : Hp} {E : XK} {CX : CXT} {b : Bool}
/-- the last step: the state behind the frame, out of the body's state s2 and the heap h' that the station was written to -/
theorem cx_of {pins : List (Addr × Obj)} {σ : St} {H2 : Hp} {s2 : Shared} {L : List Addr} {ea : Addr} {cls a0 : Value} {h' : Heap}
    (J : Inv (cxOf CX P w K mg base N qual scope f cd A outer s H E) pins σ H2 s2) (hL : ∀ b ∈ L, H2 b = none ∧ (b ∈ frs outer ∨ s.heap.get? b = none)) (hLf : ∀ b ∈ frs outer, b ∈ L) (hea : s.heap.get? ea = none) (heH : H2 ea = none)
    (fl : Heap.FlyingW (PySem.W.hideAll s2.heap L) outer ea cls a0 h') (up : ∀ b ∈ frs outer, ∀ o, s2.heap.get? b = some o → (∀ vs, o.data ≠ .fields vs) → ∃ sl, h'.get? b = some { o with slots := sl }) (ff : FX b ea h') (q : E cls (some ea) H2) : CXb b P w outer H s E (.ref ea) { s2 with heap := h' } := by
  obtain ⟨f1, f2, f3, oe, vs, T, oT, ts, he, hc, hd, h1, hnT, hTe, hT, hdT, h3⟩ := fl
  have kp : ∀ b o, b ∉ L → s2.heap.get? b = some o → h'.get? b = some o := fun b o hb e => f1 b o (PySem.W.hideAll_get L e hb)
  have trk : ∀ b u, H2 b = some u → b ∉ L := fun b u e hb => by rw [(hL b hb).1] at e; cases e
  have hTH : H2 T = none := by
    cases e : H2 T with
    | none => rfl
    | some u =>
      obtain ⟨o, ho⟩ := (J.hok T u e).there
      have := PySem.W.hideAll_get L ho (trk T u e)
      rw [hnT] at this; cases this
  refine ⟨ea, cls, T, H2, rfl, J.os, J.bare, ?_, ?_, ⟨a0, oe, vs, oT, ts, he, hc, hd, h1, hTe, hT, hdT, h3⟩, heH, hTH, hea, ?_, ff, q⟩
  · refine ⟨fun b o e n hb hx => ?_, fun b o e n hb hx => ?_, fun b o e n hx => ?_, fun b o e hx => ?_, J.base.tups, J.base.frzs, J.base.tbls⟩
    · have e2 := J.base.keep b o e n hb hx
      exact kp b o (fun hl => by rcases (hL b hl).2 with z | z; exact hb z; rw [e] at z; cases z) e2
    · obtain ⟨sl, e2⟩ := J.base.slot b o e n hb hx
      obtain ⟨_, o', ho', hnf⟩ := J.ok.funs.mem hb
      have eo : o = o' := Option.some.inj ((show s.heap.get? b = some o from e).symm.trans ho')
      subst eo
      obtain ⟨sl', e3⟩ := up b hb _ e2 (fun ws z => hnf ws z)
      exact ⟨sl', e3⟩
    · exact J.base.free b o e n hx
    · obtain ⟨o', e2⟩ := J.base.there b o e hx
      by_cases hl : b ∈ L
      · rcases (hL b hl).2 with z | z
        · obtain ⟨sl, e3⟩ := J.base.slot b o e (J.ok.frf b z) z hx
          obtain ⟨_, o4, ho4, hnf⟩ := J.ok.funs.mem z
          have eo : o = o4 := Option.some.inj ((show s.heap.get? b = some o from e).symm.trans ho4)
          subst eo
          obtain ⟨sl', e4⟩ := up b z _ e3 (fun ws z => hnf ws z)
          exact ⟨_, e4⟩
        · rw [e] at z; cases z
      · exact ⟨o', kp b o' hl e2⟩
  · intro b u e
    refine (J.hok b u e).stay (fun c v hc q => kp c v ?_ q) (fun _ q => q) fun _ _ q => q
    rcases hc with z | z
    · rw [z]; exact trk b u e
    · exact trk c _ z
  · cases e : s.heap.get? T with
    | none => rfl
    | some o =>
      obtain ⟨o', e2⟩ := J.base.there T o e (by simp [cxOf])
      by_cases hl : T ∈ L
      · rcases (hL T hl).2 with z | z
        · obtain ⟨_, o4, ho4, hnf⟩ := f3.mem z
          rw [hT] at ho4
          cases ho4
          exact absurd hdT (hnf ts)
        · rw [e] at z; cases z
      · have := PySem.W.hideAll_get L e2 hl
        rw [hnT] at this; cases this
/-- an exception of a callee leaves this def too -/
theorem passB {b' : Bool} (hb : b' = true → b = true) : Passes (CXb b P w) (cxOf (CXb b' P w) P w K mg base N qual scope f cd A outer s H E) E := by
  intro pins σ H1 s1 e s2 I c
  obtain ⟨ea, cls, T, H', rfl, os, bare, un, hok, ⟨a0, oe, vs, oT, ts, he, hc, hd, h1, hTe, hT, hdT, h3⟩, hea, hTH, nea, nT, ff, q⟩ := c
  have J : Inv (cxOf (CXb b' P w) P w K mg base N qual scope f cd A outer s H E) pins σ H' s2 := I.call' (s' := s2) (ch := []) os un hok bare fun b hb => by simp at hb
  have up0 : ∀ b, s1.heap.get? b = none → s.heap.get? b = none := fun b hb => by
    cases e : s.heap.get? b with
    | none => rfl
    | some o =>
      obtain ⟨o', e2⟩ := I.base.there b o e (by simp [cxOf])
      rw [hb] at e2; cases e2
  have hloc := J.ok.above
  have stk := J.stack
  have nloc : s.heap.get? (cxOf (CXb b' P w) P w K mg base N qual scope f cd A outer s H E).env.locals = none := Heap.get?_none_of_le hloc
  let L : List Addr := ea :: T :: (cxOf (CXb b' P w) P w K mg base N qual scope f cd A outer s H E).env.locals :: frs outer
  have hLs : ∀ b ∈ frs ((cxOf (CXb b' P w) P w K mg base N qual scope f cd A outer s H E).env :: outer), b ∈ L := fun b hb => by
    have := J.stkSub b hb
    exact List.mem_cons_of_mem _ (List.mem_cons_of_mem _ this)
  refine wpAny_mono (kp_any (kp_imp kp_leaving) (wpAny_leaves_onW (Q := fun _ t => ∃ h', t = { s2 with heap := h' } ∧ Heap.FlyingW (PySem.W.hideAll s2.heap L) outer ea cls a0 h' ∧ s2.heap.UpToSlots h') (base := PySem.W.hideAll s2.heap L) (L := (cxOf (CXb b' P w) P w K mg base N qual scope f cd A outer s H E).env.locals) (cls := cls) (a0 := a0) J.ok.frames ?_ ?_ fun h' fl up => ⟨h', rfl, fl, up⟩) ff) (fun _ t ⟨⟨h', e, fl, up⟩, ff'⟩ => ?_) fun _ _ z => z.1
  · rfl
  · exact ⟨fun b o e => PySem.W.of_hideAll L e, PySem.W.hideAll_none L (by simp [L]), hidF hLs stk, oe, vs, T, oT, ts, he, hc, hd, h1, PySem.W.hideAll_none L (by simp [L]), hTe, hT, hdT, h3⟩
  · subst e
    refine cx_of J (L := L) (fun b hb => ?_) (fun b hb => by simp [L, hb]) (up0 ea nea) hea fl (fun b _ => up b) (fun z => ff' (hb z)) q
    rcases List.mem_cons.mp hb with z | hb
    · rw [z]; exact ⟨hea, .inr (up0 ea nea)⟩
    · rcases List.mem_cons.mp hb with z | hb
      · rw [z]; exact ⟨hTH, .inr (up0 T nT)⟩
      · rcases List.mem_cons.mp hb with z | hb
        · rw [z]; exact ⟨J.free, .inr nloc⟩
        · exact ⟨J.stkFree b (by
            obtain ⟨e, he', hf⟩ := List.mem_filterMap.mp (show b ∈ outer.filterMap (·.frame) from hb)
            exact List.mem_filterMap.mpr ⟨e, List.mem_cons_of_mem _ he', hf⟩), .inl hb⟩
theorem pass1 : Passes (CX1 P w) (cxOf (CX1 P w) P w K mg base N qual scope f cd A outer s H E) E := passB id
end
end L2

set_option Elab.async false
set_option linter.all false
set_option maxRecDepth 100000
set_option maxHeartbeats 4000000
/-! Exceptions of own classes: raise; defs that refuse. -/
namespace L2
open PySem PySem.Spec PyProof.Rows
section
variable {P : Program} {w : World} {K : PySem.W.Frag} {mg : Str → Option Value} {base : Heap}
/-- a def that goes through goes through here as well -/
theorem FnOk.toX {b : Bool} {k : Nat} {f : Addr} {fd : FuncData} {ps : List Str} {sp : Sp} (F : FnOk P w K mg base CX0 k f fd ps sp) : FnOk P w K mg base (CXb b P w) k f fd ps sp :=
  ⟨F.len, fun A outer s H args us vs Q E hr he hb hv hs => codeAny_mono (F.run A outer s H args us vs Q E hr he hb hv hs) fun r s' h => by
    cases r with
    | error e => exact h.elim
    | ok fl => cases fl <;> exact h⟩
structure DfX (P : Program) (w : World) (K : PySem.W.Frag) (mg : Str → Option Value) (base : Heap) (x : Str) (k : Nat) (f : Addr) (fd : FuncData) (ps : List Str) (sp : Sp) : Prop where
  ok : FnOk P w K mg base (CX1 P w) k f fd ps sp
  m : mg x = some (.ref f)
  kp : PySem.W.keepIn K (.ref f) = true
  b : Binds K fd ps []
end
/-- a call of a def that may refuse: what E wants of the refusal -/
theorem pe_callX {X : Cx} {E : XK} {x : Str} {k k' : Nat} {f : Addr} {fd : FuncData} {ps : List Str} {sp : Sp} {p pos : Pos} {e : Expr} {es : List Expr} {t : TA} (hx : Passes (CX1 X.prog X.w) X E) (D : DfX X.prog X.w X.K X.mg X.base x k f fd ps sp) (hr : Room k' X.A) (hg : Gl X x) (ha : PA X (e :: es) t) (hk : k ≤ k' := by decide)
    (hdb : (x == ("__debug__" : Str)) = false := by decide) (he : starEach (e :: es) X.env = (false, eval e X.env) :: starEach es X.env := by rfl) (hpl : (backTo pos (starEach es X.env)).any (·.1) = false := by rfl) :
    PE X (.Call (.Name x p) (e :: es) [] pos) (tCall sp [] E t) := pe_call D.ok (hr.mono hk) hg D.m D.kp D.b .nil hx ha hdb he hpl
/-- an own class of exceptions, over the base -/
structure Exc (K : PySem.W.Frag) (mg : Str → Option Value) (x : Str) (C : Addr) : Prop where
  m : mg x = some (.ref C)
  cl : ∃ bmB newId, PySem.W.excIn K C bmB newId = true ∧ ∃ B initId, ExcBaseFacts B newId initId bmB
def tRaise (C : Addr) (E : XK) : TS := fun _ _ H => ∀ ea, H ea = none → E (.ref C) (some ea) H
theorem own_obj {K : PySem.W.Frag} {h : Heap} {C : Addr} {bmB : List Value} {newId : String} (X : K.In h) (q : PySem.W.excIn K C bmB newId = true) :
    ∃ bm N nm q bs hdct sn sub ab col dd k0 k1 k2 k3 k5 mN, h.get? C = some (excClassObj nm q C N bs bm hdct sn sub ab col dd k0 k1 k2 k3 k5 newId) ∧ h.Ns N mN ∧ mN "__init__" = none ∧ OwnTail h bmB bm := by
  unfold PySem.W.excIn at q
  split at q
  · rename_i dd cd sl ho
    split at q
    · rename_i C' bm k0 k1 k2 k3 n k5 hm hs
      simp only [Bool.and_eq_true, beq_iff_eq, Bool.not_eq_true'] at q
      obtain ⟨⟨⟨⟨⟨rfl, rfl⟩, hdel⟩, ht⟩, hok⟩, hni⟩ := q
      obtain ⟨nm, bs, mro, ns, qn, hd, sn, sub, ab, col, del⟩ := cd
      dsimp only at hm hdel hok hni
      subst hm hdel
      have hsl : sl = #[k0, k1, k2, k3, some (.builtin n), k5] := by
        obtain ⟨l⟩ := sl
        simp only at hs
        rw [hs]
      subst hsl
      exact ⟨bm, ns, nm, qn, bs, hd, sn, sub, ab, col, dd, k0, k1, k2, k3, k5, _, X _ _ ho, .of_isNs (PySem.W.isNs_of_in X hok), PySem.W.nsMap_none_of_in X hok hni, PySem.W.tail_of_in X ht⟩
    · cases q
  · cases q
section
variable {P : Program} {w : World} {K : PySem.W.Frag} {mg : Str → Option Value} {base : Heap} {N : List Str} {qual : Str} {scope : Scope} {f : Addr} {cd : Value} {A : Around} {outer : List Env} {s : Shared} {H : Hp} {E : XK} {bb : Bool}
theorem xe_made {pins : List (Addr × Obj)} {σ : St} {H2 : Hp} {s2 : Shared} {h' : Heap} {ea : Addr} {cls : Value} {vs : List Value} (J : Inv (cxOf (CXb bb P w) P w K mg base N qual scope f cd A outer s H E) pins σ H2 s2) (mk : Heap.MadeExcOf s2.heap h' ea cls vs)
    (q : E cls (some ea) H2) : (cxOf (CXb bb P w) P w K mg base N qual scope f cd A outer s H E).xe (.ref ea) { s2 with heap := h' } := by
  have up0 : ∀ b, s2.heap.get? b = none → s.heap.get? b = none := fun b hb => by
    cases e : s.heap.get? b with
    | none => rfl
    | some o =>
      obtain ⟨o', e2⟩ := J.base.there b o e (by simp [cxOf])
      rw [hb] at e2; cases e2
  have nloc : s.heap.get? (cxOf (CXb bb P w) P w K mg base N qual scope f cd A outer s H E).env.locals = none := Heap.get?_none_of_le J.ok.above
  let L : List Addr := (cxOf (CXb bb P w) P w K mg base N qual scope f cd A outer s H E).env.locals :: frs outer
  have hLs : ∀ b ∈ frs ((cxOf (CXb bb P w) P w K mg base N qual scope f cd A outer s H E).env :: outer), b ∈ L := fun b hb => J.stkSub b hb
  have heH : H2 ea = none := by
    cases e : H2 ea with
    | none => rfl
    | some u =>
      obtain ⟨o, ho⟩ := (J.hok ea u e).there
      rw [mk.new] at ho; cases ho
  have f0 : F2 ea .none h' := by
    obtain ⟨t, he, _⟩ := mk.there
    exact ⟨_, _, he, rfl, rfl⟩
  refine wpAny_mono (kp_any (kp_imp (A := bb = true) kp_leaving) (wpAny_leaves_madeW (Q := fun _ u => ∃ h2 t, u = { s2 with heap := h2 } ∧ Heap.FlyingW (PySem.W.hideAll s2.heap L) outer ea cls (.ref t) h2 ∧ h'.UpToSlots h2) (base := PySem.W.hideAll s2.heap L) (h := s2.heap) (L := (cxOf (CXb bb P w) P w K mg base N qual scope f cd A outer s H E).env.locals) (cls := cls) (args := vs) J.ok.frames rfl (fun b o e => PySem.W.of_hideAll L e) (hidF hLs J.stack) mk fun h2 t fl _ _ up => ⟨h2, t, rfl, fl, up⟩) fun _ => f0) (fun _ u ⟨⟨h2, t, e, fl, up⟩, ff⟩ => ?_) fun _ _ z => z.1
  subst e
  refine cx_of (s2 := s2) (h' := h2) J (L := L) (fun b hb => ?_) (fun b hb => List.mem_cons_of_mem _ hb) (up0 ea mk.new) heH fl (fun b _ => (Heap.UpToSlots.of_keeps mk.keeps).trans up b) ff q
  rcases List.mem_cons.mp hb with z | hb
  · rw [z]; exact ⟨J.free, .inr nloc⟩
  · exact ⟨J.stkFree b (by
      obtain ⟨e, he', hf⟩ := List.mem_filterMap.mp (show b ∈ outer.filterMap (·.frame) from hb)
      exact List.mem_filterMap.mpr ⟨e, List.mem_cons_of_mem _ he', hf⟩), .inl hb⟩
theorem ps_raise {x : Str} {C : Addr} {np cpos pos : Pos} {e₀ : Expr} {ta : TE} (hh : A.handled = none) (X : Exc K mg x C) (hg : Gl (cxOf (CXb bb P w) P w K mg base N qual scope f cd A outer s H E) x) (he : PE (cxOf (CXb bb P w) P w K mg base N qual scope f cd A outer s H E) e₀ ta)
    (hst : starEach [e₀] (cxOf (CXb bb P w) P w K mg base N qual scope f cd A outer s H E).env = [(false, eval e₀ (cxOf (CXb bb P w) P w K mg base N qual scope f cd A outer s H E).env)] := by rfl) (hd : (x == ("__debug__" : Str)) = false := by decide) :
    PS (cxOf (CXb bb P w) P w K mg base N qual scope f cd A outer s H E) (.Raise (some (.Call (.Name x np) [e₀] [] cpos)) none pos) (fun D σ H1 => ta σ H1 fun _ H2 => tRaise C E D σ H2) := by
  intro pins s1 σ H1 D I q
  obtain ⟨bmB, newId, hx, B, initId, FB⟩ := X.cl
  obtain ⟨tl, N', nm, q', bs, hdct, sn, sub, ab, col, dd, k0, k1, k2, k3, k5, mN, hC, hN, hni, T⟩ := own_obj (h := base) I.ok.mod.kin hx
  have ha : PA (cxOf (CXb bb P w) P w K mg base N qual scope f cd A outer s H E) [e₀] (tCons ta tNil) := pa_cons he pa_nil (by rw [hst]; rfl)
  refine wpAny_Raise_call_subT (C := C) (nm := nm) (q := q') (N := N') (bs := bs) (bm := tl) (hdct := hdct) (sn := sn) (sub := sub) (ab := ab) (col := col) (dd := dd) (k0 := k0) (k1 := k1) (k2 := k2) (k3 := k3) (k5 := k5)
    FB (mN := mN) (T.hasType FB.hasBase) (I.ok.hd rfl) (by rw [hst]; rfl) hni (ld_glob I hg X.m ⟨rfl, ?_⟩ hd)
  have hsp := ha cpos pins s1 σ H1 (fun vs H2 => match vs with | [_] => tRaise C E D σ H2 | _ => False) I q
  rw [hst] at hsp ⊢
  refine Calls.evalArgs_plain (thn hsp fun us s2 ⟨vs, H2, I2, r, q2⟩ => ?_)
  match vs, r, q2 with
  | [v], r, q2 =>
    refine ⟨rfl, by rw [← r.length, sizeLine_eq]; exact (by decide : 1 ≤ 16777216), I2.bk _ _ hC, hN.keeps I2.bk, T.keeps I2.bk, fun h' e mk => xe_made I2 mk (q2 e ?_)⟩
    cases z : H2 e with
    | none => rfl
    | some u =>
      obtain ⟨o, ho⟩ := (I2.hok e u z).there
      rw [mk.new] at ho; cases ho
end
end L2

set_option Elab.async false
set_option linter.all false
set_option maxRecDepth 100000
set_option maxHeartbeats 4000000
/-! Exceptions of own classes: isinstance. -/
namespace L2
open PySem PySem.Spec PyProof.Rows PySem.W
/-- what the fragment tells of an own class of exceptions -/
structure ExcK (K : PySem.W.Frag) (C : Addr) : Prop where
  hc : (clsIn K C).isSome = true
  g1 : findIn K (.ref C) "__getattribute__" = some (some (.builtin "BaseException.__getattribute__"))
  g3 : findIn K (.ref C) "__getattr__" = some none
  g2 : findIn K (.ref C) "__class__" = some (some (.builtin "object.__class__"))
  sB : subIn K (.ref C) (.type "BaseException") = some true
  sO : subIn K (.ref C) (.type "object") = some true
section
variable {K : PySem.W.Frag} {C : Addr} {prog : Program} {w : World} {A : Around} {E : Value → Shared → Prop} {h : Heap} {g : Array GenState} {d : Drawn} {t : Nat} {os : OsState} {a : Addr} {o : Obj}
theorem xc_get {R : Result → Shared → Prop} (Z : ExcK K C) (X : K.In h) (hx : h.get? a = some o) (hc : o.cls = .ref C) (hq : R (.ok (.ret (.ref C))) ⟨h, g, d, t, os⟩) :
    codeAny (model prog w) A (.call (.builtin "getset_descriptor.__get__") ⟨[.builtin "object.__class__", .ref a, .ref C], []⟩) R ⟨h, g, d, t, os⟩ := by
  have hT5 : (⟨h, g, d, t, os⟩ : Shared).TypeIs (.builtin "object.__class__") "getset_descriptor" := F.typeOf_object_class
  have sO : subIn K (.ref C) (.type (".".intercalate ("object.__class__".cutAt '.').dropLast)) = some true := by rw [F.owner_object_class]; exact Z.sO
  refine codeAny_call_builtin F.slot_gs_get.plain F.entry_gs_get (F.slot_gs_get.check _ _ _ _ _ _ _ _ hT5 (F.args_gs_get _ _ _) ?_)
  repeat (any_goals (first | assumption | (with_reducible refine wpAny_loadPart_at hx ?_; rw [hc]) | with_reducible refine (looks_subIn X sO).at ?_ | wp_step))
  refine ⟨Code.quiet_builtin _ (by decide +kernel), codeAny_builtin F.entry_object_class ?_⟩
  repeat (any_goals (first | assumption | (with_reducible refine wpAny_loadPart_at hx ?_; rw [hc]) | wp_step))
theorem xc_entry {tk : Tok} {Q : Fin → Shared → Prop} (Z : ExcK K C) (X : K.In h) (hx : h.get? a = some o) (hc : o.cls = .ref C) (hq : Q (.done (.ret (.ref C))) ⟨h, g, d, t, os⟩) :
    wpAny (model prog w) A (Builtin.«object.__getattribute__» ⟨[.ref a, .str "__class__" tk], []⟩) Q E ⟨h, g, d, t, os⟩ := by
  have hT5 : (⟨h, g, d, t, os⟩ : Shared).TypeIs (.builtin "object.__class__") "getset_descriptor" := F.typeOf_object_class
  have f5 := F.typeOf_object_class
  have f6 := F.slot_gs_get.lookup
  have f7 := F.slot_gs_set.lookup
  repeat (any_goals (first | assumption | (with_reducible refine wpAny_loadPart_at hx ?_; rw [hc]) | with_reducible refine (looks_findIn X Z.g2).at ?_ | wp_step))
  refine xc_get Z X hx hc ?_
  repeat (any_goals (first | assumption | wp_step))
theorem xc_check {M : Model} {nameV : Value} {Q : Unit → Shared → Prop} (Z : ExcK K C) (X : K.In h) (hx : h.get? a = some o) (hc : o.cls = .ref C) (hq : Q () ⟨h, g, d, t, os⟩) :
    wpAny M A (checkBuiltinCall "BaseException.__getattribute__" ⟨[.ref a, nameV], []⟩) Q E ⟨h, g, d, t, os⟩ := by
  have hk : builtinKind "BaseException.__getattribute__" = some .slot := by decide +kernel
  have hsplit : splitId "BaseException.__getattribute__" = some ("BaseException", "__getattribute__") := by decide +kernel
  have ha := F.args_bexc_ga (.ref a) nameV
  simp only [checkBuiltinCall, hk, hsplit]
  refine wpAny_bind ?_
  · unfold isInstance
    repeat (first | (with_reducible refine wpAny_loadPart_at hx ?_; rw [hc]) | with_reducible refine (looks_subIn X Z.sB).at ?_ | wp_step)
    exact hq
theorem xc_call {tk : Tok} {R : Result → Shared → Prop} (Z : ExcK K C) (X : K.In h) (hx : h.get? a = some o) (hc : o.cls = .ref C) (hq : R (.ok (.ret (.ref C))) ⟨h, g, d, t, os⟩) :
    codeAny (model prog w) A (.call (.builtin "BaseException.__getattribute__") ⟨[.ref a, .str "__class__" tk], []⟩) R ⟨h, g, d, t, os⟩ :=
  codeAny_call_builtin PySem.F.excAttr_ValueError.ga.plain F.entry_bexc_ga (xc_check Z X hx hc (xc_entry Z X hx hc hq))
theorem xc_by {tk : Tok} {Q : Value → Shared → Prop} (Z : ExcK K C) (X : K.In h) (hx : h.get? a = some o) (hc : o.cls = .ref C) (hq : Q (.ref C) ⟨h, g, d, t, os⟩) :
    wpAny (model prog w) A (getAttrBy (.ref a) (.str "__class__" tk) false) Q E ⟨h, g, d, t, os⟩ := by
  have f3 := PySem.F.excAttr_ValueError.ga.bind (.ref a)
  have hx2 : (Value.builtin "BaseException.__getattribute__" == Value.builtin "object.__getattribute__") = false := by decide +kernel
  have hx1 : (onTheHeap (Value.ref C) && Value.builtin "BaseException.__getattribute__" == Value.builtin "object.__getattribute__") = false := by rw [hx2]; rfl
  repeat (any_goals (first | assumption | (with_reducible refine wpAny_loadPart_at hx ?_; rw [hc]) | with_reducible refine (looks_findIn X Z.g1).at ?_ | with_reducible refine (looks_findIn X Z.g3).at ?_ | wp_step))
  refine xc_call Z X hx hc ?_
  repeat (any_goals (first | assumption | wp_step))
theorem xc_attr {Q : Option Value → Shared → Prop} (Z : ExcK K C) (X : K.In h) (hx : h.get? a = some o) (hc : o.cls = .ref C) (hq : Q (some (.ref C)) ⟨h, g, d, t + 1, os⟩) : wpAny (model prog w) A (getAttr? (.ref a) "__class__") Q E ⟨h, g, d, t, os⟩ := by
  unfold getAttr? getAttrBy?
  repeat (any_goals (first | assumption | with_reducible apply xc_by Z X hx hc | wp_step))
end
/-- an exception's object -/
def ExcIs (a C : Addr) (h : Heap) : Prop := ∃ o, h.get? a = some o ∧ o.cls = .ref C
theorem kitx_exc {K : PySem.W.Frag} {a C : Addr} (Z : ExcK K C) : KitX K (.ref a) (.ref C) (ExcIs a C) where
  ty := fun _ _ _ ⟨o, h1, h2⟩ => h2 ▸ (Looks.ld h1).andThen .now
  it := fun _ _ X _ => by
    have hcD := Z.hc
    unfold clsIn at hcD
    split at hcD
    · rename_i c' d' cd' sl' ho
      intro A' Q' E' s' k q
      unfold isType loadHead
      exact wpAny_bind (wpAny_loadPart (k _ _ (X _ _ ho)) (wpAny_pure q))
    · cases hcD
  ne := fun h tp dd its n sl X htp => by
    have hcD := Z.hc
    refine Bool.eq_false_iff.mpr fun q => ?_
    have e : C = tp := Value.ref.inj (beq_iff_eq.mp q)
    subst e
    unfold clsIn at hcD
    split at hcD
    · rename_i c' d' cd' sl' ho
      have z := (X _ _ ho).symm.trans htp
      cases z
    · cases hcD
  ca := fun {_ _ _ _ _ s} X p k => by
    obtain ⟨h, g, d, t, os⟩ := s
    obtain ⟨o, h1, h2⟩ := p
    exact xc_attr Z X h1 h2 k
end L2

set_option Elab.async false
set_option linter.all false
set_option maxRecDepth 100000
set_option maxHeartbeats 4000000
/-! Exceptions of own classes: a try whose handler returns. -/
namespace L2
open PySem PySem.Spec PyProof.Rows PySem.W
section
variable {M : Model} {A : Around} {E : Value → Shared → Prop} {h : Heap} {g : Array GenState} {d : Drawn} {t : Nat} {os : OsState} {e C CR : Addr} {oe : Obj} {K : PySem.W.Frag}
  {nm q : Str} {N : Addr} {bs bm : List Value} {hdct : Bool} {sn : List Str} {sub : List Value} {ab : Bool} {col : Option Bool} {dd : Option Addr} {k0 k1 k2 k3 k5 : Option Value} {newId : String}
theorem xm_sub {Q : Bool → Shared → Prop} (X : K.In h) (hC : h.get? CR = some (excClassObj nm q CR N bs bm hdct sn sub ab col dd k0 k1 k2 k3 k5 newId)) (hbase : bm.contains (.type "BaseException") = true) (he : h.get? e = some oe) (hcls : oe.cls = .ref C)
    (sb : subIn K (.ref C) (.ref CR) = some true) (hq : Q true ⟨h, g, d, t, os⟩) : wpAny M A (excMatches (.ref e) (.ref CR)) Q E ⟨h, g, d, t, os⟩ := by
  have hcB : (Value.ref CR :: bm).contains (.type "BaseException") = true := by rw [List.contains_cons, hbase, Bool.or_true]
  have f := tc_notTuple
  unfold excMatches
  repeat (first | (with_reducible refine wpAny_loadPart_at he ?_; rw [hcls]) | with_reducible refine wpAny_loadPart_at hC ?_ | (with_reducible refine wpAny_isSubtype_exc hC ?_; rw [hcB]) | with_reducible refine (looks_subIn X sb).at ?_ | wp_step)
  exact hq
end
/-- an exception that is held: of the class C, raised behind no other one where b tells so -/
def ExcX (b : Bool) (ea C : Addr) (h : Heap) : Prop := ExcIs ea C h ∧ FX b ea h
def EOb (b : Bool) (ea C : Addr) : HO := .ext (ExcX b ea C)
/-- within an except suite -/
def mkX (X : Cx) (ea : Addr) : Cx := { X with A := X.A.mark (some (.ref ea)), calm := false, xe := fun _ _ => False }
def trX (X : Cx) (xe : Value → Shared → Prop) (pn : List (Addr × Obj)) : Cx := { X with xe := xe, pn := pn }
section
variable {X : Cx} {pins : List (Addr × Obj)} {σ : St} {H : Hp} {s : Shared}
theorem inv_mk {ea : Addr} (I : Inv X pins σ H s) : Inv (mkX X ea) pins σ H s :=
  ⟨⟨I.ok.mod, I.ok.kind, I.ok.glob, I.ok.blt, I.ok.above, I.ok.inj, I.ok.has, I.ok.cab, (fun z => nomatch z), I.ok.frames, I.ok.stk, I.ok.exf, I.ok.bs, I.ok.bsz, I.ok.noex, I.ok.exfs, I.ok.funs, I.ok.frf⟩, I.os, I.bare, I.base, I.loc, I.cell, I.free, I.freeC, I.pin, I.hok, I.len⟩
theorem inv_tr {xe : Value → Shared → Prop} (I : Inv X pins σ H s) : Inv (trX X xe (X.pn ++ pins)) [] σ H s :=
  ⟨⟨I.ok.mod, I.ok.kind, I.ok.glob, I.ok.blt, I.ok.above, I.ok.inj, I.ok.has, I.ok.cab, I.ok.hd, I.ok.frames, I.ok.stk, I.ok.exf, I.ok.bs, I.ok.bsz, I.ok.noex, I.ok.exfs, I.ok.funs, I.ok.frf⟩, I.os, I.bare, I.base, I.loc, I.cell, I.free, I.freeC, fun p hp => I.pin p (by simpa [trX] using hp), I.hok, I.len⟩
theorem tr_inv {xe : Value → Shared → Prop} {p1 : List (Addr × Obj)} (k : X.Ok) (I : Inv (trX X xe (X.pn ++ pins)) p1 σ H s) : Inv X pins σ H s :=
  ⟨k, I.os, I.bare, I.base, I.loc, I.cell, I.free, I.freeC, fun p hp => I.pin p (List.mem_append_left _ hp), I.hok, I.len⟩
theorem mk_inv {ea : Addr} (k : X.Ok) (I : Inv (mkX X ea) pins σ H s) : Inv X pins σ H s := ⟨k, I.os, I.bare, I.base, I.loc, I.cell, I.free, I.freeC, I.pin, I.hok, I.len⟩
/-- the handler's name goes; all names are forgotten -/
theorem Inv.name_goes {h' : Heap} {m' : Str → Option Value} {t' : Nat} (I : Inv X pins σ H s) (hn : h'.Ns X.env.locals m') (sb : Heap.SameBut X.env.locals s.heap h') : Inv X pins (List.replicate X.N.length none) H { s with heap := h', toks := t' } := by
  have kp : ∀ b o, b ≠ X.env.locals → s.heap.get? b = some o → h'.get? b = some o := fun b o hb e => (sb.2 b hb).trans e
  have neL : ∀ b o, X.s₀.heap.get? b = some o → b ≠ X.env.locals := fun b o e => Nat.ne_of_lt (Nat.lt_of_lt_of_le (Heap.lt_size e) I.ok.above)
  refine ⟨I.ok, I.os, I.bare, ⟨fun b o e n f x => kp b o (neL b o e) (I.base.keep b o e n f x), fun b o e n f x => ?_, I.base.free, fun b o e x => ?_, I.base.tups, I.base.frzs, I.base.tbls⟩, ⟨m', hn, fun i x v _ e => ?_⟩, fun x c e => ?_, I.free, I.freeC, fun p hp => ?_, fun b u e => ?_, List.length_replicate⟩
  · obtain ⟨sl, z⟩ := I.base.slot b o e n f x
    exact ⟨sl, kp b _ (neL b o e) z⟩
  · obtain ⟨o', z⟩ := I.base.there b o e x
    exact ⟨o', kp b _ (neL b o e) z⟩
  · rw [List.getElem?_replicate] at e
    split at e <;> cases e
  · obtain ⟨v, z⟩ := I.cell x c e
    exact ⟨v, z.sameBut sb (I.cne x c e)⟩
  · obtain ⟨a, b, c, r⟩ := I.pin p hp
    exact ⟨kp _ _ c a, b, c, r⟩
  · have nl : ∀ b u, H b = some u → b ≠ X.env.locals := fun b u e z => by rw [z, I.free] at e; cases e
    refine (I.hok b u e).stay (fun c v hc q => kp c v ?_ q) (fun _ q => q) fun _ _ q => q
    rcases hc with z | z
    · rw [z]; exact nl b u e
    · exact nl c _ z
end
/-- what a handler is asked: the exception ea of the class C, what it is run on -/
def tTry (bb : Bool) (i : Nat) (Sub : Addr → Prop) (ts : TS) (tb : XK → TS) : TS := fun D σ H =>
  tb (fun cls a H' => ∃ ea C, a = some ea ∧ cls = .ref C ∧ Sub C ∧ ∀ σ', σ'[i]? = some (some (.ref ea)) → ts { nx := fun _ _ => False, rt := D.rt } σ' (upd H' ea (EOb bb ea C))) D σ H
section
variable {P : Program} {w : World} {K : PySem.W.Frag} {mg : Str → Option Value} {base : Heap} {N : List Str} {qual : Str} {scope : Scope} {f : Addr} {cd : Value} {A : Around} {outer : List Env} {s : Shared} {H : Hp} {E : XK} {CX : CXT} {bb : Bool}
/-- the state behind the refused call, the exception landed in this frame -/
theorem landed {pins : List (Addr × Obj)} {σ : St} {H1 H' : Hp} {s1 s2 : Shared} {ea T C : Addr} {a0 : Value} {h' : Heap} {xe : Value → Shared → Prop} {pn : List (Addr × Obj)}
    (I : Inv (trX (cxOf CX P w K mg base N qual scope f cd A outer s H E) xe pn) pins σ H1 s1) (os : s2.os = s1.os) (bare : AllBare s2.gens) (un : Un (frs (cxOf CX P w K mg base N qual scope f cd A outer s H E).stack) [] H1 H' s1.heap s2.heap) (hok : HOk P w H' s2.heap) (hea : H' ea = none) (hTH : H' T = none) (nea : s1.heap.get? ea = none) (nT : s1.heap.get? T = none)
    (fl : Heap.FlyingW (PySem.W.hideAll s2.heap (ea :: T :: frs (cxOf CX P w K mg base N qual scope f cd A outer s H E).stack)) (cxOf CX P w K mg base N qual scope f cd A outer s H E).stack ea (.ref C) a0 h') (up : s2.heap.UpToSlots h') (ff : FX bb ea h') : Inv (trX (cxOf CX P w K mg base N qual scope f cd A outer s H E) xe pn) pins σ (upd H' ea (EOb bb ea C)) { s2 with heap := h' } := by
  obtain ⟨f1, f2, f3, oe, vs, T', oT, ts, he, hc, hd, r⟩ := fl
  have stk := I.stack
  have sfr : ∀ b ∈ frs (cxOf CX P w K mg base N qual scope f cd A outer s H E).stack, H' b = none := fun b hb => by
    obtain ⟨_, o, ho, _⟩ := stk.mem hb
    exact un.free b o ho (I.stkFree b hb) (by simp)
  have kp : ∀ b o, b ∉ (ea :: T :: frs (cxOf CX P w K mg base N qual scope f cd A outer s H E).stack) → s2.heap.get? b = some o → h'.get? b = some o := fun b o hb e => f1 b o (PySem.W.hideAll_get _ e hb)
  have trk : ∀ b u, H' b = some u → b ∉ (ea :: T :: frs (cxOf CX P w K mg base N qual scope f cd A outer s H E).stack) := fun b u e hb => by
    rcases List.mem_cons.mp hb with z | hb
    · rw [z, hea] at e; cases e
    · rcases List.mem_cons.mp hb with z | hb
      · rw [z, hTH] at e; cases e
      · rw [sfr b hb] at e; cases e
  have ne1 : ∀ b o, s1.heap.get? b = some o → b ≠ ea := fun b o e z => by rw [z, nea] at e; cases e
  have ne2 : ∀ b o, s1.heap.get? b = some o → b ≠ T := fun b o e z => by rw [z, nT] at e; cases e
  have uo : ∀ b, b ≠ ea → upd H' ea (EOb bb ea C) b = H' b := fun b hb => upd_ne hb
  have ue : ∀ b u, H1 b = some u → b ≠ ea := fun b u e => by
    obtain ⟨o, ho⟩ := (I.hok b u e).there
    exact ne1 b o ho
  refine I.call' (s' := { s2 with heap := h' }) (ch := []) os ⟨fun b o e n hb _ => ?_, fun b o e n hb _ => ?_, fun b o e n _ => ?_, fun b o e _ => ?_, fun b xs e => ?_, fun b o u e => ?_, fun b ps e => ?_⟩ (fun b u e => ?_) bare fun b hb => by simp at hb
  · refine kp b o ?_ (un.keep b o e n hb (by simp))
    intro z
    rcases List.mem_cons.mp z with z | z
    · exact ne1 b o e z
    · rcases List.mem_cons.mp z with z | z
      · exact ne2 b o e z
      · exact hb z
  · obtain ⟨sl, e2⟩ := un.slot b o e n hb (by simp)
    obtain ⟨_, o', ho', hnf⟩ := stk.mem hb
    have eo : o = o' := Option.some.inj (e.symm.trans ho')
    subst eo
    obtain ⟨sl', e3⟩ := up b _ e2 (fun ws z => hnf ws z)
    exact ⟨sl', e3⟩
  · rw [uo b (ne1 b o e)]; exact un.free b o e n (by simp)
  · obtain ⟨o', e2⟩ := un.there b o e (by simp)
    by_cases hb : b ∈ frs (cxOf CX P w K mg base N qual scope f cd A outer s H E).stack
    · obtain ⟨_, o4, ho4, hnf⟩ := f3.mem hb
      exact ⟨o4, ho4⟩
    · exact ⟨o', kp b o' (fun z => by
        rcases List.mem_cons.mp z with z | z
        · exact ne1 b o e z
        · rcases List.mem_cons.mp z with z | z
          · exact ne2 b o e z
          · exact hb z) e2⟩
  · rw [uo b (ue b _ e)]; exact un.tups b xs e
  · rw [uo b (ue b _ e)]; exact un.frzs b o u e
  · obtain ⟨more, z⟩ := un.tbls b ps e
    exact ⟨more, by rw [uo b (ue b _ e)]; exact z⟩
  · by_cases hb : b = ea
    · subst hb
      rw [upd_same] at e
      cases e
      exact ⟨⟨⟨oe, he, hc.1⟩, ff⟩, ⟨oe, he⟩, fun h1 h2 ⟨⟨o, z1, z2⟩, y⟩ k => ⟨⟨o, k o z1, z2⟩, fun x => let ⟨o2, ws, y1, y2, y3⟩ := y x; ⟨o2, ws, k o2 y1, y2, y3⟩⟩⟩
    · rw [uo b hb] at e
      refine (hok b u e).stay (fun c v hc q => kp c v ?_ q) (fun c q => ?_) fun c x q => ?_
      · rcases hc with z | z
        · rw [z]; exact trk b u e
        · exact trk c _ z
      · rw [uo c (fun z => by rw [z, hea] at q; cases q)]; exact q
      · rw [uo c (fun z => by rw [z, hea] at q; cases q)]; exact q
theorem ps_tryR {x n : Str} {i : Nat} {CR : Addr} {body suite : List Stmt} {b₀ : Stmt} {np hpos pos : Pos} {tb : XK → TS} {ts : TS} (hN : (cxOf CX P w K mg base N qual scope f cd A outer s H E).N.Nodup) (hi : (cxOf CX P w K mg base N qual scope f cd A outer s H E).N[i]? = some n) (hl : (cxOf CX P w K mg base N qual scope f cd A outer s H E).env.kindOf n = some .local)
    (Z : Exc K mg x CR) (hg : Gl (cxOf CX P w K mg base N qual scope f cd A outer s H E) x) (hb : ∀ xe pn E', Passes (CXb bb P w) (trX (cxOf CX P w K mg base N qual scope f cd A outer s H E) xe pn) E' → PSs (trX (cxOf CX P w K mg base N qual scope f cd A outer s H E) xe pn) body (tb E'))
    (hs : ∀ ea, PSs (mkX (cxOf CX P w K mg base N qual scope f cd A outer s H E) ea) (b₀ :: suite) ts) (hd : (x == ("__debug__" : Str)) = false := by decide) :
    PS (cxOf CX P w K mg base N qual scope f cd A outer s H E) (.Try body [.ExceptHandler (some (.Name x np)) (some n) (b₀ :: suite) hpos] [] [] pos) (tTry bb i (fun C => subIn K (.ref C) (.ref CR) = some true) ts tb) := by
  intro pins s0 σ H0 D I q
  refine wpAny_Try_except ?_
  refine wpAny_mono (hb (fun e s₁ => wpAny (model P w) (cxOf CX P w K mg base N qual scope f cd A outer s H E).A (noteFrame e (cxOf CX P w K mg base N qual scope f cd A outer s H E).env) (fun _ s₂ => wpAny (model P w) (cxOf CX P w K mg base N qual scope f cd A outer s H E).A (setFlight e none) (fun _ s₃ => wpAny (model P w) (cxOf CX P w K mg base N qual scope f cd A outer s H E).A (handleBy e (cxOf CX P w K mg base N qual scope f cd A outer s H E).env [.ExceptHandler (some (.Name x np)) (some n) (b₀ :: suite) hpos]) (SP (cxOf CX P w K mg base N qual scope f cd A outer s H E) pins D) (cxOf CX P w K mg base N qual scope f cd A outer s H E).xe s₃) (cxOf CX P w K mg base N qual scope f cd A outer s H E).xe s₂) (cxOf CX P w K mg base N qual scope f cd A outer s H E).xe s₁) ((cxOf CX P w K mg base N qual scope f cd A outer s H E).pn ++ pins)
    _ ?_ [] s0 σ H0 D (inv_tr I) q) (fun fl s1 hh => ?_) fun _ _ z => z
  · intro pins1 σ1 H1 s1 e s2 I1 c
    obtain ⟨ea, cls, T, H', rfl, os, bare, un, hok, ⟨a0, oe, vs, oT, ts', he, hc, hd', h1, hTe, hT, hdT, h3⟩, hea, hTH, nea, nT, ff, ea2, C, eae, rfl, hsub, kq⟩ := c
    cases eae
    have stk := I1.stack
    have sfr : ∀ b ∈ frs (cxOf CX P w K mg base N qual scope f cd A outer s H E).stack, b ∈ (ea :: T :: frs (cxOf CX P w K mg base N qual scope f cd A outer s H E).stack) := fun b hb => List.mem_cons_of_mem _ (List.mem_cons_of_mem _ hb)
    have stk2 : s2.heap.FunFrames base (cxOf CX P w K mg base N qual scope f cd A outer s H E).stack := (I1.call' (s' := s2) (ch := []) os un hok bare fun b hb => by simp at hb).stack
    have land : ∀ h', Heap.FlyingW (PySem.W.hideAll s2.heap (ea :: T :: frs (cxOf CX P w K mg base N qual scope f cd A outer s H E).stack)) (cxOf CX P w K mg base N qual scope f cd A outer s H E).stack ea (.ref C) a0 h' → s2.heap.UpToSlots h' → FX bb ea h' → Inv (cxOf CX P w K mg base N qual scope f cd A outer s H E) pins σ1 (upd H' ea (EOb bb ea C)) { s2 with heap := h' } := fun h' fl up ff' =>
      tr_inv I.ok (landed I1 os bare un hok hea hTH nea nT fl up ff')
    refine wpAny_mono (kp_any (kp_imp kp_note) (wpAny_looks_onW (Q := fun _ t => ∃ h4, t = { s2 with heap := h4 } ∧ Heap.HeldW (PySem.W.hideAll s2.heap (ea :: T :: frs (cxOf CX P w K mg base N qual scope f cd A outer s H E).stack)) (cxOf CX P w K mg base N qual scope f cd A outer s H E).stack ea (.ref C) a0 (cxOf CX P w K mg base N qual scope f cd A outer s H E).env.locals h4 ∧ s2.heap.UpToSlots h4) (base := PySem.W.hideAll s2.heap (ea :: T :: frs (cxOf CX P w K mg base N qual scope f cd A outer s H E).stack)) (L := (cxOf CX P w K mg base N qual scope f cd A outer s H E).env.locals) (cls := .ref C) (a0 := a0) I.ok.frames rfl ?_ fun h4 held sm4 => ⟨h4, rfl, held, sm4⟩) ff) (fun _ t ⟨⟨h4, e4, held, sm4⟩, ff4⟩ => ?_) fun _ _ z => z.1
    · exact ⟨fun b o e => PySem.W.of_hideAll _ e, PySem.W.hideAll_none _ (by simp), hidF sfr stk2, oe, vs, T, oT, ts', he, hc, hd', h1, PySem.W.hideAll_none _ (by simp), hTe, hT, hdT, h3⟩
    subst e4
    refine wpAny_mono (kp_any (kp_imp kp_setFlight) (wpAny_landsW (Q := fun _ t => ∃ h5, t = { s2 with heap := h5 } ∧ Heap.FlyingW (PySem.W.hideAll s2.heap (ea :: T :: frs (cxOf CX P w K mg base N qual scope f cd A outer s H E).stack)) (cxOf CX P w K mg base N qual scope f cd A outer s H E).stack ea (.ref C) a0 h5 ∧ h4.UpToSlots h5) held fun h5 fl5 sm5 => ⟨h5, rfl, fl5, sm5⟩) ff4) (fun _ t ⟨⟨h5, e5, fl5, sm5⟩, ff5⟩ => ?_) fun _ _ z => z.1
    subst e5
    have sm25 := sm4.trans sm5
    have J5 := land h5 fl5 sm25 ff5
    refine wpAny_handleBy_cons (codeAny_handlers_test (ld_glob (X := mkX (cxOf CX P w K mg base N qual scope f cd A outer s H E) ea) (inv_mk J5) hg Z.m ?_ hd)) (by intro q; cases q)
    obtain ⟨bmB, newId, hx, B, initId, FB⟩ := Z.cl
    obtain ⟨tl, N', nm, q', bs, hdct, sn, sub, ab, col, dd, k0, k1, k2, k3, k5, mN, hC, hN', hni, TT⟩ := own_obj (h := h5) J5.kIn hx
    obtain ⟨ob, hob, hobc⟩ := fl5.there
    refine xm_sub (K := K) J5.kIn hC (TT.hasType FB.hasBase) hob hobc hsub (codeAny_handlers_suite_as ?_)
    refine wpAny_mono (kp_any (kp_imp kp_setFlight) (lands_againW (Q := fun _ t => ∃ h6, t = { s2 with heap := h6 } ∧ Heap.FlyingW (PySem.W.hideAll s2.heap (ea :: T :: frs (cxOf CX P w K mg base N qual scope f cd A outer s H E).stack)) (cxOf CX P w K mg base N qual scope f cd A outer s H E).stack ea (.ref C) a0 h6 ∧ h5.UpToSlots h6) fl5 fun h6 fl6 sm6 => ⟨h6, rfl, fl6, sm6⟩) ff5) (fun _ t ⟨⟨h6, e6, fl6, sm6⟩, ff6⟩ => ?_) fun _ _ z => z.1
    subst e6
    have J6 := land h6 fl6 (sm25.trans sm6) ff6
    refine store_ok (X := (cxOf CX P w K mg base N qual scope f cd A outer s H E)) (v := .ref ea) J6 hN hi (.inl hl) rfl (fun s7 J7 => ?_) (.inr hl)
    have hli : i < σ1.length := by rw [I1.len]; exact (List.getElem?_eq_some_iff.mp hi).1
    refine wpAny_mono (hs ea pins s7 _ _ _ (inv_mk J7) (kq _ (by rw [List.getElem?_set_self hli]))) (fun fl s8 h8 => ?_) fun _ _ z => z.elim
    cases fl with
    | ret u =>
      obtain ⟨v, σ8, H8, J8, r8, q8⟩ := h8
      obtain ⟨m8, ns8, _⟩ := J8.loc
      refine wpAny_nameGoes hl ns8 (by rw [I.ok.kind]; rfl) fun h9 m9 ns9 sb9 => ?_
      exact ⟨v, _, H8, (mk_inv I.ok J8).name_goes ns9 sb9, r8, q8⟩
    | next => obtain ⟨_, _, _, z⟩ := h8; exact z.elim
    | brk => obtain ⟨_, _, _, z⟩ := h8; exact z.elim
    | cont => obtain ⟨_, _, _, z⟩ := h8; exact z.elim
  · cases fl with
    | next =>
      obtain ⟨σ', H', I', d⟩ := hh
      exact pss_nil pins s1 σ' H' D (tr_inv I.ok I') d
    | brk => obtain ⟨σ', H', I', d⟩ := hh; exact ⟨σ', H', tr_inv I.ok I', d⟩
    | cont => obtain ⟨σ', H', I', d⟩ := hh; exact ⟨σ', H', tr_inv I.ok I', d⟩
    | ret u => obtain ⟨v, σ', H', I', r, d⟩ := hh; exact ⟨v, σ', H', tr_inv I.ok I', r, d⟩
end
end L2

set_option Elab.async false
set_option linter.all false
set_option maxRecDepth 100000
set_option maxHeartbeats 4000000
/-! Exceptions of own classes: isinstance, lists of bools, calls within an except suite. -/
namespace L2
open PySem PySem.Spec PyProof.Rows PySem.W
/-- a class as a value -/
def cV : V → Value
  | .ref D => .ref D
  | .ty T => .type T
  | _ => .none
/-- isinstance(e, c) of an exception that is held -/
def rIsX (K : PySem.W.Frag) : List V → Hp → VK → Prop := fun xs H Q => ∃ ea c C b, xs = [.ref ea, c] ∧ (∃ bb, H ea = some (EOb bb ea C)) ∧ ExcK K C ∧ kitOne K (.ref C) (cV c) = some b ∧ Q (.bl b) H
section
variable {X : Cx} {H : Hp} {Q : VK} {K : PySem.W.Frag}
theorem call_isX (K : PySem.W.Frag) (hK : X.K = K) : CallR X (.builtin "isinstance") (rIsX K) := by
  subst hK
  intro pins s σ H xs us Q I r h
  obtain ⟨ea, c, C, b, rfl, hE, Z, e, q⟩ := h
  obtain ⟨u, w', rfl, r1, r2⟩ := vals2 r
  cases r1
  obtain ⟨bb, hE⟩ := hE
  have p : ExcIs ea C s.heap := (show ObjOk X.prog X.w H s.heap ea (EOb bb ea C) from I.hok ea _ hE).1.1
  have hw : w' = cV c := by
    cases c with
    | ref D => exact r2
    | ty T => exact r2
    | _ =>
      exfalso
      unfold kitOne cV at e
      rw [if_neg (by simp)] at e
      cases e
  subst hw
  exact kia_one (kitx_exc Z) I.kIn p e (fun z => nomatch z) fun tk => ⟨.bl b, H, I.tok tk, rfl, q⟩
theorem flat_bls (bs : List Bool) : (bs.map V.bl).all flatV = true := by
  rw [List.all_eq_true]
  intro v hv
  obtain ⟨l, _, rfl⟩ := List.mem_map.mp hv
  rfl
theorem countP_bls : ∀ {bs : List Bool} {us : List Value}, Vals (bs.map V.bl) us → us.countP (eqU (.bl true)) = bs.countP id
  | [], _, .nil => rfl
  | b :: bs, _, .cons r t => by
    rw [List.countP_cons, List.countP_cons, countP_bls t, eqU_of r rfl]
    cases b <;> rfl
def rCntB (K : PySem.W.Frag) : V → List V → Hp → VK → Prop := fun x vs H Q => ∃ p, ∃ bs : List Bool, x = .ref p ∧ vs = [.bl true] ∧ SqL K H p (bs.map V.bl) ∧ Q (.int (bs.countP id : Nat)) H
theorem mt_countB (K : PySem.W.Frag) (hK : X.K = K) : MtR X "list.count" (rCntB K) := by
  subst hK
  intro pins s σ H x xs v us Q I rx rs h
  obtain ⟨p, bs, rfl, rfl, hq, q⟩ := h
  cases rx
  obtain ⟨u, rfl, ru⟩ := vals1 rs
  obtain ⟨its, rv, pl, hz⟩ := I.list hq
  obtain ⟨o, ho, hc, n, hd⟩ := pl.isList
  obtain ⟨oc, odd, odt, osl⟩ := o
  simp only at hc hd
  subst hc; subst hd
  refine call_meets PySem.F.slot_list_count ⟨_, ho, rfl⟩ PySem.F.entry_list_count (PySem.F.args_list_count_2 _ _) (SeqAt.list_countAt p its.toArray n odd osl u (eqU (.bl true))) ⟨ho, fun y hy => mem_eqAt ru rfl rv (flat_bls bs) y (by simpa using hy), ?_⟩
  rw [show its.toArray.toList = its from rfl, countP_bls rv]
  exact ⟨.int _, H, I.tok _, ⟨_, rfl⟩, q⟩
def rIdxB (K : PySem.W.Frag) : V → List V → Hp → VK → Prop := fun x vs H Q => ∃ p j, ∃ bs : List Bool, x = .ref p ∧ vs = [.bl true] ∧ SqL K H p (bs.map V.bl) ∧ bs[j]? = some true ∧ (∀ m, m < j → bs[m]? = some false) ∧ Q (.int (j : Nat)) H
theorem mt_indexB (K : PySem.W.Frag) (hK : X.K = K) : MtR X "list.index" (rIdxB K) := by
  subst hK
  intro pins s σ H x xs v us Q I rx rs h
  obtain ⟨p, j, bs, rfl, rfl, hq, hj, hlt, q⟩ := h
  cases rx
  obtain ⟨u, rfl, ru⟩ := vals1 rs
  obtain ⟨its, rv, pl, hz⟩ := I.list hq
  have hl := rv.length
  rw [List.length_map] at hl
  rw [List.length_map, sizeLine_eq] at hz
  have hjl := (List.getElem?_eq_some_iff.mp hj).1
  obtain ⟨o, ho, hc, n, hd⟩ := pl.isList
  obtain ⟨oc, odd, odt, osl⟩ := o
  simp only at hc hd
  subst hc; subst hd
  have item : ∀ m b (h1 : m < its.toArray.size), bs[m]? = some b → eqU (.bl true) its.toArray[m] = (b == true) := fun m b h1 h2 => by
    have h3 : m < its.length := by rw [List.size_toArray] at h1; exact h1
    have e1 : its[m]? = some its.toArray[m] := by rw [List.getElem?_eq_getElem h3]; rfl
    obtain ⟨x, hx, r⟩ := vals_at rv e1
    rw [List.getElem?_map, h2] at hx
    cases hx
    rw [eqU_of r rfl]; rfl
  refine call_meets PySem.F.slot_list_index ⟨_, ho, rfl⟩ PySem.F.entry_list_index (PySem.F.args_list_index_2 _ _)
    (SeqAt.list_indexAt p its.toArray n odd osl u (eqU (.bl true)) j (by rw [List.size_toArray]; omega) (by omega) ?_ ?_) ⟨ho, fun y hy => mem_eqAt ru rfl rv (flat_bls bs) y (by simpa using hy), ?_⟩
  · rw [item _ _ _ hj]; rfl
  · intro m h1 h2
    rw [item m _ h1 (hlt m h2)]; rfl
  · exact ⟨.int _, H, I.tok _, ⟨_, rfl⟩, q⟩
end
/-! ### calls within an except suite -/
structure RoomM (k : Nat) (A : Around) : Prop where
  dp : A.depth + 3 * k + 5 < recursionLimit
  un : A.units + 16 * k + 200 < cLine
theorem Room.toM {k : Nat} {A : Around} (r : Room k A) (x : Option Value) : RoomM k (A.mark x) := ⟨r.dp, r.un⟩
theorem RoomM.deeper {k : Nat} {A : Around} (r : RoomM (k + 1) A) (env : Env) : RoomM k (A.deeper env) :=
  ⟨by have := r.dp; show A.depth + 1 + 3 * k + 5 < _; omega, by have := r.un; show A.units + 3 + 16 * k + 200 < _; omega⟩
theorem RoomM.mono {j k : Nat} {A : Around} (r : RoomM k A) (h : j ≤ k) : RoomM j A := ⟨by have := r.dp; omega, by have := r.un; omega⟩
structure FnOkM (P : Program) (w : World) (K : PySem.W.Frag) (mg : Str → Option Value) (base : Heap) (k : Nat) (f : Addr) (fd : FuncData) (ps : List Str) (sp : Sp) : Prop where
  len : ∀ vs H Q E, sp vs H Q E → vs.length = ps.length
  run : ∀ (A : Around) (outer : List Env) (s : Shared) (H : Hp) (args : Args) (us : List Value) (vs : List V) (Q : VK) (E : XK), RoomM k A → Env0 P w K mg base A outer s H → BindsTo s fd args (ps.zip us) → Vals vs us → sp vs H Q E →
    codeAny (model P w) A (.call (.ref f) args) (CR CX0 outer P w H s Q E) s
/-- the context of a def that is called within an except suite -/
def cxM (P : Program) (w : World) (K : PySem.W.Frag) (mg : Str → Option Value) (base : Heap) (N : List Str) (qual : Str) (scope : Scope) (f : Addr) (cd : Value) (A : Around) (outer : List Env) (s : Shared) (H : Hp) : Cx :=
  { cxOf CX0 P w K mg base N qual scope f cd A outer s H E0 with calm := false, xe := fun _ _ => False }
theorem inv_startM {P : Program} {w : World} {K : PySem.W.Frag} {mg : Str → Option Value} {base : Heap} {N ps : List Str} {qual : Str} {scope : Scope} {f : Addr} {cd : Value} {A : Around} {outer : List Env} {s s1 : Shared} {H : Hp} {us : List Value} {vs : List V}
    (S : FnScope N ps scope) (e0 : Env0 P w K mg base A outer s H) (hl : vs.length = ps.length) (r : Vals vs us)
    (x : InCallC s s.heap.objs.size (bindL (envOfC qual scope s.heap.objs.size f cd).kindOf (ps.zip us) fun _ => none) (cellsFrom (s.heap.objs.size + 1) scope.names []) (bindC (envOfC qual scope s.heap.objs.size f cd).kindOf (ps.zip us) fun _ => none) s1) :
    Inv (cxM P w K mg base N qual scope f cd A outer s H) [] (start N vs) H s1 := by
  have e1 : Env0 P w K mg base { A with handled := none } outer s H := ⟨e0.frames, e0.mod, e0.bs, e0.bsz, e0.funs, e0.frf, e0.hok, e0.bare⟩
  have I : Inv (cxOf CX0 P w K mg base N qual scope f cd { A with handled := none } outer s H E0) [] (start N vs) H s1 := inv_start S rfl e1 hl r x
  exact ⟨⟨I.ok.mod, I.ok.kind, I.ok.glob, I.ok.blt, I.ok.above, I.ok.inj, I.ok.has, I.ok.cab, (fun z => nomatch z), Around.frames_deeper e0.frames, I.ok.stk, I.ok.exf, I.ok.bs, I.ok.bsz, I.ok.noex, I.ok.exfs, I.ok.funs, I.ok.frf⟩, I.os, I.bare, I.base, I.loc, I.cell, I.free, I.freeC, I.pin, I.hok, I.len⟩
theorem fn_ofM {P : Program} {w : World} {K : PySem.W.Frag} {mg : Str → Option Value} {base : Heap} {k : Nat} {f : Addr} {name qual : Str} {params : Arguments} {body : List Stmt} {scope : Scope} {dV kV doc pm cdv ct oc : Value} {an od : Option Addr}
    {osl : Array (Option Value)} {N ps : List Str} {sp : Sp} (lk : K.lookup f = some ⟨oc, od, .func (PySem.W.fnOf name qual params body scope dV kV doc pm an cdv ct), osl⟩) (hcd : PySem.W.codeIn K cdv qual = true) (S : FnScope N ps scope)
    (len : ∀ vs H Q E, sp vs H Q E → vs.length = ps.length)
    (hbody : ∀ (A : Around) (outer : List Env) (s : Shared) (H : Hp) (vs : List V) (Q : VK) (E : XK), RoomM k (A.deeper (envOfC qual scope s.heap.objs.size f cdv)) → sp vs H Q E →
      ∃ t, PSs (cxM P w K mg base N qual scope f cdv A outer s H) body t ∧ t { nx := fun _ H' => Q .non H', rt := Q } (start N vs) H) :
    FnOkM P w K mg base (k + 1) f (PySem.W.fnOf name qual params body scope dV kV doc pm an cdv ct) ps sp := by
  refine ⟨len, fun A outer s H args us vs Q E hr e0 hb r hsp => ?_⟩
  have hl := len _ _ _ _ hsp
  have KX : K.In s.heap := e0.mod.kin.keeps fun b o e => (e0.bs b o e).1
  have lim : s.heap.NoLimit := e0.mod.nolimit.keeps fun b o e => (e0.bs b o e).1
  have hkind : ∀ y ∈ ps.zip us, scope.names.lookup y.1 = some .local ∨ (scope.names.lookup y.1 = some .cell ∧ ((cellsFrom (s.heap.objs.size + 1) scope.names []).lookup y.1).isSome = true) := fun ⟨n, v⟩ hy => by
    rcases S.par n (List.of_mem_zip hy).1 with q | q
    · exact .inl q
    · exact .inr ⟨q, PySem.W.cellsFrom_some _ _ _ (.inl q)⟩
  refine codeAny_call_function (by have := hr.dp; omega) (KX _ _ lk) rfl S.co S.gen rfl (PySem.W.codeRec_of KX hcd) (hb _ _ _ _ ?_)
  refine wpAny_newFunctionEnv_cells S.kind hkind fun env he s1 x => ?_
  subst he
  refine ⟨lim.keeps x.toInCall.keep, codeAny_func ?_⟩
  obtain ⟨t, ht, hq⟩ := hbody A outer s H vs Q E (hr.deeper _) hsp
  have I : Inv (cxM P w K mg base N qual scope f cdv A outer s H) [] (start N vs) H s1 := inv_startM S e0 hl r x
  refine wpAny_mono (ht [] s1 (start N vs) H _ I hq) (fun fl s' hs => ?_) fun e s' hs => hs.elim
  have fin : ∀ {σ' : St} {H' : Hp} {v : V} {u : Value}, Inv (cxM P w K mg base N qual scope f cdv A outer s H) [] σ' H' s' → RelV v u → Q v H' → CE outer P w H s Q u s' :=
    fun {σ' H' v u} J rv q => ⟨v, H', J.os, J.bare, J.base, J.hok, rv, q⟩
  cases fl with
  | ret u =>
    obtain ⟨v, σ', H', J, rv, q⟩ := hs
    exact fin J rv q
  | next =>
    obtain ⟨σ', H', J, q⟩ := hs
    exact fin (v := V.non) (u := Value.none) J rfl q
  | brk =>
    obtain ⟨_, _, _, q⟩ := hs
    exact False.elim q
  | cont =>
    obtain ⟨_, _, _, q⟩ := hs
    exact False.elim q
section
variable {P : Program} {w : World} {K : PySem.W.Frag} {mg : Str → Option Value} {base : Heap}
theorem Fun.okM {x qual : Str} {st : Stmt} {f : Addr} {fd : FuncData} {N ps : List Str} {k : Nat} {sp : Sp} (F : Fun K x qual st f fd) (S : FnScope N ps (defScope st)) (len : ∀ vs H Q E, sp vs H Q E → vs.length = ps.length)
    (hbody : ∀ (cdv : Value) (A : Around) (outer : List Env) (s : Shared) (H : Hp) (vs : List V) (Q : VK) (E : XK), RoomM k (A.deeper (envOfC qual (defScope st) s.heap.objs.size f cdv)) → sp vs H Q E →
      ∃ t, PSs (cxM P w K mg base N qual (defScope st) f cdv A outer s H) (defBody st) t ∧ t { nx := fun _ H' => Q .non H', rt := Q } (start N vs) H) : FnOkM P w K mg base (k + 1) f fd ps sp := by
  obtain ⟨oc, od, kV, doc, pm, an, cdv, ct, osl, rfl, lk, hcd⟩ := F.ex
  exact fn_ofM lk hcd S len fun A outer s H vs Q E hr hsp => hbody cdv A outer s H vs Q E hr hsp
structure DfM (P : Program) (w : World) (K : PySem.W.Frag) (mg : Str → Option Value) (base : Heap) (x : Str) (k : Nat) (f : Addr) (fd : FuncData) (ps : List Str) (sp : Sp) : Prop where
  ok : FnOkM P w K mg base k f fd ps sp
  m : mg x = some (.ref f)
  kp : PySem.W.keepIn K (.ref f) = true
  b : Binds K fd ps []
end
theorem pe_callM {X : Cx} {x : Str} {k k' : Nat} {f : Addr} {fd : FuncData} {ps : List Str} {sp : Sp} {p pos : Pos} {e : Expr} {es : List Expr} {t : TA} (D : DfM X.prog X.w X.K X.mg X.base x k f fd ps sp) (hr : RoomM k' X.A) (hg : Gl X x) (ha : PA X (e :: es) t) (hk : k ≤ k')
    (hdb : (x == ("__debug__" : Str)) = false) (he : starEach (e :: es) X.env = (false, eval e X.env) :: starEach es X.env) (hpl : (backTo pos (starEach es X.env)).any (·.1) = false) :
    PE X (.Call (.Name x p) (e :: es) [] pos) (tCall sp [] E0 t) := by
  intro pins s σ H Q I h
  refine wpAny_Call_Name_kw (ld_glob I hg D.m ?_ hdb)
  refine PySem.W.callWith_K (h₀ := X.base) I.ok.mod.kin D.kp (thn (ha pos pins s σ H _ I h) fun us s1 ⟨vs, H1, I1, r, q⟩ => ⟨I1.kIn, ?_⟩) he hpl
  have q' : sp vs H1 Q E0 := by have z : sp (vs ++ []) H1 Q E0 := q; rw [List.append_nil] at z; exact z
  have hl : us.length = ps.length := by rw [← r.length]; exact D.ok.len _ _ _ _ q'
  refine wpAny_call (codeAny_mono (D.ok.run X.A X.stack s1 H1 ⟨us, []⟩ us vs Q E0 (hr.mono hk) I1.env0 (by have := D.b s1 us I1.kIn (by rw [List.append_nil]; exact hl); rw [List.append_nil] at this; exact this) r q') fun r s' hq => ?_)
  cases r with
  | error e => exact hq.elim
  | ok fl =>
    cases fl with
    | ret u => exact I1.after hq
    | next => exact False.elim hq
    | brk => exact False.elim hq
    | cont => exact False.elim hq
/-- two promises of one def -/
theorem FnOk.or {P : Program} {w : World} {K : PySem.W.Frag} {mg : Str → Option Value} {base : Heap} {CX : CXT} {k : Nat} {f : Addr} {fd : FuncData} {ps : List Str} {sp sp' : Sp} (F : FnOk P w K mg base CX k f fd ps sp) (G : FnOk P w K mg base CX k f fd ps sp') :
    FnOk P w K mg base CX k f fd ps (fun vs H Q E => sp vs H Q E ∨ sp' vs H Q E) :=
  ⟨fun vs H Q E h => h.elim (F.len vs H Q E) (G.len vs H Q E), fun A outer s H args us vs Q E hr he hb hv hs => hs.elim (F.run A outer s H args us vs Q E hr he hb hv) (G.run A outer s H args us vs Q E hr he hb hv)⟩
end L2

set_option Elab.async false
set_option linter.all false
set_option maxRecDepth 100000
set_option maxHeartbeats 4000000
/-! The refusals' classes; defs that refuse. -/
namespace L2
open PySem PySem.Spec PyProof.Rows PySem.W
def bmV : List Value := [.type "ValueError", .type "Exception", .type "BaseException", .type "object"]
def x1In (K : PySem.W.Frag) (cR c : Addr) : Bool := (clsIn K c).isSome && findIn K (.ref c) "__getattribute__" == some (some (.builtin "BaseException.__getattribute__")) && findIn K (.ref c) "__getattr__" == some none
  && findIn K (.ref c) "__class__" == some (some (.builtin "object.__class__")) && subIn K (.ref c) (.type "BaseException") == some true && subIn K (.ref c) (.type "object") == some true
  && subIn K (.ref c) (.ref cR) == some true && kitOne K (.ref c) (.type "ValueError") == some true && excIn K c bmV "ValueError.__new__"
def xcIn (K : PySem.W.Frag) (cs : List Addr) (cR : Addr) : Bool := cs.all (x1In K cR) && excIn K cR bmV "ValueError.__new__" && (cs.zipIdx.all fun x => cs.zipIdx.all fun y => kitOne K (.ref x.1) (.ref y.1) == some (x.2 == y.2))
/-- the classes: NoDie, NoWord, NoRace, NoRow, Over, TooMany, NoNote; RaceError -/
structure Xc (K : PySem.W.Frag) (mg : Str → Option Value) (c : Nat → Addr) : Prop where
  m0 : mg "NoDie" = some (.ref (c 0))
  m1 : mg "NoWord" = some (.ref (c 1))
  m2 : mg "NoRace" = some (.ref (c 2))
  m3 : mg "NoRow" = some (.ref (c 3))
  m4 : mg "Over" = some (.ref (c 4))
  m5 : mg "TooMany" = some (.ref (c 5))
  m6 : mg "NoNote" = some (.ref (c 6))
  m7 : mg "RaceError" = some (.ref (c 7))
  ex : ∀ j, j < 8 → excIn K (c j) bmV "ValueError.__new__" = true
  k : ∀ j, j < 7 → ExcK K (c j)
  sb : ∀ j, j < 7 → subIn K (.ref (c j)) (.ref (c 7)) = some true
  iv : ∀ j, j < 7 → kitOne K (.ref (c j)) (.type "ValueError") = some true
  ix : ∀ i j, i < 7 → j < 7 → kitOne K (.ref (c i)) (.ref (c j)) = some (i == j)
theorem Xc.e {K : PySem.W.Frag} {mg : Str → Option Value} {c : Nat → Addr} (Y : Xc K mg c) (j : Nat) (hj : j < 8) {x : Str} (h : mg x = some (.ref (c j))) : Exc K mg x (c j) :=
  ⟨h, bmV, _, Y.ex j hj, _, _, PySem.F.excBase_ValueError⟩
theorem xc_of {K : PySem.W.Frag} {mg : Str → Option Value} {a0 a1 a2 a3 a4 a5 a6 a7 : Addr} (h : xcIn K [a0, a1, a2, a3, a4, a5, a6] a7 = true) (m0 : mg "NoDie" = some (.ref a0)) (m1 : mg "NoWord" = some (.ref a1)) (m2 : mg "NoRace" = some (.ref a2)) (m3 : mg "NoRow" = some (.ref a3))
    (m4 : mg "Over" = some (.ref a4)) (m5 : mg "TooMany" = some (.ref a5)) (m6 : mg "NoNote" = some (.ref a6)) (m7 : mg "RaceError" = some (.ref a7)) : ∃ c, Xc K mg c := by
  unfold xcIn at h
  rw [Bool.and_eq_true, Bool.and_eq_true] at h
  obtain ⟨⟨h1, h2⟩, h3⟩ := h
  rw [List.all_eq_true] at h1 h3
  let l := [a0, a1, a2, a3, a4, a5, a6]
  have hl : ∀ j, j < 7 → [a0, a1, a2, a3, a4, a5, a6, a7].getD j 0 ∈ l := fun j hj => by
    match j, hj with
    | 0, _ => simp [l]
    | 1, _ => simp [l]
    | 2, _ => simp [l]
    | 3, _ => simp [l]
    | 4, _ => simp [l]
    | 5, _ => simp [l]
    | 6, _ => simp [l]
  have hz : ∀ j, j < 7 → ([a0, a1, a2, a3, a4, a5, a6, a7].getD j 0, j) ∈ l.zipIdx := fun j hj => by
    match j, hj with
    | 0, _ => simp [l]
    | 1, _ => simp [l]
    | 2, _ => simp [l]
    | 3, _ => simp [l]
    | 4, _ => simp [l]
    | 5, _ => simp [l]
    | 6, _ => simp [l]
  have h1' : ∀ j, j < 7 → x1In K a7 ([a0, a1, a2, a3, a4, a5, a6, a7].getD j 0) = true := fun j hj => h1 _ (hl j hj)
  refine ⟨fun j => [a0, a1, a2, a3, a4, a5, a6, a7].getD j 0, m0, m1, m2, m3, m4, m5, m6, m7, fun j hj => ?_, fun j hj => ?_, fun j hj => ?_, fun j hj => ?_, fun i j hi hj => ?_⟩
  · by_cases h7 : j < 7
    · have z := h1' j h7
      unfold x1In at z
      rw [Bool.and_eq_true] at z
      exact z.2
    · obtain rfl : j = 7 := by omega
      exact h2
  all_goals first
    | (have z := h1' j hj
       unfold x1In at z
       simp only [Bool.and_eq_true, beq_iff_eq] at z
       obtain ⟨⟨⟨⟨⟨⟨⟨⟨z1, z2⟩, z3⟩, z4⟩, z5⟩, z6⟩, z7⟩, z8⟩, z9⟩ := z
       first | exact ⟨z1, z2, z3, z4, z5, z6⟩ | exact z7 | exact z8)
    | skip
  have z := h3 _ (hz i hi)
  rw [List.all_eq_true] at z
  exact beq_iff_eq.mp (z _ (hz j hj))
/-- what a refusal is called -/
def kindT (j : Nat) : List Nat := [[100, 105, 101], [119, 111, 114, 100], [114, 97, 99, 101], [114, 111, 119], [111, 118, 101, 114], [109, 97, 110, 121], [110, 111, 116, 101]].getD j []
theorem boot_ValueError : bootBuiltins "ValueError" = some (.type "ValueError") := by decide +kernel
section
variable {P : Program} {w : World} {K : PySem.W.Frag} {mg : Str → Option Value} {base : Heap} {CX : CXT}
theorem Fun.okG {x qual : Str} {st : Stmt} {f : Addr} {fd : FuncData} {N ps : List Str} {k : Nat} {sp : Sp} (F : Fun K x qual st f fd) (S : FnScope N ps (defScope st)) (len : ∀ vs H Q E, sp vs H Q E → vs.length = ps.length)
    (hbody : ∀ (cdv : Value) (A : Around) (outer : List Env) (s : Shared) (H : Hp) (vs : List V) (Q : VK) (E : XK), Room k (A.deeper (envOfC qual (defScope st) s.heap.objs.size f cdv)) → sp vs H Q E →
      ∃ t, PSs (cxOf CX P w K mg base N qual (defScope st) f cdv A outer s H E) (defBody st) t ∧ t { nx := fun _ H' => Q .non H', rt := Q } (start N vs) H) : FnOk P w K mg base CX (k + 1) f fd ps sp := by
  obtain ⟨oc, od, kV, doc, pm, an, cdv, ct, osl, rfl, lk, hcd⟩ := F.ex
  exact fn_of lk hcd S len fun A outer s H vs Q E hr hsp => hbody cdv A outer s H vs Q E hr hsp
end
theorem g_try {b : Bool} {i : Nat} {Sub : Addr → Prop} {ts : TS} {tb : XK → TS} {D : Ends} {σ : St} {H : Hp}
    (h : tb (fun cls a H' => ∃ ea C, a = some ea ∧ cls = .ref C ∧ Sub C ∧ ∀ σ', σ'[i]? = some (some (.ref ea)) → ts { nx := fun _ _ => False, rt := D.rt } σ' (upd H' ea (EOb b ea C))) D σ H) : tTry b i Sub ts tb D σ H := h
section
variable {X : Cx} {H : Hp} {Q : VK} {K : PySem.W.Frag} {mg : Str → Option Value} {c : Nat → Addr}
theorem g_isX {b : Bool} {ea : Addr} {i j : Nat} (Y : Xc K mg c) (h : H ea = some (EOb b ea (c i))) (hi : i < 7) (hj : j < 7) (k : Q (.bl (i == j)) H) : rIsX K [.ref ea, .ref (c j)] H Q := ⟨ea, _, c i, _, rfl, ⟨b, h⟩, Y.k i hi, Y.ix i j hi hj, k⟩
theorem g_isV {b : Bool} {ea : Addr} {i : Nat} (Y : Xc K mg c) (h : H ea = some (EOb b ea (c i))) (hi : i < 7) (k : Q (.bl true) H) : rIsX K [.ref ea, .ty "ValueError"] H Q := ⟨ea, _, c i, _, rfl, ⟨b, h⟩, Y.k i hi, Y.iv i hi, k⟩
end
end L2

set_option Elab.async false
set_option linter.all false
set_option maxRecDepth 100000
set_option maxHeartbeats 4000000
/-! What is refused, and by which class. -/
namespace My
open PySem L2 PySem.Spec PyProof.Rows Wr
/-- no race: the class's number -/
def RaceBad (ns : List Int) (ws : List (List Nat)) (j : Nat) : Prop := (j = 0 ∧ ¬ DieOk ns) ∨ (j = 1 ∧ DieOk ns ∧ (∀ l ∈ ws, l.length ≤ 1000) ∧ ∃ l ∈ ws, ¬ WordOk ns.length l) ∨
  (j = 2 ∧ DieOk ns ∧ (∀ l ∈ ws, WordOk ns.length l) ∧ ws.length ≤ 1000 ∧ (ws.length < 1 ∨ 4 < ws.length ∨ ∃ p, ∃ hp : p < ws.length, ((others ws p).any fun o => within ws[p] o) = true))
theorem RaceBad.lt {ns : List Int} {ws : List (List Nat)} {j : Nat} (h : RaceBad ns ws j) : j < 7 := by
  rcases h with ⟨rfl, _⟩ | ⟨rfl, _⟩ | ⟨rfl, _⟩ <;> decide
/-- the first word that is none -/
theorem first_bad {n : Nat} {ws : List (List Nat)} (h : ∃ l ∈ ws, ¬ WordOk n l) : ∃ i, ∃ hi : i < ws.length, ¬ WordOk n ws[i] ∧ ∀ k (hk : k < i), WordOk n (ws[k]'(Nat.lt_trans hk hi)) := by
  obtain ⟨l, hl, hb⟩ := h
  induction ws with
  | nil => cases hl
  | cons w r ih =>
    by_cases hw : WordOk n w
    · have hr : l ∈ r := by
        rcases List.mem_cons.mp hl with z | z
        · rw [z] at hb; exact absurd hw hb
        · exact z
      obtain ⟨i, hi, a, b⟩ := ih hr
      refine ⟨i + 1, by simpa using hi, by simpa using a, fun k hk => ?_⟩
      cases k with
      | zero => exact hw
      | succ k => exact b k (by omega)
    · exact ⟨0, by simp, by simpa using hw, fun k hk => by omega⟩
end My


set_option Elab.async false
set_option linter.all false
set_option maxRecDepth 100000
set_option maxHeartbeats 4000000
/-! Exceptions of own classes: one raised from another one, within its except suite. -/
namespace L2
open PySem PySem.Spec PyProof.Rows PySem.W
theorem entry_unchain : entryFor table "proto.unchain" = some Builtin.«proto.unchain» := entryFor_of_fast (by kernel_rfl)
section
variable {prog : Program} {w : World} {A : Around} {E : Value → Shared → Prop} {h : Heap} {g : Array GenState} {d : Drawn} {t : Nat} {os : OsState} {e ea C CY : Addr} {K : PySem.W.Frag} {env : Env}
theorem unchain_none {R : Result → Shared → Prop} (f : F2 ea .none h) (hq : R (.ok (.ret .none)) ⟨h, g, d, t, os⟩) :
    codeAny (model prog w) A (.builtin "proto.unchain" ⟨[.ref e, .ref ea, .ref ea, .bool false], []⟩) R ⟨h, g, d, t, os⟩ := by
  obtain ⟨o, vs, ho, hd, h2⟩ := f
  refine codeAny_builtin entry_unchain ?_
  unfold Builtin.«proto.unchain»
  refine wpAny_bind (wpAny_field ho hd h2 ?_)
  rw [if_pos (show (Value.none == Value.none) = true from by decide)]
  repeat (any_goals (first | assumption | wp_step))
variable {nm q : Str} {N : Addr} {bs bm : List Value} {hdct : Bool} {sn : List Str} {sub : List Value} {ab : Bool} {col : Option Bool} {dd : Option Addr} {k0 k1 k2 k3 k5 : Option Value} {newId : String}
theorem from_tail {tp : Addr} {oa : Obj} {Q : Flow → Shared → Prop} (hh : A.handled = some (.ref ea)) (hbase : bm.contains (.type "BaseException") = true) (hne : e ≠ ea)
    (X : K.In h) (hC : h.get? CY = some (excClassObj nm q CY N bs bm hdct sn sub ab col dd k0 k1 k2 k3 k5 newId)) (he : h.get? e = some { cls := .ref CY, data := .fields #[.ref tp, .none, .none, .none, .bool false, .none] })
    (ha : h.get? ea = some oa) (hac : oa.cls = .ref C) (had : ∃ vs, oa.data = .fields vs) (sB : subIn K (.ref C) (.type "BaseException") = some true) (f2 : F2 ea .none h)
    (hE : ∀ h', (∀ b, b ≠ e → h'.get? b = h.get? b) → h'.get? e = some { cls := .ref CY, data := .fields #[.ref tp, .none, .ref ea, .ref ea, .bool true, .none] } → h'.objs.size = h.objs.size → E (.ref e) ⟨h', g, d, t, os⟩) :
    wpAny (model prog w) A (do
      let e' ← holding [.ref ea] (excFromValue (.ref e) "exceptions must derive from BaseException")
      let c ← if (Value.ref ea) == .none then pure .none else holding [e'] (excFromValue (.ref ea) "exception causes must derive from BaseException")
      setField e' 3 c
      setField e' 4 (.bool true)
      let e' ← if ← isType (.ref e) then holding [e'] (raisedFor (.ref e) e') else raisedInstance e'
      setFlight e' none
      (raiseNew e' : Sem Flow)) Q E ⟨h, g, d, t, os⟩ := by
  have hcB : (Value.ref CY :: bm).contains (.type "BaseException") = true := by rw [List.contains_cons, hbase, Bool.or_true]
  obtain ⟨vs, had⟩ := had
  repeat (first | with_reducible refine wpAny_loadPart_at he ?_ | with_reducible refine wpAny_loadPart_at hC ?_ | (with_reducible refine wpAny_isSubtype_exc hC ?_; rw [hcB]) | wp_step)
  rw [hac]
  refine (looks_subIn X sB).at ?_
  rw [if_pos rfl]
  refine wpAny_pure ?_
  dsimp only
  refine wpAny_bind (wpAny_setField he rfl (show 3 < 6 by decide) ?_)
  have e3 := Heap.get?_update_self (Obj.mapFields (·.setIfInBounds 3 (Value.ref ea))) he (Obj.isFreed_of_fields (Obj.data_mapFields rfl _))
  refine wpAny_bind (wpAny_setField e3 (Obj.data_mapFields rfl _) (by simp) ?_)
  have e4 := Heap.get?_update_self (Obj.mapFields (·.setIfInBounds 4 (Value.bool true))) e3 (Obj.isFreed_of_fields (Obj.data_mapFields (Obj.data_mapFields rfl _) _))
  have o4 : ∀ b, b ≠ e → ((h.update e (Obj.mapFields fun x => x.setIfInBounds 3 (Value.ref ea))).update e (Obj.mapFields fun x => x.setIfInBounds 4 (Value.bool true))).get? b = h.get? b := fun b hb => by
    rw [Heap.get?_update_other _ _ (Ne.symm hb), Heap.get?_update_other _ _ (Ne.symm hb)]
  have z4 : ((h.update e (Obj.mapFields fun x => x.setIfInBounds 3 (Value.ref ea))).update e (Obj.mapFields fun x => x.setIfInBounds 4 (Value.bool true))).objs.size = h.objs.size := by
    cases h; simp [Heap.update]
  show wpAny _ _ _ _ _ ⟨(h.update e (Obj.mapFields fun x => x.setIfInBounds 3 (Value.ref ea))).update e (Obj.mapFields fun x => x.setIfInBounds 4 (Value.bool true)), g, d, t, os⟩
  have e4' : ((h.update e (Obj.mapFields fun x => x.setIfInBounds 3 (Value.ref ea))).update e (Obj.mapFields fun x => x.setIfInBounds 4 (Value.bool true))).get? e = some { cls := .ref CY, data := .fields #[.ref tp, .none, .none, .ref ea, .bool true, .none] } := e4
  clear e3 e4
  generalize (h.update e (Obj.mapFields fun x => x.setIfInBounds 3 (Value.ref ea))).update e (Obj.mapFields fun x => x.setIfInBounds 4 (Value.bool true)) = h4 at *
  have nCY : CY ≠ e := fun z => by rw [z, he] at hC; cases hC
  have hC4 := (o4 CY nCY).trans hC
  have f4 : F2 ea .none h4 := by
    obtain ⟨o, vs, x1, x2, x3⟩ := f2
    exact ⟨o, vs, (o4 ea (Ne.symm hne)).trans x1, x2, x3⟩
  repeat (first | with_reducible refine wpAny_loadPart_at e4' ?_ | with_reducible refine wpAny_loadPart_at hC4 ?_ | wp_step)
  unfold raiseNew
  refine wpAny_bind (wpAny_handled ?_)
  rw [hh]
  dsimp only
  rw [if_pos (show (Value.ref ea != Value.ref e) = true from by simp [Ne.symm hne])]
  refine wpAny_bind (wpAny_holding (wpAny_runValue (unchain_none f4 ?_)))
  show wpAny _ _ (setField (.ref e) 2 (.ref ea) >>= fun _ => throw (Value.ref e)) _ _ _
  refine wpAny_bind (wpAny_setField e4' rfl (show 2 < 6 by decide) (wpAny_throw ?_))
  refine hE _ (fun b hb => (Heap.get?_update_other _ _ (Ne.symm hb)).trans (o4 b hb)) (Heap.get?_update_self (Obj.mapFields (·.setIfInBounds 2 (Value.ref ea))) e4' (Obj.isFreed_of_fields (Obj.data_mapFields rfl _))) ?_
  have : (h4.update e (Obj.mapFields (·.setIfInBounds 2 (Value.ref ea)))).objs.size = h4.objs.size := by cases h4; simp [Heap.update]
  exact this.trans z4
end
section
variable {M : Model} {A : Around} {E : Value → Shared → Prop} {s : Shared} {base : Heap} {l outer : List Env} {env : Env} {e L : Addr} {cls a0 : Value}
/-- the last station is this frame's already -/
theorem flight_held {Q : Unit → Shared → Prop} (hh : Heap.HeldW base l e cls a0 L s.heap) (hQ : ∀ h', Heap.HeldW base l e cls a0 L h' → s.heap.UpToSlots h' → Q () { s with heap := h' }) :
    wpAny M A (setFlight (.ref e) (some L)) Q E s := by
  obtain ⟨g1, g2, g3, oe, vs, T, oT, ts, he, hc, hd, h1, nT, ne, hT, hdT, h3⟩ := hh
  have sz := (Array.getElem?_eq_some_iff.mp h3).1
  have oth : ∀ b, b ≠ T → (s.heap.update T (Obj.mapFields (·.setIfInBounds 3 ((some L : Option Addr).elim Value.none fun f => rawInt f)))).get? b = s.heap.get? b := fun b hb => Heap.get?_update_other _ _ (Ne.symm hb)
  have nf : ∀ b o, s.heap.get? b = some o → (∀ vs, o.data ≠ .fields vs) → b ≠ T := fun b o x y z => by
    rw [z, hT] at x
    cases x
    exact y ts hdT
  unfold setFlight
  refine wpAny_bind (wpAny_field he hd h1 ?_)
  rw [if_pos (show (Value.ref T != Value.none) = true from by simp)]
  refine wpAny_setField hT hdT sz (hQ _ ⟨fun b o x => ?_, g2, g3.of_keeps fun b o x y => ⟨o, (oth b (nf b o x y)).trans x, rfl⟩, oe, vs, T, _, _, (oth e (Ne.symm ne)).trans he, hc, hd, h1, nT, ne, Heap.get?_update_self _ hT (Obj.isFreed_of_fields (Obj.data_mapFields hdT _)), Obj.data_mapFields hdT _, ?_⟩
    fun b o x y => ⟨o.slots, (oth b (nf b o x y)).trans x⟩)
  · exact (oth b fun z => by rw [z, nT] at x; cases x).trans (g1 b o x)
  · rw [Array.getElem?_setIfInBounds_self_of_lt sz]
    rfl
/-- the first station -/
theorem note_first {CY tp : Addr} {x y z u : Value} {Q : Unit → Shared → Prop} (hfr : A.frames = some (env :: outer)) (hf : env.frame = some L) (hkb : base.StaysIn s.heap) (hen : base.get? e = none) (hl : s.heap.FunFrames base (env :: outer))
    (he : s.heap.get? e = some { cls := .ref CY, data := .fields #[.ref tp, .none, x, y, z, u] })
    (hQ : ∀ h', Heap.HeldW base (env :: outer) e (.ref CY) (.ref tp) L h' → s.heap.UpToSlots h' → Q () { s with heap := h' }) : wpAny M A (noteFrame (.ref e) env) Q E s := by
  unfold noteFrame
  simp only [hf]
  refine wpAny_bind (wpAny_field he rfl (x := .none) rfl ?_)
  rw [if_neg (by decide)]
  refine wpAny_entryW hfr hl hf he hkb hen rfl (show 1 < 6 by decide) rfl fun h' hN => ?_
  obtain ⟨k1, k2, k3, k4⟩ := hN
  exact hQ h' ⟨k1, hen, k2, k3⟩ k4
end
section
variable {P : Program} {w : World} {K : PySem.W.Frag} {mg : Str → Option Value} {base : Heap} {N : List Str} {qual : Str} {scope : Scope} {f : Addr} {cd : Value} {A : Around} {outer : List Env} {s : Shared} {H : Hp} {E : XK}
theorem from_xe {X : Cx} (hX : X = cxOf (CXb false P w) P w K mg base N qual scope f cd A outer s H E) {pins : List (Addr × Obj)} {σ : St} {H2 : Hp} {s2 : Shared} {h' : Heap} {e2 tp CY ea : Addr} {n : Str} {hpos : Pos} {x y z u : Value} (J : Inv X pins σ H2 s2) (hl : X.env.kindOf n = some .local)
    (new : s2.heap.get? e2 = none) (kp : ∀ b o, s2.heap.get? b = some o → h'.get? b = some o) (he : h'.get? e2 = some { cls := .ref CY, data := .fields #[.ref tp, .none, x, y, z, u] }) (q : E (.ref CY) (some e2) H2) :
    wpAny (model P w) (X.A.mark (some (.ref ea))) (noteFrame (.ref e2) X.env) (fun _ s₃' =>
      wpAny (model P w) (X.A.mark (some (.ref ea))) (do bindName X.env n .none; unbindBehindTheSuite X.env n hpos)
        (fun _ s₄ => wpAny (model P w) (X.A.mark (some (.ref ea))) (PySem.passOn "try.except-as" (.ref e2) X.env : Sem Flow) (fun _ _ => False) (notedBy (model P w) (X.A.mark (some (.ref ea))) X.env fun x s' => cameBackBy (model P w) X.A X.env X.xe x s') s₄)
        (fun y s₄ => wpAny (model P w) (X.A.mark (some (.ref ea))) (setFlight (.ref e2) none) (fun _ s₅ => (notedBy (model P w) (X.A.mark (some (.ref ea))) X.env fun x s' => cameBackBy (model P w) X.A X.env X.xe x s') y s₅) (notedBy (model P w) (X.A.mark (some (.ref ea))) X.env fun x s' => cameBackBy (model P w) X.A X.env X.xe x s') s₄) s₃')
      (notedBy (model P w) (X.A.mark (some (.ref ea))) X.env fun x s' => cameBackBy (model P w) X.A X.env X.xe x s') { s2 with heap := h' } := by
  have hst : X.stack = X.env :: X.outer := by rw [hX]; rfl
  have hfm : X.env.frame = some X.env.locals := by rw [hX]; rfl
  have hex : X.ex = [] := by rw [hX]; rfl
  have frm : X.A.frames = some (X.env :: X.outer) := by rw [← hst]; exact J.ok.frames
  have up0 : ∀ b, s2.heap.get? b = none → X.s₀.heap.get? b = none := fun b hb => by
    cases e : X.s₀.heap.get? b with
    | none => rfl
    | some o =>
      obtain ⟨o', e2⟩ := J.base.there b o e (by rw [hex]; simp)
      rw [hb] at e2; cases e2
  have nH : ∀ b, s2.heap.get? b = none → H2 b = none := fun b hb => by
    cases e : H2 b with
    | none => rfl
    | some v =>
      obtain ⟨o, ho⟩ := (J.hok b v e).there
      rw [hb] at ho; cases ho
  let LL : List Addr := X.env.locals :: frs X.outer
  have sub : ∀ b ∈ frs X.stack, b ∈ LL := fun b hb => J.stkSub b hb
  have stk := J.stack
  have k2 : h'.FunFrames (hideAll s2.heap LL) (X.env :: X.outer) := by
    rw [← hst]
    exact (hidF sub stk).of_keeps fun b o x y => ⟨o, kp b o x, rfl⟩
  refine note_first (base := hideAll s2.heap LL) (outer := X.outer) (L := X.env.locals) frm hfm (fun b o e => kp b o (of_hideAll LL e)) ?_ k2 he fun h1 hd1 up1 => ?_
  · cases e : (hideAll s2.heap LL).get? e2 with
    | none => rfl
    | some o => have := of_hideAll LL e; rw [new] at this; cases this
  have llf : ∀ b, b ∈ LL → b ∈ frs X.stack := fun b hb => by
    rw [hst]
    unfold frs
    rw [List.filterMap_cons, hfm]
    exact hb
  obtain ⟨g1, g2, g3, oe, vs, T, oT, ts, he1, hc1, hdd, h1', nT, neT, hT, hdT, h3⟩ := hd1
  have nonf : ∀ b, b ∈ LL → ∃ o, h1.get? b = some o ∧ ∀ vs, o.data ≠ .fields vs := fun b hb => by
    have := (g3.mem (show b ∈ frs (X.env :: X.outer) from by rw [← hst]; exact llf b hb)).2
    exact this
  have eLL : e2 ∉ LL := fun z => by
    obtain ⟨o, a, b⟩ := nonf e2 z
    rw [he1] at a; cases a
    exact b vs hdd
  have tLL : T ∉ LL := fun z => by
    obtain ⟨o, a, b⟩ := nonf T z
    rw [hT] at a; cases a
    exact b ts hdT
  have nTs : s2.heap.get? T = none := by
    cases e : s2.heap.get? T with
    | none => rfl
    | some o => rw [hideAll_get LL e tLL] at nT; cases nT
  have trk : ∀ b v, H2 b = some v → b ∉ LL := fun b v e hb => by
    rcases List.mem_cons.mp hb with z | z
    · rw [z, J.free] at e; cases e
    · rw [J.stkFree b (llf b hb)] at e; cases e
  have keep : ∀ b o, b ∉ LL → s2.heap.get? b = some o → h1.get? b = some o := fun b o hb e => g1 b o (hideAll_get LL e hb)
  have J1 : Inv X pins σ H2 { s2 with heap := h1 } := by
    refine J.call' (s' := { s2 with heap := h1 }) (ch := []) rfl ⟨fun b o e n hb _ => keep b o (fun z => hb (llf b z)) e, fun b o e n hb _ => ?_, fun b o e n _ => n, fun b o e _ => ?_, fun b xs e => e, fun b o v e => e, fun b ps e => ⟨#[], by simpa using e⟩⟩ (fun b v e => ?_) J.bare fun b hb => by simp at hb
    · obtain ⟨_, o', ho', hnf⟩ := stk.mem hb
      rw [e] at ho'; cases ho'
      exact up1 b o (kp b o e) hnf
    · by_cases hb : b ∈ LL
      · obtain ⟨o', a, _⟩ := nonf b hb
        exact ⟨o', a⟩
      · exact ⟨o, keep b o hb e⟩
    · refine (J.hok b v e).stay (fun c v hc q => keep c v ?_ q) (fun _ q => q) fun _ _ q => q
      rcases hc with z | z
      · rw [z]; exact trk b _ e
      · exact trk c _ z
  obtain ⟨m1, hn1, _⟩ := id J1.loc
  refine wpAny_nameGoes hl hn1 (by rw [J.ok.kind]; rfl) fun h2 m2 hn2 sb2 => ?_
  have J2 := J1.name_goes (t' := s2.toks + 1) hn2 sb2
  have neL : e2 ≠ X.env.locals := fun z => eLL (by rw [z]; exact List.mem_cons_self)
  have tL : T ≠ X.env.locals := fun z => tLL (by rw [z]; exact List.mem_cons_self)
  let L2 : List Addr := e2 :: T :: LL
  have hh2 : Heap.HeldW (hideAll h2 L2) (X.env :: X.outer) e2 (.ref CY) (.ref tp) X.env.locals h2 := by
    refine ⟨fun b o e => of_hideAll L2 e, hideAll_none L2 (by simp [L2]), ?_, oe, vs, T, oT, ts, (sb2.2 e2 neL).trans he1, hc1, hdd, h1', hideAll_none L2 (by simp [L2]), neT, (sb2.2 T tL).trans hT, hdT, h3⟩
    rw [← hst]
    exact hidF (fun b hb => List.mem_cons_of_mem _ (List.mem_cons_of_mem _ (sub b hb))) J2.stack
  have fin : ∀ h3, Heap.HeldW (hideAll h2 L2) (X.env :: X.outer) e2 (.ref CY) (.ref tp) X.env.locals h3 → h2.UpToSlots h3 → X.xe (.ref e2) { s2 with heap := h3, toks := s2.toks + 1 } := fun h3 hh3 up3 => by
    obtain ⟨r1, r2, r3, oe3, vs3, T3, oT3, ts3, he3, hc3, hd3, h13, nT3, neT3, hT3, hdT3, h33⟩ := id hh3
    have go : wpAny (model P w) X.A (leaving X.env (.ref e2)) (fun _ t => CXb false P w outer H s E (.ref e2) t) (fun e' t => CXb false P w outer H s E e' t) { s2 with heap := h3, toks := s2.toks + 1 } := by
      unfold leaving
      refine wpAny_bind (wpAny_noteFrame_againW hfm hh3.2.2.2 ?_)
      refine wpAny_landsW hh3 fun h5 fl5 up5 => ?_
      obtain ⟨a1, a2, ⟨_, _, a3⟩, a4⟩ := fl5
      subst hX
      refine cx_of (b := false) (s2 := { s2 with heap := h2, toks := s2.toks + 1 }) (h' := h5) J2 (L := L2) (fun b hb => ?_) (fun b hb => List.mem_cons_of_mem _ (List.mem_cons_of_mem _ (List.mem_cons_of_mem _ hb))) (up0 e2 new) (nH e2 new) ⟨a1, a2, a3, a4⟩ (fun b _ => up3.trans up5 b) (fun z => by cases z) q
      rcases List.mem_cons.mp hb with z | hb
      · rw [z]; exact ⟨nH e2 new, .inr (up0 e2 new)⟩
      · rcases List.mem_cons.mp hb with z | hb
        · rw [z]; exact ⟨nH T nTs, .inr (up0 T nTs)⟩
        · rcases List.mem_cons.mp hb with z | hb
          · rw [z]; exact ⟨J.free, .inr (Heap.get?_none_of_le J.ok.above)⟩
          · exact ⟨J.stkFree b (llf b (List.mem_cons_of_mem _ hb)), .inl hb⟩
    rw [hX] at go ⊢
    exact go
  have f1 : ∀ h3, Heap.HeldW (hideAll h2 L2) (X.env :: X.outer) e2 (.ref CY) (.ref tp) X.env.locals h3 → ∃ oe vs T, h3.get? e2 = some oe ∧ oe.data = .fields vs ∧ vs[1]? = some (.ref T) := fun h3 ⟨_, _, _, oe, vs, T, _, _, a, _, b, c, _⟩ => ⟨oe, vs, T, a, b, c⟩
  unfold PySem.passOn
  obtain ⟨oe2, vs2, T2, a2, b2, c2⟩ := f1 h2 hh2
  refine wpAny_bind (wpAny_field a2 b2 c2 ?_)
  rw [if_neg (show ¬ ((Value.ref T2 == Value.none) = true) from by simp)]
  rw [hfm]
  refine wpAny_bind (flight_held hh2 fun h3 hh3 up3 => wpAny_throw ?_)
  show wpAny _ _ (noteFrame _ _) _ _ _
  refine wpAny_noteFrame_againW hfm hh3.2.2.2 ?_
  show wpAny _ _ _ _ _ _
  obtain ⟨oe3, vs3, T3, a3, b3, c3⟩ := f1 h3 hh3
  refine wpAny_bind (wpAny_field a3 b3 c3 ?_)
  rw [if_neg (show ¬ ((Value.ref T3 == Value.none) = true) from by simp), hfm]
  exact flight_held hh3 fun h4 hh4 up4 => fin h4 hh4 (up3.trans up4)
end
end L2

set_option Elab.async false
set_option linter.all false
set_option maxRecDepth 100000
set_option maxHeartbeats 4000000
/-! Exceptions of own classes: a try whose handler raises another one from it. -/
namespace L2
open PySem PySem.Spec PyProof.Rows PySem.W
/-- within an except suite that raises -/
def mkE (X : Cx) (ea : Addr) (xe : Value → Shared → Prop) : Cx := { X with A := X.A.mark (some (.ref ea)), calm := false, xe := xe }
section
variable {X : Cx} {pins : List (Addr × Obj)} {σ : St} {H : Hp} {s : Shared} {ea : Addr} {xe : Value → Shared → Prop}
theorem inv_mkE (I : Inv X pins σ H s) : Inv (mkE X ea xe) pins σ H s :=
  ⟨⟨I.ok.mod, I.ok.kind, I.ok.glob, I.ok.blt, I.ok.above, I.ok.inj, I.ok.has, I.ok.cab, (fun z => nomatch z), I.ok.frames, I.ok.stk, I.ok.exf, I.ok.bs, I.ok.bsz, I.ok.noex, I.ok.exfs, I.ok.funs, I.ok.frf⟩, I.os, I.bare, I.base, I.loc, I.cell, I.free, I.freeC, I.pin, I.hok, I.len⟩
theorem mkE_inv (k : X.Ok) (I : Inv (mkE X ea xe) pins σ H s) : Inv X pins σ H s := ⟨k, I.os, I.bare, I.base, I.loc, I.cell, I.free, I.freeC, I.pin, I.hok, I.len⟩
/-- an own class called: the exception made -/
theorem own_made {y : Str} {CY : Addr} {np cpos : Pos} {e₀ : Expr} {v0 : V} {Q : Value → Shared → Prop} (k : X.Ok) (Z : Exc X.K X.mg y CY) (hg : Gl X y) (he : PE (mkE X ea xe) e₀ (tC v0)) (I : Inv X pins σ H s) (hst : starEach [e₀] X.env = [(false, eval e₀ X.env)]) (hd : (y == ("__debug__" : Str)) = false)
    (hq : ∀ s2 h' e us, Inv X pins σ H s2 → Heap.MadeExcOf s2.heap h' e (.ref CY) us → Q (.ref e) { s2 with heap := h' }) :
    wpAny (model X.prog X.w) (X.A.mark (some (.ref ea))) (eval (.Call (.Name y np) [e₀] [] cpos) X.env) Q xe s := by
  obtain ⟨bmB, newId, hx, B, initId, FB⟩ := Z.cl
  have ha : PA (mkE X ea xe) [e₀] (tCons (tC v0) tNil) := pa_cons he pa_nil hst
  have hsp := ha cpos pins s σ H (fun vs H2 => H2 = H ∧ vs.length = 1) (inv_mkE I) ⟨rfl, rfl⟩
  refine wpAny_Call_ofName (ld_glob (X := mkE X ea xe) (inv_mkE I) hg Z.m ?_ hd)
  have hst' : starEach [e₀] (mkE X ea xe).env = [(false, eval e₀ X.env)] := hst
  rw [hst'] at hsp
  show wpAny (model X.prog X.w) (X.A.mark (some (.ref ea))) (callWith cpos (.ref CY) [] (backTo cpos (starEach [e₀] X.env)) (backToKw cpos (keywordEach [] X.env))) Q xe s
  rw [hst]
  unfold callWith
  refine wpAny_bind (wpAny_holding (Calls.evalArgs_plain (thn hsp fun us s2 ⟨vs, H2, I2, r, hH, hl1⟩ => wpAny_bind (wpAny_standAt ?_))))
  obtain rfl := hH
  have J2 : Inv X pins σ _ s2 := mkE_inv k I2
  obtain ⟨tl, N', nm, q', bs, hdct, sn, sub, ab, col, dd, k0, k1, k2, k3, k5, mN, hC, hN, hni, T⟩ := own_obj (h := s2.heap) J2.kIn hx
  have lu : us.length ≤ sizeLine := by rw [← r.length, hl1, sizeLine_eq]; decide
  obtain ⟨hp, g, d, tk, os⟩ := s2
  have pl : (backTo cpos [(false, eval e₀ X.env)]).any (·.1) = false := rfl
  simp only [pl]
  refine wpAny_bind (wpAny_keeperOf_exc hC ?_)
  exact wpAny_bind (wpAny_call_exc_subT (hrest := lu) FB T hC hN hni fun h' e hm => wpAny_bind (wpAny_holding (wpAny_point (wpAny_pure (hq _ h' e us J2 hm)))))
theorem ld_slot {i : Nat} {x : Str} {a : Addr} {pos : Pos} {B : Around} {Q : Value → Shared → Prop} {E : Value → Shared → Prop} (I : Inv X pins σ H s) (hN : X.N[i]? = some x) (e : σ[i]? = some (some (.ref a))) (hv : Vis X.env.scope x) (hd : (x == ("__debug__" : Str)) = false) (hcd : (x == ("__classdict__" : Str)) = false) (h : Q (.ref a) s) :
    wpAny (model X.prog X.w) B (eval (.Name x pos) X.env) Q E s := by
  obtain ⟨m, hn, hl⟩ := I.loc
  obtain ⟨u, r, l⟩ := hl i x (.ref a) hN e hv
  obtain rfl : u = .ref a := r
  rcases l with ⟨hk, hm⟩ | ⟨hk, c, hc, hcell⟩
  · exact wpAny_Name (wpAny_loadName_local I.ok.kind hk hn hm h) hd
  · rcases hk with hk | hk
    · exact wpAny_Name (wpAny_loadName_cell I.ok.kind hk hc hcell h) hd
    · exact wpAny_Name (wpAny_loadName_free I.ok.kind hk hc hcell h hcd) hd
theorem exec_from {y n : Str} {i : Nat} {C CY : Addr} {np cpos np3 rpos : Pos} {e₀ : Expr} {v0 : V} {Q : Flow → Shared → Prop} (k : X.Ok) (Z : Exc X.K X.mg y CY) (hg : Gl X y) (he : PE (mkE X ea xe) e₀ (tC v0)) (I : Inv X pins σ H s) (hst : starEach [e₀] X.env = [(false, eval e₀ X.env)]) (hd : (y == ("__debug__" : Str)) = false)
    (hh : X.A.handled = none) (hi : X.N[i]? = some n) (hv : Vis X.env.scope n) (hdn : (n == ("__debug__" : Str)) = false) (hcd : (n == ("__classdict__" : Str)) = false) (hσ : σ[i]? = some (some (.ref ea))) (hE : H ea = some (EOb true ea C)) (hk : ExcK X.K C)
    (hx : ∀ s2 h' e2 tp, Inv X pins σ H s2 → s2.heap.get? e2 = none → (∀ b o, s2.heap.get? b = some o → h'.get? b = some o) → h'.get? e2 = some { cls := .ref CY, data := .fields #[.ref tp, .none, .ref ea, .ref ea, .bool true, .none] } → xe (.ref e2) { s2 with heap := h' }) :
    wpAny (model X.prog X.w) (X.A.mark (some (.ref ea))) (exec (.Raise (some (.Call (.Name y np) [e₀] [] cpos)) (some (.Name n np3)) rpos) X.env) Q xe s := by
  rw [arm_exec_Raise]
  refine wpAny_bind (wpAny_standAt ?_)
  show wpAny _ _ (raiseStmt X.env (some (do let v ← eval (.Call (.Name y np) [e₀] [] cpos) X.env; standAt rpos; pure v)) (some (do let v ← eval (.Name n np3) X.env; standAt rpos; pure v))) _ _ _
  unfold raiseStmt
  refine wpAny_bind (wpAny_bind (own_made k Z hg he I hst hd fun s2 h' e us J2 mk => wpAny_bind (wpAny_standAt (wpAny_pure ?_))))
  have J3 : Inv X pins σ H { s2 with heap := h' } := J2.call' (s' := { s2 with heap := h' }) (ch := []) rfl (Un.kept mk.keeps) (J2.hok.kept mk.keeps) J2.bare fun b hb => by simp at hb
  obtain ⟨tp, hm, _⟩ := mk.there
  refine wpAny_bind (wpAny_holding (wpAny_bind (ld_slot J3 hi hσ hv hdn hcd (wpAny_bind (wpAny_standAt (wpAny_pure (wpAny_bind (wpAny_pure ?_))))))))
  obtain ⟨bmB, newId, hxx, B, initId, FB⟩ := Z.cl
  obtain ⟨tl, N', nm, q', bs, hdct, sn, sub, ab, col, dd, k0, k1, k2, k3, k5, mN, hC, hN, hni, T⟩ := own_obj (h := h') J3.kIn hxx
  obtain ⟨⟨oa, ha, hac⟩, ff⟩ := (show ObjOk X.prog X.w H h' ea (EOb true ea C) from J3.hok ea _ hE).1
  have f2 := ff rfl
  have had : ∃ vs, oa.data = .fields vs := by
    obtain ⟨o, vs, a1, a2, _⟩ := id f2
    rw [ha] at a1; cases a1
    exact ⟨vs, a2⟩
  have hne : e ≠ ea := fun z => by
    obtain ⟨o, ho⟩ := (J2.hok ea _ hE).there
    rw [← z, mk.new] at ho; cases ho
  obtain ⟨hp, g, d, tk, os⟩ := s2
  refine from_tail (C := C) (K := X.K) (h := h') (by show ((some (Value.ref ea)).or X.A.handled) = _; rfl) (T.hasType FB.hasBase) hne J3.kIn hC hm ha hac had hk.sB f2 fun h2 o2 e2' z2 => ?_
  · refine hx _ h2 e tp J2 mk.new (fun b o eo => (o2 b fun z => ?_).trans (mk.keeps b o eo)) e2'
    rw [z, mk.new] at eo; cases eo
end
/-- a handler that raises Y from what it was handed -/
def tTryF (CY : Addr) (Sub : Addr → Prop) (E : XK) (tb : XK → TS) : TS := fun D σ H =>
  tb (fun cls a H' => ∃ ea C, a = some ea ∧ cls = .ref C ∧ Sub C ∧ ∀ e2, (upd H' ea (EOb true ea C)) e2 = none → E (.ref CY) (some e2) (upd H' ea (EOb true ea C))) D σ H
section
variable {P : Program} {w : World} {K : PySem.W.Frag} {mg : Str → Option Value} {base : Heap} {N : List Str} {qual : Str} {scope : Scope} {f : Addr} {cd : Value} {A : Around} {outer : List Env} {s : Shared} {H : Hp} {E : XK}
theorem ps_tryF {x y n : Str} {i : Nat} {CR CY : Addr} {body : List Stmt} {np np2 np3 cpos rpos hpos pos : Pos} {e₀ : Expr} {v0 : V} {tb : XK → TS} (hN : (cxOf (CXb false P w) P w K mg base N qual scope f cd A outer s H E).N.Nodup) (hi : (cxOf (CXb false P w) P w K mg base N qual scope f cd A outer s H E).N[i]? = some n) (hl : (cxOf (CXb false P w) P w K mg base N qual scope f cd A outer s H E).env.kindOf n = some .local)
    (Z : Exc K mg x CR) (hg : Gl (cxOf (CXb false P w) P w K mg base N qual scope f cd A outer s H E) x) (Z2 : Exc K mg y CY) (hg2 : Gl (cxOf (CXb false P w) P w K mg base N qual scope f cd A outer s H E) y) (hb : ∀ xe pn E', Passes (CXb true P w) (trX (cxOf (CXb false P w) P w K mg base N qual scope f cd A outer s H E) xe pn) E' → PSs (trX (cxOf (CXb false P w) P w K mg base N qual scope f cd A outer s H E) xe pn) body (tb E')) (hms : ∀ ea xe, PE (mkE (cxOf (CXb false P w) P w K mg base N qual scope f cd A outer s H E) ea xe) e₀ (tC v0))
    (hst : starEach [e₀] (cxOf (CXb false P w) P w K mg base N qual scope f cd A outer s H E).env = [(false, eval e₀ (cxOf (CXb false P w) P w K mg base N qual scope f cd A outer s H E).env)] := by rfl) (hd : (x == ("__debug__" : Str)) = false := by decide) (hd2 : (y == ("__debug__" : Str)) = false := by decide) (hdn : (n == ("__debug__" : Str)) = false := by decide) (hcn : (n == ("__classdict__" : Str)) = false := by decide) :
    PS (cxOf (CXb false P w) P w K mg base N qual scope f cd A outer s H E) (.Try body [.ExceptHandler (some (.Name x np)) (some n) [.Raise (some (.Call (.Name y np2) [e₀] [] cpos)) (some (.Name n np3)) rpos] hpos] [] [] pos) (tTryF CY (fun C => subIn K (.ref C) (.ref CR) = some true ∧ ExcK K C) E tb) := by
  intro pins s0 σ H0 D I q
  refine wpAny_Try_except ?_
  refine wpAny_mono (hb (fun e s₁ => wpAny (model P w) (cxOf (CXb false P w) P w K mg base N qual scope f cd A outer s H E).A (noteFrame e (cxOf (CXb false P w) P w K mg base N qual scope f cd A outer s H E).env) (fun _ s₂ => wpAny (model P w) (cxOf (CXb false P w) P w K mg base N qual scope f cd A outer s H E).A (setFlight e none) (fun _ s₃ => wpAny (model P w) (cxOf (CXb false P w) P w K mg base N qual scope f cd A outer s H E).A (handleBy e (cxOf (CXb false P w) P w K mg base N qual scope f cd A outer s H E).env [.ExceptHandler (some (.Name x np)) (some n) [.Raise (some (.Call (.Name y np2) [e₀] [] cpos)) (some (.Name n np3)) rpos] hpos]) (SP (cxOf (CXb false P w) P w K mg base N qual scope f cd A outer s H E) pins D) (cxOf (CXb false P w) P w K mg base N qual scope f cd A outer s H E).xe s₃) (cxOf (CXb false P w) P w K mg base N qual scope f cd A outer s H E).xe s₂) (cxOf (CXb false P w) P w K mg base N qual scope f cd A outer s H E).xe s₁) ((cxOf (CXb false P w) P w K mg base N qual scope f cd A outer s H E).pn ++ pins)
    _ ?_ [] s0 σ H0 D (inv_tr I) q) (fun fl s1 hh => ?_) fun _ _ z => z
  · intro pins1 σ1 H1 s1 e s2 I1 c
    obtain ⟨ea, cls, T, H', rfl, os, bare, un, hok, ⟨a0, oe, vs, oT, ts', he, hc, hd', h1, hTe, hT, hdT, h3⟩, hea, hTH, nea, nT, ff, ea2, C, eae, rfl, hsub, kq⟩ := c
    cases eae
    have stk := I1.stack
    have sfr : ∀ b ∈ frs (cxOf (CXb false P w) P w K mg base N qual scope f cd A outer s H E).stack, b ∈ (ea :: T :: frs (cxOf (CXb false P w) P w K mg base N qual scope f cd A outer s H E).stack) := fun b hb => List.mem_cons_of_mem _ (List.mem_cons_of_mem _ hb)
    have stk2 : s2.heap.FunFrames base (cxOf (CXb false P w) P w K mg base N qual scope f cd A outer s H E).stack := (I1.call' (s' := s2) (ch := []) os un hok bare fun b hb => by simp at hb).stack
    have land : ∀ h', Heap.FlyingW (PySem.W.hideAll s2.heap (ea :: T :: frs (cxOf (CXb false P w) P w K mg base N qual scope f cd A outer s H E).stack)) (cxOf (CXb false P w) P w K mg base N qual scope f cd A outer s H E).stack ea (.ref C) a0 h' → s2.heap.UpToSlots h' → FX true ea h' → Inv (cxOf (CXb false P w) P w K mg base N qual scope f cd A outer s H E) pins σ1 (upd H' ea (EOb true ea C)) { s2 with heap := h' } := fun h' fl up ff' =>
      tr_inv I.ok (landed I1 os bare un hok hea hTH nea nT fl up ff')
    refine wpAny_mono (kp_any (kp_imp kp_note) (wpAny_looks_onW (Q := fun _ t => ∃ h4, t = { s2 with heap := h4 } ∧ Heap.HeldW (PySem.W.hideAll s2.heap (ea :: T :: frs (cxOf (CXb false P w) P w K mg base N qual scope f cd A outer s H E).stack)) (cxOf (CXb false P w) P w K mg base N qual scope f cd A outer s H E).stack ea (.ref C) a0 (cxOf (CXb false P w) P w K mg base N qual scope f cd A outer s H E).env.locals h4 ∧ s2.heap.UpToSlots h4) (base := PySem.W.hideAll s2.heap (ea :: T :: frs (cxOf (CXb false P w) P w K mg base N qual scope f cd A outer s H E).stack)) (L := (cxOf (CXb false P w) P w K mg base N qual scope f cd A outer s H E).env.locals) (cls := .ref C) (a0 := a0) I.ok.frames rfl ?_ fun h4 held sm4 => ⟨h4, rfl, held, sm4⟩) ff) (fun _ t ⟨⟨h4, e4, held, sm4⟩, ff4⟩ => ?_) fun _ _ z => z.1
    · exact ⟨fun b o e => PySem.W.of_hideAll _ e, PySem.W.hideAll_none _ (by simp), hidF sfr stk2, oe, vs, T, oT, ts', he, hc, hd', h1, PySem.W.hideAll_none _ (by simp), hTe, hT, hdT, h3⟩
    subst e4
    refine wpAny_mono (kp_any (kp_imp kp_setFlight) (wpAny_landsW (Q := fun _ t => ∃ h5, t = { s2 with heap := h5 } ∧ Heap.FlyingW (PySem.W.hideAll s2.heap (ea :: T :: frs (cxOf (CXb false P w) P w K mg base N qual scope f cd A outer s H E).stack)) (cxOf (CXb false P w) P w K mg base N qual scope f cd A outer s H E).stack ea (.ref C) a0 h5 ∧ h4.UpToSlots h5) held fun h5 fl5 sm5 => ⟨h5, rfl, fl5, sm5⟩) ff4) (fun _ t ⟨⟨h5, e5, fl5, sm5⟩, ff5⟩ => ?_) fun _ _ z => z.1
    subst e5
    have sm25 := sm4.trans sm5
    have J5 := land h5 fl5 sm25 ff5
    refine wpAny_handleBy_cons (codeAny_handlers_test (ld_glob (X := mkX (cxOf (CXb false P w) P w K mg base N qual scope f cd A outer s H E) ea) (inv_mk J5) hg Z.m ?_ hd)) (by intro q; cases q)
    obtain ⟨bmB, newId, hx, B, initId, FB⟩ := Z.cl
    obtain ⟨tl, N', nm, q', bs, hdct, sn, sub, ab, col, dd, k0, k1, k2, k3, k5, mN, hC, hN', hni, TT⟩ := own_obj (h := h5) J5.kIn hx
    obtain ⟨ob, hob, hobc⟩ := fl5.there
    refine xm_sub (K := K) J5.kIn hC (TT.hasType FB.hasBase) hob hobc hsub.1 (codeAny_handlers_suite_as ?_)
    refine wpAny_mono (kp_any (kp_imp kp_setFlight) (lands_againW (Q := fun _ t => ∃ h6, t = { s2 with heap := h6 } ∧ Heap.FlyingW (PySem.W.hideAll s2.heap (ea :: T :: frs (cxOf (CXb false P w) P w K mg base N qual scope f cd A outer s H E).stack)) (cxOf (CXb false P w) P w K mg base N qual scope f cd A outer s H E).stack ea (.ref C) a0 h6 ∧ h5.UpToSlots h6) fl5 fun h6 fl6 sm6 => ⟨h6, rfl, fl6, sm6⟩) ff5) (fun _ t ⟨⟨h6, e6, fl6, sm6⟩, ff6⟩ => ?_) fun _ _ z => z.1
    subst e6
    have J6 := land h6 fl6 (sm25.trans sm6) ff6
    refine store_ok (X := (cxOf (CXb false P w) P w K mg base N qual scope f cd A outer s H E)) (v := .ref ea) J6 hN hi (.inl hl) rfl (fun s7 J7 => ?_) (.inr hl)
    have hli : i < σ1.length := by rw [I1.len]; exact (List.getElem?_eq_some_iff.mp hi).1
    refine wpAny_execs_cons (wpAny_mono (exec_from (Q := fun _ _ => False) J7.ok Z2 hg2 (hms ea _) J7 hst hd2 (I.ok.hd rfl) hi (.inl hl) hdn hcn (by rw [List.getElem?_set_self hli]) upd_same hsub.2 fun s2 h' e2 tp J2 new kp he2 => ?_) (fun _ _ z => z.elim) fun _ _ z => z)
    refine from_xe rfl J2 hl new kp he2 (kq e2 ?_)
    cases e : (upd H' ea (EOb true ea C)) e2 with
    | none => rfl
    | some v =>
      obtain ⟨o, ho⟩ := (J2.hok e2 v e).there
      rw [new] at ho; cases ho
  · cases fl with
    | next =>
      obtain ⟨σ', H', I', d⟩ := hh
      exact pss_nil pins s1 σ' H' D (tr_inv I.ok I') d
    | brk => obtain ⟨σ', H', I', d⟩ := hh; exact ⟨σ', H', tr_inv I.ok I', d⟩
    | cont => obtain ⟨σ', H', I', d⟩ := hh; exact ⟨σ', H', tr_inv I.ok I', d⟩
    | ret u => obtain ⟨v, σ', H', I', r, d⟩ := hh; exact ⟨v, σ', H', tr_inv I.ok I', r, d⟩
end
end L2

set_option Elab.async false
set_option linter.all false
set_option maxRecDepth 100000
set_option maxHeartbeats 4000000
/-! Exceptions of own classes: one that passes through a comprehension. -/
namespace L2
open PySem PySem.Spec PyProof.Rows PySem.W
theorem note_env {e : Value} {env env' : Env} (h : env'.frame = env.frame) : noteFrame e env' = noteFrame e env := by
  unfold noteFrame PySem.frameOf
  rw [h]
/-- traced, the last station told anyhow -/
def TrA (base : Heap) (l : List Env) (e : Addr) (cls a0 : Value) (h : Heap) : Prop := ∃ fl, base.StaysIn h ∧ base.get? e = none ∧ h.FunFrames base l ∧ h.TracedAtW base e cls a0 fl
section
variable {M : Model} {A : Around} {E : Value → Shared → Prop} {s : Shared} {base : Heap} {l outer : List Env} {env : Env} {e L : Addr} {cls a0 : Value}
theorem flight_any {fr : Option Addr} {Q : Unit → Shared → Prop} (hh : TrA base l e cls a0 s.heap) (hQ : ∀ h', TrA base l e cls a0 h' → s.heap.UpToSlots h' → Q () { s with heap := h' }) :
    wpAny M A (setFlight (.ref e) fr) Q E s := by
  obtain ⟨fl, g1, g2, g3, oe, vs, T, oT, ts, he, hc, hd, h1, nT, ne, hT, hdT, h3⟩ := hh
  have sz := (Array.getElem?_eq_some_iff.mp h3).1
  have oth : ∀ b, b ≠ T → (s.heap.update T (Obj.mapFields (·.setIfInBounds 3 (fr.elim Value.none fun f => rawInt f)))).get? b = s.heap.get? b := fun b hb => Heap.get?_update_other _ _ (Ne.symm hb)
  have nf : ∀ b o, s.heap.get? b = some o → (∀ vs, o.data ≠ .fields vs) → b ≠ T := fun b o x y z => by
    rw [z, hT] at x
    cases x
    exact y ts hdT
  unfold setFlight
  refine wpAny_bind (wpAny_field he hd h1 ?_)
  rw [if_pos (show (Value.ref T != Value.none) = true from by simp)]
  refine wpAny_setField hT hdT sz (hQ _ ⟨_, fun b o x => ?_, g2, g3.of_keeps fun b o x y => ⟨o, (oth b (nf b o x y)).trans x, rfl⟩, oe, vs, T, _, _, (oth e (Ne.symm ne)).trans he, hc, hd, h1, nT, ne, Heap.get?_update_self _ hT (Obj.isFreed_of_fields (Obj.data_mapFields hdT _)), Obj.data_mapFields hdT _, Array.getElem?_setIfInBounds_self_of_lt sz⟩
    fun b o x y => ⟨o.slots, (oth b (nf b o x y)).trans x⟩)
  exact (oth b fun z => by rw [z, nT] at x; cases x).trans (g1 b o x)
theorem note_any {Q : Unit → Shared → Prop} (hfr : A.frames = some (env :: outer)) (hf : env.frame = some L) (hh : TrA base (env :: outer) e cls a0 s.heap)
    (hQ : ∀ h', Heap.HeldW base (env :: outer) e cls a0 L h' → s.heap.UpToSlots h' → Q () { s with heap := h' }) : wpAny M A (noteFrame (.ref e) env) Q E s := by
  obtain ⟨fl, g1, g2, g3, oe, vs, T, oT, ts, he, ⟨hc, h0⟩, hd, h1, nT, ne, hT, hdT, h3⟩ := hh
  subst hc
  by_cases hfl : (fl == rawInt L) = true
  · have hfl' : fl = rawInt L := eq_of_beq hfl
    subst hfl'
    exact wpAny_noteFrame_againW hf ⟨oe, vs, T, oT, ts, he, ⟨rfl, h0⟩, hd, h1, nT, ne, hT, hdT, h3⟩ (hQ s.heap ⟨g1, g2, g3, oe, vs, T, oT, ts, he, ⟨rfl, h0⟩, hd, h1, nT, ne, hT, hdT, h3⟩ (Heap.UpToSlots.refl _))
  · have oth : ∀ b, b ≠ T → (s.heap.update T (Obj.mapFields (·.setIfInBounds 3 Value.none))).get? b = s.heap.get? b := fun b hb => Heap.get?_update_other _ _ (Ne.symm hb)
    have nf : ∀ b o, s.heap.get? b = some o → (∀ vs, o.data ≠ .fields vs) → b ≠ T := fun b o x y z => by
      rw [z, hT] at x
      cases x
      exact y ts hdT
    unfold noteFrame
    simp only [hf]
    refine wpAny_bind (wpAny_field he hd h1 ?_)
    rw [if_pos (show (Value.ref T != Value.none) = true from by simp)]
    refine wpAny_bind (wpAny_field hT hdT h3 ?_)
    rw [if_neg hfl]
    refine wpAny_bind (wpAny_setField hT hdT (Array.getElem?_eq_some_iff.mp h3).1 ?_)
    refine wpAny_entryW (base := base) (oe := oe) (vs := vs) (a0 := a0) hfr (g3.of_keeps fun b o x y => ⟨o, (oth b (nf b o x y)).trans x, rfl⟩) hf ((oth e (Ne.symm ne)).trans he) (fun b o x => (oth b fun z => by rw [z, nT] at x; cases x).trans (g1 b o x)) g2 hd (Array.getElem?_eq_some_iff.mp h1).1 h0 fun h' hN => ?_
    obtain ⟨k1, k2, k3, k4⟩ := hN
    exact hQ h' ⟨k1, g2, k2, k3⟩ fun b o x y => k4 b o ((oth b (nf b o x y)).trans x) y
theorem leaves_any {Q : Unit → Shared → Prop} (hfr : A.frames = some (env :: outer)) (hf : env.frame = some L) (hh : TrA base (env :: outer) e cls a0 s.heap)
    (hQ : ∀ h', Heap.FlyingW base outer e cls a0 h' → s.heap.UpToSlots h' → Q () { s with heap := h' }) : wpAny M A (leaving env (.ref e)) Q E s := by
  unfold leaving
  refine wpAny_bind (note_any hfr hf hh fun h1 hd1 up1 => ?_)
  refine wpAny_landsW hd1 fun h2 fl up2 => ?_
  obtain ⟨k1, k2, ⟨_, _, k3⟩, k4⟩ := fl
  exact hQ h2 ⟨k1, k2, k3, k4⟩ (up1.trans up2)
end
theorem ff_same {h h' base : Heap} : ∀ {l : List Env}, h.FunFrames base l → (∀ b ∈ frs l, h'.get? b = h.get? b) → h'.FunFrames base l
  | [], _, _ => trivial
  | env :: l, ⟨k, ⟨L, o, hf, hn, ho, hd⟩, r⟩, hs => by
    have e : frs (env :: l) = L :: frs l := by unfold frs; rw [List.filterMap_cons, hf]
    exact ⟨k, ⟨L, o, hf, hn, (hs L (by rw [e]; exact List.mem_cons_self)).trans ho, hd⟩, ff_same r fun b hb => hs b (by rw [e]; exact List.mem_cons_of_mem _ hb)⟩
/-- a block out of which an exception may pass -/
def blkE (X : Cx) (N : List Str) (sc : Scope) (s3 : Shared) (H3 : Hp) (C : Addr) (fp : List Addr) (xe : Value → Shared → Prop) : Cx := { blk X N sc s3 H3 C fp with xe := xe }
section
variable {X : Cx} {N : List Str} {sc : Scope} {s3 : Shared} {H3 : Hp} {C : Addr} {fp : List Addr} {xe : Value → Shared → Prop} {pins : List (Addr × Obj)} {σ : St} {H : Hp} {s : Shared}
theorem inv_blkE (I : Inv (blk X N sc s3 H3 C fp) pins σ H s) : Inv (blkE X N sc s3 H3 C fp xe) pins σ H s :=
  ⟨⟨I.ok.mod, I.ok.kind, I.ok.glob, I.ok.blt, I.ok.above, I.ok.inj, I.ok.has, I.ok.cab, I.ok.hd, I.ok.frames, I.ok.stk, I.ok.exf, I.ok.bs, I.ok.bsz, I.ok.noex, I.ok.exfs, I.ok.funs, I.ok.frf⟩, I.os, I.bare, I.base, I.loc, I.cell, I.free, I.freeC, I.pin, I.hok, I.len⟩
end
section
variable {P : Program} {w : World} {K : PySem.W.Frag} {mg : Str → Option Value} {base : Heap} {N0 : List Str} {qual : Str} {scope : Scope} {f : Addr} {cd : Value} {A : Around} {outer : List Env} {s : Shared} {H : Hp} {E : XK}
theorem comp_err {X : Cx} (hX : X = cxOf (CXb false P w) P w K mg base N0 qual scope f cd A outer s H E) {N : List Str} {sc : Scope} {s3 : Shared} {H3 : Hp} {C : Addr} {fp : List Addr} {xe : Value → Shared → Prop} {pins0 pins : List (Addr × Obj)} {σ0 σ : St} {H1 : Hp} {s1 s2 : Shared} {e : Value} {use : Option (Value → Sem Unit)} {Q : Value → Shared → Prop} {acc : Value}
    (I3 : Inv X pins0 σ0 H3 s3) (hf3 : ∀ b ∈ fp, FpOk X pins0 H3 b ∧ b < s3.heap.objs.size) (I : Inv (blkE X N sc s3 H3 C fp xe) pins σ H1 s1) (c : CXb true P w X.stack H1 s1 E e s2) :
    notedBy (model P w) X.A (blkE X N sc s3 H3 C fp xe).env (fun x s' => compPost (model P w) X.A X.xe use Q acc C (.error x) s') e s2 := by
  obtain ⟨ea, cls, T, H', rfl, os, bare, un, hok, ⟨a0, oe, vs, oT, ts, he, hc, hd, h1, hTe, hT, hdT, h3⟩, hea, hTH, nea, nT, ff, q⟩ := c
  have hst : X.stack = X.env :: X.outer := by rw [hX]; rfl
  have hfm : X.env.frame = some X.env.locals := by rw [hX]; rfl
  have hex : X.ex = [] := by rw [hX]; rfl
  have JY : Inv (blkE X N sc s3 H3 C fp xe) pins σ H' s2 := I.call' (s' := s2) (ch := []) os un (by rw [hX]; exact hok) bare fun b hb => by simp at hb
  have unX : Un (frs X.stack) fp H3 H' s3.heap s2.heap := JY.base
  have hch : ∀ b ∈ fp, (b ∈ X.ex ∨ X.s₀.heap.objs.size ≤ b) ∧ b ≠ X.env.locals ∧ (∀ x c, X.env.cells.lookup x = some c → c ≠ b) ∧ ∀ p ∈ X.pn ++ pins0, p.1 ≠ b := fun b hb => by
    obtain ⟨⟨f0, f1, f2', f3, f4, f5⟩, _⟩ := hf3 b hb
    exact ⟨f3, f1, f4, f5⟩
  have IX : Inv X pins0 σ0 H' s2 := I3.call' (s' := s2) (ch := fp) JY.os unX JY.hok JY.bare hch
  have frm : X.A.frames = some (X.env :: X.outer) := by rw [← hst]; exact IX.ok.frames
  have up0 : ∀ b, s1.heap.get? b = none → X.s₀.heap.get? b = none := fun b hb => by
    by_cases hbf : b ∈ fp
    · rcases (hch b hbf).1 with z | z
      · rw [hex] at z; simp at z
      · exact Heap.get?_none_of_le z
    · cases e : X.s₀.heap.get? b with
      | none => rfl
      | some o =>
        obtain ⟨o', e'⟩ := I3.base.there b o e (by rw [hex]; simp)
        obtain ⟨o'', e''⟩ := I.base.there b o' e' hbf
        rw [hb] at e''; cases e''
  obtain ⟨mC, hnC, _⟩ := id JY.loc
  have hnC : s2.heap.Ns C mC := hnC
  have freeC : H' C = none := JY.free
  have aboveC : s3.heap.objs.size ≤ C := JY.ok.above
  have nCs : X.s₀.heap.get? C = none := Heap.get?_none_of_le (Nat.le_trans I3.sz aboveC)
  let LL : List Addr := ea :: T :: C :: X.env.locals :: frs X.outer
  have sub : ∀ b ∈ frs X.stack, b ∈ LL := fun b hb => List.mem_cons_of_mem _ (List.mem_cons_of_mem _ (List.mem_cons_of_mem _ (IX.stkSub b hb)))
  have tr : TrA (hideAll s2.heap LL) (X.env :: X.outer) ea cls a0 s2.heap := ⟨.none, fun b o e => of_hideAll LL e, hideAll_none LL (by simp [LL]), by rw [← hst]; exact hidF sub IX.stack, oe, vs, T, oT, ts, he, hc, hd, h1, hideAll_none LL (by simp [LL]), hTe, hT, hdT, h3⟩
  show wpAny _ _ (noteFrame (.ref ea) (blkE X N sc s3 H3 C fp xe).env) _ _ _
  rw [note_env (env := X.env) (show (blkE X N sc s3 H3 C fp xe).env.frame = X.env.frame from rfl)]
  refine note_any (L := X.env.locals) frm hfm tr fun g1 hd1 up1 => ?_
  have hn1 : g1.Ns C mC := up1.ns hnC
  refine ⟨mC, hn1, fun g2 sb2 cenv _ => ?_⟩
  obtain ⟨k1, k2, k3, oe1, vs1, T1, oT1, ts1, he1, hc1, hd1', h11, nT1, neT1, hT1, hdT1, h31⟩ := hd1
  have nfC : ∀ b o vs, g1.get? b = some o → o.data = .fields vs → b ≠ C := fun b o vs x y z => by
    obtain ⟨oC, es, ep, hoC, hdC, _⟩ := hn1
    rw [z, hoC] at x; cases x
    rw [hdC] at y; cases y
  have ltC : ∀ b ∈ frs X.stack, b ≠ C := fun b hb z => by
    obtain ⟨_, o, ho, _⟩ := I3.stack.mem hb
    exact absurd (Heap.lt_size ho) (Nat.not_lt.mpr (z ▸ aboveC))
  have tr2 : TrA (hideAll s2.heap LL) (X.env :: X.outer) ea cls a0 g2 := by
    refine ⟨_, fun b o e => ?_, k2, ?_, oe1, vs1, T1, oT1, ts1, (sb2.2 ea (nfC _ _ _ he1 hd1')).trans he1, hc1, hd1', h11, nT1, neT1, (sb2.2 T1 (nfC _ _ _ hT1 hdT1)).trans hT1, hdT1, h31⟩
    · refine (sb2.2 b fun z => ?_).trans (k1 b o e)
      rw [z, hideAll_none LL (by simp [LL])] at e; cases e
    · exact ff_same k3 fun b hb => sb2.2 b (ltC b (by rw [hst]; exact hb))
  have up2 : ∀ b ∈ frs X.outer, ∀ o, s2.heap.get? b = some o → (∀ vs, o.data ≠ .fields vs) → ∃ sl, g2.get? b = some { o with slots := sl } := fun b hb o x y => by
    obtain ⟨sl, z⟩ := up1 b o x y
    refine ⟨sl, (sb2.2 b (ltC b ?_)).trans z⟩
    rw [hst]
    unfold frs
    rw [List.filterMap_cons, hfm]
    exact List.mem_cons_of_mem _ hb
  unfold PySem.passOn
  have he2 := (sb2.2 ea (nfC _ _ _ he1 hd1')).trans he1
  refine wpAny_bind (wpAny_field he2 hd1' h11 ?_)
  rw [if_neg (show ¬ ((Value.ref T1 == Value.none) = true) from by simp)]
  refine wpAny_bind (flight_any tr2 fun g3 tr3 up3 => wpAny_throw ?_)
  have go : wpAny (model P w) X.A (leaving X.env (.ref ea)) (fun _ t => CXb false P w outer H s E (.ref ea) t) (fun e' t => CXb false P w outer H s E e' t) { s2 with heap := g3 } := by
    refine leaves_any (L := X.env.locals) frm hfm tr3 fun g5 fl5 up5 => ?_
    subst hX
    refine cx_of (b := false) (s2 := s2) (h' := g5) IX (L := LL) (fun b hb => ?_) (fun b hb => List.mem_cons_of_mem _ (List.mem_cons_of_mem _ (List.mem_cons_of_mem _ (List.mem_cons_of_mem _ hb)))) (up0 ea nea) hea fl5 (fun b hb o x y => ?_) (fun z => by cases z) q
    · rcases List.mem_cons.mp hb with z | hb
      · rw [z]; exact ⟨hea, .inr (up0 ea nea)⟩
      · rcases List.mem_cons.mp hb with z | hb
        · rw [z]; exact ⟨hTH, .inr (up0 T nT)⟩
        · rcases List.mem_cons.mp hb with z | hb
          · rw [z]; exact ⟨freeC, .inr nCs⟩
          · rcases List.mem_cons.mp hb with z | hb
            · rw [z]; exact ⟨IX.free, .inr (Heap.get?_none_of_le IX.ok.above)⟩
            · exact ⟨IX.stkFree b (by
                rw [hst]
                unfold frs
                rw [List.filterMap_cons, hfm]
                exact List.mem_cons_of_mem _ hb), .inl hb⟩
    · obtain ⟨sl, z⟩ := up2 b hb o x y
      obtain ⟨sl', z'⟩ := up3.trans up5 b _ z y
      exact ⟨sl', z'⟩
  rw [hX] at go ⊢
  exact go
theorem codeAny_compLoop_goX {prog : Program} {w : World} {A : Around} {R : Result → Shared → Prop} {s : Shared} {elt target iter : Expr} {ifs : List Expr} {scope : Scope} {pos : Pos} {it acc : Value} {env : Env} (I : Nat → Shared → Prop)
    (turn : ∀ n s, I n s → wpAny (model prog w) A (pyNext it) (fun r s₁ => match r with
      | none => R (.ok .next) s₁
      | some v => wpAny (model prog w) A (letOwnedTupleGo target it v) (fun _ s₁' => wpAny (model prog w) A (assign target env v) (fun _ s₂ =>
          wpAny (model prog w) A (forIn ifs true fun c r => if r = true then do let ok ← isTrue c env (eval c env); pure (ForInStep.yield ok) else pure (ForInStep.yield r)) (fun ok s₃ =>
            if ok = true then wpAny (model prog w) A (eval elt env) (fun x s₄ =>
              wpAny (model prog w) A (call (.builtin "list.append") [acc, x]) (fun _ s₅ => ∃ m, m < n ∧ I m s₅) (notedBy (model prog w) A env fun x s' => R (.error x) s') s₄) (notedBy (model prog w) A env fun x s' => R (.error x) s') s₃
            else ∃ m, m < n ∧ I m s₃) (notedBy (model prog w) A env fun x s' => R (.error x) s') s₂) (notedBy (model prog w) A env fun x s' => R (.error x) s') s₁') (notedBy (model prog w) A env fun x s' => R (.error x) s') s₁) (notedBy (model prog w) A env fun x s' => R (.error x) s') s)
    (n : Nat) (h : I n s) :
    codeAny (model prog w) A (.compLoop (.ListComp elt [⟨target, iter, ifs, 0⟩] scope pos) 0 it acc env) R s := by
  refine codeAny_loop rfl I (fun n s hI => ?_) n h
  show wpAny _ A ((compTurn (.ListComp elt [⟨target, iter, ifs, 0⟩] scope pos) 0 it acc env).onRaise (fun x => do noteFrame x env; theTreesLotGoes x)) _ _ s
  refine wpAny_noted ?_
  rw [compTurn_list]
  refine wpAny_bind (wpAny_standAt (wpAny_bind (wpAny_mono (turn n s hI) (fun r s₁ h₁ => ?_) fun _ _ h' => h')))
  cases r with
  | none => exact wpAny_pure h₁
  | some v =>
    refine wpAny_bind (wpAny_mono h₁ (fun _ s₁' h₁' => ?_) fun _ _ h' => h')
    refine wpAny_bind (wpAny_mono h₁' (fun _ s₂ h₂ => wpAny_bind (wpAny_mono h₂ (fun ok s₃ h₃ => ?_) fun _ _ h' => h')) fun _ _ h' => h')
    cases ok with
    | false => exact wpAny_pure ⟨rfl, h₃⟩
    | true =>
      exact wpAny_bind (wpAny_bind (wpAny_mono h₃ (fun x s₄ h₄ => wpAny_bind (wpAny_mono h₄ (fun _ s₅ h₅ => wpAny_pure (wpAny_pure ⟨rfl, h₅⟩)) fun _ _ h' => h')) fun _ _ h' => h'))

theorem ps_setCX {X : Cx} (hX : X = cxOf (CXb false P w) P w K mg base N0 qual scope f cd A outer s H E) {N : List Str} {mp : List (Option Nat)} {sc : Scope} {i : Nat} {y : Str} {py spos : Pos} {elt tg iter : Expr} {ifs : List Expr} {pos : Pos} {wi : TI} {g : TG} {ti : TT} {te : XK → TE} (hst : PG X (.Name y py) (gName i)) (hc : X.calm = true) (S : CompSc X.env.scope X.N N mp sc) (hi : PI X tg iter wi)
    (hb : ∀ s3 H3 C fp xe E', Passes (CXb true P w) (blkE X N sc s3 H3 C fp xe) E' → PG (blkE X N sc s3 H3 C fp xe) tg g ∧ PIf (blkE X N sc s3 H3 C fp xe) ifs ti ∧ PE (blkE X N sc s3 H3 C fp xe) elt (te E'))
    (hsw : swapsWith (.ListComp elt [⟨tg, iter, ifs, 0⟩] sc pos) (some (.Name y py)) spos.line X.env = pure true)
    (hs : ∀ x, foldedSetIterable iter X.env x = pure x := by intro _; rfl) : PS X (.Assign [.Name y py] (.ListComp elt [⟨tg, iter, ifs, 0⟩] sc pos) spos) (tAsg (tComp mp wi g ti (te E)) (gName i)) := by
  intro pins s0 σ H0 DD I h
  rw [exec_Assign_Name_used _ _ _ _ hsw]
  refine wpAny_bind (wpAny_standAt (wpAny_bind ?_))
  show wpAny _ X.A (do let _ ← comprehension (.ListComp elt [⟨tg, iter, ifs, 0⟩] sc pos) sc X.env _ (newList []) false (eval iter X.env) (some (assign (.Name y py) X.env))) _ _ s0
  refine wpAny_bind (wpAny_mono (wpAny_comprehension_free (use := some (assign (.Name y py) X.env)) (Q := fun _ s' => SP X pins DD .next s') rfl hs (closureFor_eq (fun x hx hf => I.ok.has x.1 (S.free x hx hf))) S.kind S.own
    (thn (hi pins s0 σ H0 _ I h) fun v s1 h1 => thn h1 fun itv s2 h2 => ?_)) (fun _ s' hq => wpAny_pure (wpAny_pure hq)) fun _ _ e => e)
  obtain ⟨it, fp, tn, J, H2, rfl, I2, T, st2, f2, q⟩ := h2
  refine wpAny_newObj_type (wpAny_newFunctionEnv S.nocell (by intro y hy; simp at hy) (fun h₁ hns₁ hsb₁ => ?_) S.kind)
  dsimp only at hns₁ hsb₁ ⊢
  have hD : H2 s2.heap.objs.size = none := I2.hok.fresh (Nat.le_refl _)
  obtain ⟨W, ⟨m0, w0⟩, turn⟩ := q _ hD
  have I3 : Inv X pins σ (upd H2 s2.heap.objs.size (.lst [])) { s2 with heap := s2.heap.push { cls := .type "list", dict := none, data := .seq ([] : List Value).toArray } } :=
    I2.laid (t' := s2.toks) (o := .lst []) (fun b o e => Heap.get?_push_of_some _ e) (Nat.le_refl _) ⟨Nat.zero_le _, [], 0, .nil, Heap.get?_push_size _ rfl⟩
  have hDfp : s2.heap.objs.size ∉ fp := fun z => by
    obtain ⟨o, e, _⟩ := T.obj 0 _ st2 _ z
    exact absurd (Heap.lt_size e) (Nat.lt_irrefl _)
  have hf3 : ∀ b ∈ fp, FpOk X pins (upd H2 s2.heap.objs.size (.lst [])) b ∧ b < (s2.heap.push { cls := .type "list", dict := none, data := .seq ([] : List Value).toArray }).objs.size := fun b hb => by
    obtain ⟨o, e, _⟩ := T.obj 0 _ st2 b hb
    have hlt := Heap.lt_size e
    obtain ⟨f0, f1⟩ := f2 b hb
    refine ⟨⟨?_, f1⟩, ?_⟩
    · rw [upd_ne (Nat.ne_of_lt hlt)]; exact f0
    · rw [Heap.size_push]; exact Nat.lt_succ_of_lt hlt
  let EE : Value → Shared → Prop := notedBy (model X.prog X.w) X.A (compEnvC sc (closL sc.names X.env.cells) (s2.heap.push { cls := .type "list", dict := none, data := .seq ([] : List Value).toArray }).objs.size X.env) (fun x s' => compPost (model X.prog X.w) X.A X.xe (some (assign (.Name y py) X.env)) (fun _ s' => SP X pins DD .next s') (.ref s2.heap.objs.size) (s2.heap.push { cls := .type "list", dict := none, data := .seq ([] : List Value).toArray }).objs.size (.error x) s')
  have IY := inv_blkE (xe := EE) (blk_inv (N := N) (mp := mp) (sc := sc) (t' := s2.toks + ([] : List (Str × Value)).length) S I3 hf3 hns₁ hsb₁)
  have old4 : ∀ b o, s2.heap.get? b = some o → h₁.get? b = some o := fun b o e => by
    have e3 : (s2.heap.push { cls := .type "list", dict := none, data := .seq ([] : List Value).toArray }).get? b = some o := Heap.get?_push_of_some _ e
    exact hsb₁.extBut b o (Nat.ne_of_lt (Heap.lt_size e3)) (Heap.get?_push_of_some _ e3)
  have st4 : tn 0 h₁ := T.keep _ _ _ st2 fun b _ o e => old4 b o e
  have fpY : ∀ {H' : Hp}, (∀ b ∈ fp, H' b = none) → ∀ b ∈ fp, FpOk (blkE X N sc { s2 with heap := s2.heap.push { cls := .type "list", dict := none, data := .seq ([] : List Value).toArray } } (upd H2 s2.heap.objs.size (.lst [])) (s2.heap.push { cls := .type "list", dict := none, data := .seq ([] : List Value).toArray }).objs.size fp EE) [] H' b := fun hn b hb => by
    obtain ⟨x1, x2⟩ := hf3 b hb
    obtain ⟨f0, f1, f2', f3, f4, f5⟩ := x1
    exact ⟨hn b hb, Nat.ne_of_lt x2, fun z => (List.mem_cons.mp (I3.stkSub b z)).elim f1 f2', .inl hb, fun x c e => f4 x c (closL_sound e), fun p hp => absurd (show p ∈ ([] : List (Addr × Obj)) from hp) (by simp)⟩
  have hps : Passes (CXb true P w) (blkE X N sc { s2 with heap := s2.heap.push { cls := .type "list", dict := none, data := .seq ([] : List Value).toArray } } (upd H2 s2.heap.objs.size (.lst [])) (s2.heap.push { cls := .type "list", dict := none, data := .seq ([] : List Value).toArray }).objs.size fp EE) E := fun pins1 σ1 H1 s1 e s6 I1 c1 => by
    have := comp_err (use := some (assign (.Name y py) X.env)) (Q := fun _ s' => SP X pins DD .next s') (acc := .ref s2.heap.objs.size) hX I3 hf3 I1 c1
    subst hX
    exact this
  obtain ⟨hg, hif, he⟩ := id (hb { s2 with heap := s2.heap.push { cls := .type "list", dict := none, data := .seq ([] : List Value).toArray } } (upd H2 s2.heap.objs.size (.lst [])) (s2.heap.push { cls := .type "list", dict := none, data := .seq ([] : List Value).toArray }).objs.size fp EE E hps)
  have loop : codeAny (model X.prog X.w) X.A (.compLoop (.ListComp elt [⟨tg, iter, ifs, 0⟩] sc pos) 0 (.ref it) (.ref s2.heap.objs.size) (compEnvC sc (closL sc.names X.env.cells) (s2.heap.push { cls := .type "list", dict := none, data := .seq ([] : List Value).toArray }).objs.size X.env))
      (compPost (model X.prog X.w) X.A X.xe (some (assign (.Name y py) X.env)) (fun _ s' => SP X pins DD .next s') (.ref s2.heap.objs.size) (s2.heap.push { cls := .type "list", dict := none, data := .seq ([] : List Value).toArray }).objs.size) { s2 with heap := h₁, toks := s2.toks + ([] : List (Str × Value)).length } := by
    refine codeAny_compLoop_goX (fun n s' => ∃ i σ' H', Inv (blkE X N sc { s2 with heap := s2.heap.push { cls := .type "list", dict := none, data := .seq ([] : List Value).toArray } } (upd H2 s2.heap.objs.size (.lst [])) (s2.heap.push { cls := .type "list", dict := none, data := .seq ([] : List Value).toArray }).objs.size fp EE) [] σ' H' s' ∧
      tn i s'.heap ∧ (∀ b ∈ fp, H' b = none) ∧ W i n σ' H') ?_ m0 ⟨0, _, _, IY, st4, fun b hb => (hf3 b hb).1.1, w0⟩
    rintro n s5 ⟨i, σ5, H5, I5, st5, fr5, w5⟩
    rcases turn i n σ5 H5 w5 with ⟨stop, qn⟩ | ⟨go, Nx, hN, step⟩
    · refine thn (T.done (blkE X N sc { s2 with heap := s2.heap.push { cls := .type "list", dict := none, data := .seq ([] : List Value).toArray } } (upd H2 s2.heap.objs.size (.lst [])) (s2.heap.push { cls := .type "list", dict := none, data := .seq ([] : List Value).toArray }).objs.size fp EE) rfl rfl rfl hc i [] s5 σ5 H5 _ I5 (fpY fr5) st5 stop) fun r s6 ⟨hr, I6⟩ => ?_
      subst hr
      obtain ⟨m6, hn6, _⟩ := id I6.loc
      have hCeq : (blkE X N sc { s2 with heap := s2.heap.push { cls := .type "list", dict := none, data := .seq ([] : List Value).toArray } } (upd H2 s2.heap.objs.size (.lst [])) (s2.heap.push { cls := .type "list", dict := none, data := .seq ([] : List Value).toArray }).objs.size fp EE).env.locals = (s2.heap.push { cls := .type "list", dict := none, data := .seq ([] : List Value).toArray }).objs.size := rfl
      rw [hCeq] at hn6
      have freeC : H5 (s2.heap.push { cls := .type "list", dict := none, data := .seq ([] : List Value).toArray }).objs.size = none := I6.free
      have fC : FpOk X pins H5 (s2.heap.push { cls := .type "list", dict := none, data := .seq ([] : List Value).toArray }).objs.size := I3.fpOk (Nat.le_refl _) freeC
      have un : Un (frs X.stack) fp (upd H2 s2.heap.objs.size (.lst [])) H5 (s2.heap.push { cls := .type "list", dict := none, data := .seq ([] : List Value).toArray }) s6.heap := I6.base
      have IX : Inv X pins σ H5 s6 := I3.call' (s' := s6) (ch := fp) I6.os un I6.hok I6.bare fun b hb => by
        obtain ⟨⟨f0, f1, f2', f3, f4, f5⟩, _⟩ := hf3 b hb
        exact ⟨f3, f1, f4, f5⟩
      obtain ⟨oC, esC, epC, eC, dC, rC⟩ := id hn6
      generalize hCC : (s2.heap.push { cls := .type "list", dict := none, data := .seq ([] : List Value).toArray }).objs.size = CC at *
      have IP := IX.pinned (fp := [CC]) (fun b hb => by
        have e : b = CC := by simpa using hb
        subst e; exact fC) (fun b hb => by
        have e : b = CC := by simpa using hb
        subst e; exact ⟨oC, eC, fun v z => by rw [dC] at z; cases z⟩)
      show wpAny _ X.A (assign (.Name y py) X.env (.ref s2.heap.objs.size)) _ _ s6
      refine thn (hst (pins ++ pinsAt [CC] s6.heap) s6 σ H5 (.ref s2.heap.objs.size) (.ref s2.heap.objs.size) (fun σ' H' => DD.nx σ' H' ∧ H' = H5) IP rfl ⟨qn, rfl⟩) fun _ s7 ⟨σ7, H7, I7, q7, e7⟩ => ?_
      subst e7
      have eC7 : s7.heap.get? CC = some oC := (I7.pin (CC, oC) (List.mem_append_right _ (List.mem_append_right _ (mem_pinsAt (by simp) eC)))).1
      refine ⟨m6, ⟨oC, esC, epC, eC7, dC, rC⟩, fun h8 hs8 => ⟨σ7, H7, ?_, q7⟩⟩
      exact I7.unpinned.turnedL (h' := h8) (t' := s7.toks) (ch := [CC]) (fun b o hb e => hs8.extBut b o (by simpa using hb) e) fun b hb => by
        have e : b = CC := by simpa using hb
        subst e; exact fC
    · refine thn (T.item (blkE X N sc { s2 with heap := s2.heap.push { cls := .type "list", dict := none, data := .seq ([] : List Value).toArray } } (upd H2 s2.heap.objs.size (.lst [])) (s2.heap.push { cls := .type "list", dict := none, data := .seq ([] : List Value).toArray }).objs.size fp EE) rfl rfl rfl hc i [] s5 σ5 H5 _ I5 (fpY fr5) st5 go) fun r s6 ⟨u, hr, h6⟩ => ?_
      subst hr
      refine thn h6 fun _ s7 ⟨x, H7, I7, r7, y7, st7, fr7⟩ => ?_
      have I7' := I7.pinned (fpY fr7) (T.obj _ _ st7)
      refine thn (hg _ s7 σ5 H7 x u _ I7' r7 (step x H7 y7)) fun _ s8 ⟨σ8, H8, I8, q8⟩ => ?_
      refine thn (hif _ s8 σ8 H8 _ I8 q8) fun ok s9 ⟨H9, I9, q9⟩ => ?_
      have again : ∀ {σ' : St} {H' : Hp} {s' : Shared}, Inv (blkE X N sc { s2 with heap := s2.heap.push { cls := .type "list", dict := none, data := .seq ([] : List Value).toArray } } (upd H2 s2.heap.objs.size (.lst [])) (s2.heap.push { cls := .type "list", dict := none, data := .seq ([] : List Value).toArray }).objs.size fp EE) ([] ++ pinsAt fp s7.heap) σ' H' s' → Nx σ' H' →
          ∃ m, m < n ∧ ∃ i σ' H', Inv (blkE X N sc { s2 with heap := s2.heap.push { cls := .type "list", dict := none, data := .seq ([] : List Value).toArray } } (upd H2 s2.heap.objs.size (.lst [])) (s2.heap.push { cls := .type "list", dict := none, data := .seq ([] : List Value).toArray }).objs.size fp EE) [] σ' H' s' ∧ tn i s'.heap ∧ (∀ b ∈ fp, H' b = none) ∧ W i m σ' H' := fun {σ' H' s'} J nx => by
        obtain ⟨m', hm, w'⟩ := hN σ' H' nx
        refine ⟨m', hm, i + 1, σ', H', J.unpinned, T.keep _ _ _ st7 fun b hb o e => (J.pin (b, o) (List.mem_append_right _ (List.mem_append_right _ (mem_pinsAt hb e)))).1, fun b hb => ?_, w'⟩
        obtain ⟨o, e, d⟩ := T.obj _ _ st7 b hb
        exact (J.pin (b, o) (List.mem_append_right _ (List.mem_append_right _ (mem_pinsAt hb e)))).2.1
      cases ok with
      | false =>
        rw [if_neg Bool.false_ne_true] at q9 ⊢
        exact again I9 q9
      | true =>
        rw [if_pos rfl] at q9 ⊢
        refine thn (he _ s9 σ8 H9 _ I9 q9) fun yv s10 ⟨y, H10, I10, ry, ys, hy, hl, nx⟩ => ?_
        refine thn (mt_append _ s10 σ8 H10 (.ref s2.heap.objs.size) [y] (.ref s2.heap.objs.size) [yv] (fun v H' => v = .non ∧ H' = upd H10 s2.heap.objs.size (.lst (ys ++ [y]))) I10 rfl (.cons ry .nil) ⟨_, ys, y, rfl, rfl, hy, hl, rfl, rfl⟩) fun _ s11 ⟨_, H11, I11, _, _, e11⟩ => ?_
        subst e11
        exact again I11 nx
  exact codeAny_compStart_list loop (T.self X.A 0 _ _ _ st4 loop)
end
end L2

set_option Elab.async false
set_option linter.all false
set_option maxRecDepth 100000
set_option maxHeartbeats 4000000
/-! The number of tokens never falls. -/
namespace L2
open PySem PySem.Spec PyProof.Rows
theorem runs_toks {M : Model} {Γ : PySem.Ctx} {p : Pos} {t : Sem Fin} {fs : List Frame} {s s' : Shared} {e : End} (h : Runs M Γ p t fs s e s') : s.toks ≤ s'.toks := by
  induction h with
  | fresh _ ih => exact Nat.le_of_succ_le ih
  | call _ _ i1 i2 => exact Nat.le_trans i1 i2
  | resumeFresh _ _ _ _ i1 i2 => exact Nat.le_trans i1 i2
  | resumeSuspended _ _ _ _ i1 i2 => exact Nat.le_trans i1 i2
  | segRet _ _ i1 i2 => exact Nat.le_trans i1 i2
  | segGen _ _ i1 i2 => exact Nat.le_trans i1 i2
  | segSuspGen _ _ _ _ i1 i2 => exact Nat.le_trans i1 i2
  | _ => first | exact Nat.le_refl _ | assumption
theorem wakes_toks {M : Model} {Γ : PySem.Ctx} {p : Pos} {g : Nat} {r : Resume} {s s' : Shared} {res : GenResult} (h : Wakes M Γ p g r s res s') : s.toks ≤ s'.toks := by
  unfold Wakes at h
  split at h
  · exact h.elim
  · split at h
    · obtain ⟨e, s1, h1, _, _, rfl⟩ := h
      have z := runs_toks h1
      exact z
    · rw [h.2]; exact Nat.le_refl _
    · rw [h.2]; exact Nat.le_refl _
  · obtain ⟨e, s1, h1, _, _, rfl⟩ := h
    have z := runs_toks h1
    exact z
  · rw [h.2]; exact Nat.le_refl _
  · rw [h.2]; exact Nat.le_refl _
theorem wp_toks {α : Type} {M : Model} {Γ : PySem.Ctx} {n : Nat} {t : Sem α} : ∀ {Q : α → Pos → Shared → Prop} {E : Value → Pos → Shared → Prop} {p : Pos} {s : Shared}, Sem.wp M Γ t Q E p s → n ≤ s.toks →
    Sem.wp M Γ t (fun a p s => Q a p s ∧ n ≤ s.toks) (fun e p s => E e p s ∧ n ≤ s.toks) p s := by
  induction t with
  | pure a => exact fun w q => ⟨w, q⟩
  | raise e => exact fun w q => ⟨w, q⟩
  | unsupported w => exact fun w q => w.elim
  | finish e => exact fun w q => w.elim
  | rule t k ih => exact fun w q => ih () w q
  | «at» p k ih => exact fun w q => ih () w q
  | load a p k ih => exact fun ⟨o, e, w⟩ q => ⟨o, e, ih o w q⟩
  | update a p u k ih => exact fun ⟨e, w⟩ q => ⟨e, ih () w q⟩
  | alloc o k ih => exact fun w q => ih _ w q
  | loadIfAlive a k ih => exact fun w q => ih _ w q
  | point l k ih => exact fun w q => ih () w q
  | register a k ih => exact fun w q => w.elim
  | fresh k ih => exact fun w q => ih _ w (Nat.le_succ_of_le q)
  | ask k ih => exact fun w q => ih _ w q
  | choose s n k ih => exact fun ⟨e, w⟩ q => ⟨e, ih _ w q⟩
  | os r l k ih => exact fun w q => ih _ w q
  | call c h' g l k ih => exact fun ⟨r, s1, h1, w⟩ q => ⟨r, s1, h1, ih r w (Nat.le_trans q (runs_toks h1))⟩
  | handled o k ih => exact fun w q => ih _ w q
  | newGen c k ih => exact fun w q => ih _ w q
  | genState c k ih => exact fun ⟨st, e, w⟩ q => ⟨st, e, ih _ w q⟩
  | resume g r l k ih => exact fun ⟨res, s1, h1, w⟩ q => ⟨res, s1, h1, ih res w (Nat.le_trans q (wakes_toks h1))⟩
  | yield v g l k ih => exact fun w q => w.elim
  | stack k ih => exact fun w q => ih _ w q
  | fork c k ih => exact fun w q => w.elim
  | thread k ih => exact fun w q => ih _ w q
  | await a t b l k ih => exact fun w q => w.elim
theorem tk_any {α : Type} {M : Model} {A : Around} {n : Nat} {t : Sem α} {Q : α → Shared → Prop} {E : Value → Shared → Prop} {s : Shared} (w : wpAny M A t Q E s) (q : n ≤ s.toks) :
    wpAny M A t (fun a s => Q a s ∧ n ≤ s.toks) (fun e s => E e s ∧ n ≤ s.toks) s := fun Γ p hΓ => wp_toks (w Γ p hΓ) q
/-- every way through the tree takes a token -/
def Kf {α : Type} : Sem α → Prop
  | .pure _ => False
  | .raise _ => True
  | .unsupported _ => True
  | .finish _ => True
  | .rule _ k => Kf (k ())
  | .at _ k => Kf (k ())
  | .load _ _ k => ∀ o, Kf (k o)
  | .update _ _ _ k => Kf (k ())
  | .alloc _ k => ∀ a, Kf (k a)
  | .loadIfAlive _ k => ∀ o, Kf (k o)
  | .point _ k => Kf (k ())
  | .register _ _ => True
  | .fresh _ => True
  | .ask k => ∀ x, Kf (k x)
  | .choose _ _ k => ∀ x, Kf (k x)
  | .os _ _ k => ∀ x, Kf (k x)
  | .call _ _ _ _ k => ∀ x, Kf (k x)
  | .handled _ k => ∀ x, Kf (k x)
  | .newGen _ k => ∀ x, Kf (k x)
  | .genState _ k => ∀ x, Kf (k x)
  | .resume _ _ _ k => ∀ x, Kf (k x)
  | .yield _ _ _ _ => True
  | .stack k => ∀ x, Kf (k x)
  | .fork _ _ => True
  | .thread k => ∀ x, Kf (k x)
  | .await _ _ _ _ _ => True
theorem kf_right {α β : Type} {t : Sem α} {f : α → Sem β} (g : ∀ a, Kf (f a)) : Kf (t >>= f) := by
  show Kf (t.bind f)
  induction t with
  | pure a => exact g a
  | rule t k ih => exact ih ()
  | «at» p k ih => exact ih ()
  | update a p u k ih => exact ih ()
  | point l k ih => exact ih ()
  | load a p k ih => exact fun o => ih o
  | alloc o k ih => exact fun o => ih o
  | loadIfAlive a k ih => exact fun o => ih o
  | ask k ih => exact fun o => ih o
  | choose s n k ih => exact fun o => ih o
  | os q l k ih => exact fun o => ih o
  | call c h' g l k ih => exact fun o => ih o
  | handled o k ih => exact fun o => ih o
  | newGen c k ih => exact fun o => ih o
  | genState c k ih => exact fun o => ih o
  | resume g r l k ih => exact fun o => ih o
  | stack k ih => exact fun o => ih o
  | thread k ih => exact fun o => ih o
  | _ => trivial
theorem kf_left {α β : Type} {t : Sem α} {f : α → Sem β} (h : Kf t) : Kf (t >>= f) := by
  show Kf (t.bind f)
  induction t with
  | pure a => exact h.elim
  | rule t k ih => exact ih () h
  | «at» p k ih => exact ih () h
  | update a p u k ih => exact ih () h
  | point l k ih => exact ih () h
  | load a p k ih => exact fun o => ih o (h o)
  | alloc o k ih => exact fun o => ih o (h o)
  | loadIfAlive a k ih => exact fun o => ih o (h o)
  | ask k ih => exact fun o => ih o (h o)
  | choose s n k ih => exact fun o => ih o (h o)
  | os q l k ih => exact fun o => ih o (h o)
  | call c h' g l k ih => exact fun o => ih o (h o)
  | handled o k ih => exact fun o => ih o (h o)
  | newGen c k ih => exact fun o => ih o (h o)
  | genState c k ih => exact fun o => ih o (h o)
  | resume g r l k ih => exact fun o => ih o (h o)
  | stack k ih => exact fun o => ih o (h o)
  | thread k ih => exact fun o => ih o (h o)
  | _ => trivial
theorem kf_wp {α : Type} {M : Model} {Γ : PySem.Ctx} {n : Nat} {t : Sem α} : ∀ {Q : α → Pos → Shared → Prop} {E : Value → Pos → Shared → Prop} {p : Pos} {s : Shared}, Kf t → Sem.wp M Γ t Q E p s → n ≤ s.toks →
    Sem.wp M Γ t (fun a p s => Q a p s ∧ n < s.toks) E p s := by
  induction t with
  | pure a => exact fun h w q => h.elim
  | raise e => exact fun h w q => w
  | unsupported w => exact fun h w q => w.elim
  | finish e => exact fun h w q => w.elim
  | rule t k ih => exact fun h w q => ih () h w q
  | «at» p k ih => exact fun h w q => ih () h w q
  | load a p k ih => exact fun h ⟨o, e, w⟩ q => ⟨o, e, ih o (h o) w q⟩
  | update a p u k ih => exact fun h ⟨e, w⟩ q => ⟨e, ih () h w q⟩
  | alloc o k ih => exact fun h w q => ih _ (h _) w q
  | loadIfAlive a k ih => exact fun h w q => ih _ (h _) w q
  | point l k ih => exact fun h w q => ih () h w q
  | register a k ih => exact fun h w q => w.elim
  | fresh k ih =>
    intro Q E p s h w q
    have w' : Sem.wp M Γ (k s.toks) Q E p { s with toks := s.toks + 1 } := w
    exact Sem.wp_mono M Γ _ (fun _ _ _ z => z) (fun _ _ _ z => z.1) p { s with toks := s.toks + 1 } (wp_toks (n := n + 1) w' (Nat.succ_le_succ q))
  | ask k ih => exact fun h w q => ih _ (h _) w q
  | choose s n k ih => exact fun h ⟨e, w⟩ q => ⟨e, ih _ (h _) w q⟩
  | os r l k ih => exact fun h w q => ih _ (h _) w q
  | call c h' g l k ih => exact fun h ⟨r, s1, h1, w⟩ q => ⟨r, s1, h1, ih r (h r) w (Nat.le_trans q (runs_toks h1))⟩
  | handled o k ih => exact fun h w q => ih _ (h _) w q
  | newGen c k ih => exact fun h w q => ih _ (h _) w q
  | genState c k ih => exact fun h ⟨st, e, w⟩ q => ⟨st, e, ih _ (h _) w q⟩
  | resume g r l k ih => exact fun h ⟨res, s1, h1, w⟩ q => ⟨res, s1, h1, ih res (h res) w (Nat.le_trans q (wakes_toks h1))⟩
  | yield v g l k ih => exact fun h w q => w.elim
  | stack k ih => exact fun h w q => ih _ (h _) w q
  | fork c k ih => exact fun h w q => w.elim
  | thread k ih => exact fun h w q => ih _ (h _) w q
  | await a t b l k ih => exact fun h w q => w.elim
theorem kf_any {α : Type} {M : Model} {A : Around} {t : Sem α} {Q : α → Shared → Prop} {E : Value → Shared → Prop} {s : Shared} (h : Kf t) (w : wpAny M A t Q E s) :
    wpAny M A t (fun a s' => Q a s' ∧ 0 < s'.toks) E s := fun Γ p hΓ => kf_wp (n := 0) h (w Γ p hΓ) (Nat.zero_le _)
end L2

set_option Elab.async false
set_option linter.all false
set_option maxRecDepth 100000
set_option maxHeartbeats 4000000
/-! Texts whose tokens differ: str.replace. -/
namespace L2
open PySem PySem.Spec PyProof.Rows
theorem kf_keep {α : Type} {vs : List Value} {t : Sem α} (h : Kf t) : Kf (t.keep vs) := by
  induction t with
  | pure a => exact h
  | rule t k ih => exact ih () h
  | «at» p k ih => exact ih () h
  | update a p u k ih => exact ih () h
  | point l k ih => exact ih () h
  | load a p k ih => exact fun o => ih o (h o)
  | alloc o k ih => exact fun o => ih o (h o)
  | loadIfAlive a k ih => exact fun o => ih o (h o)
  | ask k ih => exact fun o => ih o (h o)
  | choose s n k ih => exact fun o => ih o (h o)
  | os q l k ih => exact fun o => ih o (h o)
  | call c h' g l k ih => exact fun o => ih o (h o)
  | handled o k ih => exact fun o => ih o (h o)
  | newGen c k ih => exact fun o => ih o (h o)
  | genState c k ih => exact fun o => ih o (h o)
  | resume g r l k ih => exact fun o => ih o (h o)
  | stack k ih => exact fun o => ih o (h o)
  | thread k ih => exact fun o => ih o (h o)
  | _ => trivial
theorem kf_holding {α : Type} {vs : List Value} {t : Sem α} (h : Kf t) : Kf (holding vs t) := by
  unfold holding
  split
  · exact h
  · exact kf_keep h
theorem kf_test {l : Expr} {i : Int} {k : Nat} {p2 pos : Pos} {env : Env} {x : Sem Value} : Kf (isTrue (.Compare l [.Eq] [.Constant (.int i) k p2] pos) env x) := by
  show Kf (eval l env >>= fun v => testChain pos v [.Eq] (markedEach [.Eq] [.Constant (.int i) k p2] (evalEach [.Constant (.int i) k p2] env)))
  refine kf_right fun v => ?_
  show Kf (holding [v] (eval (.Constant (.int i) k p2) env) >>= _)
  exact kf_left (kf_holding (show Kf (Sem.fresh _) from trivial))
section
variable {X : Cx}
/-- where a token was taken already -/
def PE0 (X : Cx) (e : Expr) (te : TE) : Prop := ∀ (pins : List (Addr × Obj)) (s : Shared) (σ : St) (H : Hp) (Q : VK), Inv X pins σ H s → 0 < s.toks → te σ H Q → wpAny (model X.prog X.w) X.A (eval e X.env) (EP X pins σ Q) X.xe s
def PA0 (X : Cx) (es : List Expr) (t : TA) : Prop := ∀ (pos : Pos) (pins : List (Addr × Obj)) (s : Shared) (σ : St) (H : Hp) (Q : List V → Hp → Prop), Inv X pins σ H s → 0 < s.toks → t σ H Q →
  wpAny (model X.prog X.w) X.A (spliced (backTo pos (starEach es X.env))) (fun us s' => ∃ xs H', Inv X pins σ H' s' ∧ Vals xs us ∧ Q xs H') X.xe s
/-- a text made here: its token is not below n -/
def PEt (X : Cx) (e : Expr) (te : TE) : Prop := ∀ (pins : List (Addr × Obj)) (s : Shared) (σ : St) (H : Hp) (Q : VK) (n : Nat), Inv X pins σ H s → n ≤ s.toks → te σ H Q → wpAny (model X.prog X.w) X.A (eval e X.env) (fun v s' => EP X pins σ Q v s' ∧ ∀ z tk, v = .str z tk → n ≤ tk) X.xe s
def PAt (X : Cx) (es : List Expr) (t : TA) : Prop := ∀ (pos : Pos) (pins : List (Addr × Obj)) (s : Shared) (σ : St) (H : Hp) (Q : List V → Hp → Prop) (n : Nat), Inv X pins σ H s → n ≤ s.toks → t σ H Q →
  wpAny (model X.prog X.w) X.A (spliced (backTo pos (starEach es X.env))) (fun us s' => (∃ xs H', Inv X pins σ H' s' ∧ Vals xs us ∧ Q xs H') ∧ ∀ u ∈ us, ∀ z tk, u = .str z tk → n ≤ tk) X.xe s
variable {e : Expr} {es : List Expr} {te : TE} {t : TA}
theorem ps_if0 {c : Expr} {b : List Stmt} {tc : TT} {u : TS} {pos rpos : Pos} (hc : PT X c tc) (kf : Kf (isTrue c X.env (eval c X.env))) (ha : PE0 X e te) (hb : PSs X b u) : PS X (.If c [.Return (some e) rpos] b pos) (tIfS tc (tRet te) u) := by
  intro pins s σ H D I h
  refine wpAny_If (wpAny_mono (kf_any kf (hc pins s σ H _ I h)) (fun d s1 ⟨⟨H1, I1, q1⟩, tk⟩ => ?_) fun _ _ z => z)
  cases d with
  | true =>
    refine wpAny_execs_cons (wpAny_Return_some ?_)
    exact thn (ha pins s1 σ H1 _ I1 tk q1) fun v s2 ⟨x, H2, I2, r2, q2⟩ => ⟨x, σ, H2, I2, r2, q2⟩
  | false => exact hb pins s1 σ H1 D I1 q1
theorem pe0_lst {pos : Pos} (h : PA0 X es t) : PE0 X (.List es pos) (tLst t) := by
  intro pins s σ H Q I hk hq
  refine wpAny_List_spliced (thn (h pos pins s σ H _ I hk hq) fun us s1 ⟨xs, H1, I1, r, z, q⟩ => ⟨by rw [← r.length]; exact z, ?_⟩)
  have hf : H1 s1.heap.objs.size = none := I1.hok.fresh (Nat.le_refl _)
  exact ⟨.ref s1.heap.objs.size, upd H1 s1.heap.objs.size (.lst xs), I1.laid (t' := s1.toks) (fun b u e => Heap.get?_push_of_some _ e) (Nat.le_refl _) ⟨z, us, 0, r, Heap.get?_push_size _ rfl⟩, rfl, q _ hf⟩
theorem pa0_cons (ha : PE X e te) (hr : PA0 X es t) (hs : starEach (e :: es) X.env = (false, eval e X.env) :: starEach es X.env := by rfl) : PA0 X (e :: es) (tCons te t) := by
  intro pos pins s σ H Q I hk h
  rw [hs]
  show wpAny _ _ (spliced ((false, eval e X.env) :: backTo pos (starEach es X.env))) _ _ s
  refine Calls.spliced_cons (wpAny_mono (tk_any (n := 1) (ha pins s σ H _ I h) hk) (fun u s1 ⟨⟨x, H1, I1, r1, q1⟩, k1⟩ => ?_) fun _ _ z => z.1)
  exact thn (hr pos pins s1 σ H1 _ I1 k1 q1) fun us s2 ⟨xs, H2, I2, r2, q2⟩ => ⟨x :: xs, H2, I2, .cons r1 r2, q2⟩
theorem pa0_one (ha : PE0 X e te) (hs : starEach [e] X.env = [(false, eval e X.env)] := by rfl) : PA0 X [e] (tCons te tNil) := by
  intro pos pins s σ H Q I hk h
  rw [hs]
  show wpAny _ _ (spliced [(false, eval e X.env)]) _ _ s
  refine Calls.spliced_cons (thn (ha pins s σ H _ I hk h) fun u s1 ⟨x, H1, I1, r1, q1⟩ => ?_)
  exact Calls.spliced_nil ⟨[x], H1, I1, .cons r1 .nil, q1⟩
theorem pe0_ix {a b : Expr} {ta tb : TE} {pos : Pos} {r : R2} (hr : IxR X r) (ha : PE0 X a ta) (hb : PE X b tb) (hs : PlainIx b) : PE0 X (.Subscript a b pos) (tOp r ta tb) := by
  intro pins s σ H Q I hk h
  refine Subscript_ (thn (ha pins s σ H _ I hk h) fun v s1 ⟨x, H1, I1, r1, q1⟩ => ?_)
  refine thn (hb pins s1 σ H1 _ I1 q1) fun u s2 ⟨y, H2, I2, r2, q2⟩ => ?_
  exact hr a b pins s2 σ H2 x y v u Q I2 r1 r2 q2 (hs _ _)
theorem pet_str {x j pos} : PEt X (.Constant (.str x) j pos) (tC (.str x)) := fun _ _ _ H _ n I hn h => Calls.Constant_str ⟨⟨.str x, H, I.tok _, ⟨_, rfl⟩, h⟩, fun z tk e => by cases e; exact hn⟩
theorem pat_nil : PAt X [] tNil := fun _ _ _ _ H Q n I hn h => Calls.spliced_nil ⟨⟨[], H, I, .nil, h⟩, fun u hu => by simp at hu⟩
theorem pat_cons (ha : PEt X e te) (hr : PAt X es t) (hs : starEach (e :: es) X.env = (false, eval e X.env) :: starEach es X.env := by rfl) : PAt X (e :: es) (tCons te t) := by
  intro pos pins s σ H Q n I hn h
  rw [hs]
  show wpAny _ _ (spliced ((false, eval e X.env) :: backTo pos (starEach es X.env))) _ _ s
  refine Calls.spliced_cons (wpAny_mono (tk_any (n := n) (ha pins s σ H _ n I hn h) hn) (fun u s1 ⟨⟨⟨x, H1, I1, r1, q1⟩, f1⟩, k1⟩ => ?_) fun _ _ z => z.1)
  refine thn (hr pos pins s1 σ H1 _ n I1 k1 q1) fun us s2 ⟨⟨xs, H2, I2, r2, q2⟩, f2⟩ => ⟨⟨x :: xs, H2, I2, .cons r1 r2, q2⟩, fun u' hu => ?_⟩
  rcases List.mem_cons.mp hu with z | z
  · rw [z]; exact f1
  · exact f2 u' z
/-- an item of a display of texts: the display itself is forgotten -/
def tIxC (t : TA) (tb : TE) : TE := fun σ H Q => t σ H fun xs H1 => xs.length ≤ 1000 ∧ tb σ H1 fun y H2 => ∃ i : Nat, ∃ v, y = .int (i : Int) ∧ xs[i]? = some v ∧ Q v H2
theorem pet_ixc {b : Expr} {tb : TE} {lpos pos : Pos} (ha : PAt X es t) (hb : PE X b tb) (hs : PlainIx b) : PEt X (.Subscript (.List es lpos) b pos) (tIxC t tb) := by
  intro pins s σ H Q n I hn h
  refine Subscript_ (wpAny_List_spliced (thn (ha lpos pins s σ H _ n I hn h) fun us s1 ⟨⟨xs, H1, I1, r, z, q⟩, f1⟩ => ⟨by rw [← r.length]; exact small z, ?_⟩))
  have hf : H1 s1.heap.objs.size = none := I1.hok.fresh (Nat.le_refl _)
  have kp : ∀ b o, s1.heap.get? b = some o → (s1.heap.push { cls := .type "list", data := .seq us.toArray }).get? b = some o := fun b o e => Heap.get?_push_of_some _ e
  have I2 : Inv X pins σ H1 { s1 with heap := s1.heap.push { cls := .type "list", data := .seq us.toArray } } := I1.call' (s' := { s1 with heap := s1.heap.push { cls := .type "list", data := .seq us.toArray } }) (ch := []) rfl (Un.kept kp) (I1.hok.kept kp) I1.bare fun b hb => by simp at hb
  have eo : (s1.heap.push { cls := .type "list", data := .seq us.toArray }).get? s1.heap.objs.size = some { cls := .type "list", data := .seq us.toArray } := Heap.get?_push_size _ rfl
  have IP := I2.pinned (fp := [s1.heap.objs.size]) (fun b hb => by
    have e : b = s1.heap.objs.size := by simpa using hb
    subst e; exact I1.fpOk (Nat.le_refl _) hf) (fun b hb => by
    have e : b = s1.heap.objs.size := by simpa using hb
    subst e; exact ⟨_, eo, fun v z => by cases z⟩)
  refine thn (hb _ _ σ H1 _ IP q) fun u s2 ⟨y, H2, I3, r2, i, v, ey, hv, q2⟩ => ?_
  subst ey
  obtain ⟨tk, rfl⟩ := r2
  have e2 := (I3.pin (s1.heap.objs.size, { cls := .type "list", data := .seq us.toArray }) (List.mem_append_right _ (List.mem_append_right _ (mem_pinsAt (by simp) eo)))).1
  obtain ⟨w, ew, rw'⟩ := r.get hv
  have hi : i < 1000 := by
    have := (List.getElem?_eq_some_iff.mp hv).1
    omega
  refine item_listR (items := us.toArray) ⟨_, e2, rfl, _, rfl⟩ (by omega) (by omega) (x := w) ?_ ⟨⟨v, H2, I3.unpinned, rw', q2⟩, fun z tk e => f1 w (List.mem_of_getElem? ew) z tk e⟩ (hs _ _)
  simpa using ew
def tRepl (y : List Nat) (to t2 : TE) : TE := fun σ H Q => to σ H fun x H1 => ∃ a, x = .str (S a) ∧ a.length ≤ 1000 ∧ t2 σ H1 fun z H2 => ∃ b, z = .str (S b) ∧ b.length ≤ 10 ∧ b ≠ y ∧ Q (.str (Txt.replace (S a) (S y) (S b))) H2
theorem pe0_repl {o e2 : Expr} {to t2 : TE} {y : List Nat} {ys : Str} {j : Nat} {cp apos cpos : Pos} (hy : ys = S y) (ho : PE X o to) (h2 : PEt X e2 t2)
    (hbase : attributeBase o "replace" X.env (eval o X.env) = eval o X.env := by rfl)
    (hfew : ((backTo cpos (starEach [.Constant (.str ys) j cp, e2] X.env)).all (fun x => !x.1) && (backToKw cpos (keywordEach [] X.env)).all (fun x => x.1.isSome)
      && decide ([Expr.Constant (.str ys) j cp, e2].length + ([] : List Keyword).length + (if ([] : List Keyword).isEmpty then 0 else 1) < 30)) = true := by rfl)
    (hline : (apos.endLine == cpos.line) = true := by rfl) (hs : starEach [.Constant (.str ys) j cp, e2] X.env = [(false, eval (.Constant (.str ys) j cp) X.env), (false, eval e2 X.env)] := by rfl) :
    PE0 X (.Call (.Attribute o "replace" apos) [.Constant (.str ys) j cp, e2] [] cpos) (tRepl y to t2) := by
  subst hy
  intro pins s σ H Q I hk h
  refine wpAny_Call_method_late hbase hfew hline rfl (wpAny_mono (tk_any (n := 1) (ho pins s σ H _ I h) hk) (fun v s1 ⟨⟨x, H1, I1, r1, a, ex, ha, q1⟩, k1⟩ => ?_) fun _ _ z => z.1)
  subst ex
  obtain ⟨g1, g2⟩ := tyV_is (T := "str") I1 r1 (show tyV X.K "str" (.str (S a)) H1 from rfl)
  obtain ⟨tx, rfl⟩ := r1
  refine ⟨"str", "str.replace", PySem.F.plainAttrs_str, PySem.F.slot_str_replace, PySem.F.type_str_replace, g1, g2, ?_⟩
  rw [hs]
  refine Calls.callWith_builtin rfl (Calls.evalArgs_plain ?_)
  show wpAny _ _ (spliced [(false, eval (.Constant (.str (S y)) j cp) X.env), (false, eval e2 X.env)]) _ _ _
  refine Calls.spliced_cons (Calls.Constant_str (Calls.spliced_cons ?_))
  refine thn (h2 pins { s1 with toks := s1.toks + 1 } σ H1 _ (s1.toks + 1) (I1.tok _) (Nat.le_refl _) q1) fun v2 s2 ⟨⟨z, H2, I2, r2, b, ez, hb, hne, q2⟩, f2⟩ => Calls.spliced_nil ?_
  subst ez
  obtain ⟨tk, rfl⟩ := r2
  have hk2 := f2 _ _ rfl
  refine SC.replaceW (u := s1.toks) (v := tk) (Nat.ne_of_gt k1) (Nat.ne_of_gt (Nat.lt_of_lt_of_le (Nat.succ_pos _) hk2)) (Nat.ne_of_lt hk2) ?_ ?_ ?_ fun t' k => ⟨.str (Txt.replace (S a) (S y) (S b)), H2, I2.tok _, ⟨_, rfl⟩, q2⟩
  · refine Bool.eq_false_iff.mpr fun z => hne ?_
    exact (S_inj.mp (eq_of_beq z)).symm
  · rw [S_length]; omega
  · rw [S_length]; omega
end
end L2

set_option Elab.async false
set_option linter.all false
set_option maxRecDepth 100000
set_option maxHeartbeats 4000000
/-! The colon and its blank replaced. -/
namespace My
open PySem L2 PySem.Spec PyProof.Rows Wr Builtin Builtin.Str
theorem S_ext {x : Str} {l : List Nat} (h : x.cps.toList = (S l).cps.toList) : x = S l := by
  rw [← S_of x, h, S_of]
theorem at_iff {u v : List Nat} (hu : 58 ∉ u) (hv : 58 ∉ v) (i : Nat) : StrLaws.At (S (u ++ 58 :: 32 :: v)) (S [58, 32]) (S (u ++ 58 :: 32 :: v)).length i ↔ i = u.length := by
  unfold StrLaws.At
  rw [StrLaws.subAt_eq, S_length, S_length, S_cps, S_cps]
  constructor
  · rintro ⟨h1, h2⟩
    have h2 := eq_of_beq h2
    have h0 : (u ++ 58 :: 32 :: v)[i]? = some 58 := by
      have := congrArg (fun l => l[0]?) h2
      simp only [List.length_cons, List.length_nil] at this
      rw [List.getElem?_take_of_lt (by decide), List.getElem?_drop] at this
      simpa using this
    rcases Nat.lt_trichotomy i u.length with z | z | z
    · rw [List.getElem?_append_left z] at h0
      exact absurd (List.mem_of_getElem? h0) hu
    · exact z
    · rw [List.getElem?_append_right (Nat.le_of_lt z)] at h0
      obtain ⟨j, hj⟩ : ∃ j, i - u.length = j + 1 := ⟨i - u.length - 1, by omega⟩
      rw [hj, List.getElem?_cons_succ] at h0
      have := List.mem_of_getElem? h0
      rcases List.mem_cons.mp this with q | q
      · cases q
      · exact absurd q hv
  · rintro rfl
    refine ⟨by simp, ?_⟩
    rw [List.drop_left]
    rfl
theorem replace_line {u v b : List Nat} (hu : 58 ∉ u) (hv : 58 ∉ v) : Txt.replace (S (u ++ 58 :: 32 :: v)) (S [58, 32]) (S b) = S (u ++ b ++ v) := by
  obtain ⟨f, hc, hf⟩ := StrLaws.occ_tight (S (u ++ 58 :: 32 :: v)) (S [58, 32]) (by rw [S_length]; decide)
  have occ : occurrences (S (u ++ 58 :: 32 :: v)) (S [58, 32]) 0 (S (u ++ 58 :: 32 :: v)).length ((S (u ++ 58 :: 32 :: v)).length + 1) = [u.length] := by
    generalize occurrences (S (u ++ 58 :: 32 :: v)) (S [58, 32]) 0 (S (u ++ 58 :: 32 :: v)).length ((S (u ++ 58 :: 32 :: v)).length + 1) = l at hc
    cases l with
    | nil =>
      have e : f = 0 := hc
      exact absurd ((at_iff hu hv u.length).mpr rfl) (hf _ (by omega))
    | cons c r =>
      obtain ⟨_, h1, _, h2⟩ := hc
      obtain rfl := (at_iff hu hv c).mp h1
      cases r with
      | nil => rfl
      | cons d r' =>
        obtain ⟨h3, h4, _⟩ := h2
        have := (at_iff hu hv d).mp h4
        rw [S_length] at h3
        simp at h3
        omega
  unfold Txt.replace
  rw [occ, if_neg (by rw [S_length]; simp)]
  rw [StrLaws.glued_eq_join]
  have e : partsBetween (S (u ++ 58 :: 32 :: v)) [u.length] (S [58, 32]).length = [S u, S v] := by
    unfold partsBetween
    simp only [List.map_cons, List.map_nil, List.cons_append, List.nil_append, List.zip_cons_cons, List.zip_nil_right]
    have e1 : strSub (S (u ++ 58 :: 32 :: v)) 0 u.length = S u := by
      refine S_ext ?_
      rw [StrLaws.strSub_toList, S_cps, S_cps, List.drop_zero, Nat.sub_zero, List.take_left]
    have e2 : strSub (S (u ++ 58 :: 32 :: v)) (u.length + (S [58, 32]).length) (S (u ++ 58 :: 32 :: v)).length = S v := by
      refine S_ext ?_
      rw [StrLaws.strSub_toList, S_length, S_length, S_cps, S_cps]
      show (((u ++ 58 :: 32 :: v).drop (u.length + 2)).take _) = v
      rw [List.drop_append, List.drop_eq_nil_of_le (by omega), List.nil_append, show u.length + 2 - u.length = 2 by omega]
      show List.take _ v = v
      exact List.take_of_length_le (by simp; omega)
    rw [e1, e2]
  rw [e]
  have := join_S b [u, v]
  show Str.join (S b) ([u, v].map S) = _
  rw [this]
  rfl
end My

set_option Elab.async false
set_option linter.all false
set_option maxRecDepth 100000
set_option maxHeartbeats 4000000
/-! Names of rules for k20. -/
namespace L2
open PySem PySem.Spec PyProof.Rows PySem.W
structure DfY (P : Program) (w : World) (K : PySem.W.Frag) (mg : Str → Option Value) (base : Heap) (x : Str) (k : Nat) (f : Addr) (fd : FuncData) (ps : List Str) (sp : Sp) : Prop where
  ok : FnOk P w K mg base (CXb false P w) k f fd ps sp
  m : mg x = some (.ref f)
  kp : PySem.W.keepIn K (.ref f) = true
  b : Binds K fd ps []
theorem pe_callY {X : Cx} {E : XK} {x : Str} {k k' : Nat} {f : Addr} {fd : FuncData} {ps : List Str} {sp : Sp} {p pos : Pos} {e : Expr} {es : List Expr} {t : TA} (hx : Passes (CXb false X.prog X.w) X E) (D : DfY X.prog X.w X.K X.mg X.base x k f fd ps sp) (hr : Room k' X.A) (hg : Gl X x) (ha : PA X (e :: es) t) (hk : k ≤ k' := by decide)
    (hdb : (x == ("__debug__" : Str)) = false := by decide) (he : starEach (e :: es) X.env = (false, eval e X.env) :: starEach es X.env := by rfl) (hpl : (backTo pos (starEach es X.env)).any (·.1) = false := by rfl) :
    PE X (.Call (.Name x p) (e :: es) [] pos) (tCall sp [] E t) := pe_call D.ok (hr.mono hk) hg D.m D.kp D.b .nil hx ha hdb he hpl
theorem pet_strS {X : Cx} (l : List Nat) {x : Str} {j : Nat} {pos : Pos} (h : x = S l := by decide +kernel) : PEt X (.Constant (.str x) j pos) (tC (.str (S l))) := by
  subst h
  exact pet_str
section
variable {X : Cx} {N : List Str} {sc : Scope} {s3 : Shared} {H3 : Hp} {C : Addr} {fp : List Addr} {xe : Value → Shared → Prop}
theorem pvbE (i : Nat) {x : Str} {pos : Pos} (hN : N[i]? = some x := by rfl) (hv : sc.names.lookup x = some .local ∨ sc.names.lookup x = some .free := by first | exact Or.inl rfl | exact Or.inr rfl)
    (hd : (x == ("__debug__" : Str)) = false := by decide) (hcd : (x == ("__classdict__" : Str)) = false := by decide) : PE (blkE X N sc s3 H3 C fp xe) (.Name x pos) (tVar i) :=
  pe_var (X := blkE X N sc s3 H3 C fp xe) hN (vis_blk (X := X) hv) hd hcd
theorem glbE {x : Str} (h : sc.names.lookup x = some .globalImplicit) : Gl (blkE X N sc s3 H3 C fp xe) x := relabel_some h (by decide)
theorem pgbE {i : Nat} {x : Str} {pos : Pos} (hnd : N.Nodup) (hN : N[i]? = some x) (h : sc.names.lookup x = some .local) : PG (blkE X N sc s3 H3 C fp xe) (.Name x pos) (gName i) :=
  pg_name (X := blkE X N sc s3 H3 C fp xe) hnd hN (.inl (relabel_some h (by decide))) (.inr (relabel_some h (by decide)))
end
section
variable {P : Program} {w : World} {K : PySem.W.Frag} {mg : Str → Option Value} {base : Heap} {N0 : List Str} {qual : Str} {scope : Scope} {f : Addr} {cd : Value} {A : Around} {outer : List Env} {s : Shared} {H : Hp} {E : XK}
theorem ps_setCXD (N : List Str) (mp : List (Option Nat)) {sc : Scope} {i : Nat} {y : Str} {py spos : Pos} {elt tg iter : Expr} {ifs : List Expr} {pos : Pos} {wi : TI} {g : TG} {ti : TT} {te : XK → TE} (hst : PG (cxOf (CXb false P w) P w K mg base N0 qual scope f cd A outer s H E) (.Name y py) (gName i)) (S : CompSc scope N0 N mp sc) (hi : PI (cxOf (CXb false P w) P w K mg base N0 qual scope f cd A outer s H E) tg iter wi)
    (hb : ∀ s3 H3 C fp xe E', Passes (CXb true P w) (blkE (cxOf (CXb false P w) P w K mg base N0 qual scope f cd A outer s H E) N sc s3 H3 C fp xe) E' → PG (blkE (cxOf (CXb false P w) P w K mg base N0 qual scope f cd A outer s H E) N sc s3 H3 C fp xe) tg g ∧ PIf (blkE (cxOf (CXb false P w) P w K mg base N0 qual scope f cd A outer s H E) N sc s3 H3 C fp xe) ifs ti ∧ PE (blkE (cxOf (CXb false P w) P w K mg base N0 qual scope f cd A outer s H E) N sc s3 H3 C fp xe) elt (te E'))
    (hsw : swapsWith (.ListComp elt [⟨tg, iter, ifs, 0⟩] sc pos) (some (.Name y py)) spos.line (cxOf (CXb false P w) P w K mg base N0 qual scope f cd A outer s H E).env = pure true)
    (hs : ∀ x, foldedSetIterable iter (cxOf (CXb false P w) P w K mg base N0 qual scope f cd A outer s H E).env x = pure x := by intro _; rfl) : PS (cxOf (CXb false P w) P w K mg base N0 qual scope f cd A outer s H E) (.Assign [.Name y py] (.ListComp elt [⟨tg, iter, ifs, 0⟩] sc pos) spos) (tAsg (tComp mp wi g ti (te E)) (gName i)) :=
  ps_setCX rfl hst rfl S hi hb hsw hs
end
theorem g_tryF {CY : Addr} {Sub : Addr → Prop} {E : XK} {tb : XK → TS} {D : Ends} {σ : St} {H : Hp}
    (h : tb (fun cls a H' => ∃ ea C, a = some ea ∧ cls = .ref C ∧ Sub C ∧ ∀ e2, (upd H' ea (EOb true ea C)) e2 = none → E (.ref CY) (some e2) (upd H' ea (EOb true ea C))) D σ H) : tTryF CY Sub E tb D σ H := h
theorem g_repl {y : List Nat} {to t2 : TE} {σ : St} {H : Hp} {Q : VK} (h : to σ H fun x H1 => ∃ a, x = .str (S a) ∧ a.length ≤ 1000 ∧ t2 σ H1 fun z H2 => ∃ b, z = .str (S b) ∧ b.length ≤ 10 ∧ b ≠ y ∧ Q (.str (Txt.replace (S a) (S y) (S b))) H2) : tRepl y to t2 σ H Q := h
theorem g_ixc {t : TA} {tb : TE} {σ : St} {H : Hp} {Q : VK} (h : t σ H fun xs H1 => xs.length ≤ 1000 ∧ tb σ H1 fun y H2 => ∃ i : Nat, ∃ v, y = .int (i : Int) ∧ xs[i]? = some v ∧ Q v H2) : tIxC t tb σ H Q := h
/-- a comprehension whose element at k refuses -/
theorem comp_bad {α : Type} {J : It} {src : List α} {gv : α → V} {mp : List (Option Nat)} {σ : St} {H1 : Hp} {te : TE} {Dd : Addr} {Q : VK} {k : Nat} (G : Goes J H1 (src.map gv)) (hD : H1 Dd = none) (hz : src.length ≤ sizeLine) (hk : k < src.length)
    (he : ∀ j (hj : j < k), ∀ (H' : Hp) (R : VK), Same H1 H' → (∀ y H'', Same H' H'' → R y H'') → te ((pick mp σ).set 0 (some (gv (src[j]'(Nat.lt_trans hj hk))))) H' R)
    (hb : ∀ (H' : Hp) (R : VK), Same H1 H' → te ((pick mp σ).set 0 (some (gv src[k]))) H' R) : CompW J mp (gName 0) tYes te Dd Q σ H1 := by
  let W : Nat → Nat → St → Hp → Prop := fun i m σ' H' => m = src.length - i ∧ i ≤ k ∧ (∀ v, σ'.set 0 (some v) = (pick mp σ).set 0 (some v)) ∧ Same H1 H' ∧ ∃ ys, H' Dd = some (.lst ys) ∧ ys.length ≤ i
  have hlm : (src.map gv).length = src.length := List.length_map ..
  refine ⟨W, ⟨src.length, by simp, Nat.zero_le _, fun v => rfl, same_upd (Same.refl _) hD, [], upd_same, Nat.le_refl _⟩, ?_⟩
  rintro i m σ' H' ⟨rfl, hi, hσ, hS, ys, hy, hyl⟩
  have hlt : i < src.length := by omega
  refine .inr ⟨G.go i H' hS (by rw [hlm]; exact hlt), fun σ2 H2 => W (i + 1) (src.length - (i + 1)) σ2 H2, fun σ2 H2 w => ⟨_, by omega, w⟩, fun x H'' y => ?_⟩
  obtain ⟨rfl, hx⟩ := G.yld i H' x H'' hS (by rw [hlm]; exact hlt) y
  rw [List.getElem?_map, List.getElem?_eq_getElem hlt] at hx
  obtain rfl := (Option.some.inj hx).symm
  unfold gName tYes
  rw [hσ (gv src[i])]
  dsimp only
  rw [if_pos rfl]
  rcases Nat.lt_or_ge i k with z | z
  · refine he i z _ _ hS fun v H4 s4 => ⟨ys, s4 _ _ hy, by omega, rfl, z, fun v => List.set_set .., same_upd (hS.trans s4) hD, ys ++ [v], upd_same, ?_⟩
    rw [List.length_append, List.length_singleton]
    omega
  · obtain rfl : i = k := by omega
    exact hb _ _ hS
end L2

set_option Elab.async false
set_option linter.all false
set_option maxRecDepth 100000
set_option maxHeartbeats 4000000
/-! Texts that are no written race. -/
namespace My
open PySem L2 PySem.Spec PyProof.Rows Wr
def Fig (l : List Nat) : Prop := ∃ n : Int, 1 ≤ n ∧ n ≤ 9 ∧ l = dg n
def figB : List Nat → Bool
  | [x] => decide (49 ≤ x) && decide (x ≤ 57)
  | _ => false
theorem Fig.b {l : List Nat} (h : Fig l) : figB l = true := by
  obtain ⟨n, h1, h9, rfl⟩ := h
  show (decide (49 ≤ 48 + n.toNat) && decide (48 + n.toNat ≤ 57)) = true
  rw [decide_eq_true (by omega), decide_eq_true (by omega)]
  rfl
theorem no_fig {l : List Nat} (h : figB l = false) : ¬ Fig l := fun z => by rw [z.b] at h; cases h
def okB (l : List Nat) : Bool := decide (1 ≤ l.length) && decide (l.length ≤ 6) && l.all fun c => decide (c ∈ abcd)
theorem ok_b {n : Nat} {l : List Nat} (h : WordOk n l) : okB l = true := by
  unfold okB
  rw [decide_eq_true h.lo, decide_eq_true h.hi, Bool.true_and, Bool.true_and, List.all_eq_true]
  exact fun c hc => decide_eq_true (List.mem_of_mem_take (h.s c hc))
theorem no_word {l : List Nat} (h : okB l = false) (n : Nat) : ¬ WordOk n l := fun z => by rw [ok_b z] at h; cases h
/-- the text is no written race -/
def NoLine (t : List Nat) : Prop := ∀ (ns : List Int) ws, DieOk ns → RaceOk ns.length ws → t ≠ lineT ns ws
theorem joinL_cons {c : Nat} {x : List Nat} : ∀ {l : List (List Nat)}, l ≠ [] → joinL [c] (x :: l) = x ++ [c] ++ joinL [c] l
  | [], h => absurd rfl h
  | _ :: _, _ => rfl
theorem joinL_mid {c : Nat} {p q : List Nat} {ys : List (List Nat)} : ∀ (xs : List (List Nat)), joinL [c] (xs ++ [p ++ [c] ++ q] ++ ys) = joinL [c] (xs ++ [p, q] ++ ys)
  | [] => by
    cases ys with
    | nil => rfl
    | cons y ys =>
      show joinL [c] ((p ++ [c] ++ q) :: y :: ys) = joinL [c] (p :: q :: y :: ys)
      rw [joinL_cons (x := p ++ [c] ++ q) (by simp), joinL_cons (x := p) (by simp), joinL_cons (x := q) (by simp)]
      simp
  | x :: xs => by
    show joinL [c] (x :: (xs ++ [p ++ [c] ++ q] ++ ys)) = joinL [c] (x :: (xs ++ [p, q] ++ ys))
    rw [joinL_cons (x := x) (l := xs ++ [p ++ [c] ++ q] ++ ys) (by simp), joinL_cons (x := x) (l := xs ++ [p, q] ++ ys) (by simp), joinL_mid xs]
theorem joinL_first {c : Nat} {z a : List Nat} {l : List (List Nat)} : z ++ joinL [c] (a :: l) = joinL [c] ((z ++ a) :: l) := by
  cases l with
  | nil => rfl
  | cons b l => rw [joinL_cons (x := a) (l := b :: l) (by simp), joinL_cons (x := z ++ a) (l := b :: l) (by simp)]; simp
theorem joinL_last {c : Nat} {w z : List Nat} : ∀ (xs : List (List Nat)), joinL [c] (xs ++ [w]) ++ z = joinL [c] (xs ++ [w ++ z])
  | [] => rfl
  | x :: xs => by
    show joinL [c] (x :: (xs ++ [w])) ++ z = joinL [c] (x :: (xs ++ [w ++ z]))
    rw [joinL_cons (x := x) (l := xs ++ [w]) (by simp), joinL_cons (x := x) (l := xs ++ [w ++ z]) (by simp), ← joinL_last xs]
    simp
theorem joinL_snoc {c : Nat} {y : List Nat} : ∀ {xs : List (List Nat)}, xs ≠ [] → joinL [c] (xs ++ [y]) = joinL [c] xs ++ [c] ++ y
  | [], h => absurd rfl h
  | [x], _ => rfl
  | x :: b :: xs, _ => by
    show joinL [c] (x :: ((b :: xs) ++ [y])) = _
    rw [joinL_cons (x := x) (l := (b :: xs) ++ [y]) (by simp), joinL_snoc (xs := b :: xs) (by simp), joinL_cons (x := x) (l := b :: xs) (by simp)]
    simp
theorem first_colon : ∀ {a a' r r' : List Nat}, a ++ 58 :: r = a' ++ 58 :: r' → 58 ∉ a → 58 ∉ a' → a = a' ∧ r = r'
  | [], [], _, _, h, _, _ => ⟨rfl, (List.cons.inj h).2⟩
  | [], x :: a', _, _, h, _, h2 => by
    have := (List.cons.inj h).1
    exact absurd (by rw [← this]; exact List.mem_cons_self) h2
  | x :: a, [], _, _, h, h1, _ => by
    have := (List.cons.inj h).1
    exact absurd (by rw [this]; exact List.mem_cons_self) h1
  | x :: a, y :: a', _, _, h, h1, h2 => by
    obtain ⟨e, h⟩ := List.cons.inj h
    obtain ⟨e1, e2⟩ := first_colon h (fun z => h1 (List.mem_cons_of_mem _ z)) fun z => h2 (List.mem_cons_of_mem _ z)
    exact ⟨by rw [e, e1], e2⟩
theorem dg_no {n : Int} (h1 : 1 ≤ n) (h9 : n ≤ 9) {x : Nat} (hx : x = 58 ∨ x = 32) : x ∉ dg n := fun z => by
  have : x = 48 + n.toNat := List.mem_singleton.mp z
  omega
theorem digs_no {ns : List Int} (hd : DieOk ns) {x : Nat} (hx : x = 58 ∨ x = 32) {p : List Nat} (hp : p ∈ ns.map dg) : x ∉ p := by
  obtain ⟨n, hn, rfl⟩ := List.mem_map.mp hp
  exact dg_no (hd.w n hn).1 (hd.w n hn).2 hx
theorem wt_no {ns : List Int} (hd : DieOk ns) : 58 ∉ wtT ns := fun z => by
  rcases mem_joinL (show 58 ∈ joinL [32] (ns.map dg) from z) with q | ⟨p, q, r⟩
  · cases q
  · exact digs_no hd (.inl rfl) q r
theorem word_no {n : Nat} {w : List Nat} (h : WordOk n w) {x : Nat} (hx : x ∉ abcd) : x ∉ w := fun z => hx (List.mem_of_mem_take (h.s x z))
theorem ws_no {n : Nat} {ws : List (List Nat)} (R : RaceOk n ws) : 58 ∉ joinL [32] ws := fun z => by
  rcases mem_joinL z with q | ⟨p, q, r⟩
  · cases q
  · exact word_no (R.w p q) (by decide) r
theorem line_eq (ns : List Int) (ws : List (List Nat)) : lineT ns ws = wtT ns ++ 58 :: 32 :: joinL [32] ws := by unfold lineT; simp
theorem nl_none {t : List Nat} (h : 58 ∉ t) : NoLine t := fun ns ws _ _ e => h (by rw [e, line_eq]; simp)
theorem nl_blank {a r : List Nat} (ha : 58 ∉ a) (h : ∀ r', r ≠ 32 :: r') : NoLine (a ++ 58 :: r) := fun ns ws hd _ e => by
  rw [line_eq] at e
  exact h _ (first_colon e ha (wt_no hd)).2
theorem nl_weights {ps : List (List Nat)} {r : List Nat} (hne : ps ≠ []) (hf : ∀ p ∈ ps, 32 ∉ p ∧ 58 ∉ p) (hb : (∃ p ∈ ps, ¬ Fig p) ∨ ps.length < 2 ∨ 4 < ps.length) : NoLine (joinL [32] ps ++ 58 :: r) := fun ns ws hd _ e => by
  rw [line_eq] at e
  have e1 := (first_colon e (fun z => by
    rcases mem_joinL z with q | ⟨p, q, r'⟩
    · cases q
    · exact (hf p q).2 r') (wt_no hd)).1
  have e2 := weights_back hd (ps := ps) ⟨hne, fun p hp => (hf p hp).1, e1⟩
  have d1 := hd.lo
  have d2 := hd.hi
  rcases hb with ⟨p, hp, hn⟩ | z | z
  · rw [e2] at hp
    obtain ⟨n, h1, rfl⟩ := List.mem_map.mp hp
    exact hn ⟨n, (hd.w n h1).1, (hd.w n h1).2, rfl⟩
  · rw [e2, List.length_map] at z; omega
  · rw [e2, List.length_map] at z; omega
theorem nl_words {a : List Nat} {ps : List (List Nat)} (ha : 58 ∉ a) (hne : ps ≠ []) (hf : ∀ p ∈ ps, 32 ∉ p) (hb : (∃ p ∈ ps, okB p = false) ∨ 4 < ps.length ∨ ¬ ps.Nodup) : NoLine (a ++ 58 :: 32 :: joinL [32] ps) := fun ns ws hd R e => by
  rw [line_eq] at e
  have e1 := (List.cons.inj (first_colon e ha (wt_no hd)).2).2
  have e2 := words_back R (ps := ps) ⟨hne, hf, e1⟩
  subst e2
  rcases hb with ⟨p, hp, hn⟩ | z | z
  · exact no_word hn _ (R.w p hp)
  · have := R.hi; omega
  · exact z R.race.nd
end My

set_option Elab.async false
set_option linter.all false
set_option maxRecDepth 100000
set_option maxHeartbeats 4000000
/-! The texts of k20, spoiled. -/
namespace L2
open PySem PySem.Spec PyProof.Rows PySem.W
@[irreducible] def PEI (X : Cx) (e : Expr) (te : TE) : Prop := PE X e te
@[irreducible] def PAI (X : Cx) (es : List Expr) (t : TA) : Prop := PA X es t
@[irreducible] def PSI (X : Cx) (s : Stmt) (t : TS) : Prop := PS X s t
@[irreducible] def PSsI (X : Cx) (ss : List Stmt) (t : TS) : Prop := PSs X ss t
section
variable {X : Cx} {e a b : Expr} {es : List Expr} {te ta tb : TE} {t : TA} {pos : Pos} {st s1 s2 : Stmt} {rest : List Stmt} {u t1 t2 : TS}
theorem pai_nil : PAI X [] tNil := by unfold PAI; exact pa_nil
theorem pai_cons (ha : PE X e te) (hr : PAI X es t) (hs : starEach (e :: es) X.env = (false, eval e X.env) :: starEach es X.env := by rfl) : PAI X (e :: es) (tCons te t) := by
  unfold PAI at hr ⊢
  exact pa_cons ha hr hs
theorem pai_consS (l : List Nat) {x : Str} {j : Nat} {p : Pos} (h : x = S l) (hr : PAI X es t) : PAI X (.Constant (.str x) j p :: es) (tCons (tC (.str (S l))) t) := pai_cons (pe_strS l h) hr rfl
theorem pei_lst (h : PAI X es t) : PEI X (.List es pos) (tLst t) := by
  unfold PEI
  unfold PAI at h
  exact pe_lst h
theorem pei_ix {r : R2} (hr : IxR X r) (ha : PEI X a ta) (hb : PE X b tb) (hs : PlainIx b) : PEI X (.Subscript a b pos) (tOp r ta tb) := by
  unfold PEI at ha ⊢
  exact pe_ix hr ha hb hs
theorem psi_set {i : Nat} {x : Str} {pos' : Pos} (hN : X.N.Nodup) (hi : X.N[i]? = some x) (hx : Loc X.env.scope x) (he : PEI X e te) (hs : swapsWith e (some (.Name x pos')) pos.line X.env = pure false) (hf : X.fn x = true ∨ X.env.scope.names.lookup x = some .local) : PSI X (.Assign [.Name x pos'] e pos) (tAsg te (gName i)) := by
  unfold PSI
  unfold PEI at he
  exact ps_set hN hi hx he hs hf
theorem psi_ret (he : PEI X e te) : PSI X (.Return (some e) pos) (tRet te) := by
  unfold PSI
  unfold PEI at he
  exact ps_ret he
theorem ps_if2 {c : Expr} {b : List Stmt} {tc : TT} (hc : PT X c tc) (h1 : PSI X s1 t1) (h2 : PS X s2 t2) (hb : PSs X b u) : PS X (.If c [s1, s2] b pos) (tIfS tc (tSeq t1 t2) u) := by
  unfold PSI at h1
  exact ps_if hc (pss_cons h1 (pss_one h2)) hb
theorem pss_consI (h1 : PS X st t1) (h2 : PSsI X rest u) : PSs X (st :: rest) (tSeq t1 u) := by
  unfold PSsI at h2
  exact pss_cons h1 h2
theorem pssI_one (h1 : PSI X st t1) : PSsI X [st] t1 := by
  unfold PSsI
  unfold PSI at h1
  exact pss_one h1
end
end L2
namespace My
open PySem L2 PySem.Spec PyProof.Rows Wr
/-- a text that stands for a weight, and is none -/
def BadW (s : List Nat) : Prop := (32 ∉ s ∧ 58 ∉ s ∧ figB s = false) ∨ s = [32, 49]
/-- a text that stands for a word, and is none -/
def BadV (s : List Nat) : Prop := (32 ∉ s ∧ okB s = false) ∨ ∃ w, 32 ∉ w ∧ s = w ++ [32] ++ w
theorem nl_w {xs ys : List (List Nat)} {s r : List Nat} (hx : ∀ p ∈ xs, 32 ∉ p ∧ 58 ∉ p) (hy : ∀ p ∈ ys, 32 ∉ p ∧ 58 ∉ p) (hs : BadW s) : NoLine (joinL [32] (xs ++ [s] ++ ys) ++ [58, 32] ++ r) := by
  rw [List.append_assoc]
  rcases hs with ⟨h1, h2, h3⟩ | rfl
  · refine nl_weights (by simp) (fun p hp => ?_) (.inl ⟨s, by simp, no_fig h3⟩)
    rcases List.mem_append.mp hp with z | z
    · rcases List.mem_append.mp z with z | z
      · exact hx p z
      · rw [List.mem_singleton.mp z]; exact ⟨h1, h2⟩
    · exact hy p z
  · rw [show [32, 49] = [] ++ [32] ++ [49] from rfl, joinL_mid]
    refine nl_weights (by simp) (fun p hp => ?_) (.inl ⟨[], by simp, no_fig rfl⟩)
    rcases List.mem_append.mp hp with z | z
    · rcases List.mem_append.mp z with z | z
      · exact hx p z
      · rcases List.mem_cons.mp z with q | q
        · rw [q]; decide
        · rw [List.mem_singleton.mp q]; decide
    · exact hy p z
theorem nl_v {a : List Nat} {xs ys : List (List Nat)} {s : List Nat} (ha : 58 ∉ a) (hx : ∀ p ∈ xs, 32 ∉ p) (hy : ∀ p ∈ ys, 32 ∉ p) (hs : BadV s) : NoLine (a ++ [58, 32] ++ joinL [32] (xs ++ [s] ++ ys)) := by
  rw [List.append_assoc]
  rcases hs with ⟨h1, h3⟩ | ⟨w, hw, rfl⟩
  · refine nl_words ha (by simp) (fun p hp => ?_) (.inl ⟨s, by simp, h3⟩)
    rcases List.mem_append.mp hp with z | z
    · rcases List.mem_append.mp z with z | z
      · exact hx p z
      · rw [List.mem_singleton.mp z]; exact h1
    · exact hy p z
  · rw [joinL_mid]
    refine nl_words ha (by simp) (fun p hp => ?_) (.inr (.inr fun z => ?_))
    · rcases List.mem_append.mp hp with z | z
      · rcases List.mem_append.mp z with z | z
        · exact hx p z
        · rcases List.mem_cons.mp z with q | q
          · rw [q]; exact hw
          · rw [List.mem_singleton.mp q]; exact hw
      · exact hy p z
    · have z1 := (List.nodup_append.mp (List.nodup_append.mp z).1).2.1
      simp at z1
abbrev some11 : List (List Nat) := [[48], [49, 48], [43, 49], [45, 49], [120], [], [49, 95, 48], [48, 49], [49, 46], [49, 9], [32, 49]]
abbrev some9 (w : List Nat) : List (List Nat) := [[], [97, 97, 97, 97, 97, 97, 98], [101], [65], [97, 45], [97, 49], [97, 9], w ++ [32] ++ w, [97, 98, 10]]
abbrev some10 : List (List Nat) := [[], [58], [58, 32], [32, 58, 32, 97], [49, 32, 49, 58], [49, 32, 49, 58, 32], [49, 44, 49, 58, 32, 97], [49, 32, 49, 59, 32, 97], [49, 32, 49, 58, 32, 97, 44, 98], [49, 32, 49, 32, 97]]
abbrev some5 (u v : List Nat) : List (List Nat) := [[32] ++ (u ++ [58, 32] ++ v), (u ++ [58, 32] ++ v) ++ [32], (u ++ [58, 32] ++ v) ++ [10], [9] ++ (u ++ [58, 32] ++ v), u ++ [58, 32, 32] ++ v]
abbrev five : List (List Nat) := [[97, 97, 98], [97, 98, 98], [98, 98, 97], [98, 97, 97], [98, 97, 98]]
theorem cut_to (ts : List (List Nat)) (j : Nat) : cutV (txs ts) none (some (j : Int)) = txs (ts.take j) := (cutL_to (txs ts) j).trans (List.map_take ..).symm
theorem cut_from (ts : List (List Nat)) (j : Nat) : cutV (txs ts) (some ((j : Int) + 1)) none = txs (ts.drop (j + 1)) := by
  rw [show (j : Int) + 1 = ((j + 1 : Nat) : Int) by omega]
  exact (cutL_from (txs ts) (j + 1)).trans (List.map_drop ..).symm
theorem at_prev {ws : List (List Nat)} {j : Nat} (hj : j < ws.length) : ∃ w ∈ ws, atI (txs ws) ((j : Int) - 1) = some (V.str (S w)) := by
  cases j with
  | zero =>
    have hne : ws ≠ [] := fun z => by rw [z] at hj; cases hj
    refine ⟨ws.getLast hne, List.getLast_mem hne, ?_⟩
    have e : txs ws = txs ws.dropLast ++ [V.str (S (ws.getLast hne))] := by
      have := congrArg txs (List.dropLast_concat_getLast hne)
      rw [← this]
      simp
    rw [e]
    exact atI_last _ _
  | succ j =>
    refine ⟨ws[j]'(by omega), List.getElem_mem _, ?_⟩
    rw [show ((j + 1 : Nat) : Int) - 1 = (j : Int) by omega]
    exact atI_nat (txs_at (by omega))
theorem at_mod {xs : List V} {c : Int} {n : Nat} (hn : 0 < n) {P : List Nat → Prop} (h : ∀ j : Nat, j < n → ∃ s, xs[j]? = some (.str (S s)) ∧ P s) : ∃ s, atI xs (c % (n : Int)) = some (V.str (S s)) ∧ P s := by
  obtain ⟨m, em⟩ := Int.eq_ofNat_of_zero_le (Int.emod_nonneg c (show (n : Int) ≠ 0 by omega))
  have hm : m < n := by have := Int.emod_lt_of_pos c (show (0 : Int) < (n : Int) by omega); omega
  obtain ⟨s, e, p⟩ := h m hm
  exact ⟨s, by rw [em]; exact atI_nat e, p⟩
section
variable {ns : List Int} {ws : List (List Nat)} (hd : DieOk ns) (R : RaceOk ns.length ws)
include hd in
theorem ds_free : ∀ p ∈ ns.map dg, 32 ∉ p ∧ 58 ∉ p := fun p hp => ⟨digs_no hd (.inr rfl) hp, digs_no hd (.inl rfl) hp⟩
include R in
theorem ws_free : ∀ p ∈ ws, 32 ∉ p := fun p hp => word_no (R.w p hp) (by decide)
theorem ws_ne {n : Nat} {us : List (List Nat)} (R' : RaceOk n us) : us ≠ [] := fun z => by
  have := R'.lo
  rw [z] at this
  exact absurd this (by decide)
include R in
theorem ws_head : ∀ r, joinL [32] ws ≠ 32 :: r := fun r e => by
  match ws, R, e with
  | [], R, _ => exact ws_ne R rfl
  | [] :: _, R, _ => have := (R.w [] (by simp)).lo; exact absurd this (by decide)
  | (c :: w) :: l, R, e =>
    have h1 := word_no (R.w (c :: w) (by simp)) (x := 32) (by decide)
    have e2 := joinL_first (c := 32) (z := [c]) (a := w) (l := l)
    rw [show (c :: w) = [c] ++ w from rfl, ← e2] at e
    exact h1 (by rw [(List.cons.inj e).1]; simp)
theorem at11 : ∀ j : Nat, j < 11 → ∃ s, (txs some11)[j]? = some (.str (S s)) ∧ BadW s ∧ s.length ≤ 20 := by
  intro j hj
  have h : ∀ s ∈ [[48], [49, 48], [43, 49], [45, 49], [120], [], [49, 95, 48], [48, 49], [49, 46], [49, 9], [32, 49]], ((32 ∉ s ∧ 58 ∉ s ∧ figB s = false) ∨ s = [32, 49]) ∧ s.length ≤ 20 := by decide
  exact ⟨_, by rw [List.getElem?_map, List.getElem?_eq_getElem hj]; rfl, h _ (List.getElem_mem hj)⟩
theorem at9 {w : List Nat} (hw : 32 ∉ w) (hl : w.length ≤ 6) : ∀ j : Nat, j < 9 → ∃ s, (txs (some9 w))[j]? = some (.str (S s)) ∧ BadV s ∧ s.length ≤ 20 := by
  intro j hj
  match j, hj with
  | 0, _ => exact ⟨_, rfl, .inl (by decide), by decide⟩
  | 1, _ => exact ⟨_, rfl, .inl (by decide), by decide⟩
  | 2, _ => exact ⟨_, rfl, .inl (by decide), by decide⟩
  | 3, _ => exact ⟨_, rfl, .inl (by decide), by decide⟩
  | 4, _ => exact ⟨_, rfl, .inl (by decide), by decide⟩
  | 5, _ => exact ⟨_, rfl, .inl (by decide), by decide⟩
  | 6, _ => exact ⟨_, rfl, .inl (by decide), by decide⟩
  | 7, _ => exact ⟨_, rfl, .inr ⟨w, hw, rfl⟩, by simp; omega⟩
  | 8, _ => exact ⟨_, rfl, .inl (by decide), by decide⟩
include hd R
theorem nl_c0 : NoLine (wtT ns ++ [32, 32] ++ joinL [32] ws) := nl_none fun z => by
  rcases List.mem_append.mp z with z | z
  · rcases List.mem_append.mp z with z | z
    · exact wt_no hd z
    · revert z; decide
  · exact ws_no R z
theorem nl_c1 : NoLine (wtT ns ++ [58] ++ joinL [32] ws) := by
  rw [List.append_assoc]
  exact nl_blank (wt_no hd) (ws_head R)
theorem nl_c2 : NoLine (wtT ns ++ [32] ++ joinL [32] ws) := nl_none fun z => by
  rcases List.mem_append.mp z with z | z
  · rcases List.mem_append.mp z with z | z
    · exact wt_no hd z
    · revert z; decide
  · exact ws_no R z
theorem nl_c3 : NoLine (wtT ns ++ [32, 58, 32] ++ joinL [32] ws) := by
  have e := joinL_snoc (c := 32) (y := []) (die_ne hd)
  rw [List.append_nil] at e
  rw [show wtT ns ++ [32, 58, 32] ++ joinL [32] ws = (wtT ns ++ [32]) ++ [58, 32] ++ joinL [32] ws by simp]
  unfold wtT
  rw [← e]
  have := nl_w (xs := ns.map dg) (ys := []) (s := []) (r := joinL [32] ws) (ds_free hd) (by simp) (.inl (by decide))
  rwa [List.append_nil] at this
theorem nl_d0 : NoLine ([32] ++ lineT ns ws) := by
  have e := joinL_cons (c := 32) (x := []) (die_ne hd)
  unfold lineT wtT
  rw [show [32] ++ (joinL [32] (ns.map dg) ++ [58, 32] ++ joinL [32] ws) = ([] ++ [32] ++ joinL [32] (ns.map dg)) ++ [58, 32] ++ joinL [32] ws by simp, ← e]
  exact nl_w (xs := []) (ys := ns.map dg) (s := []) (by simp) (ds_free hd) (.inl (by decide))
theorem nl_d1 : NoLine (lineT ns ws ++ [32]) := by
  have e := joinL_snoc (c := 32) (y := []) (ws_ne R)
  rw [List.append_nil] at e
  unfold lineT
  rw [List.append_assoc, ← e]
  have := nl_v (xs := ws) (ys := []) (s := []) (wt_no hd) (ws_free R) (by simp) (.inl (by decide))
  rwa [List.append_nil] at this
theorem ok_no {p : List Nat} {x : Nat} (hp : x ∈ p) (hx : x ∉ abcd) : okB p = false := by
  unfold okB
  have : (p.all fun c => decide (c ∈ abcd)) = false := by
    refine Bool.eq_false_iff.mpr fun z => hx ?_
    exact of_decide_eq_true (List.all_eq_true.mp z x hp)
  rw [this, Bool.and_false]
theorem nl_d2 : NoLine (lineT ns ws ++ [10]) := by
  unfold lineT
  rw [List.append_assoc]
  have hne := ws_ne R
  have hf := ws_free R
  generalize hg : ws = us at hne hf ⊢
  obtain ⟨i, l, rfl⟩ : ∃ i l, us = i ++ [l] := ⟨_, _, (List.dropLast_concat_getLast hne).symm⟩
  rw [joinL_last]
  have := nl_v (a := wtT ns) (xs := i) (ys := []) (s := l ++ [10]) (wt_no hd) (fun p hp => hf p (by simp [hp])) (by simp) (.inl ⟨fun z => ?_, ok_no (ns := ns) (ws := ws) hd R (x := 10) (by simp) (by decide)⟩)
  · rwa [List.append_nil] at this
  · rcases List.mem_append.mp z with z | z
    · exact hf l (by simp) z
    · revert z; decide
theorem nl_d3 : NoLine ([9] ++ lineT ns ws) := by
  unfold lineT wtT
  have hne := die_ne hd
  have hf := ds_free hd
  have hw : ∀ p ∈ ns.map dg, p.length = 1 := fun p hp => by
    obtain ⟨n, _, rfl⟩ := List.mem_map.mp hp
    rfl
  generalize ns.map dg = us at hne hf hw ⊢
  match us, hne, hf, hw with
  | u :: l, _, hf, hw =>
  rw [← List.append_assoc, ← List.append_assoc, joinL_first]
  refine nl_w (xs := []) (ys := l) (s := [9] ++ u) (by simp) (fun p hp => hf p (by simp [hp])) (.inl ⟨fun z => ?_, fun z => ?_, ?_⟩)
  · rcases List.mem_append.mp z with z | z
    · revert z; decide
    · exact (hf u (by simp)).1 z
  · rcases List.mem_append.mp z with z | z
    · revert z; decide
    · exact (hf u (by simp)).2 z
  · obtain ⟨x, rfl⟩ := List.length_eq_one_iff.mp (hw u (by simp))
    rfl
theorem nl_d4 : NoLine (wtT ns ++ [58, 32, 32] ++ joinL [32] ws) := by
  have e := joinL_cons (c := 32) (x := []) (ws_ne R)
  rw [show wtT ns ++ [58, 32, 32] ++ joinL [32] ws = wtT ns ++ [58, 32] ++ ([] ++ [32] ++ joinL [32] ws) by simp, ← e]
  exact nl_v (xs := []) (ys := ws) (s := []) (wt_no hd) (by simp) (ws_free R) (.inl (by decide))
theorem nl_e0 : NoLine (joinL [32] ((ns.map dg).take 1) ++ [58, 32] ++ joinL [32] ws) := by
  rw [List.append_assoc]
  refine nl_weights (fun z => die_ne hd ?_) (fun p hp => ds_free hd p (List.mem_of_mem_take hp)) (.inr (.inl ?_))
  · cases h : ns.map dg with
    | nil => rfl
    | cons a l => rw [h] at z; cases z
  · rw [List.length_take]; omega
theorem nl_e1 : NoLine (joinL [32] (ns.map dg ++ [[49], [49], [49]]) ++ [58, 32] ++ joinL [32] ws) := by
  rw [List.append_assoc]
  refine nl_weights (by simp) (fun p hp => ?_) (.inr (.inr ?_))
  · rcases List.mem_append.mp hp with z | z
    · exact ds_free hd p z
    · clear hp; revert p; decide
  · have := hd.lo
    rw [List.length_append, List.length_map]
    show 4 < _ + 3
    omega
theorem nl_e2 : NoLine (joinL [32] (ns.map dg) ++ [58, 32] ++ joinL [32] []) :=
  nl_v (xs := []) (ys := []) (s := []) (wt_no hd) (by simp) (by simp) (.inl (by decide))
theorem nl_f : NoLine (joinL [32] (ns.map dg) ++ [58, 32] ++ joinL [32] [[97, 97, 98], [97, 98, 98], [98, 98, 97], [98, 97, 97], [98, 97, 98]]) := by
  rw [List.append_assoc]
  exact nl_words (wt_no hd) (by simp) (by decide) (.inr (.inl (by decide)))
theorem at5 : ∀ j : Nat, j < 5 → ∃ s, (txs (some5 (wtT ns) (joinL [32] ws)))[j]? = some (.str (S s)) ∧ NoLine s ∧ s.length ≤ (lineT ns ws).length + 1 := by
  intro j hj
  match j, hj with
  | 0, _ => exact ⟨_, rfl, nl_d0 hd R, by unfold lineT; simp⟩
  | 1, _ => exact ⟨_, rfl, nl_d1 hd R, by unfold lineT; simp; omega⟩
  | 2, _ => exact ⟨_, rfl, nl_d2 hd R, by unfold lineT; simp; omega⟩
  | 3, _ => exact ⟨_, rfl, nl_d3 hd R, by unfold lineT; simp⟩
  | 4, _ => exact ⟨_, rfl, nl_d4 hd R, by unfold lineT; simp; omega⟩
theorem at4 : ∀ j : Nat, j < 4 → ∃ b : List Nat, [V.str (S [32, 32]), .str (S [58]), .str (S [32]), .str (S [32, 58, 32])][j]? = some (.str (S b)) ∧ b.length ≤ 10 ∧ b ≠ [58, 32] ∧ NoLine (wtT ns ++ b ++ joinL [32] ws) := by
  intro j hj
  match j, hj with
  | 0, _ => exact ⟨_, rfl, by decide, by decide, nl_c0 hd R⟩
  | 1, _ => exact ⟨_, rfl, by decide, by decide, nl_c1 hd R⟩
  | 2, _ => exact ⟨_, rfl, by decide, by decide, nl_c2 hd R⟩
  | 3, _ => exact ⟨_, rfl, by decide, by decide, nl_c3 hd R⟩
theorem repl_line (b : List Nat) : Txt.replace (S (lineT ns ws)) (S [58, 32]) (S b) = S (wtT ns ++ b ++ joinL [32] ws) := by
  rw [line_eq]
  exact replace_line (wt_no hd) (ws_no R)
omit hd R
theorem at10 : ∀ j : Nat, j < 10 → ∃ s, (txs some10)[j]? = some (.str (S s)) ∧ NoLine s ∧ s.length ≤ 20 := by
  intro j hj
  match j, hj with
  | 0, _ => exact ⟨_, rfl, nl_none (by decide), by decide⟩
  | 1, _ => exact ⟨_, rfl, nl_blank (a := []) (r := []) (by decide) (fun r z => by cases z), by decide⟩
  | 2, _ => exact ⟨_, rfl, nl_words (a := []) (ps := [[]]) (by decide) (by decide) (by decide) (.inl (by decide)), by decide⟩
  | 3, _ => exact ⟨_, rfl, nl_w (xs := [[]]) (ys := []) (s := []) (r := [97]) (by decide) (by simp) (.inl (by decide)), by decide⟩
  | 4, _ => exact ⟨_, rfl, nl_blank (a := [49, 32, 49]) (r := []) (by decide) (fun r z => by cases z), by decide⟩
  | 5, _ => exact ⟨_, rfl, nl_words (a := [49, 32, 49]) (ps := [[]]) (by decide) (by decide) (by decide) (.inl (by decide)), by decide⟩
  | 6, _ => exact ⟨_, rfl, nl_w (xs := []) (ys := []) (s := [49, 44, 49]) (r := [97]) (by simp) (by simp) (.inl (by decide)), by decide⟩
  | 7, _ => exact ⟨_, rfl, nl_none (by decide), by decide⟩
  | 8, _ => exact ⟨_, rfl, nl_words (a := [49, 32, 49]) (ps := [[97, 44, 98]]) (by decide) (by decide) (by decide) (.inl (by decide)), by decide⟩
  | 9, _ => exact ⟨_, rfl, nl_none (by decide), by decide⟩
end
end My

set_option Elab.async false
set_option linter.all false
set_option maxRecDepth 100000
set_option maxHeartbeats 4000000
namespace My
open PySem L2 PySem.Spec PyProof.Rows Wr
/-! no twin is laid for what follows: it would be large -/
def _root_.PySem.W.Fast.tw9067819287507189878 : Unit := ()
def _root_.PySem.W.Fast.tw12949868653459443869 : Unit := ()
def _root_.PySem.W.Fast.tw6139518432577070171 : Unit := ()
def _root_.PySem.W.Fast.tw5516215737238494697 : Unit := ()
def _root_.PySem.W.Fast.tw1042050501231983559 : Unit := ()
def _root_.PySem.W.Fast.tw9090617709791654888 : Unit := ()
def _root_.PySem.W.Fast.tw12924717276982408478 : Unit := ()
def _root_.PySem.W.Fast.tw8291069745685767588 : Unit := ()
def _root_.PySem.W.Fast.tw8266449592629364970 : Unit := ()
def _root_.PySem.W.Fast.tw10506527246787947736 : Unit := ()
def _root_.PySem.W.Fast.tw6820294714011059848 : Unit := ()
def _root_.PySem.W.Fast.tw12723094784544681546 : Unit := ()
def _root_.PySem.W.Fast.tw16322221553952542909 : Unit := ()
def _root_.PySem.W.Fast.tw13485416937107242750 : Unit := ()
def top (i : Nat) : Stmt := PySem.Challenge.pw_wordrace_k20_unread.main.body.getD i (.Pass ⟨0, 0, 0, 0⟩)
abbrev s_signs_of : Stmt := top 17
abbrev s_is_thrown : Stmt := top 18
abbrev s_check_die : Stmt := top 19
abbrev s_check_word : Stmt := top 20
abbrev s_stands_within_another : Stmt := top 21
abbrev s_check_race : Stmt := top 22
abbrev s_read_weight : Stmt := top 25
abbrev s_read : Stmt := top 26
abbrev s_law_cell_at : Stmt := top 28
abbrev s_law_next : Stmt := top 29
abbrev s_law_die : Stmt := top 30
abbrev s_law_thrown : Stmt := top 31
abbrev s_law_word : Stmt := top 32
abbrev s_law_words : Stmt := top 33
abbrev s_law_kind : Stmt := top 34
abbrev s_law_tried : Stmt := top 35
abbrev s_law_line : Stmt := top 36
abbrev s_law_spoiled : Stmt := top 37
abbrev s_law : Stmt := top 38
structure Bl (mg : Str → Option Value) : Prop where
  len : mg "len" = none
  min : mg "min" = none
  max : mg "max" = none
  all : mg "all" = none
  any : mg "any" = none
  isinstance : mg "isinstance" = none
  int : mg "int" = none
  str : mg "str" = none
  range : mg "range" = none
  ValueError : mg "ValueError" = none
structure Cs (P : Program) (mg : Str → Option Value) : Prop where
  tree : P.given.tree = none
  SIGNS : ∃ t_SIGNS, mg "SIGNS" = some (.str (S [97, 98, 99, 100]) t_SIGNS)
  LEAST_WEIGHTS : ∃ t_LEAST_WEIGHTS, mg "LEAST_WEIGHTS" = some (.int 2 t_LEAST_WEIGHTS)
  MOST_WEIGHTS : ∃ t_MOST_WEIGHTS, mg "MOST_WEIGHTS" = some (.int 4 t_MOST_WEIGHTS)
  LEAST_WEIGHT : ∃ t_LEAST_WEIGHT, mg "LEAST_WEIGHT" = some (.int 1 t_LEAST_WEIGHT)
  MOST_WEIGHT : ∃ t_MOST_WEIGHT, mg "MOST_WEIGHT" = some (.int 9 t_MOST_WEIGHT)
  MOST_SIGNS : ∃ t_MOST_SIGNS, mg "MOST_SIGNS" = some (.int 6 t_MOST_SIGNS)
  MOST_WORDS : ∃ t_MOST_WORDS, mg "MOST_WORDS" = some (.int 4 t_MOST_WORDS)
  FIGURES : ∃ t_FIGURES, mg "FIGURES" = some (.str (S [49, 50, 51, 52, 53, 54, 55, 56, 57]) t_FIGURES)
local macro_rules | `(tactic| walk_at "go0") => `(tactic| first
  | with_reducible refine g_seq ?_ | with_reducible refine g_asg ?_ | with_reducible refine g_name ?_ | with_reducible refine g_drop ?_ | with_reducible refine g_ret ?_ | with_reducible refine g_next ?_
  | with_reducible refine g_par ?_ | with_reducible refine g_un ?_ | with_reducible refine g_neg ?_ | with_reducible refine g_retN ?_ | with_reducible refine g_sub ?_
  | with_reducible refine g_op ?_ | with_reducible refine g_c ?_ | ((with_reducible refine g_varT ?_); refine ⟨_, rfl, ?_⟩) | with_reducible refine g_rI0 ?_ | ((with_reducible refine g_rI ?c ?_); (case c => first | exact ⟨by decide, by decide⟩ | exact (show (0 : Int) < _ by first | decide | omega) | exact Or.inl ⟨by decide, by decide⟩ | exact Or.inr ⟨by decide, by decide⟩ | exact Or.inl ⟨by omega, by omega⟩ | exact Or.inr ⟨by omega, by omega⟩))
  | with_reducible refine g_test ?_ | with_reducible refine g_tb ?_ | with_reducible refine g_cb ?_ | with_reducible refine g_cons ?_ | with_reducible refine g_nil ?_
  | with_reducible refine g_sl ?_ | with_reducible refine g_nopart ?_ | with_reducible refine g_part ?_ | with_reducible refine g_and ?_ | with_reducible refine g_or ?_ | with_reducible refine g_not ?_
  | with_reducible refine g_andV ?_ | with_reducible refine g_orV ?_ | with_reducible refine g_notV ?_ | with_reducible refine g_call ?_ | with_reducible refine g_bm ?_ | with_reducible refine g_lst ?_ | with_reducible refine g_tup ?_
  | with_reducible refine g_comp ?_ | with_reducible refine g_istr ?_ | with_reducible refine g_ienum ?_ | with_reducible refine g_ilist ?_ | with_reducible refine g_rng1 ?_ | with_reducible refine g_rng2 ?_ | with_reducible refine g_yes ?_ | with_reducible refine g_for ?_
  | with_reducible refine g_dget2 ?_ | with_reducible refine g_dget ?_ | with_reducible refine g_dput ?_ | with_reducible refine g_dnew ?_ | with_reducible refine g_disp1 ?_ | with_reducible refine g_iitems ?_ | with_reducible refine g_izipS ?_ | with_reducible refine g_izipL ?_
  | with_reducible refine g_eqI ?_ | with_reducible refine g_neI ?_ | with_reducible refine g_eqS ?_ | with_reducible refine g_neS ?_ | with_reducible refine g_inS ?_ | with_reducible refine g_ew ?_ | with_reducible refine g_sw ?_ | with_reducible refine g_tyS ?_ | with_reducible refine g_tyL (by assumption) ?_ | with_reducible refine g_tyL (SqL.of (by assumption)) ?_ | with_reducible refine ⟨_, rfl, ?_⟩ | with_reducible refine And.intro rfl ?_ | ((with_reducible refine And.intro (a := _ ≤ sizeLine) ?hz ?_); (case hz => first | decide | exact small (by omega) | exact small (by simp))))
local macro_rules | `(tactic| walk_at "go1") => `(tactic| first | walk_at "go0" | with_reducible refine g_if ?_)
local macro_rules | `(tactic| walk_at "go") => `(tactic| repeat walk_at "go1")
local macro_rules | `(tactic| walk_at "goJ") => `(tactic| repeat walk_at "go0")
local macro_rules | `(tactic| walk_at "goL0") => `(tactic| first
  | ((with_reducible refine g_seqL ?_); intro _q) | ((with_reducible refine g_asgL ?_); intro _q) | with_reducible refine g_name ?_ | with_reducible refine g_drop ?_ | with_reducible refine g_ret ?_ | with_reducible refine g_next ?_
  | with_reducible refine g_par ?_ | with_reducible refine g_un ?_ | with_reducible refine g_neg ?_ | with_reducible refine g_retN ?_ | with_reducible refine g_sub ?_
  | ((with_reducible refine g_opL ?_); intro _q) | with_reducible refine g_c ?_ | ((with_reducible refine g_varT ?_); refine ⟨_, rfl, ?_⟩) | with_reducible refine g_rI0 ?_ | ((with_reducible refine g_rI ?c ?_); (case c => first | exact ⟨by decide, by decide⟩ | exact (show (0 : Int) < _ by first | decide | omega) | exact Or.inl ⟨by decide, by decide⟩ | exact Or.inr ⟨by decide, by decide⟩ | exact Or.inl ⟨by omega, by omega⟩ | exact Or.inr ⟨by omega, by omega⟩))
  | with_reducible refine g_test ?_ | with_reducible refine g_tb ?_ | ((with_reducible refine g_cbL ?_); intro _q) | with_reducible refine g_cons ?_ | with_reducible refine g_nil ?_
  | with_reducible refine g_sl ?_ | with_reducible refine g_nopart ?_ | with_reducible refine g_part ?_ | with_reducible refine g_and ?_ | with_reducible refine g_or ?_ | with_reducible refine g_not ?_
  | with_reducible refine g_andV ?_ | with_reducible refine g_orV ?_ | with_reducible refine g_notV ?_ | ((with_reducible refine g_callL ?_); intro _q) | ((with_reducible refine g_bmL ?_); intro _q) | with_reducible refine g_lst ?_ | with_reducible refine g_tup ?_
  | with_reducible refine g_comp ?_ | with_reducible refine g_istr ?_ | with_reducible refine g_ienum ?_ | with_reducible refine g_ilist ?_ | with_reducible refine g_rng1 ?_ | with_reducible refine g_rng2 ?_ | with_reducible refine g_yes ?_ | with_reducible refine g_for ?_
  | with_reducible refine g_dget2 ?_ | with_reducible refine g_dget ?_ | with_reducible refine g_dput ?_ | with_reducible refine g_dnew ?_ | with_reducible refine g_disp1 ?_ | with_reducible refine g_iitems ?_ | with_reducible refine g_izipS ?_ | with_reducible refine g_izipL ?_
  | with_reducible refine g_eqI ?_ | with_reducible refine g_neI ?_ | with_reducible refine g_eqS ?_ | with_reducible refine g_neS ?_ | with_reducible refine g_inS ?_ | with_reducible refine g_ew ?_ | with_reducible refine g_sw ?_ | with_reducible refine g_tyS ?_ | with_reducible refine g_tyL (by assumption) ?_ | with_reducible refine g_tyL (SqL.of (by assumption)) ?_ | with_reducible refine ⟨_, rfl, ?_⟩ | with_reducible refine And.intro rfl ?_ | ((with_reducible refine And.intro (a := _ ≤ sizeLine) ?hz ?_); (case hz => first | decide | exact small (by omega) | exact small (by simp))))
local macro_rules | `(tactic| walk_at "goL1") => `(tactic| first | walk_at "goL0" | ((with_reducible refine g_ifL ?_); intro _q))
local macro_rules | `(tactic| walk_at "goL") => `(tactic| repeat walk_at "goL1")
local macro_rules | `(tactic| walk_at "goLJ") => `(tactic| repeat walk_at "goL0")
section
variable {P : Program} {w : World} {K : PySem.W.Frag} {mg : Str → Option Value} {base : Heap} {c : Nat → Addr}


def sp_law_next (_ : PySem.W.Frag) : Sp := fun vs H Q _ => ∃ i, vs = [.int i] ∧ ∀ v : Int, 0 ≤ v → v < 2147483629 → Q (.int v) H
theorem sc_law_next : FnScope ["seed"] ["seed"] (defScope s_law_next) := ⟨rfl, rfl, rfl, by decide +kernel, rfl, by decide +kernel, by decide +kernel⟩
theorem ok_law_next {f : Addr} {fd : FuncData} (F : Fun K "_law_next" "_law_next" s_law_next f fd) (M : Bl mg) (T : Cs P mg)  : FnOk P w K mg base CX0 37 f fd ["seed"] (sp_law_next K) := by
  refine F.ok sc_law_next (fun vs H Q E h => ?_) (fun cdv A outer s H vs Q E hr h => ?_)
  · obtain ⟨i, rfl, _⟩ := h; rfl
  · obtain ⟨i, rfl, k⟩ := h
    have b1 := Int.emod_nonneg (i + 7919) (show (2147483647 : Int) ≠ 0 by decide)
    have b2 := Int.emod_lt_of_pos (i + 7919) (show (0 : Int) < 2147483647 by decide)
    refine ⟨_, (pss_cons (ps_set (i := 0) sc_law_next.nd rfl (Or.inl rfl) (pe_op op_mod (pe_op op_add (pv 0) pe_int) pe_int) rfl (Or.inl rfl))
  (pss_one (ps_ret (pe_op op_mod (pe_op op_add (pe_op op_add (pe_op op_mul (pv 0) (pv 0)) (pe_op op_mul pe_int (pv 0))) pe_int) pe_int)))), ?_⟩
    walk_at "goL"
    exact k _ (Int.emod_nonneg _ (by decide)) (Int.emod_lt_of_pos _ (by decide))


def sp_law_die (_ : PySem.W.Frag) : Sp := fun vs H Q _ => ∃ c : Int, vs = [.int c] ∧ ∀ a ns H', DieOk ns → H a = none → Same H H' → H' a = some (.lst (ns.map V.int)) → Q (.ref a) H'
theorem sc_law_die : FnScope ["cell", "many"] ["cell"] (defScope s_law_die) := ⟨rfl, rfl, rfl, by decide +kernel, rfl, by decide +kernel, by decide +kernel⟩
theorem ok_law_die {f : Addr} {fd : FuncData} (F : Fun K "_law_die" "_law_die" s_law_die f fd) (M : Bl mg) (T : Cs P mg) {f_law_next : Addr} {fd_law_next : FuncData} (D_law_next : Df P w K mg base "_law_next" 37 f_law_next fd_law_next ["seed"] (sp_law_next K)) : FnOk P w K mg base CX0 38 f fd ["cell"] (sp_law_die K) := by
  refine F.ok sc_law_die (fun vs H Q E h => ?_) (fun cdv A outer s H vs Q E hr h => ?_)
  · obtain ⟨c, rfl, _⟩ := h; rfl
  · obtain ⟨c, rfl, k⟩ := h
    have b1 := Int.emod_nonneg c (show (3 : Int) ≠ 0 by decide)
    have b2 := Int.emod_lt_of_pos c (show (0 : Int) < 3 by decide)
    have fin : ∀ {D : Addr} {H' : Hp} {ys : List V}, H D = none → Same H H' → H' D = some (.lst ys) → All2 (fun (_ : Nat) y => ∃ n : Int, y = V.int n ∧ 1 ≤ n ∧ n ≤ 9) (List.range (2 + c % 3).toNat) ys → Q (.ref D) H' := fun {D H' ys} hD t1 hy ha => by
      obtain ⟨ns, rfl, hl, hp⟩ := all2_ints ha
      rw [List.length_range] at hl
      exact k D ns H' ⟨by omega, by omega, hp⟩ hD t1 hy
    refine ⟨_, (pss_cons (ps_set (i := 1) sc_law_die.nd rfl (Or.inl rfl) (pe_op op_add pe_int (pe_op op_mod (pv 0) pe_int)) rfl (Or.inl rfl))
  (pss_cons (ps_if (pt_cmpR op_eq (pe_op op_mod (pe_op op_fdiv (pv 0) pe_int) pe_int) pe_int (nomark _))
  (pss_one (ps_ret (pe_compD (defScope s_law_die) ["cell", "many"] ["k"] [none] ⟨rfl, by decide +kernel, by decide +kernel, by decide +kernel, by decide +kernel, rfl, by decide +kernel⟩ (pi_range1 (by rfl) M.range (pa_cons (pv 1) pa_nil rfl) rfl) (fun s3 H3 C fp => ⟨pgb (i := 0) (by decide +kernel) rfl rfl, pif_nil, pe_int⟩) rfl rfl rfl (fun _ => rfl))))
  pss_nil)
  (pss_one (ps_ret (pe_compD (defScope s_law_die) ["cell", "many"] ["k", "cell"] [none, some 0] ⟨rfl, by decide +kernel, by decide +kernel, by decide +kernel, by decide +kernel, rfl, by decide +kernel⟩ (pi_range1 (by rfl) M.range (pa_cons (pv 1) pa_nil rfl) rfl) (fun s3 H3 C fp => ⟨pgb (i := 0) (by decide +kernel) rfl rfl, pif_nil, (pe_op op_add pe_int (pe_op op_mod (pe_op op_fdiv (pe_callD D_law_next hr (glb rfl) (pa_cons (pe_op op_add (pe_op op_fdiv (pvb 1) pe_int) (pe_op op_mul pe_int (pvb 0))) pa_nil rfl) (by decide) (by decide) rfl rfl) pe_int) pe_int))⟩) rfl rfl rfl (fun _ => rfl)))))), ?_⟩
    walk_at "goL"
    refine g_ite (fun _ => ?_) (fun _ => ?_)
    · walk_at "goL"
      refine ⟨by omega, by omega, ?_⟩
      intro D hD
      refine comp_genT (fun _ y _ => ∃ n : Int, y = V.int n ∧ 1 ≤ n ∧ n ≤ 9) (goes_range 0 _ _) hD (by rw [List.length_range]; exact small (by omega)) (fun _ _ _ _ _ h => h) (fun j hj H' R t1 _ k1 => ?_) (fun H' ys t1 hy ha => fin hD t1 hy ha)
      walk_at "goL"
      exact k1 _ _ (Same.refl _) ⟨1, rfl, by decide, by decide⟩
    · walk_at "goL"
      refine ⟨by omega, by omega, ?_⟩
      intro D hD
      refine comp_genT (fun _ y _ => ∃ n : Int, y = V.int n ∧ 1 ≤ n ∧ n ≤ 9) (goes_range 0 _ _) hD (by rw [List.length_range]; exact small (by omega)) (fun _ _ _ _ _ h => h) (fun j hj H' R t1 _ k1 => ?_) (fun H' ys t1 hy ha => fin hD t1 hy ha)
      walk_at "goL"
      refine ⟨_, rfl, fun v v0 v1 => ?_⟩
      walk_at "goL"
      have c1 := Int.emod_nonneg (v / 7) (show (9 : Int) ≠ 0 by decide)
      have c2 := Int.emod_lt_of_pos (v / 7) (show (0 : Int) < 9 by decide)
      exact k1 _ _ (Same.refl _) ⟨_, rfl, by omega, by omega⟩


def sp_law_thrown (_ : PySem.W.Frag) : Sp := fun vs H Q _ => ∃ c m g : Int, vs = [.int c, .int m, .int g] ∧ 0 ≤ m ∧ m ≤ 100 ∧ 1 ≤ g ∧ g ≤ 4 ∧ ∀ l : List Nat, l.length = m.toNat → (∀ x ∈ l, x ∈ abcd.take g.toNat) → Q (.str (S l)) H
theorem abcd_at {v g : Int} (h1 : 1 ≤ g) (h2 : g ≤ 4) : ∃ x, atI abcd (v % g) = some x ∧ x ∈ abcd.take g.toNat := by
  have c1 := Int.emod_nonneg v (show g ≠ 0 by omega)
  have c2 := Int.emod_lt_of_pos v (show 0 < g by omega)
  obtain ⟨n, hn⟩ := Int.eq_ofNat_of_zero_le c1
  have hn' : v % g = (n : Int) := hn
  rw [hn'] at c2 ⊢
  have hl : abcd.length = 4 := rfl
  have h4 : n < abcd.length := by omega
  refine ⟨abcd[n], atI_nat (List.getElem?_eq_getElem h4), ?_⟩
  rw [List.mem_take_iff_getElem]
  exact ⟨n, by omega, rfl⟩
theorem sc_law_thrown : FnScope ["cell", "many", "signs", "text", "seed", "k"] ["cell", "many", "signs"] (defScope s_law_thrown) := ⟨rfl, rfl, rfl, by decide +kernel, rfl, by decide +kernel, by decide +kernel⟩
theorem ok_law_thrown {f : Addr} {fd : FuncData} (F : Fun K "_law_thrown" "_law_thrown" s_law_thrown f fd) (M : Bl mg) (T : Cs P mg) {f_law_next : Addr} {fd_law_next : FuncData} (D_law_next : Df P w K mg base "_law_next" 37 f_law_next fd_law_next ["seed"] (sp_law_next K)) : FnOk P w K mg base CX0 38 f fd ["cell", "many", "signs"] (sp_law_thrown K) := by
  refine F.ok sc_law_thrown (fun vs H Q E h => ?_) (fun cdv A outer s H vs Q E hr h => ?_)
  · obtain ⟨c, m, g, rfl, _⟩ := h; rfl
  · obtain ⟨c, m, g, rfl, m0, m1, g0, g1, k⟩ := h
    refine ⟨_, (pss_cons (ps_set (i := 3) sc_law_thrown.nd rfl (Or.inl rfl) (pe_strS [] (by decide +kernel)) rfl (Or.inl rfl))
  (pss_cons (ps_set (i := 4) sc_law_thrown.nd rfl (Or.inl rfl) (pe_callD D_law_next hr (by rfl) (pa_cons (pv 0) pa_nil rfl) (by decide) (by decide) rfl rfl) rfl (Or.inl rfl))
  (pss_cons (ps_for PassesOwn.never rfl (pi_range1 (by rfl) M.range (pa_cons (pv 1) pa_nil rfl) rfl) (pg_name (i := 5) sc_law_thrown.nd rfl (Or.inl rfl) (Or.inl rfl))
  (pss_cons (ps_set (i := 3) sc_law_thrown.nd rfl (Or.inl rfl) (pe_op op_addS (pv 3) (pe_ix ix_S (pe_strS [97, 98, 99, 100] (by decide +kernel)) (pe_op op_mod (pe_op op_fdiv (pv 4) pe_int) (pv 2)) (fun _ _ => rfl))) rfl (Or.inl rfl))
    (pss_one (ps_set (i := 4) sc_law_thrown.nd rfl (Or.inl rfl) (pe_callD D_law_next hr (by rfl) (pa_cons (pe_op op_add (pv 4) (pv 5)) pa_nil rfl) (by decide) (by decide) rfl rfl) rfl (Or.inl rfl)))) (fun _ => rfl))
  (pss_one (ps_ret (pv 3)))))), ?_⟩
    walk_at "goL"
    refine ⟨_, rfl, fun v v0 v1 => ?_⟩
    walk_at "goL"
    refine ⟨by omega, by omega, ?_⟩
    let Pv0 : Nat → L2.St → Hp → Prop := (fun i σ H2 => ∃ (l : List Nat) (u : Int) (kk : Option V), H2 = H ∧ σ = [some (.int c), some (.int m), some (.int g), some (.str (S l)), some (.int u), kk] ∧ l.length = i ∧ ∀ x ∈ l, x ∈ abcd.take g.toNat)
    refine forR Pv0 ⟨[], v, none, rfl, rfl, rfl, by simp⟩ ?_ ?_
    · rintro i σ H2 hi ⟨l, u, kk, rfl, rfl, hl, hx⟩
      walk_at "goL"
      obtain ⟨x, e, hx'⟩ := abcd_at (v := u / 7) g0 g1
      refine g_ixS (by decide) e ?_
      refine g_addS (by rw [List.length_singleton]; exact small (by omega)) ?_
      walk_at "goL"
      refine ⟨_, rfl, fun u' _ _ => ?_⟩
      walk_at "goL"
      refine ⟨l ++ [x], u', some (.int (0 + i)), rfl, rfl, by simp [hl], fun y hy => ?_⟩
      rcases List.mem_append.mp hy with z | z
      · exact hx y z
      · have : y = x := by simpa using z
        subst this; exact hx'
    · rintro σ H2 ⟨l, u, kk, rfl, rfl, hl, hx⟩
      walk_at "goL"
      exact k l hl hx


def sp_law_word (_ : PySem.W.Frag) : Sp := fun vs H Q _ => ∃ c g : Int, vs = [.int c, .int g] ∧ 1 ≤ g ∧ g ≤ 4 ∧ ∀ l : List Nat, WordOk g.toNat l → Q (.str (S l)) H
theorem rep_take {n : Nat} {l : List Nat} (hw : WordOk n l) {k : Nat} (hk : 1 ≤ k) : WordOk n ((List.replicate 6 (l.take k)).flatten.take l.length) := by
  have h1 := hw.lo
  have h2 := hw.hi
  have hlen : 1 ≤ (l.take k).length := by rw [List.length_take]; omega
  have hf : (List.replicate 6 (l.take k)).flatten.length = 6 * (l.take k).length := by simp; omega
  have ht : ((List.replicate 6 (l.take k)).flatten.take l.length).length = l.length := by rw [List.length_take, hf]; omega
  refine ⟨by rw [ht]; exact h1, by rw [ht]; exact h2, fun c hc => ?_⟩
  have hc := List.mem_of_mem_take hc
  rw [List.mem_flatten] at hc
  obtain ⟨r, hr, hcr⟩ := hc
  have := List.eq_of_mem_replicate hr
  subst this
  exact hw.s c (List.mem_of_mem_take hcr)
theorem sc_law_word : FnScope ["cell", "signs", "word"] ["cell", "signs"] (defScope s_law_word) := ⟨rfl, rfl, rfl, by decide +kernel, rfl, by decide +kernel, by decide +kernel⟩
theorem ok_law_word {f : Addr} {fd : FuncData} (F : Fun K "_law_word" "_law_word" s_law_word f fd) (M : Bl mg) (T : Cs P mg) {f_law_thrown : Addr} {fd_law_thrown : FuncData} (D_law_thrown : Df P w K mg base "_law_thrown" 38 f_law_thrown fd_law_thrown ["cell", "many", "signs"] (sp_law_thrown K)) : FnOk P w K mg base CX0 39 f fd ["cell", "signs"] (sp_law_word K) := by
  refine F.ok sc_law_word (fun vs H Q E h => ?_) (fun cdv A outer s H vs Q E hr h => ?_)
  · obtain ⟨c, g, rfl, _⟩ := h; rfl
  · obtain ⟨c, g, rfl, g0, g1, k⟩ := h
    have b1 := Int.emod_nonneg c (show (6 : Int) ≠ 0 by decide)
    have b2 := Int.emod_lt_of_pos c (show (0 : Int) < 6 by decide)
    refine ⟨_, (pss_cons (ps_set (i := 2) sc_law_word.nd rfl (Or.inl rfl) (pe_callD D_law_thrown hr (by rfl) (pa_cons (pe_op op_fdiv (pv 0) pe_int) (pa_cons (pe_op op_add pe_int (pe_op op_mod (pv 0) pe_int)) (pa_cons (pv 1) pa_nil rfl) rfl) rfl) (by decide) (by decide) rfl rfl) rfl (Or.inl rfl))
  (pss_cons (ps_if (pt_cmpR op_eq (pe_op op_mod (pe_op op_fdiv (pv 0) pe_int) pe_int) pe_int (nomark _))
  (pss_one (ps_set (i := 2) sc_law_word.nd rfl (Or.inl rfl) (pe_slice sl_str (pe_op op_mulS (pe_slice sl_str (pv 2) po_none (po_some (pe_op op_add pe_int (pe_op op_mod (pe_op op_fdiv (pv 0) pe_int) pe_int)))) pe_int) po_none (po_some (pe_callB call_lenS (by rfl) M.len PySem.boot_len (pa_cons (pv 2) pa_nil rfl) (by decide) (by decide) rfl rfl))) rfl (Or.inl rfl)))
  pss_nil)
  (pss_one (ps_ret (pv 2))))), ?_⟩
    walk_at "goL"
    refine ⟨_, _, _, rfl, by omega, by omega, by omega, by omega, fun l hl hx => ?_⟩
    have hw : WordOk g.toNat l := ⟨by omega, by omega, hx⟩
    walk_at "goL"
    refine g_ite (fun _ => ?_) (fun _ => ?_)
    · have d1 := Int.emod_nonneg (c / 24) (show (2 : Int) ≠ 0 by decide)
      have d2 := Int.emod_lt_of_pos (c / 24) (show (0 : Int) < 2 by decide)
      walk_at "goL"
      refine g_slS (small (by omega)) ?_
      obtain ⟨n, hn⟩ := Int.eq_ofNat_of_zero_le (show 0 ≤ 1 + c / 24 % 2 by omega)
      have hn' : 1 + c / 24 % 2 = (n : Int) := hn
      rw [hn', cutL_to]
      walk_at "goL"
      refine ⟨_, 6, rfl, rfl, by decide, by rw [List.length_take]; omega, ?_⟩
      walk_at "goL"
      refine g_slS (by
        have : (List.replicate 6 (l.take n)).flatten.length = 6 * (l.take n).length := by simp; omega
        rw [this, List.length_take]; exact small (by omega)) ?_
      rw [cutL_to]
      walk_at "goL"
      exact k _ (rep_take hw (by omega))
    · walk_at "goL"
      exact k l hw


def sp_law_cell_at (K : PySem.W.Frag) : Sp := fun vs H Q _ => ∃ a, ∃ ns : List Int, ∃ k : Nat, vs = [.ref a, .int k] ∧ SqL K H a (ns.map V.int) ∧ ∀ v, Q (.int v) H
theorem sc_law_cell_at : FnScope ["script", "k"] ["script", "k"] (defScope s_law_cell_at) := ⟨rfl, rfl, rfl, by decide +kernel, rfl, by decide +kernel, by decide +kernel⟩
theorem ok_law_cell_at {f : Addr} {fd : FuncData} (F : Fun K "_law_cell_at" "_law_cell_at" s_law_cell_at f fd) (M : Bl mg) (T : Cs P mg)  : FnOk P w K mg base CX0 37 f fd ["script", "k"] (sp_law_cell_at K) := by
  refine F.ok sc_law_cell_at (fun vs H Q E h => ?_) (fun cdv A outer s H vs Q E hr h => ?_)
  · obtain ⟨a, ns, k, rfl, _⟩ := h; rfl
  · obtain ⟨a, ns, k, rfl, hS, q⟩ := h
    have hl : (ns.map V.int).length = ns.length := List.length_map ..
    refine ⟨_, (pss_cons (ps_if (pt_cmpR op_lt (pv 1) (pe_callB (call_lenK K rfl) (by rfl) M.len PySem.boot_len (pa_cons (pv 0) pa_nil rfl) (by decide) (by decide) rfl rfl) (nomark _))
  (pss_one (ps_ret (pe_ix (ix_listK K rfl) (pv 0) (pv 1) (fun _ _ => rfl))))
  pss_nil)
  (pss_one (ps_ret pe_int))), ?_⟩
    walk_at "goL"
    refine ⟨_, _, rfl, .inl hS, ?_⟩
    walk_at "goL"
    refine g_ite (fun hk => ?_) (fun hk => ?_)
    · walk_at "goL"
      have hk' : k < ns.length := by omega
      exact g_ixL hS (atI_nat (v := V.int ns[k]) (by rw [List.getElem?_map, List.getElem?_eq_getElem hk']; rfl)) (q _)
    · walk_at "goL"
      exact q _


def sp_law_words (K : PySem.W.Frag) : Sp := fun vs H Q _ => ∃ a, ∃ ns : List Int, ∃ p : Nat, ∃ g : Int, vs = [.ref a, .int p, .int g] ∧ SqL K H a (ns.map V.int) ∧ 1 ≤ g ∧ g ≤ 4 ∧ ∀ b ws H', RaceOk g.toNat ws → H b = none → Same H H' → H' b = some (.lst (txs ws)) → Q (.ref b) H'
theorem sc_law_words : FnScope ["script", "at", "signs", "words", "k", "word"] ["script", "at", "signs"] (defScope s_law_words) := ⟨rfl, rfl, rfl, by decide +kernel, rfl, by decide +kernel, by decide +kernel⟩
theorem ok_law_words {f : Addr} {fd : FuncData} (F : Fun K "_law_words" "_law_words" s_law_words f fd) (M : Bl mg) (T : Cs P mg) {f_law_word : Addr} {fd_law_word : FuncData} (D_law_word : Df P w K mg base "_law_word" 39 f_law_word fd_law_word ["cell", "signs"] (sp_law_word K)) {f_law_cell_at : Addr} {fd_law_cell_at : FuncData} (D_law_cell_at : Df P w K mg base "_law_cell_at" 37 f_law_cell_at fd_law_cell_at ["script", "k"] (sp_law_cell_at K)) : FnOk P w K mg base CX0 40 f fd ["script", "at", "signs"] (sp_law_words K) := by
  refine F.ok sc_law_words (fun vs H Q E h => ?_) (fun cdv A outer s H vs Q E hr h => ?_)
  · obtain ⟨a, ns, p, g, rfl, _⟩ := h; rfl
  · obtain ⟨a, ns, p, g, rfl, hS, g0, g1, k⟩ := h
    refine ⟨_, (pss_cons (ps_set (i := 3) sc_law_words.nd rfl (Or.inl rfl) (pe_lst pa_nil) rfl (Or.inl rfl))
  (pss_cons (ps_for PassesOwn.never rfl (pi_range1 (by rfl) M.range (pa_cons (pe_op op_add pe_int (pe_op op_mod (pe_callD D_law_cell_at hr (by rfl) (pa_cons (pv 0) (pa_cons (pv 1) pa_nil rfl) rfl) (by decide) (by decide) rfl rfl) pe_int)) pa_nil rfl) rfl) (pg_name (i := 4) sc_law_words.nd rfl (Or.inl rfl) (Or.inl rfl))
  (pss_cons (ps_set (i := 5) sc_law_words.nd rfl (Or.inr rfl) (pe_callD D_law_word hr (by rfl) (pa_cons (pe_op op_add (pe_op op_mod (pe_callD D_law_cell_at hr (by rfl) (pa_cons (pv 0) (pa_cons (pe_op op_add (pe_op op_add (pv 1) pe_int) (pv 4)) pa_nil rfl) rfl) (by decide) (by decide) rfl rfl) pe_int) (pe_op op_mul pe_int (pv 4))) (pa_cons (pv 2) pa_nil rfl) rfl) (by decide) (by decide) rfl rfl) rfl (Or.inl rfl))
    (pss_one (ps_if (pt_not (pt_val (pe_callB (call_anyK K rfl rfl) (by rfl) M.any boot_any (pa_cons (pe_compD (defScope s_law_words) ["script", "at", "signs", "words", "k", "word"] ["one", "word"] [none, some 5] ⟨rfl, by decide +kernel, by decide +kernel, by decide +kernel, by decide +kernel, rfl, by decide +kernel⟩ (pi_listK K rfl (pv 3)) (fun s3 H3 C fp => ⟨pgb (i := 0) (by decide +kernel) rfl rfl, pif_nil, (pe_or (pe_cmpR op_inS (pvb 1) (pvb 0) (by with_unfolding_all rfl)) (pe_one (pe_cmpR op_inS (pvb 0) (pvb 1) (by with_unfolding_all rfl))))⟩) rfl rfl rfl (fun _ => rfl)) pa_nil rfl) (by decide) (by decide) rfl rfl) (fun _ => rfl)))
    (pss_one (ps_expr (pe_bmK K rfl PySem.F.plainAttrs_list PySem.F.slot_list_append PySem.F.type_list_append mt_append (pv 3) (pa_cons (pv 5) pa_nil rfl) rfl rfl rfl rfl rfl) rfl))
    pss_nil))) (fun _ => rfl))
  (pss_one (ps_ret (pv 3))))), ?_⟩
    walk_at "goL"
    intro b hb
    have s0 : Same H (upd H b (.lst [])) := same_upd (Same.refl _) hb
    walk_at "goL"
    refine ⟨a, ns, p, rfl, s0.seq hS, fun v => ?_⟩
    have b1 := Int.emod_nonneg v (show (4 : Int) ≠ 0 by decide)
    have b2 := Int.emod_lt_of_pos v (show (0 : Int) < 4 by decide)
    walk_at "goL"
    refine ⟨by omega, by omega, ?_⟩
    let Pv0 : Nat → L2.St → Hp → Prop := (fun i σ H2 => ∃ (ws : List (List Nat)) (x y : Option V), Same H H2 ∧ H2 b = some (.lst (txs ws)) ∧ σ = [some (.ref a), some (.int p), some (.int g), some (.ref b), x, y] ∧ ws.length ≤ i ∧ (0 < i → 1 ≤ ws.length) ∧ (∀ l ∈ ws, WordOk g.toNat l) ∧ ws.Pairwise fun a b => within a b = false ∧ within b a = false)
    refine forR Pv0
      ⟨[], none, none, s0, upd_same, rfl, Nat.zero_le _, by omega, by simp, .nil⟩ ?_ ?_
    · rintro i σ H2 hi ⟨ws, x, y, s2, hy2, rfl, hl, hpos, hw, hap⟩
      walk_at "goL"
      refine ⟨a, ns, p + 1 + i, by
        show [V.ref a, V.int ((p : Int) + 1 + (0 + (i : Int)))] = _
        rw [show (p : Int) + 1 + (0 + (i : Int)) = ((p + 1 + i : Nat) : Int) by omega], s2.seq hS, fun u => ?_⟩
      walk_at "goL"
      refine ⟨_, _, rfl, g0, g1, fun wd hwd => ?_⟩
      walk_at "goL"
      refine ⟨⟨_, (SqL.of hy2)⟩, ?_⟩
      intro D hD
      refine comp_map (src := ws) (gv := fun l => V.str (S l)) (fun l => V.bl (within wd l || within l wd)) (goes_list (SqL.of hy2)) hD (small (by omega)) (fun l hl' H' R t1 k1 => ?_) (fun H' t1 hy => ?_)
      · walk_at "goL"
        cases e1 : within wd l with
        | true =>
          refine iteT ?_
          have := k1 _ (Same.refl _)
          rw [e1] at this
          exact this
        | false =>
          refine iteF ?_
          walk_at "goL"
          have := k1 _ (Same.refl _)
          rw [e1] at this
          exact this
      · walk_at "goL"
        refine ⟨D, ws.map fun l => within wd l || within l wd, rfl, SqL.of (by rw [hy]; simp), ?_⟩
        have e : (ws.map fun l => within wd l || within l wd).any id = ws.any fun l => within wd l || within l wd := by rw [List.any_map]; rfl
        rw [e]
        have hy' : H' b = some (.lst (txs ws)) := t1 _ _ hy2
        cases ha : ws.any fun l => within wd l || within l wd with
        | true =>
          walk_at "goL"
          refine iteF ?_
          walk_at "goL"
          have hne : 1 ≤ ws.length := by
            cases ws with
            | nil => simp at ha
            | cons _ _ => simp
          exact ⟨ws, _, _, s2.trans t1, hy', rfl, by omega, fun _ => hne, hw, hap⟩
        | false =>
          walk_at "goL"
          refine iteT ?_
          walk_at "goL"
          refine ⟨b, _, _, rfl, rfl, hy', by rw [txs_len]; exact small1000 (by omega), ?_⟩
          refine ⟨ws ++ [wd], _, _, same_upd (s2.trans t1) hb, by rw [upd_same]; simp, rfl, by simp; omega, fun _ => by simp, fun l hl' => ?_, ?_⟩
          · rcases List.mem_append.mp hl' with z | z
            · exact hw l z
            · have : l = wd := by simpa using z
              subst this; exact hwd
          · rw [List.pairwise_append]
            refine ⟨hap, List.pairwise_singleton _ _, fun l hl' m hm => ?_⟩
            have : m = wd := by simpa using hm
            subst this
            have := List.any_eq_false.mp ha l hl'
            simp only [Bool.or_eq_true, not_or, Bool.not_eq_true] at this
            exact ⟨this.2, this.1⟩
    · rintro σ H2 ⟨ws, x, y, s2, hy2, rfl, hl, hpos, hw, hap⟩
      walk_at "goL"
      exact k b ws H2 ⟨hpos (by omega), by omega, hw, hap⟩ hb s2 hy2

def sp_law_line (K : PySem.W.Frag) : Sp := fun vs H Q _ => ∃ a b, ∃ ts us : List (List Nat), vs = [.ref a, .ref b] ∧ SqL K H a (txs ts) ∧ SqL K H b (txs us) ∧ ts.length ≤ 20 ∧ us.length ≤ 20 ∧ (∀ t ∈ ts, t.length ≤ 20) ∧ (∀ t ∈ us, t.length ≤ 20) ∧ Q (.str (S (joinL [32] ts ++ [58, 32] ++ joinL [32] us))) H
theorem sc_law_line : FnScope ["weights", "words"] ["weights", "words"] (defScope s_law_line) := ⟨rfl, rfl, rfl, by decide +kernel, rfl, by decide +kernel, by decide +kernel⟩
theorem ok_law_line {f : Addr} {fd : FuncData} (F : Fun K "_law_line" "_law_line" s_law_line f fd) (M : Bl mg) (T : Cs P mg)  : FnOk P w K mg base CX0 37 f fd ["weights", "words"] (sp_law_line K) := by
  refine F.ok sc_law_line (fun vs H Q E h => ?_) (fun cdv A outer s H vs Q E hr h => ?_)
  · obtain ⟨a, b, ts, us, rfl, _⟩ := h; rfl
  · obtain ⟨a, b, ts, us, rfl, hA, hB, h1, h2, h3, h4, k⟩ := h
    have l1 := joinL_len (c := 32) (n := 20) h3
    have l2 := joinL_len (c := 32) (n := 20) h4
    have m1 : ts.length * (20 + 1) ≤ 420 := by omega
    have m2 : us.length * (20 + 1) ≤ 420 := by omega
    refine ⟨_, (pss_one (ps_ret (pe_op op_addS (pe_op op_addS (pe_bmK K rfl PySem.F.plainAttrs_str PySem.F.slot_str_join PySem.F.type_str_join (mt_joinK K rfl) (pe_strS [32] (by decide +kernel)) (pa_cons (pv 0) pa_nil rfl) rfl rfl rfl rfl rfl) (pe_strS [58, 32] (by decide +kernel))) (pe_bmK K rfl PySem.F.plainAttrs_str PySem.F.slot_str_join PySem.F.type_str_join (mt_joinK K rfl) (pe_strS [32] (by decide +kernel)) (pa_cons (pv 1) pa_nil rfl) rfl rfl rfl rfl rfl)))), ?_⟩
    walk_at "goL"
    refine ⟨_, a, ts, rfl, rfl, hA, by omega, fun t ht => Nat.le_trans (h3 t ht) (by decide), by decide, ?_⟩
    walk_at "goL"
    refine g_addS (small (by show _ + 2 ≤ _; omega)) ?_
    walk_at "goL"
    refine ⟨_, b, us, rfl, rfl, hB, by omega, fun t ht => Nat.le_trans (h4 t ht) (by decide), by decide, ?_⟩
    walk_at "goL"
    refine g_addS (small (by rw [List.length_append]; show _ + 2 + _ ≤ _; omega)) ?_
    walk_at "goL"
    exact k


def sp_law_spoiled (K : PySem.W.Frag) : Sp := fun vs H Q _ => ∃ a b, ∃ ns : List Int, ∃ ws, ∃ fa ce : Int, vs = [.ref a, .ref b, .int fa, .int ce] ∧ H a = some (.lst (txs (ns.map dg))) ∧ H b = some (.lst (txs ws)) ∧ DieOk ns ∧ RaceOk ns.length ws ∧ 0 ≤ ce ∧ ∀ t H', Same H H' → t.length ≤ 1000 → NoLine t → Q (.str (S t)) H'
theorem sc_law_spoiled : FnScope ["weights", "words", "fault", "cell", "at", "place", "text", "some", "other"] ["weights", "words", "fault", "cell"] (defScope s_law_spoiled) := ⟨rfl, rfl, rfl, by decide +kernel, rfl, by decide +kernel, by decide +kernel⟩
theorem ok_law_spoiled {f : Addr} {fd : FuncData} (F : Fun K "_law_spoiled" "_law_spoiled" s_law_spoiled f fd) (M : Bl mg) (T : Cs P mg) {f_law_line : Addr} {fd_law_line : FuncData} (D_law_line : Df P w K mg base "_law_line" 37 f_law_line fd_law_line ["weights", "words"] (sp_law_line K)) : FnOk P w K mg base CX0 38 f fd ["weights", "words", "fault", "cell"] (sp_law_spoiled K) := by
  refine F.ok sc_law_spoiled (fun vs H Q E h => ?_) (fun cdv A outer s H vs Q E hr h => ?_)
  · obtain ⟨a, b, ns, ws, fa, ce, rfl, _⟩ := h; rfl
  · obtain ⟨a, b, ns, ws, fa, ce, rfl, hA, hB, hd, R, hc, k⟩ := h
    have q1 := hd.lo
    have q2 := hd.hi
    have r1 := R.lo
    have r2 := R.hi
    have hl : (txs (ns.map dg)).length = ns.length := by rw [txs_len, List.length_map]
    have hl2 : (txs ws).length = ws.length := txs_len ..
    have d20 : ∀ t ∈ ns.map dg, t.length ≤ 20 := fun t ht => by
      obtain ⟨n, _, rfl⟩ := List.mem_map.mp ht
      show 1 ≤ 20
      decide
    have w20 : ∀ t ∈ ws, t.length ≤ 20 := fun t ht => Nat.le_trans (R.w t ht).hi (by decide)
    have ll : ∀ ts us : List (List Nat), ts.length ≤ 20 → us.length ≤ 20 → (∀ t ∈ ts, t.length ≤ 20) → (∀ t ∈ us, t.length ≤ 20) → (joinL [32] ts ++ [58, 32] ++ joinL [32] us).length ≤ 900 := fun ts us h1 h2 h3 h4 => by
      have l1 := joinL_len (c := 32) (n := 20) h3
      have l2 := joinL_len (c := 32) (n := 20) h4
      rw [List.length_append, List.length_append]
      show _ + 2 + _ ≤ 900
      omega
    have tl : (lineT ns ws).length ≤ 900 := ll (ns.map dg) ws (by rw [List.length_map]; omega) (by omega) d20 w20
    refine ⟨_, (pss_cons (ps_set (i := 4) sc_law_spoiled.nd rfl (Or.inl rfl) (pe_op op_mod (pv 3) (pe_callB (call_lenK K rfl) (by rfl) M.len PySem.boot_len (pa_cons (pv 0) pa_nil rfl) (by decide) (by decide) rfl rfl)) rfl (Or.inl rfl))
  (pss_cons (ps_set (i := 5) sc_law_spoiled.nd rfl (Or.inl rfl) (pe_op op_mod (pv 3) (pe_callB (call_lenK K rfl) (by rfl) M.len PySem.boot_len (pa_cons (pv 1) pa_nil rfl) (by decide) (by decide) rfl rfl)) rfl (Or.inl rfl))
  (pss_cons (ps_set (i := 6) sc_law_spoiled.nd rfl (Or.inl rfl) (pe_callD D_law_line hr (by rfl) (pa_cons (pv 0) (pa_cons (pv 1) pa_nil rfl) rfl) (by decide) (by decide) rfl rfl) rfl (Or.inl rfl))
  (pss_cons (ps_if2 (pt_cmpR op_eq (pv 2) pe_int (nomark _))
  (psi_set (i := 7) sc_law_spoiled.nd rfl (Or.inl rfl) (pei_lst (pai_consS [48] (by decide +kernel) (pai_consS [49, 48] (by decide +kernel) (pai_consS [43, 49] (by decide +kernel) (pai_consS [45, 49] (by decide +kernel) (pai_consS [120] (by decide +kernel) (pai_consS [] (by decide +kernel) (pai_consS [49, 95, 48] (by decide +kernel) (pai_consS [48, 49] (by decide +kernel) (pai_consS [49, 46] (by decide +kernel) (pai_consS [49, 9] (by decide +kernel) (pai_consS [32, 49] (by decide +kernel) pai_nil)))))))))))) rfl (Or.inl rfl))
  (ps_ret (pe_callD D_law_line hr (by rfl) (pa_cons (pe_op op_cat (pe_op op_cat (pe_slice (sl_listK K rfl) (pv 0) po_none (po_some (pv 4))) (pe_lst (pa_cons (pe_ix (ix_listK K rfl) (pv 7) (pe_op op_mod (pe_op op_fdiv (pv 3) pe_int) pe_int) (fun _ _ => rfl)) pa_nil rfl))) (pe_slice (sl_listK K rfl) (pv 0) (po_some (pe_op op_add (pv 4) pe_int)) po_none)) (pa_cons (pv 1) pa_nil rfl) rfl) (by decide) (by decide) rfl rfl))
  pss_nil)
  (pss_cons (ps_if2 (pt_cmpR op_eq (pv 2) pe_int (nomark _))
  (psi_set (i := 7) sc_law_spoiled.nd rfl (Or.inl rfl) (pei_lst (pai_consS [] (by decide +kernel) (pai_consS [97, 97, 97, 97, 97, 97, 98] (by decide +kernel) (pai_consS [101] (by decide +kernel) (pai_consS [65] (by decide +kernel) (pai_consS [97, 45] (by decide +kernel) (pai_consS [97, 49] (by decide +kernel) (pai_consS [97, 9] (by decide +kernel) (pai_cons (pe_op op_addS (pe_op op_addS (pe_ix (ix_listK K rfl) (pv 1) (pe_op op_sub (pv 5) pe_int) (fun _ _ => rfl)) (pe_strS [32] (by decide +kernel))) (pe_ix (ix_listK K rfl) (pv 1) (pe_op op_sub (pv 5) pe_int) (fun _ _ => rfl))) (pai_consS [97, 98, 10] (by decide +kernel) pai_nil) rfl))))))))) rfl (Or.inl rfl))
  (ps_ret (pe_callD D_law_line hr (by rfl) (pa_cons (pv 0) (pa_cons (pe_op op_cat (pe_op op_cat (pe_slice (sl_listK K rfl) (pv 1) po_none (po_some (pv 5))) (pe_lst (pa_cons (pe_ix (ix_listK K rfl) (pv 7) (pe_op op_mod (pe_op op_fdiv (pv 3) pe_int) pe_int) (fun _ _ => rfl)) pa_nil rfl))) (pe_slice (sl_listK K rfl) (pv 1) (po_some (pe_op op_add (pv 5) pe_int)) po_none)) pa_nil rfl) rfl) (by decide) (by decide) rfl rfl))
  pss_nil)
  (pss_cons (ps_if0 (pt_cmpR op_eq (pv 2) pe_int (nomark _)) kf_test (pe0_repl (y := [58, 32]) (by decide +kernel) (pv 6) (pet_ixc (pat_cons (pet_strS [32, 32] (by decide +kernel)) (pat_cons (pet_strS [58] (by decide +kernel)) (pat_cons (pet_strS [32] (by decide +kernel)) (pat_cons (pet_strS [32, 58, 32] (by decide +kernel)) pat_nil rfl) rfl) rfl) rfl) (pe_op op_mod (pv 3) pe_int) (fun _ _ => rfl)) rfl rfl rfl rfl) pss_nil)
  (pss_cons (ps_if0 (pt_cmpR op_eq (pv 2) pe_int (nomark _)) kf_test (pe0_ix (ix_listK K rfl) (pe0_lst (pa0_cons (pe_op op_addS (pe_strS [32] (by decide +kernel)) (pv 6)) (pa0_cons (pe_op op_addS (pv 6) (pe_strS [32] (by decide +kernel))) (pa0_cons (pe_op op_addS (pv 6) (pe_strS [10] (by decide +kernel))) (pa0_cons (pe_op op_addS (pe_strS [9] (by decide +kernel)) (pv 6)) (pa0_one (pe0_repl (y := [58, 32]) (by decide +kernel) (pv 6) (pet_strS [58, 32, 32] (by decide +kernel)) rfl rfl rfl rfl) rfl) rfl) rfl) rfl) rfl)) (pe_op op_mod (pv 3) pe_int) (fun _ _ => rfl)) pss_nil)
  (pss_cons (ps_if2 (pt_cmpR op_eq (pv 2) pe_int (nomark _))
  (psi_set (i := 8) sc_law_spoiled.nd rfl (Or.inl rfl) (pei_ix (ix_listK K rfl) (pei_lst (pai_cons (pe_slice (sl_listK K rfl) (pv 0) po_none (po_some pe_int)) (pai_cons (pe_op op_cat (pv 0) (pe_compD (defScope s_law_spoiled) ["weights", "words", "fault", "cell", "at", "place", "text", "some", "other"] ["k"] [none] ⟨rfl, by decide +kernel, by decide +kernel, by decide +kernel, by decide +kernel, rfl, by decide +kernel⟩ (pi_range1 (by rfl) M.range (pa_cons pe_int pa_nil rfl) rfl) (fun s3 H3 C fp => ⟨pgb (i := 0) (by decide +kernel) rfl rfl, pif_nil, (pe_strS [49] (by decide +kernel))⟩) rfl rfl rfl (fun _ => rfl))) (pai_cons (pv 0) pai_nil rfl) rfl) rfl)) (pe_op op_mod (pv 3) pe_int) (fun _ _ => rfl)) rfl (Or.inl rfl))
  (ps_ret (pe_callD D_law_line hr (by rfl) (pa_cons (pv 8) (pa_cons (pe_ifExp (pt_cmpR op_lt (pe_op op_mod (pv 3) pe_int) pe_int (nomark _)) (pv 1) (pe_lst pa_nil)) pa_nil rfl) rfl) (by decide) (by decide) rfl rfl))
  pss_nil)
  (pss_consI (ps_if (pt_cmpR op_eq (pv 2) pe_int (nomark _))
  (pss_one (ps_ret (pe_callD D_law_line hr (by rfl) (pa_cons (pv 0) (pa_cons (pe_lst (pa_cons (pe_strS [97, 97, 98] (by decide +kernel)) (pa_cons (pe_strS [97, 98, 98] (by decide +kernel)) (pa_cons (pe_strS [98, 98, 97] (by decide +kernel)) (pa_cons (pe_strS [98, 97, 97] (by decide +kernel)) (pa_cons (pe_strS [98, 97, 98] (by decide +kernel)) pa_nil rfl) rfl) rfl) rfl) rfl)) pa_nil rfl) rfl) (by decide) (by decide) rfl rfl)))
  pss_nil)
  (pssI_one (psi_ret (pei_ix (ix_listK K rfl) (pei_lst (pai_consS [] (by decide +kernel) (pai_consS [58] (by decide +kernel) (pai_consS [58, 32] (by decide +kernel) (pai_consS [32, 58, 32, 97] (by decide +kernel) (pai_consS [49, 32, 49, 58] (by decide +kernel) (pai_consS [49, 32, 49, 58, 32] (by decide +kernel) (pai_consS [49, 44, 49, 58, 32, 97] (by decide +kernel) (pai_consS [49, 32, 49, 59, 32, 97] (by decide +kernel) (pai_consS [49, 32, 49, 58, 32, 97, 44, 98] (by decide +kernel) (pai_consS [49, 32, 49, 32, 97] (by decide +kernel) pai_nil))))))))))) (pe_op op_mod (pv 3) pe_int) (fun _ _ => rfl))))))))))))), ?_⟩
    walk_at "go"
    refine ⟨_, _, rfl, .inl (SqL.of hA), ?_⟩
    rw [hl]
    walk_at "go"
    refine ⟨_, _, rfl, .inl (SqL.of hB), ?_⟩
    rw [hl2]
    obtain ⟨i, ei⟩ := Int.eq_ofNat_of_zero_le (Int.emod_nonneg ce (show (ns.length : Int) ≠ 0 by omega))
    have hi : i < ns.length := by have := Int.emod_lt_of_pos ce (show (0 : Int) < ns.length by omega); omega
    obtain ⟨j, ej⟩ := Int.eq_ofNat_of_zero_le (Int.emod_nonneg ce (show (ws.length : Int) ≠ 0 by omega))
    have hj : j < ws.length := by have := Int.emod_lt_of_pos ce (show (0 : Int) < ws.length by omega); omega
    walk_at "go"
    rw [show ce % (ns.length : Int) = (i : Int) from ei, show ce % (ws.length : Int) = (j : Int) from ej]
    refine ⟨a, b, ns.map dg, ws, rfl, SqL.of hA, SqL.of hB, by rw [List.length_map]; omega, by omega, d20, w20, ?_⟩
    rw [show joinL [32] (ns.map dg) ++ [58, 32] ++ joinL [32] ws = lineT ns ws from rfl]
    walk_at "go"
    refine g_ite (fun _ => ?_) (fun _ => ?_)
    · walk_at "go"
      obtain ⟨x, ex, hx, lx⟩ := at_mod (c := ce / 16) (n := 11) (by decide) at11
      intro p0 n0
      have u0 := same_upd (o := .lst (txs some11)) (Same.refl H) n0
      have e0 : upd H p0 (.lst (txs some11)) p0 = some (.lst (txs some11)) := upd_same
      change gName 7 _ _ (upd H p0 (.lst (txs some11))) _
      generalize upd H p0 (.lst (txs some11)) = H0 at u0 e0 ⊢
      walk_at "go"
      refine ⟨a, _, rfl, u0.seq (SqL.of hA), fun p1 n1 => ?_⟩
      rw [cut_to]
      have u1 := same_upd (o := .lst (txs ((ns.map dg).take i))) (Same.refl H0) n1
      have e1 : upd H0 p1 (.lst (txs ((ns.map dg).take i))) p1 = some (.lst (txs ((ns.map dg).take i))) := upd_same
      generalize upd H0 p1 (.lst (txs ((ns.map dg).take i))) = H1 at u1 e1 ⊢
      walk_at "go"
      refine g_ixL (SqL.of (u1 _ _ e0)) ex ?_
      walk_at "go"
      intro p3 n3
      have u3 := same_upd (o := .lst (txs [x])) (Same.refl H1) n3
      have e3 : upd H1 p3 (.lst (txs [x])) p3 = some (.lst (txs [x])) := upd_same
      change rCat _ _ (upd H1 p3 (.lst (txs [x]))) _
      generalize upd H1 p3 (.lst (txs [x])) = H3 at u3 e3 ⊢
      refine ⟨p1, p3, _, _, rfl, rfl, u3 _ _ e1, e3, by rw [txs_len, txs_len, List.length_take]; show _ + 1 ≤ _; exact small (by simp only [List.length_map] at *; omega), fun p4 n4 => ?_⟩
      rw [show txs ((ns.map dg).take i) ++ txs [x] = txs ((ns.map dg).take i ++ [x]) from List.map_append.symm]
      have u4 := same_upd (o := .lst (txs ((ns.map dg).take i ++ [x]))) (Same.refl H3) n4
      have e4 : upd H3 p4 (.lst (txs ((ns.map dg).take i ++ [x]))) p4 = some (.lst (txs ((ns.map dg).take i ++ [x]))) := upd_same
      have w4 : Same H (upd H3 p4 (.lst (txs ((ns.map dg).take i ++ [x])))) := ((u0.trans u1).trans u3).trans u4
      generalize upd H3 p4 (.lst (txs ((ns.map dg).take i ++ [x]))) = H4 at u4 e4 w4 ⊢
      walk_at "go"
      refine ⟨a, _, rfl, w4.seq (SqL.of hA), fun p5 n5 => ?_⟩
      rw [cut_from]
      have u5 := same_upd (o := .lst (txs ((ns.map dg).drop (i + 1)))) (Same.refl H4) n5
      refine ⟨p4, p5, _, _, rfl, rfl, u5 _ _ e4, upd_same, by rw [txs_len, txs_len, List.length_append, List.length_take, List.length_drop]; show _ + 1 + _ ≤ _; exact small (by simp only [List.length_map] at *; omega), fun p6 n6 => ?_⟩
      rw [show txs ((ns.map dg).take i ++ [x]) ++ txs ((ns.map dg).drop (i + 1)) = txs ((ns.map dg).take i ++ [x] ++ (ns.map dg).drop (i + 1)) from List.map_append.symm]
      have w5 := w4.trans u5
      have w6 := same_upd (o := .lst (txs ((ns.map dg).take i ++ [x] ++ (ns.map dg).drop (i + 1)))) w5 (w5.free n6)
      generalize hG : upd (upd H4 p5 (.lst (txs ((ns.map dg).drop (i + 1))))) p6 (.lst (txs ((ns.map dg).take i ++ [x] ++ (ns.map dg).drop (i + 1)))) = H6 at w6 ⊢
      have e6 : H6 p6 = some (.lst (txs ((ns.map dg).take i ++ [x] ++ (ns.map dg).drop (i + 1)))) := by rw [← hG]; exact upd_same
      walk_at "go"
      have lm : ((ns.map dg).take i ++ [x] ++ (ns.map dg).drop (i + 1)).length ≤ 20 := by
        rw [List.length_append, List.length_append, List.length_take, List.length_drop, List.length_map]
        show _ + 1 + _ ≤ _
        omega
      have lt20 : ∀ t ∈ (ns.map dg).take i ++ [x] ++ (ns.map dg).drop (i + 1), t.length ≤ 20 := fun t ht => by
        rcases List.mem_append.mp ht with z | z
        · rcases List.mem_append.mp z with z | z
          · exact d20 t (List.mem_of_mem_take z)
          · rw [List.mem_singleton.mp z]; exact lx
        · exact d20 t (List.mem_of_mem_drop z)
      refine ⟨p6, b, (ns.map dg).take i ++ [x] ++ (ns.map dg).drop (i + 1), ws, rfl, SqL.of e6, SqL.of (w6 _ _ hB), lm, by omega, lt20, w20, ?_⟩
      exact k _ _ w6 (Nat.le_trans (ll _ _ lm (by omega) lt20 w20) (by decide)) (nl_w (fun p hp => ds_free hd p (List.mem_of_mem_take hp)) (fun p hp => ds_free hd p (List.mem_of_mem_drop hp)) hx)
    walk_at "go"
    refine g_ite (fun _ => ?_) (fun _ => ?_)
    · obtain ⟨w', hw', ew⟩ := at_prev hj
      have lw := (R.w w' hw').hi
      obtain ⟨x, ex, hx, lx⟩ := at_mod (c := ce / 16) (n := 9) (by decide) (at9 (ws_free R w' hw') lw)
      walk_at "go"
      refine g_ixL (SqL.of hB) ew ?_
      walk_at "go"
      refine g_addS (small (by show _ + 1 ≤ _; omega)) ?_
      walk_at "go"
      refine g_ixL (SqL.of hB) ew ?_
      refine g_addS (small (by rw [List.length_append]; show _ + 1 + _ ≤ _; omega)) ?_
      walk_at "go"
      intro p0 n0
      have u0 := same_upd (o := .lst (txs (some9 w'))) (Same.refl H) n0
      have e0 : upd H p0 (.lst (txs (some9 w'))) p0 = some (.lst (txs (some9 w'))) := upd_same
      change gName 7 _ _ (upd H p0 (.lst (txs (some9 w')))) _
      generalize upd H p0 (.lst (txs (some9 w'))) = H0 at u0 e0 ⊢
      walk_at "go"
      refine ⟨b, _, rfl, u0.seq (SqL.of hB), fun p1 n1 => ?_⟩
      rw [cut_to]
      have u1 := same_upd (o := .lst (txs ((ws).take j))) (Same.refl H0) n1
      have e1 : upd H0 p1 (.lst (txs ((ws).take j))) p1 = some (.lst (txs ((ws).take j))) := upd_same
      generalize upd H0 p1 (.lst (txs ((ws).take j))) = H1 at u1 e1 ⊢
      walk_at "go"
      refine g_ixL (SqL.of (u1 _ _ e0)) ex ?_
      walk_at "go"
      intro p3 n3
      have u3 := same_upd (o := .lst (txs [x])) (Same.refl H1) n3
      have e3 : upd H1 p3 (.lst (txs [x])) p3 = some (.lst (txs [x])) := upd_same
      change rCat _ _ (upd H1 p3 (.lst (txs [x]))) _
      generalize upd H1 p3 (.lst (txs [x])) = H3 at u3 e3 ⊢
      refine ⟨p1, p3, _, _, rfl, rfl, u3 _ _ e1, e3, by rw [txs_len, txs_len, List.length_take]; show _ + 1 ≤ _; exact small (by simp only [List.length_map] at *; omega), fun p4 n4 => ?_⟩
      rw [show txs ((ws).take j) ++ txs [x] = txs ((ws).take j ++ [x]) from List.map_append.symm]
      have u4 := same_upd (o := .lst (txs ((ws).take j ++ [x]))) (Same.refl H3) n4
      have e4 : upd H3 p4 (.lst (txs ((ws).take j ++ [x]))) p4 = some (.lst (txs ((ws).take j ++ [x]))) := upd_same
      have w4 : Same H (upd H3 p4 (.lst (txs ((ws).take j ++ [x])))) := ((u0.trans u1).trans u3).trans u4
      generalize upd H3 p4 (.lst (txs ((ws).take j ++ [x]))) = H4 at u4 e4 w4 ⊢
      walk_at "go"
      refine ⟨b, _, rfl, w4.seq (SqL.of hB), fun p5 n5 => ?_⟩
      rw [cut_from]
      have u5 := same_upd (o := .lst (txs ((ws).drop (j + 1)))) (Same.refl H4) n5
      refine ⟨p4, p5, _, _, rfl, rfl, u5 _ _ e4, upd_same, by rw [txs_len, txs_len, List.length_append, List.length_take, List.length_drop]; show _ + 1 + _ ≤ _; exact small (by simp only [List.length_map] at *; omega), fun p6 n6 => ?_⟩
      rw [show txs ((ws).take j ++ [x]) ++ txs ((ws).drop (j + 1)) = txs ((ws).take j ++ [x] ++ (ws).drop (j + 1)) from List.map_append.symm]
      have w5 := w4.trans u5
      have w6 := same_upd (o := .lst (txs ((ws).take j ++ [x] ++ (ws).drop (j + 1)))) w5 (w5.free n6)
      generalize hG : upd (upd H4 p5 (.lst (txs ((ws).drop (j + 1))))) p6 (.lst (txs ((ws).take j ++ [x] ++ (ws).drop (j + 1)))) = H6 at w6 ⊢
      have e6 : H6 p6 = some (.lst (txs ((ws).take j ++ [x] ++ (ws).drop (j + 1)))) := by rw [← hG]; exact upd_same
      walk_at "go"
      have lm : (ws.take j ++ [x] ++ ws.drop (j + 1)).length ≤ 20 := by
        rw [List.length_append, List.length_append, List.length_take, List.length_drop]
        show _ + 1 + _ ≤ _
        omega
      have lt20 : ∀ t ∈ ws.take j ++ [x] ++ ws.drop (j + 1), t.length ≤ 20 := fun t ht => by
        rcases List.mem_append.mp ht with z | z
        · rcases List.mem_append.mp z with z | z
          · exact w20 t (List.mem_of_mem_take z)
          · rw [List.mem_singleton.mp z]; exact lx
        · exact w20 t (List.mem_of_mem_drop z)
      refine ⟨a, p6, ns.map dg, ws.take j ++ [x] ++ ws.drop (j + 1), rfl, SqL.of (w6 _ _ hA), SqL.of e6, by rw [List.length_map]; omega, lm, d20, lt20, ?_⟩
      exact k _ _ w6 (Nat.le_trans (ll _ _ (by rw [List.length_map]; omega) lm d20 lt20) (by decide)) (nl_v (wt_no hd) (fun p hp => ws_free R p (List.mem_of_mem_take hp)) (fun p hp => ws_free R p (List.mem_of_mem_drop hp)) hx)
    walk_at "go"
    refine g_ite (fun _ => ?_) (fun _ => ?_)
    · walk_at "go"
      refine g_repl ?_
      walk_at "go"
      refine ⟨by omega, ?_⟩
      refine g_ixc ?_
      walk_at "go"
      refine ⟨by decide, ?_⟩
      walk_at "go"
      obtain ⟨m, em⟩ := Int.eq_ofNat_of_zero_le (Int.emod_nonneg ce (show (4 : Int) ≠ 0 by decide))
      have hm : m < 4 := by have := Int.emod_lt_of_pos ce (show (0 : Int) < 4 by decide); omega
      obtain ⟨bb, eb, lb, nb, hb⟩ := at4 hd R m hm
      refine ⟨m, _, congrArg V.int em, eb, bb, rfl, lb, nb, ?_⟩
      rw [repl_line hd R]
      refine k _ _ (Same.refl _) ?_ hb
      have := tl
      unfold lineT at this
      simp only [List.length_append] at this ⊢
      omega
    walk_at "go"
    refine g_ite (fun _ => ?_) (fun _ => ?_)
    · walk_at "go"
      refine g_addS (small (by show 1 + _ ≤ _; omega)) ?_
      walk_at "go"
      refine g_addS (small (by show _ + 1 ≤ _; omega)) ?_
      walk_at "go"
      refine g_addS (small (by show _ + 1 ≤ _; omega)) ?_
      walk_at "go"
      refine g_addS (small (by show 1 + _ ≤ _; omega)) ?_
      walk_at "go"
      refine g_repl ?_
      walk_at "go"
      refine ⟨by omega, ?_⟩
      walk_at "go"
      refine ⟨by decide, by decide, ?_⟩
      rw [repl_line hd R]
      walk_at "go"
      intro p n
      obtain ⟨x, ex, hx, lx⟩ := at_mod (c := ce) (n := 5) (by decide) (at5 hd R)
      walk_at "go"
      refine g_ixL (SqL.of (xs := txs (some5 (wtT ns) (joinL [32] ws))) upd_same) ex ?_
      exact k _ _ (same_upd (Same.refl _) n) (by omega) hx
    walk_at "go"
    refine g_ite (fun _ => ?_) (fun _ => ?_)
    · walk_at "go"
      refine ⟨a, _, rfl, SqL.of hA, fun p1 n1 => ?_⟩
      rw [show cutV (txs (ns.map dg)) none (some 1) = txs ((ns.map dg).take 1) from cut_to _ 1]
      have u1 := same_upd (o := .lst (txs ((ns.map dg).take 1))) (Same.refl H) n1
      have e1 : upd H p1 (.lst (txs ((ns.map dg).take 1))) p1 = some (.lst (txs ((ns.map dg).take 1))) := upd_same
      generalize upd H p1 (.lst (txs ((ns.map dg).take 1))) = H1 at u1 e1 ⊢
      walk_at "go"
      refine ⟨by decide, by decide, ?_⟩
      intro D hD
      refine comp_map (src := List.range 3) (gv := fun k => V.int (0 + (k : Int))) (fun _ => V.str (S [49])) (goes_range 0 3 _) hD (by rw [List.length_range]; exact small (by decide)) (fun c hc H' R' t1 k1 => ?_) (fun H3 s3 hy => ?_)
      · walk_at "go"
        exact k1 _ (Same.refl _)
      have e3 : H3 D = some (.lst (txs [[49], [49], [49]])) := hy
      have w3 : Same H H3 := u1.trans s3
      refine ⟨a, D, _, _, rfl, rfl, w3 _ _ hA, e3, by rw [txs_len, txs_len, List.length_map]; show _ + 3 ≤ _; exact small (by omega), fun p4 n4 => ?_⟩
      rw [show txs (ns.map dg) ++ txs [[49], [49], [49]] = txs (ns.map dg ++ [[49], [49], [49]]) from List.map_append.symm]
      have u4 := same_upd (o := .lst (txs (ns.map dg ++ [[49], [49], [49]]))) (Same.refl H3) n4
      have e4 : upd H3 p4 (.lst (txs (ns.map dg ++ [[49], [49], [49]]))) p4 = some (.lst (txs (ns.map dg ++ [[49], [49], [49]]))) := upd_same
      have w4 := w3.trans u4
      have e14 := u4 _ _ (s3 _ _ e1)
      generalize upd H3 p4 (.lst (txs (ns.map dg ++ [[49], [49], [49]]))) = H4 at u4 e4 w4 e14 ⊢
      walk_at "go"
      intro p5 n5
      have u5 := same_upd (o := .lst [V.ref p1, .ref p4, .ref a]) (Same.refl H4) n5
      have e5 : upd H4 p5 (.lst [V.ref p1, .ref p4, .ref a]) p5 = some (.lst [V.ref p1, .ref p4, .ref a]) := upd_same
      have w5 := w4.trans u5
      have e15 := u5 _ _ e14
      have e45 := u5 _ _ e4
      generalize upd H4 p5 (.lst [V.ref p1, .ref p4, .ref a]) = H5 at u5 e5 w5 e15 e45 ⊢
      walk_at "go"
      obtain ⟨m, em⟩ := Int.eq_ofNat_of_zero_le (Int.emod_nonneg ce (show (3 : Int) ≠ 0 by decide))
      have hm : m < 3 := by have := Int.emod_lt_of_pos ce (show (0 : Int) < 3 by decide); omega
      rcases (show m = 0 ∨ m = 1 ∨ m = 2 by omega) with rfl | rfl | rfl
      · refine g_ixL (SqL.of e5) (i := ce % 3) (v := .ref p1) (by rw [em]; rfl) ?_
        walk_at "go"
        unfold tIf
        walk_at "go"
        refine iteTd (by omega) ?_
        walk_at "go"
        have lm : ((ns.map dg).take 1).length ≤ 20 := by rw [List.length_take]; omega
        refine ⟨p1, b, (ns.map dg).take 1, ws, rfl, SqL.of e15, SqL.of (w5 _ _ hB), lm, by omega, fun t ht => d20 t (List.mem_of_mem_take ht), w20, ?_⟩
        exact k _ _ w5 (Nat.le_trans (ll _ _ lm (by omega) (fun t ht => d20 t (List.mem_of_mem_take ht)) w20) (by decide)) (nl_e0 hd R)
      · refine g_ixL (SqL.of e5) (i := ce % 3) (v := .ref p4) (by rw [em]; rfl) ?_
        walk_at "go"
        unfold tIf
        walk_at "go"
        refine iteTd (by omega) ?_
        walk_at "go"
        have lm : (ns.map dg ++ [[49], [49], [49]]).length ≤ 20 := by
          rw [List.length_append, List.length_map]
          show _ + 3 ≤ _
          omega
        have lt20 : ∀ t ∈ ns.map dg ++ [[49], [49], [49]], t.length ≤ 20 := fun t ht => by
          rcases List.mem_append.mp ht with z | z
          · exact d20 t z
          · clear ht; revert t; decide
        refine ⟨p4, b, ns.map dg ++ [[49], [49], [49]], ws, rfl, SqL.of e45, SqL.of (w5 _ _ hB), lm, by omega, lt20, w20, ?_⟩
        exact k _ _ w5 (Nat.le_trans (ll _ _ lm (by omega) lt20 w20) (by decide)) (nl_e1 hd R)
      · refine g_ixL (SqL.of e5) (i := ce % 3) (v := .ref a) (by rw [em]; rfl) ?_
        walk_at "go"
        unfold tIf
        walk_at "go"
        refine iteFd (by omega) ?_
        walk_at "go"
        intro p6 n6
        have w6 := same_upd (o := .lst (txs [])) w5 (w5.free n6)
        walk_at "go"
        refine ⟨a, p6, ns.map dg, [], rfl, SqL.of (w6 _ _ hA), SqL.of upd_same, by rw [List.length_map]; omega, by decide, d20, by decide, ?_⟩
        exact k _ _ w6 (Nat.le_trans (ll _ _ (by rw [List.length_map]; omega) (by decide) d20 (by decide)) (by decide)) (nl_e2 hd R)
    walk_at "go"
    refine g_ite (fun _ => ?_) (fun _ => ?_)
    · walk_at "go"
      intro p n
      have u0 := same_upd (o := .lst (txs five)) (Same.refl H) n
      walk_at "go"
      refine ⟨a, p, ns.map dg, five, rfl, u0.seq (SqL.of hA), SqL.of upd_same, by rw [List.length_map]; omega, by decide, d20, by decide, ?_⟩
      exact k _ _ u0 (Nat.le_trans (ll _ _ (by rw [List.length_map]; omega) (by decide) d20 (by decide)) (by decide)) (nl_f hd R)
    walk_at "go"
    intro p n
    obtain ⟨x, ex, hx, lx⟩ := at_mod (c := ce) (n := 10) (by decide) at10
    walk_at "go"
    refine g_ixL (SqL.of (xs := txs some10) upd_same) ex ?_
    exact k _ _ (same_upd (Same.refl _) n) (by omega) hx

theorem dg_within {n : Int} (h1 : 1 ≤ n) (h9 : n ≤ 9) : within (dg n) [49, 50, 51, 52, 53, 54, 55, 56, 57] = true := by
  have h : n = 1 ∨ n = 2 ∨ n = 3 ∨ n = 4 ∨ n = 5 ∨ n = 6 ∨ n = 7 ∨ n = 8 ∨ n = 9 := by omega
  rcases h with rfl | rfl | rfl | rfl | rfl | rfl | rfl | rfl | rfl <;> decide +kernel
def sp_read_weight (K : PySem.W.Frag) : Sp := fun vs H Q _ => ∃ n : Int, vs = [.str (S (dg n))] ∧ 1 ≤ n ∧ n ≤ 9 ∧ Q (.int n) H
theorem sc_read_weight : FnScope ["text"] ["text"] (defScope s_read_weight) := ⟨rfl, rfl, rfl, by decide +kernel, rfl, by decide +kernel, by decide +kernel⟩
theorem ok_read_weight {f : Addr} {fd : FuncData} (F : Fun K "read_weight" "read_weight" s_read_weight f fd) (M : Bl mg) (T : Cs P mg)  : FnOk P w K mg base CX0 37 f fd ["text"] (sp_read_weight K) := by
  refine F.ok sc_read_weight (fun vs H Q E h => ?_) (fun cdv A outer s H vs Q E hr h => ?_)
  · obtain ⟨n, rfl, _⟩ := h; rfl
  · obtain ⟨n, rfl, h1, h9, k⟩ := h
    refine ⟨_, (pss_cons (ps_if (PW.pt (pw_or (pt_cmpR op_ne (pe_callB call_lenS (by rfl) M.len PySem.boot_len (pa_cons (pv 0) pa_nil rfl) (by decide) (by decide) rfl rfl) pe_int (nomark _)) (pw_or1 (pt_cmpR op_notInS (pv 0) (pe_gS (by rfl) T.FIGURES (by decide)) (by with_unfolding_all rfl)))))
  (pss_one ps_never)
  pss_nil)
  (pss_one (ps_ret (pe_callTy call_intT (by rfl) M.int boot_int (pa_cons (pv 0) pa_nil rfl) (by decide) (by decide) rfl rfl)))), ?_⟩
    walk_at "goL"
    refine ⟨by show 1 ≤ sizeLine; exact small (by decide), ?_⟩
    walk_at "goL"
    refine iteNS rfl ?_
    walk_at "goL"
    refine g_notInS ?_
    rw [dg_within h1 h9]
    walk_at "goL"
    refine iteF ?_
    walk_at "goL"
    exact ⟨by omega, by omega, k⟩

theorem fig_within {x : Nat} (h : within [x] [49, 50, 51, 52, 53, 54, 55, 56, 57] = true) : Fig [x] := by
  have hm : x ∈ [49, 50, 51, 52, 53, 54, 55, 56, 57] := (within_iff.mp h).subset (by simp)
  have hb : 49 ≤ x ∧ x ≤ 57 := by
    simp at hm
    omega
  refine ⟨(x : Int) - 48, by omega, by omega, ?_⟩
  unfold dg
  rw [show 48 + ((x : Int) - 48).toNat = x by omega]
def sp_read_weightR (K : PySem.W.Frag) (c : Nat → Addr) : Sp := fun vs H Q E => ∃ l, vs = [.str (S l)] ∧ l.length ≤ 1000 ∧ ¬ Fig l ∧ ∀ H' ea, Same H H' → H' ea = none → E (.ref (c 6)) (some ea) H'
theorem okR_read_weight {f : Addr} {fd : FuncData} (F : Fun K "read_weight" "read_weight" s_read_weight f fd) (M : Bl mg) (T : Cs P mg) (Y : Xc K mg c)  : FnOk P w K mg base (CX1 P w) 37 f fd ["text"] (sp_read_weightR K c) := by
  refine F.okG sc_read_weight (fun vs H Q E h => ?_) (fun cdv A outer s H vs Q E hr h => ?_)
  · obtain ⟨l, rfl, _⟩ := h; rfl
  · obtain ⟨l, rfl, hl, hf, k⟩ := h
    refine ⟨_, (pss_cons (ps_if (PW.pt (pw_or (pt_cmpR op_ne (pe_callB call_lenS (by rfl) M.len PySem.boot_len (pa_cons (pv 0) pa_nil rfl) (by decide) (by decide) rfl rfl) pe_int (nomark _)) (pw_or1 (pt_cmpR op_notInS (pv 0) (pe_gS (by rfl) T.FIGURES (by decide)) (by with_unfolding_all rfl)))))
  (pss_one (ps_raise hr.hd (Y.e 6 (by decide) Y.m6) (by rfl) (pe_strS [97, 32, 119, 101, 105, 103, 104, 116, 32, 105, 115, 32, 119, 114, 105, 116, 116, 101, 110, 32, 98, 121, 32, 111, 110, 101, 32, 102, 105, 103, 117, 114, 101, 32, 102, 114, 111, 109, 32, 49, 32, 116, 111, 32, 57] (by decide +kernel)) rfl (by decide)))
  pss_nil)
  pss_never), ?_⟩
    walk_at "goL"
    refine g_iteN (fun _ => ?_) (fun h1 => ?_)
    · walk_at "goL"
      exact fun ea he => k H ea (Same.refl _) he
    · have h1 : l.length = 1 := by omega
      obtain ⟨x, rfl⟩ := List.length_eq_one_iff.mp h1
      walk_at "goL"
      refine g_notInS ?_
      have e : within [x] [49, 50, 51, 52, 53, 54, 55, 56, 57] = false := Bool.eq_false_iff.mpr fun z => hf (fig_within z)
      rw [e]
      walk_at "goL"
      refine iteT ?_
      walk_at "goL"
      exact fun ea he => k H ea (Same.refl _) he


def sp_check_die (K : PySem.W.Frag) : Sp := fun vs H Q _ => ∃ a ns, vs = [.ref a] ∧ SqL K H a (ns.map V.int) ∧ DieOk ns ∧ Q .non H
theorem sc_check_die : FnScope ["die"] ["die"] (defScope s_check_die) := ⟨rfl, rfl, rfl, by decide +kernel, rfl, by decide +kernel, by decide +kernel⟩
theorem ok_check_die {f : Addr} {fd : FuncData} (F : Fun K "check_die" "check_die" s_check_die f fd) (M : Bl mg) (T : Cs P mg)  : FnOk P w K mg base CX0 37 f fd ["die"] (sp_check_die K) := by
  refine F.ok sc_check_die (fun vs H Q E h => ?_) (fun cdv A outer s H vs Q E hr h => ?_)
  · obtain ⟨a, ns, rfl, _⟩ := h; rfl
  · obtain ⟨a, ns, rfl, hS, hd, k⟩ := h
    have hl : (ns.map V.int).length = ns.length := List.length_map ..
    have h1 := hd.lo
    have h2 := hd.hi
    have hne : ns ≠ [] := by intro z; subst z; simp at h1
    refine ⟨_, (pss_cons (ps_if (PW.pt (pw_or (pt_cmpR op_lt (pe_callB (call_lenK K rfl) (by rfl) M.len PySem.boot_len (pa_cons (pv 0) pa_nil rfl) (by decide) (by decide) rfl rfl) (pe_gI (by rfl) T.LEAST_WEIGHTS (by decide)) (nomark _)) (pw_or1 (pt_cmpR op_gt (pe_callB (call_lenK K rfl) (by rfl) M.len PySem.boot_len (pa_cons (pv 0) pa_nil rfl) (by decide) (by decide) rfl rfl) (pe_gI (by rfl) T.MOST_WEIGHTS (by decide)) (nomark _)))))
  (pss_one ps_never)
  pss_nil)
  (pss_one (ps_if (PW.pt (pw_or (pt_cmpR op_lt (pe_callB (call_minK K rfl rfl) (by rfl) M.min boot_min (pa_cons (pv 0) pa_nil rfl) (by decide) (by decide) rfl rfl) (pe_gI (by rfl) T.LEAST_WEIGHT (by decide)) (nomark _)) (pw_or1 (pt_cmpR op_gt (pe_callB (call_maxK K rfl rfl) (by rfl) M.max boot_max (pa_cons (pv 0) pa_nil rfl) (by decide) (by decide) rfl rfl) (pe_gI (by rfl) T.MOST_WEIGHT (by decide)) (nomark _)))))
  (pss_one ps_never)
  pss_nil))), ?_⟩
    walk_at "goL"
    refine ⟨_, _, rfl, .inl hS, ?_⟩
    walk_at "goL"
    refine iteFd (by omega) ?_
    walk_at "goL"
    refine ⟨_, _, rfl, .inl hS, ?_⟩
    walk_at "goL"
    refine iteFd (by omega) ?_
    walk_at "goL"
    refine ⟨a, ns, rfl, hS, hne, fun M hM _ => ?_⟩
    have hM' := hd.w M hM
    walk_at "goL"
    refine iteFd (by omega) ?_
    walk_at "goL"
    refine ⟨a, ns, rfl, hS, hne, fun M2 hM2 _ => ?_⟩
    have hM2' := hd.w M2 hM2
    walk_at "goL"
    refine iteFd (by omega) ?_
    walk_at "goL"
    exact k

def sp_check_dieR (K : PySem.W.Frag) (c : Nat → Addr) : Sp := fun vs H Q E => ∃ a ns, vs = [.ref a] ∧ SqL K H a (ns.map V.int) ∧ ¬ DieOk ns ∧ ∀ ea, H ea = none → E (.ref (c 0)) (some ea) H
theorem okR_check_die {f : Addr} {fd : FuncData} (F : Fun K "check_die" "check_die" s_check_die f fd) (M : Bl mg) (T : Cs P mg) (Y : Xc K mg c)  : FnOk P w K mg base (CX1 P w) 37 f fd ["die"] (sp_check_dieR K c) := by
  refine F.okG sc_check_die (fun vs H Q E h => ?_) (fun cdv A outer s H vs Q E hr h => ?_)
  · obtain ⟨a, ns, rfl, _⟩ := h; rfl
  · obtain ⟨a, ns, rfl, hS, hd, k⟩ := h
    have hl : (ns.map V.int).length = ns.length := List.length_map ..
    by_cases h24 : 2 ≤ ns.length ∧ ns.length ≤ 4
    · have hne : ns ≠ [] := by intro z; subst z; simp at h24
      refine ⟨_, (pss_cons (ps_if (PW.pt (pw_or (pt_cmpR op_lt (pe_callB (call_lenK K rfl) (by rfl) M.len PySem.boot_len (pa_cons (pv 0) pa_nil rfl) (by decide) (by decide) rfl rfl) (pe_gI (by rfl) T.LEAST_WEIGHTS (by decide)) (nomark _)) (pw_or1 (pt_cmpR op_gt (pe_callB (call_lenK K rfl) (by rfl) M.len PySem.boot_len (pa_cons (pv 0) pa_nil rfl) (by decide) (by decide) rfl rfl) (pe_gI (by rfl) T.MOST_WEIGHTS (by decide)) (nomark _)))))
  (pss_one ps_never)
  pss_nil)
  (pss_one (ps_if (PW.pt (pw_or (pt_cmpR op_lt (pe_callB (call_minK K rfl rfl) (by rfl) M.min boot_min (pa_cons (pv 0) pa_nil rfl) (by decide) (by decide) rfl rfl) (pe_gI (by rfl) T.LEAST_WEIGHT (by decide)) (nomark _)) (pw_or1 (pt_cmpR op_gt (pe_callB (call_maxK K rfl rfl) (by rfl) M.max boot_max (pa_cons (pv 0) pa_nil rfl) (by decide) (by decide) rfl rfl) (pe_gI (by rfl) T.MOST_WEIGHT (by decide)) (nomark _)))))
  (pss_one (ps_raise hr.hd (Y.e 0 (by decide) Y.m0) (by rfl) (pe_strS [97, 32, 119, 101, 105, 103, 104, 116, 32, 105, 115, 32, 97, 32, 110, 117, 109, 98, 101, 114, 32, 102, 114, 111, 109, 32, 49, 32, 116, 111, 32, 57] (by decide +kernel)) rfl (by decide)))
  pss_nil))), ?_⟩
      walk_at "goL"
      refine ⟨_, _, rfl, .inl hS, ?_⟩
      walk_at "goL"
      refine iteFd (by omega) ?_
      walk_at "goL"
      refine ⟨_, _, rfl, .inl hS, ?_⟩
      walk_at "goL"
      refine iteFd (by omega) ?_
      walk_at "goL"
      refine ⟨a, ns, rfl, hS, hne, fun M hM hm => ?_⟩
      walk_at "goL"
      refine g_ite (fun _ => ?_) (fun h1 => ?_)
      · walk_at "goL"
        exact fun ea he => k ea he
      · walk_at "goL"
        refine ⟨a, ns, rfl, hS, hne, fun M2 hM2 hm2 => ?_⟩
        walk_at "goL"
        refine iteTd ?_ ?_
        · refine Classical.byContradiction fun z => hd ⟨h24.1, h24.2, fun n hn => ⟨?_, ?_⟩⟩
          · have := hm n hn; omega
          · have := hm2 n hn; omega
        · walk_at "goL"
          exact fun ea he => k ea he
    · refine ⟨_, (pss_cons (ps_if (PW.pt (pw_or (pt_cmpR op_lt (pe_callB (call_lenK K rfl) (by rfl) M.len PySem.boot_len (pa_cons (pv 0) pa_nil rfl) (by decide) (by decide) rfl rfl) (pe_gI (by rfl) T.LEAST_WEIGHTS (by decide)) (nomark _)) (pw_or1 (pt_cmpR op_gt (pe_callB (call_lenK K rfl) (by rfl) M.len PySem.boot_len (pa_cons (pv 0) pa_nil rfl) (by decide) (by decide) rfl rfl) (pe_gI (by rfl) T.MOST_WEIGHTS (by decide)) (nomark _)))))
  (pss_one (ps_raise hr.hd (Y.e 0 (by decide) Y.m0) (by rfl) (pe_strS [97, 32, 100, 105, 101, 32, 104, 97, 115, 32, 50, 32, 116, 111, 32, 52, 32, 119, 101, 105, 103, 104, 116, 115] (by decide +kernel)) rfl (by decide)))
  pss_nil)
  pss_never), ?_⟩
      walk_at "goL"
      refine ⟨_, _, rfl, .inl hS, ?_⟩
      walk_at "goL"
      refine g_ite (fun _ => ?_) (fun h1 => ?_)
      · walk_at "goL"
        exact fun ea he => k ea he
      · walk_at "goL"
        refine ⟨_, _, rfl, .inl hS, ?_⟩
        walk_at "goL"
        refine iteTd (by omega) ?_
        walk_at "goL"
        exact fun ea he => k ea he


def sp_signs_of (K : PySem.W.Frag) : Sp := fun vs H Q _ => ∃ a xs, vs = [.ref a] ∧ SqL K H a xs ∧ Q (.str (S (abcd.take xs.length))) H
theorem sc_signs_of : FnScope ["die"] ["die"] (defScope s_signs_of) := ⟨rfl, rfl, rfl, by decide +kernel, rfl, by decide +kernel, by decide +kernel⟩
theorem ok_signs_of {f : Addr} {fd : FuncData} (F : Fun K "signs_of" "signs_of" s_signs_of f fd) (M : Bl mg) (T : Cs P mg)  : FnOk P w K mg base CX0 37 f fd ["die"] (sp_signs_of K) := by
  refine F.ok sc_signs_of (fun vs H Q E h => ?_) (fun cdv A outer s H vs Q E hr h => ?_)
  · obtain ⟨a, xs, rfl, _⟩ := h; rfl
  · obtain ⟨a, xs, rfl, hS, k⟩ := h
    refine ⟨_, (pss_one (ps_ret (pe_slice sl_str (pe_gS (by rfl) T.SIGNS (by decide)) po_none (po_some (pe_callB (call_lenK K rfl) (by rfl) M.len PySem.boot_len (pa_cons (pv 0) pa_nil rfl) (by decide) (by decide) rfl rfl))))), ?_⟩
    walk_at "goL"
    refine ⟨_, _, rfl, .inl hS, ?_⟩
    walk_at "goL"
    refine g_slS (by decide) ?_
    rw [cutL_to]
    exact k


def sp_is_thrown (K : PySem.W.Frag) : Sp := fun vs H Q _ => ∃ a xs l, vs = [.ref a, .str (S l)] ∧ SqL K H a xs ∧ l.length ≤ 1000 ∧ ∀ H', Same H H' → Q (.bl (l.all fun c => decide (c ∈ abcd.take xs.length))) H'
theorem sc_is_thrown : FnScope ["die", "text", "signs"] ["die", "text"] (defScope s_is_thrown) := ⟨rfl, rfl, rfl, by decide +kernel, rfl, by decide +kernel, by decide +kernel⟩
theorem ok_is_thrown {f : Addr} {fd : FuncData} (F : Fun K "is_thrown" "is_thrown" s_is_thrown f fd) (M : Bl mg) (T : Cs P mg) {f_signs_of : Addr} {fd_signs_of : FuncData} (D_signs_of : Df P w K mg base "signs_of" 37 f_signs_of fd_signs_of ["die"] (sp_signs_of K)) : FnOk P w K mg base CX0 38 f fd ["die", "text"] (sp_is_thrown K) := by
  refine F.ok sc_is_thrown (fun vs H Q E h => ?_) (fun cdv A outer s H vs Q E hr h => ?_)
  · obtain ⟨a, xs, l, rfl, _⟩ := h; rfl
  · obtain ⟨a, xs, l, rfl, hS, hl, k⟩ := h
    refine ⟨_, (pss_cons (ps_set (i := 2) sc_is_thrown.nd rfl (Or.inr rfl) (pe_callD D_signs_of hr (by rfl) (pa_cons (pv 0) pa_nil rfl) (by decide) (by decide) rfl rfl) rfl (Or.inl rfl))
  (pss_one (ps_ret (pe_callB (call_allK K rfl rfl) (by rfl) M.all boot_all (pa_cons (pe_compD (defScope s_is_thrown) ["die", "text", "signs"] ["sign", "signs"] [none, some 2] ⟨rfl, by decide +kernel, by decide +kernel, by decide +kernel, by decide +kernel, rfl, by decide +kernel⟩ (pi_str (pv 1)) (fun s3 H3 C fp => ⟨pgb (i := 0) (by decide +kernel) rfl rfl, pif_nil, (pe_cmpR op_inS (pvb 0) (pvb 1) (by with_unfolding_all rfl))⟩) rfl rfl rfl (fun _ => rfl)) pa_nil rfl) (by decide) (by decide) rfl rfl)))), ?_⟩
    walk_at "goL"
    refine ⟨a, xs, rfl, hS, ?_⟩
    walk_at "goL"
    intro D hD
    refine comp_map (fun c => V.bl (decide (c ∈ abcd.take xs.length))) (goes_str l _) hD (small hl) (fun c hc H' R s1 k1 => ?_) (fun H' s1 hy => ?_)
    · walk_at "goL"
      rw [within_one]
      exact k1 _ (Same.refl _)
    · walk_at "goL"
      refine ⟨D, l.map fun c => decide (c ∈ abcd.take xs.length), rfl, SqL.of (by rw [hy]; simp), ?_⟩
      have e : (l.map fun c => decide (c ∈ abcd.take xs.length)).all id = l.all fun c => decide (c ∈ abcd.take xs.length) := by rw [List.all_map]; rfl
      rw [e]
      exact k H' s1


def sp_check_word (K : PySem.W.Frag) : Sp := fun vs H Q _ => ∃ a xs l, vs = [.ref a, .str (S l)] ∧ SqL K H a xs ∧ WordOk xs.length l ∧ ∀ H', Same H H' → Q .non H'
theorem sc_check_word : FnScope ["die", "word"] ["die", "word"] (defScope s_check_word) := ⟨rfl, rfl, rfl, by decide +kernel, rfl, by decide +kernel, by decide +kernel⟩
theorem ok_check_word {f : Addr} {fd : FuncData} (F : Fun K "check_word" "check_word" s_check_word f fd) (M : Bl mg) (T : Cs P mg) {f_is_thrown : Addr} {fd_is_thrown : FuncData} (D_is_thrown : Df P w K mg base "is_thrown" 38 f_is_thrown fd_is_thrown ["die", "text"] (sp_is_thrown K)) : FnOk P w K mg base CX0 39 f fd ["die", "word"] (sp_check_word K) := by
  refine F.ok sc_check_word (fun vs H Q E h => ?_) (fun cdv A outer s H vs Q E hr h => ?_)
  · obtain ⟨a, xs, l, rfl, _⟩ := h; rfl
  · obtain ⟨a, xs, l, rfl, hS, hw, k⟩ := h
    have h1 := hw.lo
    have h2 := hw.hi
    refine ⟨_, (pss_cons (ps_if (PW.pt (pw_or (pt_cmpR op_lt (pe_callB call_lenS (by rfl) M.len PySem.boot_len (pa_cons (pv 1) pa_nil rfl) (by decide) (by decide) rfl rfl) pe_int (nomark _)) (pw_or1 (pt_cmpR op_gt (pe_callB call_lenS (by rfl) M.len PySem.boot_len (pa_cons (pv 1) pa_nil rfl) (by decide) (by decide) rfl rfl) (pe_gI (by rfl) T.MOST_SIGNS (by decide)) (nomark _)))))
  (pss_one ps_never)
  pss_nil)
  (pss_one (ps_if (pt_not (pt_val (pe_callD D_is_thrown hr (by rfl) (pa_cons (pv 0) (pa_cons (pv 1) pa_nil rfl) rfl) (by decide) (by decide) rfl rfl) (fun _ => rfl)))
  (pss_one ps_never)
  pss_nil))), ?_⟩
    walk_at "goL"
    refine iteFd (by omega) ?_
    walk_at "goL"
    refine iteFd (by omega) ?_
    walk_at "goL"
    refine ⟨a, xs, l, rfl, hS, by omega, fun H' s1 => ?_⟩
    have e : (l.all fun c => decide (c ∈ abcd.take xs.length)) = true := by
      rw [List.all_eq_true]
      exact fun c hc => decide_eq_true (hw.s c hc)
    rw [e]
    walk_at "goL"
    refine iteF ?_
    walk_at "goL"
    exact k H' s1

def sp_check_wordR (K : PySem.W.Frag) (c : Nat → Addr) : Sp := fun vs H Q E => ∃ a xs l, vs = [.ref a, .str (S l)] ∧ SqL K H a xs ∧ l.length ≤ 1000 ∧ ¬ WordOk xs.length l ∧ ∀ H' ea, Same H H' → H' ea = none → E (.ref (c 1)) (some ea) H'
theorem okR_check_word {f : Addr} {fd : FuncData} (F : Fun K "check_word" "check_word" s_check_word f fd) (M : Bl mg) (T : Cs P mg) (Y : Xc K mg c) {f_is_thrown : Addr} {fd_is_thrown : FuncData} (D_is_thrown : Df P w K mg base "is_thrown" 38 f_is_thrown fd_is_thrown ["die", "text"] (sp_is_thrown K)) : FnOk P w K mg base (CX1 P w) 39 f fd ["die", "word"] (sp_check_wordR K c) := by
  refine F.okG sc_check_word (fun vs H Q E h => ?_) (fun cdv A outer s H vs Q E hr h => ?_)
  · obtain ⟨a, xs, l, rfl, _⟩ := h; rfl
  · obtain ⟨a, xs, l, rfl, hS, hl, hw, k⟩ := h
    by_cases h16 : 1 ≤ l.length ∧ l.length ≤ 6
    · refine ⟨_, (pss_cons (ps_if (PW.pt (pw_or (pt_cmpR op_lt (pe_callB call_lenS (by rfl) M.len PySem.boot_len (pa_cons (pv 1) pa_nil rfl) (by decide) (by decide) rfl rfl) pe_int (nomark _)) (pw_or1 (pt_cmpR op_gt (pe_callB call_lenS (by rfl) M.len PySem.boot_len (pa_cons (pv 1) pa_nil rfl) (by decide) (by decide) rfl rfl) (pe_gI (by rfl) T.MOST_SIGNS (by decide)) (nomark _)))))
  (pss_one ps_never)
  pss_nil)
  (pss_one (ps_if (pt_not (pt_val (pe_callD D_is_thrown hr (by rfl) (pa_cons (pv 0) (pa_cons (pv 1) pa_nil rfl) rfl) (by decide) (by decide) rfl rfl) (fun _ => rfl)))
  (pss_one (ps_raise hr.hd (Y.e 1 (by decide) Y.m1) (by rfl) (pe_strS [97, 32, 119, 111, 114, 100, 32, 104, 97, 115, 32, 115, 105, 103, 110, 115, 32, 111, 102, 32, 105, 116, 115, 32, 100, 105, 101, 32, 97, 108, 111, 110, 101] (by decide +kernel)) rfl (by decide)))
  pss_nil))), ?_⟩
      walk_at "goL"
      refine iteFd (by omega) ?_
      walk_at "goL"
      refine iteFd (by omega) ?_
      walk_at "goL"
      refine ⟨a, xs, l, rfl, hS, by omega, fun H' s1 => ?_⟩
      have e : (l.all fun c => decide (c ∈ abcd.take xs.length)) = false := by
        refine Bool.eq_false_iff.mpr fun z => hw ⟨h16.1, h16.2, fun x hx => ?_⟩
        rw [List.all_eq_true] at z
        exact of_decide_eq_true (z x hx)
      rw [e]
      walk_at "goL"
      refine iteT ?_
      walk_at "goL"
      exact fun ea he => k H' ea s1 he
    · refine ⟨_, (pss_cons (ps_if (PW.pt (pw_or (pt_cmpR op_lt (pe_callB call_lenS (by rfl) M.len PySem.boot_len (pa_cons (pv 1) pa_nil rfl) (by decide) (by decide) rfl rfl) pe_int (nomark _)) (pw_or1 (pt_cmpR op_gt (pe_callB call_lenS (by rfl) M.len PySem.boot_len (pa_cons (pv 1) pa_nil rfl) (by decide) (by decide) rfl rfl) (pe_gI (by rfl) T.MOST_SIGNS (by decide)) (nomark _)))))
  (pss_one (ps_raise hr.hd (Y.e 1 (by decide) Y.m1) (by rfl) (pe_strS [97, 32, 119, 111, 114, 100, 32, 104, 97, 115, 32, 49, 32, 116, 111, 32, 54, 32, 115, 105, 103, 110, 115] (by decide +kernel)) rfl (by decide)))
  pss_nil)
  pss_never), ?_⟩
      walk_at "goL"
      refine g_ite (fun _ => ?_) (fun h1 => ?_)
      · walk_at "goL"
        exact fun ea he => k H ea (Same.refl _) he
      · walk_at "goL"
        refine iteTd (by omega) ?_
        walk_at "goL"
        exact fun ea he => k H ea (Same.refl _) he


def sp_stands_within_another (K : PySem.W.Frag) : Sp := fun vs H Q _ => ∃ a ws, ∃ p : Nat, ∃ hp : p < ws.length, vs = [.ref a, .int p] ∧ SqL K H a (txs ws) ∧ ws.length ≤ 1000 ∧ ∀ H', Same H H' → Q (.bl ((others ws p).any fun o => within ws[p] o)) H'
theorem sc_stands_within_another : FnScope ["words", "place", "others"] ["words", "place"] (defScope s_stands_within_another) := ⟨rfl, rfl, rfl, by decide +kernel, rfl, by decide +kernel, by decide +kernel⟩
theorem ok_stands_within_another {f : Addr} {fd : FuncData} (F : Fun K "stands_within_another" "stands_within_another" s_stands_within_another f fd) (M : Bl mg) (T : Cs P mg)  : FnOk P w K mg base CX0 37 f fd ["words", "place"] (sp_stands_within_another K) := by
  refine F.ok sc_stands_within_another (fun vs H Q E h => ?_) (fun cdv A outer s H vs Q E hr h => ?_)
  · obtain ⟨a, ws, p, hp, rfl, _⟩ := h; rfl
  · obtain ⟨a, ws, p, hp, rfl, hS, hl, k⟩ := h
    refine ⟨_, (pss_cons (ps_set (i := 2) sc_stands_within_another.nd rfl (Or.inl rfl) (pe_op op_cat (pe_slice (sl_listK K rfl) (pv 0) po_none (po_some (pv 1))) (pe_slice (sl_listK K rfl) (pv 0) (po_some (pe_op op_add (pv 1) pe_int)) po_none)) rfl (Or.inl rfl))
  (pss_one (ps_ret (pe_callB (call_anyK K rfl rfl) (by rfl) M.any boot_any (pa_cons (pe_compD (defScope s_stands_within_another) ["words", "place", "others"] ["other", "words", "place"] [none, some 0, some 1] ⟨rfl, by decide +kernel, by decide +kernel, by decide +kernel, by decide +kernel, rfl, by decide +kernel⟩ (pi_listK K rfl (pv 2)) (fun s3 H3 C fp => ⟨pgb (i := 0) (by decide +kernel) rfl rfl, pif_nil, (pe_cmpR op_inS (pe_ix (ix_listK K rfl) (pvb 1) (pvb 2) (fun _ _ => rfl)) (pvb 0) (by with_unfolding_all rfl))⟩) rfl rfl rfl (fun _ => rfl)) pa_nil rfl) (by decide) (by decide) rfl rfl)))), ?_⟩
    walk_at "goL"
    refine ⟨a, _, rfl, hS, fun b1 n1 => ?_⟩
    rw [cutV_eq, cutL_to]
    have s1 : Same H (upd H b1 (.lst ((txs ws).take p))) := same_upd (Same.refl _) n1
    walk_at "goL"
    refine ⟨a, _, rfl, s1.seq hS, fun b2 n2 => ?_⟩
    rw [cutV_eq, show (p : Int) + 1 = ((p + 1 : Nat) : Int) by omega, cutL_from]
    have n12 : b1 ≠ b2 := ne_of_none upd_same n2
    refine ⟨b1, b2, _, _, rfl, rfl, by rw [upd_ne n12]; exact upd_same, upd_same, by rw [List.length_take, List.length_drop, txs_len]; exact small (by omega), fun b3 n3 => ?_⟩
    have s2 : Same H (upd (upd H b1 (.lst ((txs ws).take p))) b2 (.lst ((txs ws).drop (p + 1)))) := same_upd s1 (s1.free n2)
    have s3 := same_upd (o := .lst ((txs ws).take p ++ (txs ws).drop (p + 1))) s2 (s2.free n3)
    have eo : (txs ws).take p ++ (txs ws).drop (p + 1) = txs (others ws p) := by unfold others; simp [List.map_take, List.map_drop]
    walk_at "goL"
    refine ⟨⟨_, (SqL.of upd_same)⟩, ?_⟩
    intro D hD
    refine comp_map (src := others ws p) (gv := fun l => V.str (S l)) (fun l => V.bl (within ws[p] l)) (show Goes _ _ (txs (others ws p)) from by rw [← eo]; exact goes_list (SqL.of upd_same)) hD (by unfold others; rw [List.length_append, List.length_take, List.length_drop]; exact small (by omega)) (fun l hl' H' R t1 k1 => ?_) (fun H' t1 hy => ?_)
    · walk_at "goL"
      refine g_ixL (t1.seq (s3.seq hS)) (atI_nat (txs_at hp)) ?_
      walk_at "goL"
      exact k1 _ (Same.refl _)
    · walk_at "goL"
      refine ⟨D, (others ws p).map fun l => within ws[p] l, rfl, SqL.of (by rw [hy]; simp), ?_⟩
      have e : ((others ws p).map fun l => within ws[p] l).any id = (others ws p).any fun o => within ws[p] o := by rw [List.any_map]; rfl
      rw [e]
      exact k H' (s3.trans t1)

def sp_check_race (K : PySem.W.Frag) : Sp := fun vs H Q _ => ∃ d a, ∃ ns : List Int, ∃ ws, vs = [.ref d, .ref a] ∧ SqL K H d (ns.map V.int) ∧ DieOk ns ∧ SqL K H a (txs ws) ∧ RaceOk ns.length ws ∧ ∀ H', Same H H' → Q .non H'
theorem sc_check_race : FnScope ["die", "words", "word"] ["die", "words"] (defScope s_check_race) := ⟨rfl, rfl, rfl, by decide +kernel, rfl, by decide +kernel, by decide +kernel⟩
theorem ok_check_race {f : Addr} {fd : FuncData} (F : Fun K "check_race" "check_race" s_check_race f fd) (M : Bl mg) (T : Cs P mg) {f_check_die : Addr} {fd_check_die : FuncData} (D_check_die : Df P w K mg base "check_die" 37 f_check_die fd_check_die ["die"] (sp_check_die K)) {f_check_word : Addr} {fd_check_word : FuncData} (D_check_word : Df P w K mg base "check_word" 39 f_check_word fd_check_word ["die", "word"] (sp_check_word K)) {f_stands_within_another : Addr} {fd_stands_within_another : FuncData} (D_stands_within_another : Df P w K mg base "stands_within_another" 37 f_stands_within_another fd_stands_within_another ["words", "place"] (sp_stands_within_another K)) : FnOk P w K mg base CX0 40 f fd ["die", "words"] (sp_check_race K) := by
  refine F.ok sc_check_race (fun vs H Q E h => ?_) (fun cdv A outer s H vs Q E hr h => ?_)
  · obtain ⟨d, a, ns, ws, rfl, _⟩ := h; rfl
  · obtain ⟨d, a, ns, ws, rfl, hd, hdo, hS, hw, k⟩ := h
    have hl : (ns.map V.int).length = ns.length := List.length_map ..
    have q1 := hw.lo
    have q2 := hw.hi
    have hsl := txs_len ws
    refine ⟨_, (pss_cons (ps_expr (pe_callD D_check_die hr (by rfl) (pa_cons (pv 0) pa_nil rfl) (by decide) (by decide) rfl rfl) rfl)
  (pss_cons (ps_for PassesOwn.never rfl (pi_listK K rfl (pv 1)) (pg_name (i := 2) sc_check_race.nd rfl (Or.inl rfl) (Or.inl rfl))
  (pss_one (ps_expr (pe_callD D_check_word hr (by rfl) (pa_cons (pv 0) (pa_cons (pv 2) pa_nil rfl) rfl) (by decide) (by decide) rfl rfl) rfl)) (fun _ => rfl))
  (pss_cons (ps_if (PW.pt (pw_or (pt_cmpR op_lt (pe_callB (call_lenK K rfl) (by rfl) M.len PySem.boot_len (pa_cons (pv 1) pa_nil rfl) (by decide) (by decide) rfl rfl) pe_int (nomark _)) (pw_or1 (pt_cmpR op_gt (pe_callB (call_lenK K rfl) (by rfl) M.len PySem.boot_len (pa_cons (pv 1) pa_nil rfl) (by decide) (by decide) rfl rfl) (pe_gI (by rfl) T.MOST_WORDS (by decide)) (nomark _)))))
  (pss_one ps_never)
  pss_nil)
  (pss_one (ps_if (pt_val (pe_callB (call_anyK K rfl rfl) (by rfl) M.any boot_any (pa_cons (pe_compD (defScope s_check_race) ["die", "words", "word"] ["place", "words"] [none, some 1] ⟨rfl, by decide +kernel, by decide +kernel, by decide +kernel, by decide +kernel, rfl, by decide +kernel⟩ (pi_range1 (by rfl) M.range (pa_cons (pe_callB (call_lenK K rfl) (by rfl) M.len PySem.boot_len (pa_cons (pv 1) pa_nil rfl) (by decide) (by decide) rfl rfl) pa_nil rfl) rfl) (fun s3 H3 C fp => ⟨pgb (i := 0) (by decide +kernel) rfl rfl, pif_nil, (pe_callD D_stands_within_another hr (glb rfl) (pa_cons (pvb 1) (pa_cons (pvb 0) pa_nil rfl) rfl) (by decide) (by decide) rfl rfl)⟩) rfl rfl rfl (fun _ => rfl)) pa_nil rfl) (by decide) (by decide) rfl rfl) (fun _ => rfl))
  (pss_one ps_never)
  pss_nil))))), ?_⟩
    walk_at "goL"
    refine ⟨d, ns, rfl, hd, hdo, ?_⟩
    walk_at "goL"
    refine ⟨⟨_, hS⟩, ?_⟩
    let Pv0 : Nat → L2.St → Hp → Prop := (fun i σ H2 => ∃ v : Option V, Same H H2 ∧ σ = [some (.ref d), some (.ref a), v])
    refine forL (xs := txs ws) Pv0 ⟨none, Same.refl _, rfl⟩ (by rintro i σ H2 _ ⟨_, s1, _⟩; exact s1.seq hS) ?_ ?_
    · rintro i x σ H2 hi ⟨v, s1, rfl⟩
      have hlt : i < ws.length := by have := (List.getElem?_eq_some_iff.mp hi).1; omega
      rw [txs_at hlt] at hi
      obtain rfl := (Option.some.inj hi).symm
      walk_at "goL"
      refine ⟨d, _, ws[i], rfl, s1.seq hd, by rw [hl]; exact hw.w _ (List.getElem_mem hlt), fun H3 s3 => ?_⟩
      exact ⟨_, s1.trans s3, rfl⟩
    · rintro σ H2 ⟨v, s1, rfl⟩
      walk_at "goL"
      refine ⟨_, _, rfl, .inl (s1.seq hS), ?_⟩
      walk_at "goL"
      refine iteFd (by omega) ?_
      walk_at "goL"
      refine ⟨_, _, rfl, .inl (s1.seq hS), ?_⟩
      walk_at "goL"
      refine iteFd (by omega) ?_
      walk_at "goL"
      refine ⟨_, _, rfl, .inl (s1.seq hS), ?_⟩
      walk_at "goL"
      refine ⟨by omega, by omega, ?_⟩
      intro D hD
      refine comp_map (src := List.range ((txs ws).length : Int).toNat) (fun _ => V.bl false) (goes_range 0 _ _) hD (by rw [List.length_range]; exact small (by omega)) (fun j hj H' R t1 k1 => ?_) (fun H' t1 hy => ?_)
      · have hj' : j < ws.length := by have := List.mem_range.mp hj; omega
        walk_at "goL"
        refine ⟨a, ws, j, hj', by rw [show (0 : Int) + (j : Int) = (j : Int) by omega]; rfl, t1.seq (s1.seq hS), by omega, fun H3 s3 => ?_⟩
        rw [hw.not_within hj']
        exact k1 H3 s3
      · walk_at "goL"
        refine ⟨D, (List.range ((txs ws).length : Int).toNat).map fun _ => false, rfl, SqL.of (by rw [hy]; simp), ?_⟩
        have e : ((List.range ((txs ws).length : Int).toNat).map fun _ => false).any id = false := by simp
        rw [e]
        walk_at "goL"
        refine iteF ?_
        walk_at "goL"
        exact k H' (s1.trans t1)
def sp_check_raceR (K : PySem.W.Frag) (c : Nat → Addr) : Sp := fun vs H Q E => ∃ d a, ∃ ns : List Int, ∃ ws j, vs = [.ref d, .ref a] ∧ SqL K H d (ns.map V.int) ∧ SqL K H a (txs ws) ∧ RaceBad ns ws j ∧ ∀ H' ea, Same H H' → H' ea = none → E (.ref (c j)) (some ea) H'
theorem okR_check_race {f : Addr} {fd : FuncData} (F : Fun K "check_race" "check_race" s_check_race f fd) (M : Bl mg) (T : Cs P mg) (Y : Xc K mg c) {f_check_die : Addr} {fd_check_die : FuncData} (D_check_die : Df P w K mg base "check_die" 37 f_check_die fd_check_die ["die"] (sp_check_die K)) (R_check_die : DfX P w K mg base "check_die" 37 f_check_die fd_check_die ["die"] (sp_check_dieR K c)) {f_check_word : Addr} {fd_check_word : FuncData} (D_check_word : Df P w K mg base "check_word" 39 f_check_word fd_check_word ["die", "word"] (sp_check_word K)) {f_stands_within_another : Addr} {fd_stands_within_another : FuncData} (D_stands_within_another : Df P w K mg base "stands_within_another" 37 f_stands_within_another fd_stands_within_another ["words", "place"] (sp_stands_within_another K)) (W_check_word : DfX P w K mg base "check_word" 39 f_check_word fd_check_word ["die", "word"] (fun vs H Q E => sp_check_word K vs H Q E ∨ sp_check_wordR K c vs H Q E)) : FnOk P w K mg base (CX1 P w) 40 f fd ["die", "words"] (sp_check_raceR K c) := by
  refine F.okG sc_check_race (fun vs H Q E h => ?_) (fun cdv A outer s H vs Q E hr h => ?_)
  · obtain ⟨d, a, ns, ws, j, rfl, _⟩ := h; rfl
  · obtain ⟨d, a, ns, ws, j, rfl, hd, hS, hb, k⟩ := h
    have hl : (ns.map V.int).length = ns.length := List.length_map ..
    have hsl := txs_len ws
    rcases hb with ⟨rfl, hdo⟩ | ⟨rfl, hdo, hwl, hbad⟩ | ⟨rfl, hdo, hwo, hwl, hbad⟩
    · refine ⟨_, (pss_cons (ps_expr (pe_callX pass1 R_check_die hr (by rfl) (pa_cons (pv 0) pa_nil rfl) (by decide) (by decide) rfl rfl) rfl)
  pss_never), ?_⟩
      walk_at "goL"
      exact ⟨d, ns, rfl, hd, hdo, fun ea he => k H ea (Same.refl _) he⟩
    · obtain ⟨m, hm, hm1, hm2⟩ := first_bad hbad
      refine ⟨_, (pss_cons (ps_expr (pe_callD D_check_die hr (by rfl) (pa_cons (pv 0) pa_nil rfl) (by decide) (by decide) rfl rfl) rfl)
  (pss_cons (ps_for PassesOwn.leaving rfl (pi_listK K rfl (pv 1)) (pg_name (i := 2) sc_check_race.nd rfl (Or.inl rfl) (Or.inl rfl))
  (pss_one (ps_expr (pe_callX pass1 W_check_word hr (by rfl) (pa_cons (pv 0) (pa_cons (pv 2) pa_nil rfl) rfl) (by decide) (by decide) rfl rfl) rfl)) (fun _ => rfl))
  pss_never)), ?_⟩
      walk_at "goL"
      refine ⟨d, ns, rfl, hd, hdo, ?_⟩
      walk_at "goL"
      refine ⟨⟨_, hS⟩, ?_⟩
      let Pv1 : Nat → L2.St → Hp → Prop := (fun i σ H2 => ∃ v : Option V, Same H H2 ∧ i ≤ m ∧ σ = [some (.ref d), some (.ref a), v])
      refine forL (xs := txs ws) Pv1 ⟨none, Same.refl _, Nat.zero_le _, rfl⟩ (by rintro i σ H2 _ ⟨_, s1, _⟩; exact s1.seq hS) ?_ ?_
      · rintro i x σ H2 hi ⟨v, s1, him, rfl⟩
        have hlt : i < ws.length := by have := (List.getElem?_eq_some_iff.mp hi).1; omega
        rw [txs_at hlt] at hi
        obtain rfl := (Option.some.inj hi).symm
        walk_at "goL"
        by_cases hii : i = m
        · subst hii
          exact .inr ⟨d, _, ws[i], rfl, s1.seq hd, hwl _ (List.getElem_mem hlt), by rw [hl]; exact hm1, fun H3 ea s3 he => k H3 ea (s1.trans s3) he⟩
        · refine .inl ⟨d, _, ws[i], rfl, s1.seq hd, by rw [hl]; exact hm2 i (by omega), fun H3 s3 => ?_⟩
          exact ⟨_, s1.trans s3, by omega, rfl⟩
      · rintro σ H2 ⟨v, s1, him, rfl⟩
        omega
    · by_cases h14 : 1 ≤ ws.length ∧ ws.length ≤ 4
      · obtain ⟨p, hp, hpw⟩ : ∃ p, ∃ hp : p < ws.length, ((others ws p).any fun o => within ws[p] o) = true := by
          rcases hbad with z | z | z
          · omega
          · omega
          · exact z
        refine ⟨_, (pss_cons (ps_expr (pe_callD D_check_die hr (by rfl) (pa_cons (pv 0) pa_nil rfl) (by decide) (by decide) rfl rfl) rfl)
  (pss_cons (ps_for PassesOwn.leaving rfl (pi_listK K rfl (pv 1)) (pg_name (i := 2) sc_check_race.nd rfl (Or.inl rfl) (Or.inl rfl))
  (pss_one (ps_expr (pe_callD D_check_word hr (by rfl) (pa_cons (pv 0) (pa_cons (pv 2) pa_nil rfl) rfl) (by decide) (by decide) rfl rfl) rfl)) (fun _ => rfl))
  (pss_cons (ps_if (PW.pt (pw_or (pt_cmpR op_lt (pe_callB (call_lenK K rfl) (by rfl) M.len PySem.boot_len (pa_cons (pv 1) pa_nil rfl) (by decide) (by decide) rfl rfl) pe_int (nomark _)) (pw_or1 (pt_cmpR op_gt (pe_callB (call_lenK K rfl) (by rfl) M.len PySem.boot_len (pa_cons (pv 1) pa_nil rfl) (by decide) (by decide) rfl rfl) (pe_gI (by rfl) T.MOST_WORDS (by decide)) (nomark _)))))
  (pss_one ps_never)
  pss_nil)
  (pss_one (ps_if (pt_val (pe_callB (call_anyK K rfl rfl) (by rfl) M.any boot_any (pa_cons (pe_compD (defScope s_check_race) ["die", "words", "word"] ["place", "words"] [none, some 1] ⟨rfl, by decide +kernel, by decide +kernel, by decide +kernel, by decide +kernel, rfl, by decide +kernel⟩ (pi_range1 (by rfl) M.range (pa_cons (pe_callB (call_lenK K rfl) (by rfl) M.len PySem.boot_len (pa_cons (pv 1) pa_nil rfl) (by decide) (by decide) rfl rfl) pa_nil rfl) rfl) (fun s3 H3 C fp => ⟨pgb (i := 0) (by decide +kernel) rfl rfl, pif_nil, (pe_callD D_stands_within_another hr (glb rfl) (pa_cons (pvb 1) (pa_cons (pvb 0) pa_nil rfl) rfl) (by decide) (by decide) rfl rfl)⟩) rfl rfl rfl (fun _ => rfl)) pa_nil rfl) (by decide) (by decide) rfl rfl) (fun _ => rfl))
  (pss_one (ps_raise hr.hd (Y.e 2 (by decide) Y.m2) (by rfl) (pe_strS [110, 111, 32, 119, 111, 114, 100, 32, 111, 102, 32, 97, 32, 114, 97, 99, 101, 32, 115, 116, 97, 110, 100, 115, 32, 119, 105, 116, 104, 105, 110, 32, 97, 110, 111, 116, 104, 101, 114, 32, 111, 110, 101] (by decide +kernel)) rfl (by decide)))
  pss_nil))))), ?_⟩
        walk_at "goL"
        refine ⟨d, ns, rfl, hd, hdo, ?_⟩
        walk_at "goL"
        refine ⟨⟨_, hS⟩, ?_⟩
        let Pv2 : Nat → L2.St → Hp → Prop := (fun i σ H2 => ∃ v : Option V, Same H H2 ∧ σ = [some (.ref d), some (.ref a), v])
        refine forL (xs := txs ws) Pv2 ⟨none, Same.refl _, rfl⟩ (by rintro i σ H2 _ ⟨_, s1, _⟩; exact s1.seq hS) ?_ ?_
        · rintro i x σ H2 hi ⟨v, s1, rfl⟩
          have hlt : i < ws.length := by have := (List.getElem?_eq_some_iff.mp hi).1; omega
          rw [txs_at hlt] at hi
          obtain rfl := (Option.some.inj hi).symm
          walk_at "goL"
          refine ⟨d, _, ws[i], rfl, s1.seq hd, by rw [hl]; exact hwo _ (List.getElem_mem hlt), fun H3 s3 => ?_⟩
          exact ⟨_, s1.trans s3, rfl⟩
        · rintro σ H2 ⟨v, s1, rfl⟩
          walk_at "goL"
          refine ⟨_, _, rfl, .inl (s1.seq hS), ?_⟩
          walk_at "goL"
          refine iteFd (by omega) ?_
          walk_at "goL"
          refine ⟨_, _, rfl, .inl (s1.seq hS), ?_⟩
          walk_at "goL"
          refine iteFd (by omega) ?_
          walk_at "goL"
          refine ⟨_, _, rfl, .inl (s1.seq hS), ?_⟩
          walk_at "goL"
          refine ⟨by omega, by omega, ?_⟩
          intro D hD
          refine comp_map (src := List.range ((txs ws).length : Int).toNat) (fun j => V.bl (if hj : j < ws.length then (others ws j).any fun o => within ws[j] o else false)) (goes_range 0 _ _) hD (by rw [List.length_range]; exact small (by omega)) (fun j hj H' R t1 k1 => ?_) (fun H' t1 hy => ?_)
          · have hj' : j < ws.length := by have := List.mem_range.mp hj; omega
            walk_at "goL"
            refine ⟨a, ws, j, hj', by rw [show (0 : Int) + (j : Int) = (j : Int) by omega]; rfl, t1.seq (s1.seq hS), by omega, fun H3 s3 => ?_⟩
            rw [dif_pos hj'] at k1
            exact k1 H3 s3
          · walk_at "goL"
            refine ⟨D, (List.range ((txs ws).length : Int).toNat).map fun j => if hj : j < ws.length then (others ws j).any fun o => within ws[j] o else false, rfl, SqL.of (by rw [hy, List.map_map]; rfl), ?_⟩
            have e : ((List.range ((txs ws).length : Int).toNat).map fun j => if hj : j < ws.length then (others ws j).any fun o => within ws[j] o else false).any id = true := by
              rw [List.any_map, List.any_eq_true]
              refine ⟨p, List.mem_range.mpr (by omega), ?_⟩
              show (if hj : p < ws.length then (others ws p).any fun o => within ws[p] o else false) = true
              rw [dif_pos hp]; exact hpw
            rw [e]
            walk_at "goL"
            refine iteT ?_
            walk_at "goL"
            exact fun ea he => k H' ea (s1.trans t1) he
      · refine ⟨_, (pss_cons (ps_expr (pe_callD D_check_die hr (by rfl) (pa_cons (pv 0) pa_nil rfl) (by decide) (by decide) rfl rfl) rfl)
  (pss_cons (ps_for PassesOwn.leaving rfl (pi_listK K rfl (pv 1)) (pg_name (i := 2) sc_check_race.nd rfl (Or.inl rfl) (Or.inl rfl))
  (pss_one (ps_expr (pe_callD D_check_word hr (by rfl) (pa_cons (pv 0) (pa_cons (pv 2) pa_nil rfl) rfl) (by decide) (by decide) rfl rfl) rfl)) (fun _ => rfl))
  (pss_cons (ps_if (PW.pt (pw_or (pt_cmpR op_lt (pe_callB (call_lenK K rfl) (by rfl) M.len PySem.boot_len (pa_cons (pv 1) pa_nil rfl) (by decide) (by decide) rfl rfl) pe_int (nomark _)) (pw_or1 (pt_cmpR op_gt (pe_callB (call_lenK K rfl) (by rfl) M.len PySem.boot_len (pa_cons (pv 1) pa_nil rfl) (by decide) (by decide) rfl rfl) (pe_gI (by rfl) T.MOST_WORDS (by decide)) (nomark _)))))
  (pss_one (ps_raise hr.hd (Y.e 2 (by decide) Y.m2) (by rfl) (pe_strS [97, 32, 114, 97, 99, 101, 32, 104, 97, 115, 32, 49, 32, 116, 111, 32, 52, 32, 119, 111, 114, 100, 115] (by decide +kernel)) rfl (by decide)))
  pss_nil)
  pss_never))), ?_⟩
        walk_at "goL"
        refine ⟨d, ns, rfl, hd, hdo, ?_⟩
        walk_at "goL"
        refine ⟨⟨_, hS⟩, ?_⟩
        let Pv3 : Nat → L2.St → Hp → Prop := (fun i σ H2 => ∃ v : Option V, Same H H2 ∧ σ = [some (.ref d), some (.ref a), v])
        refine forL (xs := txs ws) Pv3 ⟨none, Same.refl _, rfl⟩ (by rintro i σ H2 _ ⟨_, s1, _⟩; exact s1.seq hS) ?_ ?_
        · rintro i x σ H2 hi ⟨v, s1, rfl⟩
          have hlt : i < ws.length := by have := (List.getElem?_eq_some_iff.mp hi).1; omega
          rw [txs_at hlt] at hi
          obtain rfl := (Option.some.inj hi).symm
          walk_at "goL"
          refine ⟨d, _, ws[i], rfl, s1.seq hd, by rw [hl]; exact hwo _ (List.getElem_mem hlt), fun H3 s3 => ?_⟩
          exact ⟨_, s1.trans s3, rfl⟩
        · rintro σ H2 ⟨v, s1, rfl⟩
          walk_at "goL"
          refine ⟨_, _, rfl, .inl (s1.seq hS), ?_⟩
          walk_at "goL"
          refine g_ite (fun _ => ?_) (fun h1 => ?_)
          · walk_at "goL"
            exact fun ea he => k H2 ea s1 he
          · walk_at "goL"
            refine ⟨_, _, rfl, .inl (s1.seq hS), ?_⟩
            walk_at "goL"
            refine iteTd (by omega) ?_
            walk_at "goL"
            exact fun ea he => k H2 ea s1 he


theorem at_zero'' {α : Type} (x : α) (xs : List α) : atI (x :: xs) 0 = some x := by
  unfold atI
  have e : ixN (x :: xs).length (0 : Int) = some 0 := ixN_nat (j := 0) (by rw [List.length_cons]; omega)
  rw [e]
  rfl
def sp_read (K : PySem.W.Frag) : Sp := fun vs H Q _ => ∃ ns : List Int, ∃ ws, vs = [.str (S (lineT ns ws))] ∧ DieOk ns ∧ RaceOk ns.length ws ∧
  ∀ p d a H', Same H H' → H p = none → H d = none → H a = none → H' p = some (.tup [.ref d, .ref a]) → H' d = some (.lst (ns.map V.int)) → H' a = some (.lst (txs ws)) → Q (.ref p) H'
theorem sc_read : FnScope ["text", "halves", "die", "words", "refusal"] ["text"] (defScope s_read) := ⟨rfl, rfl, rfl, by decide +kernel, rfl, by decide +kernel, by decide +kernel⟩
theorem ok_read {f : Addr} {fd : FuncData} (F : Fun K "read" "read" s_read f fd) (M : Bl mg) (T : Cs P mg) {f_read_weight : Addr} {fd_read_weight : FuncData} (D_read_weight : Df P w K mg base "read_weight" 37 f_read_weight fd_read_weight ["text"] (sp_read_weight K)) {f_check_race : Addr} {fd_check_race : FuncData} (D_check_race : Df P w K mg base "check_race" 40 f_check_race fd_check_race ["die", "words"] (sp_check_race K)) : FnOk P w K mg base CX0 41 f fd ["text"] (sp_read K) := by
  refine F.ok sc_read (fun vs H Q E h => ?_) (fun cdv A outer s H vs Q E hr h => ?_)
  · obtain ⟨ns, ws, rfl, _⟩ := h; rfl
  · obtain ⟨ns, ws, rfl, hdo, hw, k⟩ := h
    have d4 := hdo.hi
    have w4 := hw.hi
    have l1 := wtT_len hdo
    have l2 := wsT_len hw
    have ll : (lineT ns ws).length ≤ 1000 := by
      unfold lineT
      rw [List.length_append, List.length_append]
      show _ + 2 + _ ≤ _
      omega
    refine ⟨_, (pss_cons (ps_set (i := 1) sc_read.nd rfl (Or.inl rfl) (pe_bmK K rfl PySem.F.plainAttrs_str PySem.F.slot_str_split PySem.F.type_str_split mt_split (pv 0) (pa_cons (pe_strS [58] (by decide +kernel)) pa_nil rfl) rfl rfl rfl rfl rfl) rfl (Or.inl rfl))
  (pss_cons (ps_if (pt_cmpR op_ne (pe_callB (call_lenK K rfl) (by rfl) M.len PySem.boot_len (pa_cons (pv 1) pa_nil rfl) (by decide) (by decide) rfl rfl) pe_int (nomark _))
  (pss_one ps_never)
  pss_nil)
  (pss_cons (ps_if (pt_not (pt_val (pe_bmK K rfl PySem.F.plainAttrs_str PySem.F.slot_str_startswith PySem.F.type_str_startswith mt_startswith (pe_ix (ix_listK K rfl) (pv 1) pe_int (fun _ _ => rfl)) (pa_cons (pe_strS [32] (by decide +kernel)) pa_nil rfl) rfl rfl rfl rfl rfl) (fun _ => rfl)))
  (pss_one ps_never)
  pss_nil)
  (pss_cons (ps_setCD (defScope s_read) ["text", "halves", "die", "words", "refusal"] ["weight"] [none] (pg_name (i := 2) sc_read.nd rfl (Or.inl rfl) (Or.inl rfl)) ⟨rfl, by decide +kernel, by decide +kernel, by decide +kernel, by decide +kernel, rfl, by decide +kernel⟩ (pi_listK K rfl (pe_bmK K rfl PySem.F.plainAttrs_str PySem.F.slot_str_split PySem.F.type_str_split mt_split (pe_ix (ix_listK K rfl) (pv 1) pe_int (fun _ _ => rfl)) (pa_cons (pe_strS [32] (by decide +kernel)) pa_nil rfl) rfl rfl rfl rfl rfl)) (fun s3 H3 C fp => ⟨pgb (i := 0) (by decide +kernel) rfl rfl, pif_nil, (pe_callD D_read_weight hr (glb rfl) (pa_cons (pvb 0) pa_nil rfl) (by decide) (by decide) rfl rfl)⟩) rfl rfl rfl rfl (fun _ => rfl))
  (pss_cons (ps_set (i := 3) sc_read.nd rfl (Or.inl rfl) (pe_bmK K rfl PySem.F.plainAttrs_str PySem.F.slot_str_split PySem.F.type_str_split mt_split (pe_slice sl_str (pe_ix (ix_listK K rfl) (pv 1) pe_int (fun _ _ => rfl)) (po_some pe_int) po_none) (pa_cons (pe_strS [32] (by decide +kernel)) pa_nil rfl) rfl rfl rfl rfl rfl) rfl (Or.inl rfl))
  (pss_cons (ps_try0 (pss_one (ps_expr (pe_callD D_check_race hr (by rfl) (pa_cons (pv 2) (pa_cons (pv 3) pa_nil rfl) rfl) (by decide) (by decide) rfl rfl) rfl)))
  (pss_one (ps_ret (pe_tup (pa_cons (pv 2) (pa_cons (pv 3) pa_nil rfl) rfl)))))))))), ?_⟩
    walk_at "goL"
    refine ⟨_, _, rfl, rfl, ll, fun p1 ps n1 hP => ?_⟩
    obtain rfl := halves hdo hw hP
    have s1 := same_upd (o := .lst ([wtT ns, 32 :: joinL [32] ws].map fun l => V.str (S l))) (Same.refl H) n1
    have e1 : upd H p1 (.lst ([wtT ns, 32 :: joinL [32] ws].map fun l => V.str (S l))) p1 = some (.lst [.str (S (wtT ns)), .str (S (32 :: joinL [32] ws))]) := upd_same
    generalize upd H p1 (.lst ([wtT ns, 32 :: joinL [32] ws].map fun l => V.str (S l))) = H1 at *
    walk_at "goL"
    refine ⟨_, _, rfl, .inl (SqL.of e1), ?_⟩
    walk_at "goL"
    refine iteNS rfl ?_
    walk_at "goL"
    refine g_ixL (SqL.of e1) rfl ?_
    walk_at "goL"
    refine iteF' (by simp [List.isPrefixOf]) ?_
    walk_at "goL"
    refine g_ixL (SqL.of e1) (at_zero'' _ _) ?_
    walk_at "goL"
    refine ⟨_, _, rfl, rfl, by omega, fun p2 ps2 n2 hP2 => ?_⟩
    obtain rfl := weights_back hdo hP2
    have s2 := same_upd (o := .lst ((ns.map dg).map fun l => V.str (S l))) (Same.refl H1) n2
    have e2 : upd H1 p2 (.lst ((ns.map dg).map fun l => V.str (S l))) p2 = some (.lst ((ns.map dg).map fun l => V.str (S l))) := upd_same
    generalize upd H1 p2 (.lst ((ns.map dg).map fun l => V.str (S l))) = H2 at *
    walk_at "goL"
    refine ⟨⟨_, SqL.of e2⟩, ?_⟩
    intro D hD
    have gl := goes_list (K := K) (SqL.of e2)
    rw [List.map_map] at gl
    refine comp_map (src := ns) (gv := (fun l => V.str (S l)) ∘ dg) V.int gl hD (small (by omega)) (fun n hn H' R t1 k1 => ?_) (fun H3 s3 hy => ?_)
    · have := hdo.w n hn
      walk_at "goL"
      exact ⟨n, rfl, by omega, by omega, k1 _ (Same.refl _)⟩
    · have e13 := s3 _ _ (s2 _ _ e1)
      walk_at "goL"
      refine g_ixL (SqL.of e13) rfl ?_
      walk_at "goL"
      refine g_slS (small (by rw [List.length_cons]; omega)) ?_
      rw [show cutL (32 :: joinL [32] ws) (some 1) none = joinL [32] ws from cutL_from (32 :: joinL [32] ws) 1]
      walk_at "goL"
      refine ⟨_, _, rfl, rfl, by omega, fun p4 ps4 n4 hP4 => ?_⟩
      obtain rfl := words_back hw hP4
      have s4 := same_upd (o := .lst (ps4.map fun l => V.str (S l))) (Same.refl H3) n4
      have e4 : upd H3 p4 (.lst (ps4.map fun l => V.str (S l))) p4 = some (.lst (txs ps4)) := upd_same
      generalize upd H3 p4 (.lst (ps4.map fun l => V.str (S l))) = H4 at *
      have hy4 := s4 _ _ hy
      walk_at "goL"
      refine ⟨D, p4, ns, ps4, rfl, SqL.of hy4, hdo, SqL.of e4, hw, fun H5 s5 => ?_⟩
      walk_at "goL"
      intro pt npt
      have s03 := (s1.trans s2).trans s3
      have s05 := (s03.trans s4).trans s5
      have st := same_upd (o := .tup [.ref D, .ref p4]) (Same.refl H5) npt
      exact k pt D p4 _ (same_upd s05 (s05.free npt)) (s05.free npt) ((s1.trans s2).free hD) (s03.free n4) upd_same (st _ _ (s5 _ _ hy4)) (st _ _ (s5 _ _ e4))

theorem race_bad {ns : List Int} {ws : List (List Nat)} (h : ¬ (DieOk ns ∧ RaceOk ns.length ws)) (h1 : ws.length ≤ 1000) (h2 : ∀ l ∈ ws, l.length ≤ 1000) : ∃ j, RaceBad ns ws j := by
  by_cases hd : DieOk ns
  · by_cases hw : ∀ l ∈ ws, WordOk ns.length l
    · refine ⟨2, .inr (.inr ⟨rfl, hd, hw, h1, ?_⟩)⟩
      by_cases a : ws.length < 1
      · exact .inl a
      by_cases b : 4 < ws.length
      · exact .inr (.inl b)
      refine .inr (.inr ?_)
      refine Classical.byContradiction fun q => h ⟨hd, by omega, by omega, hw, ?_⟩
      have key : ∀ i (hi : i < ws.length) j (hj : j < ws.length), i ≠ j → within ws[i] ws[j] = false := fun i hi j hj hij => by
        refine Bool.eq_false_iff.mpr fun z => q ⟨i, hi, ?_⟩
        rw [List.any_eq_true]
        refine ⟨ws[j], ?_, z⟩
        unfold others
        rw [List.mem_append]
        rcases Nat.lt_or_gt_of_ne hij with y | y
        · exact .inr (List.mem_drop_iff_getElem.mpr ⟨j - (i + 1), by omega, by congr 1; omega⟩)
        · exact .inl (List.mem_take_iff_getElem.mpr ⟨j, by omega, rfl⟩)
      rw [List.pairwise_iff_getElem]
      exact fun i j hi hj hij => ⟨key i hi j hj (by omega), key j hj i hi (by omega)⟩
    · refine ⟨1, .inr (.inl ⟨rfl, hd, h2, ?_⟩)⟩
      refine Classical.byContradiction fun q => hw fun l hl => Classical.byContradiction fun z => q ⟨l, hl, z⟩
  · exact ⟨0, .inl ⟨rfl, hd⟩⟩
theorem part_le {c : Nat} : ∀ {ps : List (List Nat)} {p : List Nat}, p ∈ ps → p.length ≤ (joinL [c] ps).length
  | [], p, h => by cases h
  | [a], p, h => by
    rw [List.mem_singleton.mp h]
    exact Nat.le_refl _
  | a :: b :: r, p, h => by
    have e : joinL [c] (a :: b :: r) = a ++ [c] ++ joinL [c] (b :: r) := rfl
    rw [e, List.length_append, List.length_append]
    rcases List.mem_cons.mp h with z | z
    · rw [z]; omega
    · have := part_le (c := c) z
      omega
theorem parts_le {c : Nat} : ∀ {ps : List (List Nat)}, ps.length ≤ (joinL [c] ps).length + 1
  | [] => by simp
  | [a] => by simp
  | a :: b :: r => by
    have e : joinL [c] (a :: b :: r) = a ++ [c] ++ joinL [c] (b :: r) := rfl
    have := parts_le (c := c) (ps := b :: r)
    rw [e, List.length_append, List.length_append]
    simp only [List.length_cons, List.length_nil] at this ⊢
    omega
theorem figs_of : ∀ {us : List (List Nat)}, (∀ u ∈ us, Fig u) → ∃ ns : List Int, us = ns.map dg ∧ ∀ n ∈ ns, 1 ≤ n ∧ n ≤ 9
  | [], _ => ⟨[], rfl, fun n h => by cases h⟩
  | u :: us, h => by
    obtain ⟨ns, e, hn⟩ := figs_of fun x hx => h x (List.mem_cons_of_mem _ hx)
    obtain ⟨n, h1, h9, e1⟩ := h u List.mem_cons_self
    exact ⟨n :: ns, by rw [e, e1]; rfl, fun m hm => by
      rcases List.mem_cons.mp hm with z | z
      · rw [z]; exact ⟨h1, h9⟩
      · exact hn m z⟩
theorem first_bad2 {α : Type} {p : α → Prop} {us : List α} (h : ¬ ∀ u ∈ us, p u) : ∃ k, ∃ hk : k < us.length, ¬ p us[k] ∧ ∀ j (hj : j < k), p (us[j]'(Nat.lt_trans hj hk)) := by
  induction us with
  | nil => exact absurd (fun u hu => by cases hu) h
  | cons u r ih =>
    by_cases hu : p u
    · obtain ⟨k, hk, a, b⟩ := ih fun z => h fun x hx => by
        rcases List.mem_cons.mp hx with q | q
        · rw [q]; exact hu
        · exact z x q
      refine ⟨k + 1, by simpa using hk, by simpa using a, fun j hj => ?_⟩
      cases j with
      | zero => exact hu
      | succ j => exact b j (by omega)
    · exact ⟨0, by simp, by simpa using hu, fun j hj => by omega⟩
def sp_readR (K : PySem.W.Frag) (c : Nat → Addr) : Sp := fun vs H Q E => ∃ t, vs = [.str (S t)] ∧ t.length ≤ 1000 ∧ NoLine t ∧ ∀ H' ea, Same H H' → H' ea = none → E (.ref (c 6)) (some ea) H'
theorem okY_read {f : Addr} {fd : FuncData} (F : Fun K "read" "read" s_read f fd) (M : Bl mg) (T : Cs P mg) (Y : Xc K mg c) {f_read_weight : Addr} {fd_read_weight : FuncData} (D_read_weight : Df P w K mg base "read_weight" 37 f_read_weight fd_read_weight ["text"] (sp_read_weight K)) (W_read_weight : DfX P w K mg base "read_weight" 37 f_read_weight fd_read_weight ["text"] (fun vs H Q E => sp_read_weight K vs H Q E ∨ sp_read_weightR K c vs H Q E)) {f_check_race : Addr} {fd_check_race : FuncData} (R_check_race : DfX P w K mg base "check_race" 40 f_check_race fd_check_race ["die", "words"] (sp_check_raceR K c)) : FnOk P w K mg base (CXb false P w) 41 f fd ["text"] (sp_readR K c) := by
  refine F.okG sc_read (fun vs H Q E h => ?_) (fun cdv A outer s H vs Q E hr h => ?_)
  · obtain ⟨t, rfl, _⟩ := h; rfl
  · obtain ⟨t, rfl, hl, hno, k⟩ := h
    have P0 := parts_of t 58
    generalize (Txt.split (S t) (S [58])).map (fun x => x.cps.toList) = hs at P0
    by_cases h2 : hs.length = 2
    case neg =>
      refine ⟨_, (pss_cons (ps_set (i := 1) sc_read.nd rfl (Or.inl rfl) (pe_bmK K rfl PySem.F.plainAttrs_str PySem.F.slot_str_split PySem.F.type_str_split mt_split (pv 0) (pa_cons (pe_strS [58] (by decide +kernel)) pa_nil rfl) rfl rfl rfl rfl rfl) rfl (Or.inl rfl))
  (pss_cons (ps_if (pt_cmpR op_ne (pe_callB (call_lenK K rfl) (by rfl) M.len PySem.boot_len (pa_cons (pv 1) pa_nil rfl) (by decide) (by decide) rfl rfl) pe_int (nomark _))
  (pss_one (ps_raise hr.hd (Y.e 6 (by decide) Y.m6) (by rfl) (pe_strS [97, 32, 114, 97, 99, 101, 32, 105, 115, 32, 119, 114, 105, 116, 116, 101, 110, 32, 119, 105, 116, 104, 32, 111, 110, 101, 32, 99, 111, 108, 111, 110] (by decide +kernel)) rfl (by decide)))
  pss_nil)
  pss_never)), ?_⟩
      walk_at "goL"
      refine ⟨_, _, rfl, rfl, hl, fun p1 ps n1 hP => ?_⟩
      obtain rfl := hP.eq P0.ne P0.free P0.join
      have s1 := same_upd (o := .lst (ps.map fun l => V.str (S l))) (Same.refl H) n1
      walk_at "goL"
      refine ⟨_, _, rfl, .inl (SqL.of upd_same), ?_⟩
      rw [List.length_map]
      walk_at "goL"
      refine g_iteN (fun _ => ?_) (fun z => absurd (by omega) h2)
      walk_at "goL"
      exact fun ea he => k _ ea s1 he
    match hs, h2, P0 with
    | [u, v], _, P0 =>
    have ej : u ++ 58 :: v = t := by have := P0.join; rw [← this]; show _ = u ++ [58] ++ v; simp
    have uv : u.length + v.length + 1 = t.length := by rw [← ej, List.length_append, List.length_cons]; omega
    by_cases h3 : [32].isPrefixOf v = true
    case neg =>
      refine ⟨_, (pss_cons (ps_set (i := 1) sc_read.nd rfl (Or.inl rfl) (pe_bmK K rfl PySem.F.plainAttrs_str PySem.F.slot_str_split PySem.F.type_str_split mt_split (pv 0) (pa_cons (pe_strS [58] (by decide +kernel)) pa_nil rfl) rfl rfl rfl rfl rfl) rfl (Or.inl rfl))
  (pss_cons (ps_if (pt_cmpR op_ne (pe_callB (call_lenK K rfl) (by rfl) M.len PySem.boot_len (pa_cons (pv 1) pa_nil rfl) (by decide) (by decide) rfl rfl) pe_int (nomark _))
  (pss_one ps_never)
  pss_nil)
  (pss_cons (ps_if (pt_not (pt_val (pe_bmK K rfl PySem.F.plainAttrs_str PySem.F.slot_str_startswith PySem.F.type_str_startswith mt_startswith (pe_ix (ix_listK K rfl) (pv 1) pe_int (fun _ _ => rfl)) (pa_cons (pe_strS [32] (by decide +kernel)) pa_nil rfl) rfl rfl rfl rfl rfl) (fun _ => rfl)))
  (pss_one (ps_raise hr.hd (Y.e 6 (by decide) Y.m6) (by rfl) (pe_strS [97, 32, 98, 108, 97, 110, 107, 32, 115, 116, 97, 110, 100, 115, 32, 97, 104, 101, 97, 100, 32, 111, 102, 32, 101, 97, 99, 104, 32, 119, 111, 114, 100] (by decide +kernel)) rfl (by decide)))
  pss_nil)
  pss_never))), ?_⟩
      walk_at "goL"
      refine ⟨_, _, rfl, rfl, hl, fun p1 ps n1 hP => ?_⟩
      obtain rfl := hP.eq P0.ne P0.free P0.join
      have s1 := same_upd (o := .lst ([u, v].map fun l => V.str (S l))) (Same.refl H) n1
      have e1 : upd H p1 (.lst ([u, v].map fun l => V.str (S l))) p1 = some (.lst [.str (S u), .str (S v)]) := upd_same
      generalize upd H p1 (.lst ([u, v].map fun l => V.str (S l))) = H1 at *
      walk_at "goL"
      refine ⟨_, _, rfl, .inl (SqL.of e1), ?_⟩
      walk_at "goL"
      refine iteNS rfl ?_
      walk_at "goL"
      refine g_ixL (SqL.of e1) rfl ?_
      walk_at "goL"
      refine iteT' (by rw [Bool.eq_false_iff.mpr h3]; rfl) ?_
      walk_at "goL"
      exact fun ea he => k _ ea s1 he
    obtain ⟨v', rfl⟩ : ∃ v', v = 32 :: v' := by
      cases v with
      | nil => simp [List.isPrefixOf] at h3
      | cons a r =>
        simp [List.isPrefixOf] at h3
        exact ⟨r, by rw [h3]⟩
    have P1 := parts_of u 32
    generalize (Txt.split (S u) (S [32])).map (fun x => x.cps.toList) = us at P1
    have usl : ∀ p ∈ us, p.length ≤ 1000 := fun p hp => by
      have := part_le (c := 32) hp
      rw [P1.join] at this
      simp only [List.length_cons] at uv
      omega
    have usn : us.length ≤ 1000 := by
      have := parts_le (c := 32) (ps := us)
      rw [P1.join] at this
      simp only [List.length_cons] at uv
      omega
    by_cases hf : ∀ x ∈ us, Fig x
    case neg =>
      obtain ⟨kb, hkb, hbad, hgood⟩ := first_bad2 hf
      refine ⟨_, (pss_cons (ps_set (i := 1) sc_read.nd rfl (Or.inl rfl) (pe_bmK K rfl PySem.F.plainAttrs_str PySem.F.slot_str_split PySem.F.type_str_split mt_split (pv 0) (pa_cons (pe_strS [58] (by decide +kernel)) pa_nil rfl) rfl rfl rfl rfl rfl) rfl (Or.inl rfl))
  (pss_cons (ps_if (pt_cmpR op_ne (pe_callB (call_lenK K rfl) (by rfl) M.len PySem.boot_len (pa_cons (pv 1) pa_nil rfl) (by decide) (by decide) rfl rfl) pe_int (nomark _))
  (pss_one ps_never)
  pss_nil)
  (pss_cons (ps_if (pt_not (pt_val (pe_bmK K rfl PySem.F.plainAttrs_str PySem.F.slot_str_startswith PySem.F.type_str_startswith mt_startswith (pe_ix (ix_listK K rfl) (pv 1) pe_int (fun _ _ => rfl)) (pa_cons (pe_strS [32] (by decide +kernel)) pa_nil rfl) rfl rfl rfl rfl rfl) (fun _ => rfl)))
  (pss_one ps_never)
  pss_nil)
  (pss_cons (ps_setCXD ["weight"] [none] (pg_name (i := 2) sc_read.nd rfl (Or.inl rfl) (Or.inl rfl)) ⟨rfl, by decide +kernel, by decide +kernel, by decide +kernel, by decide +kernel, rfl, by decide +kernel⟩ (pi_listK K rfl (pe_bmK K rfl PySem.F.plainAttrs_str PySem.F.slot_str_split PySem.F.type_str_split mt_split (pe_ix (ix_listK K rfl) (pv 1) pe_int (fun _ _ => rfl)) (pa_cons (pe_strS [32] (by decide +kernel)) pa_nil rfl) rfl rfl rfl rfl rfl)) (fun s3 H3 C fp xe E2 hx => ⟨pgbE (i := 0) (by decide +kernel) rfl rfl, pif_nil, (pe_callX hx W_read_weight hr (glbE rfl) (pa_cons (pvbE 0) pa_nil rfl) (by decide) (by decide) rfl rfl)⟩) rfl (fun _ => rfl))
  pss_never)))), ?_⟩
      walk_at "goL"
      refine ⟨_, _, rfl, rfl, hl, fun p1 ps n1 hP => ?_⟩
      obtain rfl := hP.eq P0.ne P0.free P0.join
      have s1 := same_upd (o := .lst ([u, 32 :: v'].map fun l => V.str (S l))) (Same.refl H) n1
      have e1 : upd H p1 (.lst ([u, 32 :: v'].map fun l => V.str (S l))) p1 = some (.lst [.str (S u), .str (S (32 :: v'))]) := upd_same
      generalize upd H p1 (.lst ([u, 32 :: v'].map fun l => V.str (S l))) = H1 at *
      walk_at "goL"
      refine ⟨_, _, rfl, .inl (SqL.of e1), ?_⟩
      walk_at "goL"
      refine iteNS rfl ?_
      walk_at "goL"
      refine g_ixL (SqL.of e1) rfl ?_
      walk_at "goL"
      refine iteF' (by simp [List.isPrefixOf]) ?_
      walk_at "goL"
      refine g_ixL (SqL.of e1) (at_zero'' _ _) ?_
      walk_at "goL"
      refine ⟨_, _, rfl, rfl, by simp only [List.length_cons] at uv; omega, fun p2 ps2 n2 hP2 => ?_⟩
      obtain rfl := hP2.eq P1.ne P1.free P1.join
      have s2 := same_upd (o := .lst (ps2.map fun l => V.str (S l))) (Same.refl H1) n2
      have e2 : upd H1 p2 (.lst (ps2.map fun l => V.str (S l))) p2 = some (.lst (ps2.map fun l => V.str (S l))) := upd_same
      generalize upd H1 p2 (.lst (ps2.map fun l => V.str (S l))) = H2 at *
      walk_at "goL"
      refine ⟨⟨_, SqL.of e2⟩, ?_⟩
      intro D hD
      refine comp_bad (src := ps2) (gv := fun l => V.str (S l)) (k := kb) (goes_list (SqL.of e2)) hD (small usn) hkb (fun j hj H' R t1 k1 => ?_) (fun H' R t1 => ?_)
      · obtain ⟨n, h1, h9, en⟩ := hgood j hj
        walk_at "goL"
        exact .inl ⟨n, by show [V.str (S ps2[j])] = _; rw [en], h1, h9, k1 _ _ (Same.refl _)⟩
      · walk_at "goL"
        exact .inr ⟨ps2[kb], rfl, usl _ (List.getElem_mem hkb), hbad, fun H5 ea s5 he => k H5 ea (((s1.trans s2).trans t1).trans s5) he⟩
    obtain ⟨ns, eus, hns⟩ := figs_of hf
    subst eus
    have P2 := parts_of v' 32
    generalize (Txt.split (S v') (S [32])).map (fun x => x.cps.toList) = ws at P2
    have vl : v'.length + 2 ≤ 1000 := by simp only [List.length_cons] at uv; omega
    have hbr : ¬ (DieOk ns ∧ RaceOk ns.length ws) := fun ⟨a, b⟩ => by
      refine hno ns ws a b ?_
      rw [← ej, ← P1.join, ← P2.join]
      unfold lineT wtT
      simp
    obtain ⟨j, hb⟩ := race_bad hbr (by have := parts_le (c := 32) (ps := ws); rw [P2.join] at this; omega) (fun l hl' => by have := part_le (c := 32) hl'; rw [P2.join] at this; omega)
    have hj := hb.lt
    refine ⟨_, (pss_cons (ps_set (i := 1) sc_read.nd rfl (Or.inl rfl) (pe_bmK K rfl PySem.F.plainAttrs_str PySem.F.slot_str_split PySem.F.type_str_split mt_split (pv 0) (pa_cons (pe_strS [58] (by decide +kernel)) pa_nil rfl) rfl rfl rfl rfl rfl) rfl (Or.inl rfl))
  (pss_cons (ps_if (pt_cmpR op_ne (pe_callB (call_lenK K rfl) (by rfl) M.len PySem.boot_len (pa_cons (pv 1) pa_nil rfl) (by decide) (by decide) rfl rfl) pe_int (nomark _))
  (pss_one ps_never)
  pss_nil)
  (pss_cons (ps_if (pt_not (pt_val (pe_bmK K rfl PySem.F.plainAttrs_str PySem.F.slot_str_startswith PySem.F.type_str_startswith mt_startswith (pe_ix (ix_listK K rfl) (pv 1) pe_int (fun _ _ => rfl)) (pa_cons (pe_strS [32] (by decide +kernel)) pa_nil rfl) rfl rfl rfl rfl rfl) (fun _ => rfl)))
  (pss_one ps_never)
  pss_nil)
  (pss_cons (ps_setCD (defScope s_read) ["text", "halves", "die", "words", "refusal"] ["weight"] [none] (pg_name (i := 2) sc_read.nd rfl (Or.inl rfl) (Or.inl rfl)) ⟨rfl, by decide +kernel, by decide +kernel, by decide +kernel, by decide +kernel, rfl, by decide +kernel⟩ (pi_listK K rfl (pe_bmK K rfl PySem.F.plainAttrs_str PySem.F.slot_str_split PySem.F.type_str_split mt_split (pe_ix (ix_listK K rfl) (pv 1) pe_int (fun _ _ => rfl)) (pa_cons (pe_strS [32] (by decide +kernel)) pa_nil rfl) rfl rfl rfl rfl rfl)) (fun s3 H3 C fp => ⟨pgb (i := 0) (by decide +kernel) rfl rfl, pif_nil, (pe_callD D_read_weight hr (glb rfl) (pa_cons (pvb 0) pa_nil rfl) (by decide) (by decide) rfl rfl)⟩) rfl rfl rfl rfl (fun _ => rfl))
  (pss_cons (ps_set (i := 3) sc_read.nd rfl (Or.inl rfl) (pe_bmK K rfl PySem.F.plainAttrs_str PySem.F.slot_str_split PySem.F.type_str_split mt_split (pe_slice sl_str (pe_ix (ix_listK K rfl) (pv 1) pe_int (fun _ _ => rfl)) (po_some pe_int) po_none) (pa_cons (pe_strS [32] (by decide +kernel)) pa_nil rfl) rfl rfl rfl rfl rfl) rfl (Or.inl rfl))
  (pss_cons (ps_tryF (i := 4) sc_read.nd rfl rfl (Y.e 7 (by decide) Y.m7) (by rfl) (Y.e 6 (by decide) Y.m6) (by rfl) (fun xe pn E2 hx => (pss_one (ps_expr (pe_callX hx R_check_race hr (by rfl) (pa_cons (pv 2) (pa_cons (pv 3) pa_nil rfl) rfl) (by decide) (by decide) rfl rfl) rfl))) (fun ea xe => (pe_strS [116, 104, 101, 32, 119, 101, 105, 103, 104, 116, 115, 32, 97, 110, 100, 32, 119, 111, 114, 100, 115, 32, 97, 114, 101, 32, 110, 111, 32, 114, 97, 99, 101] (by decide +kernel))) rfl (by decide) (by decide) (by decide) (by decide))
  pss_never)))))), ?_⟩
    walk_at "goL"
    refine ⟨_, _, rfl, rfl, hl, fun p1 ps n1 hP => ?_⟩
    obtain rfl := hP.eq P0.ne P0.free P0.join
    have s1 := same_upd (o := .lst ([u, 32 :: v'].map fun l => V.str (S l))) (Same.refl H) n1
    have e1 : upd H p1 (.lst ([u, 32 :: v'].map fun l => V.str (S l))) p1 = some (.lst [.str (S u), .str (S (32 :: v'))]) := upd_same
    generalize upd H p1 (.lst ([u, 32 :: v'].map fun l => V.str (S l))) = H1 at *
    walk_at "goL"
    refine ⟨_, _, rfl, .inl (SqL.of e1), ?_⟩
    walk_at "goL"
    refine iteNS rfl ?_
    walk_at "goL"
    refine g_ixL (SqL.of e1) rfl ?_
    walk_at "goL"
    refine iteF' (by simp [List.isPrefixOf]) ?_
    walk_at "goL"
    refine g_ixL (SqL.of e1) (at_zero'' _ _) ?_
    walk_at "goL"
    refine ⟨_, _, rfl, rfl, by simp only [List.length_cons] at uv; omega, fun p2 ps2 n2 hP2 => ?_⟩
    obtain rfl := hP2.eq P1.ne P1.free P1.join
    have s2 := same_upd (o := .lst ((ns.map dg).map fun l => V.str (S l))) (Same.refl H1) n2
    have e2 : upd H1 p2 (.lst ((ns.map dg).map fun l => V.str (S l))) p2 = some (.lst ((ns.map dg).map fun l => V.str (S l))) := upd_same
    generalize upd H1 p2 (.lst ((ns.map dg).map fun l => V.str (S l))) = H2 at *
    walk_at "goL"
    refine ⟨⟨_, SqL.of e2⟩, ?_⟩
    intro D hD
    have gl := goes_list (K := K) (SqL.of e2)
    rw [List.map_map] at gl
    rw [List.length_map] at usn
    refine comp_map (src := ns) (gv := (fun l => V.str (S l)) ∘ dg) V.int gl hD (small usn) (fun n hn H' R t1 k1 => ?_) (fun H3 s3 hy => ?_)
    · have := hns n hn
      walk_at "goL"
      exact ⟨n, rfl, by omega, by omega, k1 _ (Same.refl _)⟩
    · have e13 := s3 _ _ (s2 _ _ e1)
      walk_at "goL"
      refine g_ixL (SqL.of e13) rfl ?_
      walk_at "goL"
      refine g_slS (small (by rw [List.length_cons]; simp only [List.length_cons] at uv; omega)) ?_
      rw [show cutL (32 :: v') (some 1) none = v' from cutL_from (32 :: v') 1]
      walk_at "goL"
      refine ⟨_, _, rfl, rfl, by omega, fun p4 ps4 n4 hP4 => ?_⟩
      obtain rfl := hP4.eq P2.ne P2.free P2.join
      have s4 := same_upd (o := .lst (ps4.map fun l => V.str (S l))) (Same.refl H3) n4
      have e4 : upd H3 p4 (.lst (ps4.map fun l => V.str (S l))) p4 = some (.lst (txs ps4)) := upd_same
      generalize upd H3 p4 (.lst (ps4.map fun l => V.str (S l))) = H4 at *
      have hy4 := s4 _ _ hy
      have s04 : Same H H4 := ((s1.trans s2).trans s3).trans s4
      walk_at "goL"
      refine g_tryF ?_
      walk_at "goL"
      exact ⟨D, p4, ns, ps4, j, rfl, SqL.of hy4, SqL.of e4, hb, fun H5 ea s5 he => ⟨ea, c j, rfl, rfl, ⟨Y.sb j hj, Y.k j hj⟩, fun e3 h3 => k _ e3 (same_upd (s04.trans s5) ((s04.trans s5).free he)) h3⟩⟩


def kindB (j : Nat) : List Bool := [j == 0, j == 1, j == 2, j == 3, j == 4, j == 5, j == 6]
theorem kindB_n : ∀ j, j < 7 → (kindB j).countP id = 1 := by decide
theorem kindB_j : ∀ j, j < 7 → (kindB j)[j]? = some true := by decide
theorem kindB_m : ∀ j, j < 7 → ∀ m, m < j → (kindB j)[m]? = some false := by decide
theorem kindT_at : ∀ j, j < 7 → (List.map (fun l => V.str (S l)) [[100, 105, 101], [119, 111, 114, 100], [114, 97, 99, 101], [114, 111, 119], [111, 118, 101, 114], [109, 97, 110, 121], [110, 111, 116, 101]])[j]? = some (.str (S (kindT j))) := fun j hj => by
  rw [List.getElem?_map, List.getElem?_eq_getElem hj]
  unfold kindT
  rw [List.getD_eq_getElem?_getD, List.getElem?_eq_getElem hj]
  rfl
def sp_law_kind (K : PySem.W.Frag) (c : Nat → Addr) : Sp := fun vs H Q _ => ∃ ea j, vs = [.ref ea] ∧ j < 7 ∧ H ea = some (EOb false ea (c j)) ∧ ∀ H', Same H H' → Q (.str (S (kindT j))) H'
theorem sc_law_kind : FnScope ["e", "kinds"] ["e"] (defScope s_law_kind) := ⟨rfl, rfl, rfl, by decide +kernel, rfl, by decide +kernel, by decide +kernel⟩
theorem okM_law_kind {f : Addr} {fd : FuncData} (F : Fun K "_law_kind" "_law_kind" s_law_kind f fd) (M : Bl mg) (T : Cs P mg) (Y : Xc K mg c)  : FnOkM P w K mg base 37 f fd ["e"] (sp_law_kind K c) := by
  refine F.okM sc_law_kind (fun vs H Q E h => ?_) (fun cdv A outer s H vs Q E hr h => ?_)
  · obtain ⟨ea, j, rfl, _⟩ := h; rfl
  · obtain ⟨ea, j, rfl, hj, hE, k⟩ := h
    refine ⟨_, (pss_cons (ps_set (i := 1) sc_law_kind.nd rfl (Or.inl rfl) (pe_lst (pa_cons (pe_callB (call_isX K rfl) (by rfl) M.isinstance boot_isinstance (pa_cons (pv 0) (pa_cons (pe_glob (v := .ref (c 0)) (by rfl) Y.m0 rfl (by decide)) pa_nil rfl) rfl) (by decide) (by decide) rfl rfl) (pa_cons (pe_callB (call_isX K rfl) (by rfl) M.isinstance boot_isinstance (pa_cons (pv 0) (pa_cons (pe_glob (v := .ref (c 1)) (by rfl) Y.m1 rfl (by decide)) pa_nil rfl) rfl) (by decide) (by decide) rfl rfl) (pa_cons (pe_callB (call_isX K rfl) (by rfl) M.isinstance boot_isinstance (pa_cons (pv 0) (pa_cons (pe_glob (v := .ref (c 2)) (by rfl) Y.m2 rfl (by decide)) pa_nil rfl) rfl) (by decide) (by decide) rfl rfl) (pa_cons (pe_callB (call_isX K rfl) (by rfl) M.isinstance boot_isinstance (pa_cons (pv 0) (pa_cons (pe_glob (v := .ref (c 3)) (by rfl) Y.m3 rfl (by decide)) pa_nil rfl) rfl) (by decide) (by decide) rfl rfl) pa_nil rfl) rfl) rfl) rfl)) rfl (Or.inl rfl))
  (pss_cons (ps_set (i := 1) sc_law_kind.nd rfl (Or.inl rfl) (pe_op op_cat (pv 1) (pe_lst (pa_cons (pe_callB (call_isX K rfl) (by rfl) M.isinstance boot_isinstance (pa_cons (pv 0) (pa_cons (pe_glob (v := .ref (c 4)) (by rfl) Y.m4 rfl (by decide)) pa_nil rfl) rfl) (by decide) (by decide) rfl rfl) (pa_cons (pe_callB (call_isX K rfl) (by rfl) M.isinstance boot_isinstance (pa_cons (pv 0) (pa_cons (pe_glob (v := .ref (c 5)) (by rfl) Y.m5 rfl (by decide)) pa_nil rfl) rfl) (by decide) (by decide) rfl rfl) (pa_cons (pe_callB (call_isX K rfl) (by rfl) M.isinstance boot_isinstance (pa_cons (pv 0) (pa_cons (pe_glob (v := .ref (c 6)) (by rfl) Y.m6 rfl (by decide)) pa_nil rfl) rfl) (by decide) (by decide) rfl rfl) pa_nil rfl) rfl) rfl))) rfl (Or.inl rfl))
  (pss_cons (ps_if (PW.pt (pw_or (pt_not (pt_val (pe_callB (call_isX K rfl) (by rfl) M.isinstance boot_isinstance (pa_cons (pv 0) (pa_cons (pe_bltn (v := .ty "ValueError") (by rfl) M.ValueError boot_ValueError rfl (by decide) (by decide)) pa_nil rfl) rfl) (by decide) (by decide) rfl rfl) (fun _ => rfl))) (pw_or1 (pt_cmpR op_ne (pe_bmK K rfl PySem.F.plainAttrs_list PySem.F.slot_list_count PySem.F.type_list_count (mt_countB K rfl) (pv 1) (pa_cons pe_bl pa_nil rfl) rfl rfl rfl rfl rfl) pe_int (nomark _)))))
  (pss_one (ps_ret (pe_strS [111, 116, 104, 101, 114] (by decide +kernel))))
  pss_nil)
  (pss_one (ps_ret (pe_ix (ix_listK K rfl) (pe_lst (pa_cons (pe_strS [100, 105, 101] (by decide +kernel)) (pa_cons (pe_strS [119, 111, 114, 100] (by decide +kernel)) (pa_cons (pe_strS [114, 97, 99, 101] (by decide +kernel)) (pa_cons (pe_strS [114, 111, 119] (by decide +kernel)) (pa_cons (pe_strS [111, 118, 101, 114] (by decide +kernel)) (pa_cons (pe_strS [109, 97, 110, 121] (by decide +kernel)) (pa_cons (pe_strS [110, 111, 116, 101] (by decide +kernel)) pa_nil rfl) rfl) rfl) rfl) rfl) rfl) rfl)) (pe_bmK K rfl PySem.F.plainAttrs_list PySem.F.slot_list_index PySem.F.type_list_index (mt_indexB K rfl) (pv 1) (pa_cons pe_bl pa_nil rfl) rfl rfl rfl rfl rfl) (fun _ _ => rfl))))))), ?_⟩
    walk_at "goL"
    refine g_isX Y hE hj (by decide) ?_
    walk_at "goL"
    refine g_isX Y hE hj (by decide) ?_
    walk_at "goL"
    refine g_isX Y hE hj (by decide) ?_
    walk_at "goL"
    refine g_isX Y hE hj (by decide) ?_
    walk_at "goL"
    intro p hp
    have s1 : Same H (upd H p (.lst [.bl (j == 0), .bl (j == 1), .bl (j == 2), .bl (j == 3)])) := same_upd (Same.refl _) hp
    have hE1 := s1 _ _ hE
    have e1 : upd H p (.lst [.bl (j == 0), .bl (j == 1), .bl (j == 2), .bl (j == 3)]) p = some (.lst [.bl (j == 0), .bl (j == 1), .bl (j == 2), .bl (j == 3)]) := upd_same
    revert s1 hE1 e1
    generalize upd H p (.lst [.bl (j == 0), .bl (j == 1), .bl (j == 2), .bl (j == 3)]) = H1
    intro s1 hE1 e1
    walk_at "goL"
    refine g_isX Y hE1 hj (by decide) ?_
    walk_at "goL"
    refine g_isX Y hE1 hj (by decide) ?_
    walk_at "goL"
    refine g_isX Y hE1 hj (by decide) ?_
    walk_at "goL"
    intro p2 hp2
    have s2 : Same H1 (upd H1 p2 (.lst [.bl (j == 4), .bl (j == 5), .bl (j == 6)])) := same_upd (Same.refl _) hp2
    refine ⟨p, p2, _, _, rfl, rfl, s2 _ _ e1, upd_same, (show 4 + 3 ≤ sizeLine by rw [sizeLine_eq]; decide), fun p3 hp3 => ?_⟩
    have s3 : Same H (upd (upd H1 p2 (.lst [.bl (j == 4), .bl (j == 5), .bl (j == 6)])) p3 (.lst ((kindB j).map V.bl))) := (s1.trans s2).trans (same_upd (Same.refl _) hp3)
    have hE3 := s3 _ _ hE
    have e3 : upd (upd H1 p2 (.lst [.bl (j == 4), .bl (j == 5), .bl (j == 6)])) p3 (.lst ((kindB j).map V.bl)) p3 = some (.lst ((kindB j).map V.bl)) := upd_same
    show gName 1 _ _ (upd (upd H1 p2 (.lst [.bl (j == 4), .bl (j == 5), .bl (j == 6)])) p3 (.lst ((kindB j).map V.bl))) _
    revert s3 hE3 e3
    generalize upd (upd H1 p2 (.lst [.bl (j == 4), .bl (j == 5), .bl (j == 6)])) p3 (.lst ((kindB j).map V.bl)) = H3
    intro s3 hE3 e3
    walk_at "goL"
    refine g_isV Y hE3 hj ?_
    walk_at "goL"
    refine iteF ?_
    walk_at "goL"
    refine ⟨p3, kindB j, rfl, rfl, SqL.of e3, ?_⟩
    rw [kindB_n j hj]
    walk_at "goL"
    refine iteF ?_
    walk_at "goL"
    intro p4 hp4
    have s4 : Same H3 (upd H3 p4 (.lst (List.map (fun l => V.str (S l)) [[100, 105, 101], [119, 111, 114, 100], [114, 97, 99, 101], [114, 111, 119], [111, 118, 101, 114], [109, 97, 110, 121], [110, 111, 116, 101]]))) := same_upd (Same.refl _) hp4
    walk_at "goL"
    refine g_tyL (SqL.of (s4 _ _ e3)) ?_
    walk_at "goL"
    refine ⟨p3, j, kindB j, rfl, rfl, SqL.of (s4 _ _ e3), kindB_j j hj, kindB_m j hj, ?_⟩
    refine g_ixL (SqL.of (xs := List.map (fun l => V.str (S l)) [[100, 105, 101], [119, 111, 114, 100], [114, 97, 99, 101], [114, 111, 119], [111, 118, 101, 114], [109, 97, 110, 121], [110, 111, 116, 101]]) upd_same) (atI_nat (kindT_at j hj)) ?_
    exact k _ (s3.trans s4)


def sp_law_tried (K : PySem.W.Frag) (c : Nat → Addr) : Sp := fun vs H Q _ => ∃ t l, vs = [.str (S t)] ∧ ((l = [114, 101, 97, 100] ∧ ∃ ns : List Int, ∃ ws, DieOk ns ∧ RaceOk ns.length ws ∧ t = lineT ns ws) ∨ (l = kindT 6 ∧ t.length ≤ 1000 ∧ NoLine t)) ∧ ∀ H', Same H H' → Q (.str (S l)) H'
theorem sc_law_tried : FnScope ["text", "e"] ["text"] (defScope s_law_tried) := ⟨rfl, rfl, rfl, by decide +kernel, rfl, by decide +kernel, by decide +kernel⟩
theorem okT_law_tried {f : Addr} {fd : FuncData} (F : Fun K "_law_tried" "_law_tried" s_law_tried f fd) (M : Bl mg) (T : Cs P mg) (Y : Xc K mg c) {f_read : Addr} {fd_read : FuncData} (D_read : Df P w K mg base "read" 41 f_read fd_read ["text"] (sp_read K)) (R_read : DfY P w K mg base "read" 41 f_read fd_read ["text"] (sp_readR K c)) {f_law_kind : Addr} {fd_law_kind : FuncData} (Q_law_kind : DfM P w K mg base "_law_kind" 37 f_law_kind fd_law_kind ["e"] (sp_law_kind K c)) : FnOk P w K mg base CX0 42 f fd ["text"] (sp_law_tried K c) := by
  refine F.okG sc_law_tried (fun vs H Q E h => ?_) (fun cdv A outer s H vs Q E hr h => ?_)
  · obtain ⟨t, l, rfl, _⟩ := h; rfl
  · obtain ⟨t, l, rfl, hb, k⟩ := h
    rcases hb with ⟨rfl, ns, ws, hd, hw, rfl⟩ | ⟨rfl, hl, hno⟩
    · refine ⟨_, (pss_cons (ps_try0 (pss_one (ps_expr (pe_callD D_read hr (by rfl) (pa_cons (pv 0) pa_nil rfl) (by decide) (by decide) rfl rfl) rfl)))
  (pss_one (ps_ret (pe_strS [114, 101, 97, 100] (by decide +kernel))))), ?_⟩
      walk_at "goL"
      refine ⟨ns, ws, rfl, hd, hw, fun p d a H1 s1 _ _ _ _ _ _ => ?_⟩
      walk_at "goL"
      exact k _ s1
    · refine ⟨_, (pss_cons (ps_tryR (i := 1) sc_law_tried.nd rfl rfl (Y.e 7 (by decide) Y.m7) (by rfl) (fun xe pn E2 hx => (pss_one (ps_expr (pe_callY hx R_read hr (by rfl) (pa_cons (pv 0) pa_nil rfl) (by decide) (by decide) rfl rfl) rfl))) (fun ea => (pss_one (ps_ret (pe_callM Q_law_kind (hr.toM _) (by rfl) (pa_cons (pv 1) pa_nil rfl) (by decide) (by decide) rfl rfl)))) (by decide))
  (pss_one (ps_ret (pe_strS [114, 101, 97, 100] (by decide +kernel))))), ?_⟩
      walk_at "goL"
      refine g_try ?_
      walk_at "goL"
      refine ⟨t, rfl, hl, hno, fun H1 ea s1 he => ⟨ea, c 6, rfl, rfl, Y.sb 6 (by decide), fun σ' hσ => ?_⟩⟩
      walk_at "goL"
      refine g_varT ⟨_, hσ, ?_⟩
      walk_at "goL"
      exact ⟨ea, 6, rfl, by decide, upd_same, fun H2 s2 => k H2 ((same_upd s1 (s1.free he)).trans s2)⟩


def sp_law (K : PySem.W.Frag) : Sp := fun vs H Q _ => ∃ (a : Addr) (ns : List Int), vs = [.ref a] ∧ SqL K H a (ns.map V.int) ∧ ns.length ≤ 63 ∧ ∀ H', Q (.bl true) H'
theorem sc_law : FnScope ["script", "die", "words", "weights", "cell", "bad"] ["script"] (defScope s_law) := ⟨rfl, rfl, rfl, by decide +kernel, rfl, by decide +kernel, by decide +kernel⟩
theorem ok_law {f : Addr} {fd : FuncData} (F : Fun K "law" "law" s_law f fd) (M : Bl mg) (T : Cs P mg) {f_law_die : Addr} {fd_law_die : FuncData} (D_law_die : Df P w K mg base "_law_die" 38 f_law_die fd_law_die ["cell"] (sp_law_die K)) {f_law_words : Addr} {fd_law_words : FuncData} (D_law_words : Df P w K mg base "_law_words" 40 f_law_words fd_law_words ["script", "at", "signs"] (sp_law_words K)) {f_law_spoiled : Addr} {fd_law_spoiled : FuncData} (D_law_spoiled : Df P w K mg base "_law_spoiled" 38 f_law_spoiled fd_law_spoiled ["weights", "words", "fault", "cell"] (sp_law_spoiled K)) {f_law_cell_at : Addr} {fd_law_cell_at : FuncData} (D_law_cell_at : Df P w K mg base "_law_cell_at" 37 f_law_cell_at fd_law_cell_at ["script", "k"] (sp_law_cell_at K)) {f_law_tried : Addr} {fd_law_tried : FuncData} (D_law_tried : Df P w K mg base "_law_tried" 42 f_law_tried fd_law_tried ["text"] (sp_law_tried K c)) {f_law_line : Addr} {fd_law_line : FuncData} (D_law_line : Df P w K mg base "_law_line" 37 f_law_line fd_law_line ["weights", "words"] (sp_law_line K)) : FnOk P w K mg base CX0 43 f fd ["script"] (sp_law K) := by
  refine F.ok sc_law (fun vs H Q E h => ?_) (fun cdv A outer s H vs Q E hr h => ?_)
  · obtain ⟨a, ns, rfl, _⟩ := h; rfl
  · obtain ⟨a, sc, rfl, hS, hlen, k⟩ := h
    refine ⟨_, (pss_cons (ps_set (i := 1) sc_law.nd rfl (Or.inl rfl) (pe_callD D_law_die hr (by rfl) (pa_cons (pe_op op_mod (pe_callD D_law_cell_at hr (by rfl) (pa_cons (pv 0) (pa_cons pe_int pa_nil rfl) rfl) (by decide) (by decide) rfl rfl) pe_int) pa_nil rfl) (by decide) (by decide) rfl rfl) rfl (Or.inl rfl))
  (pss_cons (ps_set (i := 2) sc_law.nd rfl (Or.inl rfl) (pe_callD D_law_words hr (by rfl) (pa_cons (pv 0) (pa_cons pe_int (pa_cons (pe_callB (call_lenK K rfl) (by rfl) M.len PySem.boot_len (pa_cons (pv 1) pa_nil rfl) (by decide) (by decide) rfl rfl) pa_nil rfl) rfl) rfl) (by decide) (by decide) rfl rfl) rfl (Or.inl rfl))
  (pss_cons (ps_setCD (defScope s_law) ["script", "die", "words", "weights", "cell", "bad"] ["weight"] [none] (pg_name (i := 3) sc_law.nd rfl (Or.inl rfl) (Or.inl rfl)) ⟨rfl, by decide +kernel, by decide +kernel, by decide +kernel, by decide +kernel, rfl, by decide +kernel⟩ (pi_listK K rfl (pv 1)) (fun s3 H3 C fp => ⟨pgb (i := 0) (by decide +kernel) rfl rfl, pif_nil, (pe_callTy call_strI (glb rfl) M.str boot_str (pa_cons (pvb 0) pa_nil rfl) (by decide) (by decide) rfl rfl)⟩) rfl rfl rfl rfl (fun _ => rfl))
  (pss_cons (ps_set (i := 4) sc_law.nd rfl (Or.inl rfl) (pe_op op_mod (pe_callD D_law_cell_at hr (by rfl) (pa_cons (pv 0) (pa_cons pe_int pa_nil rfl) rfl) (by decide) (by decide) rfl rfl) pe_int) rfl (Or.inl rfl))
  (pss_cons (ps_set (i := 5) sc_law.nd rfl (Or.inl rfl) (pe_callD D_law_spoiled hr (by rfl) (pa_cons (pv 3) (pa_cons (pv 2) (pa_cons (pe_op op_mod (pe_callD D_law_cell_at hr (by rfl) (pa_cons (pv 0) (pa_cons pe_int pa_nil rfl) rfl) (by decide) (by decide) rfl rfl) pe_int) (pa_cons (pv 4) pa_nil rfl) rfl) rfl) rfl) (by decide) (by decide) rfl rfl) rfl (Or.inl rfl))
  (pss_cons (ps_if (PW.pt (pw_or (pt_cmpR op_ne (pe_callD D_law_tried hr (by rfl) (pa_cons (pv 5) pa_nil rfl) (by decide) (by decide) rfl rfl) (pe_strS [110, 111, 116, 101] (by decide +kernel)) (nomark _)) (pw_or1 (pt_cmpR op_ne (pe_callD D_law_tried hr (by rfl) (pa_cons (pv 5) pa_nil rfl) (by decide) (by decide) rfl rfl) (pe_strS [110, 111, 116, 101] (by decide +kernel)) (nomark _)))))
  (pss_one (ps_ret pe_bl))
  pss_nil)
  (pss_one (ps_ret (pe_cmpR op_eq (pe_callD D_law_tried hr (by rfl) (pa_cons (pe_callD D_law_line hr (by rfl) (pa_cons (pv 3) (pa_cons (pv 2) pa_nil rfl) rfl) (by decide) (by decide) rfl rfl) pa_nil rfl) (by decide) (by decide) rfl rfl) (pe_strS [114, 101, 97, 100] (by decide +kernel)) (nomark _)))))))))), ?_⟩
    walk_at "goL"
    refine ⟨a, sc, 0, rfl, hS, fun v0 => ?_⟩
    walk_at "goL"
    refine ⟨_, rfl, fun d dn H1 hd hf1 s1 hd1 => ?_⟩
    have q1 := hd.lo
    have q2 := hd.hi
    have hl : (dn.map V.int).length = dn.length := List.length_map ..
    have hg : ((dn.map V.int).length : Int).toNat = dn.length := by omega
    walk_at "goL"
    refine ⟨_, _, rfl, .inl (SqL.of hd1), ?_⟩
    walk_at "goL"
    refine ⟨a, sc, 1, _, rfl, s1.seq hS, by omega, by omega, fun wl ws H2 hw hf2 s2 hw2 => ?_⟩
    rw [hg] at hw
    have w4 := hw.hi
    have hd2 := s2 _ _ hd1
    have hS2 := (s1.trans s2).seq hS
    walk_at "goL"
    refine ⟨⟨_, SqL.of hd2⟩, ?_⟩
    intro D hD
    refine comp_map (src := dn) (gv := V.int) (fun n => V.str (S (dg n))) (goes_list (SqL.of hd2)) hD (small (by omega)) (fun n hn H' R t1 k1 => ?_) (fun H3 s3 hy => ?_)
    · have := hd.w n hn
      walk_at "goL"
      exact ⟨by omega, by omega, k1 _ (Same.refl _)⟩
    have ey : H3 D = some (.lst (txs (dn.map dg))) := by rw [hy, txs, List.map_map]; rfl
    have hw3 := s3 _ _ hw2
    have hS3 := s3.seq hS2
    walk_at "goL"
    refine ⟨a, sc, 7, rfl, hS3, fun v7 => ?_⟩
    walk_at "goL"
    refine ⟨a, sc, 6, rfl, hS3, fun v6 => ?_⟩
    walk_at "goL"
    refine ⟨D, wl, dn, ws, _, _, rfl, ey, hw3, hd, hw, Int.emod_nonneg _ (by decide), fun t H4 s4 tl hno => ?_⟩
    walk_at "goL"
    refine ⟨t, _, rfl, .inr ⟨rfl, tl, hno⟩, fun H5 s5 => ?_⟩
    walk_at "goL"
    refine iteF ?_
    walk_at "goL"
    refine ⟨t, _, rfl, .inr ⟨rfl, tl, hno⟩, fun H6 s6 => ?_⟩
    walk_at "goL"
    refine iteF ?_
    have s36 : Same H3 H6 := (s4.trans s5).trans s6
    walk_at "goL"
    refine ⟨D, wl, dn.map dg, ws, rfl, SqL.of (s36 _ _ ey), SqL.of (s36 _ _ hw3), by rw [List.length_map]; omega, by omega, fun t ht => ?_, fun t ht => ?_, ?_⟩
    · obtain ⟨n, _, rfl⟩ := List.mem_map.mp ht
      show 1 ≤ 20
      decide
    · exact Nat.le_trans (hw.w t ht).hi (by decide)
    walk_at "goL"
    refine ⟨_, _, rfl, .inl ⟨rfl, dn, ws, hd, hw, rfl⟩, fun H7 s7 => ?_⟩
    walk_at "goL"
    exact k _


end
theorem all_mk {l : PySem.W.OpenLaw} {w : World} {K : PySem.W.Frag} {h : Heap} {mg : Str → Option Value} {fa : Addr} (gt : l.prog.given.tree = none) (X : K.In h) (G : h.Ns mainGlobals mg) (hfa : mg "law" = some (.ref fa))
    {f0 : Addr} {od0 an0 : Option Addr} {sl0 : Array (Option Value)} {oc0 kV0 dc0 pm0 cd0 ct0 : Value}
    (a0 : PySem.W.nsIn K mainGlobals "_law_next" = some (some (.ref f0))) (l0 : K.lookup f0 = some ⟨oc0, od0, .func (PySem.W.fnOf "_law_next" "_law_next" (defArgs s_law_next) (defBody s_law_next) (defScope s_law_next) .none kV0 dc0 pm0 an0 cd0 ct0), sl0⟩) (c0 : PySem.W.codeIn K cd0 "_law_next" = true) (k0 : PySem.W.keepIn K (.ref f0) = true)
    {f1 : Addr} {od1 an1 : Option Addr} {sl1 : Array (Option Value)} {oc1 kV1 dc1 pm1 cd1 ct1 : Value}
    (a1 : PySem.W.nsIn K mainGlobals "_law_die" = some (some (.ref f1))) (l1 : K.lookup f1 = some ⟨oc1, od1, .func (PySem.W.fnOf "_law_die" "_law_die" (defArgs s_law_die) (defBody s_law_die) (defScope s_law_die) .none kV1 dc1 pm1 an1 cd1 ct1), sl1⟩) (c1 : PySem.W.codeIn K cd1 "_law_die" = true) (k1 : PySem.W.keepIn K (.ref f1) = true)
    {f2 : Addr} {od2 an2 : Option Addr} {sl2 : Array (Option Value)} {oc2 kV2 dc2 pm2 cd2 ct2 : Value}
    (a2 : PySem.W.nsIn K mainGlobals "_law_thrown" = some (some (.ref f2))) (l2 : K.lookup f2 = some ⟨oc2, od2, .func (PySem.W.fnOf "_law_thrown" "_law_thrown" (defArgs s_law_thrown) (defBody s_law_thrown) (defScope s_law_thrown) .none kV2 dc2 pm2 an2 cd2 ct2), sl2⟩) (c2 : PySem.W.codeIn K cd2 "_law_thrown" = true) (k2 : PySem.W.keepIn K (.ref f2) = true)
    {f3 : Addr} {od3 an3 : Option Addr} {sl3 : Array (Option Value)} {oc3 kV3 dc3 pm3 cd3 ct3 : Value}
    (a3 : PySem.W.nsIn K mainGlobals "_law_word" = some (some (.ref f3))) (l3 : K.lookup f3 = some ⟨oc3, od3, .func (PySem.W.fnOf "_law_word" "_law_word" (defArgs s_law_word) (defBody s_law_word) (defScope s_law_word) .none kV3 dc3 pm3 an3 cd3 ct3), sl3⟩) (c3 : PySem.W.codeIn K cd3 "_law_word" = true) (k3 : PySem.W.keepIn K (.ref f3) = true)
    {f4 : Addr} {od4 an4 : Option Addr} {sl4 : Array (Option Value)} {oc4 kV4 dc4 pm4 cd4 ct4 : Value}
    (a4 : PySem.W.nsIn K mainGlobals "_law_cell_at" = some (some (.ref f4))) (l4 : K.lookup f4 = some ⟨oc4, od4, .func (PySem.W.fnOf "_law_cell_at" "_law_cell_at" (defArgs s_law_cell_at) (defBody s_law_cell_at) (defScope s_law_cell_at) .none kV4 dc4 pm4 an4 cd4 ct4), sl4⟩) (c4 : PySem.W.codeIn K cd4 "_law_cell_at" = true) (k4 : PySem.W.keepIn K (.ref f4) = true)
    {f5 : Addr} {od5 an5 : Option Addr} {sl5 : Array (Option Value)} {oc5 kV5 dc5 pm5 cd5 ct5 : Value}
    (a5 : PySem.W.nsIn K mainGlobals "_law_words" = some (some (.ref f5))) (l5 : K.lookup f5 = some ⟨oc5, od5, .func (PySem.W.fnOf "_law_words" "_law_words" (defArgs s_law_words) (defBody s_law_words) (defScope s_law_words) .none kV5 dc5 pm5 an5 cd5 ct5), sl5⟩) (c5 : PySem.W.codeIn K cd5 "_law_words" = true) (k5 : PySem.W.keepIn K (.ref f5) = true)
    {f6 : Addr} {od6 an6 : Option Addr} {sl6 : Array (Option Value)} {oc6 kV6 dc6 pm6 cd6 ct6 : Value}
    (a6 : PySem.W.nsIn K mainGlobals "_law_line" = some (some (.ref f6))) (l6 : K.lookup f6 = some ⟨oc6, od6, .func (PySem.W.fnOf "_law_line" "_law_line" (defArgs s_law_line) (defBody s_law_line) (defScope s_law_line) .none kV6 dc6 pm6 an6 cd6 ct6), sl6⟩) (c6 : PySem.W.codeIn K cd6 "_law_line" = true) (k6 : PySem.W.keepIn K (.ref f6) = true)
    {f7 : Addr} {od7 an7 : Option Addr} {sl7 : Array (Option Value)} {oc7 kV7 dc7 pm7 cd7 ct7 : Value}
    (a7 : PySem.W.nsIn K mainGlobals "_law_spoiled" = some (some (.ref f7))) (l7 : K.lookup f7 = some ⟨oc7, od7, .func (PySem.W.fnOf "_law_spoiled" "_law_spoiled" (defArgs s_law_spoiled) (defBody s_law_spoiled) (defScope s_law_spoiled) .none kV7 dc7 pm7 an7 cd7 ct7), sl7⟩) (c7 : PySem.W.codeIn K cd7 "_law_spoiled" = true) (k7 : PySem.W.keepIn K (.ref f7) = true)
    {f8 : Addr} {od8 an8 : Option Addr} {sl8 : Array (Option Value)} {oc8 kV8 dc8 pm8 cd8 ct8 : Value}
    (a8 : PySem.W.nsIn K mainGlobals "read_weight" = some (some (.ref f8))) (l8 : K.lookup f8 = some ⟨oc8, od8, .func (PySem.W.fnOf "read_weight" "read_weight" (defArgs s_read_weight) (defBody s_read_weight) (defScope s_read_weight) .none kV8 dc8 pm8 an8 cd8 ct8), sl8⟩) (c8 : PySem.W.codeIn K cd8 "read_weight" = true) (k8 : PySem.W.keepIn K (.ref f8) = true)
    {f9 : Addr} {od9 an9 : Option Addr} {sl9 : Array (Option Value)} {oc9 kV9 dc9 pm9 cd9 ct9 : Value}
    (a9 : PySem.W.nsIn K mainGlobals "check_die" = some (some (.ref f9))) (l9 : K.lookup f9 = some ⟨oc9, od9, .func (PySem.W.fnOf "check_die" "check_die" (defArgs s_check_die) (defBody s_check_die) (defScope s_check_die) .none kV9 dc9 pm9 an9 cd9 ct9), sl9⟩) (c9 : PySem.W.codeIn K cd9 "check_die" = true) (k9 : PySem.W.keepIn K (.ref f9) = true)
    {f10 : Addr} {od10 an10 : Option Addr} {sl10 : Array (Option Value)} {oc10 kV10 dc10 pm10 cd10 ct10 : Value}
    (a10 : PySem.W.nsIn K mainGlobals "signs_of" = some (some (.ref f10))) (l10 : K.lookup f10 = some ⟨oc10, od10, .func (PySem.W.fnOf "signs_of" "signs_of" (defArgs s_signs_of) (defBody s_signs_of) (defScope s_signs_of) .none kV10 dc10 pm10 an10 cd10 ct10), sl10⟩) (c10 : PySem.W.codeIn K cd10 "signs_of" = true) (k10 : PySem.W.keepIn K (.ref f10) = true)
    {f11 : Addr} {od11 an11 : Option Addr} {sl11 : Array (Option Value)} {oc11 kV11 dc11 pm11 cd11 ct11 : Value}
    (a11 : PySem.W.nsIn K mainGlobals "is_thrown" = some (some (.ref f11))) (l11 : K.lookup f11 = some ⟨oc11, od11, .func (PySem.W.fnOf "is_thrown" "is_thrown" (defArgs s_is_thrown) (defBody s_is_thrown) (defScope s_is_thrown) .none kV11 dc11 pm11 an11 cd11 ct11), sl11⟩) (c11 : PySem.W.codeIn K cd11 "is_thrown" = true) (k11 : PySem.W.keepIn K (.ref f11) = true)
    {f12 : Addr} {od12 an12 : Option Addr} {sl12 : Array (Option Value)} {oc12 kV12 dc12 pm12 cd12 ct12 : Value}
    (a12 : PySem.W.nsIn K mainGlobals "check_word" = some (some (.ref f12))) (l12 : K.lookup f12 = some ⟨oc12, od12, .func (PySem.W.fnOf "check_word" "check_word" (defArgs s_check_word) (defBody s_check_word) (defScope s_check_word) .none kV12 dc12 pm12 an12 cd12 ct12), sl12⟩) (c12 : PySem.W.codeIn K cd12 "check_word" = true) (k12 : PySem.W.keepIn K (.ref f12) = true)
    {f13 : Addr} {od13 an13 : Option Addr} {sl13 : Array (Option Value)} {oc13 kV13 dc13 pm13 cd13 ct13 : Value}
    (a13 : PySem.W.nsIn K mainGlobals "stands_within_another" = some (some (.ref f13))) (l13 : K.lookup f13 = some ⟨oc13, od13, .func (PySem.W.fnOf "stands_within_another" "stands_within_another" (defArgs s_stands_within_another) (defBody s_stands_within_another) (defScope s_stands_within_another) .none kV13 dc13 pm13 an13 cd13 ct13), sl13⟩) (c13 : PySem.W.codeIn K cd13 "stands_within_another" = true) (k13 : PySem.W.keepIn K (.ref f13) = true)
    {f14 : Addr} {od14 an14 : Option Addr} {sl14 : Array (Option Value)} {oc14 kV14 dc14 pm14 cd14 ct14 : Value}
    (a14 : PySem.W.nsIn K mainGlobals "check_race" = some (some (.ref f14))) (l14 : K.lookup f14 = some ⟨oc14, od14, .func (PySem.W.fnOf "check_race" "check_race" (defArgs s_check_race) (defBody s_check_race) (defScope s_check_race) .none kV14 dc14 pm14 an14 cd14 ct14), sl14⟩) (c14 : PySem.W.codeIn K cd14 "check_race" = true) (k14 : PySem.W.keepIn K (.ref f14) = true)
    {f15 : Addr} {od15 an15 : Option Addr} {sl15 : Array (Option Value)} {oc15 kV15 dc15 pm15 cd15 ct15 : Value}
    (a15 : PySem.W.nsIn K mainGlobals "read" = some (some (.ref f15))) (l15 : K.lookup f15 = some ⟨oc15, od15, .func (PySem.W.fnOf "read" "read" (defArgs s_read) (defBody s_read) (defScope s_read) .none kV15 dc15 pm15 an15 cd15 ct15), sl15⟩) (c15 : PySem.W.codeIn K cd15 "read" = true) (k15 : PySem.W.keepIn K (.ref f15) = true)
    {f16 : Addr} {od16 an16 : Option Addr} {sl16 : Array (Option Value)} {oc16 kV16 dc16 pm16 cd16 ct16 : Value}
    (a16 : PySem.W.nsIn K mainGlobals "_law_kind" = some (some (.ref f16))) (l16 : K.lookup f16 = some ⟨oc16, od16, .func (PySem.W.fnOf "_law_kind" "_law_kind" (defArgs s_law_kind) (defBody s_law_kind) (defScope s_law_kind) .none kV16 dc16 pm16 an16 cd16 ct16), sl16⟩) (c16 : PySem.W.codeIn K cd16 "_law_kind" = true) (k16 : PySem.W.keepIn K (.ref f16) = true)
    {f17 : Addr} {od17 an17 : Option Addr} {sl17 : Array (Option Value)} {oc17 kV17 dc17 pm17 cd17 ct17 : Value}
    (a17 : PySem.W.nsIn K mainGlobals "_law_tried" = some (some (.ref f17))) (l17 : K.lookup f17 = some ⟨oc17, od17, .func (PySem.W.fnOf "_law_tried" "_law_tried" (defArgs s_law_tried) (defBody s_law_tried) (defScope s_law_tried) .none kV17 dc17 pm17 an17 cd17 ct17), sl17⟩) (c17 : PySem.W.codeIn K cd17 "_law_tried" = true) (k17 : PySem.W.keepIn K (.ref f17) = true)
    {f18 : Addr} {od18 an18 : Option Addr} {sl18 : Array (Option Value)} {oc18 kV18 dc18 pm18 cd18 ct18 : Value}
    (a18 : PySem.W.nsIn K mainGlobals "law" = some (some (.ref f18))) (l18 : K.lookup f18 = some ⟨oc18, od18, .func (PySem.W.fnOf "law" "law" (defArgs s_law) (defBody s_law) (defScope s_law) .none kV18 dc18 pm18 an18 cd18 ct18), sl18⟩) (c18 : PySem.W.codeIn K cd18 "law" = true) (k18 : PySem.W.keepIn K (.ref f18) = true)
    {x0 : Addr} {x1 : Addr} {x2 : Addr} {x3 : Addr} {x4 : Addr} {x5 : Addr} {x6 : Addr} {x7 : Addr}
    (y0 : PySem.W.nsIn K mainGlobals "NoDie" = some (some (.ref x0)))
    (y1 : PySem.W.nsIn K mainGlobals "NoWord" = some (some (.ref x1)))
    (y2 : PySem.W.nsIn K mainGlobals "NoRace" = some (some (.ref x2)))
    (y3 : PySem.W.nsIn K mainGlobals "NoRow" = some (some (.ref x3)))
    (y4 : PySem.W.nsIn K mainGlobals "Over" = some (some (.ref x4)))
    (y5 : PySem.W.nsIn K mainGlobals "TooMany" = some (some (.ref x5)))
    (y6 : PySem.W.nsIn K mainGlobals "NoNote" = some (some (.ref x6)))
    (y7 : PySem.W.nsIn K mainGlobals "RaceError" = some (some (.ref x7)))
    (yc : xcIn K [x0, x1, x2, x3, x4, x5, x6] x7 = true)
    {t_SIGNS : Tok} (z_SIGNS : PySem.W.nsIn K mainGlobals "SIGNS" = some (some (.str (Str.ofString "abcd") t_SIGNS)))
    {t_LEAST_WEIGHTS : Tok} (z_LEAST_WEIGHTS : PySem.W.nsIn K mainGlobals "LEAST_WEIGHTS" = some (some (.int 2 t_LEAST_WEIGHTS)))
    {t_MOST_WEIGHTS : Tok} (z_MOST_WEIGHTS : PySem.W.nsIn K mainGlobals "MOST_WEIGHTS" = some (some (.int 4 t_MOST_WEIGHTS)))
    {t_LEAST_WEIGHT : Tok} (z_LEAST_WEIGHT : PySem.W.nsIn K mainGlobals "LEAST_WEIGHT" = some (some (.int 1 t_LEAST_WEIGHT)))
    {t_MOST_WEIGHT : Tok} (z_MOST_WEIGHT : PySem.W.nsIn K mainGlobals "MOST_WEIGHT" = some (some (.int 9 t_MOST_WEIGHT)))
    {t_MOST_SIGNS : Tok} (z_MOST_SIGNS : PySem.W.nsIn K mainGlobals "MOST_SIGNS" = some (some (.int 6 t_MOST_SIGNS)))
    {t_MOST_WORDS : Tok} (z_MOST_WORDS : PySem.W.nsIn K mainGlobals "MOST_WORDS" = some (some (.int 4 t_MOST_WORDS)))
    {t_FIGURES : Tok} (z_FIGURES : PySem.W.nsIn K mainGlobals "FIGURES" = some (some (.str (Str.ofString "123456789") t_FIGURES)))
    (b_len : PySem.W.nsIn K mainGlobals "len" = some none)
    (b_min : PySem.W.nsIn K mainGlobals "min" = some none)
    (b_max : PySem.W.nsIn K mainGlobals "max" = some none)
    (b_all : PySem.W.nsIn K mainGlobals "all" = some none)
    (b_any : PySem.W.nsIn K mainGlobals "any" = some none)
    (b_isinstance : PySem.W.nsIn K mainGlobals "isinstance" = some none)
    (b_int : PySem.W.nsIn K mainGlobals "int" = some none)
    (b_str : PySem.W.nsIn K mainGlobals "str" = some none)
    (b_range : PySem.W.nsIn K mainGlobals "range" = some none)
    (b_ValueError : PySem.W.nsIn K mainGlobals "ValueError" = some none)
    : ∃ fd : FuncData, (∀ (s : Shared) (v : Value), BindsTo s fd ⟨[v], []⟩ [("script", v)]) ∧ ∀ base : Heap, K.In base → base.Ns mainGlobals mg → FnOk l.prog w K mg base CX0 43 fa fd ["script"] (sp_law K) := by
  have e := hfa.symm.trans (PySem.W.mg_of X G a18)
  cases e
  have M : Bl mg := ⟨PySem.W.mg_none_of X G b_len, PySem.W.mg_none_of X G b_min, PySem.W.mg_none_of X G b_max, PySem.W.mg_none_of X G b_all, PySem.W.mg_none_of X G b_any, PySem.W.mg_none_of X G b_isinstance, PySem.W.mg_none_of X G b_int, PySem.W.mg_none_of X G b_str, PySem.W.mg_none_of X G b_range, PySem.W.mg_none_of X G b_ValueError⟩
  have T : Cs l.prog mg := ⟨gt, ⟨t_SIGNS, by rw [PySem.W.mg_of X G z_SIGNS, show (Str.ofString "abcd") = S [97, 98, 99, 100] from by decide +kernel]⟩, ⟨t_LEAST_WEIGHTS, PySem.W.mg_of X G z_LEAST_WEIGHTS⟩, ⟨t_MOST_WEIGHTS, PySem.W.mg_of X G z_MOST_WEIGHTS⟩, ⟨t_LEAST_WEIGHT, PySem.W.mg_of X G z_LEAST_WEIGHT⟩, ⟨t_MOST_WEIGHT, PySem.W.mg_of X G z_MOST_WEIGHT⟩, ⟨t_MOST_SIGNS, PySem.W.mg_of X G z_MOST_SIGNS⟩, ⟨t_MOST_WORDS, PySem.W.mg_of X G z_MOST_WORDS⟩, ⟨t_FIGURES, by rw [PySem.W.mg_of X G z_FIGURES, show (Str.ofString "123456789") = S [49, 50, 51, 52, 53, 54, 55, 56, 57] from by decide +kernel]⟩⟩
  obtain ⟨c, Y⟩ := xc_of (mg := mg) yc (PySem.W.mg_of X G y0) (PySem.W.mg_of X G y1) (PySem.W.mg_of X G y2) (PySem.W.mg_of X G y3) (PySem.W.mg_of X G y4) (PySem.W.mg_of X G y5) (PySem.W.mg_of X G y6) (PySem.W.mg_of X G y7)
  have F0 := fun_mk (st := s_law_next) l0 c0 k0
  have B0 := F0.binds (ps := ["seed"]) fun _ _ _ _ _ _ us hl => bz1 (fun _ => rfl) us hl
  have F1 := fun_mk (st := s_law_die) l1 c1 k1
  have B1 := F1.binds (ps := ["cell"]) fun _ _ _ _ _ _ us hl => bz1 (fun _ => rfl) us hl
  have F2 := fun_mk (st := s_law_thrown) l2 c2 k2
  have B2 := F2.binds (ps := ["cell", "many", "signs"]) fun _ _ _ _ _ _ us hl => bz3 (fun _ _ _ => rfl) us hl
  have F3 := fun_mk (st := s_law_word) l3 c3 k3
  have B3 := F3.binds (ps := ["cell", "signs"]) fun _ _ _ _ _ _ us hl => bz2 (fun _ _ => rfl) us hl
  have F4 := fun_mk (st := s_law_cell_at) l4 c4 k4
  have B4 := F4.binds (ps := ["script", "k"]) fun _ _ _ _ _ _ us hl => bz2 (fun _ _ => rfl) us hl
  have F5 := fun_mk (st := s_law_words) l5 c5 k5
  have B5 := F5.binds (ps := ["script", "at", "signs"]) fun _ _ _ _ _ _ us hl => bz3 (fun _ _ _ => rfl) us hl
  have F6 := fun_mk (st := s_law_line) l6 c6 k6
  have B6 := F6.binds (ps := ["weights", "words"]) fun _ _ _ _ _ _ us hl => bz2 (fun _ _ => rfl) us hl
  have F7 := fun_mk (st := s_law_spoiled) l7 c7 k7
  have B7 := F7.binds (ps := ["weights", "words", "fault", "cell"]) fun _ _ _ _ _ _ us hl => bz4 (fun _ _ _ _ => rfl) us hl
  have F8 := fun_mk (st := s_read_weight) l8 c8 k8
  have B8 := F8.binds (ps := ["text"]) fun _ _ _ _ _ _ us hl => bz1 (fun _ => rfl) us hl
  have F9 := fun_mk (st := s_check_die) l9 c9 k9
  have B9 := F9.binds (ps := ["die"]) fun _ _ _ _ _ _ us hl => bz1 (fun _ => rfl) us hl
  have F10 := fun_mk (st := s_signs_of) l10 c10 k10
  have B10 := F10.binds (ps := ["die"]) fun _ _ _ _ _ _ us hl => bz1 (fun _ => rfl) us hl
  have F11 := fun_mk (st := s_is_thrown) l11 c11 k11
  have B11 := F11.binds (ps := ["die", "text"]) fun _ _ _ _ _ _ us hl => bz2 (fun _ _ => rfl) us hl
  have F12 := fun_mk (st := s_check_word) l12 c12 k12
  have B12 := F12.binds (ps := ["die", "word"]) fun _ _ _ _ _ _ us hl => bz2 (fun _ _ => rfl) us hl
  have F13 := fun_mk (st := s_stands_within_another) l13 c13 k13
  have B13 := F13.binds (ps := ["words", "place"]) fun _ _ _ _ _ _ us hl => bz2 (fun _ _ => rfl) us hl
  have F14 := fun_mk (st := s_check_race) l14 c14 k14
  have B14 := F14.binds (ps := ["die", "words"]) fun _ _ _ _ _ _ us hl => bz2 (fun _ _ => rfl) us hl
  have F15 := fun_mk (st := s_read) l15 c15 k15
  have B15 := F15.binds (ps := ["text"]) fun _ _ _ _ _ _ us hl => bz1 (fun _ => rfl) us hl
  have F16 := fun_mk (st := s_law_kind) l16 c16 k16
  have B16 := F16.binds (ps := ["e"]) fun _ _ _ _ _ _ us hl => bz1 (fun _ => rfl) us hl
  have F17 := fun_mk (st := s_law_tried) l17 c17 k17
  have B17 := F17.binds (ps := ["text"]) fun _ _ _ _ _ _ us hl => bz1 (fun _ => rfl) us hl
  have F18 := fun_mk (st := s_law) l18 c18 k18
  refine ⟨PySem.W.fnOf "law" "law" (defArgs s_law) (defBody s_law) (defScope s_law) .none kV18 dc18 pm18 an18 cd18 ct18, fun s v => .of_eq rfl, fun base _ _ => ?_⟩
  have D0 : Df l.prog w K mg base "_law_next" 37 f0 _ _ (sp_law_next K) := ⟨ok_law_next F0 M T , PySem.W.mg_of X G a0, F0.kp, B0⟩
  have D1 : Df l.prog w K mg base "_law_die" 38 f1 _ _ (sp_law_die K) := ⟨ok_law_die F1 M T D0, PySem.W.mg_of X G a1, F1.kp, B1⟩
  have D2 : Df l.prog w K mg base "_law_thrown" 38 f2 _ _ (sp_law_thrown K) := ⟨ok_law_thrown F2 M T D0, PySem.W.mg_of X G a2, F2.kp, B2⟩
  have D3 : Df l.prog w K mg base "_law_word" 39 f3 _ _ (sp_law_word K) := ⟨ok_law_word F3 M T D2, PySem.W.mg_of X G a3, F3.kp, B3⟩
  have D4 : Df l.prog w K mg base "_law_cell_at" 37 f4 _ _ (sp_law_cell_at K) := ⟨ok_law_cell_at F4 M T , PySem.W.mg_of X G a4, F4.kp, B4⟩
  have D5 : Df l.prog w K mg base "_law_words" 40 f5 _ _ (sp_law_words K) := ⟨ok_law_words F5 M T D3 D4, PySem.W.mg_of X G a5, F5.kp, B5⟩
  have D6 : Df l.prog w K mg base "_law_line" 37 f6 _ _ (sp_law_line K) := ⟨ok_law_line F6 M T , PySem.W.mg_of X G a6, F6.kp, B6⟩
  have D7 : Df l.prog w K mg base "_law_spoiled" 38 f7 _ _ (sp_law_spoiled K) := ⟨ok_law_spoiled F7 M T D6, PySem.W.mg_of X G a7, F7.kp, B7⟩
  have D8 : Df l.prog w K mg base "read_weight" 37 f8 _ _ (sp_read_weight K) := ⟨ok_read_weight F8 M T , PySem.W.mg_of X G a8, F8.kp, B8⟩
  have R8 : DfX l.prog w K mg base "read_weight" 37 f8 _ _ (sp_read_weightR K c) := ⟨okR_read_weight F8 M T Y , PySem.W.mg_of X G a8, F8.kp, B8⟩
  have W8 : DfX l.prog w K mg base "read_weight" 37 f8 _ _ (fun vs H Q E => sp_read_weight K vs H Q E ∨ sp_read_weightR K c vs H Q E) := ⟨FnOk.or D8.ok.toX R8.ok, D8.m, D8.kp, D8.b⟩
  have D9 : Df l.prog w K mg base "check_die" 37 f9 _ _ (sp_check_die K) := ⟨ok_check_die F9 M T , PySem.W.mg_of X G a9, F9.kp, B9⟩
  have R9 : DfX l.prog w K mg base "check_die" 37 f9 _ _ (sp_check_dieR K c) := ⟨okR_check_die F9 M T Y , PySem.W.mg_of X G a9, F9.kp, B9⟩
  have D10 : Df l.prog w K mg base "signs_of" 37 f10 _ _ (sp_signs_of K) := ⟨ok_signs_of F10 M T , PySem.W.mg_of X G a10, F10.kp, B10⟩
  have D11 : Df l.prog w K mg base "is_thrown" 38 f11 _ _ (sp_is_thrown K) := ⟨ok_is_thrown F11 M T D10, PySem.W.mg_of X G a11, F11.kp, B11⟩
  have D12 : Df l.prog w K mg base "check_word" 39 f12 _ _ (sp_check_word K) := ⟨ok_check_word F12 M T D11, PySem.W.mg_of X G a12, F12.kp, B12⟩
  have R12 : DfX l.prog w K mg base "check_word" 39 f12 _ _ (sp_check_wordR K c) := ⟨okR_check_word F12 M T Y D11, PySem.W.mg_of X G a12, F12.kp, B12⟩
  have W12 : DfX l.prog w K mg base "check_word" 39 f12 _ _ (fun vs H Q E => sp_check_word K vs H Q E ∨ sp_check_wordR K c vs H Q E) := ⟨FnOk.or D12.ok.toX R12.ok, D12.m, D12.kp, D12.b⟩
  have D13 : Df l.prog w K mg base "stands_within_another" 37 f13 _ _ (sp_stands_within_another K) := ⟨ok_stands_within_another F13 M T , PySem.W.mg_of X G a13, F13.kp, B13⟩
  have D14 : Df l.prog w K mg base "check_race" 40 f14 _ _ (sp_check_race K) := ⟨ok_check_race F14 M T D9 D12 D13, PySem.W.mg_of X G a14, F14.kp, B14⟩
  have R14 : DfX l.prog w K mg base "check_race" 40 f14 _ _ (sp_check_raceR K c) := ⟨okR_check_race F14 M T Y D9 R9 D12 D13 W12, PySem.W.mg_of X G a14, F14.kp, B14⟩
  have D15 : Df l.prog w K mg base "read" 41 f15 _ _ (sp_read K) := ⟨ok_read F15 M T D8 D14, PySem.W.mg_of X G a15, F15.kp, B15⟩
  have R15 : DfY l.prog w K mg base "read" 41 f15 _ _ (sp_readR K c) := ⟨okY_read F15 M T Y D8 W8 R14, PySem.W.mg_of X G a15, F15.kp, B15⟩
  have Q16 : DfM l.prog w K mg base "_law_kind" 37 f16 _ _ (sp_law_kind K c) := ⟨okM_law_kind F16 M T Y , PySem.W.mg_of X G a16, F16.kp, B16⟩
  have D17 : Df l.prog w K mg base "_law_tried" 42 f17 _ _ (sp_law_tried K c) := ⟨okT_law_tried F17 M T Y D15 R15 Q16, PySem.W.mg_of X G a17, F17.kp, B17⟩
  exact ok_law F18 M T D1 D5 D7 D4 D17 D6
theorem walk {l : PySem.W.OpenLaw} {q : Program} {loose : List Str} {XP : (Str → Option Value) → Heap → Prop} {YP : World → Heap → Prop} {d : DefRec} {K : Params → PySem.W.Frag} (hi : PyProof.Rows.importsNone q = true) (hn : l.most = some 63) (hdf : d.params.defaults = [])
    (hY : ∀ (w : World) (h : Heap), YP w h → (K w.params).In h)
    (F : ∀ (w : World) (mg : Str → Option Value) (fa : Addr) (h : Heap), (K w.params).In h → h.Ns mainGlobals mg → mg d.name = some (.ref fa) →
      ∃ fd : FuncData, (∀ (s : Shared) (u : Value), BindsTo s fd ⟨[u], []⟩ [("script", u)]) ∧ ∀ base : Heap, (K w.params).In base → base.Ns mainGlobals mg → FnOk l.prog w (K w.params) mg base CX0 43 fa fd ["script"] (sp_law (K w.params))) :
    PySem.W.WalkO q loose XP YP l.row.toRowW d [] (fun f vs => PySem.call f vs) :=
  L2.walk_of (n := 63) (k := 43) (x := "script") (CX := fun _ => CX0) (sp := fun w => sp_law (K w.params)) hi hn (by decide) hdf ⟨rfl, by decide, by decide⟩ hY F (fun _ _ a ns hl _ hS => ⟨a, ns, rfl, hS, hl, fun _ => rfl⟩) fun _ _ _ _ _ z => z
end My
open PySem PySem.W PyProof.Rows
set_option maxRecDepth 100000 in
set_option maxHeartbeats 0 in
theorem PySem.Challenge.cw_wordrace_k20_unread_holds : PySem.Challenge.rw_wordrace_k20_unread.Holds := by
  w_on; o_law; k_head; (case hw => w_witness2)
  k_fill
  refine My.walk (l := PySem.Challenge.rw_wordrace_k20_unread) ?hi rfl rfl (fun w h Y => PySem.W.kIn_of Y) ?F
  case hi => decide +kernel
  case F =>
    intro w mg fa h KX G hmg
    refine' My.all_mk rfl KX G hmg ?a0 ?l0 ?c0 ?k0 ?a1 ?l1 ?c1 ?k1 ?a2 ?l2 ?c2 ?k2 ?a3 ?l3 ?c3 ?k3 ?a4 ?l4 ?c4 ?k4 ?a5 ?l5 ?c5 ?k5 ?a6 ?l6 ?c6 ?k6 ?a7 ?l7 ?c7 ?k7 ?a8 ?l8 ?c8 ?k8 ?a9 ?l9 ?c9 ?k9 ?a10 ?l10 ?c10 ?k10 ?a11 ?l11 ?c11 ?k11 ?a12 ?l12 ?c12 ?k12 ?a13 ?l13 ?c13 ?k13 ?a14 ?l14 ?c14 ?k14 ?a15 ?l15 ?c15 ?k15 ?a16 ?l16 ?c16 ?k16 ?a17 ?l17 ?c17 ?k17 ?a18 ?l18 ?c18 ?k18 ?y0 ?y1 ?y2 ?y3 ?y4 ?y5 ?y6 ?y7 ?yc ?z_SIGNS ?z_LEAST_WEIGHTS ?z_MOST_WEIGHTS ?z_LEAST_WEIGHT ?z_MOST_WEIGHT ?z_MOST_SIGNS ?z_MOST_WORDS ?z_FIGURES ?b_len ?b_min ?b_max ?b_all ?b_any ?b_isinstance ?b_int ?b_str ?b_range ?b_ValueError
    (case a0 => k_is)
    (case l0 => k_is)
    (case c0 => k_is)
    (case k0 => k_is)
    (case a1 => k_is)
    (case l1 => k_is)
    (case c1 => k_is)
    (case k1 => k_is)
    (case a2 => k_is)
    (case l2 => k_is)
    (case c2 => k_is)
    (case k2 => k_is)
    (case a3 => k_is)
    (case l3 => k_is)
    (case c3 => k_is)
    (case k3 => k_is)
    (case a4 => k_is)
    (case l4 => k_is)
    (case c4 => k_is)
    (case k4 => k_is)
    (case a5 => k_is)
    (case l5 => k_is)
    (case c5 => k_is)
    (case k5 => k_is)
    (case a6 => k_is)
    (case l6 => k_is)
    (case c6 => k_is)
    (case k6 => k_is)
    (case a7 => k_is)
    (case l7 => k_is)
    (case c7 => k_is)
    (case k7 => k_is)
    (case a8 => k_is)
    (case l8 => k_is)
    (case c8 => k_is)
    (case k8 => k_is)
    (case a9 => k_is)
    (case l9 => k_is)
    (case c9 => k_is)
    (case k9 => k_is)
    (case a10 => k_is)
    (case l10 => k_is)
    (case c10 => k_is)
    (case k10 => k_is)
    (case a11 => k_is)
    (case l11 => k_is)
    (case c11 => k_is)
    (case k11 => k_is)
    (case a12 => k_is)
    (case l12 => k_is)
    (case c12 => k_is)
    (case k12 => k_is)
    (case a13 => k_is)
    (case l13 => k_is)
    (case c13 => k_is)
    (case k13 => k_is)
    (case a14 => k_is)
    (case l14 => k_is)
    (case c14 => k_is)
    (case k14 => k_is)
    (case a15 => k_is)
    (case l15 => k_is)
    (case c15 => k_is)
    (case k15 => k_is)
    (case a16 => k_is)
    (case l16 => k_is)
    (case c16 => k_is)
    (case k16 => k_is)
    (case a17 => k_is)
    (case l17 => k_is)
    (case c17 => k_is)
    (case k17 => k_is)
    (case a18 => k_is)
    (case l18 => k_is)
    (case c18 => k_is)
    (case k18 => k_is)
    (case y0 => k_is)
    (case y1 => k_is)
    (case y2 => k_is)
    (case y3 => k_is)
    (case y4 => k_is)
    (case y5 => k_is)
    (case y6 => k_is)
    (case y7 => k_is)
    (case yc => kernel_rfl)
    (case z_SIGNS => k_is)
    (case z_LEAST_WEIGHTS => k_is)
    (case z_MOST_WEIGHTS => k_is)
    (case z_LEAST_WEIGHT => k_is)
    (case z_MOST_WEIGHT => k_is)
    (case z_MOST_SIGNS => k_is)
    (case z_MOST_WORDS => k_is)
    (case z_FIGURES => k_is)
    (case b_len => k_is)
    (case b_min => k_is)
    (case b_max => k_is)
    (case b_all => k_is)
    (case b_any => k_is)
    (case b_isinstance => k_is)
    (case b_int => k_is)
    (case b_str => k_is)
    (case b_range => k_is)
    (case b_ValueError => k_is)
