import PyProof.Rows.All
import Wide.All
import OpenK.AllK
import Wide.FinOn
import Lean
import PyProof.EqAt
import PyProof.EqKinds
import PyProof.TupleCall
import PyProof.DictItems
import PyProof.Draws
import PyProof.ZipIter
import PyProof.CallStr
import KE.KIntText
import PyProof.StationsW
import OpenK.KOwn
import KE.KIsAll
import PyProof.ExcArgsOwn
import PyProof.Rows.CountFlat
import PySem.Challenge.RW_wordrace_k14_no_die
set_option Elab.async false
set_option linter.all false
set_option maxRecDepth 100000
set_option maxHeartbeats 4000000
namespace L2
open PySem PySem.Spec PyProof.Rows
abbrev Key := Sum Int Str
def jiq : Key → Value → Bool
 | .inl k, v => Value.isInt k v
 | .inr x, v => Value.isStrOf x v
def jrl (w : World) : Key → Int
 | .inl k => hashInt k
 | .inr x => hashStr w x
theorem jaP : ∀ {k : Key} {v : Value}, jiq k v = true → (∃ i t, k = Sum.inl i ∧ v = Value.int i t) ∨ (∃ x t, k = Sum.inr x ∧ v = Value.str x t)
 | .inl i, v, h => by
   obtain ⟨t, e⟩ := Value.isInt_shape (k := i) (v := v) h
   exact .inl ⟨i, t, rfl, e⟩
 | .inr x, v, h => by
   obtain ⟨t, e⟩ := Value.isStrOf_shape (x := x) (v := v) h
   exact .inr ⟨x, t, rfl, e⟩
theorem jlI (i : Int) (t : Tok) : jiq (.inl i) (.int i t) = true := by simp [jiq, Value.isInt]
theorem jhS (x : Str) (t : Tok) : jiq (.inr x) (.str x t) = true := by simp [jiq, Value.isStrOf]
theorem jpn (a b : Int) : decide ((Sum.inl a : Key) = Sum.inl b) = (a == b) := by
 by_cases e : a = b
 · subst e; simp
 · have h : ¬ (Sum.inl a : Key) = Sum.inl b := fun q => e (Sum.inl.inj q)
   rw [decide_eq_false h]
   exact (beq_eq_false_iff_ne.mpr e).symm
theorem jpo (a b : Str) : decide ((Sum.inr a : Key) = Sum.inr b) = decide (a = b) := by
 by_cases e : a = b
 · subst e; simp
 · have h : ¬ (Sum.inr a : Key) = Sum.inr b := fun q => e (Sum.inr.inj q)
   rw [decide_eq_false h, decide_eq_false e]
theorem jp0 (a : Int) (b : Str) : decide ((Sum.inl a : Key) = Sum.inr b) = false := decide_eq_false (fun q => nomatch q)
theorem jpS (a : Str) (b : Int) : decide ((Sum.inr a : Key) = Sum.inl b) = false := decide_eq_false (fun q => nomatch q)
def jaz (prog : Program) (w : World) : PySem.KeyKind prog w Key where
 is := jiq
 hash := jrl w
 inj := fun v a b ha hb => by
   rcases jaP ha with ⟨i, t, rfl, rfl⟩ | ⟨x, t, rfl, rfl⟩
   · rcases jaP hb with ⟨j, u, rfl, e⟩ | ⟨y, u, rfl, e⟩
     · injection e with e1 _; rw [e1]
     · exact nomatch e
   · rcases jaP hb with ⟨j, u, rfl, e⟩ | ⟨y, u, rfl, e⟩
     · exact nomatch e
     · injection e with e1 _; rw [e1]
 byValue := fun k v h => by
   rcases jaP h with ⟨i, t, rfl, rfl⟩ | ⟨x, t, rfl, rfl⟩ <;> rfl
 pyHash := fun hv h => by
   rcases jaP hv with ⟨i, t, rfl, rfl⟩ | ⟨x, t, rfl, rfl⟩
   · exact wpAny_pyHash_int h
   · exact wpAny_pyHash_str h
 eqBool := fun hu hv h => by
   rcases jaP hu with ⟨i, t, rfl, rfl⟩ | ⟨x, t, rfl, rfl⟩
   · rcases jaP hv with ⟨j, u, rfl, rfl⟩ | ⟨y, u, rfl, rfl⟩
     · rw [jpn] at h; exact wpAny_eqBool_int h
     · rw [jp0] at h; exact SeqAt.EqAt.int_str i t y u _ _ _ _ h
   · rcases jaP hv with ⟨j, u, rfl, rfl⟩ | ⟨y, u, rfl, rfl⟩
     · rw [jpS] at h; exact SeqAt.EqAt.str_int x t j u _ _ _ _ h
     · rw [jpo] at h; exact wpAny_eqBool_str h
 «strs» := fun k x t v h => by
   rcases jaP h with ⟨i, u, rfl, e⟩ | ⟨y, u, rfl, e⟩
   · exact nomatch e
   · injection e with e1 _
     subst e1
     cases v <;> rfl
theorem ji1 (prog : Program) (w : World) (i : Int) (t : Tok) : (jaz prog w).is (.inl i) (.int i t) = true := jlI i t
theorem jdS (prog : Program) (w : World) (x : Str) (t : Tok) : (jaz prog w).is (.inr x) (.str x t) = true := jhS x t
end L2
namespace L2
open PySem PySem.Spec PyProof.Rows
inductive V where
 | non | bl (b : Bool) | int (i : Int) | str (x : Str) | byt (b : Array UInt8) | flt (b : UInt64) | ref (a : Addr) | ty (n : String)
 deriving DecidableEq
def RelV : V → Value → Prop
 | .non, u => u = Value.none
 | .bl b, u => u = Value.bool b
 | .int i, u => ∃ t, u = Value.int i t
 | .str x, u => ∃ t, u = Value.str x t
 | .byt b, u => ∃ t, u = Value.bytes b t
 | .flt b, u => ∃ t, u = Value.float b t
 | .ref a, u => u = Value.ref a
 | .ty n, u => u = Value.type n
abbrev Vals : List V → List Value → Prop := Paired RelV
theorem Vals.length {xs : List V} {us : List Value} (r : Vals xs us) : xs.length = us.length := Paired.length r
theorem Vals.get : ∀ {xs : List V} {us : List Value} {i : Nat} {x : V}, Vals xs us → xs[i]? = some x → ∃ u, us[i]? = some u ∧ RelV x u
 | _, _, _, _, .nil, e => by simp at e
 | _, _, 0, _, .cons r _, e => by simp at e; subst e; exact ⟨_, rfl, r⟩
 | _, _, i + 1, x, .cons _ t, e => by
   obtain ⟨u, h1, h2⟩ := Vals.get (i := i) (x := x) t (by simpa using e)
   exact ⟨u, by simpa using h1, h2⟩
theorem Vals.set {x : V} {u : Value} (r : RelV x u) : ∀ {xs : List V} {us : List Value} (i : Nat), Vals xs us → Vals (xs.set i x) (us.set i u)
 | _, _, _, .nil => .nil
 | _, _, 0, .cons _ t => .cons r t
 | _, _, i + 1, .cons q t => .cons q (Vals.set r i t)
theorem Vals.append : ∀ {xs ys : List V} {us ws : List Value}, Vals xs us → Vals ys ws → Vals (xs ++ ys) (us ++ ws)
 | _, _, _, _, .nil, s => s
 | _, _, _, _, .cons r t, s => .cons r (Vals.append t s)
theorem Vals.take : ∀ {xs : List V} {us : List Value} (n : Nat), Vals xs us → Vals (xs.take n) (us.take n)
 | _, _, 0, _ => .nil
 | _, _, _ + 1, .nil => .nil
 | _, _, n + 1, .cons r t => .cons r (Vals.take n t)
theorem Vals.drop : ∀ {xs : List V} {us : List Value} (n : Nat), Vals xs us → Vals (xs.drop n) (us.drop n)
 | _, _, 0, r => r
 | _, _, _ + 1, .nil => .nil
 | _, _, n + 1, .cons _ t => Vals.drop n t
def jnt : Option V → Option Value → Prop
 | some v, some u => RelV v u
 | none, none => True
 | _, _ => False
def KV {κ : Type} : List (κ × V) → List (κ × Value) → Prop := Paired fun (p : κ × V) (q : κ × Value) => p.1 = q.1 ∧ RelV p.2 q.2
def kV : Key → V
 | .inl i => .int i
 | .inr x => .str x
inductive HO where
   | lst (xs : List V)
   | tup (xs : List V)
   | dK (kvs : List (Key × V)) | dT (kvs : List (List Key × V))
   | set (S : Int → Bool) (n : Nat)
   | ins (C dx : Addr) (fs : List (Str × V))
   | own (x : Addr)
   | xd (fs : List (Str × V))
   | met (f x : Addr)
   | rng (lo hi : Int)
   | frz (o : Obj) (u : HO)
   | tbl (ps : Array Value)
   | ext (φ : Heap → Prop)
abbrev Hp := Addr → Option HO
def upd (H : Hp) (a : Addr) (o : HO) : Hp := fun b => if b = a then some o else H b
theorem jah {H : Hp} {a : Addr} {o : HO} : upd H a o a = some o := by unfold upd; rw [if_pos rfl]
theorem jaw {H : Hp} {a b : Addr} {o : HO} (h : b ≠ a) : upd H a o b = H b := by unfold upd; rw [if_neg h]
theorem jn6 {H : Hp} {a : Addr} {o u : HO} : upd (upd H a o) a u = upd H a u := by
 funext b; unfold upd; split <;> rfl
theorem jgg {H : Hp} {a b : Addr} {o u : HO} (h : H a = some o) (h' : H b = some u) (d : o ≠ u) : a ≠ b := by
 intro e; subst e; rw [h] at h'; exact d (Option.some.inj h')
theorem jaF {H : Hp} {a b : Addr} {o : HO} (h : H a = some o) (h' : H b = none) : a ≠ b := by
 intro e; subst e; rw [h] at h'; cases h'
section
variable (P : Program) (w : World)
def jbW (H : Hp) (h : Heap) (a : Addr) : HO → Prop
 | .lst xs => xs.length ≤ sizeLine ∧ ∃ (its : List Value) (n : Nat), Vals xs its ∧ h.get? a = some { cls := .type "list", data := .seq its.toArray n }
 | .tup xs => xs.length ≤ sizeLine ∧ ∃ its : List Value, Vals xs its ∧ IsTup h a its.toArray
 | .dK kvs => kvs.length ≤ sizeLine ∧ (a == sysModules) = false ∧ ∃ vs, KV kvs vs ∧ h.DictOf (jaz P w) a vs
 | .dT kvs => kvs.length ≤ sizeLine ∧ (a == sysModules) = false ∧ ∃ xs : List (List Key × Addr × Value),
     Paired (fun (p : List Key × V) (q : List Key × Addr × Value) => p.1 = q.1 ∧ H q.2.1 = some (.tup (p.1.map kV)) ∧ RelV p.2 q.2.2) kvs xs ∧
     ∃ o es ep, h.get? a = some o ∧ o.ExactDict ∧ o.data = .dict es ep ∧ es.toList = xs.map (entryOfKey (tupleKind (jaz P w))) ∧ (xs.map (·.1)).Nodup
 | .set S n => h.SetOf (intKind P w) a S n
 | .ins C dx fs => H dx = some (.own a) ∧ fs.length ≤ 1000 ∧ dx ≠ a ∧ h.get? a = some (PySem.W.instObj C dx) ∧
     ∃ mA, h.Ns1 dx mA ∧ (∀ f, jnt (fs.lookup f) (mA f)) ∧ PySem.Within mA (fs.map (·.1))
 | .own _ => ∃ o, h.get? a = some o
 | .xd fs => ∃ mA, h.Ns1 a mA ∧ ∀ f, jnt (fs.lookup f) (mA f)
 | .rng lo hi => ∃ t u v, h.get? a = some { cls := .type "range", data := .fields #[.int lo t, .int hi u, .int 1 v] }
 | .frz o u => h.get? a = some o ∧ jbW H h a u
 | .tbl ps => h.get? a = some { cls := .none, data := .fields ps }
 | .met f x => h.get? a = some (PySem.W.methodObj (.ref f) (.ref x))
 | .ext φ => φ h ∧ (∃ o, h.get? a = some o) ∧ ∀ h1 h2 : Heap, φ h1 → (∀ o, h1.get? a = some o → h2.get? a = some o) → φ h2
def HOk (H : Hp) (h : Heap) : Prop := ∀ a o, H a = some o → jbW P w H h a o
end
section
variable {P : Program} {w : World} {H H' : Hp} {h h' : Heap} {a : Addr} {o : HO}
theorem jbW.lt (x : jbW P w H h a o) : a < h.objs.size := by
 cases o with
 | lst xs => obtain ⟨_, _, _, _, e⟩ := x; exact Heap.lt_size e
 | tup xs => obtain ⟨_, _, _, p⟩ := x; exact p.lt
 | dK kvs => obtain ⟨_, _, _, _, o, _, _, e, _⟩ := x; exact Heap.lt_size e
 | dT kvs => obtain ⟨_, _, _, _, o, _, _, e, _⟩ := x; exact Heap.lt_size e
 | set S n => obtain ⟨o, _, _, _, e, _⟩ := x; exact Heap.lt_size e
 | ins C dx fs => obtain ⟨_, _, _, e, _⟩ := x; exact Heap.lt_size e
 | own y => obtain ⟨_, e⟩ := x; exact Heap.lt_size e
 | xd fs => obtain ⟨_, ⟨_, _, _, e, _⟩, _⟩ := x; exact Heap.lt_size e
 | rng lo hi => obtain ⟨_, _, _, e⟩ := x; exact Heap.lt_size e
 | frz ob u => obtain ⟨e, _⟩ := x; exact Heap.lt_size e
 | tbl ps => exact Heap.lt_size (show h.get? a = some _ from x)
 | met f y => exact Heap.lt_size (show h.get? a = some _ from x)
 | ext φ => obtain ⟨_, ⟨_, e⟩, _⟩ := x; exact Heap.lt_size e
theorem Paired.mapP {α β : Type} {F G : α → β → Prop} : ∀ {l₁ : List α} {l₂ : List β}, Paired F l₁ l₂ → (∀ a b, F a b → G a b) → Paired G l₁ l₂
 | _, _, .nil, _ => .nil
 | _, _, .cons r t, f => .cons (f _ _ r) (Paired.mapP t f)
theorem jbW.stay (x : jbW P w H h a o) (k : ∀ b u, (b = a ∨ H b = some (.own a)) → h.get? b = some u → h'.get? b = some u)
   (ho : ∀ b, H b = some (.own a) → H' b = some (.own a)) (ht : ∀ b xs, H b = some (.tup xs) → H' b = some (.tup xs)) : jbW P w H' h' a o := by
 induction o with
 | lst xs => obtain ⟨z, its, n, r, e⟩ := x; exact ⟨z, its, n, r, k _ _ (.inl rfl) e⟩
 | tup xs => obtain ⟨z, its, r, ob, e, c⟩ := x; exact ⟨z, its, r, ob, k _ _ (.inl rfl) e, c⟩
 | dK kvs => obtain ⟨z, y, vs, r, ob, es, ep, e, c⟩ := x; exact ⟨z, y, vs, r, ob, es, ep, k _ _ (.inl rfl) e, c⟩
 | dT kvs =>
   obtain ⟨z, y, xs, r, ob, es, ep, e, c⟩ := x
   exact ⟨z, y, xs, Paired.mapP r fun p q z => ⟨z.1, ht _ _ z.2.1, z.2.2⟩, ob, es, ep, k _ _ (.inl rfl) e, c⟩
 | set S n => obtain ⟨ob, es, ep, t, e, c⟩ := x; exact ⟨ob, es, ep, t, k _ _ (.inl rfl) e, c⟩
 | ins C dx fs =>
   obtain ⟨d, z, ne, e, mA, ⟨od, es, ep, e2, c⟩, r⟩ := x
   exact ⟨ho _ d, z, ne, k _ _ (.inl rfl) e, mA, ⟨od, es, ep, k _ _ (.inr d) e2, c⟩, r⟩
 | own y => obtain ⟨ob, e⟩ := x; exact ⟨ob, k _ _ (.inl rfl) e⟩
 | xd fs => obtain ⟨mA, ⟨od, es, ep, e, c⟩, r⟩ := x; exact ⟨mA, ⟨od, es, ep, k _ _ (.inl rfl) e, c⟩, r⟩
 | rng lo hi => obtain ⟨t, u, v, e⟩ := x; exact ⟨t, u, v, k _ _ (.inl rfl) e⟩
 | frz ob u ih => obtain ⟨e, q⟩ := x; exact ⟨k _ _ (.inl rfl) e, ih q⟩
 | tbl ps =>
   have e : h.get? a = some { cls := .none, data := .fields ps } := x
   show h'.get? a = some { cls := .none, data := .fields ps }
   exact k a _ (.inl rfl) e
 | met f y =>
   have e : h.get? a = some (PySem.W.methodObj (.ref f) (.ref y)) := x
   show h'.get? a = some (PySem.W.methodObj (.ref f) (.ref y))
   exact k a _ (.inl rfl) e
 | ext φ => obtain ⟨p, ⟨o, e⟩, st⟩ := x; exact ⟨st _ _ p fun o q => k _ _ (.inl rfl) q, ⟨o, k _ _ (.inl rfl) e⟩, st⟩
theorem HOk.lt (x : HOk P w H h) (e : H a = some o) : a < h.objs.size := (x a o e).lt
theorem HOk.fresh (x : HOk P w H h) (e : h.objs.size ≤ a) : H a = none := by
 cases q : H a with
 | none => rfl
 | some u => exact absurd (Nat.lt_of_lt_of_le (x.lt q) e) (Nat.lt_irrefl _)
theorem HOk.kept (x : HOk P w H h) (k : ∀ b u, h.get? b = some u → h'.get? b = some u) : HOk P w H h' := fun a o e =>
 (x a o e).stay (fun b u _ q => k b u q) (fun _ q => q) fun _ _ q => q
theorem HOk.laid (x : HOk P w H h) (k : ∀ b u, h.get? b = some u → h'.get? b = some u) (hp : h.objs.size ≤ a) (new : jbW P w (upd H a o) h' a o) : HOk P w (upd H a o) h' := fun b u e => by
 have hn := x.fresh hp
 by_cases hb : b = a
 · subst hb; rw [jah] at e; cases e; exact new
 · rw [jaw hb] at e
   exact (x b u e).stay (fun c v _ q => k c v q) (fun c q => by rw [jaw (jaF q hn)]; exact q) fun c xs q => by rw [jaw (jaF q hn)]; exact q
end
def Rd (H : Hp) (a : Addr) (u : HO) : Prop := H a = some u ∨ ∃ o, H a = some (.frz o u)
theorem Rd.ok {P : Program} {w : World} {H : Hp} {h : Heap} {a : Addr} {u : HO} (r : Rd H a u) (x : HOk P w H h) : jbW P w H h a u := by
 rcases r with r | ⟨o, r⟩
 · exact x a u r
 · obtain ⟨_, q⟩ := x a _ r
   exact q
def Mut : Option HO → Prop
 | some (.lst _) => True
 | some (.dK _) => True
 | some (.dT _) => True
 | some (.set _ _) => True
 | some (.ins _ _ _) => True
 | some (.ext _) => True
 | _ => False
section
variable {P : Program} {w : World} {H : Hp} {h h' : Heap} {x e : Addr} {o' : HO}
theorem HOk.write (ok : HOk P w H h) (mu : Mut (H x)) (he : e = x ∨ H e = some (.own x)) (k : ∀ b u, b ≠ e → h.get? b = some u → h'.get? b = some u) (heo : ∃ u, h'.get? e = some u)
   (new : jbW P w (upd H x o') h' x o') : HOk P w (upd H x o') h' := fun b u q => by
 have nown : ∀ c y, H c = some (.own y) → c ≠ x := fun c y r z => by subst z; rw [r] at mu; exact mu
 have ntup : ∀ c xs, H c = some (.tup xs) → c ≠ x := fun c xs r z => by subst z; rw [r] at mu; exact mu
 by_cases hb : b = x
 · subst hb; rw [jah] at q; cases q; exact new
 · rw [jaw hb] at q
   by_cases hbe : b = e
   · have q' : H b = some (.own x) := by
       rcases he with z | z
       · exact absurd (hbe.trans z) hb
       · rw [hbe]; exact z
     rw [q] at q'; cases q'
     obtain ⟨v, hv⟩ := heo
     exact ⟨v, by rw [hbe]; exact hv⟩
   · refine (ok b u q).stay (fun c v hc r => k c v ?_ r) (fun c r => by rw [jaw (nown c b r)]; exact r) fun c xs r => by rw [jaw (ntup c xs r)]; exact r
     rcases hc with rfl | hc
     · exact hbe
     · rintro rfl
       rcases he with z | z
       · exact nown c b hc z
       · rw [hc] at z; cases z; exact hb rfl
end
structure Un (fs ex : List Addr) (H H' : Hp) (h h' : Heap) : Prop where
 keep : ∀ b o, h.get? b = some o → H b = none → b ∉ fs → b ∉ ex → h'.get? b = some o
 slot : ∀ b o, h.get? b = some o → H b = none → b ∈ fs → b ∉ ex → ∃ sl, h'.get? b = some { o with slots := sl }
 free : ∀ b o, h.get? b = some o → H b = none → b ∉ ex → H' b = none
 there : ∀ b o, h.get? b = some o → b ∉ ex → ∃ o', h'.get? b = some o'
 tups : ∀ b xs, H b = some (.tup xs) → H' b = some (.tup xs)
 frzs : ∀ b o u, H b = some (.frz o u) → H' b = some (.frz o u)
 tbls : ∀ b ps, H b = some (.tbl ps) → ∃ more, H' b = some (.tbl (ps ++ more))
section
variable {fs fs' ex ex' : List Addr} {H H1 H2 : Hp} {h h1 h2 h' : Heap} {a x e : Addr} {o : HO}
theorem Un.any (u : Un fs ex H H1 h h1) {b : Addr} {ob : Obj} (q : h.get? b = some ob) (n : H b = none) (hx : b ∉ ex) : ∃ sl, h1.get? b = some { ob with slots := sl } := by
 by_cases hb : b ∈ fs
 · exact u.slot b ob q n hb hx
 · exact ⟨ob.slots, u.keep b ob q n hb hx⟩
theorem Un.kept (k : ∀ b u, h.get? b = some u → h'.get? b = some u) : Un fs ex H H h h' :=
 ⟨fun b ob q _ _ _ => k b ob q, fun b ob q _ _ _ => ⟨ob.slots, k b ob q⟩, fun _ _ _ n _ => n, fun b ob q _ => ⟨ob, k b ob q⟩, fun _ _ q => q, fun _ _ _ q => q, fun _ ps q => ⟨#[], by rw [q]; simp⟩⟩
theorem Un.refl : Un fs ex H H h h := Un.kept fun _ _ q => q
theorem Un.laid (k : ∀ b u, h.get? b = some u → h'.get? b = some u) (hp : h.objs.size ≤ a) (hn : H a = none) : Un fs ex H (upd H a o) h h' where
 keep := fun b u q _ _ _ => k b u q
 slot := fun b u q _ _ _ => ⟨u.slots, k b u q⟩
 free := fun b u q n _ => by rw [jaw (Nat.ne_of_lt (Nat.lt_of_lt_of_le (Heap.lt_size q) hp))]; exact n
 there := fun b u q _ => ⟨u, k b u q⟩
 tups := fun b xs q => by rw [jaw (jaF q hn)]; exact q
 frzs := fun b u xs q => by rw [jaw (jaF q hn)]; exact q
 tbls := fun b ps q => ⟨#[], by rw [jaw (jaF q hn), q]; simp⟩
theorem Un.write (mu : Mut (H x)) (he : e = x ∨ H e = some (.own x)) (k : ∀ b u, b ≠ e → h.get? b = some u → h'.get? b = some u) (heo : ∃ u, h'.get? e = some u) : Un fs ex H (upd H x o) h h' := by
 have hx : ∀ b, H b = none → b ≠ x := fun b n z => by subst z; rw [n] at mu; exact mu
 have hb : ∀ b, H b = none → b ≠ e := fun b n z => by
   subst z
   rcases he with r | r
   · exact hx b n r
   · rw [n] at r; cases r
 have hm : ∀ b u, H b = some u → ¬ Mut (some u) → b ≠ x := fun b u q nm z => by subst z; rw [q] at mu; exact nm mu
 refine ⟨fun b u q n _ _ => k b u (hb b n) q, fun b u q n _ _ => ⟨u.slots, k b u (hb b n) q⟩, fun b u q n _ => by rw [jaw (hx b n)]; exact n, fun b u q _ => ?_,
   fun b xs q => by rw [jaw (hm b _ q fun z => z)]; exact q, fun b u xs q => by rw [jaw (hm b _ q fun z => z)]; exact q, fun b ps q => ⟨#[], by rw [jaw (hm b _ q fun z => z), q]; simp⟩⟩
 by_cases hbe : b = e
 · subst hbe; exact heo
 · exact ⟨u, k b u hbe q⟩
end
def trk (h : Heap) (H : Hp) : List Addr := (List.range h.objs.size).filter fun a => (H a).isSome
def jme (h : Heap) (H : Hp) : Heap := PySem.W.hideAll h (trk h H)
theorem jkK (h : Heap) (H : Hp) : (jme h H).objs.size = h.objs.size := PySem.W.hideAll_size _ _
theorem jmH {h : Heap} {H : Hp} {b : Addr} {o : Obj} (e : h.get? b = some o) (n : H b = none) : (jme h H).get? b = some o :=
 PySem.W.hideAll_get _ e fun hm => by
   have q : (H b).isSome = true := (List.mem_filter.mp hm).2
   rw [n] at q; simp at q
theorem jn7 {h : Heap} {H : Hp} {b : Addr} {o : Obj} (e : (jme h H).get? b = some o) : h.get? b = some o ∧ H b = none := by
 have e' : h.get? b = some o := PySem.W.of_hideAll (trk h H) e
 refine ⟨e', ?_⟩
 cases q : H b with
 | none => rfl
 | some x =>
   have hm : b ∈ trk h H := List.mem_filter.mpr ⟨List.mem_range.mpr (Heap.lt_size e'), by simp [q]⟩
   have z : (jme h H).get? b = none := PySem.W.hideAll_none (trk h H) hm
   rw [z] at e; cases e
def jhv (g h : Heap) (L : Addr) : List (Addr × Obj) := (List.range h.objs.size).filterMap fun a => if a = L ∨ (g.get? a).isSome = true then none else (h.get? a).map fun o => (a, o)
theorem jf9 {g h : Heap} {L a : Addr} {o : Obj} (h1 : a ≠ L) (h2 : g.get? a = none) (h3 : h.get? a = some o) : (a, o) ∈ jhv g h L :=
 List.mem_filterMap.mpr ⟨a, List.mem_range.mpr (Heap.lt_size h3), by simp [h1, h2, h3]⟩
theorem jgi {g h : Heap} {L : Addr} {p : Addr × Obj} (hp : p ∈ jhv g h L) : p.1 ≠ L ∧ g.get? p.1 = none ∧ h.get? p.1 = some p.2 := by
 obtain ⟨b, _, e⟩ := List.mem_filterMap.mp hp
 split at e
 · cases e
 · rename_i hn
   cases q : h.get? b with
   | none => rw [q] at e; simp at e
   | some u =>
     rw [q] at e
     simp only [Option.map_some, Option.some.injEq] at e
     subst e
     refine ⟨fun z => hn (.inl z), ?_, q⟩
     show g.get? b = none
     cases r : g.get? b with
     | none => rfl
     | some v => exact (hn (.inr (by simp [r]))).elim
theorem jjP {g h : Heap} {L : Addr} : News g L h (jhv g h L) := fun p hp => let ⟨a, b, c⟩ := jgi hp; ⟨c, a, b⟩
end L2
namespace L2
open PySem PySem.Spec PyProof.Rows
structure Mod (K : PySem.W.Frag) (mg : Str → Option Value) (base : Heap) : Prop where
 kin : K.In base
 glob : base.Ns mainGlobals mg
 blt : ∃ mb, base.Ns builtinsNs mb ∧ ∀ x : Str, x ≠ "__name__" → mb x = bootBuiltins x
 nolimit : base.NoLimit
 seer : base.NoSeer
structure Cx where
 prog : Program
 w : World
 K : PySem.W.Frag
 mg : Str → Option Value
 base : Heap
 A : Around
 N : List Str
 s₀ : Shared
 H₀ : Hp
 env : Env
 outer : List Env
 stack : List Env
 ex : List Addr
 fn : Str → Bool
 calm : Bool
 pn : List (Addr × Obj)
 xe : Value → Shared → Prop
def frs (l : List Env) : List Addr := l.filterMap (·.frame)
abbrev Cx.fs (X : Cx) : List Addr := frs X.outer
def Vis (sc : Scope) (x : Str) : Prop := sc.names.lookup x = some .local ∨ sc.names.lookup x = some .cell ∨ sc.names.lookup x = some .free
def Loc (sc : Scope) (x : Str) : Prop := sc.names.lookup x = some .local ∨ sc.names.lookup x = some .cell
def Look (env : Env) (h : Heap) (m : Str → Option Value) (x : Str) (u : Value) : Prop :=
 (env.kindOf x = some .local ∧ m x = some u) ∨ ((env.kindOf x = some .cell ∨ env.kindOf x = some .free) ∧ ∃ c, env.cells.lookup x = some c ∧ h.IsCell c (some u))
structure Cx.Ok (X : Cx) : Prop where
 mod : Mod X.K X.mg X.base
 kind : X.env.scope.kind = .function
 glob : X.env.globals = mainGlobals
 blt : X.env.builtins = builtinsNs
 above : X.s₀.heap.objs.size ≤ X.env.locals
 inj : ∀ x y c, X.env.cells.lookup x = some c → X.env.cells.lookup y = some c → x = y
 has : ∀ x, (X.env.kindOf x = some .cell ∨ X.env.kindOf x = some .free) → ∃ c, X.env.cells.lookup x = some c
 cab : ∀ x c, X.fn x = true → X.env.cells.lookup x = some c → X.s₀.heap.objs.size ≤ c
 hd : X.calm = true → X.A.handled = none
 frames : X.A.frames = some X.stack
 stk : X.stack = X.outer ∨ (X.stack = X.env :: X.outer ∧ X.env.frame = some X.env.locals)
 exf : ∀ b ∈ X.ex, b ≠ X.env.locals ∧ ∀ x c, X.env.cells.lookup x = some c → c ≠ b
 bs : ∀ b o, X.base.get? b = some o → X.s₀.heap.get? b = some o ∧ X.H₀ b = none
 bsz : X.base.objs.size ≤ X.s₀.heap.objs.size
 noex : ∀ b o, X.base.get? b = some o → b ∉ X.ex
 exfs : ∀ b ∈ X.ex, b ∉ X.fs
 funs : X.s₀.heap.FunFrames X.base X.outer
 frf : ∀ b ∈ X.fs, X.H₀ b = none
structure Inv (X : Cx) (pins : List (Addr × Obj)) (σ : List (Option V)) (H : Hp) (s : Shared) : Prop where
 ok : X.Ok
 os : s.os = X.s₀.os
 bare : AllBare s.gens
 base : Un X.fs X.ex X.H₀ H X.s₀.heap s.heap
 loc : ∃ m, s.heap.Ns X.env.locals m ∧ ∀ (i : Nat) (x : Str) (v : V), X.N[i]? = some x → σ[i]? = some (some v) → Vis X.env.scope x → ∃ u, RelV v u ∧ Look X.env s.heap m x u
 cell : ∀ x c, X.env.cells.lookup x = some c → ∃ v, s.heap.IsCell c v
 free : H X.env.locals = none
 freeC : ∀ x c, X.env.cells.lookup x = some c → H c = none
 pin : ∀ p ∈ X.pn ++ pins, s.heap.get? p.1 = some p.2 ∧ H p.1 = none ∧ p.1 ≠ X.env.locals ∧ p.1 ∉ X.fs ∧ ∀ v, p.2.data ≠ .cell v
 hok : HOk X.prog X.w H s.heap
 len : σ.length = X.N.length
section
variable {X : Cx} {pins : List (Addr × Obj)} {σ : List (Option V)} {H H' : Hp} {s : Shared} {h' : Heap}
theorem Cx.Ok.nofr (ok : X.Ok) {b : Addr} {o : Obj} (e : X.base.get? b = some o) : b ∉ X.fs := fun hb => by
 have := (ok.funs.mem hb).1
 rw [e] at this; cases this
theorem Inv.bs (I : Inv X pins σ H s) : ∀ b o, X.base.get? b = some o → s.heap.get? b = some o ∧ H b = none := fun b o e =>
 ⟨I.base.keep b o (I.ok.bs b o e).1 (I.ok.bs b o e).2 (I.ok.nofr e) (I.ok.noex b o e), I.base.free b o (I.ok.bs b o e).1 (I.ok.bs b o e).2 (I.ok.noex b o e)⟩
theorem Inv.bk (I : Inv X pins σ H s) : ∀ b o, X.base.get? b = some o → s.heap.get? b = some o := fun b o e => (I.bs b o e).1
theorem Inv.mod (I : Inv X pins σ H s) : Mod X.K X.mg X.base := I.ok.mod
theorem Inv.kIn (I : Inv X pins σ H s) : X.K.In s.heap := I.ok.mod.kin.keeps I.bk
theorem Inv.nolimit (I : Inv X pins σ H s) : s.heap.NoLimit := I.ok.mod.nolimit.keeps I.bk
theorem Inv.lt (I : Inv X pins σ H s) : X.env.locals < s.heap.objs.size := let ⟨_, hn, _⟩ := I.loc; hn.lt
theorem Inv.sz (I : Inv X pins σ H s) : X.s₀.heap.objs.size ≤ s.heap.objs.size := Nat.le_trans I.ok.above (Nat.le_of_lt I.lt)
theorem Inv.nofs (I : Inv X pins σ H s) {a : Addr} (h : s.heap.objs.size ≤ a) : a ∉ X.fs := fun hb => by
 obtain ⟨_, o, ho, _⟩ := I.ok.funs.mem hb
 exact absurd (Nat.lt_of_lt_of_le (Heap.lt_size ho) (Nat.le_trans I.sz h)) (Nat.lt_irrefl _)
theorem Inv.cne (I : Inv X pins σ H s) : ∀ x c, X.env.cells.lookup x = some c → c ≠ X.env.locals := fun x c e z => by
 obtain ⟨v, o, ho, hd⟩ := I.cell x c e
 obtain ⟨m, ⟨o', es, ep, ho', hd', _⟩, _⟩ := I.loc
 rw [z, ho'] at ho; cases ho; rw [hd'] at hd; cases hd
theorem Inv.funs (I : Inv X pins σ H s) : s.heap.FunFrames X.base X.outer := by
 have all : ∀ (l : List Env), (∀ b ∈ frs l, b ∈ X.fs) → X.s₀.heap.FunFrames X.base l → s.heap.FunFrames X.base l := by
   intro l
   induction l with
   | nil => intro _ _; trivial
   | cons env r ih =>
     intro hs hl
     obtain ⟨hk, ⟨L, o, hf, hn, ho, hd⟩, hr⟩ := hl
     have hL : L ∈ X.fs := hs L (by unfold frs; rw [List.filterMap_cons, hf]; exact List.mem_cons_self)
     obtain ⟨sl, e⟩ := I.base.slot L o ho (I.ok.frf L hL) hL fun z => I.ok.exfs L z hL
     exact ⟨hk, ⟨L, _, hf, hn, e, hd⟩, ih (fun b hb => hs b (by unfold frs; rw [List.filterMap_cons, hf]; exact List.mem_cons_of_mem _ hb)) hr⟩
 exact all X.outer (fun _ hb => hb) I.ok.funs
theorem Inv.stack (I : Inv X pins σ H s) : s.heap.FunFrames X.base X.stack := by
 rcases I.ok.stk with e | ⟨e, hf⟩
 · rw [e]; exact I.funs
 · rw [e]
   obtain ⟨m, hn, _⟩ := I.loc
   refine .cons (by rw [I.ok.kind]; decide) hf hn ?_ I.funs
   exact Heap.get?_none_of_le (Nat.le_trans I.ok.bsz I.ok.above)
theorem Inv.stkSub (I : Inv X pins σ H s) : ∀ b ∈ frs X.stack, b ∈ X.env.locals :: X.fs := fun b hb => by
 rcases I.ok.stk with e | ⟨e, hf⟩
 · rw [e] at hb; exact List.mem_cons_of_mem _ hb
 · rw [e] at hb
   unfold frs at hb
   rw [List.filterMap_cons, hf] at hb
   exact hb
theorem Inv.stkFree (I : Inv X pins σ H s) : ∀ b ∈ frs X.stack, H b = none := fun b hb => by
 rcases List.mem_cons.mp (I.stkSub b hb) with e | hb
 · rw [e]; exact I.free
 · obtain ⟨_, o, ho, _⟩ := I.ok.funs.mem hb
   exact I.base.free b o ho (I.ok.frf b hb) fun z => I.ok.exfs b z hb
theorem Inv.step {g' : Array GenState} {t' : Nat} {d' : Drawn} {ch : List Addr} (I : Inv X pins σ H s)
   (hch : ∀ b ∈ ch, (b ∈ X.ex ∨ X.s₀.heap.objs.size ≤ b) ∧ b ≠ X.env.locals ∧ (∀ x c, X.env.cells.lookup x = some c → c ≠ b) ∧ ∀ p ∈ X.pn ++ pins, p.1 ≠ b)
   (keep : ∀ b o, b ≠ X.env.locals → b ∉ X.fs → b ∉ ch → s.heap.get? b = some o → H b = none → h'.get? b = some o)
   (slot : ∀ b o, b ≠ X.env.locals → b ∈ X.fs → b ∉ ch → s.heap.get? b = some o → H b = none → ∃ sl, h'.get? b = some { o with slots := sl }) (free : ∀ b o, b ∉ ch → s.heap.get? b = some o → H b = none → H' b = none)
   (there : ∀ b o, b ∉ ch → s.heap.get? b = some o → ∃ o', h'.get? b = some o')
   (tups : ∀ b xs, H b = some (.tup xs) → H' b = some (.tup xs)) (frzs : ∀ b o u, H b = some (.frz o u) → H' b = some (.frz o u)) (tbls : ∀ b ps, H b = some (.tbl ps) → ∃ more, H' b = some (.tbl (ps ++ more)))
   (ns : ∀ m, s.heap.Ns X.env.locals m → h'.Ns X.env.locals m) (hok : HOk X.prog X.w H' h') (hg : AllBare g') :
   Inv X pins σ H' { s with heap := h', gens := g', drawn := d', toks := t' } := by
 have neL : ∀ b o, X.s₀.heap.get? b = some o → b ≠ X.env.locals := fun b o e => Nat.ne_of_lt (Nat.lt_of_lt_of_le (Heap.lt_size e) I.ok.above)
 have neC : ∀ b o, X.s₀.heap.get? b = some o → b ∉ X.ex → b ∉ ch := fun b o e hx hb => by
   rcases (hch b hb).1 with z | z
   · exact hx z
   · exact absurd (Nat.lt_of_lt_of_le (Heap.lt_size e) z) (Nat.lt_irrefl _)
 have cellK : ∀ x c, X.env.cells.lookup x = some c → ∀ v, s.heap.IsCell c v → h'.IsCell c v := fun x c e v ⟨o, ho, hd⟩ => by
   have nch : c ∉ ch := fun z => (hch c z).2.2.1 x c e rfl
   by_cases hc : c ∈ X.fs
   · obtain ⟨sl, q⟩ := slot c o (I.cne x c e) hc nch ho (I.freeC x c e)
     exact ⟨_, q, hd⟩
   · exact ⟨o, keep c o (I.cne x c e) hc nch ho (I.freeC x c e), hd⟩
 refine ⟨I.ok, I.os, hg, ⟨fun b o e n hb hx => ?_, fun b o e n hb hx => ?_, fun b o e n hx => ?_, fun b o e hx => ?_, fun b xs e => tups b xs (I.base.tups b xs e), fun b o xs e => frzs b o xs (I.base.frzs b o xs e), fun b ps e => ?_⟩, ?_, fun x c e => ?_, ?_, fun x c e => ?_, fun p hp => ?_, hok, I.len⟩
 · exact keep b o (neL b o e) hb (neC b o e hx) (I.base.keep b o e n hb hx) (I.base.free b o e n hx)
 · obtain ⟨sl, e1⟩ := I.base.slot b o e n hb hx
   obtain ⟨sl', e2⟩ := slot b _ (neL b o e) hb (neC b o e hx) e1 (I.base.free b o e n hx)
   exact ⟨sl', e2⟩
 · obtain ⟨o', e1⟩ := I.base.there b o e hx
   exact free b o' (neC b o e hx) e1 (I.base.free b o e n hx)
 · obtain ⟨o', e1⟩ := I.base.there b o e hx
   exact there b o' (neC b o e hx) e1
 · obtain ⟨m1, e1⟩ := I.base.tbls b ps e
   obtain ⟨m2, e2⟩ := tbls b _ e1
   exact ⟨m1 ++ m2, by rw [e2, Array.append_assoc]⟩
 · obtain ⟨m, hn, hl⟩ := I.loc
   refine ⟨m, ns m hn, fun i x v e1 e2 e3 => ?_⟩
   obtain ⟨u, r, l⟩ := hl i x v e1 e2 e3
   refine ⟨u, r, ?_⟩
   rcases l with l | ⟨k, c, e, z⟩
   · exact .inl l
   · exact .inr ⟨k, c, e, cellK x c e _ z⟩
 · obtain ⟨v, z⟩ := I.cell x c e
   exact ⟨v, cellK x c e v z⟩
 · obtain ⟨m, ⟨o, _, _, ho, _⟩, _⟩ := I.loc
   exact free _ o (fun z => (hch _ z).2.1 rfl) ho I.free
 · obtain ⟨v, o, ho, hd⟩ := I.cell x c e
   exact free c o (fun z => (hch c z).2.2.1 x c e rfl) ho (I.freeC x c e)
 · obtain ⟨e, n, ne, nf, d⟩ := I.pin p hp
   have nch : p.1 ∉ ch := fun z => (hch p.1 z).2.2.2 p hp rfl
   exact ⟨keep p.1 p.2 ne nf nch e n, free p.1 p.2 nch e n, ne, nf, d⟩
theorem Inv.un {t' : Nat} (I : Inv X pins σ H s) (u : Un X.fs [] H H' s.heap h') (hok : HOk X.prog X.w H' h') : Inv X pins σ H' { s with heap := h', toks := t' } := by
 obtain ⟨m, ⟨o, es, ep, ho, r⟩, _⟩ := id I.loc
 obtain ⟨sl, hL⟩ := u.any ho I.free (by simp)
 exact I.step (g' := s.gens) (d' := s.drawn) (ch := []) (fun _ z => nomatch z) (fun b o _ hb _ e n => u.keep b o e n hb (by simp)) (fun b o _ hb _ e n => u.slot b o e n hb (by simp)) (fun b o _ e n => u.free b o e n (by simp)) (fun b o _ e => u.there b o e (by simp)) u.tups u.frzs u.tbls (fun m' hm => by
   obtain ⟨o', es', ep', ho', r'⟩ := hm
   rw [ho] at ho'; cases ho'
   exact ⟨_, es', ep', hL, r'⟩) hok I.bare
theorem Inv.call {g' : Array GenState} {t' : Nat} {d' : Drawn} {ch : List Addr} (I : Inv X pins σ H s) (u : Un (frs X.stack) ch H H' s.heap h') (hok : HOk X.prog X.w H' h') (hg : AllBare g')
   (hch : ∀ b ∈ ch, (b ∈ X.ex ∨ X.s₀.heap.objs.size ≤ b) ∧ b ≠ X.env.locals ∧ (∀ x c, X.env.cells.lookup x = some c → c ≠ b) ∧ ∀ p ∈ X.pn ++ pins, p.1 ≠ b) :
   Inv X pins σ H' { s with heap := h', gens := g', drawn := d', toks := t' } := by
 obtain ⟨m, ⟨o, es, ep, ho, r⟩, _⟩ := id I.loc
 obtain ⟨sl, hL⟩ := u.any ho I.free fun z => (hch _ z).2.1 rfl
 exact I.step (ch := ch) hch (fun b o hL hb hc e n => u.keep b o e n (fun z => (List.mem_cons.mp (I.stkSub b z)).elim hL hb) hc) (fun b o _ _ hc e n => u.any e n hc) (fun b o hc e n => u.free b o e n hc) (fun b o hc e => u.there b o e hc) u.tups u.frzs u.tbls (fun m' hm => by
   obtain ⟨o', es', ep', ho', r'⟩ := hm
   rw [ho] at ho'; cases ho'
   exact ⟨_, es', ep', hL, r'⟩) hok hg
theorem Inv.turned {t' : Nat} {it : Addr} (I : Inv X pins σ H s) (k : ∀ b o, b ≠ it → s.heap.get? b = some o → h'.get? b = some o) (hn : H it = none) (hL : it ≠ X.env.locals)
   (h1 : it ∈ X.ex ∨ X.s₀.heap.objs.size ≤ it) (h2 : ∀ x c, X.env.cells.lookup x = some c → c ≠ it) (h3 : ∀ p ∈ X.pn ++ pins, p.1 ≠ it) : Inv X pins σ H { s with heap := h', toks := t' } := by
 have nit : ∀ b u, H b = some u → b ≠ it := fun b u e z => by rw [z, hn] at e; cases e
 refine I.step (g' := s.gens) (d' := s.drawn) (ch := [it]) (fun b hb => ?_) (fun b o _ _ hc e _ => k b o (fun z => hc (by simp [z])) e) (fun b o _ _ hc e _ => ⟨o.slots, k b o (fun z => hc (by simp [z])) e⟩) (fun _ _ _ _ n => n)
   (fun b o hc e => ⟨o, k b o (fun z => hc (by simp [z])) e⟩) (fun _ _ e => e) (fun _ _ _ e => e) (fun b ps e => ⟨#[], by rw [e]; simp⟩) (fun m hm => ?_) (fun b u e => ?_) I.bare
 · have e : b = it := by simpa using hb
   subst e
   exact ⟨h1, hL, h2, h3⟩
 · obtain ⟨o, es, ep, ho, r⟩ := hm
   exact ⟨o, es, ep, k _ o (Ne.symm hL) ho, r⟩
 · refine (I.hok b u e).stay (fun c v hc q => k c v ?_ q) (fun _ q => q) fun _ _ q => q
   rcases hc with z | z
   · rw [z]; exact nit b u e
   · exact nit c _ z
theorem Inv.tok (I : Inv X pins σ H s) (t : Nat) : Inv X pins σ H { s with toks := t } := I.un (h' := s.heap) (t' := t) Un.refl I.hok
theorem Inv.kept {t' : Nat} (I : Inv X pins σ H s) (k : ∀ b u, s.heap.get? b = some u → h'.get? b = some u) : Inv X pins σ H { s with heap := h', toks := t' } := I.un (Un.kept k) (I.hok.kept k)
theorem Inv.laid {a : Addr} {o : HO} {t' : Nat} (I : Inv X pins σ H s) (k : ∀ b u, s.heap.get? b = some u → h'.get? b = some u) (hp : s.heap.objs.size ≤ a) (new : jbW X.prog X.w (upd H a o) h' a o) :
   Inv X pins σ (upd H a o) { s with heap := h', toks := t' } := I.un (Un.laid k hp (I.hok.fresh hp)) (I.hok.laid k hp new)
theorem Inv.write {x e : Addr} {o : HO} {t' : Nat} (I : Inv X pins σ H s) (mu : Mut (H x)) (he : e = x ∨ H e = some (.own x)) (k : ∀ b u, b ≠ e → s.heap.get? b = some u → h'.get? b = some u) (heo : ∃ u, h'.get? e = some u)
   (new : jbW X.prog X.w (upd H x o) h' x o) : Inv X pins σ (upd H x o) { s with heap := h', toks := t' } := I.un (Un.write mu he k heo) (I.hok.write mu he k heo new)
theorem Inv.pins_of {pins' : List (Addr × Obj)} (I : Inv X pins σ H s) (h : ∀ p ∈ pins', s.heap.get? p.1 = some p.2 ∧ H p.1 = none ∧ p.1 ≠ X.env.locals ∧ p.1 ∉ X.fs ∧ ∀ v, p.2.data ≠ .cell v) : Inv X pins' σ H s :=
 ⟨I.ok, I.os, I.bare, I.base, I.loc, I.cell, I.free, I.freeC, fun p hp => (List.mem_append.mp hp).elim (fun z => I.pin p (List.mem_append_left _ z)) (h p), I.hok, I.len⟩
theorem jjv {N : List Str} (hN : N.Nodup) {i j : Nat} {x : Str} (a : N[i]? = some x) (b : N[j]? = some x) : i = j := by
 obtain ⟨h1, e1⟩ := List.getElem?_eq_some_iff.mp a
 obtain ⟨h2, e2⟩ := List.getElem?_eq_some_iff.mp b
 exact (List.getElem_inj hN).mp (e1.trans e2.symm)
theorem jkQ {M : Model} {A : Around} {E : Value → Shared → Prop} {i : Nat} {x : Str} {v : V} {u : Value} {Q : Unit → Shared → Prop} (I : Inv X pins σ H s) (hN : X.N.Nodup) (hi : X.N[i]? = some x) (hx : Loc X.env.scope x) (r : RelV v u)
   (h : ∀ s', Inv X pins (σ.set i (some v)) H s' → (∃ a, Heap.SameBut a s.heap s'.heap ∧ (a = X.env.locals ∨ X.env.cells.lookup x = some a)) → Q () s') (hf : X.fn x = true ∨ X.env.scope.names.lookup x = some .local := by first | exact .inl rfl | exact .inr rfl | assumption) : wpAny M A (storeName X.env x u) Q E s := by
 obtain ⟨m, hn, hl⟩ := id I.loc
 have hcls : (X.env.scope.kind == .class || (X.env.scope.kind == .module && X.env.locals != X.env.globals)) = false := by rw [I.ok.kind]; rfl
 have hiσ : i < σ.length := by rw [I.len]; exact (List.getElem?_eq_some_iff.mp hi).1
 have cne := I.cne
 have tracked : ∀ {a : Addr} {h' : Heap}, (∃ o, s.heap.get? a = some o ∧ H a = none) → Heap.SameBut a s.heap h' → HOk X.prog X.w H h' := fun {a h'} ha hs b ob e => by
   obtain ⟨_, _, hfree⟩ := ha
   refine (I.hok b ob e).stay (fun c w' hc q => (hs.2 c ?_).trans q) (fun _ q => q) fun _ _ q => q
   rintro rfl
   rcases hc with rfl | hc
   · rw [hfree] at e; cases e
   · rw [hfree] at hc; cases hc
 rcases hx with hk | hk
 · refine wpAny_storeName_local hk hn (fun h' hn' hs => ?_) hcls
   obtain ⟨oL, _, _, hoL, _⟩ := id hn
   refine h _ ⟨I.ok, I.os, I.bare, ⟨fun b o e n hb hx => ?_, fun b o e n hb hx => ?_, I.base.free, fun b o e hx => ?_, I.base.tups, I.base.frzs, I.base.tbls⟩, ⟨_, hn', fun j y v' e1 e2 e3 => ?_⟩, fun y c e => ?_, I.free, I.freeC, fun p hp => ?_, tracked ⟨oL, hoL, I.free⟩ hs, by simpa using I.len⟩ ⟨_, hs, .inl rfl⟩
   · exact (hs.2 b (Nat.ne_of_lt (Nat.lt_of_lt_of_le (Heap.lt_size e) I.ok.above))).trans (I.base.keep b o e n hb hx)
   · obtain ⟨sl, e1⟩ := I.base.slot b o e n hb hx
     exact ⟨sl, (hs.2 b (Nat.ne_of_lt (Nat.lt_of_lt_of_le (Heap.lt_size e) I.ok.above))).trans e1⟩
   · obtain ⟨o', e1⟩ := I.base.there b o e hx
     exact ⟨o', (hs.2 b (Nat.ne_of_lt (Nat.lt_of_lt_of_le (Heap.lt_size e) I.ok.above))).trans e1⟩
   · by_cases hj : j = i
     · subst hj
       rw [hi] at e1; cases e1
       rw [List.getElem?_set_self hiσ] at e2
       cases e2
       exact ⟨u, r, .inl ⟨hk, by simp⟩⟩
     · rw [List.getElem?_set_ne (Ne.symm hj)] at e2
       obtain ⟨u', r', q⟩ := hl j y v' e1 e2 e3
       refine ⟨u', r', ?_⟩
       rcases q with ⟨k, e⟩ | ⟨k, c, e, z⟩
       · refine .inl ⟨k, ?_⟩
         have : y ≠ x := fun e => hj (jjv hN e1 (e ▸ hi))
         simp [this, e]
       · exact .inr ⟨k, c, e, z.sameBut hs (cne y c e)⟩
   · obtain ⟨w', z⟩ := I.cell y c e
     exact ⟨w', z.sameBut hs (cne y c e)⟩
   · obtain ⟨e, n, ne, nf, d⟩ := I.pin p hp
     exact ⟨(hs.2 p.1 ne).trans e, n, ne, nf, d⟩
 · have hfn : X.fn x = true := by
     rcases hf with z | z
     · exact z
     · rw [z] at hk; cases hk
   obtain ⟨c, hc⟩ := I.ok.has x (.inl hk)
   obtain ⟨w', z⟩ := I.cell x c hc
   refine wpAny_storeName_cell I.ok.kind hk hc z (fun h' hc' hs => ?_)
   obtain ⟨oc, hoc, hocd⟩ := id z
   refine h { s with heap := h' } ⟨I.ok, I.os, I.bare, ⟨fun b o e n hb hx => ?_, fun b o e n hb hx => ?_, I.base.free, fun b o e hx => ?_, I.base.tups, I.base.frzs, I.base.tbls⟩, ⟨m, hn.sameBut hs (Ne.symm (cne x c hc)), fun j y v' e1 e2 e3 => ?_⟩, fun y c' e => ?_, I.free, I.freeC, fun p hp => ?_, tracked ⟨oc, hoc, I.freeC x c hc⟩ hs, by simpa using I.len⟩ ⟨c, hs, .inr hc⟩
   · exact (hs.2 b (Nat.ne_of_lt (Nat.lt_of_lt_of_le (Heap.lt_size e) (I.ok.cab x c hfn hc)))).trans (I.base.keep b o e n hb hx)
   · obtain ⟨sl, e1⟩ := I.base.slot b o e n hb hx
     exact ⟨sl, (hs.2 b (Nat.ne_of_lt (Nat.lt_of_lt_of_le (Heap.lt_size e) (I.ok.cab x c hfn hc)))).trans e1⟩
   · obtain ⟨o', e1⟩ := I.base.there b o e hx
     exact ⟨o', (hs.2 b (Nat.ne_of_lt (Nat.lt_of_lt_of_le (Heap.lt_size e) (I.ok.cab x c hfn hc)))).trans e1⟩
   · by_cases hj : j = i
     · subst hj
       rw [hi] at e1; cases e1
       rw [List.getElem?_set_self hiσ] at e2
       cases e2
       exact ⟨u, r, .inr ⟨.inl hk, c, hc, hc'⟩⟩
     · rw [List.getElem?_set_ne (Ne.symm hj)] at e2
       obtain ⟨u', r', q⟩ := hl j y v' e1 e2 e3
       refine ⟨u', r', ?_⟩
       rcases q with q | ⟨k, c', e, z'⟩
       · exact .inl q
       · refine .inr ⟨k, c', e, z'.sameBut hs ?_⟩
         rintro rfl
         exact hj (jjv hN e1 (I.ok.inj _ _ _ e hc ▸ hi))
   · by_cases hcc : c' = c
     · subst hcc; exact ⟨_, hc'⟩
     · obtain ⟨w2, z2⟩ := I.cell y c' e
       exact ⟨w2, z2.sameBut hs hcc⟩
   · obtain ⟨e, n, ne, nf, d⟩ := I.pin p hp
     refine ⟨(hs.2 p.1 ?_).trans e, n, ne, nf, d⟩
     intro q
     rw [q, hoc] at e
     have q' : oc = p.2 := Option.some.inj e
     exact d w' (by rw [← q']; exact hocd)
theorem jhH {M : Model} {A : Around} {E : Value → Shared → Prop} {i : Nat} {x : Str} {v : V} {u : Value} {Q : Unit → Shared → Prop} (I : Inv X pins σ H s) (hN : X.N.Nodup) (hi : X.N[i]? = some x) (hx : Loc X.env.scope x) (r : RelV v u)
   (h : ∀ s', Inv X pins (σ.set i (some v)) H s' → Q () s') (hf : X.fn x = true ∨ X.env.scope.names.lookup x = some .local := by first | exact .inl rfl | exact .inr rfl | assumption) : wpAny M A (storeName X.env x u) Q E s :=
 jkQ I hN hi hx r (fun s' I' _ => h s' I') hf
theorem Inv.call' {s' : Shared} {ch : List Addr} (I : Inv X pins σ H s) (ho : s'.os = s.os) (u : Un (frs X.stack) ch H H' s.heap s'.heap) (hok : HOk X.prog X.w H' s'.heap) (hg : AllBare s'.gens)
   (hch : ∀ b ∈ ch, (b ∈ X.ex ∨ X.s₀.heap.objs.size ≤ b) ∧ b ≠ X.env.locals ∧ (∀ x c, X.env.cells.lookup x = some c → c ≠ b) ∧ ∀ p ∈ X.pn ++ pins, p.1 ≠ b) : Inv X pins σ H' s' := by
 obtain ⟨h', g', d', t', o'⟩ := s'
 have e : o' = s.os := ho
 subst e
 exact I.call (g' := g') (t' := t') (d' := d') u hok hg hch
end
abbrev XK := Value → Option Addr → Hp → Prop
abbrev St := List (Option V)
abbrev VK := V → Hp → Prop
abbrev TE := St → Hp → VK → Prop
abbrev TT := St → Hp → (Bool → Hp → Prop) → Prop
abbrev TA := St → Hp → (List V → Hp → Prop) → Prop
structure Ends where
 nx : St → Hp → Prop
 rt : VK
 bk : St → Hp → Prop := fun _ _ => False
 ct : St → Hp → Prop := fun _ _ => False
abbrev TS := Ends → St → Hp → Prop
def EP (X : Cx) (pins : List (Addr × Obj)) (σ : St) (Q : VK) (u : Value) (s' : Shared) : Prop := ∃ v H', Inv X pins σ H' s' ∧ RelV v u ∧ Q v H'
def TP (X : Cx) (pins : List (Addr × Obj)) (σ : St) (Q : Bool → Hp → Prop) (b : Bool) (s' : Shared) : Prop := ∃ H', Inv X pins σ H' s' ∧ Q b H'
def AP (X : Cx) (pins : List (Addr × Obj)) (σ : St) (Q : List V → Hp → Prop) (us : List Value) (s' : Shared) : Prop := ∃ vs H', Inv X pins σ H' s' ∧ Vals vs us ∧ Q vs H'
def SP (X : Cx) (pins : List (Addr × Obj)) (D : Ends) (f : Flow) (s' : Shared) : Prop :=
 match f with
 | .next => ∃ σ' H', Inv X pins σ' H' s' ∧ D.nx σ' H'
 | .brk => ∃ σ' H', Inv X pins σ' H' s' ∧ D.bk σ' H'
 | .cont => ∃ σ' H', Inv X pins σ' H' s' ∧ D.ct σ' H'
 | .ret u => ∃ v σ' H', Inv X pins σ' H' s' ∧ RelV v u ∧ D.rt v H'
def PE (X : Cx) (e : Expr) (t : TE) : Prop :=
 ∀ (pins : List (Addr × Obj)) (s : Shared) (σ : St) (H : Hp) (Q : VK), Inv X pins σ H s → t σ H Q → wpAny (model X.prog X.w) X.A (eval e X.env) (EP X pins σ Q) X.xe s
def PT (X : Cx) (e : Expr) (t : TT) : Prop :=
 ∀ (pins : List (Addr × Obj)) (s : Shared) (σ : St) (H : Hp) (Q : Bool → Hp → Prop), Inv X pins σ H s → t σ H Q → wpAny (model X.prog X.w) X.A (isTrue e X.env (eval e X.env)) (TP X pins σ Q) X.xe s
def PW (X : Cx) (e : Expr) (t : TT) : Prop :=
 ∀ (whole : Sem Value) (pins : List (Addr × Obj)) (s : Shared) (σ : St) (H : Hp) (Q : Bool → Hp → Prop), Inv X pins σ H s → t σ H Q → wpAny (model X.prog X.w) X.A (isTrue e X.env whole) (TP X pins σ Q) X.xe s
theorem PW.pt {X : Cx} {e : Expr} {t : TT} (h : PW X e t) : PT X e t := h _
def PA (X : Cx) (es : List Expr) (t : TA) : Prop :=
 ∀ (pos : Pos) (pins : List (Addr × Obj)) (s : Shared) (σ : St) (H : Hp) (Q : List V → Hp → Prop), Inv X pins σ H s → t σ H Q → wpAny (model X.prog X.w) X.A (spliced (backTo pos (starEach es X.env))) (AP X pins σ Q) X.xe s
def PS (X : Cx) (st : Stmt) (t : TS) : Prop :=
 ∀ (pins : List (Addr × Obj)) (s : Shared) (σ : St) (H : Hp) (D : Ends), Inv X pins σ H s → t D σ H → wpAny (model X.prog X.w) X.A (exec st X.env) (SP X pins D) X.xe s
def PSs (X : Cx) (st : List Stmt) (t : TS) : Prop :=
 ∀ (pins : List (Addr × Obj)) (s : Shared) (σ : St) (H : Hp) (D : Ends), Inv X pins σ H s → t D σ H → wpAny (model X.prog X.w) X.A (execs st X.env) (SP X pins D) X.xe s
theorem thn {α : Type} {t : Sem α} {Q Q' : α → Shared → Prop} {M : Model} {A : Around} {E : Value → Shared → Prop} {s : Shared} (h : wpAny M A t Q E s) (hQ : ∀ a s, Q a s → Q' a s) : wpAny M A t Q' E s := wpAny_mono h hQ fun _ _ x => x
end L2
namespace L2
open PySem PySem.Spec PyProof.Rows
section
variable {X : Cx}
def jqd (i : Nat) : TE := fun σ H Q => ∃ v, σ[i]? = some (some v) ∧ Q v H
def tC (v : V) : TE := fun _ H Q => Q v H
theorem jnJ {i : Nat} {x : Str} {pos : Pos} (hN : X.N[i]? = some x) (hv : Vis X.env.scope x) (hd : (x == ("__debug__" : Str)) = false := by decide) (hcd : (x == ("__classdict__" : Str)) = false := by decide) : PE X (.Name x pos) (jqd i) := by
  intro pins s σ H Q I h
  obtain ⟨v, e, h⟩ := h
  obtain ⟨m, hn, hl⟩ := I.loc
  obtain ⟨u, r, l⟩ := hl i x v hN e hv
  have fin : EP X pins σ Q u s := ⟨v, H, I, r, h⟩
  rcases l with ⟨hk, hm⟩ | ⟨hk, c, hc, hcell⟩
  · exact wpAny_Name (wpAny_loadName_local I.ok.kind hk hn hm fin) hd
  · rcases hk with hk | hk
    · exact wpAny_Name (wpAny_loadName_cell I.ok.kind hk hc hcell fin) hd
    · exact wpAny_Name (wpAny_loadName_free I.ok.kind hk hc hcell fin hcd) hd
theorem jag {i j pos} : PE X (.Constant (.int i) j pos) (tC (.int i)) := fun _ _ _ H _ I h => wpAny_Constant_int ⟨.int i, H, I.tok _, ⟨_, rfl⟩, h⟩
theorem jmZ {b j pos} : PE X (.Constant (.bool b) j pos) (tC (.bl b)) := fun _ _ _ H _ I h => Constant_bool ⟨.bl b, H, I, rfl, h⟩
theorem jnD {j pos} : PE X (.Constant .none j pos) (tC .non) := fun _ _ _ H _ I h => Constant_none ⟨.non, H, I, rfl, h⟩
theorem jpf {x j pos} : PE X (.Constant (.str x) j pos) (tC (.str x)) := fun _ _ _ H _ I h => Calls.Constant_str ⟨.str x, H, I.tok _, ⟨_, rfl⟩, h⟩
def Gl (X : Cx) (x : Str) : Prop := X.env.kindOf x = some .globalImplicit
theorem jfO {E : Value → Shared → Prop} {pins : List (Addr × Obj)} {s : Shared} {σ : St} {H : Hp} {x : Str} {u : Value} {pos : Pos} {Q : Value → Shared → Prop} (I : Inv X pins σ H s) (hg : Gl X x) (hm : X.mg x = some u) (h : Q u s)
   (hd : (x == ("__debug__" : Str)) = false := by decide) : wpAny (model X.prog X.w) X.A (eval (.Name x pos) X.env) Q E s :=
 Calls.Name_function_global I.ok.kind hg (Calls.loadGlobal_global (by rw [I.ok.glob]; exact I.mod.glob.keeps I.bk) hm h) hd
theorem jdL {E : Value → Shared → Prop} {pins : List (Addr × Obj)} {s : Shared} {σ : St} {H : Hp} {x : Str} {u : Value} {pos : Pos} {Q : Value → Shared → Prop} (I : Inv X pins σ H s) (hg : Gl X x) (hm : X.mg x = none) (hv : bootBuiltins x = some u) (h : Q u s)
   (hn : x ≠ "__name__" := by decide) (hd : (x == ("__debug__" : Str)) = false := by decide) : wpAny (model X.prog X.w) X.A (eval (.Name x pos) X.env) Q E s := by
 obtain ⟨mb, h1, h2⟩ := I.mod.blt
 exact Calls.Name_function_global I.ok.kind hg (Calls.loadGlobal_builtin (by rw [I.ok.glob]; exact I.mod.glob.keeps I.bk) hm (by rw [I.ok.blt]; exact h1.keeps I.bk) ((h2 x hn).trans hv) h) hd
theorem jc0 {x : Str} {v : V} {u : Value} {pos : Pos} (hg : Gl X x) (hm : X.mg x = some u) (r : RelV v u) (hd : (x == ("__debug__" : Str)) = false := by decide) : PE X (.Name x pos) (tC v) :=
  fun _ _ _ H _ I h => jfO I hg hm ⟨v, H, I, r, h⟩ hd
theorem jnU {x : Str} {v : V} {u : Value} {pos : Pos} (hg : Gl X x) (hm : X.mg x = none) (hv : bootBuiltins x = some u) (r : RelV v u) (hn : x ≠ "__name__" := by decide) (hd : (x == ("__debug__" : Str)) = false := by decide) : PE X (.Name x pos) (tC v) :=
  fun _ _ _ H _ I h => jdL I hg hm hv ⟨v, H, I, r, h⟩ hn hd
variable {a b : Expr} {ta tb : TE} {pos : Pos}
def tB (t : TE) : TT := fun σ H Q => t σ H fun x H1 => ∃ c, x = .bl c ∧ Q c H1
theorem jeI {e : Expr} {t : TE} (h : PE X e t) (he : ∀ whole, isTrue e X.env whole = (do let v ← whole; standAt e.pos; holding [v] (truthy v)) := by intro _; rfl) : PT X e (tB t) := by
  intro pins s σ H Q I hw
  refine isTrue_plain (thn (h pins s σ H _ I hw) fun v s1 ⟨x, H1, I1, r1, q1⟩ => ?_) (he _)
  obtain ⟨d, rfl, q⟩ := q1
  cases r1
  exact wpAny_truthy_bool ⟨H1, I1, q⟩
variable {tA tB' : TT} {rest : List Expr}
def jq5 (t u : TT) : TT := fun σ H Q => t σ H fun c H1 => if c = true then u σ H1 Q else Q false H1
def tOr (t u : TT) : TT := fun σ H Q => t σ H fun c H1 => if c = true then Q true H1 else u σ H1 Q
def jq3 (t : TT) : TT := fun σ H Q => t σ H fun c H1 => Q (!c) H1
theorem jop (ha : PT X a tA) : PW X (.BoolOp .And [a] pos) tA := by
 intro wh pins s σ H Q I h
 refine isTrue_and (thn (ha pins s σ H Q I h) fun c s1 e => ?_)
 cases c with
 | true => exact isTrue_and_nil e
 | false => exact e
theorem jds (ha : PT X a tA) : PW X (.BoolOp .Or [a] pos) tA := by
 intro wh pins s σ H Q I h
 refine isTrue_or (thn (ha pins s σ H Q I h) fun c s1 e => ?_)
 cases c with
 | false => exact isTrue_or_nil e
 | true => exact e
theorem jpw (ha : PT X a tA) (hb : PW X (.BoolOp .And (b :: rest) pos) tB') : PW X (.BoolOp .And (a :: b :: rest) pos) (jq5 tA tB') := by
 intro wh pins s σ H Q I h
 refine isTrue_and (thn (ha pins s σ H _ I h) fun c s1 ⟨H1, I1, q1⟩ => ?_)
 cases c with
 | true => exact hb wh pins s1 σ H1 Q I1 q1
 | false => exact ⟨H1, I1, q1⟩
theorem jfb (ha : PT X a tA) (hb : PW X (.BoolOp .Or (b :: rest) pos) tB') : PW X (.BoolOp .Or (a :: b :: rest) pos) (tOr tA tB') := by
 intro wh pins s σ H Q I h
 refine isTrue_or (thn (ha pins s σ H _ I h) fun c s1 ⟨H1, I1, q1⟩ => ?_)
 cases c with
 | true => exact ⟨H1, I1, q1⟩
 | false => exact hb wh pins s1 σ H1 Q I1 q1
theorem jk9 (ha : PT X a tA) : PT X (.UnaryOp .Not a pos) (jq3 tA) := by
 intro pins s σ H Q I h
 exact isTrue_not (ha pins s σ H (fun c H1 => Q (!c) H1) I h)
def tIf (t : TT) (ta tb : TE) : TE := fun σ H Q => t σ H fun c H1 => if c = true then ta σ H1 Q else tb σ H1 Q
theorem jmj {c : Expr} (hc : PT X c tA) (ha : PE X a ta) (hb : PE X b tb) : PE X (.IfExp c a b pos) (tIf tA ta tb) := by
 intro pins s σ H Q I h
 refine wpAny_IfExp (thn (hc pins s σ H _ I h) fun d s1 ⟨H1, I1, q1⟩ => ?_)
 cases d with
 | true => exact ha pins s1 σ H1 Q I1 q1
 | false => exact hb pins s1 σ H1 Q I1 q1
end
end L2
namespace L2
open PySem PySem.Spec PyProof.Rows
def SqL (K : PySem.W.Frag) (H : Hp) (a : Addr) (xs : List V) : Prop :=
 Rd H a (.lst xs) ∨
   ∃ (o : Obj) (its : Array Value) (n : Nat), K.lookup a = some o ∧ o.cls = .type "list" ∧ o.dict = none ∧ o.data = .seq its n ∧ its.size ≤ sizeLine ∧ Vals xs its.toList
def SqT (K : PySem.W.Frag) (H : Hp) (a : Addr) (xs : List V) : Prop :=
 Rd H a (.tup xs) ∨
   ∃ (o : Obj) (its : Array Value) (n : Nat), K.lookup a = some o ∧ o.cls = .type "tuple" ∧ o.data = .seq its n ∧ its.size ≤ sizeLine ∧ Vals xs its.toList
def jrs : Value → Option V
 | .none => some .non
 | .bool b => some (.bl b)
 | .int i _ => some (.int i)
 | .str x _ => some (.str x)
 | .bytes b _ => some (.byt b)
 | .float b _ => some (.flt b)
 | .ref a => some (.ref a)
 | .type n => some (.ty n)
 | _ => none
theorem RelV.abs {x : V} {u : Value} (r : RelV x u) : jrs u = some x := by
 cases x with
 | non => cases r; rfl
 | bl _ => cases r; rfl
 | int _ => obtain ⟨t, rfl⟩ := r; rfl
 | str _ => obtain ⟨t, rfl⟩ := r; rfl
 | byt _ => obtain ⟨t, rfl⟩ := r; rfl
 | flt _ => obtain ⟨t, rfl⟩ := r; rfl
 | ref _ => cases r; rfl
 | ty _ => cases r; rfl
theorem RelV.inj {x y : V} {u : Value} (r : RelV x u) (q : RelV y u) : x = y := Option.some.inj (r.abs.symm.trans q.abs)
theorem Vals.inj : ∀ {xs ys : List V} {us : List Value}, Vals xs us → Vals ys us → xs = ys
 | _, _, _, .nil, .nil => rfl
 | _, _, _, .cons r t, .cons r' t' => by rw [r.inj r', Vals.inj t t']
section
variable {X : Cx} {pins : List (Addr × Obj)} {σ : St} {H : Hp} {s : Shared} {a : Addr} {xs ys : List V}
theorem SqL.of {K : PySem.W.Frag} (h : H a = some (.lst xs)) : SqL K H a xs := .inl (.inl h)
theorem SqT.of {K : PySem.W.Frag} (h : H a = some (.tup xs)) : SqT K H a xs := .inl (.inl h)
theorem Inv.list (I : Inv X pins σ H s) (h : SqL X.K H a xs) : ∃ its : List Value, Vals xs its ∧ PlainL s.heap a its.toArray ∧ xs.length ≤ sizeLine := by
 rcases h with h | ⟨o, its, n, hk, hc, hd, hs, hz, r⟩
 · obtain ⟨z, its, n, r, e⟩ := h.ok I.hok
   exact ⟨its, r, ⟨_, n, e, rfl, rfl, rfl⟩, z⟩
 · refine ⟨its.toList, r, ⟨o, n, I.kIn a o hk, hc, hd, by simpa using hs⟩, ?_⟩
   have e := r.length
   simp only [Array.length_toList] at e
   omega
theorem Inv.tuple (I : Inv X pins σ H s) (h : SqT X.K H a xs) : ∃ its : List Value, Vals xs its ∧ IsTup s.heap a its.toArray ∧ xs.length ≤ sizeLine := by
 rcases h with h | ⟨o, its, n, hk, hc, hs, hz, r⟩
 · obtain ⟨z, its, r, p⟩ := h.ok I.hok
   exact ⟨its, r, p, z⟩
 · refine ⟨its.toList, r, ⟨o, I.kIn a o hk, hc, n, by simpa using hs⟩, ?_⟩
   have e := r.length
   simp only [Array.length_toList] at e
   omega
theorem Inv.list_inj (I : Inv X pins σ H s) (h : SqL X.K H a xs) (h' : SqL X.K H a ys) : xs = ys := by
 obtain ⟨its, r, ⟨o, n, e, _, _, d⟩, _⟩ := I.list h
 obtain ⟨its', r', ⟨o', n', e', _, _, d'⟩, _⟩ := I.list h'
 rw [e] at e'; cases e'
 rw [d] at d'
 injection d' with d1 _
 have : its = its' := by simpa using congrArg Array.toList d1
 subst this
 exact r.inj r'
end
abbrev Cx.wish (X : Cx) (E : Value → Shared → Prop) : Cx := { X with xe := E }
abbrev Cx.nox (X : Cx) : Cx := X.wish fun _ _ => False
theorem Cx.Ok.wish {X : Cx} (ok : X.Ok) (E : Value → Shared → Prop) : (X.wish E).Ok :=
 ⟨ok.mod, ok.kind, ok.glob, ok.blt, ok.above, ok.inj, ok.has, ok.cab, ok.hd, ok.frames, ok.stk, ok.exf, ok.bs, ok.bsz, ok.noex, ok.exfs, ok.funs, ok.frf⟩
theorem Cx.Ok.unwish {X : Cx} {E : Value → Shared → Prop} (ok : (X.wish E).Ok) : X.Ok :=
 ⟨ok.mod, ok.kind, ok.glob, ok.blt, ok.above, ok.inj, ok.has, ok.cab, ok.hd, ok.frames, ok.stk, ok.exf, ok.bs, ok.bsz, ok.noex, ok.exfs, ok.funs, ok.frf⟩
section
variable {X : Cx} {pins : List (Addr × Obj)} {σ : St} {H : Hp} {s : Shared} {E : Value → Shared → Prop}
theorem Inv.wish (I : Inv X pins σ H s) (E : Value → Shared → Prop) : Inv (X.wish E) pins σ H s := ⟨I.ok.wish E, I.os, I.bare, I.base, I.loc, I.cell, I.free, I.freeC, I.pin, I.hok, I.len⟩
theorem Inv.unwish (I : Inv (X.wish E) pins σ H s) : Inv X pins σ H s := ⟨I.ok.unwish, I.os, I.bare, I.base, I.loc, I.cell, I.free, I.freeC, I.pin, I.hok, I.len⟩
theorem SP.unwish {D : Ends} {f : Flow} {s' : Shared} (h : SP (X.wish E) pins D f s') : SP X pins D f s' := by
 cases f with
 | next => obtain ⟨σ', H', I, q⟩ := h; exact ⟨σ', H', I.unwish, q⟩
 | brk => obtain ⟨σ', H', I, q⟩ := h; exact ⟨σ', H', I.unwish, q⟩
 | cont => obtain ⟨σ', H', I, q⟩ := h; exact ⟨σ', H', I.unwish, q⟩
 | ret u => obtain ⟨v, σ', H', I, r, q⟩ := h; exact ⟨v, σ', H', I.unwish, r, q⟩
theorem PSs.nox {st : List Stmt} {t : TS} (h : PSs X.nox st t) : PSs X st t := fun pins s σ H D I hw =>
 wpAny_mono (h pins s σ H D (I.wish _) hw) (fun _ _ q => q.unwish) fun _ _ z => False.elim z
end
section
variable {X : Cx} {st : Stmt} {rest : List Stmt} {t u : TS} {e : Expr} {te : TE} {pos : Pos}
def jpT : TS := fun D σ H => D.nx σ H
def jqA (t u : TS) : TS := fun D σ H => t { D with nx := u D } σ H
theorem jaq : PSs X [] jpT := fun _ _ σ H _ I h => wpAny_execs_nil ⟨σ, H, I, h⟩
theorem jac (h1 : PS X st t) (h2 : PSs X rest u) : PSs X (st :: rest) (jqA t u) := by
 intro pins s σ H D I h
 refine wpAny_execs_cons (thn (h1 pins s σ H { D with nx := u D } I h) fun f s1 q => ?_)
 cases f with
 | next =>
   obtain ⟨σ', H', I', q⟩ := q
   exact h2 pins s1 σ' H' D I' q
 | ret v => exact q
 | brk => exact q
 | cont => exact q
theorem jaf (h1 : PS X st t) : PSs X [st] t := by
 intro pins s σ H D I h
 refine wpAny_execs_cons (thn (h1 pins s σ H D I h) fun f s1 q => ?_)
 cases f with
 | next => exact wpAny_execs_nil q
 | ret v => exact q
 | brk => exact q
 | cont => exact q
theorem Inv.quiet {pins : List (Addr × Obj)} {σ : St} {H : Hp} {s : Shared} (I : Inv X pins σ H s) : interactive X.env = false := by simp [interactive, I.ok.kind]
def jo0 (te : TE) : TS := fun D σ H => te σ H fun _ H1 => D.nx σ H1
theorem jau (he : PE X e te) (hs : swapsWith e none pos.line X.env = pure false := by rfl) : PS X (.Expr e pos) (jo0 te) := by
  intro pins s σ H D I h
  exact wpAny_Expr_any (thn (he pins s σ H _ I h) fun v s1 ⟨x, H1, I1, r1, q1⟩ => ⟨σ, H1, I1, q1⟩) I.quiet hs
def jq8 (te : TE) : TS := fun D σ H => te σ H D.rt
theorem jam (he : PE X e te) : PS X (.Return (some e) pos) (jq8 te) := by
 intro pins s σ H D I h
 exact wpAny_Return_some (thn (he pins s σ H _ I h) fun v s1 ⟨x, H1, I1, r1, q1⟩ => ⟨x, σ, H1, I1, r1, q1⟩)
def jqP (c : TT) (t u : TS) : TS := fun D σ H => c σ H fun b H1 => if b = true then t D σ H1 else u D σ H1
theorem jaT {c : Expr} {a b : List Stmt} {tc : TT} (hc : PT X c tc) (ha : PSs X a t) (hb : PSs X b u) : PS X (.If c a b pos) (jqP tc t u) := by
 intro pins s σ H D I h
 refine wpAny_If (thn (hc pins s σ H _ I h) fun d s1 ⟨H1, I1, q1⟩ => ?_)
 cases d with
 | true => exact ha pins s1 σ H1 D I1 q1
 | false => exact hb pins s1 σ H1 D I1 q1
def jnl : TS := fun _ _ _ => False
theorem jbt : PS X st jnl := fun _ _ _ _ _ _ h => h.elim
theorem jaO {sts : List Stmt} : PSs X sts jnl := fun _ _ _ _ _ _ h => h.elim
end
abbrev TG := V → St → Hp → (St → Hp → Prop) → Prop
abbrev TGs := List V → St → Hp → (St → Hp → Prop) → Prop
def PG (X : Cx) (target : Expr) (t : TG) : Prop :=
 ∀ (pins : List (Addr × Obj)) (s : Shared) (σ : St) (H : Hp) (v : V) (u : Value) (Q : St → Hp → Prop), Inv X pins σ H s → RelV v u → t v σ H Q →
   wpAny (model X.prog X.w) X.A (assign target X.env u) (fun _ s' => ∃ σ' H', Inv X pins σ' H' s' ∧ Q σ' H') X.xe s
def PGs (X : Cx) (ts : List Expr) (t : TGs) : Prop :=
 ∀ (pins : List (Addr × Obj)) (s : Shared) (σ : St) (H : Hp) (vs : List V) (us : List Value) (Q : St → Hp → Prop), Inv X pins σ H s → Vals vs us → t vs σ H Q →
   wpAny (model X.prog X.w) X.A (assignInOrder ((assignEach ts X.env).map (·.2)) us) (fun _ s' => ∃ σ' H', Inv X pins σ' H' s' ∧ Q σ' H') X.xe s
abbrev jqi := V → V → V → Hp → (Hp → Prop) → Prop
def jra (X : Cx) (t : jqi) : Prop :=
 ∀ (pins : List (Addr × Obj)) (s : Shared) (σ : St) (H : Hp) (o i v : V) (ov iv u : Value) (Q : Hp → Prop), Inv X pins σ H s → RelV o ov → RelV i iv → RelV v u → t o i v H Q →
   wpAny (model X.prog X.w) X.A (setItem ov iv u) (fun _ s' => ∃ H', Inv X pins σ H' s' ∧ Q H') X.xe s
section
variable {X : Cx} {pos : Pos}
def jdf (i : Nat) : TG := fun v σ H Q => Q (σ.set i (some v)) H
theorem jaH {i : Nat} {x : Str} (hN : X.N.Nodup) (hi : X.N[i]? = some x) (hx : Loc X.env.scope x) (hf : X.fn x = true ∨ X.env.scope.names.lookup x = some .local := by first | exact .inl rfl | exact .inr rfl | assumption) : PG X (.Name x pos) (jdf i) := by
  intro pins s σ H v u Q I r h
  exact wpAny_assign_Name (jhH I hN hi hx r (fun s' I' => ⟨_, H, I', h⟩) hf)
def jqg : TGs := fun vs σ H Q => vs = [] ∧ Q σ H
def jjo (t : TG) (u : TGs) : TGs := fun vs σ H Q => ∃ v r, vs = v :: r ∧ t v σ H fun σ' H' => u r σ' H' Q
theorem jfY : PGs X [] jqg := by
 intro pins s σ H vs us Q I r h
 obtain ⟨e, h⟩ := h
 subst e
 cases r
 exact assignInOrder_nil ⟨σ, H, I, h⟩
theorem jb5 {e : Expr} {es : List Expr} {t : TG} {u : TGs} (h1 : PG X e t) (h2 : PGs X es u)
   (hs : (assignEach (e :: es) X.env).map (·.2) = assign e X.env :: (assignEach es X.env).map (·.2) := by rfl) : PGs X (e :: es) (jjo t u) := by
 intro pins s σ H vs us Q I r h
 obtain ⟨v, vr, e1, h⟩ := h
 subst e1
 cases r with
 | cons r rr =>
   rw [hs]
   refine assignInOrder_cons (thn (h1 pins s σ H _ _ _ I r h) fun _ s1 ⟨σ1, H1, I1, q1⟩ => ?_)
   exact h2 pins s1 σ1 H1 _ _ Q I1 rr q1
def jpq (K : PySem.W.Frag) (n : Nat) (t : TGs) : TG := fun v σ H Q => ∃ a xs, v = .ref a ∧ SqT K H a xs ∧ xs.length = n ∧ t xs σ H Q
theorem jpV {es : List Expr} {k : Nat} {t : TGs} {n : Nat} (hc : X.calm = true) (h : PGs X es t)
   (hn : (assignEach es X.env).length = n := by rfl) (hst : (assignEach es X.env).findIdx? (·.1) = none := by rfl) : PG X (.Tuple es k pos) (jpq X.K n t) := by
 intro pins s σ H v u Q I r hw
 obtain ⟨a, xs, e1, hq, hl, hw⟩ := hw
 subst e1
 cases r
 obtain ⟨its, rv, ht, hz⟩ := I.tuple hq
 refine assign_Tuple_tuple (I.ok.hd hc) ht (by simp [hn, ← hl, rv.length]) hst fun h' hx => ?_
 have I1 : Inv X pins σ H { s with heap := h' } := I.kept (t' := s.toks) fun b o e => hx b o (Nat.ne_of_lt (Heap.lt_size e)) e
 exact h pins _ σ H xs _ Q I1 (by simpa using rv) hw
def jrh (to ti : TE) (t : jqi) : TG := fun v σ H Q => to σ H fun o H1 => ti σ H1 fun i H2 => t o i v H2 fun H3 => Q σ H3
theorem jnn {o i : Expr} {to ti : TE} {t : jqi} (ho : PE X o to) (hi : PE X i ti) (hs : jra X t)
   (ha : ∀ v, assign (.Subscript o i pos) X.env v = (do
     let ov ← holding [v] (eval o X.env)
     let iv ← holding [v, ov] (eval i X.env)
     standAt pos
     holding [v, ov, iv] (setItem ov iv v)
     release [v, ov, iv] []) := by intro _; rfl) : PG X (.Subscript o i pos) (jrh to ti t) := by
 intro pins s σ H v u Q I r h
 rw [ha]
 refine wpAny_bind (wpAny_holding (thn (ho pins s σ H _ I h) fun ov s1 ⟨x, H1, I1, r1, q1⟩ => ?_))
 refine wpAny_bind (wpAny_holding (thn (hi pins s1 σ H1 _ I1 q1) fun iv s2 ⟨y, H2, I2, r2, q2⟩ => ?_))
 refine wpAny_bind (wpAny_standAt (wpAny_bind (wpAny_holding (thn (hs pins s2 σ H2 x y v ov iv u _ I2 r1 r2 r q2) fun _ s3 ⟨H3, I3, q3⟩ => ?_))))
 exact wpAny_release ⟨σ, H3, I3, q3⟩
def joS (te : TE) (g : TG) : TS := fun D σ H => te σ H fun x H1 => g x σ H1 D.nx
theorem jnp {tg e : Expr} {te : TE} {g : TG} (he : PE X e te) (hg : PG X tg g) (hs : swapsWithSole [tg] e pos.line X.env = pure false := by rfl) (hw : swappedStores [tg] e X.env = pure none := by rfl)
    (h1 : (assignEach [tg] X.env).map (·.2) = [assign tg X.env] := by rfl) : PS X (.Assign [tg] e pos) (joS te g) := by
  intro pins s σ H D I h
  refine wpAny_Assign_stores (thn (he pins s σ H _ I h) fun v s1 ⟨x, H1, I1, r1, q1⟩ => ?_) hs hw
  rw [h1]
  exact thn (hg pins s1 σ H1 x v _ I1 r1 q1) fun _ s2 q => q
theorem jar {i : Nat} {x : Str} {e : Expr} {te : TE} {pos' : Pos} (hN : X.N.Nodup) (hi : X.N[i]? = some x) (hx : Loc X.env.scope x) (he : PE X e te) (hs : swapsWith e (some (.Name x pos')) pos.line X.env = pure false := by rfl) (hf : X.fn x = true ∨ X.env.scope.names.lookup x = some .local := by first | exact .inl rfl | exact .inr rfl | assumption) :
    PS X (.Assign [.Name x pos'] e pos) (joS te (jdf i)) := by
  intro pins s σ H D I h
  refine wpAny_Assign_Name (thn (he pins s σ H _ I h) fun v s1 ⟨y, H1, I1, r1, q1⟩ => ?_) hs
  exact jhH I1 hN hi hx r1 (fun s2 I2 => ⟨_, H1, I2, q1⟩) hf
end
section
variable {X : Cx} {pos : Pos}
def jnj (c : TT) (tb : TS) : TS := fun D σ H => ∃ W : Nat → St → Hp → Prop, (∃ m, W m σ H) ∧ ∀ m σ H, W m σ H →
 c σ H fun b H1 => if b = true then ∃ N : St → Hp → Prop, (∀ σ' H', N σ' H' → ∃ m', m' < m ∧ W m' σ' H') ∧ tb { D with nx := N, ct := N, bk := D.nx } σ H1 else D.nx σ H1
theorem jm2 {c : Expr} {body : List Stmt} {tc : TT} {tb : TS} (hp : PassesOwn (model X.prog X.w) X.A X.env X.xe) (hc : PT X c tc) (hb : PSs X body tb) : PS X (.While c body [] pos) (jnj tc tb) := by
 intro pins s σ H D I h
 obtain ⟨W, ⟨m0, w0⟩, turn⟩ := h
 refine wpAny_While (codeAny_whileLoop (fun n s' => ∃ σ' H', Inv X pins σ' H' s' ∧ W n σ' H') ?_ m0 ⟨σ, H, I, w0⟩)
 rintro n s1 ⟨σ1, H1, I1, w1⟩
 refine wpAny_passesOwn hp (thn (hc pins s1 σ1 H1 _ I1 (turn n σ1 H1 w1)) fun b s2 ⟨H2, I2, q2⟩ => ?_)
 cases b with
 | true =>
   obtain ⟨N, hN, q2⟩ := q2
   rw [if_pos rfl]
   refine wpAny_passesOwn hp (thn (hb pins s2 σ1 H2 _ I2 q2) fun f s3 q3 => ?_)
   cases f with
   | next =>
     obtain ⟨σ3, H3, I3, n3⟩ := q3
     obtain ⟨m', hm, w3⟩ := hN σ3 H3 n3
     exact ⟨m', hm, σ3, H3, I3, w3⟩
   | cont =>
     obtain ⟨σ3, H3, I3, n3⟩ := q3
     obtain ⟨m', hm, w3⟩ := hN σ3 H3 n3
     exact ⟨m', hm, σ3, H3, I3, w3⟩
   | brk => exact q3
   | ret v => exact q3
 | false =>
   rw [if_neg Bool.false_ne_true]
   exact wpAny_execs_nil ⟨σ1, H2, I2, q2⟩
end
structure It where
 go : Nat → Hp → Prop
 yld : Nat → Hp → V → Hp → Prop
 stop : Nat → Hp → Prop
def jge (X : Cx) (pins : List (Addr × Obj)) (H : Hp) (b : Addr) : Prop :=
 H b = none ∧ b ≠ X.env.locals ∧ b ∉ X.fs ∧ (b ∈ X.ex ∨ X.s₀.heap.objs.size ≤ b) ∧ (∀ x c, X.env.cells.lookup x = some c → c ≠ b) ∧ ∀ p ∈ X.pn ++ pins, p.1 ≠ b
theorem Inv.fpOk {X : Cx} {pins : List (Addr × Obj)} {σ : St} {H H' : Hp} {s : Shared} {b : Addr} (I : Inv X pins σ H s) (hb : s.heap.objs.size ≤ b) (hn : H' b = none) : jge X pins H' b := by
 refine ⟨hn, Nat.ne_of_gt (Nat.lt_of_lt_of_le I.lt hb), I.nofs hb, .inr (Nat.le_trans I.sz hb), fun x c e z => ?_, fun p hp z => ?_⟩
 · obtain ⟨v, q⟩ := I.cell x c e
   exact absurd (Nat.lt_of_lt_of_le q.lt (by rw [z]; exact hb)) (Nat.lt_irrefl _)
 · exact absurd (Nat.lt_of_lt_of_le (Heap.lt_size (I.pin p hp).1) (by rw [z]; exact hb)) (Nat.lt_irrefl _)
structure Turn (P : Program) (w : World) (K : PySem.W.Frag) (tg : Expr) (J : It) (fp : List Addr) (it : Addr) (tn : Nat → Heap → Prop) : Prop where
 mem : it ∈ fp
 obj : ∀ i h, tn i h → ∀ b ∈ fp, ∃ o, h.get? b = some o ∧ ∀ v, o.data ≠ .cell v
 keep : ∀ i h h', tn i h → (∀ b ∈ fp, ∀ o, h.get? b = some o → h'.get? b = some o) → tn i h'
 item : ∀ (X : Cx), X.prog = P → X.w = w → X.K = K → X.calm = true → ∀ (i : Nat) (pins : List (Addr × Obj)) (s : Shared) (σ : St) (H : Hp) (E : Value → Shared → Prop), Inv X pins σ H s → (∀ b ∈ fp, jge X pins H b) → tn i s.heap → J.go i H →
   wpAny (model P w) X.A (pyNext (.ref it)) (fun r s1 => ∃ u, r = some u ∧
     wpAny (model P w) X.A (letOwnedTupleGo tg (.ref it) u) (fun _ s2 => ∃ x H', Inv X pins σ H' s2 ∧ RelV x u ∧ J.yld i H x H' ∧ tn (i + 1) s2.heap ∧ ∀ b ∈ fp, H' b = none) E s1) E s
 done : ∀ (X : Cx), X.prog = P → X.w = w → X.K = K → X.calm = true → ∀ (i : Nat) (pins : List (Addr × Obj)) (s : Shared) (σ : St) (H : Hp) (E : Value → Shared → Prop), Inv X pins σ H s → (∀ b ∈ fp, jge X pins H b) → tn i s.heap → J.stop i H →
   wpAny (model P w) X.A (pyNext (.ref it)) (fun r s1 => r = none ∧ Inv X pins σ H s1) E s
 self : ∀ (A : Around) (i : Nat) (s : Shared) (Q : Value → Shared → Prop) (E : Value → Shared → Prop), tn i s.heap → Q (.ref it) s → wpAny (model P w) A (pyIter (.ref it)) Q E s
abbrev TI := St → Hp → (It → Hp → Prop) → Prop
def PIE (X : Cx) (pins : List (Addr × Obj)) (σ : St) (tg : Expr) (R : It → Hp → Prop) (itv : Value) (s2 : Shared) : Prop :=
 ∃ (it : Addr) (fp : List Addr) (tn : Nat → Heap → Prop) (J : It) (H' : Hp), itv = .ref it ∧ Inv X pins σ H' s2 ∧ Turn X.prog X.w X.K tg J fp it tn ∧ tn 0 s2.heap ∧ (∀ b ∈ fp, jge X pins H' b) ∧ R J H'
def PI (X : Cx) (tg iter : Expr) (wi : TI) : Prop :=
 ∀ (pins : List (Addr × Obj)) (s : Shared) (σ : St) (H : Hp) (R : It → Hp → Prop), Inv X pins σ H s → wi σ H R →
   wpAny (model X.prog X.w) X.A (eval iter X.env) (fun v s1 => wpAny (model X.prog X.w) X.A (pyIter v) (PIE X pins σ tg R) X.xe s1) X.xe s
theorem jn3 {M : Model} {A : Around} {E : Value → Shared → Prop} {s : Shared} {tg : Expr} {it : Addr} {u : Value} {o : Obj} {n : String} {vs : Array Value} {Q : Unit → Shared → Prop} (ho : s.heap.get? it = some o) (hc : o.cls = .type n) (hd : o.data = .fields vs)
   (hn : ["enumerate", "zip", "dict_itemiterator", "dict_reverseitemiterator", "odict_iterator", "itertools.zip_longest", "itertools.pairwise"].contains n = false) (hQ : Q () s) : wpAny M A (letOwnedTupleGo tg (.ref it) u) Q E s := by
 unfold letOwnedTupleGo
 cases tg <;> first
   | exact wpAny_pure hQ
   | (cases u <;> first
       | exact wpAny_pure hQ
       | (refine wpAny_bind (wpAny_load ho ?_)
          rw [hc, hd]
          show wpAny M A (if (["enumerate", "zip", "dict_itemiterator", "dict_reverseitemiterator", "odict_iterator", "itertools.zip_longest", "itertools.pairwise"].contains n && vs[0]? == some (rawInt _)) = true then _ else _) Q E s
          rw [if_neg (by intro h; rw [hn, Bool.false_and] at h; cases h)]
          exact wpAny_pure hQ))
def Itl (K : PySem.W.Frag) (a : Addr) : It :=
 ⟨fun i H => ∃ xs x, SqL K H a xs ∧ xs[i]? = some x, fun i H x H' => H' = H ∧ ∀ xs, SqL K H a xs → xs[i]? = some x, fun i H => ∃ xs, SqL K H a xs ∧ xs.length ≤ i⟩
def Itr (lo : Int) (n : Nat) : It := ⟨fun i _ => i < n, fun i H x H' => H' = H ∧ x = .int (lo + i), fun i _ => n ≤ i⟩
theorem jld {P : Program} {w : World} {K : PySem.W.Frag} {tg : Expr} (a it : Addr) : Turn P w K tg (Itl K a) [it] it (fun i h => h.IsListIter it a i) where
 mem := by simp
 obj := fun i h st b hb => by
   have e : b = it := by simpa using hb
   subst e
   obtain ⟨o, e, c, d⟩ := st
   exact ⟨o, e, fun v z => by rw [d] at z; cases z⟩
 keep := fun i h h' st k => st.at fun o e => k it (by simp) o e
 item := by
   intro X hP hw hK hc i pins s σ H E I hf st hg
   subst hP hw hK
   obtain ⟨xs, x, hq, hx⟩ := hg
   obtain ⟨its, rv, p, hz⟩ := I.list hq
   obtain ⟨u, hu, ru⟩ := rv.get hx
   obtain ⟨f0, f1, f2, f3, f4, f5⟩ := hf it (by simp)
   refine wpAny_pyNext_list_item st p.isList (x := u) (by simpa using hu) fun h' st' sb => ?_
   have I1 : Inv X pins σ H { s with heap := h' } := I.turned (t' := s.toks) (fun b o hb e => (sb.2 b hb).trans e) f0 f1 f3 f4 f5
   obtain ⟨o, e, c, d⟩ := id st'
   exact ⟨u, rfl, jn3 (s := { s with heap := h' }) e c d (by decide) ⟨x, H, I1, ru, ⟨rfl, fun ys hy => by rw [I.list_inj hy hq]; exact hx⟩, st', fun b hb => (hf b hb).1⟩⟩
 done := by
   intro X hP hw hK hc i pins s σ H E I hf st hg
   subst hP hw hK
   obtain ⟨xs, hq, hx⟩ := hg
   obtain ⟨its, rv, p, hz⟩ := I.list hq
   obtain ⟨f0, f1, f2, f3, f4, f5⟩ := hf it (by simp)
   have hl := rv.length
   exact wpAny_pyNext_list_end (I.ok.hd hc) st p.isList (by simp; omega) fun h' eb => ⟨rfl, I.turned (t' := s.toks) (fun b o hb e => eb b o hb e) f0 f1 f3 f4 f5⟩
 self := fun _ _ _ _ _ st h => wpAny_pyIter_listiter st h
theorem jkl {P : Program} {w : World} {K : PySem.W.Frag} {tg : Expr} (it : Addr) (lo : Int) (n : Nat) : Turn P w K tg (Itr lo n) [it] it (fun i h => IsRangeIter h it (lo + (i : Nat) * 1) ((n : Int) - (i : Nat)) 1) where
 mem := by simp
 obj := fun i h st b hb => by
   have e : b = it := by simpa using hb
   subst e
   exact ⟨_, st, fun v z => by
     have z' : Data.fields _ = Data.cell v := z
     cases z'⟩
 keep := fun i h h' st k => k it (by simp) _ st
 item := by
   intro X hP hw hK hc i pins s σ H E I hf st hg
   subst hP hw hK
   obtain ⟨f0, f1, f2, f3, f4, f5⟩ := hf it (by simp)
   have W := Walks.range (prog := X.prog) (w := X.w) (I.ok.hd hc) it lo 1 n
   refine W.item i s _ _ hg st fun v h' tk hv st' kk => ?_
   obtain ⟨t, rfl⟩ := hv
   have I1 : Inv X pins σ H { s with heap := h', toks := tk } := I.turned (fun b o hb e => kk b o (by simpa using hb) e) f0 f1 f3 f4 f5
   refine ⟨_, rfl, jn3 (s := { s with heap := h', toks := tk }) (n := "range_iterator") st' rfl rfl (by decide) ⟨.int (lo + i), H, I1, ⟨t, ?_⟩, ⟨rfl, rfl⟩, st', fun b hb => (hf b hb).1⟩⟩
   rw [Int.mul_one]
 done := by
   intro X hP hw hK hc i pins s σ H E I hf st hg
   subst hP hw hK
   obtain ⟨f0, f1, f2, f3, f4, f5⟩ := hf it (by simp)
   exact wpAny_pyNext_range_end (I.ok.hd hc) st (by have : n ≤ i := hg; omega) fun h' eb => ⟨rfl, I.turned (t' := s.toks) (fun b o hb e => eb b o hb e) f0 f1 f3 f4 f5⟩
 self := fun _ _ _ _ _ st h => wpAny_pyIter_rangeiter st h
end L2
namespace L2
open PySem PySem.Spec PyProof.Rows
section
variable {X : Cx} {tg : Expr}
def joI (K : PySem.W.Frag) (tl : TE) : TI := fun σ H R => tl σ H fun x H1 => ∃ a, x = .ref a ∧ (∃ xs, SqL K H1 a xs) ∧ R (Itl K a) H1
theorem jnS {l : Expr} {tl : TE} (hl : PE X l tl) : PI X tg l (joI X.K tl) := by
 intro pins s σ H R I h
 refine thn (hl pins s σ H _ I h) fun v s1 ⟨x, H1, I1, r1, q1⟩ => ?_
 obtain ⟨a, e, ⟨xs, hq⟩, q⟩ := q1
 subst e
 cases r1
 obtain ⟨its, rv, p, hz⟩ := I1.list hq
 refine wpAny_pyIter_list p.isList ?_
 refine ⟨s1.heap.objs.size, [s1.heap.objs.size], _, _, H1, rfl, I1.kept (t' := s1.toks) fun b o e => Heap.get?_push_of_some _ e, jld a _, ⟨_, Heap.get?_push_size _ rfl, rfl, rfl⟩, fun b hb => ?_, q⟩
 have e : b = s1.heap.objs.size := by simpa using hb
 subst e
 exact I1.fpOk (Nat.le_refl _) (I1.hok.fresh (Nat.le_refl _))
theorem jjX {pins : List (Addr × Obj)} {σ : St} {H : Hp} {s : Shared} {R : It → Hp → Prop} {E : Value → Shared → Prop} {lo hi : Int} {t u v : Tok} {tk : Nat} (I : Inv X pins σ H s) (h1 : -(2 ^ 62) ≤ lo) (h2 : lo < 2 ^ 62) (h3 : -(2 ^ 62) ≤ hi) (h4 : hi < 2 ^ 62)
   (q : R (Itr lo (hi - lo).toNat) H) : wpAny (model X.prog X.w) X.A (pyIter (.ref s.heap.objs.size)) (PIE X pins σ tg R) E { s with heap := s.heap.push { cls := .type "range", data := .fields #[.int lo t, .int hi u, .int 1 v] }, toks := tk } := by
 refine wpAny_pyIter_range (IsRange.new ..) (small_one h1 h2 h3 h4) ?_
 have I1 : Inv X pins σ H { s with heap := s.heap.push { cls := .type "range", data := .fields #[.int lo t, .int hi u, .int 1 v] }, toks := tk } := I.kept fun b o e => Heap.get?_push_of_some _ e
 refine ⟨(s.heap.push { cls := .type "range", data := .fields #[.int lo t, .int hi u, .int 1 v] }).objs.size, [(s.heap.push { cls := .type "range", data := .fields #[.int lo t, .int hi u, .int 1 v] }).objs.size], _, _, H, rfl,
   I1.kept (t' := tk) fun b o e => Heap.get?_push_of_some _ e, jkl _ lo (hi - lo).toNat, ?_, fun b hb => ?_, q⟩
 · have e1 : lo + ((0 : Nat) : Int) * 1 = lo := by simp
   have e2 : (((hi - lo).toNat : Nat) : Int) - ((0 : Nat) : Int) = Builtin.Range.rangeSize lo hi 1 := by rw [rangeSize_one]; split <;> omega
   show IsRangeIter _ _ (lo + ((0 : Nat) : Int) * 1) ((((hi - lo).toNat : Nat) : Int) - ((0 : Nat) : Int)) 1
   rw [e1, e2]
   exact Heap.get?_push_size _ rfl
 · have e : b = (s.heap.push { cls := .type "range", data := .fields #[.int lo t, .int hi u, .int 1 v] }).objs.size := by simpa using hb
   subst e
   exact I1.fpOk (Nat.le_refl _) (I1.hok.fresh (Nat.le_refl _))
def joW (ta : TA) : TI := fun σ H R => ta σ H fun vs H1 => ∃ j : Int, vs = [.int j] ∧ -(2 ^ 62) ≤ j ∧ j < 2 ^ 62 ∧ R (Itr 0 j.toNat) H1
def jo5 (ta : TA) : TI := fun σ H R => ta σ H fun vs H1 => ∃ i j : Int, vs = [.int i, .int j] ∧ (-(2 ^ 62) ≤ i ∧ i < 2 ^ 62 ∧ -(2 ^ 62) ≤ j ∧ j < 2 ^ 62) ∧ R (Itr i (j - i).toNat) H1
theorem jcr {a : Expr} {ta : TA} {p pos : Pos} (hg : Gl X "range") (hm : X.mg "range" = none) (ha : PA X [a] ta) (hs : starEach [a] X.env = [(false, eval a X.env)] := by rfl) : PI X tg (.Call (.Name "range" p) [a] [] pos) (joW ta) := by
  intro pins s σ H R I h
  refine Call_ (jdL I hg hm boot_range (PyProof.Rows.callWith_type1 (thn (ha pos pins s σ H _ I h) fun us s1 ⟨vs, H1, I1, r1, q1⟩ => ?_) hs rfl))
  obtain ⟨j, e, q1, q2, q⟩ := q1
  subst e
  cases r1 with
  | cons r rr =>
    cases rr
    obtain ⟨t, rfl⟩ := r
    exact call_range_1 (jjX I1 (by omega) (by omega) q1 q2 (by simpa using q))
theorem jfm {a b : Expr} {ta : TA} {p pos : Pos} (hg : Gl X "range") (hm : X.mg "range" = none) (ha : PA X [a, b] ta) (hs : starEach [a, b] X.env = [(false, eval a X.env), (false, eval b X.env)] := by rfl) (hs2 : starEach [b] X.env = [(false, eval b X.env)] := by rfl) :
    PI X tg (.Call (.Name "range" p) [a, b] [] pos) (jo5 ta) := by
  intro pins s σ H R I h
  refine Call_ (jdL I hg hm boot_range (PyProof.Rows.callWith_type1 (thn (ha pos pins s σ H _ I h) fun us s1 ⟨vs, H1, I1, r1, q1⟩ => ?_) (by rw [hs, hs2]) (by rw [hs2]; rfl)))
  obtain ⟨i, j, e, ⟨q1, q2, q3, q4⟩, q⟩ := q1
  subst e
  cases r1 with
  | cons r rr =>
    cases rr with
    | cons r' rr =>
      cases rr
      obtain ⟨t, rfl⟩ := r
      obtain ⟨t', rfl⟩ := r'
      exact call_range_2 (jjX I1 q1 q2 q3 q4 q)
def jq7 (wi : TI) (g : TG) (tb : TS) : TS := fun D σ H => wi σ H fun J H1 => ∃ W : Nat → Nat → St → Hp → Prop, (∃ m, W 0 m σ H1) ∧ ∀ i m σ H, W i m σ H →
 (J.stop i H ∧ D.nx σ H) ∨ (J.go i H ∧ ∃ N : St → Hp → Prop, (∀ σ' H', N σ' H' → ∃ m', m' < m ∧ W (i + 1) m' σ' H') ∧ ∀ x H', J.yld i H x H' → g x σ H' fun σ2 H2 => tb { D with nx := N, ct := N, bk := D.nx } σ2 H2)
def jff (fp : List Addr) (h : Heap) : List (Addr × Obj) := fp.filterMap fun b => (h.get? b).map fun o => (b, o)
theorem jbX {fp : List Addr} {h : Heap} {b : Addr} {o : Obj} (hb : b ∈ fp) (e : h.get? b = some o) : (b, o) ∈ jff fp h := List.mem_filterMap.mpr ⟨b, hb, by rw [e]; rfl⟩
theorem jk8 {fp : List Addr} {h : Heap} {p : Addr × Obj} (hp : p ∈ jff fp h) : p.1 ∈ fp ∧ h.get? p.1 = some p.2 := by
 obtain ⟨b, hb, e⟩ := List.mem_filterMap.mp hp
 cases q : h.get? b with
 | none => rw [q] at e; cases e
 | some o =>
   rw [q] at e
   have e' : (b, o) = p := Option.some.inj e
   subst e'
   exact ⟨hb, q⟩
theorem Inv.pinned {pins : List (Addr × Obj)} {σ : St} {H : Hp} {s : Shared} {fp : List Addr} (I : Inv X pins σ H s) (hf : ∀ b ∈ fp, jge X pins H b) (ho : ∀ b ∈ fp, ∃ o, s.heap.get? b = some o ∧ ∀ v, o.data ≠ .cell v) : Inv X (pins ++ jff fp s.heap) σ H s :=
 I.pins_of fun p hp => (List.mem_append.mp hp).elim (fun z => I.pin p (List.mem_append_right _ z)) fun z => by
   obtain ⟨hb, e⟩ := jk8 z
   obtain ⟨f0, f1, f2, _⟩ := hf p.1 hb
   obtain ⟨o, e', d⟩ := ho p.1 hb
   rw [e] at e'; cases e'
   exact ⟨e, f0, f1, f2, d⟩
theorem Inv.unpinned {pins pl : List (Addr × Obj)} {σ : St} {H : Hp} {s : Shared} (I : Inv X (pins ++ pl) σ H s) : Inv X pins σ H s := I.pins_of fun p hp => I.pin p (List.mem_append_right _ (List.mem_append_left _ hp))
theorem jb6 {iter : Expr} {body : List Stmt} {wi : TI} {g : TG} {tb : TS} {pos : Pos} (hp : PassesOwn (model X.prog X.w) X.A X.env X.xe) (hc : X.calm = true) (hi : PI X tg iter wi) (hg : PG X tg g) (hb : PSs X body tb)
   (hs : ∀ x, foldedSetIterable iter X.env x = pure x := by intro _; rfl) : PS X (.For tg iter body [] pos) (jq7 wi g tb) := by
 intro pins s σ H D I h
 refine wpAny_For (thn (hi pins s σ H _ I h) fun v s1 h1 => thn h1 fun itv s2 h2 => ?_) hs
 obtain ⟨it, fp, tn, J, H2, e, I2, T, st2, f2, W, ⟨m0, w0⟩, turn⟩ := h2
 subst e
 have stat : ∀ {H' : Hp}, (∀ b ∈ fp, H' b = none) → ∀ b ∈ fp, jge X pins H' b := fun hn b hb => ⟨hn b hb, (f2 b hb).2⟩
 refine codeAny_forLoop_any (fun n s' => ∃ i σ' H', Inv X pins σ' H' s' ∧ tn i s'.heap ∧ (∀ b ∈ fp, H' b = none) ∧ W i n σ' H') ?_ m0 ⟨0, σ, H2, I2, st2, fun b hb => (f2 b hb).1, w0⟩
 rintro n s3 ⟨i, σ3, H3, I3, st3, fr3, w3⟩
 rcases turn i n σ3 H3 w3 with ⟨stop, qn⟩ | ⟨go, N, hN, step⟩
 · refine wpAny_passesOwn hp (thn (T.done X rfl rfl rfl hc i pins s3 σ3 H3 X.xe I3 (stat fr3) st3 stop) fun r s4 ⟨hr, I4⟩ => ?_)
   subst hr
   exact wpAny_execs_nil ⟨σ3, H3, I4, qn⟩
 · refine wpAny_passesOwn hp (thn (T.item X rfl rfl rfl hc i pins s3 σ3 H3 X.xe I3 (stat fr3) st3 go) fun r s4 ⟨u, hr, h4⟩ => ?_)
   subst hr
   refine wpAny_passesOwn hp (thn h4 fun _ s5 ⟨x, H5, I5, r5, y5, st5, fr5⟩ => ?_)
   have I5' := I5.pinned (stat fr5) (T.obj _ _ st5)
   refine wpAny_passesOwn hp (thn (hg _ s5 σ3 H5 x u _ I5' r5 (step x H5 y5)) fun _ s6 ⟨σ6, H6, I6, q6⟩ => ?_)
   refine wpAny_passesOwn hp (thn (hb _ s6 σ6 H6 _ I6 q6) fun f s7 q7 => ?_)
   have again : ∀ {σ7 : St} {H7 : Hp}, Inv X (pins ++ jff fp s5.heap) σ7 H7 s7 → N σ7 H7 → ∃ m, m < n ∧ ∃ i σ' H', Inv X pins σ' H' s7 ∧ tn i s7.heap ∧ (∀ b ∈ fp, H' b = none) ∧ W i m σ' H' := fun {σ7 H7} I7 n7 => by
     obtain ⟨m', hm, w7⟩ := hN σ7 H7 n7
     refine ⟨m', hm, i + 1, σ7, H7, I7.unpinned, T.keep _ _ _ st5 fun b hb o e => (I7.pin (b, o) (List.mem_append_right _ (List.mem_append_right _ (jbX hb e)))).1, fun b hb => ?_, w7⟩
     obtain ⟨o, e, d⟩ := T.obj _ _ st5 b hb
     exact (I7.pin (b, o) (List.mem_append_right _ (List.mem_append_right _ (jbX hb e)))).2.1
   cases f with
   | next => obtain ⟨σ7, H7, I7, n7⟩ := q7; exact again I7 n7
   | cont => obtain ⟨σ7, H7, I7, n7⟩ := q7; exact again I7 n7
   | brk => obtain ⟨σ7, H7, I7, q7⟩ := q7; exact ⟨σ7, H7, I7.unpinned, q7⟩
   | ret v => obtain ⟨x7, σ7, H7, I7, r7, q7⟩ := q7; exact ⟨x7, σ7, H7, I7.unpinned, r7, q7⟩
end
theorem jmo {K : PySem.W.Frag} {a : Addr} {xs : List V} {g : TG} {tb : TS} {D : Ends} {σ : St} {H : Hp} (Pv : Nat → St → Hp → Prop) (h0 : Pv 0 σ H) (hl : ∀ i σ H, i ≤ xs.length → Pv i σ H → SqL K H a xs)
   (hs : ∀ i x σ H, xs[i]? = some x → Pv i σ H → g x σ H fun σ2 H2 => tb { D with nx := Pv (i + 1), ct := Pv (i + 1), bk := D.nx } σ2 H2) (hd : ∀ σ H, Pv xs.length σ H → D.nx σ H) :
   ∃ W : Nat → Nat → St → Hp → Prop, (∃ m, W 0 m σ H) ∧ ∀ i m σ H, W i m σ H →
     ((Itl K a).stop i H ∧ D.nx σ H) ∨ ((Itl K a).go i H ∧ ∃ N : St → Hp → Prop, (∀ σ' H', N σ' H' → ∃ m', m' < m ∧ W (i + 1) m' σ' H') ∧ ∀ x H', (Itl K a).yld i H x H' → g x σ H' fun σ2 H2 => tb { D with nx := N, ct := N, bk := D.nx } σ2 H2) := by
 refine ⟨fun i m σ H => m = xs.length - i ∧ i ≤ xs.length ∧ Pv i σ H, ⟨xs.length, by simp, Nat.zero_le _, h0⟩, ?_⟩
 rintro i m σ H ⟨rfl, hi, p⟩
 have q := hl i σ H hi p
 by_cases hlt : i < xs.length
 · refine .inr ⟨⟨xs, xs[i], q, by simp [hlt]⟩, Pv (i + 1), fun σ' H' p' => ⟨xs.length - (i + 1), by omega, rfl, hlt, p'⟩, fun x H' y => ?_⟩
   obtain ⟨e, y⟩ := y
   subst e
   exact hs i x σ _ (y xs q) p
 · have e : i = xs.length := by omega
   subst e
   exact .inl ⟨⟨xs, q, Nat.le_refl _⟩, hd σ H p⟩
theorem jl8 {lo : Int} {n : Nat} {g : TG} {tb : TS} {D : Ends} {σ : St} {H : Hp} (Pv : Nat → St → Hp → Prop) (h0 : Pv 0 σ H)
   (hs : ∀ i σ H, i < n → Pv i σ H → g (.int (lo + i)) σ H fun σ2 H2 => tb { D with nx := Pv (i + 1), ct := Pv (i + 1), bk := D.nx } σ2 H2) (hd : ∀ σ H, Pv n σ H → D.nx σ H) :
   ∃ W : Nat → Nat → St → Hp → Prop, (∃ m, W 0 m σ H) ∧ ∀ i m σ H, W i m σ H →
     ((Itr lo n).stop i H ∧ D.nx σ H) ∨ ((Itr lo n).go i H ∧ ∃ N : St → Hp → Prop, (∀ σ' H', N σ' H' → ∃ m', m' < m ∧ W (i + 1) m' σ' H') ∧ ∀ x H', (Itr lo n).yld i H x H' → g x σ H' fun σ2 H2 => tb { D with nx := N, ct := N, bk := D.nx } σ2 H2) := by
 refine ⟨fun i m σ H => m = n - i ∧ i ≤ n ∧ Pv i σ H, ⟨n, by simp, Nat.zero_le _, h0⟩, ?_⟩
 rintro i m σ H ⟨rfl, hi, p⟩
 by_cases hlt : i < n
 · refine .inr ⟨hlt, Pv (i + 1), fun σ' H' p' => ⟨n - (i + 1), by omega, rfl, hlt, p'⟩, fun x H' y => ?_⟩
   obtain ⟨e, y⟩ := y
   subst e y
   exact hs i σ _ hlt p
 · have e : i = n := by omega
   subst e
   exact .inl ⟨Nat.le_refl _, hd σ H p⟩
theorem jmK {c : TT} {tb : TS} {D : Ends} {σ : St} {H : Hp} (Pv : St → Hp → Prop) (μ : St → Hp → Nat) (h0 : Pv σ H)
    (hs : ∀ σ H, Pv σ H → c σ H fun b H1 => if b = true then tb { D with nx := fun σ' H' => Pv σ' H' ∧ μ σ' H' < μ σ H, ct := fun σ' H' => Pv σ' H' ∧ μ σ' H' < μ σ H, bk := D.nx } σ H1 else D.nx σ H1)
    (mono : ∀ σ H Q Q', (∀ b H1, Q b H1 → Q' b H1) → c σ H Q → c σ H Q') : jnj c tb D σ H := by
  refine ⟨fun m σ H => m = μ σ H ∧ Pv σ H, ⟨_, rfl, h0⟩, ?_⟩
  rintro m σ H ⟨rfl, p⟩
  refine mono σ H _ _ (fun b H1 q => ?_) (hs σ H p)
  cases b with
  | true => exact ⟨_, fun σ' H' ⟨p', l⟩ => ⟨_, l, rfl, p'⟩, q⟩
  | false => exact q
end L2
namespace L2
open PySem PySem.Spec PyProof.Rows
abbrev R2 := V → V → Hp → VK → Prop
def OpR (X : Cx) (f : Value → Value → Sem Value) (r : R2) : Prop :=
 ∀ (pins : List (Addr × Obj)) (s : Shared) (σ : St) (H : Hp) (x y : V) (v u : Value) (Q : VK), Inv X pins σ H s → RelV x v → RelV y u → r x y H Q →
   wpAny (model X.prog X.w) X.A (f v u) (EP X pins σ Q) X.xe s
def UnR (X : Cx) (f : Value → Sem Value) (r : V → Hp → VK → Prop) : Prop :=
 ∀ (pins : List (Addr × Obj)) (s : Shared) (σ : St) (H : Hp) (x : V) (v : Value) (Q : VK), Inv X pins σ H s → RelV x v → r x H Q →
   wpAny (model X.prog X.w) X.A (f v) (EP X pins σ Q) X.xe s
def jch (X : Cx) (f : Value) (r : List V → Hp → VK → Prop) : Prop :=
 ∀ (pins : List (Addr × Obj)) (s : Shared) (σ : St) (H : Hp) (xs : List V) (us : List Value) (Q : VK), Inv X pins σ H s → Vals xs us → r xs H Q →
   wpAny (model X.prog X.w) X.A (call f us) (EP X pins σ Q) X.xe s
def tOp (r : R2) (ta tb : TE) : TE := fun σ H Q => ta σ H fun x H1 => tb σ H1 fun y H2 => r x y H2 Q
def tUn (r : V → Hp → VK → Prop) (ta : TE) : TE := fun σ H Q => ta σ H fun x H1 => r x H1 Q
def rI (C : Int → Int → Prop) (g : Int → Int → V) : R2 := fun x y H Q => ∃ i j, x = .int i ∧ y = .int j ∧ C i j ∧ Q (g i j) H
def rI0 (g : Int → Int → V) : R2 := fun x y H Q => ∃ i j, x = .int i ∧ y = .int j ∧ Q (g i j) H
def rU (g : Int → V) : V → Hp → VK → Prop := fun x H Q => ∃ i, x = .int i ∧ Q (g i) H
section
variable {X : Cx} {a b c : Expr} {ta tb tc : TE} {pos : Pos}
theorem jqp (ha : PE X a ta) (hb : PE X b tb) {pins : List (Addr × Obj)} {s : Shared} {σ : St} {H : Hp} {R : V → V → Hp → Prop} (I : Inv X pins σ H s)
   (h : ta σ H fun x H1 => tb σ H1 fun y H2 => R x y H2) {Q : Value → Shared → Prop} {f : Value → Value → Sem Value}
   (hf : ∀ v u s2 x y H2, Inv X pins σ H2 s2 → RelV x v → RelV y u → R x y H2 → wpAny (model X.prog X.w) X.A (f v u) Q X.xe s2) :
   wpAny (model X.prog X.w) X.A (eval a X.env) (fun v s₁ => wpAny (model X.prog X.w) X.A (eval b X.env) (fun u s₂ => wpAny (model X.prog X.w) X.A (f v u) Q X.xe s₂) X.xe s₁) X.xe s := by
 refine thn (ha pins s σ H _ I h) fun v s1 ⟨x, H1, I1, r1, q1⟩ => ?_
 refine thn (hb pins s1 σ H1 _ I1 q1) fun u s2 ⟨y, H2, I2, r2, q2⟩ => ?_
 exact hf v u s2 x y H2 I2 r1 r2 q2
theorem jax {op : Operator} {r : R2} (ho : OpR X (binaryOp op) r) (ha : PE X a ta) (hb : PE X b tb) : PE X (.BinOp a op b pos) (tOp r ta tb) := by
 intro pins s σ H Q I h
 exact wpAny_BinOp (jqp ha hb I h fun v u s2 x y H2 I2 rx ry q => ho pins s2 σ H2 x y v u Q I2 rx ry q)
theorem jkR {op : UnaryOp} {r : V → Hp → VK → Prop} (ho : UnR X (unaryOp op) r) (ha : PE X a ta) : PE X (.UnaryOp op a pos) (tUn r ta) := by
 intro pins s σ H Q I h
 exact UnaryOp_ (thn (ha pins s σ H _ I h) fun v s1 ⟨x, H1, I1, r1, q1⟩ => ho pins s1 σ H1 x v Q I1 r1 q1)
theorem opI {f : Value → Value → Sem Value} {C : Int → Int → Prop} {g : Int → Int → Int}
   (rule : ∀ (i j : Int) (t u : Tok) (s : Shared) (Q : Value → Shared → Prop) (E : Value → Shared → Prop), C i j → Q (.int (g i j) s.toks) { s with toks := s.toks + 1 } → wpAny (model X.prog X.w) X.A (f (.int i t) (.int j u)) Q E s) :
   OpR X f (rI C fun i j => .int (g i j)) := by
 intro pins s σ H x y v u Q I rx ry h
 obtain ⟨i, j, rfl, rfl, hc, q⟩ := h
 obtain ⟨t, rfl⟩ := rx
 obtain ⟨t', rfl⟩ := ry
 exact rule i j t t' s _ _ hc ⟨.int (g i j), H, I.tok _, ⟨_, rfl⟩, q⟩
theorem jq4 {f : Value → Value → Sem Value} {g : Int → Int → Int}
   (rule : ∀ (i j : Int) (t u : Tok) (s : Shared) (Q : Value → Shared → Prop) (E : Value → Shared → Prop), Q (.int (g i j) s.toks) { s with toks := s.toks + 1 } → wpAny (model X.prog X.w) X.A (f (.int i t) (.int j u)) Q E s) :
   OpR X f (rI0 fun i j => .int (g i j)) := by
 intro pins s σ H x y v u Q I rx ry h
 obtain ⟨i, j, rfl, rfl, q⟩ := h
 obtain ⟨t, rfl⟩ := rx
 obtain ⟨t', rfl⟩ := ry
 exact rule i j t t' s _ _ ⟨.int (g i j), H, I.tok _, ⟨_, rfl⟩, q⟩
theorem jq0 {f : Value → Value → Sem Value} {g : Int → Int → Bool}
   (rule : ∀ (i j : Int) (t u : Tok) (s : Shared) (Q : Value → Shared → Prop) (E : Value → Shared → Prop), Q (.bool (g i j)) s → wpAny (model X.prog X.w) X.A (f (.int i t) (.int j u)) Q E s) :
   OpR X f (rI0 fun i j => .bl (g i j)) := by
 intro pins s σ H x y v u Q I rx ry h
 obtain ⟨i, j, rfl, rfl, q⟩ := h
 obtain ⟨t, rfl⟩ := rx
 obtain ⟨t', rfl⟩ := ry
 exact rule i j t t' s _ _ ⟨.bl (g i j), H, I, rfl, q⟩
def jrn (i j : Int) : Prop := 0 < j ∧ j < 1073741824
def jrv (i j : Int) : Prop := 0 ≤ j ∧ j ≤ 1000000 ∧ i.natAbs < 2 ^ 64
def jqC (i j : Int) : Prop := (-(2 ^ 64) < i ∧ i < 2 ^ 64) ∨ (-(2 ^ 64) < j ∧ j < 2 ^ 64)
theorem jqC.ok {i j : Int} (h : jqC i j) : IntMulOk i j := by
 rcases h with ⟨h1, h2⟩ | ⟨h1, h2⟩
 · exact .of_left (intBits_le_64 h1 h2)
 · exact .of_right (intBits_le_64 h1 h2)
theorem jcE : OpR X (binaryOp .Add) (rI0 fun i j => .int (i + j)) := jq4 fun _ _ _ _ _ _ _ q => add_int q
theorem jlR : OpR X (binaryOp .Sub) (rI0 fun i j => .int (i - j)) := jq4 fun _ _ _ _ _ _ _ q => sub_int q
theorem jgI : OpR X (binaryOp .Mult) (rI jqC fun i j => .int (i * j)) := opI fun _ _ _ _ _ _ _ hc q => mul_int q hc.ok
theorem jdy : OpR X (binaryOp .FloorDiv) (rI jrn fun i j => .int (i / j)) := opI fun i j _ _ _ _ _ hc q => by
 have h1 : (0 : Int) < j := hc.1
 have h2 : j < 1073741824 := hc.2
 exact floordiv_int (by omega) (by rw [Int.fdiv_eq_ediv_of_nonneg i (by omega)]; exact q) (.inl (PyProof.noPylong_small (by omega)))
theorem jcw : OpR X (binaryOp .Mod) (rI (fun _ j => 0 < j) fun i j => .int (i % j)) := opI fun i j _ _ _ _ _ hc q => by
 have h1 : (0 : Int) < j := hc
 exact mod_int' (by omega) (by rw [Int.fmod_eq_emod_of_nonneg i (by omega)]; exact q)
theorem jo4 : OpR X (binaryOp .Pow) (rI jrv fun i j => .int (i ^ j.toNat)) := opI fun _ _ _ _ _ _ _ hc q => pow_int_small hc.1 hc.2.1 hc.2.2 q
theorem unI {f : Value → Sem Value} {g : Int → Int}
   (rule : ∀ (i : Int) (t : Tok) (s : Shared) (Q : Value → Shared → Prop) (E : Value → Shared → Prop), Q (.int (g i) s.toks) { s with toks := s.toks + 1 } → wpAny (model X.prog X.w) X.A (f (.int i t)) Q E s) :
   UnR X f (rU fun i => .int (g i)) := by
 intro pins s σ H x v Q I rx h
 obtain ⟨i, rfl, q⟩ := h
 obtain ⟨t, rfl⟩ := rx
 exact rule i t s _ _ ⟨.int (g i), H, I.tok _, ⟨_, rfl⟩, q⟩
theorem jiL : UnR X (unaryOp .USub) (rU fun i => .int (-i)) := unI fun _ _ _ _ _ q => neg_int q
end
def jqW : V → V → Bool
 | .non, .non => true | .non, .int _ => true | .int _, .non => true | .non, .bl _ => true | .bl _, .non => true | .non, .str _ => true | .str _, .non => true
 | .int _, .int _ => true | .bl _, .bl _ => true | .str _, .str _ => true | .byt _, .byt _ => true
 | .int _, .str _ => true | .str _, .int _ => true | .bl _, .str _ => true | .str _, .bl _ => true
 | _, _ => false
def rEq : R2 := fun x y H Q => jqW x y = true ∧ Q (.bl (decide (x = y))) H
def rNe : R2 := fun x y H Q => jqW x y = true ∧ Q (.bl (!decide (x = y))) H
theorem jk0 {i j : Int} : decide (V.int i = V.int j) = (i == j) := by
 rw [Bool.eq_iff_iff]
 simp
theorem jnI {i j : Bool} : decide (V.bl i = V.bl j) = (i == j) := by
 rw [Bool.eq_iff_iff]
 simp
theorem jlo {i j : Str} : decide (V.str i = V.str j) = (i == j) := by
 rw [Bool.eq_iff_iff]
 simp
theorem jk5 {i j : Array UInt8} : decide (V.byt i = V.byt j) = (i.toList == j.toList) := by
 rw [Bool.eq_iff_iff]
 cases i
 cases j
 simp
section
variable {X : Cx} {a b c : Expr} {ta tb tc : TE} {pos : Pos}
theorem jaL {pins : List (Addr × Obj)} {σ : St} {H : Hp} {s : Shared} {Q : VK} {k k' : Bool} (I : Inv X pins σ H s) (q : Q (.bl k) H) (e : k = k') : EP X pins σ Q (.bool k') s := by
 subst e
 exact ⟨.bl k, H, I, rfl, q⟩
theorem jca : OpR X (compareOp .Eq) rEq := by
 intro pins s σ H x y v u Q I rx ry h
 obtain ⟨hs, q⟩ := h
 cases x with
 | non =>
   cases rx
   cases y with
   | non => cases ry; exact PySem.EqNone.eq_none_none (jaL I q (by simp))
   | bl j => cases ry; exact PySem.EqNone.eq_none_bool (jaL I q (by simp))
   | int j => obtain ⟨t', rfl⟩ := ry; exact PySem.EqNone.eq_none_int (jaL I q (by simp))
   | str j => obtain ⟨t', rfl⟩ := ry; exact PySem.EqNone.eq_none_str (jaL I q (by simp))
   | _ => exact absurd (show false = true from hs) Bool.false_ne_true
 | bl i =>
   cases rx
   cases y with
   | non => cases ry; exact PySem.EqNone.eq_bool_none (jaL I q (by simp))
   | bl j => cases ry; exact eq_bool (jaL I q jnI)
   | str j => obtain ⟨t', rfl⟩ := ry; exact PySem.EqMixed.eq_bool_str (jaL I q (by simp))
   | _ => exact absurd (show false = true from hs) Bool.false_ne_true
 | int i =>
   obtain ⟨t, rfl⟩ := rx
   cases y with
   | non => cases ry; exact PySem.EqNone.eq_int_none (jaL I q (by simp))
   | int j => obtain ⟨t', rfl⟩ := ry; exact eq_int (jaL I q jk0)
   | str j => obtain ⟨t', rfl⟩ := ry; exact PySem.EqMixed.eq_int_str (jaL I q (by simp))
   | _ => exact absurd (show false = true from hs) Bool.false_ne_true
 | str i =>
   obtain ⟨t, rfl⟩ := rx
   cases y with
   | non => cases ry; exact PySem.EqNone.eq_str_none (jaL I q (by simp))
   | bl j => cases ry; exact PySem.EqMixed.eq_str_bool (jaL I q (by simp))
   | int j => obtain ⟨t', rfl⟩ := ry; exact PySem.EqMixed.eq_str_int (jaL I q (by simp))
   | str j => obtain ⟨t', rfl⟩ := ry; exact eq_str (jaL I q jlo)
   | _ => exact absurd (show false = true from hs) Bool.false_ne_true
 | byt i =>
   obtain ⟨t, rfl⟩ := rx
   cases y with
   | byt j => obtain ⟨t', rfl⟩ := ry; exact PySem.W.eq_bytes (jaL I q jk5)
   | _ => exact absurd (show false = true from hs) Bool.false_ne_true
 | _ => cases y <;> exact absurd (show false = true from hs) Bool.false_ne_true
theorem jjg : OpR X (compareOp .NotEq) rNe := by
 intro pins s σ H x y v u Q I rx ry h
 obtain ⟨hs, q⟩ := h
 cases x with
 | non =>
   cases rx
   cases y with
   | non => cases ry; exact PySem.EqNone.ne_none_none (jaL I q (by simp))
   | bl j => cases ry; exact PySem.EqNone.ne_none_bool (jaL I q (by simp))
   | int j => obtain ⟨t', rfl⟩ := ry; exact PySem.EqNone.ne_none_int (jaL I q (by simp))
   | str j => obtain ⟨t', rfl⟩ := ry; exact PySem.EqNone.ne_none_str (jaL I q (by simp))
   | _ => exact absurd (show false = true from hs) Bool.false_ne_true
 | bl i =>
   cases rx
   cases y with
   | non => cases ry; exact PySem.EqNone.ne_bool_none (jaL I q (by simp))
   | bl j => cases ry; exact ne_bool (jaL I q (congrArg not jnI))
   | str j => obtain ⟨t', rfl⟩ := ry; exact PySem.EqMixed.ne_bool_str (jaL I q (by simp))
   | _ => exact absurd (show false = true from hs) Bool.false_ne_true
 | int i =>
   obtain ⟨t, rfl⟩ := rx
   cases y with
   | non => cases ry; exact PySem.EqNone.ne_int_none (jaL I q (by simp))
   | int j => obtain ⟨t', rfl⟩ := ry; exact ne_int (jaL I q (congrArg not jk0))
   | str j => obtain ⟨t', rfl⟩ := ry; exact PySem.EqMixed.ne_int_str (jaL I q (by simp))
   | _ => exact absurd (show false = true from hs) Bool.false_ne_true
 | str i =>
   obtain ⟨t, rfl⟩ := rx
   cases y with
   | non => cases ry; exact PySem.EqNone.ne_str_none (jaL I q (by simp))
   | bl j => cases ry; exact PySem.EqMixed.ne_str_bool (jaL I q (by simp))
   | int j => obtain ⟨t', rfl⟩ := ry; exact PySem.EqMixed.ne_str_int (jaL I q (by simp))
   | str j => obtain ⟨t', rfl⟩ := ry; exact ne_str (jaL I q (congrArg not jlo))
   | _ => exact absurd (show false = true from hs) Bool.false_ne_true
 | byt i =>
   obtain ⟨t, rfl⟩ := rx
   cases y with
   | byt j => obtain ⟨t', rfl⟩ := ry; exact PySem.W.ne_bytes (jaL I q (congrArg not jk5))
   | _ => exact absurd (show false = true from hs) Bool.false_ne_true
 | _ => cases y <;> exact absurd (show false = true from hs) Bool.false_ne_true
theorem jft : OpR X (compareOp .Lt) (rI0 fun i j => .bl (decide (i < j))) := jq0 fun _ _ _ _ _ _ _ q => lt_int q
theorem jfZ : OpR X (compareOp .Gt) (rI0 fun i j => .bl (decide (j < i))) := jq0 fun _ _ _ _ _ _ _ q => gt_int q
theorem jl4 : OpR X (compareOp .In) (fun x y H Q => ∃ i j, x = .str i ∧ y = .str j ∧ Q (.bl (!(Builtin.Str.occurrences j i 0 j.length 1).isEmpty)) H) := by
 intro pins s σ H x y v u Q I rx ry h
 obtain ⟨i, j, rfl, rfl, q⟩ := h
 obtain ⟨t, rfl⟩ := rx
 obtain ⟨t', rfl⟩ := ry
 exact in_str (jaL I q rfl)
theorem jou : OpR X (compareOp .IsNot) (fun x y H Q => y = .non ∧ Q (.bl (!decide (x = .non))) H) := by
 intro pins s σ H x y v u Q I rx ry h
 obtain ⟨rfl, q⟩ := h
 cases ry
 refine isnot_none_gen (jaL I q ?_)
 cases x <;> first
   | (cases rx; rfl)
   | (obtain ⟨t, rfl⟩ := rx; rfl)
theorem jas (b : Expr) {op : CmpOp} (h : op ≠ .In := by decide) (h2 : op ≠ .NotIn := by decide) : behindInMarks op b = false := by
  have e1 : (op == CmpOp.In) = false := by cases op <;> first | rfl | exact absurd rfl h
  have e2 : (op == CmpOp.NotIn) = false := by cases op <;> first | rfl | exact absurd rfl h2
  cases b <;> simp [behindInMarks, e1, e2]
theorem jjc {op : CmpOp} {r : R2} (ho : OpR X (compareOp op) r) (ha : PE X a ta) (hb : PE X b tb) (hm : behindInMarks op b = false) : PE X (.Compare a [op] [b] pos) (tOp r ta tb) := by
 intro pins s σ H Q I h
 exact wpAny_Compare1 (jqp ha hb I h fun v u s2 x y H2 I2 rx ry q => ho pins s2 σ H2 x y v u Q I2 rx ry q) hm
def joT (t : TE) : TT := fun σ H Q => t σ H fun x H' => ∃ k, x = .bl k ∧ Q k H'
theorem jak {op : CmpOp} {r : R2} (ho : OpR X (compareOp op) r) (ha : PE X a ta) (hb : PE X b tb) (hm : behindInMarks op b = false) : PT X (.Compare a [op] [b] pos) (joT (tOp r ta tb)) := by
 intro pins s σ H Q I h
 refine wpAny_isTrue_Compare1 (thn (ha pins s σ H _ I h) fun v s1 ⟨x, H1, I1, r1, q1⟩ => thn (hb pins s1 σ H1 _ I1 q1) fun u s2 ⟨y, H2, I2, r2, q2⟩ =>
   thn (ho pins s2 σ H2 x y v u _ I2 r1 r2 q2) fun c s3 ⟨z, H3, I3, r3, k, e, q3⟩ => ?_) hm
 subst e
 cases r3
 exact wpAny_truthy_bool ⟨H3, I3, q3⟩
theorem jh0 : (sizeLine : Nat) < 2 ^ 63 := by rw [sizeLine_eq]; decide
theorem jkf : OpR X (binaryOp .Add) (fun x y H Q => ∃ i j, x = .str i ∧ y = .str j ∧ i.length + j.length ≤ sizeLine ∧ Q (.str (i ++ j)) H) := by
 intro pins s σ H x y v u Q I rx ry h
 obtain ⟨i, j, rfl, rfl, hz, q⟩ := h
 obtain ⟨t, rfl⟩ := rx
 obtain ⟨t', rfl⟩ := ry
 exact add_str (fun t' tk => ⟨.str (i ++ j), H, I.tok _, ⟨_, rfl⟩, q⟩) hz
theorem vals1 {x : V} {us : List Value} (r : Vals [x] us) : ∃ u, us = [u] ∧ RelV x u := by
 cases r with
 | cons r1 r2 => cases r2; exact ⟨_, rfl, r1⟩
theorem vals2 {x y : V} {us : List Value} (r : Vals [x, y] us) : ∃ u w', us = [u, w'] ∧ RelV x u ∧ RelV y w' := by
 cases r with
 | cons r1 r2 =>
   cases r2 with
   | cons r3 r4 => cases r4; exact ⟨_, _, rfl, r1, r3⟩
theorem jnb : jch X (.builtin "abs") (fun xs H Q => ∃ i, xs = [.int i] ∧ Q (.int (if i < 0 then -i else i)) H) := by
 intro pins s σ H xs us Q I r h
 obtain ⟨i, rfl, q⟩ := h
 obtain ⟨u, rfl, t, rfl⟩ := vals1 r
 exact call_abs_int fun u tk => ⟨.int (if i < 0 then -i else i), H, I.tok _, ⟨_, rfl⟩, q⟩
theorem jlG (hc : X.calm = true) : jch X (.builtin "min") (fun xs H Q => ∃ i j, xs = [.int i, .int j] ∧ Q (.int (if j < i then j else i)) H) := by
 intro pins s σ H xs us Q I r h
 obtain ⟨i, j, rfl, q⟩ := h
 obtain ⟨u, w', rfl, ⟨t, rfl⟩, ⟨t', rfl⟩⟩ := vals2 r
 refine min_two_ints (I.ok.hd hc) fun h' tk k => ⟨_, H, I.kept k, ?_, q⟩
 by_cases hj : j < i
 · rw [if_pos hj, if_pos hj]; exact ⟨_, rfl⟩
 · rw [if_neg hj, if_neg hj]; exact ⟨_, rfl⟩
end
end L2
namespace L2
open PySem PySem.Spec PyProof.Rows
section
variable {prog : Program} {w : World} {A : Around} {E : Value → Shared → Prop} {s : Shared} {K : PySem.W.Frag} {x dx C f : Addr} {mA : Str → Option Value} {name : Str} {v : Value}
end
section
variable {P : Program} {w : World} {H H' : Hp} {h h' : Heap} {a C dx : Addr} {fs fs' : List (Str × V)}
end
section
variable {X : Cx} {pins : List (Addr × Obj)} {σ : St} {H : Hp} {s : Shared} {a C dx : Addr} {fs : List (Str × V)} {f : Str} {v : V} {A : Around} {E : Value → Shared → Prop}
end
section
variable {X : Cx} {o e value : Expr} {f : Str} {pos pos' tpos : Pos} {ta tv : TE}
end
section
variable {X : Cx} {pins : List (Addr × Obj)} {σ : St} {H : Hp} {s : Shared} {A : Around} {E : Value → Shared → Prop} {Q : Value → Shared → Prop} {c : Value} {b : Bool}
end
end L2
namespace L2
open PySem PySem.Spec PyProof.Rows
structure je5 (k : Nat) (A : Around) : Prop where
 hd : A.handled = none
 dp : A.depth + 3 * k + 5 < recursionLimit
 un : A.units + 16 * k + 200 < cLine
theorem je5.mono {j k : Nat} {A : Around} (r : je5 k A) (h : j ≤ k) : je5 j A := ⟨r.hd, by have := r.dp; omega, by have := r.un; omega⟩
theorem je5.deeper {k : Nat} {A : Around} (r : je5 (k + 1) A) (env : Env) : je5 k (A.deeper env) :=
 ⟨r.hd, by have := r.dp; show A.depth + 1 + 3 * k + 5 < _; omega, by have := r.un; show A.units + 3 + 16 * k + 200 < _; omega⟩
theorem je5.depth {k : Nat} {A : Around} (r : je5 k A) : A.depth < recursionLimit := by have := r.dp; omega
theorem je5.units {k : Nat} {A : Around} (r : je5 k A) : A.units + 64 < cLine := by have := r.un; omega
def jqe : TA := fun _ H Q => Q [] H
def jmt (ta : TE) (tr : TA) : TA := fun σ H Q => ta σ H fun x H1 => tr σ H1 fun xs H2 => Q (x :: xs) H2
section
variable {X : Cx} {e : Expr} {es : List Expr} {te : TE} {t : TA} {pos : Pos}
theorem jab : PA X [] jqe := fun _ _ _ _ H Q I h => Calls.spliced_nil ⟨[], H, I, .nil, h⟩
theorem jaa (ha : PE X e te) (hr : PA X es t) (hs : starEach (e :: es) X.env = (false, eval e X.env) :: starEach es X.env := by rfl) : PA X (e :: es) (jmt te t) := by
  intro pos pins s σ H Q I h
  rw [hs]
  show wpAny _ _ (spliced ((false, eval e X.env) :: backTo pos (starEach es X.env))) _ _ s
  refine Calls.spliced_cons (thn (ha pins s σ H _ I h) fun u s1 ⟨x, H1, I1, r1, q1⟩ => ?_)
  exact thn (hr pos pins s1 σ H1 _ I1 q1) fun us s2 ⟨xs, H2, I2, r2, q2⟩ => ⟨x :: xs, H2, I2, .cons r1 r2, q2⟩
def jqX (t : TA) : TE := fun σ H Q => t σ H fun xs H1 => xs.length ≤ sizeLine ∧ ∀ p, H1 p = none → Q (.ref p) (upd H1 p (.tup xs))
def jrb (t : TA) : TE := fun σ H Q => t σ H fun xs H1 => xs.length ≤ sizeLine ∧ ∀ p, H1 p = none → Q (.ref p) (upd H1 p (.lst xs))
theorem jlj {x1} (h : PA X es t) : PE X (.Tuple es x1 pos) (jqX t) := by
 intro pins s σ H Q I hq
 refine wpAny_Tuple_spliced (thn (h pos pins s σ H _ I hq) fun us s1 ⟨xs, H1, I1, r, z, q⟩ => ⟨by rw [← r.length]; exact z, ?_⟩)
 have hf : H1 s1.heap.objs.size = none := I1.hok.fresh (Nat.le_refl _)
 refine ⟨.ref s1.heap.objs.size, upd H1 s1.heap.objs.size (.tup xs), I1.laid (t' := s1.toks) (fun b u e => Heap.get?_push_of_some _ e) (Nat.le_refl _) ?_, rfl, q _ hf⟩
 exact ⟨z, us, r, ⟨_, Heap.get?_push_size _ rfl, rfl, _, rfl⟩⟩
theorem jaU (h : PA X es t) : PE X (.List es pos) (jrb t) := by
 intro pins s σ H Q I hq
 refine wpAny_List_spliced (thn (h pos pins s σ H _ I hq) fun us s1 ⟨xs, H1, I1, r, z, q⟩ => ⟨by rw [← r.length]; exact z, ?_⟩)
 have hf : H1 s1.heap.objs.size = none := I1.hok.fresh (Nat.le_refl _)
 refine ⟨.ref s1.heap.objs.size, upd H1 s1.heap.objs.size (.lst xs), I1.laid (t' := s1.toks) (fun b u e => Heap.get?_push_of_some _ e) (Nat.le_refl _) ?_, rfl, q _ hf⟩
 exact ⟨z, us, 0, r, Heap.get?_push_size _ rfl⟩
end
abbrev Sp := List V → Hp → VK → XK → Prop
abbrev CXT := List Env → Hp → Shared → XK → Value → Shared → Prop
structure jnO (P : Program) (w : World) (K : PySem.W.Frag) (mg : Str → Option Value) (base : Heap) (A : Around) (outer : List Env) (s : Shared) (H : Hp) : Prop where
 frames : A.frames = some outer
 mod : Mod K mg base
 bs : ∀ b o, base.get? b = some o → s.heap.get? b = some o ∧ H b = none
 bsz : base.objs.size ≤ s.heap.objs.size
 funs : s.heap.FunFrames base outer
 frf : ∀ b ∈ frs outer, H b = none
 hok : HOk P w H s.heap
 bare : AllBare s.gens
def CE (outer : List Env) (P : Program) (w : World) (H : Hp) (s : Shared) (Q : VK) (u : Value) (s' : Shared) : Prop :=
 ∃ v H', s'.os = s.os ∧ AllBare s'.gens ∧ Un (frs outer) [] H H' s.heap s'.heap ∧ HOk P w H' s'.heap ∧ RelV v u ∧ Q v H'
def CR (CX : CXT) (outer : List Env) (P : Program) (w : World) (H : Hp) (s : Shared) (Q : VK) (E : XK) (r : Result) (s' : Shared) : Prop :=
 match r with
 | .ok (.ret u) => CE outer P w H s Q u s'
 | .ok _ => False
 | .error e => CX outer H s E e s'
structure jbf (P : Program) (w : World) (K : PySem.W.Frag) (mg : Str → Option Value) (base : Heap) (CX : CXT) (k : Nat) (f : Addr) (fd : FuncData) (ps : List Str) (sp : Sp) : Prop where
 len : ∀ vs H Q E, sp vs H Q E → vs.length = ps.length
 run : ∀ (A : Around) (outer : List Env) (s : Shared) (H : Hp) (args : Args) (us : List Value) (vs : List V) (Q : VK) (E : XK), je5 k A → jnO P w K mg base A outer s H → BindsTo s fd args (ps.zip us) → Vals vs us → sp vs H Q E →
   codeAny (model P w) A (.call (.ref f) args) (CR CX outer P w H s Q E) s
section
variable {X : Cx} {pins : List (Addr × Obj)} {σ : St} {H : Hp} {s s' : Shared}
theorem Inv.env0 (I : Inv X pins σ H s) : jnO X.prog X.w X.K X.mg X.base X.A X.stack s H :=
 ⟨I.ok.frames, I.ok.mod, I.bs, Nat.le_trans I.ok.bsz I.sz, I.stack, I.stkFree, I.hok, I.bare⟩
theorem Inv.after {Q : VK} {u : Value} (I : Inv X pins σ H s) (h : CE X.stack X.prog X.w H s Q u s') : EP X pins σ Q u s' := by
 obtain ⟨v, H', os, bare, un, hok, r, q⟩ := h
 obtain ⟨hh, g, d, t, os'⟩ := s'
 obtain rfl : os' = s.os := os
 exact ⟨v, H', I.call (h' := hh) (g' := g) (d' := d) (t' := t) (ch := []) un hok bare (fun b z => absurd z (by simp)), r, q⟩
end
def jkw (sp : Sp) (dvs : List V) (E : XK) (t : TA) : TE := fun σ H Q => t σ H fun vs H1 => sp (vs ++ dvs) H1 Q E
def Binds (K : PySem.W.Frag) (fd : FuncData) (ps : List Str) (ds : List Value) : Prop :=
 ∀ (s : Shared) (us : List Value), K.In s.heap → (us ++ ds).length = ps.length → BindsTo s fd ⟨us, []⟩ (ps.zip (us ++ ds))
theorem Binds.all {K : PySem.W.Frag} {fd : FuncData} {ps : List Str} (h : ∀ us : List Value, us.length = ps.length → bindArgs fd ⟨us, []⟩ = pure (ps.zip us)) : Binds K fd ps [] := fun s us _ hl => by
 rw [List.append_nil] at hl ⊢
 exact .of_eq (h us hl)
def jgC (CX : CXT) (X : Cx) (E : XK) : Prop := ∀ (pins : List (Addr × Obj)) (σ : St) (H : Hp) (s : Shared) (e : Value) (s' : Shared), Inv X pins σ H s → CX X.stack H s E e s' → X.xe e s'
section
variable {X : Cx} {CX : CXT} {k : Nat} {f C : Addr} {fd : FuncData} {ps : List Str} {sp : Sp} {dvs : List V} {ds : List Value} {E : XK} {x m : Str} {p pos apos : Pos} {e o : Expr} {es : List Expr} {ta : TE} {t : TA}
theorem jpr {pins : List (Addr × Obj)} {σ : St} {H : Hp} {s : Shared} {Q : VK} {us : List Value} {vs : List V} (F : jbf X.prog X.w X.K X.mg X.base CX k f fd ps sp) (hr : je5 k X.A) (hb : Binds X.K fd ps ds) (hd : Vals dvs ds) (hx : jgC CX X E)
   (I : Inv X pins σ H s) (r : Vals vs us) (h : sp (vs ++ dvs) H Q E) : wpAny (model X.prog X.w) X.A (call (.ref f) us) (EP X pins σ Q) X.xe s := by
 have r2 : Vals (vs ++ dvs) (us ++ ds) := r.append hd
 have hl : (us ++ ds).length = ps.length := by rw [← r2.length]; exact F.len _ _ _ _ h
 refine wpAny_call (codeAny_mono (F.run X.A X.stack s H ⟨us, []⟩ (us ++ ds) (vs ++ dvs) Q E hr I.env0 (hb s us I.kIn hl) r2 h) fun r s' hq => ?_)
 cases r with
 | error e => exact hx pins σ H s e s' I hq
 | ok fl =>
   cases fl with
   | ret u => exact I.after hq
   | next => exact False.elim hq
   | brk => exact False.elim hq
   | cont => exact False.elim hq
theorem jl7 (F : jbf X.prog X.w X.K X.mg X.base CX k f fd ps sp) (hr : je5 k X.A) (hg : Gl X x) (hm : X.mg x = some (.ref f)) (hk : PySem.W.keepIn X.K (.ref f) = true) (hb : Binds X.K fd ps ds) (hd : Vals dvs ds) (hx : jgC CX X E)
   (ha : PA X (e :: es) t) (hdb : (x == ("__debug__" : Str)) = false := by decide) (he : starEach (e :: es) X.env = (false, eval e X.env) :: starEach es X.env := by rfl) (hpl : (backTo pos (starEach es X.env)).any (·.1) = false := by rfl) :
   PE X (.Call (.Name x p) (e :: es) [] pos) (jkw sp dvs E t) := by
 intro pins s σ H Q I h
 refine wpAny_Call_Name_kw (jfO I hg hm ?_ hdb)
 refine PySem.W.callWith_K (h₀ := X.base) I.ok.mod.kin hk (thn (ha pos pins s σ H _ I h) fun us s1 ⟨vs, H1, I1, r, q⟩ => ⟨I1.kIn, ?_⟩) he hpl
 exact jpr F hr hb hd hx I1 r q
end
section
variable {X : Cx} {CX : CXT} {k : Nat} {f C : Addr} {fd : FuncData} {ps ks : List Str} {sp : Sp} {E : XK} {x m : Str} {p pos apos kpos : Pos} {e o : Expr} {es : List Expr} {kws : List Keyword} {te ta : TE} {t tk : TA} {nm : Option Str}
variable {g : List Value → List Value → List Value} {gV : List V → List V → List V}
end
structure jan (N P : List Str) (sc : Scope) : Prop where
 kind : sc.kind = .function
 co : sc.isCoroutine = false
 gen : sc.isGenerator = false
 nd : N.Nodup
 pre : N.take P.length = P
 par : ∀ x ∈ P, sc.names.lookup x = some .local ∨ sc.names.lookup x = some .cell
 nofree : ∀ y ∈ sc.names, y.2 ≠ .free
theorem jiN {kindOf : Str → Option NameKind} {x : Str} : ∀ {binds : List (Str × Value)} {m : Str → Option Value}, (∀ v, (x, v) ∉ binds) → bindL kindOf binds m x = m x
 | [], _, _ => rfl
 | (n, v) :: r, m, h => by
   unfold bindL
   rw [jiN fun w hw => h w (List.mem_cons_of_mem _ hw)]
   split
   · have : x ≠ n := by rintro rfl; exact h v List.mem_cons_self
     simp [this]
   · rfl
theorem jik {kindOf : Str → Option NameKind} {x : Str} : ∀ {binds : List (Str × Value)} {m : Str → Option Value}, (∀ v, (x, v) ∉ binds) → bindC kindOf binds m x = m x
 | [], _, _ => rfl
 | (n, v) :: r, m, h => by
   unfold bindC
   rw [jik fun w hw => h w (List.mem_cons_of_mem _ hw)]
   split
   · rfl
   · have : x ≠ n := by rintro rfl; exact h v List.mem_cons_self
     simp [this]
theorem jiy {kindOf : Str → Option NameKind} {x : Str} {v : Value} : ∀ {P : List Str} {vs : List Value} {i : Nat} {m : Str → Option Value}, P.Nodup → P[i]? = some x → vs[i]? = some v → kindOf x = some .local →
   bindL kindOf (P.zip vs) m x = some v
 | [], _, _, _, _, h, _, _ => by simp at h
 | _ :: _, [], _, _, _, _, h, _ => by simp at h
 | p :: P, w :: vs, 0, m, nd, h1, h2, hk => by
   simp at h1 h2; subst h1; subst h2
   show bindL kindOf ((p, w) :: P.zip vs) m p = _
   unfold bindL
   rw [jiN fun v hv => (List.nodup_cons.mp nd).1 (List.of_mem_zip hv).1, if_pos hk]
   simp
 | p :: P, w :: vs, i + 1, m, nd, h1, h2, hk => by
   show bindL kindOf ((p, w) :: P.zip vs) m x = _
   unfold bindL
   exact jiy (i := i) (List.nodup_cons.mp nd).2 (by simpa using h1) (by simpa using h2) hk
theorem jhV {kindOf : Str → Option NameKind} {x : Str} {v : Value} : ∀ {P : List Str} {vs : List Value} {i : Nat} {m : Str → Option Value}, P.Nodup → P[i]? = some x → vs[i]? = some v → kindOf x ≠ some .local →
   bindC kindOf (P.zip vs) m x = some v
 | [], _, _, _, _, h, _, _ => by simp at h
 | _ :: _, [], _, _, _, _, h, _ => by simp at h
 | p :: P, w :: vs, 0, m, nd, h1, h2, hk => by
   simp at h1 h2; subst h1; subst h2
   show bindC kindOf ((p, w) :: P.zip vs) m p = _
   unfold bindC
   rw [jik fun v hv => (List.nodup_cons.mp nd).1 (List.of_mem_zip hv).1, if_neg hk]
   simp
 | p :: P, w :: vs, i + 1, m, nd, h1, h2, hk => by
   show bindC kindOf ((p, w) :: P.zip vs) m x = _
   unfold bindC
   exact jhV (i := i) (List.nodup_cons.mp nd).2 (by simpa using h1) (by simpa using h2) hk
def start (N : List Str) (vs : List V) : St := vs.map some ++ List.replicate (N.length - vs.length) none
def jbu (CX : CXT) (P : Program) (w : World) (K : PySem.W.Frag) (mg : Str → Option Value) (base : Heap) (N : List Str) (qual : Str) (scope : Scope) (f : Addr) (cd : Value) (A : Around) (outer : List Env) (s : Shared) (H : Hp) (E : XK) : Cx where
 prog := P
 w := w
 K := K
 mg := mg
 base := base
 A := A.deeper (envOfC qual scope s.heap.objs.size f cd)
 N := N
 s₀ := s
 H₀ := H
 env := envOfC qual scope s.heap.objs.size f cd
 outer := outer
 stack := envOfC qual scope s.heap.objs.size f cd :: outer
 ex := []
 calm := true
 fn := fun _ => true
 pn := []
 xe := fun e s' => wpAny (model P w) (A.deeper (envOfC qual scope s.heap.objs.size f cd)) (leaving (envOfC qual scope s.heap.objs.size f cd) e) (fun _ s'' => CX outer H s E e s'') (fun e' s'' => CX outer H s E e' s'') s'
theorem jj1 {sc : Scope} {n : Nat} {x : Str} (h : sc.names.lookup x = some .cell) : ∃ c, (cellsFrom n sc.names []).lookup x = some c := by
 have q := PySem.W.cellsFrom_some sc.names n [] (.inl h)
 exact Option.isSome_iff_exists.mp q
theorem jiE {CX : CXT} {P : Program} {w : World} {K : PySem.W.Frag} {mg : Str → Option Value} {base : Heap} {N ps : List Str} {qual : Str} {scope : Scope} {f : Addr} {cd : Value} {A : Around} {outer : List Env} {s s1 : Shared} {H : Hp} {E : XK} {us : List Value} {vs : List V}
   (S : jan N ps scope) (hd : A.handled = none) (e0 : jnO P w K mg base A outer s H) (hl : vs.length = ps.length) (r : Vals vs us)
   (x : InCallC s s.heap.objs.size (bindL (envOfC qual scope s.heap.objs.size f cd).kindOf (ps.zip us) fun _ => none) (cellsFrom (s.heap.objs.size + 1) scope.names []) (bindC (envOfC qual scope s.heap.objs.size f cd).kindOf (ps.zip us) fun _ => none) s1) :
   Inv (jbu CX P w K mg base N qual scope f cd A outer s H E) [] (start N vs) H s1 := by
 have hpl : ps.length ≤ N.length := by have := congrArg List.length S.pre; rw [List.length_take] at this; omega
 obtain ⟨h1, tk, rfl, hk⟩ := x.done
 have noA : ∀ b : Addr, b ∉ (jbu CX P w K mg base N qual scope f cd A outer s H E).ex := fun b z => absurd (show b ∈ ([] : List Addr) from z) (by simp)
 refine ⟨⟨e0.mod, S.kind, rfl, rfl, Nat.le_refl _, fun y z c h1 h2 => ?_, fun y hy => ?_, fun y c _ h => ?_, fun _ => hd, Around.frames_deeper e0.frames, .inr ⟨rfl, rfl⟩, fun b z => absurd z (noA b), e0.bs, e0.bsz, fun b _ _ => noA b, fun b z => absurd z (noA b), e0.funs, e0.frf⟩,
   rfl, e0.bare, Un.kept hk, ⟨_, x.toInCall.ns, fun i y v h1 h2 h3 => ?_⟩, fun y c h => ⟨_, x.cell y c h⟩, e0.hok.fresh (Nat.le_refl _), fun y c h => ?_, fun p hp => absurd (show p ∈ ([] : List (Addr × Obj)) from hp) (by simp), e0.hok.kept hk, ?_⟩
 · exact name_of_addr x.apart (PySem.mem_of_lookup h1) (PySem.mem_of_lookup h2)
 · have hy : scope.names.lookup y = some .cell ∨ scope.names.lookup y = some .free := hy
   rcases hy with hy | hy
   · exact jj1 hy
   · exact absurd rfl (S.nofree _ (PySem.mem_of_lookup hy))
 · exact Nat.le_of_lt (x.above y c (PySem.mem_of_lookup h))
 · have hi : i < vs.length := by
     unfold start at h2
     by_cases hi : i < vs.length
     · exact hi
     · rw [List.getElem?_append_right (by simpa using hi)] at h2
       rw [List.getElem?_replicate] at h2
       split at h2 <;> cases h2
   have ha : vs[i]? = some v := by
     unfold start at h2
     rw [List.getElem?_append_left (by simpa using hi), List.getElem?_map] at h2
     cases e : vs[i]? with
     | none => rw [e] at h2; cases h2
     | some a => rw [e] at h2; cases h2; rfl
   obtain ⟨u, hu, rv⟩ := r.get ha
   have hp : ps[i]? = some y := by
     rw [← S.pre, List.getElem?_take_of_lt (by omega)]; exact h1
   have ndP : ps.Nodup := by rw [← S.pre]; exact S.nd.sublist (List.take_sublist _ _)
   refine ⟨u, rv, ?_⟩
   rcases S.par y (List.mem_of_getElem? hp) with k | k
   · exact .inl ⟨k, jiy ndP hp hu k⟩
   · obtain ⟨c, e⟩ := jj1 (n := s.heap.objs.size + 1) k
     refine .inr ⟨.inl k, c, e, ?_⟩
     have q := x.cell y c e
     rw [jhV ndP hp hu (by show scope.names.lookup y ≠ _; rw [k]; decide)] at q
     exact q
 · exact e0.hok.fresh (Nat.le_of_lt (x.above y c (PySem.mem_of_lookup h)))
 · unfold start
   show _ = N.length
   rw [List.length_append, List.length_map, List.length_replicate]
   omega
theorem jpd {CX : CXT} {P : Program} {w : World} {K : PySem.W.Frag} {mg : Str → Option Value} {base : Heap} {k : Nat} {f : Addr} {name qual : Str} {params : Arguments} {body : List Stmt} {scope : Scope} {dV kV doc pm cdv ct oc : Value} {an od : Option Addr}
   {osl : Array (Option Value)} {N ps : List Str} {sp : Sp} (lk : K.lookup f = some ⟨oc, od, .func (PySem.W.fnOf name qual params body scope dV kV doc pm an cdv ct), osl⟩) (hcd : PySem.W.codeIn K cdv qual = true) (S : jan N ps scope)
   (len : ∀ vs H Q E, sp vs H Q E → vs.length = ps.length)
   (hbody : ∀ (A : Around) (outer : List Env) (s : Shared) (H : Hp) (vs : List V) (Q : VK) (E : XK), je5 k (A.deeper (envOfC qual scope s.heap.objs.size f cdv)) → sp vs H Q E →
     ∃ t, PSs (jbu CX P w K mg base N qual scope f cdv A outer s H E) body t ∧ t { nx := fun _ H' => Q .non H', rt := Q } (start N vs) H) :
   jbf P w K mg base CX (k + 1) f (PySem.W.fnOf name qual params body scope dV kV doc pm an cdv ct) ps sp := by
 refine ⟨len, fun A outer s H args us vs Q E hr e0 hb r hsp => ?_⟩
 have hl := len _ _ _ _ hsp
 have KX : K.In s.heap := e0.mod.kin.keeps fun b o e => (e0.bs b o e).1
 have lim : s.heap.NoLimit := e0.mod.nolimit.keeps fun b o e => (e0.bs b o e).1
 have hkind : ∀ y ∈ ps.zip us, scope.names.lookup y.1 = some .local ∨ (scope.names.lookup y.1 = some .cell ∧ ((cellsFrom (s.heap.objs.size + 1) scope.names []).lookup y.1).isSome = true) := fun ⟨n, v⟩ hy => by
   rcases S.par n (List.of_mem_zip hy).1 with q | q
   · exact .inl q
   · exact .inr ⟨q, PySem.W.cellsFrom_some _ _ _ (.inl q)⟩
 refine codeAny_call_function hr.depth (KX _ _ lk) rfl S.co S.gen rfl (PySem.W.codeRec_of KX hcd) (hb _ _ _ _ ?_)
 refine wpAny_newFunctionEnv_cells S.kind hkind fun env he s1 x => ?_
 subst he
 refine ⟨lim.keeps x.toInCall.keep, codeAny_func ?_⟩
 obtain ⟨t, ht, hq⟩ := hbody A outer s H vs Q E (hr.deeper _) hsp
 have I : Inv (jbu CX P w K mg base N qual scope f cdv A outer s H E) [] (start N vs) H s1 := jiE S hr.hd e0 hl r x
 refine wpAny_mono (ht [] s1 (start N vs) H _ I hq) (fun fl s' hs => ?_) fun e s' hs => hs
 have fin : ∀ {σ' : St} {H' : Hp} {v : V} {u : Value}, Inv (jbu CX P w K mg base N qual scope f cdv A outer s H E) [] σ' H' s' → RelV v u → Q v H' → CE outer P w H s Q u s' :=
   fun {σ' H' v u} J rv q => ⟨v, H', J.os, J.bare, J.base, J.hok, rv, q⟩
 cases fl with
 | ret u =>
   obtain ⟨v, σ', H', J, rv, q⟩ := hs
   exact fin J rv q
 | next =>
   obtain ⟨σ', H', J, q⟩ := hs
   exact fin (v := V.non) (u := Value.none) J rfl q
 | brk =>
   obtain ⟨_, _, _, q⟩ := hs
   exact False.elim q
 | cont =>
   obtain ⟨_, _, _, q⟩ := hs
   exact False.elim q
end L2
namespace L2
open PySem PySem.Spec PyProof.Rows
section
variable {X : Cx} {x : Str} {p pos : Pos} {e : Expr} {es : List Expr} {t : TA} {id T : String} {r : List V → Hp → VK → Prop}
def tCB (r : List V → Hp → VK → Prop) (t : TA) : TE := fun σ H Q => t σ H fun vs H1 => r vs H1 Q
theorem jaj (hc : jch X (.builtin id) r) (hg : Gl X x) (hm : X.mg x = none) (hv : bootBuiltins x = some (.builtin id)) (ha : PA X (e :: es) t) (hn : x ≠ "__name__" := by decide) (hdb : (x == ("__debug__" : Str)) = false := by decide)
    (he : starEach (e :: es) X.env = (false, eval e X.env) :: starEach es X.env := by rfl) (hpl : (backTo pos (starEach es X.env)).any (·.1) = false := by rfl) : PE X (.Call (.Name x p) (e :: es) [] pos) (tCB r t) := by
  intro pins s σ H Q I h
  refine wpAny_Call_Name_kw (jdL I hg hm hv ?_ hn hdb)
  exact PyProof.Rows.callWith_builtin1 (thn (ha pos pins s σ H _ I h) fun us s1 ⟨vs, H1, I1, r1, q1⟩ => hc pins s1 σ H1 vs us Q I1 r1 q1) he hpl
theorem jd3 (hc : jch X (.type T) r) (hg : Gl X x) (hm : X.mg x = none) (hv : bootBuiltins x = some (.type T)) (ha : PA X (e :: es) t) (hn : x ≠ "__name__" := by decide) (hdb : (x == ("__debug__" : Str)) = false := by decide)
    (he : starEach (e :: es) X.env = (false, eval e X.env) :: starEach es X.env := by rfl) (hpl : (backTo pos (starEach es X.env)).any (·.1) = false := by rfl) : PE X (.Call (.Name x p) (e :: es) [] pos) (tCB r t) := by
  intro pins s σ H Q I h
  refine wpAny_Call_Name_kw (jdL I hg hm hv ?_ hn hdb)
  exact PyProof.Rows.callWith_type1 (thn (ha pos pins s σ H _ I h) fun us s1 ⟨vs, H1, I1, r1, q1⟩ => hc pins s1 σ H1 vs us Q I1 r1 q1) he hpl
end
end L2
namespace HT
open PySem PyProof.Rows
section
open PySem.SeqAt
open PySem.AutoSeq1 (wpAny_loadPart')
open PySem.MeetsSeq PySem.MeetsSeq2 PySem.MeetsSeq3
end
section
variable {prog : Program} {w : World} {A : Around} {E : Value → Shared → Prop} {s : Shared}
def sIx (n d : Nat) : Option Int → Nat
 | none => d
 | some v => if v < 0 then (v + (n : Int)).toNat else min v.toNat n
theorem sIx_none (n d : Nat) : sIx n d none = d := rfl
theorem sIx_nat (n d k : Nat) : sIx n d (some (k : Int)) = min k n := by
 show (if (k : Int) < 0 then ((k : Int) + (n : Int)).toNat else min (k : Int).toNat n) = min k n
 rw [if_neg (by omega), Int.toNat_natCast]
theorem sIx_le (n d : Nat) (hd : d ≤ n) (o : Option Int) : sIx n d o ≤ n := by
 cases o with
 | none => exact hd
 | some v =>
   show (if v < 0 then (v + (n : Int)).toNat else min v.toNat n) ≤ n
   by_cases hv : v < 0
   · rw [if_pos hv]; omega
   · rw [if_neg hv]; exact Nat.min_le_right _ _
end
end HT
namespace L2
open PySem PySem.Spec PyProof.Rows
abbrev TO := St → Hp → (Option Int → Hp → Prop) → Prop
def PO (X : Cx) (e : Option Expr) (t : TO) : Prop :=
 ∀ (pins : List (Addr × Obj)) (s : Shared) (σ : St) (H : Hp) (Q : Option Int → Hp → Prop), Inv X pins σ H s → t σ H Q →
   wpAny (model X.prog X.w) X.A (evalPart e X.env) (fun u s' => ∃ o H', Inv X pins σ H' s' ∧ IsPart u o ∧ Q o H') X.xe s
def jlv : TO := fun _ H Q => Q none H
def jpL (t : TE) : TO := fun σ H Q => t σ H fun x H1 => ∃ i, x = .int i ∧ Q (some i) H1
theorem intsAre_of {ns : List Int} : ∀ {us : List Value}, Vals (ns.map V.int) us → IntsAre us ns := by
 induction ns with
 | nil => intro us r; rw [List.map_nil] at r; cases r; exact .nil
 | cons n ns ih =>
   intro us r
   rw [List.map_cons] at r
   cases r with
   | cons r1 r2 =>
     obtain ⟨t, e⟩ := r1
     subst e
     exact .cons n t (ih r2)
section
variable {X : Cx} {e : Expr} {te : TE} {lo hi : Option Expr} {tl th : TO} {pos p2 : Pos}
theorem jbT : PO X none jlv := by
 intro pins s σ H Q I h
 rw [evalPart_none]
 exact wpAny_pure ⟨none, H, I, .none, h⟩
theorem jbV (h : PE X e te) : PO X (some e) (jpL te) := by
 intro pins s σ H Q I hw
 rw [evalPart_some]
 refine thn (h pins s σ H _ I hw) fun u s1 ⟨x, H1, I1, r1, q1⟩ => ?_
 obtain ⟨i, rfl, q⟩ := q1
 obtain ⟨t, rfl⟩ := r1
 exact ⟨some i, H1, I1, .int i t, q⟩
def SlR (X : Cx) (r : V → Option Int → Option Int → Hp → VK → Prop) : Prop :=
 ∀ (pins : List (Addr × Obj)) (s : Shared) (σ : St) (H : Hp) (x : V) (v vl vu : Value) (lo hi : Option Int) (sl : Addr) (Q : VK), Inv X pins σ H s → RelV x v → s.heap.IsSliceOf sl vl vu .none → IsPart vl lo → IsPart vu hi → r x lo hi H Q →
   ∃ T id, typeLookup (.type T) "__getitem__" = pure (some (.builtin id)) ∧ s.TypeIs v T ∧ wpAny (model X.prog X.w) X.A (getItem v (.ref sl)) (EP X pins σ Q) X.xe s
def tSl (r : V → Option Int → Option Int → Hp → VK → Prop) (te : TE) (tl th : TO) : TE := fun σ H Q => te σ H fun x H1 => tl σ H1 fun l H2 => th σ H2 fun u H3 => r x l u H3 Q
theorem jbd {r : V → Option Int → Option Int → Hp → VK → Prop} (hr : SlR X r) (he : PE X e te) (hl : PO X lo tl) (hu : PO X hi th) : PE X (.Subscript e (.Slice lo hi none p2) pos) (tSl r te tl th) := by
 intro pins s σ H Q I h
 refine Subscript_ (thn (he pins s σ H _ I h) fun v s1 ⟨x, H1, I1, r1, q1⟩ => ?_)
 refine wpAny_Slice (thn (hl pins s1 σ H1 _ I1 q1) fun vl s2 ⟨l, H2, I2, pl, q2⟩ => thn (hu pins s2 σ H2 _ I2 q2) fun vu s3 ⟨u, H3, I3, pu, q3⟩ => ?_)
 rw [evalPart_none]
 refine wpAny_pure ?_
 have I4 : Inv X pins σ H3 { s3 with heap := s3.heap.push { cls := .type "slice", data := .fields #[vl, vu, .none] } } := I3.kept (t' := s3.toks) fun b ob q => Heap.get?_push_of_some _ q
 obtain ⟨T, id, hT, ht, hg⟩ := hr pins { s3 with heap := s3.heap.push { cls := .type "slice", data := .fields #[vl, vu, .none] } } σ H3 x v vl vu l u s3.heap.objs.size Q I4 r1 (Heap.IsSliceOf.new ..) pl pu q3
 show wpAny (model X.prog X.w) X.A (subscriptTail e (.Slice lo hi none p2) v (.ref s3.heap.objs.size)) (EP X pins σ Q) X.xe { s3 with heap := s3.heap.push { cls := .type "slice", data := .fields #[vl, vu, .none] } }
 exact tail_any (ops := [.ref s3.heap.objs.size, v]) ht hT hg (by with_unfolding_all rfl)
def jmh (xs : List V) (lo hi : Option Int) : List V := (xs.drop (HT.sIx xs.length 0 lo)).take (HT.sIx xs.length xs.length hi - HT.sIx xs.length 0 lo)
theorem jiS (xs : List V) (lo hi : Option Int) : (jmh xs lo hi).length ≤ xs.length := by
 unfold jmh
 rw [List.length_take, List.length_drop]
 omega
end
end L2
namespace L2
open PySem PySem.Spec PyProof.Rows
def ixN (n : Nat) (i : Int) : Option Nat := if 0 ≤ i then (if i < n then some i.toNat else none) else if -(n : Int) ≤ i then some (i + n).toNat else none
def atI {α : Type} (xs : List α) (i : Int) : Option α := (ixN xs.length i).bind fun j => xs[j]?
theorem jlM {n : Nat} {i : Int} {j : Nat} (h : ixN n i = some j) : seqIndex? i n = some j ∧ j < n ∧ -(n : Int) ≤ i ∧ i < n := by
 unfold ixN at h
 by_cases h0 : 0 ≤ i
 · rw [if_pos h0] at h
   by_cases h1 : i < n
   · rw [if_pos h1] at h
     have e : i.toNat = j := Option.some.inj h
     exact ⟨by rw [seqIndex_of h0 h1, e], by omega, by omega, h1⟩
   · rw [if_neg h1] at h; cases h
 · rw [if_neg h0] at h
   by_cases h1 : -(n : Int) ≤ i
   · rw [if_pos h1] at h
     have e : (i + n).toNat = j := Option.some.inj h
     exact ⟨by rw [seqIndex_neg (by omega) h1, e], by omega, h1, by omega⟩
   · rw [if_neg h1] at h; cases h
theorem jlZ {α : Type} {xs : List α} {i : Int} {v : α} (h : atI xs i = some v) : ∃ j, seqIndex? i xs.length = some j ∧ xs[j]? = some v ∧ j < xs.length ∧ -(xs.length : Int) ≤ i ∧ i < xs.length := by
 unfold atI at h
 cases e : ixN xs.length i with
 | none => rw [e] at h; cases h
 | some j =>
   rw [e] at h
   obtain ⟨h1, h2, h3, h4⟩ := jlM e
   exact ⟨j, h1, h, h2, h3, h4⟩
theorem jfk {α : Type} {xs : List α} {j : Nat} {v : α} (h : xs[j]? = some v) : atI xs (j : Int) = some v := by
 have hj : j < xs.length := (List.getElem?_eq_some_iff.mp h).1
 have e : ixN xs.length (j : Int) = some j := by
   unfold ixN
   rw [if_pos (by omega), if_pos (by omega)]; simp
 unfold atI; rw [e]; exact h
def jnX (b : Expr) : Prop := ∀ o i, subscripted b false o i = operate [o, i] (getItem o i)
def IxR (X : Cx) (r : R2) : Prop :=
 ∀ (value slice : Expr) (pins : List (Addr × Obj)) (s : Shared) (σ : St) (H : Hp) (x y : V) (v u : Value) (Q : VK), Inv X pins σ H s → RelV x v → RelV y u → r x y H Q →
   subscripted slice false v u = operate [v, u] (getItem v u) → wpAny (model X.prog X.w) X.A (subscriptTail value slice v u) (EP X pins σ Q) X.xe s
def MtR (X : Cx) (id : String) (r : V → List V → Hp → VK → Prop) : Prop :=
 ∀ (pins : List (Addr × Obj)) (s : Shared) (σ : St) (H : Hp) (x : V) (xs : List V) (v : Value) (us : List Value) (Q : VK), Inv X pins σ H s → RelV x v → Vals xs us → r x xs H Q →
   wpAny (model X.prog X.w) X.A (call (.builtin id) (v :: us)) (EP X pins σ Q) X.xe s
section
variable {X : Cx} {a b : Expr} {ta tb : TE} {pos : Pos}
theorem jbg {r : R2} (hr : IxR X r) (ha : PE X a ta) (hb : PE X b tb) (hs : jnX b) : PE X (.Subscript a b pos) (tOp r ta tb) := by
 intro pins s σ H Q I h
 exact Subscript_ (jqp ha hb I h fun v u s2 x y H2 I2 rx ry q => hr a b pins s2 σ H2 x y v u Q I2 rx ry q (hs _ _))
def jqN (K : PySem.W.Frag) : R2 := fun x y H Q => ∃ p xs i v, x = .ref p ∧ y = .int i ∧ SqL K H p xs ∧ atI xs i = some v ∧ Q v H
def jqQ (K : PySem.W.Frag) : R2 := fun x y H Q => ∃ p xs i v, x = .ref p ∧ y = .int i ∧ SqT K H p xs ∧ atI xs i = some v ∧ Q v H
theorem jnQ : IxR X (jqN X.K) := by
 intro value slice pins s σ H x y v u Q I rx ry h hs
 obtain ⟨p, xs, i, z, rfl, rfl, hq, he, q⟩ := h
 cases rx
 obtain ⟨t, rfl⟩ := ry
 obtain ⟨its, r, pl, hz⟩ := I.list hq
 obtain ⟨j, h1, h2, h3, h4, h5⟩ := jlZ he
 obtain ⟨w, ew, rw'⟩ := r.get h2
 have hl := r.length
 have hn := jh0
 have fin : EP X pins σ Q w s := ⟨z, H, I, rw', q⟩
 by_cases h0 : 0 ≤ i
 · have hj : i.toNat = j := by
     rw [seqIndex_of h0 h5] at h1
     exact Option.some.inj h1
   exact item_listR pl.isList h0 (by omega) (by rw [hj]; simpa using ew) fin hs
 · have hj : (i + (its.toArray.size : Int)).toNat = j := by
     rw [seqIndex_neg (by omega) h4] at h1
     rw [List.size_toArray, ← hl]
     exact Option.some.inj h1
   exact subscriptTail_builtinR (x := w) pl.isList.typeIs slot_list_getitem.lookup
     (wpAny_getItem_list_neg (Q := fun r s' => r = w ∧ EP X pins σ Q r s') pl.isList (by omega) (by rw [List.size_toArray] <;> omega) (by omega) (by rw [hj]; simpa using ew) ⟨rfl, fin⟩) hs
theorem jp5 : IxR X (jqQ X.K) := by
 intro value slice pins s σ H x y v u Q I rx ry h hs
 obtain ⟨p, xs, i, z, rfl, rfl, hq, he, q⟩ := h
 cases rx
 obtain ⟨t, rfl⟩ := ry
 obtain ⟨its, r, pl, hz⟩ := I.tuple hq
 obtain ⟨j, h1, h2, h3, h4, h5⟩ := jlZ he
 obtain ⟨w, ew, rw'⟩ := r.get h2
 have hl := r.length
 have hn := jh0
 have fin : EP X pins σ Q w s := ⟨z, H, I, rw', q⟩
 exact subscriptTail_builtinR (x := w) pl.typeIs slot_tuple_getitem.lookup
   (getItem_tuple (j := j) (Q := fun r s' => r = w ∧ EP X pins σ Q r s') pl (by omega) (by omega) (by rw [List.size_toArray, ← hl]; exact h1) (by simpa using ew) ⟨rfl, fin⟩) hs
theorem jkA (its : List Value) (n j : Nat) (u : Value) : Obj.mapSeq (·.setIfInBounds j u) { cls := .type "list", data := .seq its.toArray n } = { cls := .type "list", data := .seq (its.set j u).toArray n } := by
 simp [Obj.mapSeq]
theorem Inv.lst {pins : List (Addr × Obj)} {σ : St} {H : Hp} {s : Shared} {p : Addr} {xs : List V} (I : Inv X pins σ H s) (h : H p = some (.lst xs)) :
   ∃ (its : List Value) (n : Nat), Vals xs its ∧ s.heap.get? p = some { cls := .type "list", data := .seq its.toArray n } ∧ xs.length ≤ sizeLine := by
 obtain ⟨z, its, n, r, e⟩ := I.hok p _ h
 exact ⟨its, n, r, e, z⟩
theorem Inv.lstUpd {pins : List (Addr × Obj)} {σ : St} {H : Hp} {s : Shared} {p : Addr} {xs ys : List V} {its its' : List Value} {n n' : Nat} {f : Obj → Obj} (I : Inv X pins σ H s) (h : H p = some (.lst xs))
   (ho : s.heap.get? p = some { cls := .type "list", data := .seq its.toArray n }) (hf : f { cls := .type "list", data := .seq its.toArray n } = { cls := .type "list", data := .seq its'.toArray n' }) (r : Vals ys its') (hz : ys.length ≤ sizeLine) (t : Nat) :
   Inv X pins σ (upd H p (.lst ys)) { s with heap := s.heap.update p f, toks := t } := by
 have e : (s.heap.update p f).get? p = some { cls := .type "list", data := .seq its'.toArray n' } := by
   rw [Heap.get?_update_self f ho (by rw [hf] <;> rfl), hf]
 refine I.write (x := p) (e := p) (by rw [h]; trivial) (.inl rfl) (fun b u hb q => (Heap.get?_update_other _ _ (Ne.symm hb)).trans q) ⟨_, e⟩ ?_
 exact ⟨hz, its', n', r, e⟩
def jpN : V → V → V → Hp → (Hp → Prop) → Prop := fun o i v H Q => ∃ p xs k j, o = .ref p ∧ i = .int k ∧ H p = some (.lst xs) ∧ ixN xs.length k = some j ∧ Q (upd H p (.lst (xs.set j v)))
theorem set_list : jra X jpN := by
 intro pins s σ H o i v ov iv u Q I ro ri rv h
 obtain ⟨p, xs, k, j, rfl, rfl, hp, hj, q⟩ := h
 cases ro
 obtain ⟨t, rfl⟩ := ri
 obtain ⟨its, n, r, ho, hz⟩ := I.lst hp
 obtain ⟨h1, h2, h3, h4⟩ := jlM hj
 have hl := r.length
 have hn := jh0
 have I' : Inv X pins σ (upd H p (.lst (xs.set j v))) { s with heap := s.heap.update p (Obj.mapSeq (·.setIfInBounds j u)) } :=
   I.lstUpd hp ho (jkA its n j u) (r.set rv j) (by rw [List.length_set]; exact hz) s.toks
 by_cases h0 : 0 ≤ k
 · have hk : k.toNat = j := by
     rw [seqIndex_of h0 h4] at h1
     exact Option.some.inj h1
   exact PySem.W.ki_setAt ho h0 (by omega) (by rw [List.size_toArray, ← hl]; exact h4) (by rw [hk]; exact ⟨_, I', q⟩)
 · have hk : (k + (its.toArray.size : Int)).toNat = j := by
     rw [seqIndex_neg (by omega) h3] at h1
     rw [List.size_toArray, ← hl]
     exact Option.some.inj h1
   exact PySem.W.ki_setBack ho (by omega) (by rw [List.size_toArray, ← hl]; exact h3) (by omega) (by rw [hk]; exact ⟨_, I', q⟩)
theorem jii (lo hi : Option Int) (n : Nat) : (sliceBounds lo hi none n).1 = ((HT.sIx n 0 lo : Nat) : Int) ∧ (sliceBounds lo hi none n).2.1 = ((HT.sIx n n hi : Nat) : Int) ∧ (sliceBounds lo hi none n).2.2 = 1 := by
 refine ⟨?_, ?_, rfl⟩
 · cases lo with
   | none => simp [sliceBounds, HT.sIx]
   | some i =>
     simp only [sliceBounds, HT.sIx, Option.getD_none, show (1 : Int) > 0 by decide, if_true]
     by_cases h : i < 0
     · simp only [h, if_true] <;> omega
     · simp only [h, if_false] <;> omega
 · cases hi with
   | none => simp [sliceBounds, HT.sIx]
   | some i =>
     simp only [sliceBounds, HT.sIx, Option.getD_none, show (1 : Int) > 0 by decide, if_true]
     by_cases h : i < 0
     · simp only [h, if_true] <;> omega
     · simp only [h, if_false] <;> omega
theorem jhp (its : List Value) (lo hi : Option Int) : slicePick its.toArray lo hi none = ((its.drop (HT.sIx its.length 0 lo)).take (HT.sIx its.length its.length hi - HT.sIx its.length 0 lo)).toArray := by
 obtain ⟨h1, h2, h3⟩ := jii lo hi its.toArray.size
 unfold slicePick
 rw [h1, h2, h3]
 simp only [sliceRange_one, pick_run, List.size_toArray] <;> rfl
def jqY (K : PySem.W.Frag) : V → Option Int → Option Int → Hp → VK → Prop := fun x lo hi H Q => ∃ a xs, x = .ref a ∧ SqL K H a xs ∧ ∀ p, H p = none → Q (.ref p) (upd H p (.lst (jmh xs lo hi)))
theorem jof : SlR X (jqY X.K) := by
 intro pins s σ H x v vl vu lo hi sl Q I rx hs pl pu h
 obtain ⟨a, xs, rfl, hx, q⟩ := h
 cases rx
 obtain ⟨its, r, ht, hz⟩ := I.list hx
 have hlen := r.length
 refine ⟨"list", _, slot_list_getitem.lookup, ht.isList.typeIs, ?_⟩
 refine wpAny_getItem_list_slice ht.isList hs pl pu .none (by simp) ?_ (by rw [List.size_toArray] <;> omega)
 rw [jhp, ← hlen]
 refine ⟨.ref s.heap.objs.size, _, I.laid (t' := s.toks) (o := .lst (jmh xs lo hi)) (fun b ob q => Heap.get?_push_of_some _ q) (Nat.le_refl _) ?_, rfl, q _ (I.hok.fresh (Nat.le_refl _))⟩
 exact ⟨Nat.le_trans (jiS xs lo hi) hz, _, 0, (r.drop (HT.sIx xs.length 0 lo)).take (HT.sIx xs.length xs.length hi - HT.sIx xs.length 0 lo), Heap.get?_push_size _ rfl⟩
def jgl : V → Bool
 | .non => true
 | .bl _ => true
 | .int _ => true
 | .str _ => true
 | _ => false
def eqV : V → V → Bool
 | .non, .non => true
 | .bl a, .bl b => a == b
 | .bl a, .int b => (if a then 1 else 0) == b
 | .int a, .bl b => a == (if b then 1 else 0)
 | .int a, .int b => a == b
 | .str a, .str b => a == b
 | _, _ => false
theorem joV {A : Around} {s : Shared} {y x : V} {u v : Value} (ry : RelV y u) (rx : RelV x v) (fy : jgl y = true) (fx : jgl x = true) : SeqAt.EqAt A s u v (eqV y x) := by
 cases y with
 | non =>
   cases ry
   cases x with
   | non => cases rx; exact SeqAt.EqAt.same _
   | bl b => cases rx; exact SeqAt.EqAt.none_bool b
   | int b => obtain ⟨t, rfl⟩ := rx; exact SeqAt.EqAt.none_int b t
   | str b => obtain ⟨t, rfl⟩ := rx; exact SeqAt.EqAt.none_str b t
   | _ => exact absurd (show false = true from fx) Bool.false_ne_true
 | bl a =>
   cases ry
   cases x with
   | non => cases rx; exact SeqAt.EqAt.bool_none a
   | bl b => cases rx; exact SeqAt.EqAt.bool_bool a b
   | int b => obtain ⟨t, rfl⟩ := rx; exact SeqAt.EqAt.bool_int a b t
   | str b => obtain ⟨t, rfl⟩ := rx; exact SeqAt.EqAt.bool_str a b t
   | _ => exact absurd (show false = true from fx) Bool.false_ne_true
 | int a =>
   obtain ⟨t', rfl⟩ := ry
   cases x with
   | non => cases rx; exact SeqAt.EqAt.int_none a t'
   | bl b => cases rx; exact SeqAt.EqAt.int_bool a t' b
   | int b => obtain ⟨t, rfl⟩ := rx; exact SeqAt.EqAt.int_int a t' b t
   | str b => obtain ⟨t, rfl⟩ := rx; exact SeqAt.EqAt.int_str a t' b t
   | _ => exact absurd (show false = true from fx) Bool.false_ne_true
 | str a =>
   obtain ⟨t', rfl⟩ := ry
   cases x with
   | non => cases rx; exact SeqAt.EqAt.str_none a t'
   | bl b => cases rx; exact SeqAt.EqAt.str_bool a t' b
   | int b => obtain ⟨t, rfl⟩ := rx; exact SeqAt.EqAt.str_int a t' b t
   | str b => obtain ⟨t, rfl⟩ := rx; exact SeqAt.EqAt.str_str a t' b t
   | _ => exact absurd (show false = true from fx) Bool.false_ne_true
 | _ => exact absurd (show false = true from fy) Bool.false_ne_true
def eqU (x : V) (u : Value) : Bool := match u with
 | .none => eqV .non x
 | .bool b => eqV (.bl b) x
 | .int i _ => eqV (.int i) x
 | .str z _ => eqV (.str z) x
 | _ => false
theorem jiJ {x y : V} {u : Value} (r : RelV y u) (f : jgl y = true) : eqU x u = eqV y x := by
 cases y with
 | non => cases r; rfl
 | bl b => cases r; rfl
 | int i => obtain ⟨t, rfl⟩ := r; rfl
 | str z => obtain ⟨t, rfl⟩ := r; rfl
 | _ => exact absurd (show false = true from f) Bool.false_ne_true
theorem jjh {x : V} : ∀ {xs : List V} {us : List Value}, Vals xs us → xs.all jgl = true → us.any (eqU x) = xs.any fun y => eqV y x
 | _, _, .nil, _ => rfl
 | y :: xs, u :: us, .cons r t, f => by
   rw [List.all_cons, Bool.and_eq_true] at f
   rw [List.any_cons, List.any_cons, jiJ r f.1, jjh t f.2]
theorem jdD {A : Around} {s : Shared} {x : V} {v : Value} (rx : RelV x v) (fx : jgl x = true) : ∀ {xs : List V} {us : List Value}, Vals xs us → xs.all jgl = true → ∀ u ∈ us, SeqAt.EqAt A s u v (eqU x u)
 | _, _, .nil, _ => fun u hu => by cases hu
 | y :: xs, u :: us, .cons r t, f => fun u' hu => by
   rw [List.all_cons, Bool.and_eq_true] at f
   rcases List.mem_cons.mp hu with rfl | hu
   · rw [jiJ r f.1]; exact joV r rx f.1 fx
   · exact jdD rx fx t f.2 u' hu
def inV (x : V) (xs : List V) : Bool := xs.any fun y => eqV y x
def rIn (K : PySem.W.Frag) (neg : Bool) : R2 := fun x y H Q => ∃ p xs, y = .ref p ∧ (SqL K H p xs ∨ SqT K H p xs) ∧ jgl x = true ∧ xs.all jgl = true ∧ Q (.bl (if neg then !inV x xs else inV x xs)) H
theorem jis : OpR X (compareOp .NotIn) (rIn X.K true) := by
 intro pins s σ H x y v u Q I rx ry h
 obtain ⟨p, xs, rfl, hq, fx, fs, q⟩ := h
 cases ry
 rcases hq with hq | hq
 · obtain ⟨its, r, pl, hz⟩ := I.list hq
   refine SeqAt.notIn_listAt (eqU x) pl.isList (fun w hw => jdD rx fx r fs w (by simpa using hw)) ⟨.bl _, H, I, rfl, ?_⟩
   rw [show its.toArray.any (eqU x) = its.any (eqU x) by simp, jjh r fs]
   exact q
 · obtain ⟨its, r, pl, hz⟩ := I.tuple hq
   refine SeqAt.notIn_tupleAt (eqU x) pl (fun w hw => jdD rx fx r fs w (by simpa using hw)) ⟨.bl _, H, I, rfl, ?_⟩
   rw [show its.toArray.any (eqU x) = its.any (eqU x) by simp, jjh r fs]
   exact q
theorem jhY : jch X (.builtin "len") (fun xs H Q => ∃ p ys, xs = [.ref p] ∧ (SqL X.K H p ys ∨ SqT X.K H p ys) ∧ Q (.int ys.length) H) := by
 intro pins s σ H xs us Q I r h
 obtain ⟨p, ys, rfl, hq, q⟩ := h
 obtain ⟨u, rfl, rx⟩ := vals1 r
 cases rx
 have hn := jh0
 rcases hq with hq | hq
 · obtain ⟨its, r', pl, hz⟩ := I.list hq
   have hlen := r'.length
   exact Calls.call_len_list pl.isList (by simp only [List.size_toArray] <;> omega) ⟨.int ys.length, H, I.tok _, ⟨s.toks + 1, by rw [List.size_toArray, hlen]⟩, q⟩
 · obtain ⟨its, r', pl, hz⟩ := I.tuple hq
   have hlen := r'.length
   exact len_tuple pl (by simp only [List.size_toArray] <;> omega) ⟨.int ys.length, H, I.tok _, ⟨s.toks + 1, by rw [List.size_toArray, hlen]⟩, q⟩
theorem jiO : jch X (.builtin "len") (fun xs H Q => ∃ z, xs = [.str z] ∧ z.length ≤ sizeLine ∧ Q (.int z.length) H) := by
 intro pins s σ H xs us Q I r h
 obtain ⟨z, rfl, hz, q⟩ := h
 obtain ⟨u, rfl, t, rfl⟩ := vals1 r
 have hn := jh0
 exact len_str (by omega) ⟨.int z.length, H, I.tok _, ⟨_, rfl⟩, q⟩
theorem jiC : jch X (.type "list") (fun xs H Q => ∃ p ys, xs = [.ref p] ∧ (SqL X.K H p ys ∨ SqT X.K H p ys) ∧ ∀ l, H l = none → Q (.ref l) (upd H l (.lst ys))) := by
 intro pins s σ H xs us Q I r h
 obtain ⟨p, ys, rfl, hq, q⟩ := h
 obtain ⟨u, rfl, rx⟩ := vals1 r
 cases rx
 have fin : ∀ (its : List Value), Vals ys its → ys.length ≤ sizeLine → ∀ (h' : Heap) (c' : Nat), (∀ b o', s.heap.get? b = some o' → h'.get? b = some o') →
     h'.get? s.heap.objs.size = some { cls := .type "list", dict := none, data := .seq its.toArray c', slots := #[] } → EP X pins σ Q (.ref s.heap.objs.size) { s with heap := h' } := fun its r' hz h' c' kp e =>
   ⟨.ref s.heap.objs.size, _, I.laid (t' := s.toks) kp (Nat.le_refl _) (show jbW X.prog X.w _ h' _ (.lst ys) from ⟨hz, its, c', r', e⟩), rfl, q _ (I.hok.fresh (Nat.le_refl _))⟩
 rcases hq with hq | hq
 · obtain ⟨its, r', pl, hz⟩ := I.list hq
   have hlen := r'.length
   obtain ⟨o, ho, hc, n, hd⟩ := pl.isList
   exact call_list_seq p (.inl rfl) ho hc hd (fun h' c' kp e => fin its r' hz h' c' kp e) (by simp only [List.size_toArray] <;> omega)
 · obtain ⟨its, r', pl, hz⟩ := I.tuple hq
   have hlen := r'.length
   obtain ⟨o, ho, hc, n, hd⟩ := pl
   exact call_list_seq p (.inr rfl) ho hc hd (fun h' c' kp e => fin its r' hz h' c' kp e) (by simp only [List.size_toArray] <;> omega)
def tyV (K : PySem.W.Frag) (T : String) (x : V) (H : Hp) : Prop := match x with
 | .str _ => T = "str"
 | .int _ => T = "int"
 | .ref p => (T = "list" ∧ ∃ xs, SqL K H p xs) ∨ (T = "tuple" ∧ ∃ o, K.lookup p = some o ∧ o.cls = .type "tuple" ∧ o.dict = none) ∨
     (T = "dict" ∧ ((∃ kvs, H p = some (.dK kvs)) ∨ ∃ kvs, H p = some (.dT kvs))) ∨ (T = "set" ∧ ∃ S n, H p = some (.set S n))
 | _ => False
theorem jp7 {pins : List (Addr × Obj)} {σ : St} {H : Hp} {s : Shared} {T : String} {x : V} {v : Value} (I : Inv X pins σ H s) (r : RelV x v) (ty : tyV X.K T x H) :
   s.TypeIs v T ∧ ∀ a, v = .ref a → ∃ ob, s.heap.get? a = some ob ∧ ob.dict = none := by
 cases x with
 | str z =>
   obtain ⟨t, rfl⟩ := r
   cases (show T = "str" from ty)
   exact ⟨typeIs_str s z t, fun _ e => nomatch e⟩
 | int i =>
   obtain ⟨t, rfl⟩ := r
   cases (show T = "int" from ty)
   exact ⟨typeIs_int s i t, fun _ e => nomatch e⟩
 | ref p =>
   cases r
   rcases ty with ⟨rfl, xs, hq⟩ | ⟨rfl, o, hk, hc, hd⟩ | ⟨rfl, hk⟩ | ⟨rfl, S, n, hk⟩
   · obtain ⟨its, _, pl, _⟩ := I.list hq
     refine ⟨pl.isList.typeIs, fun a e => ?_⟩
     cases e
     obtain ⟨o, n, e, c, hd, _⟩ := pl
     exact ⟨o, e, hd⟩
   · refine ⟨⟨o, I.kIn p o hk, hc⟩, fun a e => ?_⟩
     cases e
     exact ⟨o, I.kIn _ o hk, hd⟩
   · have z : ∃ o, s.heap.get? p = some o ∧ o.ExactDict := by
       rcases hk with ⟨kvs, hk⟩ | ⟨kvs, hk⟩
       · obtain ⟨_, _, _, _, o, _, _, e, ex, _⟩ := I.hok p _ hk
         exact ⟨o, e, ex⟩
       · obtain ⟨_, _, _, _, o, _, _, e, ex, _⟩ := I.hok p _ hk
         exact ⟨o, e, ex⟩
     obtain ⟨o, e, ex⟩ := z
     refine ⟨⟨o, e, ex.1⟩, fun a e2 => ?_⟩
     cases e2
     exact ⟨o, e, ex.2.1⟩
   · obtain ⟨o, _, _, _, e, ex, _⟩ := I.hok p _ hk
     refine ⟨⟨o, e, ex.1⟩, fun a e2 => ?_⟩
     cases e2
     exact ⟨o, e, ex.2.1⟩
 | _ => exact False.elim ty
def tBM (K : PySem.W.Frag) (T : String) (r : V → List V → Hp → VK → Prop) (to : TE) (t : TA) : TE := fun σ H Q => to σ H fun x H1 => tyV K T x H1 ∧ t σ H1 fun xs H2 => r x xs H2 Q
variable {o e : Expr} {es : List Expr} {to : TE} {t : TA} {name : Str} {apos cpos : Pos} {T id : String} {r : V → List V → Hp → VK → Prop}
theorem jqG (pa : PlainAttrs T) (slot : Slot T name id) (hty : typeOf (.builtin id) = pure (.type "method_descriptor")) (hm : MtR X id r) (ho : PE X o to) (ha : PA X (e :: es) t)
   (hbase : attributeBase o name X.env (eval o X.env) = eval o X.env := by rfl)
   (hfew : ((backTo cpos (starEach (e :: es) X.env)).all (fun x => !x.1) && (backToKw cpos (keywordEach [] X.env)).all (fun x => x.1.isSome)
     && decide ((e :: es).length + ([] : List Keyword).length + (if ([] : List Keyword).isEmpty then 0 else 1) < 30)) = true := by rfl)
   (hline : (apos.endLine == cpos.line) = true := by rfl) (hs : starEach (e :: es) X.env = (false, eval e X.env) :: starEach es X.env := by rfl) (hplain : (backTo cpos (starEach es X.env)).any (·.1) = false := by rfl) :
   PE X (.Call (.Attribute o name apos) (e :: es) [] cpos) (tBM X.K T r to t) := by
 intro pins s σ H Q I h
 refine wpAny_Call_method_late hbase hfew hline rfl (thn (ho pins s σ H _ I h) fun v s1 ⟨x, H1, I1, r1, ty, q1⟩ => ?_)
 obtain ⟨h1, h2⟩ := jp7 I1 r1 ty
 refine ⟨T, id, pa, slot, hty, h1, h2, ?_⟩
 have hA := ha cpos pins s1 σ H1 _ I1 q1
 rw [hs] at hA ⊢
 refine Calls.callWith_builtin (by show (false || (backTo cpos (starEach es X.env)).any (·.1)) = false; rw [hplain] <;> rfl) (Calls.evalArgs_plain ?_)
 exact thn hA fun us s2 ⟨vs, H2, I2, r2, q2⟩ => hm pins s2 σ H2 x vs v us Q I2 r1 r2 q2
end
end L2
namespace L2
open PySem PySem.Spec PyProof.Rows
def MtM (X : Cx) (id : String) (r : V → List V → Hp → VK → Prop) : Prop :=
 ∀ (pins : List (Addr × Obj)) (s : Shared) (σ : St) (H : Hp) (x : V) (xs : List V) (v : Value) (us : List Value) (Q : VK), Inv X pins σ H s → RelV x v → Vals xs us → r x xs H Q →
   wpAny (model X.prog X.w) X.A (call (.builtin id) (v :: us)) (EP X pins σ Q) X.xe s
theorem Vals.one : ∀ {x : V} {us : List Value}, Vals [x] us → ∃ u, us = [u] ∧ RelV x u
 | _, _, .cons r .nil => ⟨_, rfl, r⟩
section
variable {X : Cx} {pins : List (Addr × Obj)} {σ : St} {H : Hp} {s : Shared} {l b : Addr} {xs ys zs : List V}
theorem Inv.lset {its its' : List Value} {n : Nat} {f : Array Value → Array Value} {t' : Nat} (I : Inv X pins σ H s) (hH : H l = some (.lst xs))
   (e : s.heap.get? l = some { cls := .type "list", data := .seq its.toArray n }) (hf : f its.toArray = its'.toArray) (hv : Vals ys its') (hz : ys.length ≤ sizeLine) :
   Inv X pins σ (upd H l (.lst ys)) { s with heap := s.heap.update l (Obj.mapSeq f), toks := t' } := by
 have q := PySem.IsL.update e f
 rw [hf] at q
 refine I.write (x := l) (e := l) (by rw [hH]; exact trivial) (.inl rfl) (fun b' u hb hu => (Heap.get?_update_other s.heap (Obj.mapSeq f) (Ne.symm hb)).trans hu) ⟨_, q⟩ ?_
 exact ⟨hz, its', _, hv, q⟩
theorem Inv.lnew {its : List Value} {t' : Nat} (I : Inv X pins σ H s) (hv : Vals ys its) (hz : ys.length ≤ sizeLine) :
   Inv X pins σ (upd H s.heap.objs.size (.lst ys)) { s with heap := s.heap.push { cls := .type "list", data := .seq its.toArray }, toks := t' } :=
 I.laid (fun _ _ q => Heap.get?_push_of_some _ q) (Nat.le_refl _) ⟨hz, its, 0, hv, Heap.get?_push_size _ rfl⟩
theorem Inv.fresh (I : Inv X pins σ H s) : H s.heap.objs.size = none := I.hok.fresh (Nat.le_refl _)
theorem Inv.lstM (I : Inv X pins σ H s) (hH : H l = some (.lst xs)) : xs.length ≤ sizeLine ∧ ∃ (its : List Value) (n : Nat), Vals xs its ∧ xs.length = its.length ∧ s.heap.get? l = some { cls := .type "list", data := .seq its.toArray n } := by
 obtain ⟨z, its, n, r, e⟩ := I.hok l _ hH
 exact ⟨z, its, n, r, r.length, e⟩
theorem jms {n : Nat} (h : n ≤ sizeLine) : Builtin.List.listTooLong n = false := by
 unfold Builtin.List.listTooLong
 exact decide_eq_false (by omega)
end
section
variable {X : Cx}
def joG : V → List V → Hp → VK → Prop := fun x vs H Q => ∃ l xs y, x = .ref l ∧ vs = [y] ∧ H l = some (.lst xs) ∧ xs.length < sizeLine ∧ Q .non (upd H l (.lst (xs ++ [y])))
theorem jih : MtM X "list.append" joG := by
 intro pins s σ H x vs v us Q I rx rv h
 obtain ⟨l, xs, y, rfl, rfl, hH, hz, q⟩ := h
 cases rx
 obtain ⟨u, rfl, ru⟩ := rv.one
 obtain ⟨z, its, n, r, hl, e⟩ := I.lstM hH
 refine call_meets F.slot_list_append ⟨_, e, rfl⟩ F.entry_list_append (F.args_list_append_2 _ _) (PySem.list_append l its.toArray n u (by rw [List.size_toArray]; omega)) ⟨e, ?_⟩
 refine ⟨.non, _, I.lset (its' := its ++ [u]) hH e (by simp) (r.append (.cons ru .nil)) ?_, rfl, q⟩
 rw [List.length_append, List.length_singleton]
 omega
def joh : V → List V → Hp → VK → Prop := fun x vs H Q => ∃ l b xs zs, x = .ref l ∧ vs = [.ref b] ∧ H l = some (.lst xs) ∧ H b = some (.lst zs) ∧ xs.length + zs.length ≤ sizeLine ∧ Q .non (upd H l (.lst (xs ++ zs)))
theorem jij : MtM X "list.extend" joh := by
 intro pins s σ H x vs v us Q I rx rv h
 obtain ⟨l, b, xs, zs, rfl, rfl, hH, hB, hz, q⟩ := h
 cases rx
 obtain ⟨u, rfl, ru⟩ := rv.one
 cases ru
 obtain ⟨z, its, n, r, hl, e⟩ := I.lstM hH
 obtain ⟨z2, its2, n2, r2, hl2, e2⟩ := I.lstM hB
 have hsz : its.toArray.size + its2.toArray.size ≤ sizeLine := by rw [List.size_toArray, List.size_toArray]; omega
 have hlong : ¬ (!its.toArray.isEmpty && Builtin.List.listTooLong (its.toArray.size + its2.toArray.size)) = true := by
   rw [jms hsz, Bool.and_false]
   exact Bool.false_ne_true
 refine call_meets F.slot_list_extend ⟨_, e, rfl⟩ F.entry_list_extend (F.args_list_extend_2 _ _)
   (AutoSeq1.list_extend_list_list_0 l its.toArray n b its2.toArray n2 hlong (by rw [List.size_toArray]; omega) (by omega)) ⟨e, e2, ?_⟩
 refine ⟨.non, _, I.lset (its' := its ++ its2) hH e (by simp) (r.append r2) ?_, rfl, q⟩
 rw [List.length_append]
 omega
def jrp : R2 := fun x y H Q => ∃ l b xs zs, x = .ref l ∧ y = .ref b ∧ H l = some (.lst xs) ∧ H b = some (.lst zs) ∧ xs.length + zs.length ≤ sizeLine ∧ ∀ p, H p = none → Q (.ref p) (upd H p (.lst (xs ++ zs)))
theorem jfd : OpR X (binaryOp .Add) jrp := by
 intro pins s σ H x y v u Q I rx ry h
 obtain ⟨l, b, xs, zs, rfl, rfl, hH, hB, hz, q⟩ := h
 cases rx
 cases ry
 obtain ⟨z, its, n, r, hl, e⟩ := I.lstM hH
 obtain ⟨z2, its2, n2, r2, hl2, e2⟩ := I.lstM hB
 refine PySem.P.add_list e e2 ?_ (by rw [List.size_toArray, List.size_toArray]; omega)
 have ea : its.toArray ++ its2.toArray = (its ++ its2).toArray := by simp
 rw [ea]
 exact ⟨.ref _, _, I.lnew (t' := s.toks) (r.append r2) (by rw [List.length_append]; omega), rfl, q _ I.fresh⟩
end
section
variable {prog : Program} {w : World} {A : Around} {E : Value → Shared → Prop} {s : Shared}
end
section
variable {X : Cx}
end
end L2
namespace Att
open PySem PySem.W PySem.Calls PyProof.Rows
theorem jfA {P : Params} {h : Heap} : ∀ (ns : List Int) (vs : List Value), WellAll P h vs (ns.map WData.int) → IntsAre vs ns := by
 intro ns
 induction ns with
 | nil =>
   intro vs w
   rw [List.map_nil] at w
   cases w
   exact .nil
 | cons n ns ih =>
   intro vs w
   rw [List.map_cons] at w
   cases w with
   | cons a b =>
     cases a
     exact .cons _ _ (ih _ b)
theorem jl3 {l : OpenLaw} {n : Nat} (hn : l.most = some n) {P : Params} {h : Heap} {args : List WData} {vals : List Value}
   (hpre : l.row.toRowW.claim.pre args = true) (hwl : WellAll P h vals args) :
   ∃ a vs ns, vals = [Value.ref a] ∧ args = [WData.list (ns.map WData.int)] ∧ h.get? a = some { cls := .type "list", data := .seq vs.toArray } ∧ IntsAre vs ns ∧ ns.length ≤ n := by
 have hsh : WShape.hasAll [] args [.list .int] = true := (pre_splitW hpre).1
 have hc : l.pre.holds [] { args := args } = true := (pre_splitW hpre).2
 obtain ⟨d, r, rfl, h1, h2⟩ := hasAllW_cons hsh
 obtain rfl := hasAllW_nil h2
 obtain ⟨xs, rfl, h3⟩ := hasW_list h1
 obtain ⟨ns, rfl⟩ := items_int h3
 have hlen : ns.length ≤ n := by
   unfold OpenLaw.pre at hc
   have h4 : (WTm.not (.lt (.lit (.int (n : Int))) (.len (.arg 0)))).holds [] { args := [.list (ns.map .int)] } = true := by
     have h4 := (holds_andW hc).1
     rw [hn] at h4
     exact h4
   have h5 := condW_of h4 (w_not (w_lt w_lit (w_len_list (w_arg rfl))))
   rw [List.length_map] at h5
   refine Nat.le_of_not_lt fun q => ?_
   have q' : (n : Int) < ((ns.length : Nat) : Int) := by omega
   first
     | (rw [decide_eq_true q'] at h5; exact absurd h5 (by decide))
     | (simp at h5; omega)
 cases hwl with
 | cons w1 w2 =>
   cases w2
   cases w1 with
   | list ho hall => exact ⟨_, _, ns, rfl, rfl, ho, jfA ns _ hall, hlen⟩
theorem jlJ (l : OpenLaw) (args : List WData) : l.row.toRowW.claim.post args (.bool true) args = true :=
 postW_of (r := l.row.toRowW) (X := (true == true))
   (show WShape.has [] (.bool true) .bool = true by first | rfl | decide | simp [WShape.has, WShape.arms, WShape.armsAll])
   (show (WTm.eq .res (.lit (.bool true))).value [] { args := args, res := some (.bool true), after := args } = some (.bool (true == true)) from w_eq_bool (w_res rfl) w_lit) rfl
theorem attach_call {l : OpenLaw} {n : Nat} {q : Program} {loose : List Str} {XP : (Str → Option Value) → Heap → Prop} {YP : World → Heap → Prop} {d : DefRec}
   (hn : l.most = some n) (hdf : d.params.defaults = [])
   (call : ∀ (w : World) (s₀ s₁ : Shared) (mg mb : Str → Option Value) (fa : Addr) (o : Obj) (pm cd doc : Value) (a : Addr) (vs : List Value) (ns : List Int),
     Ground q loose [] XP w s₀ mg mb s₁.heap → YP w s₁.heap →
     s₁.heap.get? fa = some o → o.data = .func (docDef d.name d.params d.body d.scope pm cd doc) → s₁.heap.CodeRec cd d.name → mg d.name = some (.ref fa) →
     s₁.heap.get? a = some { cls := .type "list", data := .seq vs.toArray } → IntsAre vs ns → ns.length ≤ n → s₁.gens = #[] →
     codeAny (model l.prog w) callerA (.call (.ref fa) ⟨[.ref a], []⟩) (fun r s' => r = .ok (.ret (.bool true)) ∧ OldK s₁.heap s'.heap ∧ s'.os = s₁.os ∧ AllBare s'.gens) s₁) :
   WalkO q loose XP YP l.row.toRowW d [] (fun f vs => PySem.call f vs) := by
 intro w s₀ s₁ mg mb G Y fa o pm cd doc dV kV ho hd hcd hD hmg hg args vals as hpre hlay hrd hwl hlo
 obtain rfl : dV = .none := Dflts.none hD hdf
 obtain rfl : kV = .none := Dflts.noKw hD
 obtain ⟨a, vs, ns, rfl, rfl, hobj, hints, hlen⟩ := jl3 hn hpre hwl
 refine enter_call (codeAny_mono (call w s₀ s₁ mg mb fa o pm cd doc a vs ns G Y ho (fd_plain hd) hcd hmg hobj hints hlen hg) fun r s' hq => ?_)
 obtain ⟨rfl, h2, h3, h4⟩ := hq
 exact ⟨.inl ⟨.bool true, .bool true, [], rfl, fun _ => rfl, .bool true, jlJ l _, fun _ => ⟨List.Pairwise.nil, fun _ hm => (nomatch hm)⟩⟩, h2, h3, h4⟩
section
variable {prog : Program} {w : World} {A : Around} {E : Value → Shared → Prop} {s : Shared} {K : Frag}
def noObjs (h : Heap) : Heap := { h with objs := #[] }
theorem noObjs_get (h : Heap) (b : Addr) : (noObjs h).get? b = none := by
 cases e : (noObjs h).get? b with
 | none => rfl
 | some o => exact absurd (Heap.lt_size e) (Nat.not_lt_zero _)
theorem fr_all {h : Heap} {L : Addr} {m : Str → Option Value} (n : h.Ns L m) : Fr (noObjs h) L h m :=
 ⟨n, fun b o e => (by rw [noObjs_get] at e; cases e), Nat.zero_le _⟩
end
end Att
namespace L2
open PySem PySem.Spec PyProof.Rows
theorem jiF : ∀ {vs : List Value} {ns : List Int}, IntsAre vs ns → Vals (ns.map V.int) vs
 | _, _, .nil => .nil
 | _, _, .cons n t h => .cons ⟨t, rfl⟩ (jiF h)
def Only (H : Hp) : Prop := ∀ b, H b = none ∨ ∃ o xs, H b = some (.frz o (.lst xs))
theorem jmX {P : Program} {w : World} {K : PySem.W.Frag} {mg mb : Str → Option Value} {CX : CXT} {k : Nat} {fa a : Addr} {fd : FuncData} {x : Str} {sp : Sp} {s₁ : Shared} {vs : List Value} {ns : List Int}
   (KX : K.In s₁.heap) (hns : s₁.heap.Ns mainGlobals mg) (hb : s₁.heap.Ns builtinsNs mb) (hbb : ∀ x : Str, x ≠ "__name__" → mb x = bootBuiltins x) (hlim : s₁.heap.NoLimit) (hseer : s₁.heap.NoSeer) (hg : s₁.gens = #[])
   (ha : s₁.heap.get? a = some { cls := .type "list", data := .seq vs.toArray }) (hi : IntsAre vs ns) (hl : ns.length ≤ sizeLine) (hr : je5 k callerA)
   (F : ∀ base : Heap, K.In base → base.Ns mainGlobals mg → jbf P w K mg base CX k fa fd [x] sp) (hbind : ∀ (s : Shared) (u : Value), BindsTo s fd ⟨[u], []⟩ [(x, u)])
   (hsp : ∀ H : Hp, Only H → SqL K H a (ns.map V.int) → sp [.ref a] H (fun v _ => v = .bl true) fun _ _ _ => False)
   (hCX : ∀ H e s', CX [] H s₁ (fun _ _ _ => False) e s' → False) :
   codeAny (model P w) callerA (.call (.ref fa) ⟨[.ref a], []⟩) (fun r s' => r = .ok (.ret (.bool true)) ∧ OldK s₁.heap s'.heap ∧ s'.os = s₁.os ∧ AllBare s'.gens) s₁ := by
 have rv := jiF hi
 have lenV := hi.length
 have core : ∀ H : Hp, Only H → SqL K H a (ns.map V.int) → HOk P w H s₁.heap → (∀ b, H b ≠ none → b = a) → (H a ≠ none → K.lookup a = none) →
     codeAny (model P w) callerA (.call (.ref fa) ⟨[.ref a], []⟩) (fun r s' => r = .ok (.ret (.bool true)) ∧ OldK s₁.heap s'.heap ∧ s'.os = s₁.os ∧ AllBare s'.gens) s₁ := by
   intro H hO hS hok hA hK
   have base_of : ∀ {b : Addr} {o : Obj}, s₁.heap.get? b = some o → H b = none → (jme s₁.heap H).get? b = some o := fun e n => jmH e n
   have noA : ∀ {b : Addr} {o : Obj} {es : Array DictEntry} {ep : Nat}, s₁.heap.get? b = some o → o.data = .dict es ep → H b = none := fun {b o es ep} e d => by
     cases q : H b with
     | none => rfl
     | some u =>
       have e' : b = a := hA b (by rw [q]; simp)
       subst e'
       rw [ha] at e; cases e
       have d' : Data.seq vs.toArray _ = Data.dict es ep := d
       cases d'
   have nsK : ∀ {b : Addr} {m : Str → Option Value}, s₁.heap.Ns b m → (jme s₁.heap H).Ns b m := fun {b m} ⟨o, es, ep, e, d, r⟩ => ⟨o, es, ep, base_of e (noA e d), d, r⟩
   have hKb : K.In (jme s₁.heap H) := fun b o e => base_of (KX b o e) (by
     cases q : H b with
     | none => rfl
     | some u =>
       have e' : b = a := hA b (by rw [q]; simp)
       subst e'
       rw [hK (by rw [q]; simp)] at e; cases e)
   have noM : ∀ {b : Addr} {o : Obj}, s₁.heap.get? b = some o → o.cls = .type "module" → H b = none := fun {b o} e d => by
     cases q : H b with
     | none => rfl
     | some u =>
       have e' : b = a := hA b (by rw [q]; simp)
       subst e'
       rw [ha] at e; cases e
       exact absurd (show Value.type "list" = Value.type "module" from d) (by decide)
   have hSr : (jme s₁.heap H).NoSeer := ⟨let ⟨mc, h1, h2⟩ := hseer.statics; ⟨mc, nsK h1, h2⟩, let ⟨mm, h1, h2⟩ := hseer.mods; ⟨mm, nsK h1, h2⟩, let ⟨mb, h1, h2⟩ := hseer.imp; ⟨mb, nsK h1, h2⟩,
     let ⟨mg, bm, ob, h1, h2, h3, h4, h5⟩ := hseer.main; ⟨mg, bm, ob, nsK h1, h2, base_of h3 (noM h3 h4), h4, h5⟩⟩
   have hM : Mod K mg (jme s₁.heap H) := ⟨hKb, nsK hns, ⟨mb, nsK hb, hbb⟩, (let ⟨mc, h1, h2⟩ := hlim; ⟨mc, nsK h1, h2⟩), hSr⟩
   have e0 : jnO P w K mg (jme s₁.heap H) callerA [] s₁ H := ⟨rfl, hM, fun b o e => jn7 e, Nat.le_of_eq (jkK _ _), trivial, fun b hb => absurd (show b ∈ ([] : List Addr) from hb) (by simp), hok, .of_eq hg⟩
   refine codeAny_mono ((F _ hKb (nsK hns)).run callerA [] s₁ H ⟨[.ref a], []⟩ [.ref a] [.ref a] _ _ hr e0 (hbind s₁ (.ref a)) (.cons rfl .nil) (hsp H hO hS)) fun r s' h => ?_
   cases r with
   | error e => exact (hCX H e s' h).elim
   | ok fl =>
     cases fl with
     | next => exact False.elim h
     | brk => exact False.elim h
     | cont => exact False.elim h
     | ret u =>
       obtain ⟨v, H', os, bare, un, hok', r', q⟩ := h
       have q' : v = .bl true := q
       subst q'
       obtain rfl : u = Value.bool true := r'
       refine ⟨rfl, OldK.of_keep fun b o e => ?_, os, bare⟩
       cases q : H b with
       | none => exact un.keep b o e q (by intro z; exact absurd (show b ∈ ([] : List Addr) from z) (by simp)) (by simp)
       | some u =>
         rcases hO b with z | ⟨ob, xs, z⟩
         · rw [q] at z; cases z
         · have z2 := un.frzs b ob _ z
           obtain ⟨e1, _⟩ := hok b _ z
           obtain ⟨e2, _⟩ := hok' b _ z2
           rw [e] at e1; cases e1
           exact e2
 cases hk : K.lookup a with
 | some o =>
   have e := KX a o hk
   rw [ha] at e
   cases e
   refine core (fun _ => none) (fun _ => .inl rfl) (.inr ⟨_, vs.toArray, _, hk, rfl, rfl, rfl, by rw [List.size_toArray, lenV]; exact hl, by simpa using rv⟩) (fun b u z => by have z' : (none : Option HO) = some u := z; cases z') (fun b z => absurd rfl z) fun z => absurd rfl z
 | none =>
   refine core (fun b => if b = a then some (.frz { cls := .type "list", data := .seq vs.toArray } (.lst (ns.map V.int))) else none) (fun b => ?_) (.inl (.inr ⟨{ cls := .type "list", data := .seq vs.toArray }, if_pos rfl⟩)) (fun b u z => ?_) (fun b z => ?_) fun _ => hk
   · by_cases hb : b = a
     · exact .inr ⟨_, _, if_pos hb⟩
     · exact .inl (if_neg hb)
   · by_cases hb : b = a
     · have z' := (if_pos hb).symm.trans z
       cases z'
       subst hb
       exact ⟨ha, by rw [List.length_map]; exact hl, vs, _, rv, ha⟩
     · have z' := (if_neg hb).symm.trans z
       cases z'
   · by_cases hb : b = a
     · exact hb
     · exact absurd (if_neg hb) z
end L2
namespace L2
open PySem PySem.Spec PyProof.Rows
theorem walk_of {l : PySem.W.OpenLaw} {n k : Nat} {q : Program} {loose : List Str} {XP : (Str → Option Value) → Heap → Prop} {YP : World → Heap → Prop} {d : DefRec} {K : Params → PySem.W.Frag} {CX : World → CXT} {sp : World → Sp} {x : Str}
   (hi : PyProof.Rows.importsNone q = true) (hn : l.most = some n) (hn2 : n ≤ sizeLine) (hdf : d.params.defaults = []) (hr : je5 k callerA)
   (hY : ∀ (w : World) (h : Heap), YP w h → (K w.params).In h)
   (F : ∀ (w : World) (mg : Str → Option Value) (fa : Addr) (h : Heap), (K w.params).In h → h.Ns mainGlobals mg → mg d.name = some (.ref fa) →
     ∃ fd : FuncData, (∀ (s : Shared) (u : Value), BindsTo s fd ⟨[u], []⟩ [(x, u)]) ∧
       ∀ base : Heap, (K w.params).In base → base.Ns mainGlobals mg → jbf l.prog w (K w.params) mg base (CX w) k fa fd [x] (sp w))
   (hsp : ∀ (w : World) (H : Hp) (a : Addr) (ns : List Int), ns.length ≤ n → Only H → SqL (K w.params) H a (ns.map V.int) → sp w [.ref a] H (fun v _ => v = .bl true) fun _ _ _ => False)
   (hCX : ∀ (w : World) (H : Hp) (s : Shared) (e : Value) (s' : Shared), CX w [] H s (fun _ _ _ => False) e s' → False) :
   PySem.W.WalkO q loose XP YP l.row.toRowW d [] (fun f vs => PySem.call f vs) := by
 refine Att.attach_call hn hdf fun w s₀ s₁ mg mb fa o pm cd doc a vs ns G Y ho hd hcd hmg hobj hints hlen hg => ?_
 have KX := hY w _ Y
 obtain ⟨fd, hb, hF⟩ := F w mg fa _ KX G.T.g hmg
 exact jmX KX G.T.g G.T.b G.T.builtins G.T.nolimit (G.T.seer hi) hg hobj hints (Nat.le_trans hlen hn2) hr hF hb (fun H hO hS => hsp w H a ns hlen hO hS) fun H e s' => hCX w H s₁ e s'
end L2
namespace L2
open PySem PySem.Spec PyProof.Rows
def jao (s : Stmt) : Arguments := match s with
 | .FunctionDef _ a _ _ _ _ _ _ _ _ => a
 | _ => { posonlyargs := [], args := [], vararg := none, kwonlyargs := [], kw_defaults := [], kwarg := none, defaults := [] }
def jal (s : Stmt) : List Stmt := match s with
 | .FunctionDef _ _ b _ _ _ _ _ _ _ => b
 | _ => []
def jad (s : Stmt) : Scope := match s with
 | .FunctionDef _ _ _ _ _ _ sc _ _ _ => sc
 | _ => { kind := .function, names := [], isGenerator := false, isCoroutine := false }
abbrev CX0 : CXT := fun _ _ _ _ _ _ => False
abbrev E0 : XK := fun _ _ _ => False
theorem jqB {X : Cx} : jgC CX0 X E0 := fun _ _ _ _ _ _ _ h => h.elim
structure Fun (K : PySem.W.Frag) (x qual : Str) (st : Stmt) (f : Addr) (fd : FuncData) : Prop where
 ex : ∃ (oc : Value) (od : Option Addr) (kV doc pm : Value) (an : Option Addr) (cdv ct : Value) (osl : Array (Option Value)),
   fd = PySem.W.fnOf x qual (jao st) (jal st) (jad st) .none kV doc pm an cdv ct ∧ K.lookup f = some ⟨oc, od, .func fd, osl⟩ ∧ PySem.W.codeIn K cdv qual = true
 kp : PySem.W.keepIn K (.ref f) = true
section
variable {P : Program} {w : World} {K : PySem.W.Frag} {mg : Str → Option Value} {base : Heap}
theorem Fun.ok {x qual : Str} {st : Stmt} {f : Addr} {fd : FuncData} {N ps : List Str} {k : Nat} {sp : Sp} (F : Fun K x qual st f fd) (S : jan N ps (jad st)) (len : ∀ vs H Q E, sp vs H Q E → vs.length = ps.length)
   (hbody : ∀ (cdv : Value) (A : Around) (outer : List Env) (s : Shared) (H : Hp) (vs : List V) (Q : VK) (E : XK), je5 k (A.deeper (envOfC qual (jad st) s.heap.objs.size f cdv)) → sp vs H Q E →
     ∃ t, PSs (jbu CX0 P w K mg base N qual (jad st) f cdv A outer s H E).nox (jal st) t ∧ t { nx := fun _ H' => Q .non H', rt := Q } (start N vs) H) : jbf P w K mg base CX0 (k + 1) f fd ps sp := by
 obtain ⟨oc, od, kV, doc, pm, an, cdv, ct, osl, rfl, lk, hcd⟩ := F.ex
 refine jpd lk hcd S len fun A outer s H vs Q E hr hsp => ?_
 obtain ⟨t, h, q⟩ := hbody cdv A outer s H vs Q E hr hsp
 exact ⟨t, h.nox, q⟩
theorem Fun.binds {x qual : Str} {st : Stmt} {f : Addr} {fd : FuncData} {ps : List Str} (F : Fun K x qual st f fd)
   (h : ∀ (kV doc pm : Value) (an : Option Addr) (cdv ct : Value) (us : List Value), us.length = ps.length → bindArgs (PySem.W.fnOf x qual (jao st) (jal st) (jad st) .none kV doc pm an cdv ct) ⟨us, []⟩ = pure (ps.zip us)) : Binds K fd ps [] := by
 obtain ⟨oc, od, kV, doc, pm, an, cdv, ct, osl, rfl, lk, hcd⟩ := F.ex
 exact .all (h kV doc pm an cdv ct)
theorem jaA {x qual : Str} {st : Stmt} {f : Addr} {oc : Value} {od an : Option Addr} {osl : Array (Option Value)} {kV doc pm cdv ct : Value} (l : K.lookup f = some ⟨oc, od, .func (PySem.W.fnOf x qual (jao st) (jal st) (jad st) .none kV doc pm an cdv ct), osl⟩)
   (c : PySem.W.codeIn K cdv qual = true) (k : PySem.W.keepIn K (.ref f) = true) : Fun K x qual st f (PySem.W.fnOf x qual (jao st) (jal st) (jad st) .none kV doc pm an cdv ct) := ⟨⟨oc, od, kV, doc, pm, an, cdv, ct, osl, rfl, l, c⟩, k⟩
end
theorem jog {A : Around} {k : Nat} (hr : je5 k A) : A.units + 1 < cLine := Nat.lt_of_le_of_lt (Nat.add_le_add_left (by decide : 1 ≤ 64) _) hr.units
theorem jlx {n : Nat} (h : n ≤ 1000) : n < sizeLine := Nat.lt_of_le_of_lt h (by decide)
section
variable {X : Cx}
theorem pv (i : Nat) {x : Str} {pos : Pos} (hN : X.N[i]? = some x := by rfl) (hv : Vis X.env.scope x := by first | exact Or.inl rfl | exact Or.inr (Or.inl rfl) | exact Or.inr (Or.inr rfl)) (hd : (x == ("__debug__" : Str)) = false := by decide)
    (hcd : (x == ("__classdict__" : Str)) = false := by decide) : PE X (.Name x pos) (jqd i) := jnJ hN hv hd hcd
end
theorem jkI {A B : Prop} (h : B) : if false = true then A else B := by
 rw [if_neg Bool.false_ne_true]
 exact h
theorem jqf {A B : Prop} (h : A) : if true = true then A else B := by
 rw [if_pos rfl]
 exact h
theorem jow {c A B : Prop} [Decidable c] (hc : c) (h : B) : if (!decide c) = true then A else B := by
 rw [decide_eq_true hc]
 exact jkI h
def jap (H H' : Hp) : Prop := ∀ b o, H b = some o → H' b = some o
theorem jap.refl (H : Hp) : jap H H := fun _ _ h => h
theorem jap.trans {H H1 H2 : Hp} (a : jap H H1) (b : jap H1 H2) : jap H H2 := fun c o h => b c o (a c o h)
theorem jap.free {H H' : Hp} (e : jap H H') {l : Addr} (h : H' l = Option.none) : H l = Option.none := by
 cases q : H l with
 | none => rfl
 | some o =>
   rw [e l o q] at h
   cases h
theorem jap.seq {K : PySem.W.Frag} {H H' : Hp} {a : Addr} {xs : List V} (e : jap H H') (h : SqL K H a xs) : SqL K H' a xs := by
 rcases h with (h | ⟨o, h⟩) | h
 · exact .inl (.inl (e _ _ h))
 · exact .inl (.inr ⟨o, e _ _ h⟩)
 · exact .inr h
end L2
namespace L2
open PySem PySem.Spec PyProof.Rows
theorem HOk.but {P : Program} {w : World} {H : Hp} {h h' : Heap} {it : Addr} (ok : HOk P w H h) (hn : H it = none) (k : ∀ b o, b ≠ it → h.get? b = some o → h'.get? b = some o) : HOk P w H h' := fun b u e => by
 have nit : ∀ b u, H b = some u → b ≠ it := fun b u e z => by rw [z, hn] at e; cases e
 refine (ok b u e).stay (fun c v hc q => k c v ?_ q) (fun _ q => q) fun _ _ q => q
 rcases hc with z | z
 · rw [z]; exact nit b u e
 · exact nit c _ z
def jd2 (names : List (Str × NameKind)) (cells : List (Str × Addr)) : List (Str × Addr) :=
 (names.filterMap fun x => if x.2 == .free then (cells.lookup x.1).map fun c => (x.1, c) else none).reverse
theorem jke (x : Str × NameKind) (names : List (Str × NameKind)) (cells : List (Str × Addr)) :
   jd2 (x :: names) cells = jd2 names cells ++ (if x.2 == .free then (cells.lookup x.1).map fun c => (x.1, c) else none).toList := by
 unfold jd2
 rw [List.filterMap_cons]
 cases (if x.2 == .free then (cells.lookup x.1).map fun c => (x.1, c) else none) <;> simp
theorem jjB (env : Env) : ∀ (names : List (Str × NameKind)) (cs : List (Str × Addr)), (∀ x ∈ names, x.2 = .free → ∃ c, env.cells.lookup x.1 = some c) →
   (forIn (m := Sem) names cs fun x r => (match x with | (name, kind) => if (kind == .free) = true then do let a ← cellOf env name; pure (ForInStep.yield ((name, a) :: r)) else pure (ForInStep.yield r))) = pure (jd2 names env.cells ++ cs)
 | [], cs, _ => rfl
 | (n, k) :: r, cs, h => by
   rw [List.forIn_cons, jke]
   have ih := fun cs => jjB env r cs fun x hx => h x (List.mem_cons_of_mem _ hx)
   cases hk : (k == NameKind.free) with
   | false =>
     simp only [hk, Bool.false_eq_true, if_false, pure_bind]
     rw [ih]
     simp
   | true =>
     obtain ⟨c, e⟩ := h (n, k) List.mem_cons_self (by simpa using hk)
     have e' : env.cells.lookup n = some c := e
     have ec : cellOf env n = pure c := by unfold cellOf; rw [e']
     simp only [hk, if_true, ec, pure_bind, e', Option.map_some, Option.toList]
     rw [ih]
     simp
theorem jd6 {scope : Scope} {env : Env} (h : ∀ x ∈ scope.names, x.2 = .free → ∃ c, env.cells.lookup x.1 = some c) : closureFor scope env = pure (jd2 scope.names env.cells) := by
 have e := jjB env scope.names [] h
 unfold closureFor
 rw [List.append_nil] at e
 simp only [bind_pure]
 exact e
theorem jdh {names : List (Str × NameKind)} {cells : List (Str × Addr)} {n : Str} {c : Addr} (h : (jd2 names cells).lookup n = some c) : cells.lookup n = some c := by
 have m := PySem.mem_of_lookup h
 unfold jd2 at m
 rw [List.mem_reverse, List.mem_filterMap] at m
 obtain ⟨x, _, e⟩ := m
 split at e
 · cases q : cells.lookup x.1 with
   | none => rw [q] at e; cases e
   | some c' =>
     rw [q] at e
     cases e
     exact q
 · cases e
theorem jeb {n : Str} {c : Addr} : ∀ {l : List (Str × Addr)}, (n, c) ∈ l → ∃ c', l.lookup n = some c'
 | [], h => by simp at h
 | (k, v) :: r, h => by
   rw [List.lookup_cons]
   cases e : n == k with
   | true => exact ⟨v, rfl⟩
   | false =>
     rcases List.mem_cons.mp h with z | z
     · cases z; simp at e
     · exact jeb z
theorem jiD {names : List (Str × NameKind)} {cells : List (Str × Addr)} {n : Str} {c : Addr} (hm : (n, NameKind.free) ∈ names) (hc : cells.lookup n = some c) : (jd2 names cells).lookup n = some c := by
 have m : (n, c) ∈ jd2 names cells := by
   unfold jd2
   rw [List.mem_reverse, List.mem_filterMap]
   exact ⟨(n, .free), hm, by simp [hc]⟩
 obtain ⟨c', e⟩ := jeb m
 rw [e, ← hc, jdh e]
theorem jb9 {env : Env} : ∀ {names : List (Str × NameKind)} {x : Str} {k : NameKind}, names.lookup x = some k → k ≠ .free →
   (names.map fun (n, k) => if (k == NameKind.free && env.scope.kind == .function && env.kindOf n == some .cell) then (n, NameKind.cell) else (n, k)).lookup x = some k
 | [], _, _, h, _ => by simp at h
 | (n, q) :: r, x, k, h, hk => by
   have ih := @jb9 env r x k
   show List.lookup x ((if (q == NameKind.free && env.scope.kind == .function && env.kindOf n == some .cell) = true then (n, NameKind.cell) else (n, q)) :: _) = _
   cases hx : x == n with
   | true =>
     simp only [List.lookup_cons, hx] at h
     cases h
     have e : (q == NameKind.free) = false := by simpa using hk
     simp [List.lookup_cons, hx, e]
   | false =>
     simp only [List.lookup_cons, hx] at h
     by_cases hc : (q == NameKind.free && env.scope.kind == .function && env.kindOf n == some .cell) = true
     · rw [if_pos hc]; simp only [List.lookup_cons, hx]; exact ih h hk
     · rw [if_neg hc]; simp only [List.lookup_cons, hx]; exact ih h hk
theorem jdr {env : Env} : ∀ {names : List (Str × NameKind)} {x : Str}, names.lookup x = some .free →
   (names.map fun (n, k) => if (k == NameKind.free && env.scope.kind == .function && env.kindOf n == some .cell) then (n, NameKind.cell) else (n, k)).lookup x = some .cell ∨
   (names.map fun (n, k) => if (k == NameKind.free && env.scope.kind == .function && env.kindOf n == some .cell) then (n, NameKind.cell) else (n, k)).lookup x = some .free
 | [], _, h => by simp at h
 | (n, q) :: r, x, h => by
   have ih := @jdr env r x
   show List.lookup x ((if (q == NameKind.free && env.scope.kind == .function && env.kindOf n == some .cell) = true then (n, NameKind.cell) else (n, q)) :: _) = _ ∨
     List.lookup x ((if (q == NameKind.free && env.scope.kind == .function && env.kindOf n == some .cell) = true then (n, NameKind.cell) else (n, q)) :: _) = _
   cases hx : x == n with
   | true =>
     simp only [List.lookup_cons, hx] at h
     cases h
     by_cases hc : (NameKind.free == NameKind.free && env.scope.kind == .function && env.kindOf n == some .cell) = true
     · rw [if_pos hc]; simp [List.lookup_cons, hx]
     · rw [if_neg hc]; simp [List.lookup_cons, hx]
   | false =>
     simp only [List.lookup_cons, hx] at h
     by_cases hc : (q == NameKind.free && env.scope.kind == .function && env.kindOf n == some .cell) = true
     · rw [if_pos hc]; simp only [List.lookup_cons, hx]; exact ih h
     · rw [if_neg hc]; simp only [List.lookup_cons, hx]; exact ih h
theorem jdl {env : Env} : ∀ {names : List (Str × NameKind)} {x : Str} {k : NameKind},
   (names.map fun (n, k) => if (k == NameKind.free && env.scope.kind == .function && env.kindOf n == some .cell) then (n, NameKind.cell) else (n, k)).lookup x = some k →
   names.lookup x = some k ∨ names.lookup x = some .free
 | [], _, _, h => by simp at h
 | (n, q) :: r, x, k, h => by
   have ih := @jdl env r x k
   have h' : List.lookup x ((if (q == NameKind.free && env.scope.kind == .function && env.kindOf n == some .cell) = true then (n, NameKind.cell) else (n, q)) :: _) = _ := h
   cases hx : x == n with
   | true =>
     by_cases hc : (q == NameKind.free && env.scope.kind == .function && env.kindOf n == some .cell) = true
     · have hq : q = .free := by
         cases q <;> first | rfl | (exact absurd hc (by simp))
       subst hq
       simp [List.lookup_cons, hx]
     · rw [if_neg hc] at h'; simp only [List.lookup_cons, hx] at h' ⊢; exact .inl h'
   | false =>
     by_cases hc : (q == NameKind.free && env.scope.kind == .function && env.kindOf n == some .cell) = true
     · rw [if_pos hc] at h'; simp only [List.lookup_cons, hx] at h' ⊢; exact ih h'
     · rw [if_neg hc] at h'; simp only [List.lookup_cons, hx] at h' ⊢; exact ih h'
structure jig (sc0 : Scope) (N0 N : List Str) (mp : List (Option Nat)) (sc : Scope) : Prop where
 kind : sc.kind = .function
 nocell : ∀ y ∈ sc.names, y.2 ≠ .cell
 own : ∀ y ∈ sc.names, y.2 = .local → sc.names.lookup y.1 = some .local
 free : ∀ y ∈ sc.names, y.2 = .free → sc0.names.lookup y.1 = some .cell ∨ sc0.names.lookup y.1 = some .free
 nd : N.Nodup
 len : mp.length = N.length
 map : ((mp.zip N).all fun p => match p.1 with | none => true | some i => (N0[i]? == some p.2) && (sc.names.lookup p.2 == some .free)) = true
def pick (mp : List (Option Nat)) (σ : St) : St := mp.map fun o => o.bind fun i => (σ[i]?).bind id
def blk (X : Cx) (N : List Str) (sc : Scope) (s3 : Shared) (H3 : Hp) (C : Addr) (fp : List Addr) : Cx where
 prog := X.prog
 w := X.w
 K := X.K
 mg := X.mg
 base := X.base
 A := X.A
 N := N
 s₀ := s3
 H₀ := H3
 env := compEnvC sc (jd2 sc.names X.env.cells) C X.env
 outer := X.stack
 stack := X.stack
 ex := fp
 fn := fun _ => false
 calm := X.calm
 pn := []
 xe := fun _ _ => False
section
variable {X : Cx} {N : List Str} {mp : List (Option Nat)} {sc : Scope} {pins : List (Addr × Obj)} {σ : St} {H : Hp} {s : Shared}
theorem jl0 {fp : List Addr} {h' : Heap} {m : Str → Option Value} {ob : Obj} {t' : Nat} (S : jig X.env.scope X.N N mp sc) (I : Inv X pins σ H s) (hf : ∀ b ∈ fp, jge X pins H b ∧ b < s.heap.objs.size)
   (hn : h'.Ns s.heap.objs.size m) (hsb : Heap.SameBut s.heap.objs.size (s.heap.push ob) h') :
   Inv (blk X N sc s H s.heap.objs.size fp) [] (pick mp σ) H { s with heap := h', toks := t' } := by
 have old : ∀ b u, s.heap.get? b = some u → h'.get? b = some u := fun b u e => hsb.extBut b u (Nat.ne_of_lt (Heap.lt_size e)) (Heap.get?_push_of_some _ e)
 have hC : ∀ x c, (jd2 sc.names X.env.cells).lookup x = some c → X.env.cells.lookup x = some c := fun x c e => jdh e
 refine ⟨⟨I.ok.mod, S.kind, I.ok.glob, I.ok.blt, Nat.le_refl _, fun x y c e1 e2 => I.ok.inj x y c (hC x c e1) (hC y c e2), fun x hx => ?_, fun _ _ z _ => absurd (show false = true from z) Bool.false_ne_true, I.ok.hd, I.ok.frames, .inl rfl, fun b hb => ?_, I.bs, Nat.le_trans I.ok.bsz I.sz, fun b o e hb => ?_, fun b hb z => ?_, I.stack, I.stkFree⟩,
   rfl, I.bare, Un.kept old, ⟨m, hn, fun i x v e1 e2 e3 => ?_⟩, fun x c e => ?_, I.hok.fresh (Nat.le_refl _), fun x c e => I.freeC x c (hC x c e), fun p hp => absurd (show p ∈ ([] : List (Addr × Obj)) from hp) (by simp), I.hok.kept old, ?_⟩
 · have hx' : (relabel sc X.env).names.lookup x = some .cell ∨ (relabel sc X.env).names.lookup x = some .free := hx
   have hl : sc.names.lookup x = some .free := by
     rcases hx' with z | z
     · rcases jdl z with y | y
       · exact absurd rfl (S.nocell _ (PySem.mem_of_lookup y))
       · exact y
     · rcases jdl z with y | y
       · exact y
       · exact y
   have hm := PySem.mem_of_lookup hl
   obtain ⟨c, e⟩ := I.ok.has x (S.free _ hm rfl)
   exact ⟨c, jiD hm e⟩
 · obtain ⟨⟨f0, f1, f2, f3, f4, f5⟩, hlt⟩ := hf b hb
   exact ⟨Nat.ne_of_lt hlt, fun x c e => f4 x c (hC x c e)⟩
 · obtain ⟨⟨f0, f1, f2, f3, f4, f5⟩, hlt⟩ := hf b hb
   rcases f3 with z | z
   · exact I.ok.noex b o e z
   · exact absurd (Nat.lt_of_lt_of_le (Heap.lt_size (I.ok.bs b o e).1) z) (Nat.lt_irrefl _)
 · obtain ⟨⟨f0, f1, f2, f3, f4, f5⟩, hlt⟩ := hf b hb
   exact (List.mem_cons.mp (I.stkSub b z)).elim f1 f2
 · have e1 : N[i]? = some x := e1
   unfold pick at e2
   rw [List.getElem?_map] at e2
   cases hm : mp[i]? with
   | none => rw [hm] at e2; cases e2
   | some o =>
     rw [hm] at e2
     cases o with
     | none => cases e2
     | some j =>
       have e2' : (σ[j]?).bind id = some v := Option.some.inj e2
       have e4 : σ[j]? = some (some v) := by
         cases q : σ[j]? with
         | none => rw [q] at e2'; cases e2'
         | some z => rw [q] at e2'; exact congrArg some e2'
       have hz : (some j, x) ∈ mp.zip N := by
         refine List.mem_of_getElem? (i := i) ?_
         rw [List.getElem?_zip_eq_some]
         exact ⟨hm, e1⟩
       have ha := List.all_eq_true.mp S.map _ hz
       have ha' : ((X.N[j]? == some x) && (sc.names.lookup x == some .free)) = true := ha
       rw [Bool.and_eq_true] at ha'
       have hN : X.N[j]? = some x := eq_of_beq ha'.1
       have hl : sc.names.lookup x = some .free := eq_of_beq ha'.2
       have hm' := PySem.mem_of_lookup hl
       have hk := S.free _ hm' rfl
       obtain ⟨m0, hn0, hl0⟩ := I.loc
       obtain ⟨u, ru, lk⟩ := hl0 j x v hN e4 (hk.elim (fun z => .inr (.inl z)) fun z => .inr (.inr z))
       refine ⟨u, ru, ?_⟩
       rcases lk with ⟨z, _⟩ | ⟨_, c, ec, oc, hoc, hd⟩
       · have z : X.env.scope.names.lookup x = some .local := z
         rcases hk with y | y
         · rw [z] at y; cases y
         · rw [z] at y; cases y
       · exact .inr ⟨jdr hl, c, jiD hm' ec, oc, old _ _ hoc, hd⟩
 · obtain ⟨v, oc, hoc, hd⟩ := I.cell x c (hC x c e)
   exact ⟨v, oc, old _ _ hoc, hd⟩
 · unfold pick
   rw [List.length_map]
   exact S.len
def PIf (X : Cx) (ifs : List Expr) (t : TT) : Prop :=
 ∀ (pins : List (Addr × Obj)) (s : Shared) (σ : St) (H : Hp) (Q : Bool → Hp → Prop), Inv X pins σ H s → t σ H Q →
   wpAny (model X.prog X.w) X.A (forIn ifs true fun c r => if r = true then do let ok ← isTrue c X.env (eval c X.env); pure (ForInStep.yield ok) else pure (ForInStep.yield r)) (TP X pins σ Q) X.xe s
def jqs : TT := fun _ H Q => Q true H
theorem jbH : PIf X [] jqs := fun pins s σ H Q I h => wpAny_pure ⟨H, I, h⟩
theorem jfo {c : Expr} {t : TT} (h : PT X c t) : PIf X [c] t := fun pins s σ H Q I q => wpAny_tests_one (h pins s σ H Q I q)
def jin (J : It) (mp : List (Option Nat)) (g : TG) (ti : TT) (te : TE) (D : Addr) (Q : VK) (σ : St) (H1 : Hp) : Prop := ∃ W : Nat → Nat → St → Hp → Prop, (∃ m, W 0 m (pick mp σ) (upd H1 D (.lst []))) ∧
 ∀ i m σ' H', W i m σ' H' → (J.stop i H' ∧ Q (.ref D) H') ∨ (J.go i H' ∧ ∃ Nx : St → Hp → Prop, (∀ σ2 H2, Nx σ2 H2 → ∃ m', m' < m ∧ W (i + 1) m' σ2 H2) ∧
   ∀ x H'', J.yld i H' x H'' → g x σ' H'' fun σ2 H2 => ti σ2 H2 fun c H3 => if c = true then te σ2 H3 fun y H4 => ∃ ys, H4 D = some (.lst ys) ∧ ys.length < sizeLine ∧ Nx σ2 (upd H4 D (.lst (ys ++ [y]))) else Nx σ2 H3)
def jle (mp : List (Option Nat)) (wi : TI) (g : TG) (ti : TT) (te : TE) : TE := fun σ H Q => wi σ H fun J H1 => ∀ D, H1 D = none → jin J mp g ti te D Q σ H1
theorem jcu {prog : Program} {w : World} {A : Around} {R : Result → Shared → Prop} {s : Shared} {elt target iter : Expr} {ifs : List Expr} {scope : Scope} {pos : Pos} {it acc : Value} {env : Env} (I : Nat → Shared → Prop)
   (turn : ∀ n s, I n s → wpAny (model prog w) A (pyNext it) (fun r s₁ => match r with
     | none => R (.ok .next) s₁
     | some v => wpAny (model prog w) A (letOwnedTupleGo target it v) (fun _ s₁' => wpAny (model prog w) A (assign target env v) (fun _ s₂ =>
         wpAny (model prog w) A (forIn ifs true fun c r => if r = true then do let ok ← isTrue c env (eval c env); pure (ForInStep.yield ok) else pure (ForInStep.yield r)) (fun ok s₃ =>
           if ok = true then wpAny (model prog w) A (eval elt env) (fun x s₄ =>
             wpAny (model prog w) A (call (.builtin "list.append") [acc, x]) (fun _ s₅ => ∃ m, m < n ∧ I m s₅) (fun _ _ => False) s₄) (fun _ _ => False) s₃
           else ∃ m, m < n ∧ I m s₃) (fun _ _ => False) s₂) (fun _ _ => False) s₁') (fun _ _ => False) s₁) (fun _ _ => False) s)
   (n : Nat) (h : I n s) :
   codeAny (model prog w) A (.compLoop (.ListComp elt [⟨target, iter, ifs, 0⟩] scope pos) 0 it acc env) R s := by
 refine codeAny_loop rfl I (fun n s hI => ?_) n h
 show wpAny _ A ((compTurn (.ListComp elt [⟨target, iter, ifs, 0⟩] scope pos) 0 it acc env).onRaise (fun x => do noteFrame x env; theTreesLotGoes x)) _ _ s
 refine wpAny_noted (wpAny_noRaise ?_)
 rw [compTurn_list]
 refine wpAny_bind (wpAny_standAt (wpAny_bind (wpAny_mono (turn n s hI) (fun r s₁ h₁ => ?_) fun _ _ h' => h')))
 cases r with
 | none => exact wpAny_pure h₁
 | some v =>
   refine wpAny_bind (wpAny_mono h₁ (fun _ s₁' h₁' => ?_) fun _ _ h' => h')
   refine wpAny_bind (wpAny_mono h₁' (fun _ s₂ h₂ => wpAny_bind (wpAny_mono h₂ (fun ok s₃ h₃ => ?_) fun _ _ h' => h')) fun _ _ h' => h')
   cases ok with
   | false => exact wpAny_pure ⟨rfl, h₃⟩
   | true =>
     exact wpAny_bind (wpAny_bind (wpAny_mono h₃ (fun x s₄ h₄ => wpAny_bind (wpAny_mono h₄ (fun _ s₅ h₅ => wpAny_pure (wpAny_pure ⟨rfl, h₅⟩)) fun _ _ h' => h')) fun _ _ h' => h'))
theorem joj {elt tg iter : Expr} {ifs : List Expr} {pos : Pos} {wi : TI} {g : TG} {ti : TT} {te : TE} (hc : X.calm = true) (S : jig X.env.scope X.N N mp sc) (hi : PI X tg iter wi)
   (hb : ∀ s3 H3 C fp, PG (blk X N sc s3 H3 C fp) tg g ∧ PIf (blk X N sc s3 H3 C fp) ifs ti ∧ PE (blk X N sc s3 H3 C fp) elt te)
   (hs : ∀ x, foldedSetIterable iter X.env x = pure x := by intro _; rfl) : PE X (.ListComp elt [⟨tg, iter, ifs, 0⟩] sc pos) (jle mp wi g ti te) := by
 intro pins s σ H Q I h
 rw [eval_ListComp]
 refine wpAny_comprehension_free (use := none) rfl hs (jd6 (fun x hx hf => I.ok.has x.1 (S.free x hx hf))) S.kind S.own (thn (hi pins s σ H _ I h) fun v s1 h1 => thn h1 fun itv s2 h2 => ?_)
 obtain ⟨it, fp, tn, J, H2, rfl, I2, T, st2, f2, q⟩ := h2
 refine wpAny_newObj_type (wpAny_newFunctionEnv S.nocell (by intro y hy; simp at hy) (fun h₁ hns₁ hsb₁ => ?_) S.kind)
 dsimp only at hns₁ hsb₁ ⊢
 have hD : H2 s2.heap.objs.size = none := I2.hok.fresh (Nat.le_refl _)
 obtain ⟨W, ⟨m0, w0⟩, turn⟩ := q _ hD
 have I3 : Inv X pins σ (upd H2 s2.heap.objs.size (.lst [])) { s2 with heap := s2.heap.push { cls := .type "list", dict := none, data := .seq ([] : List Value).toArray } } :=
   I2.laid (t' := s2.toks) (o := .lst []) (fun b o e => Heap.get?_push_of_some _ e) (Nat.le_refl _) ⟨Nat.zero_le _, [], 0, .nil, Heap.get?_push_size _ rfl⟩
 have hDfp : s2.heap.objs.size ∉ fp := fun z => by
   obtain ⟨o, e, _⟩ := T.obj 0 _ st2 _ z
   exact absurd (Heap.lt_size e) (Nat.lt_irrefl _)
 have hf3 : ∀ b ∈ fp, jge X pins (upd H2 s2.heap.objs.size (.lst [])) b ∧ b < (s2.heap.push { cls := .type "list", dict := none, data := .seq ([] : List Value).toArray }).objs.size := fun b hb => by
   obtain ⟨o, e, _⟩ := T.obj 0 _ st2 b hb
   have hlt := Heap.lt_size e
   obtain ⟨f0, f1⟩ := f2 b hb
   refine ⟨⟨?_, f1⟩, ?_⟩
   · rw [jaw (Nat.ne_of_lt hlt)]; exact f0
   · rw [Heap.size_push]; exact Nat.lt_succ_of_lt hlt
 have IY := jl0 (N := N) (mp := mp) (sc := sc) (t' := s2.toks + ([] : List (Str × Value)).length) S I3 hf3 hns₁ hsb₁
 have old4 : ∀ b o, s2.heap.get? b = some o → h₁.get? b = some o := fun b o e => by
   have e3 : (s2.heap.push { cls := .type "list", dict := none, data := .seq ([] : List Value).toArray }).get? b = some o := Heap.get?_push_of_some _ e
   exact hsb₁.extBut b o (Nat.ne_of_lt (Heap.lt_size e3)) (Heap.get?_push_of_some _ e3)
 have st4 : tn 0 h₁ := T.keep _ _ _ st2 fun b _ o e => old4 b o e
 have fpY : ∀ {H' : Hp}, (∀ b ∈ fp, H' b = none) → ∀ b ∈ fp, jge (blk X N sc { s2 with heap := s2.heap.push { cls := .type "list", dict := none, data := .seq ([] : List Value).toArray } } (upd H2 s2.heap.objs.size (.lst [])) (s2.heap.push { cls := .type "list", dict := none, data := .seq ([] : List Value).toArray }).objs.size fp) [] H' b := fun hn b hb => by
   obtain ⟨x1, x2⟩ := hf3 b hb
   obtain ⟨f0, f1, f2', f3, f4, f5⟩ := x1
   exact ⟨hn b hb, Nat.ne_of_lt x2, fun z => (List.mem_cons.mp (I3.stkSub b z)).elim f1 f2', .inl hb, fun x c e => f4 x c (jdh e), fun p hp => absurd (show p ∈ ([] : List (Addr × Obj)) from hp) (by simp)⟩
 obtain ⟨hg, hif, he⟩ := id (hb { s2 with heap := s2.heap.push { cls := .type "list", dict := none, data := .seq ([] : List Value).toArray } } (upd H2 s2.heap.objs.size (.lst [])) (s2.heap.push { cls := .type "list", dict := none, data := .seq ([] : List Value).toArray }).objs.size fp)
 have loop : codeAny (model X.prog X.w) X.A (.compLoop (.ListComp elt [⟨tg, iter, ifs, 0⟩] sc pos) 0 (.ref it) (.ref s2.heap.objs.size) (compEnvC sc (jd2 sc.names X.env.cells) (s2.heap.push { cls := .type "list", dict := none, data := .seq ([] : List Value).toArray }).objs.size X.env))
     (compPost (model X.prog X.w) X.A X.xe none (EP X pins σ Q) (.ref s2.heap.objs.size) (s2.heap.push { cls := .type "list", dict := none, data := .seq ([] : List Value).toArray }).objs.size) { s2 with heap := h₁, toks := s2.toks + ([] : List (Str × Value)).length } := by
   refine jcu (fun n s' => ∃ i σ' H', Inv (blk X N sc { s2 with heap := s2.heap.push { cls := .type "list", dict := none, data := .seq ([] : List Value).toArray } } (upd H2 s2.heap.objs.size (.lst [])) (s2.heap.push { cls := .type "list", dict := none, data := .seq ([] : List Value).toArray }).objs.size fp) [] σ' H' s' ∧
     tn i s'.heap ∧ (∀ b ∈ fp, H' b = none) ∧ W i n σ' H') ?_ m0 ⟨0, _, _, IY, st4, fun b hb => (hf3 b hb).1.1, w0⟩
   rintro n s5 ⟨i, σ5, H5, I5, st5, fr5, w5⟩
   rcases turn i n σ5 H5 w5 with ⟨stop, qn⟩ | ⟨go, Nx, hN, step⟩
   · refine thn (T.done (blk X N sc { s2 with heap := s2.heap.push { cls := .type "list", dict := none, data := .seq ([] : List Value).toArray } } (upd H2 s2.heap.objs.size (.lst [])) (s2.heap.push { cls := .type "list", dict := none, data := .seq ([] : List Value).toArray }).objs.size fp) rfl rfl rfl hc i [] s5 σ5 H5 _ I5 (fpY fr5) st5 stop) fun r s6 ⟨hr, I6⟩ => ?_
     subst hr
     obtain ⟨m6, hn6, _⟩ := id I6.loc
     refine ⟨m6, hn6, fun h7 hs7 => ?_⟩
     have un : Un (frs X.stack) fp (upd H2 s2.heap.objs.size (.lst [])) H5 (s2.heap.push { cls := .type "list", dict := none, data := .seq ([] : List Value).toArray }) s6.heap := I6.base
     have ne : ∀ b o, (s2.heap.push { cls := .type "list", dict := none, data := .seq ([] : List Value).toArray }).get? b = some o → b ≠ (s2.heap.push { cls := .type "list", dict := none, data := .seq ([] : List Value).toArray }).objs.size := fun b o e => Nat.ne_of_lt (Heap.lt_size e)
     have un7 : Un (frs X.stack) fp (upd H2 s2.heap.objs.size (.lst [])) H5 (s2.heap.push { cls := .type "list", dict := none, data := .seq ([] : List Value).toArray }) h7 := by
       refine ⟨fun b o e nn hb hx => hs7.extBut b o (ne b o e) (un.keep b o e nn hb hx), fun b o e nn hb hx => ?_, un.free, fun b o e hx => ?_, un.tups, un.frzs, un.tbls⟩
       · obtain ⟨sl, z⟩ := un.slot b o e nn hb hx
         exact ⟨sl, hs7.extBut b _ (ne b o e) z⟩
       · obtain ⟨o', z⟩ := un.there b o e hx
         exact ⟨o', hs7.extBut b o' (ne b o e) z⟩
     have hok7 : HOk X.prog X.w H5 h7 := HOk.but I6.hok I6.free fun b o hb e => hs7.extBut b o hb e
     refine ⟨.ref s2.heap.objs.size, H5, I3.call' (s' := { s6 with heap := h7 }) (ch := fp) I6.os un7 hok7 I6.bare fun b hb => ?_, rfl, qn⟩
     obtain ⟨⟨f0, f1, f2', f3, f4, f5⟩, _⟩ := hf3 b hb
     exact ⟨f3, f1, f4, f5⟩
   · refine thn (T.item (blk X N sc { s2 with heap := s2.heap.push { cls := .type "list", dict := none, data := .seq ([] : List Value).toArray } } (upd H2 s2.heap.objs.size (.lst [])) (s2.heap.push { cls := .type "list", dict := none, data := .seq ([] : List Value).toArray }).objs.size fp) rfl rfl rfl hc i [] s5 σ5 H5 _ I5 (fpY fr5) st5 go) fun r s6 ⟨u, hr, h6⟩ => ?_
     subst hr
     refine thn h6 fun _ s7 ⟨x, H7, I7, r7, y7, st7, fr7⟩ => ?_
     have I7' := I7.pinned (fpY fr7) (T.obj _ _ st7)
     refine thn (hg _ s7 σ5 H7 x u _ I7' r7 (step x H7 y7)) fun _ s8 ⟨σ8, H8, I8, q8⟩ => ?_
     refine thn (hif _ s8 σ8 H8 _ I8 q8) fun ok s9 ⟨H9, I9, q9⟩ => ?_
     have again : ∀ {σ' : St} {H' : Hp} {s' : Shared}, Inv (blk X N sc { s2 with heap := s2.heap.push { cls := .type "list", dict := none, data := .seq ([] : List Value).toArray } } (upd H2 s2.heap.objs.size (.lst [])) (s2.heap.push { cls := .type "list", dict := none, data := .seq ([] : List Value).toArray }).objs.size fp) ([] ++ jff fp s7.heap) σ' H' s' → Nx σ' H' →
         ∃ m, m < n ∧ ∃ i σ' H', Inv (blk X N sc { s2 with heap := s2.heap.push { cls := .type "list", dict := none, data := .seq ([] : List Value).toArray } } (upd H2 s2.heap.objs.size (.lst [])) (s2.heap.push { cls := .type "list", dict := none, data := .seq ([] : List Value).toArray }).objs.size fp) [] σ' H' s' ∧ tn i s'.heap ∧ (∀ b ∈ fp, H' b = none) ∧ W i m σ' H' := fun {σ' H' s'} J nx => by
       obtain ⟨m', hm, w'⟩ := hN σ' H' nx
       refine ⟨m', hm, i + 1, σ', H', J.unpinned, T.keep _ _ _ st7 fun b hb o e => (J.pin (b, o) (List.mem_append_right _ (List.mem_append_right _ (jbX hb e)))).1, fun b hb => ?_, w'⟩
       obtain ⟨o, e, d⟩ := T.obj _ _ st7 b hb
       exact (J.pin (b, o) (List.mem_append_right _ (List.mem_append_right _ (jbX hb e)))).2.1
     cases ok with
     | false =>
       rw [if_neg Bool.false_ne_true] at q9 ⊢
       exact again I9 q9
     | true =>
       rw [if_pos rfl] at q9 ⊢
       refine thn (he _ s9 σ8 H9 _ I9 q9) fun yv s10 ⟨y, H10, I10, ry, ys, hy, hl, nx⟩ => ?_
       refine thn (jih _ s10 σ8 H10 (.ref s2.heap.objs.size) [y] (.ref s2.heap.objs.size) [yv] (fun v H' => v = .non ∧ H' = upd H10 s2.heap.objs.size (.lst (ys ++ [y]))) I10 rfl (.cons ry .nil) ⟨_, ys, y, rfl, rfl, hy, hl, rfl, rfl⟩) fun _ s11 ⟨_, H11, I11, _, _, e11⟩ => ?_
       subst e11
       exact again I11 nx
 exact codeAny_compStart_list loop (T.self X.A 0 _ _ _ st4 loop)
end
end L2
namespace L2
open PySem PySem.Spec PyProof.Rows
abbrev S (l : List Nat) : Str := ⟨l.toArray⟩
theorem jaD (l : List Nat) : (S l).length = l.length := by simp [Str.length]
theorem jgm (l : List Nat) : (S l).cps.toList = l := by simp
theorem jm4 {a b : List Nat} : S a = S b ↔ a = b := by
 constructor
 · intro h
   have := congrArg (fun x : Str => x.cps.toList) h
   simpa using this
 · rintro rfl; rfl
theorem joi (x : Str) : S x.cps.toList = x := by cases x; simp
theorem ji0 (a b : List Nat) : S a ++ S b = S (a ++ b) := by
 show Str.mk _ = Str.mk _
 simp
def jkH {α : Type} (l : List α) (lo hi : Option Int) : List α := (l.drop (HT.sIx l.length 0 lo)).take (HT.sIx l.length l.length hi - HT.sIx l.length 0 lo)
section
variable {X : Cx}
theorem jj0 (n d : Nat) (v : Int) : ((HT.sIx n d (some v) : Nat) : Int) = max 0 (min (if v < 0 then v + (n : Int) else v) (n : Int)) := by
 show (((if v < 0 then (v + (n : Int)).toNat else min v.toNat n) : Nat) : Int) = _
 by_cases h : v < 0
 · rw [if_pos h, if_pos h]; omega
 · rw [if_neg h, if_neg h]; omega
theorem jmm (lo hi : Option Int) (n : Nat) : Builtin.Str.strSliceIndices lo hi 1 n = Builtin.Str.strSliceIndices (some ((HT.sIx n 0 lo : Nat) : Int)) (some ((HT.sIx n n hi : Nat) : Int)) 1 n := by
 have a1 : ∀ k : Nat, ¬ ((k : Int) < 0) := fun k => by omega
 have b1 := HT.sIx_le n 0 (Nat.zero_le _) lo
 have b2 := HT.sIx_le n n (Nat.le_refl _) hi
 have c1 : ∀ k : Nat, k ≤ n → max (0 : Int) (min (k : Int) (n : Int)) = k := fun k hk => by omega
 unfold Builtin.Str.strSliceIndices
 simp only [show (1 : Int) > 0 by decide, if_true, a1, if_false, c1 _ b1, c1 _ b2]
 congr 1
 · cases lo with
   | none => rfl
   | some v => exact (jj0 n 0 v).symm
 · cases hi with
   | none => rfl
   | some v => exact (jj0 n n v).symm
theorem jn2 (l : List Nat) (lo hi : Option Int) : Txt.slice (S l) lo hi = S (jkH l lo hi) := by
 have hl : (S l).length = l.length := jaD l
 have b1 := HT.sIx_le l.length 0 (Nat.zero_le _) lo
 have b2 := HT.sIx_le l.length l.length (Nat.le_refl _) hi
 unfold Txt.slice
 rw [jmm lo hi, hl]
 by_cases hab : HT.sIx l.length 0 lo ≤ HT.sIx l.length l.length hi
 · have key := StrLaws.sliceText_nat (S l) hab (by rw [hl]; exact b2)
   unfold StrLaws.sliceText at key
   rw [hl] at key
   rw [key]
   unfold jkH
   simp
 · have e : Builtin.Str.strSliceIndices (some ((HT.sIx l.length 0 lo : Nat) : Int)) (some ((HT.sIx l.length l.length hi : Nat) : Int)) 1 l.length = [] := by
     have a1 : ∀ k : Nat, ¬ ((k : Int) < 0) := fun k => by omega
     have c1 : ∀ k : Nat, k ≤ l.length → max (0 : Int) (min (k : Int) (l.length : Int)) = k := fun k hk => by omega
     unfold Builtin.Str.strSliceIndices
     simp only [show (1 : Int) > 0 by decide, if_true, a1, if_false, c1 _ b1, c1 _ b2]
     unfold sliceRange
     simp
     omega
   rw [e]
   have hne : l.length ≠ 0 := by omega
   have hne' : ((1 : Int) == 1 && ([] : List Nat).length == l.length) = false := by
     simp only [beq_self_eq_true, Bool.true_and, List.length_nil]
     exact beq_false_of_ne (Ne.symm hne)
   rw [if_neg (by rw [hne']; decide)]
   unfold jkH
   have : HT.sIx l.length l.length hi - HT.sIx l.length 0 lo = 0 := by omega
   rw [this]
   simp
def jq1 : V → Option Int → Option Int → Hp → VK → Prop := fun x lo hi H Q => ∃ l, x = .str (S l) ∧ l.length ≤ sizeLine ∧ Q (.str (S (jkH l lo hi))) H
theorem jf3 : SlR X jq1 := by
 intro pins s σ H x v vl vu lo hi sl Q I rx hs pl pu h
 obtain ⟨l, rfl, hz, q⟩ := h
 obtain ⟨t, rfl⟩ := rx
 refine ⟨"str", _, F.slot_str_getitem.lookup, typeIs_str _ _ _, ?_⟩
 have key : ∀ l' u' : Option (Int × Tok), vl = partValue l' → vu = partValue u' → l'.map (·.1) = lo → u'.map (·.1) = hi → wpAny (model X.prog X.w) X.A (getItem (.str (S l) t) (.ref sl)) (EP X pins σ Q) X.xe s := by
   rintro l' u' rfl rfl rfl rfl
   refine wpAny_getItem_str_slice (l := l') (u := u') (st := none) hs rfl (post_val_or_str ?_)
   have e : (if ((((none : Option (Int × Tok)).map (·.1)).getD 1) == 1 && (slicePicked (S l) l' u' none).length == (S l).length) = true then S l else ⟨((slicePicked (S l) l' u' none).filterMap ((S l).cps[·]?)).toArray⟩) = S (jkH l (l'.map (·.1)) (u'.map (·.1))) := jn2 l _ _
   refine ⟨?_, fun t' k => ?_⟩
   · rw [e, jaD]
     unfold jkH
     rw [List.length_take, List.length_drop]
     omega
   · rw [e]
     exact ⟨.str _, H, I.tok _, ⟨_, rfl⟩, q⟩
 cases pl with
 | none =>
   cases pu with
   | none => exact key none none rfl rfl rfl rfl
   | int j t' => exact key none (some (j, t')) rfl rfl rfl rfl
 | int i t1 =>
   cases pu with
   | none => exact key (some (i, t1)) none rfl rfl rfl rfl
   | int j t' => exact key (some (i, t1)) (some (j, t')) rfl rfl rfl rfl
theorem pre_take (a b : List Nat) : (b.length ≤ a.length ∧ a.take b.length = b) ↔ b.isPrefixOf a = true := by
 rw [List.isPrefixOf_iff_prefix]
 constructor
 · rintro ⟨_, h⟩; rw [List.prefix_iff_eq_take]; exact h.symm
 · intro h; exact ⟨h.length_le, (List.prefix_iff_eq_take.mp h).symm⟩
theorem jkh (a b : List Nat) : Txt.endswith (S a) (S b) = b.isSuffixOf a := by
 unfold Txt.endswith
 rw [StrLaws.subAt_eq, jaD, jaD, jgm, jgm, Nat.zero_add, Bool.eq_iff_iff, List.isSuffixOf_iff_suffix, List.suffix_iff_eq_drop]
 simp only [Bool.and_eq_true, decide_eq_true_eq, beq_iff_eq]
 constructor
 · rintro ⟨h1, h2⟩
   rw [List.take_of_length_le (by rw [List.length_drop]; omega)] at h2
   exact h2.symm
 · intro h
   have hl : b.length ≤ a.length := by have := congrArg List.length h; rw [List.length_drop] at this; omega
   refine ⟨hl, ?_⟩
   rw [List.take_of_length_le (by rw [List.length_drop]; omega)]
   exact h.symm
def rEw : V → List V → Hp → VK → Prop := fun x vs H Q => ∃ a b, x = .str (S a) ∧ vs = [.str (S b)] ∧ Q (.bl (b.isSuffixOf a)) H
theorem jdR : MtR X "str.endswith" rEw := by
 intro pins s σ H x xs v us Q I rx rs h
 obtain ⟨a, b, rfl, rfl, q⟩ := h
 obtain ⟨t, rfl⟩ := rx
 obtain ⟨u, rfl, t', rfl⟩ := vals1 rs
 exact SC.endswith (by rw [jkh]; exact ⟨.bl _, H, I, rfl, q⟩)
def within (a b : List Nat) : Bool := (List.range (b.length + 1)).any fun i => a.isPrefixOf (b.drop i)
theorem jrq (a b : List Nat) : (!(Builtin.Str.occurrences (S b) (S a) 0 (S b).length 1).isEmpty) = within a b := by
 rw [Bool.eq_iff_iff, StrLaws.found_iff]
 unfold within
 rw [List.any_eq_true]
 constructor
 · rintro ⟨i, h1, h2⟩
   rw [jaD, jaD] at h1
   rw [StrLaws.subAt_eq, jaD, jgm, jgm] at h2
   refine ⟨i, List.mem_range.mpr (by omega), ?_⟩
   rw [← pre_take]
   exact ⟨by rw [List.length_drop]; omega, by simpa using h2⟩
 · rintro ⟨i, hi, h⟩
   rw [← pre_take] at h
   have hi := List.mem_range.mp hi
   obtain ⟨h1, h2⟩ := h
   rw [List.length_drop] at h1
   refine ⟨i, by rw [jaD, jaD]; omega, ?_⟩
   rw [StrLaws.subAt_eq, jaD, jgm, jgm]
   simpa using h2
def jrc : R2 := fun x y H Q => ∃ a b, x = .str (S a) ∧ y = .str (S b) ∧ Q (.bl (within a b)) H
theorem jnz : OpR X (compareOp .In) jrc := by
 intro pins s σ H x y v u Q I rx ry h
 obtain ⟨a, b, rfl, rfl, q⟩ := h
 exact jl4 pins s σ H _ _ v u Q I rx ry ⟨S a, S b, rfl, rfl, by rw [jrq]; exact q⟩
def jpc : R2 := fun x y H Q => ∃ a b, x = .str (S a) ∧ y = .str (S b) ∧ a.length + b.length ≤ sizeLine ∧ Q (.str (S (a ++ b))) H
theorem ji2 : OpR X (binaryOp .Add) jpc := by
 intro pins s σ H x y v u Q I rx ry h
 obtain ⟨a, b, rfl, rfl, hz, q⟩ := h
 exact jkf pins s σ H _ _ v u Q I rx ry ⟨S a, S b, rfl, rfl, by rw [jaD, jaD]; exact hz, by rw [ji0]; exact q⟩
def Its (l : List Nat) : It := ⟨fun i _ => i < l.length, fun i H v H' => H' = H ∧ ∃ c, l[i]? = some c ∧ v = .str (S [c]), fun i _ => l.length ≤ i⟩
theorem jj2 {P : Program} {w : World} {K : PySem.W.Frag} {tg : Expr} {l : List Nat} {t : Tok} {it : Addr} {ty : String}
   (hW : ∀ A' : Around, A'.handled = none → Walks P w A' it [it] [it] (S l).cps.size (SignAt (S l)) (fun i h => h.IsStrIter it ty (S l) t i))
   (hself : ∀ (A : Around) (i : Nat) (s : Shared) (Q : Value → Shared → Prop) (E : Value → Shared → Prop), s.heap.IsStrIter it ty (S l) t i → Q (.ref it) s → wpAny (model P w) A (pyIter (.ref it)) Q E s)
   (hty : ["enumerate", "zip", "dict_itemiterator", "dict_reverseitemiterator", "odict_iterator", "itertools.zip_longest", "itertools.pairwise"].contains ty = false) :
   Turn P w K tg (Its l) [it] it (fun i h => i ≤ l.length ∧ h.IsStrIter it ty (S l) t i) where
 mem := by simp
 obj := fun i h st b hb => by
   have e : b = it := by simpa using hb
   subst e
   obtain ⟨_, o, e, c, d⟩ := st
   exact ⟨o, e, fun v z => by rw [d] at z; cases z⟩
 keep := fun i h h' st k => by
   obtain ⟨hi, o, e, r⟩ := st
   exact ⟨hi, o, k it (by simp) o e, r⟩
 item := by
   intro X hP hw hK hc i pins s σ H E I hf st hg
   subst hP hw hK
   obtain ⟨f0, f1, f2, f3, f4, f5⟩ := hf it (by simp)
   have hg' : i < l.length := hg
   refine (hW X.A (I.ok.hd hc)).item i s _ E (by simpa using hg') st.2 fun v h' tk hv st' hk => ?_
   have I1 : Inv X pins σ H { s with heap := h', toks := tk } := I.turned (t' := tk) (fun b o hb e => hk b o (by simpa using hb) e) f0 f1 f3 f4 f5
   obtain ⟨c, u, hc', rfl⟩ := hv
   obtain ⟨o, e, cl, d⟩ := id st'
   exact ⟨_, rfl, jn3 (s := { s with heap := h', toks := tk }) e cl d hty ⟨.str (S [c]), H, I1, ⟨_, rfl⟩, ⟨rfl, c, by simpa using hc', rfl⟩, ⟨hg', st'⟩, fun b hb => (hf b hb).1⟩⟩
 done := by
   intro X hP hw hK hc i pins s σ H E I hf st hg
   subst hP hw hK
   obtain ⟨f0, f1, f2, f3, f4, f5⟩ := hf it (by simp)
   have hg' : l.length ≤ i := hg
   have e : i = (S l).cps.size := by have := st.1; simp; omega
   subst e
   exact (hW X.A (I.ok.hd hc)).done s _ E st.2 fun h' tk hk => ⟨rfl, I.turned (t' := tk) (fun b o hb e => hk b o (by simpa using hb) e) f0 f1 f3 f4 f5⟩
 self := fun A i s Q E st h => hself A i s Q E st.2 h
def jq6 (tl : TE) : TI := fun σ H R => tl σ H fun x H1 => ∃ l, x = .str (S l) ∧ R (Its l) H1
theorem jjG {tg l : Expr} {tl : TE} (hl : PE X l tl) : PI X tg l (jq6 tl) := by
 intro pins s σ H R I h
 refine thn (hl pins s σ H _ I h) fun v s1 ⟨x, H1, I1, r1, q1⟩ => ?_
 obtain ⟨l, rfl, q⟩ := q1
 obtain ⟨t, rfl⟩ := r1
 have fin : ∀ b ∈ [s1.heap.objs.size], jge X pins H1 b := fun b hb => by
   have e : b = s1.heap.objs.size := by simpa using hb
   subst e
   exact I1.fpOk (Nat.le_refl _) (I1.hok.fresh (Nat.le_refl _))
 cases ha : (S l).cps.all (· < 128)
 · refine wpAny_pyIter_wide ha ?_
   exact ⟨s1.heap.objs.size, [s1.heap.objs.size], _, _, H1, rfl, I1.kept (t' := s1.toks) fun b o e => Heap.get?_push_of_some _ e,
     jj2 (fun A' hA => Walks.strWide hA _ (S l) t) (fun A i s Q E st h => wpAny_pyIter_striter_wide st h) (by decide), ⟨Nat.zero_le _, _, Heap.get?_push_size _ rfl, rfl, rfl⟩, fin, q⟩
 · refine wpAny_pyIter_ascii ha ?_
   exact ⟨s1.heap.objs.size, [s1.heap.objs.size], _, _, H1, rfl, I1.kept (t' := s1.toks) fun b o e => Heap.get?_push_of_some _ e,
     jj2 (fun A' hA => Walks.strAscii hA _ (S l) t) (fun A i s Q E st h => wpAny_pyIter_striter_ascii st h) (by decide), ⟨Nat.zero_le _, _, Heap.get?_push_size _ rfl, rfl, rfl⟩, fin, q⟩
theorem jdc : ∀ {xs : List V} {us : List Value} {i : Nat} {u : Value}, Vals xs us → us[i]? = some u → ∃ x, xs[i]? = some x ∧ RelV x u
 | _, _, _, _, .nil, e => by simp at e
 | _, _, 0, _, .cons r _, e => by simp at e; subst e; exact ⟨_, rfl, r⟩
 | _, _, i + 1, u, .cons _ t, e => by
   obtain ⟨x, h1, h2⟩ := jdc (i := i) (u := u) t (by simpa using e)
   exact ⟨x, by simpa using h1, h2⟩
theorem all_range (bs : List Bool) : ((List.range bs.length).all fun i => bs.getD i false) = bs.all id := by
 rw [Bool.eq_iff_iff, List.all_eq_true, List.all_eq_true]
 constructor
 · intro h b hb
   obtain ⟨i, hi, rfl⟩ := List.mem_iff_getElem.mp hb
   have := h i (List.mem_range.mpr hi)
   simpa [List.getD, hi] using this
 · intro h i hi
   have hi := List.mem_range.mp hi
   have := h bs[i] (List.getElem_mem hi)
   simpa [List.getD, hi] using this
theorem any_range (bs : List Bool) : ((List.range bs.length).any fun i => bs.getD i false) = bs.any id := by
 rw [Bool.eq_iff_iff, List.any_eq_true, List.any_eq_true]
 constructor
 · rintro ⟨i, hi, h⟩
   have hi := List.mem_range.mp hi
   exact ⟨bs[i], List.getElem_mem hi, by simpa [List.getD, hi] using h⟩
 · rintro ⟨b, hb, h⟩
   obtain ⟨i, hi, rfl⟩ := List.mem_iff_getElem.mp hb
   exact ⟨i, List.mem_range.mpr hi, by simpa [List.getD, hi] using h⟩
theorem jfX {prog : Program} {w : World} {A : Around} {bs : List Bool} {its : List Value} (rv : Vals (bs.map V.bl) its) : TruthOf prog w A (fun i v => its.toArray[i]? = some v) (fun i => bs.getD i false) := by
 intro i v s Q E hv q
 obtain ⟨x, hx, r⟩ := jdc rv (by simpa using hv)
 rw [List.getElem?_map] at hx
 cases e : bs[i]? with
 | none => rw [e] at hx; cases hx
 | some b =>
   rw [e] at hx
   cases hx
   cases r
   have eb : bs.getD i false = b := by simp [List.getD, e]
   have q' : Q (bs.getD i false) s := q
   rw [eb] at q'
   exact wpAny_truthy_bool q'
theorem jm8 (hc : X.calm = true) : jch X (.builtin "all") (fun xs H Q => ∃ p, ∃ bs : List Bool, xs = [.ref p] ∧ SqL X.K H p (bs.map V.bl) ∧ Q (.bl (bs.all id)) H) := by
 intro pins s σ H xs us Q I r h
 obtain ⟨p, bs, rfl, hq, q⟩ := h
 obtain ⟨u, rfl, r1⟩ := vals1 r
 cases r1
 obtain ⟨its, rv, pl, hz⟩ := I.list hq
 have hl := rv.length
 rw [List.length_map] at hl
 refine call_all_walk (wpAny_pyIter_list pl.isList ?_)
 have hne : p ≠ s.heap.objs.size := by
   obtain ⟨o, e, _⟩ := pl.isList
   exact Nat.ne_of_lt (Heap.lt_size e)
 refine ⟨_, _, _, _, _, _, _, rfl, Walks.list (A := X.A.in1) (I.ok.hd hc) _ p hne its.toArray, ⟨⟨_, Heap.get?_push_size _ rfl, rfl, rfl⟩, pl.isList.at fun o e => Heap.get?_push_of_some _ e⟩, jfX rv, fun h' tk hk => ?_⟩
 rw [List.size_toArray, ← hl, all_range]
 refine ⟨.bl _, H, I.kept fun b o e => hk b o ?_ (Heap.get?_push_of_some _ e), rfl, q⟩
 simpa using Nat.ne_of_lt (Heap.lt_size e)
theorem jmB (hc : X.calm = true) : jch X (.builtin "any") (fun xs H Q => ∃ p, ∃ bs : List Bool, xs = [.ref p] ∧ SqL X.K H p (bs.map V.bl) ∧ Q (.bl (bs.any id)) H) := by
 intro pins s σ H xs us Q I r h
 obtain ⟨p, bs, rfl, hq, q⟩ := h
 obtain ⟨u, rfl, r1⟩ := vals1 r
 cases r1
 obtain ⟨its, rv, pl, hz⟩ := I.list hq
 have hl := rv.length
 rw [List.length_map] at hl
 refine call_any_walk (wpAny_pyIter_list pl.isList ?_)
 have hne : p ≠ s.heap.objs.size := by
   obtain ⟨o, e, _⟩ := pl.isList
   exact Nat.ne_of_lt (Heap.lt_size e)
 refine ⟨_, _, _, _, _, _, _, rfl, Walks.list (A := X.A.in1) (I.ok.hd hc) _ p hne its.toArray, ⟨⟨_, Heap.get?_push_size _ rfl, rfl, rfl⟩, pl.isList.at fun o e => Heap.get?_push_of_some _ e⟩, jfX rv, fun h' tk hk => ?_⟩
 rw [List.size_toArray, ← hl, any_range]
 refine ⟨.bl _, H, I.kept fun b o e => hk b o ?_ (Heap.get?_push_of_some _ e), rfl, q⟩
 simpa using Nat.ne_of_lt (Heap.lt_size e)
theorem jkX (hc : X.calm = true) : jch X (.builtin "min") (fun xs H Q => ∃ p, ∃ ns : List Int, xs = [.ref p] ∧ SqL X.K H p (ns.map V.int) ∧ ns ≠ [] ∧ ∀ M, M ∈ ns → (∀ a ∈ ns, M ≤ a) → Q (.int M) H) := by
 intro pins s σ H xs us Q I r h
 obtain ⟨p, ns, rfl, hq, hne, q⟩ := h
 obtain ⟨u, rfl, r1⟩ := vals1 r
 cases r1
 obtain ⟨its, rv, pl, hz⟩ := I.list hq
 have hi := intsAre_of rv
 obtain ⟨ys, e⟩ := hi.allInts.items
 have hns : ns = ys.toList.map (·.1) := by rw [← hi.numsOf, ← nums_intItems, ← e]
 have hsz : 0 < ys.size := by
   have h3 := List.length_pos_iff.mpr hne
   rw [hns, List.length_map, Array.length_toList] at h3; exact h3
 have hl := pl.isList
 rw [e] at hl
 refine min_intList (I.ok.hd hc) hl hsz fun v h' tk hv hk => ?_
 obtain ⟨t, rfl⟩ := intItems_at hv
 obtain ⟨h1, h2⟩ := argBest_lt (numAt ys) (ys.size - 1)
 refine ⟨.int _, H, I.kept hk, ⟨_, rfl⟩, q _ ?_ fun a ha => ?_⟩
 · rw [hns, numAt_eq]; exact getD_mem (by rw [List.length_map, Array.length_toList]; omega)
 · rw [hns] at ha
   obtain ⟨j, hj, rfl⟩ := mem_getD ha
   rw [List.length_map, Array.length_toList] at hj
   rw [← numAt_eq]; exact h2 j (by omega)
theorem jk4 (hc : X.calm = true) : jch X (.builtin "max") (fun xs H Q => ∃ p, ∃ ns : List Int, xs = [.ref p] ∧ SqL X.K H p (ns.map V.int) ∧ ns ≠ [] ∧ ∀ M, M ∈ ns → (∀ a ∈ ns, a ≤ M) → Q (.int M) H) := by
 intro pins s σ H xs us Q I r h
 obtain ⟨p, ns, rfl, hq, hne, q⟩ := h
 obtain ⟨u, rfl, r1⟩ := vals1 r
 cases r1
 obtain ⟨its, rv, pl, hz⟩ := I.list hq
 have hi := intsAre_of rv
 obtain ⟨ys, e⟩ := hi.allInts.items
 have hns : ns = ys.toList.map (·.1) := by rw [← hi.numsOf, ← nums_intItems, ← e]
 have hsz : 0 < ys.size := by
   have h3 := List.length_pos_iff.mpr hne
   rw [hns, List.length_map, Array.length_toList] at h3; exact h3
 have hl := pl.isList
 rw [e] at hl
 refine max_intList (I.ok.hd hc) hl hsz fun v h' tk hv hk => ?_
 obtain ⟨t, rfl⟩ := intItems_at hv
 obtain ⟨h1, h2⟩ := argBest_gt (numAt ys) (ys.size - 1)
 refine ⟨.int _, H, I.kept hk, ⟨_, rfl⟩, q _ ?_ fun a ha => ?_⟩
 · rw [hns, numAt_eq]; exact getD_mem (by rw [List.length_map, Array.length_toList]; omega)
 · rw [hns] at ha
   obtain ⟨j, hj, rfl⟩ := mem_getD ha
   rw [List.length_map, Array.length_toList] at hj
   rw [← numAt_eq]; exact h2 j (by omega)
mutual
inductive jmg (K : PySem.W.Frag) (H : Hp) : V → PyData → Prop
 | non : jmg K H .non .none
 | bl (b : Bool) : jmg K H (.bl b) (.bool b)
 | int (i : Int) : jmg K H (.int i) (.int i)
 | str (x : Str) : jmg K H (.str x) (.str x)
 | lst {a : Addr} {xs : List V} {ds : List PyData} : SqL K H a xs → jdJ K H xs ds → jmg K H (.ref a) (.list ds)
 | tup {a : Addr} {xs : List V} {ds : List PyData} : SqT K H a xs → jdJ K H xs ds → jmg K H (.ref a) (.tuple ds)
inductive jdJ (K : PySem.W.Frag) (H : Hp) : List V → List PyData → Prop
 | nil : jdJ K H [] []
 | cons {x : V} {d : PyData} {xs : List V} {ds : List PyData} : jmg K H x d → jdJ K H xs ds → jdJ K H (x :: xs) (d :: ds)
end
mutual
theorem jmg.reads {pins : List (Addr × Obj)} {σ : St} {H : Hp} {s : Shared} (I : Inv X pins σ H s) : ∀ {x : V} {d : PyData} {u : Value}, jmg X.K H x d → RelV x u → ∃ as, Reads s.heap u d as
 | _, _, _, .non, r => by cases r; exact ⟨_, Reads.none⟩
 | _, _, _, .bl b, r => by cases r; exact ⟨_, Reads.bool b⟩
 | _, _, _, .int i, r => by obtain ⟨t, rfl⟩ := r; exact ⟨_, Reads.int i t⟩
 | _, _, _, .str x, r => by obtain ⟨t, rfl⟩ := r; exact ⟨_, Reads.str x t⟩
 | _, _, _, .lst hq ha, r => by
   cases r
   obtain ⟨its, rv, pl, hz⟩ := I.list hq
   obtain ⟨as, q⟩ := jdJ.reads I ha rv
   obtain ⟨o, e, c, n, hd⟩ := pl.isList
   exact ⟨_, reads_list_at e c hd (by simpa using q)⟩
 | _, _, _, .tup hq ha, r => by
   cases r
   obtain ⟨its, rv, pl, hz⟩ := I.tuple hq
   obtain ⟨as, q⟩ := jdJ.reads I ha rv
   obtain ⟨o, e, c, n, hd⟩ := pl
   exact ⟨_, reads_tuple_at e c hd (by simpa using q)⟩
theorem jdJ.reads {pins : List (Addr × Obj)} {σ : St} {H : Hp} {s : Shared} (I : Inv X pins σ H s) : ∀ {xs : List V} {ds : List PyData} {us : List Value}, jdJ X.K H xs ds → Vals xs us → ∃ as, ReadsAll s.heap us ds as
 | _, _, _, .nil, .nil => ⟨_, ReadsAll.nil⟩
 | _, _, _, .cons h t, .cons r rs => by
   obtain ⟨as, q⟩ := jmg.reads I h r
   obtain ⟨bs, p⟩ := jdJ.reads I t rs
   exact ⟨_, ReadsAll.cons q p⟩
end
end
end L2
namespace L2
open PySem PySem.Spec PyProof.Rows
section
variable {X : Cx} {N : List Str} {sc : Scope} {s3 : Shared} {H3 : Hp} {C : Addr} {fp : List Addr}
theorem joe {x : Str} (h : sc.names.lookup x = some .local ∨ sc.names.lookup x = some .free) : Vis (relabel sc X.env) x := by
 rcases h with h | h
 · exact .inl (jb9 h (by decide))
 · rcases jdr (env := X.env) h with z | z
   · exact .inr (.inl z)
   · exact .inr (.inr z)
theorem pvb (i : Nat) {x : Str} {pos : Pos} (hN : N[i]? = some x := by rfl) (hv : sc.names.lookup x = some .local ∨ sc.names.lookup x = some .free := by first | exact Or.inl rfl | exact Or.inr rfl)
    (hd : (x == ("__debug__" : Str)) = false := by decide) (hcd : (x == ("__classdict__" : Str)) = false := by decide) : PE (blk X N sc s3 H3 C fp) (.Name x pos) (jqd i) :=
  jnJ (X := blk X N sc s3 H3 C fp) hN (joe (X := X) hv) hd hcd
theorem glb {x : Str} (h : sc.names.lookup x = some .globalImplicit) : Gl (blk X N sc s3 H3 C fp) x := jb9 h (by decide)
theorem pgb {i : Nat} {x : Str} {pos : Pos} (hnd : N.Nodup) (hN : N[i]? = some x) (h : sc.names.lookup x = some .local) : PG (blk X N sc s3 H3 C fp) (.Name x pos) (jdf i) :=
 jaH (X := blk X N sc s3 H3 C fp) hnd hN (.inl (jb9 h (by decide))) (.inr (jb9 h (by decide)))
end
theorem jaY (sc0 : Scope) (N0 N : List Str) (mp : List (Option Nat)) {X : Cx} {sc : Scope} {elt tg iter : Expr} {ifs : List Expr} {pos : Pos} {wi : TI} {g : TG} {ti : TT} {te : TE} (S : jig sc0 N0 N mp sc) (hi : PI X tg iter wi)
   (hb : ∀ s3 H3 C fp, PG (blk X N sc s3 H3 C fp) tg g ∧ PIf (blk X N sc s3 H3 C fp) ifs ti ∧ PE (blk X N sc s3 H3 C fp) elt te) (hc : X.calm = true := by rfl) (h0 : X.env.scope = sc0 := by rfl) (hN : X.N = N0 := by rfl)
   (hs : ∀ x, foldedSetIterable iter X.env x = pure x := by intro _; rfl) : PE X (.ListComp elt [⟨tg, iter, ifs, 0⟩] sc pos) (jle mp wi g ti te) := by
 subst h0 hN
 exact joj hc S hi hb hs
structure Df (P : Program) (w : World) (K : PySem.W.Frag) (mg : Str → Option Value) (base : Heap) (x : Str) (k : Nat) (f : Addr) (fd : FuncData) (ps : List Str) (sp : Sp) : Prop where
 ok : jbf P w K mg base CX0 k f fd ps sp
 m : mg x = some (.ref f)
 kp : PySem.W.keepIn K (.ref f) = true
 b : Binds K fd ps []
theorem jae {X : Cx} {x : Str} {k k' : Nat} {f : Addr} {fd : FuncData} {ps : List Str} {sp : Sp} {p pos : Pos} {e : Expr} {es : List Expr} {t : TA} (D : Df X.prog X.w X.K X.mg X.base x k f fd ps sp) (hr : je5 k' X.A) (hg : Gl X x) (ha : PA X (e :: es) t) (hk : k ≤ k' := by decide)
    (hdb : (x == ("__debug__" : Str)) = false := by decide) (he : starEach (e :: es) X.env = (false, eval e X.env) :: starEach es X.env := by rfl) (hpl : (backTo pos (starEach es X.env)).any (·.1) = false := by rfl) :
    PE X (.Call (.Name x p) (e :: es) [] pos) (jkw sp [] E0 t) := jl7 D.ok (hr.mono hk) hg D.m D.kp D.b .nil jqB ha hdb he hpl
section
variable {X : Cx} (K : PySem.W.Frag)
theorem jaZ (h : X.K = K) : IxR X (jqN K) := by subst h; exact jnQ
theorem ja3 (h : X.K = K) : IxR X (jqQ K) := by subst h; exact jp5
theorem jfy (h : X.K = K) : OpR X (compareOp .NotIn) (rIn K true) := by subst h; exact jis
theorem ja4 (h : X.K = K) : jch X (.builtin "len") (fun xs H Q => ∃ p ys, xs = [.ref p] ∧ (SqL K H p ys ∨ SqT K H p ys) ∧ Q (.int ys.length) H) := by subst h; exact jhY
theorem jgH (h : X.K = K) : jch X (.type "list") (fun xs H Q => ∃ p ys, xs = [.ref p] ∧ (SqL K H p ys ∨ SqT K H p ys) ∧ ∀ l, H l = none → Q (.ref l) (upd H l (.lst ys))) := by subst h; exact jiC
theorem jda (h : X.K = K) : SlR X (jqY K) := by subst h; exact jof
theorem jaS {tg l : Expr} {tl : TE} (h : X.K = K) (hl : PE X l tl) : PI X tg l (joI K tl) := by subst h; exact jnS hl
theorem jll (h : X.K = K) (hc : X.calm = true) : jch X (.builtin "all") (fun xs H Q => ∃ p, ∃ bs : List Bool, xs = [.ref p] ∧ SqL K H p (bs.map V.bl) ∧ Q (.bl (bs.all id)) H) := by subst h; exact jm8 hc
theorem jix (h : X.K = K) (hc : X.calm = true) : jch X (.builtin "any") (fun xs H Q => ∃ p, ∃ bs : List Bool, xs = [.ref p] ∧ SqL K H p (bs.map V.bl) ∧ Q (.bl (bs.any id)) H) := by subst h; exact jmB hc
theorem jim (h : X.K = K) (hc : X.calm = true) : jch X (.builtin "min") (fun xs H Q => ∃ p, ∃ ns : List Int, xs = [.ref p] ∧ SqL K H p (ns.map V.int) ∧ ns ≠ [] ∧ ∀ M, M ∈ ns → (∀ a ∈ ns, M ≤ a) → Q (.int M) H) := by subst h; exact jkX hc
theorem jh4 (h : X.K = K) (hc : X.calm = true) : jch X (.builtin "max") (fun xs H Q => ∃ p, ∃ ns : List Int, xs = [.ref p] ∧ SqL K H p (ns.map V.int) ∧ ns ≠ [] ∧ ∀ M, M ∈ ns → (∀ a ∈ ns, a ≤ M) → Q (.int M) H) := by subst h; exact jk4 hc
theorem jcd (h : X.K = K) {o e : Expr} {es : List Expr} {to : TE} {t : TA} {name : Str} {apos cpos : Pos} {T id : String} {r : V → List V → Hp → VK → Prop} (pa : PlainAttrs T) (slot : Slot T name id) (hty : typeOf (.builtin id) = pure (.type "method_descriptor")) (hm : MtR X id r) (ho : PE X o to) (ha : PA X (e :: es) t)
   (hbase : attributeBase o name X.env (eval o X.env) = eval o X.env)
   (hfew : ((backTo cpos (starEach (e :: es) X.env)).all (fun x => !x.1) && (backToKw cpos (keywordEach [] X.env)).all (fun x => x.1.isSome)
     && decide ((e :: es).length + ([] : List Keyword).length + (if ([] : List Keyword).isEmpty then 0 else 1) < 30)) = true)
   (hline : (apos.endLine == cpos.line) = true) (hs : starEach (e :: es) X.env = (false, eval e X.env) :: starEach es X.env) (hplain : (backTo cpos (starEach es X.env)).any (·.1) = false) :
   PE X (.Call (.Attribute o name apos) (e :: es) [] cpos) (tBM K T r to t) := by subst h; exact jqG pa slot hty hm ho ha hbase hfew hline hs hplain
end
section
variable {X : Cx}
theorem jdY {x : Str} {i : Int} {pos : Pos} (hg : Gl X x) (h : ∃ t, X.mg x = some (.int i t)) (hd : (x == ("__debug__" : Str)) = false := by decide) : PE X (.Name x pos) (tC (.int i)) := by
  obtain ⟨t, h⟩ := h
  exact jc0 hg h ⟨t, rfl⟩ hd
theorem jqL {x : Str} {l : List Nat} {pos : Pos} (hg : Gl X x) (h : ∃ t, X.mg x = some (.str (S l) t)) (hd : (x == ("__debug__" : Str)) = false := by decide) : PE X (.Name x pos) (tC (.str (S l))) := by
  obtain ⟨t, h⟩ := h
  exact jc0 hg h ⟨t, rfl⟩ hd
theorem jaB (l : List Nat) {x : Str} {j : Nat} {pos : Pos} (h : x = S l := by decide +kernel) : PE X (.Constant (.str x) j pos) (tC (.str (S l))) := by
  subst h
  exact jpf
theorem jbm : jch X (.builtin "len") (fun xs H Q => ∃ l, xs = [.str (S l)] ∧ l.length ≤ sizeLine ∧ Q (.int l.length) H) := by
 intro pins s σ H xs us Q I r h
 obtain ⟨l, rfl, hz, q⟩ := h
 exact jiO pins s σ H _ us Q I r ⟨S l, rfl, by rw [jaD]; exact hz, by rw [jaD]; exact q⟩
end
section
variable {σ : St} {H : Hp} {Q : VK} {D : Ends} {K : PySem.W.Frag}
theorem jqU {t u : TS} (h : t { D with nx := u D } σ H) : jqA t u D σ H := h
theorem jne (h : D.nx σ H) : jpT D σ H := h
theorem jpj {te : TE} (h : te σ H D.rt) : jq8 te D σ H := h
theorem jnf {te : TE} (h : te σ H fun _ H1 => D.nx σ H1) : jo0 te D σ H := h
theorem jqo {te : TE} {g : TG} (h : te σ H fun x H1 => g x σ H1 D.nx) : joS te g D σ H := h
theorem jns {i : Nat} {v : V} {R : St → Hp → Prop} (h : R (σ.set i (some v)) H) : jdf i v σ H R := h
theorem jru {c : TT} {t u : TS} (h : c σ H fun b H1 => if b = true then t D σ H1 else u D σ H1) : jqP c t u D σ H := h
theorem jjV {i : Nat} (h : ∃ v, σ[i]? = some (some v) ∧ Q v H) : jqd i σ H Q := h
theorem g_c {v : V} (h : Q v H) : tC v σ H Q := h
theorem jrt {r : R2} {ta tb : TE} (h : ta σ H fun x H1 => tb σ H1 fun y H2 => r x y H2 Q) : tOp r ta tb σ H Q := h
theorem jqZ {r : V → Hp → VK → Prop} {ta : TE} (h : ta σ H fun x H1 => r x H1 Q) : tUn r ta σ H Q := h
theorem jo2 {g : Int → Int → V} {i j : Int} (h : Q (g i j) H) : rI0 g (.int i) (.int j) H Q := ⟨i, j, rfl, rfl, h⟩
theorem jq9 {P : Int → Int → Prop} {g : Int → Int → V} {i j : Int} (c : P i j) (h : Q (g i j) H) : rI P g (.int i) (.int j) H Q := ⟨i, j, rfl, rfl, c, h⟩
theorem jnx {t : TE} {R : Bool → Hp → Prop} (h : t σ H fun x H' => ∃ k, x = .bl k ∧ R k H') : joT t σ H R := h
theorem jrg {t : TE} {R : Bool → Hp → Prop} (h : t σ H fun x H' => ∃ k, x = .bl k ∧ R k H') : tB t σ H R := h
theorem jpH {t u : TT} {R : Bool → Hp → Prop} (h : t σ H fun c H1 => if c = true then u σ H1 R else R false H1) : jq5 t u σ H R := h
theorem jre {t u : TT} {R : Bool → Hp → Prop} (h : t σ H fun c H1 => if c = true then R true H1 else u σ H1 R) : tOr t u σ H R := h
theorem jpI {t : TT} {R : Bool → Hp → Prop} (h : t σ H fun c H1 => R (!c) H1) : jq3 t σ H R := h
theorem jrk {r : List V → Hp → VK → Prop} {t : TA} (h : t σ H fun vs H1 => r vs H1 Q) : tCB r t σ H Q := h
theorem jpZ {R : List V → Hp → Prop} (h : R [] H) : jqe σ H R := h
theorem jnw {ta : TE} {tr : TA} {R : List V → Hp → Prop} (h : ta σ H fun x H1 => tr σ H1 fun xs H2 => R (x :: xs) H2) : jmt ta tr σ H R := h
theorem jrr {T : String} {r : V → List V → Hp → VK → Prop} {to : TE} {t : TA} (h : to σ H fun x H1 => tyV K T x H1 ∧ t σ H1 fun xs H2 => r x xs H2 Q) : tBM K T r to t σ H Q := h
theorem jrd {r : V → Option Int → Option Int → Hp → VK → Prop} {te : TE} {tl th : TO} (h : te σ H fun x H1 => tl σ H1 fun l H2 => th σ H2 fun u H3 => r x l u H3 Q) : tSl r te tl th σ H Q := h
theorem jjK {R : Option Int → Hp → Prop} (h : R none H) : jlv σ H R := h
theorem jno {t : TE} {R : Option Int → Hp → Prop} (h : t σ H fun x H1 => ∃ i, x = .int i ∧ R (some i) H1) : jpL t σ H R := h
theorem jpO {sp : Sp} {E : XK} {t : TA} (h : t σ H fun vs H1 => sp (vs ++ []) H1 Q E) : jkw sp [] E t σ H Q := h
theorem joU {t : TA} (h : t σ H fun xs H1 => xs.length ≤ sizeLine ∧ ∀ p, H1 p = none → Q (.ref p) (upd H1 p (.lst xs))) : jrb t σ H Q := h
theorem jpz {t : TA} (h : t σ H fun xs H1 => xs.length ≤ sizeLine ∧ ∀ p, H1 p = none → Q (.ref p) (upd H1 p (.tup xs))) : jqX t σ H Q := h
theorem jma {a b : List Nat} (c : a.length + b.length ≤ sizeLine) (h : Q (.str (S (a ++ b))) H) : jpc (.str (S a)) (.str (S b)) H Q := ⟨a, b, rfl, rfl, c, h⟩
theorem jps {a b : List Nat} (h : Q (.bl (within a b)) H) : jrc (.str (S a)) (.str (S b)) H Q := ⟨a, b, rfl, rfl, h⟩
theorem tyL {p : Addr} {xs : List V} (h : SqL K H p xs) : tyV K "list" (.ref p) H := Or.inl ⟨rfl, xs, h⟩
theorem jpi {x : Str} {A : Prop} (h : A) : tyV K "str" (.str x) H ∧ A := ⟨rfl, h⟩
theorem jhl {p : Addr} {xs : List V} {A : Prop} (c : SqL K H p xs) (h : A) : tyV K "list" (.ref p) H ∧ A := ⟨tyL c, h⟩
theorem jq2 {a b : List Nat} (h : Q (.bl (b.isSuffixOf a)) H) : rEw (.str (S a)) [.str (S b)] H Q := ⟨a, b, rfl, rfl, h⟩
theorem jiQ {l : List Nat} {lo hi : Option Int} (c : l.length ≤ sizeLine) (h : Q (.str (S (jkH l lo hi))) H) : jq1 (.str (S l)) lo hi H Q := ⟨l, rfl, c, h⟩
end
theorem jp8 {a b : List Nat} : decide (V.str (S a) = V.str (S b)) = decide (a = b) := by
 by_cases h : a = b
 · subst h; simp
 · rw [decide_eq_false h, decide_eq_false]
   intro z
   exact h (jm4.mp (V.str.inj z))
theorem jo1 {a b : Int} : decide (V.int a = V.int b) = decide (a = b) := by
 by_cases h : a = b
 · subst h; simp
 · rw [decide_eq_false h, decide_eq_false]
   intro z
   exact h (V.int.inj z)
section
variable {H : Hp} {Q : VK} {K : PySem.W.Frag}
theorem jp6 {i j : Int} (h : Q (.bl (decide (i = j))) H) : rEq (.int i) (.int j) H Q := ⟨rfl, by rw [jo1]; exact h⟩
theorem jpE {i j : Int} (h : Q (.bl (!decide (i = j))) H) : rNe (.int i) (.int j) H Q := ⟨rfl, by rw [jo1]; exact h⟩
theorem jpP {a b : List Nat} (h : Q (.bl (decide (a = b))) H) : rEq (.str (S a)) (.str (S b)) H Q := ⟨rfl, by rw [jp8]; exact h⟩
theorem jpe {a b : List Nat} (h : Q (.bl (!decide (a = b))) H) : rNe (.str (S a)) (.str (S b)) H Q := ⟨rfl, by rw [jp8]; exact h⟩
theorem jdE {p : Addr} {xs : List V} {i : Int} {v : V} (c : SqL K H p xs) (e : atI xs i = some v) (h : Q v H) : jqN K (.ref p) (.int i) H Q := ⟨p, xs, i, v, rfl, rfl, c, e, h⟩
end
theorem jbR {c A B : Prop} [Decidable c] (h1 : c → A) (h2 : ¬ c → B) : if decide c = true then A else B := by
 by_cases h : c
 · rw [decide_eq_true h, if_pos rfl]; exact h1 h
 · rw [decide_eq_false h, if_neg Bool.false_ne_true]; exact h2 h
theorem jpv {c A B : Prop} [Decidable c] (h1 : ¬ c → A) (h2 : c → B) : if (!decide c) = true then A else B := by
 by_cases h : c
 · rw [decide_eq_true h]; exact jkI (h2 h)
 · rw [decide_eq_false h]; exact jqf (h1 h)
theorem jo8 {c A B : Prop} [Decidable c] (hc : c) (h : A) : if decide c = true then A else B := by rw [decide_eq_true hc]; exact jqf h
theorem jdU {c A B : Prop} [Decidable c] (hc : ¬ c) (h : B) : if decide c = true then A else B := by rw [decide_eq_false hc]; exact jkI h
theorem small {n : Nat} (h : n ≤ 1000) : n ≤ sizeLine := Nat.le_of_lt (jlx h)
theorem jai {H H1 : Hp} {D : Addr} {o : HO} (e : jap H H1) (hD : H D = none) : jap H (upd H1 D o) := fun b u hb => by
 rw [jaw (jaF hb hD)]; exact e b u hb
inductive jeR {α β : Type} (F : α → β → Prop) : List α → List β → Prop
 | nil : jeR F [] []
 | snoc {a : α} {b : β} {l : List α} {m : List β} : jeR F l m → F a b → jeR F (l ++ [a]) (m ++ [b])
theorem jeR.mono {α β : Type} {F G : α → β → Prop} (h : ∀ a b, F a b → G a b) {l : List α} {m : List β} (x : jeR F l m) : jeR G l m := by
 induction x with
 | nil => exact .nil
 | snoc _ f ih => exact .snoc ih (h _ _ f)
theorem jeR.map {α β : Type} {f : α → β} {l : List α} {m : List β} (x : jeR (fun a b => b = f a) l m) : m = l.map f := by
 induction x with
 | nil => rfl
 | snoc _ h ih => subst h; rw [ih]; simp
theorem jeR.length {α β : Type} {F : α → β → Prop} {l : List α} {m : List β} (x : jeR F l m) : m.length = l.length := by
 induction x with
 | nil => rfl
 | snoc _ h ih => simp [ih]
structure Goes (J : It) (H1 : Hp) (xs : List V) : Prop where
 go : ∀ i H', jap H1 H' → i < xs.length → J.go i H'
 yld : ∀ i H' x H'', jap H1 H' → i < xs.length → J.yld i H' x H'' → H'' = H' ∧ xs[i]? = some x
 stop : ∀ H', jap H1 H' → J.stop xs.length H'
theorem jcZ (lo : Int) (n : Nat) (H1 : Hp) : Goes (Itr lo n) H1 ((List.range n).map fun (k : Nat) => V.int (lo + (k : Int))) := by
 refine ⟨fun i H' _ hi => ?_, fun i H' x H'' _ hi y => ?_, fun H' _ => ?_⟩
 · rw [List.length_map, List.length_range] at hi; exact hi
 · rw [List.length_map, List.length_range] at hi
   obtain ⟨e, rfl⟩ := y
   refine ⟨e, ?_⟩
   rw [List.getElem?_map, List.getElem?_range hi]
   rfl
 · rw [List.length_map, List.length_range]; exact Nat.le_refl _
theorem jbk {K : PySem.W.Frag} {a : Addr} {xs : List V} {H1 : Hp} (h : SqL K H1 a xs) : Goes (Itl K a) H1 xs := by
 refine ⟨fun i H' e hi => ⟨xs, xs[i], e.seq h, by simp [hi]⟩, fun i H' x H'' e hi y => ?_, fun H' e => ⟨xs, e.seq h, Nat.le_refl _⟩⟩
 obtain ⟨e', y⟩ := y
 exact ⟨e', y xs (e.seq h)⟩
theorem jjR (l : List Nat) (H1 : Hp) : Goes (Its l) H1 (l.map fun c => V.str (S [c])) := by
 refine ⟨fun i H' _ hi => ?_, fun i H' x H'' _ hi y => ?_, fun H' _ => ?_⟩
 · rw [List.length_map] at hi; exact hi
 · obtain ⟨e, c, hc, rfl⟩ := y
   refine ⟨e, ?_⟩
   rw [List.getElem?_map, hc]
   rfl
 · rw [List.length_map]; exact Nat.le_refl _
theorem jjx {α : Type} {J : It} {src : List α} {gv : α → V} {mp : List (Option Nat)} {σ : St} {H1 : Hp} {ti : TT} {te : TE} {Dd : Addr} {Q : VK} (p : α → Bool) (F : α → V → Hp → Prop) (G : Goes J H1 (src.map gv)) (hD : H1 Dd = none) (hz : src.length ≤ sizeLine)
   (Fm : ∀ a y H H', (∀ b o, b ≠ Dd → H b = some o → H' b = some o) → F a y H → F a y H')
   (ht : ∀ a ∈ src, ∀ (H' : Hp) (R : Bool → Hp → Prop), jap H1 H' → (∀ H'', jap H' H'' → R (p a) H'') → ti ((pick mp σ).set 0 (some (gv a))) H' R)
   (he : ∀ a ∈ src, p a = true → ∀ (H' : Hp) (R : VK), jap H1 H' → H' Dd ≠ none → (∀ y H'', jap H' H'' → F a y H'' → R y H'') → te ((pick mp σ).set 0 (some (gv a))) H' R)
   (q : ∀ H' ys, jap H1 H' → H' Dd = some (.lst ys) → jeR (fun x y => F x y H') (src.filter p) ys → Q (.ref Dd) H') :
   jin J mp (jdf 0) ti te Dd Q σ H1 := by
 let W : Nat → Nat → St → Hp → Prop := fun i m σ' H' => m = src.length - i ∧ i ≤ src.length ∧ (∀ v, σ'.set 0 (some v) = (pick mp σ).set 0 (some v)) ∧ jap H1 H' ∧ ∃ ys, H' Dd = some (.lst ys) ∧ jeR (fun x y => F x y H') ((src.take i).filter p) ys
 have hlm : (src.map gv).length = src.length := List.length_map ..
 refine ⟨W, ⟨src.length, by simp, Nat.zero_le _, fun v => rfl, jai (jap.refl _) hD, [], jah, by simpa using jeR.nil⟩, ?_⟩
 rintro i m σ' H' ⟨rfl, hi, hσ, hS, ys, hy, ha⟩
 by_cases hlt : i < src.length
 · refine .inr ⟨G.go i H' hS (by rw [hlm]; exact hlt), fun σ2 H2 => W (i + 1) (src.length - (i + 1)) σ2 H2, fun σ2 H2 w => ⟨_, by omega, w⟩, fun x H'' y => ?_⟩
   obtain ⟨rfl, hx⟩ := G.yld i H' x H'' hS (by rw [hlm]; exact hlt) y
   obtain ⟨a, hxa, rfl⟩ : ∃ a, src[i]? = some a ∧ gv a = x := by
     rw [List.getElem?_map] at hx
     cases e : src[i]? with
     | none => rw [e] at hx; cases hx
     | some a => rw [e] at hx; exact ⟨a, rfl, Option.some.inj hx⟩
   have hm : a ∈ src := List.mem_of_getElem? hxa
   show ti (σ'.set 0 (some (gv a))) _ _
   rw [hσ (gv a)]
   have hset : ∀ v, ((pick mp σ).set 0 (some (gv a))).set 0 (some v) = (pick mp σ).set 0 (some v) := fun v => List.set_set ..
   have htk : (src.take (i + 1)).filter p = (src.take i).filter p ++ (if p a then [a] else []) := take_succ_filter p src i a hxa
   refine ht a hm _ _ hS fun H3 s3 => ?_
   have hS3 : jap H1 H3 := hS.trans s3
   have hy3 : H3 Dd = some (.lst ys) := s3 _ _ hy
   have ha3 : jeR (fun x y => F x y H3) ((src.take i).filter p) ys := ha.mono fun a b f => Fm a b _ _ (fun c o _ e => s3 c o e) f
   cases hp : p a with
   | false =>
     rw [if_neg Bool.false_ne_true]
     refine ⟨rfl, hlt, hset, hS3, ys, hy3, ?_⟩
     rw [htk, hp]
     simpa using ha3
   | true =>
     rw [if_pos rfl]
     refine he a hm hp H3 _ hS3 (by rw [hy3]; exact fun z => nomatch z) fun y H4 s4 f => ?_
     have hy4 : H4 Dd = some (.lst ys) := s4 _ _ hy3
     have hlen : ys.length ≤ i := by
       rw [ha.length]
       exact Nat.le_trans (List.length_filter_le _ _) (by rw [List.length_take]; omega)
     refine ⟨ys, hy4, by omega, rfl, hlt, hset, jai (hS3.trans s4) hD, ys ++ [y], jah, ?_⟩
     rw [htk, hp]
     have up : ∀ (c : Addr) (o : HO), c ≠ Dd → H4 c = some o → upd H4 Dd (.lst (ys ++ [y])) c = some o := fun c o hc e => by rw [jaw hc]; exact e
     exact jeR.snoc (ha3.mono fun a b f' => Fm a b _ _ (fun c o hc e => up c o hc (s4 c o e)) f') (Fm a y _ _ up f)
 · have e : i = src.length := by omega
   subst e
   rw [List.take_length] at ha
   exact .inl ⟨by rw [← hlm]; exact G.stop H' hS, q H' ys hS hy ha⟩
theorem jd1 {α : Type} {J : It} {src : List α} {gv : α → V} {mp : List (Option Nat)} {σ : St} {H1 : Hp} {ti : TT} {te : TE} {Dd : Addr} {Q : VK} (p : α → Bool) (f : α → V) (G : Goes J H1 (src.map gv)) (hD : H1 Dd = none) (hz : src.length ≤ sizeLine)
   (ht : ∀ a ∈ src, ∀ (H' : Hp) (R : Bool → Hp → Prop), jap H1 H' → (∀ H'', jap H' H'' → R (p a) H'') → ti ((pick mp σ).set 0 (some (gv a))) H' R)
   (he : ∀ a ∈ src, p a = true → ∀ (H' : Hp) (R : VK), jap H1 H' → (∀ H'', jap H' H'' → R (f a) H'') → te ((pick mp σ).set 0 (some (gv a))) H' R)
   (q : ∀ H', jap H1 H' → H' Dd = some (.lst ((src.filter p).map f)) → Q (.ref Dd) H') :
   jin J mp (jdf 0) ti te Dd Q σ H1 :=
 jjx p (fun x y _ => y = f x) G hD hz (fun _ _ _ _ _ h => h) ht (fun x hx hp H' R s1 _ k => he x hx hp H' R s1 fun H'' s2 => k _ H'' s2 rfl)
   fun H' ys s1 hy ha => q H' s1 (by rw [hy, ha.map])
theorem jgF {α : Type} (l : List α) : l.filter (fun _ => true) = l := by simp
theorem jcQ {α : Type} {J : It} {src : List α} {gv : α → V} {mp : List (Option Nat)} {σ : St} {H1 : Hp} {te : TE} {Dd : Addr} {Q : VK} (F : α → V → Hp → Prop) (G : Goes J H1 (src.map gv)) (hD : H1 Dd = none) (hz : src.length ≤ sizeLine)
   (Fm : ∀ a y H H', (∀ b o, b ≠ Dd → H b = some o → H' b = some o) → F a y H → F a y H')
   (he : ∀ a ∈ src, ∀ (H' : Hp) (R : VK), jap H1 H' → H' Dd ≠ none → (∀ y H'', jap H' H'' → F a y H'' → R y H'') → te ((pick mp σ).set 0 (some (gv a))) H' R)
   (q : ∀ H' ys, jap H1 H' → H' Dd = some (.lst ys) → jeR (fun x y => F x y H') src ys → Q (.ref Dd) H') : jin J mp (jdf 0) jqs te Dd Q σ H1 :=
 jjx (fun _ => true) F G hD hz Fm (fun _ _ H' R _ k => k H' (jap.refl _)) (fun a ha _ H' R s1 h1 k => he a ha H' R s1 h1 k) fun H' ys s1 hy ha => q H' ys s1 hy (by rw [jgF] at ha; exact ha)
theorem jci {α : Type} {J : It} {src : List α} {gv : α → V} {mp : List (Option Nat)} {σ : St} {H1 : Hp} {te : TE} {Dd : Addr} {Q : VK} (f : α → V) (G : Goes J H1 (src.map gv)) (hD : H1 Dd = none) (hz : src.length ≤ sizeLine)
   (he : ∀ a ∈ src, ∀ (H' : Hp) (R : VK), jap H1 H' → (∀ H'', jap H' H'' → R (f a) H'') → te ((pick mp σ).set 0 (some (gv a))) H' R)
   (q : ∀ H', jap H1 H' → H' Dd = some (.lst (src.map f)) → Q (.ref Dd) H') : jin J mp (jdf 0) jqs te Dd Q σ H1 :=
 jcQ (fun x y _ => y = f x) G hD hz (fun _ _ _ _ _ h => h) (fun x hx H' R s1 _ k => he x hx H' R s1 fun H'' s2 => k _ H'' s2 rfl) fun H' ys s1 hy ha => q H' s1 (by rw [hy, ha.map])
theorem jlf {α : Type} {P : Int → Prop} {src : List α} {ys : List V} (h : jeR (fun _ y => ∃ n : Int, y = V.int n ∧ P n) src ys) : ∃ ns : List Int, ys = ns.map V.int ∧ ns.length = src.length ∧ ∀ n ∈ ns, P n := by
 induction h with
 | nil => exact ⟨[], rfl, rfl, by simp⟩
 | snoc _ f ih =>
   obtain ⟨ns, rfl, hl, hp⟩ := ih
   obtain ⟨n, rfl, pn⟩ := f
   refine ⟨ns ++ [n], by simp, by simp [hl], fun m hm => ?_⟩
   rcases List.mem_append.mp hm with z | z
   · exact hp m z
   · have : m = n := by simpa using z
     subst this; exact pn
def joQ (J : It) (g : TG) (tb : TS) (D : Ends) (σ : St) (H1 : Hp) : Prop := ∃ W : Nat → Nat → St → Hp → Prop, (∃ m, W 0 m σ H1) ∧ ∀ i m σ H, W i m σ H →
 (J.stop i H ∧ D.nx σ H) ∨ (J.go i H ∧ ∃ N : St → Hp → Prop, (∀ σ' H', N σ' H' → ∃ m', m' < m ∧ W (i + 1) m' σ' H') ∧ ∀ x H', J.yld i H x H' → g x σ H' fun σ2 H2 => tb { D with nx := N, ct := N, bk := D.nx } σ2 H2)
theorem forR {lo : Int} {n : Nat} {g : TG} {tb : TS} {D : Ends} {σ : St} {H : Hp} (Pv : Nat → St → Hp → Prop) (h0 : Pv 0 σ H)
   (hs : ∀ i σ H, i < n → Pv i σ H → g (.int (lo + i)) σ H fun σ2 H2 => tb { D with nx := Pv (i + 1), ct := Pv (i + 1), bk := D.nx } σ2 H2) (hd : ∀ σ H, Pv n σ H → D.nx σ H) : joQ (Itr lo n) g tb D σ H := jl8 Pv h0 hs hd
theorem forL {K : PySem.W.Frag} {a : Addr} {xs : List V} {g : TG} {tb : TS} {D : Ends} {σ : St} {H : Hp} (Pv : Nat → St → Hp → Prop) (h0 : Pv 0 σ H) (hl : ∀ i σ H, i ≤ xs.length → Pv i σ H → SqL K H a xs)
   (hs : ∀ i x σ H, xs[i]? = some x → Pv i σ H → g x σ H fun σ2 H2 => tb { D with nx := Pv (i + 1), ct := Pv (i + 1), bk := D.nx } σ2 H2) (hd : ∀ σ H, Pv xs.length σ H → D.nx σ H) : joQ (Itl K a) g tb D σ H := jmo Pv h0 hl hs hd
section
variable {mp : List (Option Nat)} {wi : TI} {g : TG} {ti : TT} {te : TE} {σ : St} {H : Hp} {Q : VK} {R : It → Hp → Prop} {K : PySem.W.Frag}
theorem jnM (h : wi σ H fun J H1 => ∀ D, H1 D = none → jin J mp g ti te D Q σ H1) : jle mp wi g ti te σ H Q := h
theorem jnK {tl : TE} (h : tl σ H fun x H1 => ∃ l, x = .str (S l) ∧ R (Its l) H1) : jq6 tl σ H R := h
theorem jlt {tl : TE} (h : tl σ H fun x H1 => ∃ a, x = .ref a ∧ (∃ xs, SqL K H1 a xs) ∧ R (Itl K a) H1) : joI K tl σ H R := h
theorem jnq {ta : TA} (h : ta σ H fun vs H1 => ∃ j : Int, vs = [.int j] ∧ -(2 ^ 62) ≤ j ∧ j < 2 ^ 62 ∧ R (Itr 0 j.toNat) H1) : joW ta σ H R := h
theorem jnv {ta : TA} (h : ta σ H fun vs H1 => ∃ i j : Int, vs = [.int i, .int j] ∧ (-(2 ^ 62) ≤ i ∧ i < 2 ^ 62 ∧ -(2 ^ 62) ≤ j ∧ j < 2 ^ 62) ∧ R (Itr i (j - i).toNat) H1) : jo5 ta σ H R := h
theorem jpF {tb : TS} {D : Ends} (h : wi σ H fun J H1 => joQ J g tb D σ H1) : jq7 wi g tb D σ H := h
end
theorem jc7 {α : Type} (l : List α) (k : Nat) : jkH l none (some (k : Int)) = l.take k := by
 unfold jkH
 rw [HT.sIx_nat, HT.sIx_none, List.drop_zero, Nat.sub_zero]
 by_cases h : k ≤ l.length
 · rw [Nat.min_eq_left h]
 · rw [Nat.min_eq_right (by omega), List.take_length, List.take_of_length_le (by omega)]
theorem jfL {α : Type} (l : List α) (k : Nat) : jkH l (some (k : Int)) none = l.drop k := by
 unfold jkH
 rw [HT.sIx_nat, HT.sIx_none]
 by_cases h : k ≤ l.length
 · rw [Nat.min_eq_left h, List.take_of_length_le (by rw [List.length_drop]; omega)]
 · rw [Nat.min_eq_right (by omega), List.drop_length, List.drop_of_length_le (by omega)]
   simp
theorem jkg (c : Nat) (b : List Nat) : within [c] b = decide (c ∈ b) := by
 rw [Bool.eq_iff_iff, decide_eq_true_eq]
 unfold within
 rw [List.any_eq_true]
 constructor
 · rintro ⟨i, hi, h⟩
   rw [List.isPrefixOf_iff_prefix] at h
   exact List.mem_of_mem_drop (h.subset (by simp))
 · intro h
   obtain ⟨i, hi, rfl⟩ := List.mem_iff_getElem.mp h
   refine ⟨i, List.mem_range.mpr (by omega), ?_⟩
   rw [List.isPrefixOf_iff_prefix, List.drop_eq_getElem_cons hi]
   exact ⟨_, rfl⟩
end L2
namespace L2
open PySem PySem.Spec PyProof.Rows
section
variable {X : Cx} {pins : List (Addr × Obj)} {σ : List (Option V)} {H H' : Hp} {s : Shared} {h' : Heap}
theorem Inv.turnedL {t' : Nat} {ch : List Addr} (I : Inv X pins σ H s) (k : ∀ b o, b ∉ ch → s.heap.get? b = some o → h'.get? b = some o)
   (hc : ∀ b ∈ ch, jge X pins H b) : Inv X pins σ H { s with heap := h', toks := t' } := by
 have nit : ∀ b u, H b = some u → b ∉ ch := fun b u e z => by rw [(hc b z).1] at e; cases e
 refine I.step (g' := s.gens) (d' := s.drawn) (ch := ch) (fun b hb => ?_) (fun b o _ _ hn e _ => k b o hn e) (fun b o _ _ hn e _ => ⟨o.slots, k b o hn e⟩) (fun _ _ _ _ n => n)
   (fun b o hn e => ⟨o, k b o hn e⟩) (fun _ _ e => e) (fun _ _ _ e => e) (fun b ps e => ⟨#[], by rw [e]; simp⟩) (fun m hm => ?_) (fun b u e => ?_) I.bare
 · obtain ⟨_, f1, _, f3, f4, f5⟩ := hc b hb
   exact ⟨f3, f1, f4, f5⟩
 · obtain ⟨o, es, ep, ho, r⟩ := hm
   exact ⟨o, es, ep, k _ o (fun z => (hc _ z).2.1 rfl) ho, r⟩
 · refine (I.hok b u e).stay (fun c v hcc q => k c v ?_ q) (fun _ q => q) fun _ _ q => q
   rcases hcc with z | z
   · rw [z]; exact nit b u e
   · exact nit c _ z
theorem Inv.track {a : Addr} {o : HO} (I : Inv X pins σ H s) (hn : jge X pins H a) (new : jbW X.prog X.w (upd H a o) s.heap a o) : Inv X pins σ (upd H a o) s := by
 obtain ⟨f0, f1, f2, f3, f4, f5⟩ := hn
 have hok : HOk X.prog X.w (upd H a o) s.heap := fun b u e => by
   by_cases hb : b = a
   · subst hb; rw [jah] at e; cases e; exact new
   · rw [jaw hb] at e
     exact (I.hok b u e).stay (fun c v _ q => q) (fun c q => by rw [jaw (jaF q f0)]; exact q) fun c xs q => by rw [jaw (jaF q f0)]; exact q
 have z := I.step (h' := s.heap) (H' := upd H a o) (g' := s.gens) (t' := s.toks) (d' := s.drawn) (ch := [a]) (fun b hb => by
     have e : b = a := by simpa using hb
     subst e
     exact ⟨f3, f1, f4, f5⟩) (fun b o _ _ _ e _ => e) (fun b o _ _ _ e _ => ⟨o.slots, e⟩) (fun b u hb e n => by rw [jaw (by simpa using hb)]; exact n) (fun b o _ e => ⟨o, e⟩)
   (fun b xs e => by rw [jaw (jaF e f0)]; exact e) (fun b u xs e => by rw [jaw (jaF e f0)]; exact e) (fun b ps e => ⟨#[], by rw [jaw (jaF e f0), e]; simp⟩) (fun m hm => hm) hok I.bare
 exact z
def Ite (K : PySem.W.Frag) (a : Addr) : It :=
 ⟨fun i H => ∃ xs x, SqL K H a xs ∧ xs[i]? = some x, fun i H v H' => ∃ t x, v = .ref t ∧ H t = none ∧ H' = upd H t (.tup [.int (i : Int), x]) ∧ ∀ xs, SqL K H a xs → xs[i]? = some x, fun i H => ∃ xs, SqL K H a xs ∧ xs.length ≤ i⟩
theorem jlq {P : Program} {w : World} {K : PySem.W.Frag} {elts : List Expr} {kk : Nat} {tp : Pos} (a e it : Addr) (hne : e ≠ it)
   (hself : ∀ (A : Around) (i : Nat) (s : Shared) (Q : Value → Shared → Prop) (E : Value → Shared → Prop), (∃ old, IsEnum s.heap e it (i : Int) old ∧ s.heap.IsListIter it a i) → Q (.ref e) s → wpAny (model P w) A (pyIter (.ref e)) Q E s) :
   Turn P w K (.Tuple elts kk tp) (Ite K a) [e, it] e (fun i h => ∃ old, IsEnum h e it (i : Int) old ∧ h.IsListIter it a i) where
 mem := by simp
 obj := fun i h st b hb => by
   obtain ⟨old, h1, o, h2, c, d⟩ := st
   have hb' : b = e ∨ b = it := by simpa using hb
   rcases hb' with z | z
   · subst z; exact ⟨_, h1, fun v z => nomatch z⟩
   · subst z; exact ⟨o, h2, fun v z => by rw [d] at z; cases z⟩
 keep := fun i h h' st k => by
   obtain ⟨old, h1, h2⟩ := st
   exact ⟨old, k e (by simp) _ h1, h2.at fun o z => k it (by simp) o z⟩
 item := by
   intro X hP hw hK hc i pins s σ H E I hf st hg
   subst hP hw hK
   obtain ⟨xs, x, hq, hx⟩ := hg
   obtain ⟨its, rv, p, hz⟩ := I.list hq
   obtain ⟨u, hu, ru⟩ := rv.get hx
   obtain ⟨old, h1, h2⟩ := st
   refine wpAny_pyNext_enum_item h1 h2 p.isList (x := u) (by simpa using hu) hne fun hA heo hit1 ht1 hz1 hk1 => ?_
   refine ⟨_, rfl, wpAny_letOwnedTupleGo_enum heo fun hB he2 hs2 => ?_⟩
   have hs2 : Heap.SameBut e hA hB := hs2
   have hel : e < s.heap.objs.size := Heap.lt_size h1
   have hsz : H s.heap.objs.size = none := I.hok.fresh (Nat.le_refl _)
   have hpres : ∀ b o, b ∉ [e, it] → s.heap.get? b = some o → hB.get? b = some o := fun b o hb z => by
     have hb' : b ≠ e ∧ b ≠ it := by simpa using hb
     exact hs2.extBut b o hb'.1 (hk1 b o hb'.1 hb'.2 z)
   have I1 : Inv X pins σ H { s with heap := hB, toks := s.toks + 1 } := I.turnedL (t' := s.toks + 1) hpres hf
   have ht2 : hB.get? s.heap.objs.size = some { cls := .type "tuple", data := .seq #[.int i s.toks, u] } := hs2.extBut _ _ (Nat.ne_of_gt hel) ht1
   have fpt : jge X pins H s.heap.objs.size := I.fpOk (Nat.le_refl _) hsz
   have I2 := I1.track (o := .tup [.int (i : Int), x]) fpt ⟨by show 2 ≤ sizeLine; decide, [.int i s.toks, u], .cons ⟨_, rfl⟩ (.cons ru .nil), ⟨_, ht2, rfl, 0, rfl⟩⟩
   refine ⟨.ref s.heap.objs.size, _, I2, rfl, ⟨_, x, rfl, hsz, rfl, fun ys hy => by rw [I.list_inj hy hq]; exact hx⟩, ⟨u, ?_, ?_⟩, fun b hb => ?_⟩
   · have ec : ((i + 1 : Nat) : Int) = (i : Int) + 1 := by omega
     rw [ec]
     exact he2
   · exact hit1.extBut hs2.extBut (Ne.symm hne)
   · have hlt : b < s.heap.objs.size := by
       have hb' : b = e ∨ b = it := by simpa using hb
       obtain ⟨o, z, _⟩ := h2
       rcases hb' with y | y
       · rw [y]; exact hel
       · rw [y]; exact Heap.lt_size z
     rw [jaw (Nat.ne_of_lt hlt)]
     exact (hf b hb).1
 done := by
   intro X hP hw hK hc i pins s σ H E I hf st hg
   subst hP hw hK
   obtain ⟨xs, hq, hx⟩ := hg
   obtain ⟨its, rv, p, hz⟩ := I.list hq
   obtain ⟨old, h1, h2⟩ := st
   have hl := rv.length
   exact wpAny_pyNext_enum_end (I.ok.hd hc) h1 h2 p.isList (by simp; omega) fun hA eb => ⟨rfl, I.turnedL (t' := s.toks) (fun b o hb z => eb b o (fun y => hb (by simp [y])) z) hf⟩
 self := fun A i s Q E st h => hself A i s Q E st h
theorem jlg : bootBuiltins "enumerate" = some (.type "enumerate") := by decide +kernel
def jpK (K : PySem.W.Frag) (ta : TA) : TI := fun σ H R => ta σ H fun vs H1 => ∃ a, vs = [.ref a] ∧ (∃ xs, SqL K H1 a xs) ∧ R (Ite K a) H1
theorem joE (K : PySem.W.Frag) {e : Expr} {elts : List Expr} {kk : Nat} {tp : Pos} {ta : TA} {p pos : Pos} (hK : X.K = K) (hg : Gl X "enumerate") (hm : X.mg "enumerate" = none) (ha : PA X [e] ta) (hs : starEach [e] X.env = [(false, eval e X.env)]) :
   PI X (.Tuple elts kk tp) (.Call (.Name "enumerate" p) [e] [] pos) (jpK K ta) := by
 subst hK
 intro pins s σ H R I h
 refine Call_ (jdL I hg hm jlg (PyProof.Rows.callWith_type1 (thn (ha pos pins s σ H _ I h) fun us s1 ⟨vs, H1, I1, r1, q1⟩ => ?_) hs rfl))
 obtain ⟨a, rfl, ⟨xs, hq⟩, q⟩ := q1
 obtain ⟨u, rfl, r2⟩ := vals1 r1
 cases r2
 obtain ⟨its, rv, pl, hz⟩ := I1.list hq
 refine call_enumerate_list pl.isList fun h' he hit hz hk => wpAny_pyIter_enum he ?_
 have I2 : Inv X pins σ H1 { s1 with heap := h' } := I1.kept (t' := s1.toks) hk
 refine ⟨s1.heap.objs.size + 1, [s1.heap.objs.size + 1, s1.heap.objs.size], _, _, H1, rfl, I2, jlq a _ _ (Nat.succ_ne_self _) (fun A i s Q E st h => by obtain ⟨old, z, _⟩ := st; exact wpAny_pyIter_enum z h), ⟨_, he, hit⟩, fun b hb => ?_, q⟩
 have hb' : b = s1.heap.objs.size + 1 ∨ b = s1.heap.objs.size := by simpa using hb
 rcases hb' with z | z
 · subst z; exact I1.fpOk (Nat.le_succ _) (I1.hok.fresh (Nat.le_succ _))
 · subst z; exact I1.fpOk (Nat.le_refl _) (I1.hok.fresh (Nat.le_refl _))
theorem jfE (K : PySem.W.Frag) {es : List Expr} {k : Nat} {t : TGs} {n : Nat} {pos : Pos} (hK : X.K = K) (hc : X.calm = true) (h : PGs X es t) (hn : (assignEach es X.env).length = n) (hst : (assignEach es X.env).findIdx? (·.1) = none) : PG X (.Tuple es k pos) (jpq K n t) := by
 subst hK; exact jpV hc h hn hst
end
theorem jlF {K : PySem.W.Frag} {ta : TA} {σ : St} {H : Hp} {R : It → Hp → Prop} (h : ta σ H fun vs H1 => ∃ a, vs = [.ref a] ∧ (∃ xs, SqL K H1 a xs) ∧ R (Ite K a) H1) : jpK K ta σ H R := h
theorem jjy {K : PySem.W.Frag} {i j : Nat} {t : Addr} {x y : V} {σ : St} {H : Hp} {R : St → Hp → Prop} (c : SqT K H t [x, y]) (h : R ((σ.set i (some x)).set j (some y)) H) : jpq K 2 (jjo (jdf i) (jjo (jdf j) jqg)) (.ref t) σ H R :=
 ⟨t, [x, y], rfl, c, rfl, x, [y], rfl, y, [], rfl, rfl, h⟩
theorem jrm {K : PySem.W.Frag} {a : Addr} {xs : List V} {g : TG} {tb : TS} {D : Ends} {σ : St} {H : Hp} (Pv : Nat → St → Hp → Prop) (h0 : Pv 0 σ H) (hl : ∀ i σ H, i ≤ xs.length → Pv i σ H → SqL K H a xs)
   (hs : ∀ i x σ H, xs[i]? = some x → Pv i σ H → ∀ t, H t = none → g (.ref t) σ (upd H t (.tup [.int (i : Int), x])) fun σ2 H2 => tb { D with nx := Pv (i + 1), ct := Pv (i + 1), bk := D.nx } σ2 H2) (hd : ∀ σ H, Pv xs.length σ H → D.nx σ H) :
   joQ (Ite K a) g tb D σ H := by
 refine ⟨fun i m σ H => m = xs.length - i ∧ i ≤ xs.length ∧ Pv i σ H, ⟨xs.length, by simp, Nat.zero_le _, h0⟩, ?_⟩
 rintro i m σ H ⟨rfl, hi, p⟩
 have q := hl i σ H hi p
 by_cases hlt : i < xs.length
 · refine .inr ⟨⟨xs, xs[i], q, by simp [hlt]⟩, Pv (i + 1), fun σ' H' p' => ⟨xs.length - (i + 1), by omega, rfl, hlt, p'⟩, fun v H' y => ?_⟩
   obtain ⟨t, x, rfl, hn, rfl, y⟩ := y
   exact hs i x σ _ (y xs q) p t hn
 · have e : i = xs.length := by omega
   subst e
   exact .inl ⟨⟨xs, q, Nat.le_refl _⟩, hd σ H p⟩
end L2
namespace L2
open PySem PySem.Spec PyProof.Rows
mutual
def okD : PyData → Bool
 | .none | .bool _ | .int _ => true
 | .str x => PyData.strOk x
 | .list xs | .tuple xs => jnC xs
 | .dict _ => false
def jnC : List PyData → Bool
 | [] => true
 | x :: xs => okD x && jnC xs
end
mutual
theorem jmY : ∀ d : PyData, okD d = true → PyData.eqv d d = true
 | .none, _ => by simp [PyData.eqv]
 | .bool b, _ => by simp [PyData.eqv]
 | .int i, _ => by simp [PyData.eqv]
 | .str x, _ => by simp [PyData.eqv]
 | .list xs, h => by rw [PyData.eqv]; exact jdN xs (by simpa [okD] using h)
 | .tuple xs, h => by rw [PyData.eqv]; exact jdN xs (by simpa [okD] using h)
 | .dict _, h => by simp [okD] at h
theorem jdN : ∀ ds : List PyData, jnC ds = true → PyData.eqvAll ds ds = true
 | [], _ => by simp [PyData.eqvAll]
 | d :: r, h => by
   have h' : okD d = true ∧ jnC r = true := by simpa [jnC] using h
   rw [PyData.eqvAll, jmY d h'.1, jdN r h'.2]; rfl
end
mutual
theorem joZ : ∀ d : PyData, okD d = true → d.canLay0 = true
 | .none, _ => by simp [PyData.canLay0]
 | .bool b, _ => by simp [PyData.canLay0]
 | .int i, _ => by simp [PyData.canLay0]
 | .str x, h => by simpa [PyData.canLay0, okD] using h
 | .list xs, h => by rw [PyData.canLay0]; exact jfC xs (by simpa [okD] using h)
 | .tuple xs, h => by rw [PyData.canLay0]; exact jfC xs (by simpa [okD] using h)
 | .dict _, h => by simp [okD] at h
theorem jfC : ∀ ds : List PyData, jnC ds = true → PyData.canLayAll0 ds = true
 | [], _ => by simp [PyData.canLayAll0]
 | d :: r, h => by
   have h' : okD d = true ∧ jnC r = true := by simpa [jnC] using h
   rw [PyData.canLayAll0, joZ d h'.1, jfC r h'.2]; rfl
end
end L2
namespace L2
open PySem PySem.Spec PyProof.Rows
open Sem (wp)
section
variable {M : Model} {A : Around} {E : Value → Shared → Prop}
theorem jif {s : Shared} {src : Source} {n : Nat} {Q : Nat → Shared → Prop} (hn : n ≠ 0) (h : ∀ i, i < n → Q i { s with drawn := s.drawn.bump src }) : wpAny M A (choose src n) Q E s :=
 fun Γ p _ => ⟨hn, h _ (Nat.mod_lt _ (Nat.pos_of_ne_zero hn))⟩
theorem jev {α : Type} : ∀ (l : List α) (i : Nat) (x : α), l[i]? = some x → (x :: l.eraseIdx i).Perm l
 | [], i, x, h => by simp at h
 | a :: l, 0, x, h => by simp at h; subst h; simp
 | a :: l, i + 1, x, h => by
   have ih := jev l i x (by simpa using h)
   rw [List.eraseIdx_cons_succ]
   exact (List.Perm.swap a x _).trans (ih.cons a)
theorem jdw {α : Type} : ∀ (n : Nat) (xs : List α) (s : Shared) {Q : List α → Shared → Prop}, xs.length = n → (∀ ys d', ys.Perm xs → Q ys { s with drawn := d' }) → wpAny M A (drawOrder n xs) Q E s
 | 0, xs, s, Q, hl, h => by
   have : xs = [] := List.eq_nil_of_length_eq_zero hl
   subst this
   unfold drawOrder
   exact wpAny_pure (h [] s.drawn (List.Perm.refl _))
 | n + 1, [], s, Q, hl, h => by simp at hl
 | n + 1, x :: xs, s, Q, hl, h => by
   unfold drawOrder
   refine wpAny_bind (jif (by simp) fun i hi => ?_)
   have hx : (x :: xs)[i]? = some (x :: xs)[i] := List.getElem?_eq_getElem hi
   rw [hx]
   dsimp only
   refine wpAny_bind (jdw n ((x :: xs).eraseIdx i) _ (by rw [List.length_eraseIdx, if_pos hi]; simpa using hl) fun ys d' hp => wpAny_pure (h _ d' ?_))
   exact (hp.cons _).trans (jev _ i _ hx)
end
theorem jfF {α : Type} (next : Nat → Nat) : ∀ (fuel k : Nat) (left : List α) (out : Array α), left.length = fuel → (pickOrder.go next fuel k left out).toList.Perm (out.toList ++ left)
 | 0, k, left, out, h => by
   have : left = [] := List.eq_nil_of_length_eq_zero h
   subst this
   unfold pickOrder.go
   simp
 | fuel + 1, k, left, out, h => by
   unfold pickOrder.go
   have hi : next k % left.length < left.length := Nat.mod_lt _ (by omega)
   have hx : left[next k % left.length]? = some left[next k % left.length] := List.getElem?_eq_getElem hi
   rw [hx]
   dsimp only
   refine (jfF next fuel (k + 1) _ _ (by rw [List.length_eraseIdx]; simp [hi]; omega)).trans ?_
   rw [Array.toList_push, List.append_assoc]
   exact (jev left _ _ hx).append_left _
theorem jb4 {α : Type} (next : Nat → Nat) (xs : Array α) : (pickOrder next xs).toList.Perm xs.toList := by
 unfold pickOrder
 have := jfF next xs.size 0 xs.toList #[] (by simp)
 simpa using this
namespace FS
theorem slot_next : Slot "set_iterator" "__next__" "set_iterator.__next__" :=
 .of (owner := "set_iterator") (n := "__next__") (by rw [typeLookup_type, builtinLookup_eq_fast]; kernel_rfl) (by decide +kernel) (by decide +kernel) (by decide +kernel)
   (by first | exact .inl (by decide +kernel) | exact .inr (by decide +kernel)) (by rw [isSubtype_type]; kernel_rfl)
theorem entry_next : entryFor table "set_iterator.__next__" = some Builtin.«set_iterator.__next__» := entryFor_of_tree (by kernel_rfl)
theorem args_next (a : Value) : argsOk "set_iterator.__next__" ⟨[a], []⟩ := by unfold argsOk; kernel_rfl
theorem slot_iter : Slot "set_iterator" "__iter__" "set_iterator.__iter__" :=
 .of (owner := "set_iterator") (n := "__iter__") (by rw [typeLookup_type, builtinLookup_eq_fast]; kernel_rfl) (by decide +kernel) (by decide +kernel) (by decide +kernel)
   (by first | exact .inl (by decide +kernel) | exact .inr (by decide +kernel)) (by rw [isSubtype_type]; kernel_rfl)
theorem entry_iter : entryFor table "set_iterator.__iter__" = some Builtin.«dict_keyiterator.__iter__» :=
 entryFor_alias (id' := "dict_keyiterator.__iter__") (by kernel_rfl) rfl (by decide +kernel) (by kernel_rfl)
theorem args_iter (a : Value) : argsOk "set_iterator.__iter__" ⟨[a], []⟩ := by unfold argsOk; kernel_rfl
theorem entry_set_iter : entryFor table "set.__iter__" = some Builtin.«frozenset.__iter__» :=
 entryFor_alias (id' := "frozenset.__iter__") (by kernel_rfl) rfl (by decide +kernel) (by kernel_rfl)
end FS
end L2
namespace L2
open PySem PySem.Spec PyProof.Rows
open Sem (wp)
abbrev SIt (h : Heap) (I a : Addr) (first : Value) (i n ep : Nat) : Prop :=
 h.get? I = some { cls := .type "set_iterator", dict := none, data := .fields #[first, rawInt (i : Int), .ref a, rawInt (n : Int), rawInt (ep : Int)], slots := #[] }
section
variable {prog : Program} {w : World} {A : Around} {E : Value → Shared → Prop} {s : Shared}
theorem jbU {a : Addr} {o : Obj} {es : Array (Int × Value)} {ep : Nat} {t : SetTable} {Q : Array (Int × Value) → Shared → Prop} (ho : s.heap.get? a = some o) (hd : o.data = .set es ep t) (hf : t.fits es.size = true) (h : Q es s) : wpAny (model prog w) A (setEntries a) Q E s := by
 unfold setEntries
 exact wpAny_bind (wpAny_setState_of ho hd hf (wpAny_pure h))
theorem jfP {Q : Bool → Shared → Prop} (h : Q (w.params.followText "set-order") s) : wpAny (model prog w) A setsByText Q E s := by
 unfold setsByText
 exact wpAny_bind (wpAny_askSetting (wpAny_pure h))
theorem jmG {a : Addr} {o : Obj} {es : Array (Int × Value)} {ep : Nat} {t : SetTable} {Q : Array (Int × Value) → Shared → Prop} (hb : w.params.followText "set-order" = true) (ho : s.heap.get? a = some o) (hd : o.data = .set es ep t) (hf : t.fits es.size = true)
   (h : Q (pickOrder (w.params.setOrder a ep) es) s) : wpAny (model prog w) A (setWalk a) Q E s := by
 unfold setWalk
 refine wpAny_bind (wpAny_setState_of ho hd hf ?_)
 refine wpAny_bind (jfP ?_)
 rw [hb]
 simp only [if_true]
 exact wpAny_bind (wpAny_askSetting (wpAny_pure h))
theorem jjt {a : Addr} {o : Obj} {es : Array (Int × Value)} {ep i slot : Nat} {t : SetTable} {Q : Option (Value × Nat) → Shared → Prop} (hb : w.params.followText "set-order" = true) (ho : s.heap.get? a = some o) (hd : o.data = .set es ep t) (hf : t.fits es.size = true)
   (h : Q (((pickOrder (w.params.setOrder a ep) es)[i]?).map fun e => (e.2, slot)) s) : wpAny (model prog w) A (setNext a slot i ep) Q E s := by
 unfold setNext
 refine wpAny_bind (wpAny_setState_of ho hd hf ?_)
 refine wpAny_bind (jfP ?_)
 rw [hb]
 simp only [if_true, bne_self_eq_false, Bool.false_eq_true, if_false]
 exact wpAny_bind (jmG hb ho hd hf (wpAny_pure h))
theorem jg3 {I : Addr} {s : Shared} {o : Obj} {vs : Array Value} {k : Nat} {x : Value} {Q : Option Value → Shared → Prop} (hh : A.handled = none) (ho : s.heap.get? I = some o) (hd : o.data = .fields vs) (hk : k < vs.size)
   (hQ : ∀ h', Heap.ExtBut I s.heap h' → Q none { s with heap := h' }) :
   wpAny (model prog w) A.in1 (do setField (.ref I) k x; let e ← newExc (.type "StopIteration") []; raiseNew e) (fun fin s' => ∃ v, fin = PySem.Fin.done (Flow.ret v) ∧ wpAny (model prog w) A (pure (some v)) Q E s')
     (fun e s' => wpAny (model prog w) A (do let b ← isInstance e (.type "StopIteration"); if b = true then pure none else throw e) Q E s') s := by
 refine wpAny_bind (wpAny_setField ho hd hk ?_)
 refine wpAny_bind ?_
 simp only [newExc, newTuple]
 refine wpAny_bind (wpAny_newObj_type ?_ (by size_fits))
 refine wpAny_bind (m := firstArgMember _ _) (wpAny_of_eq (a := Value.none) (by first | rfl | (simp only [firstArgMember]; rfl)) ?_)
 refine wpAny_newObj_type ?_ (by size_fits)
 simp only [raiseNew]
 refine wpAny_bind (wpAny_handled ?_)
 rw [show A.in1.handled = none from hh]
 refine wpAny_bind (wpAny_pure (wpAny_throw ?_))
 refine wpAny_bind (wpAny_isInstance (T := "StopIteration") (b := true) ⟨_, Heap.get?_push_size _ rfl, rfl⟩ isSubtype_stop ?_)
 exact wpAny_pure (hQ _ (((Heap.SameBut.update ..).extBut.push _).push _))
theorem jkC {I a : Addr} {o : Obj} {es : Array (Int × Value)} {ep i : Nat} {t : SetTable} {v : Value} {Q : Option Value → Shared → Prop} (hb : w.params.followText "set-order" = true) (hi : SIt s.heap I a (rawInt 0) i es.size ep)
   (ho : s.heap.get? a = some o) (hd : o.data = .set es ep t) (hf : t.fits es.size = true) (hv : ((pickOrder (w.params.setOrder a ep) es)[i]?).map (·.2) = some v)
   (h : ∀ h', SIt h' I a (rawInt 0) (i + 1) es.size ep → Heap.SameBut I s.heap h' → Q (some v) { s with heap := h' }) : wpAny (model prog w) A (pyNext (.ref I)) Q E s := by
 have hT : s.TypeIs (.ref I) "set_iterator" := ⟨_, hi, rfl⟩
 obtain ⟨e, he, hev⟩ : ∃ e, (pickOrder (w.params.setOrder a ep) es)[i]? = some e ∧ e.2 = v := by
   cases q : (pickOrder (w.params.setOrder a ep) es)[i]? with
   | none => rw [q] at hv; cases hv
   | some e => rw [q] at hv; exact ⟨e, rfl, Option.some.inj hv⟩
 unfold pyNext
 refine wpAny_bind (wpAny_attempt (wpAny_callSpecial?_slot (name := Str.ofString "__next__") hT FS.slot_next (wpAny_call_entry FS.slot_next hT FS.entry_next ?_ (FS.args_next _))))
 unfold Builtin.«set_iterator.__next__»
 refine wpAny_bind (m := slotArgs "__next__" 0 ⟨[.ref I], []⟩) (wpAny_of_eq (a := (Value.ref I, [])) rfl ?_)
 refine wpAny_bind (wpAny_fieldsOf hi rfl ?_)
 show wpAny _ _ (setEntries a >>= _) _ _ _
 refine wpAny_bind (jbU ho hd hf ?_)
 simp only [bne_self_eq_false, Bool.false_eq_true, if_false]
 show wpAny _ _ (setNext a (0 : Int).toNat (i : Int).toNat (ep : Int).toNat >>= _) _ _ _
 rw [Int.toNat_natCast, Int.toNat_natCast]
 refine wpAny_bind (jjt hb ho hd hf ?_)
 rw [he]
 dsimp only [Option.map]
 refine wpAny_bind (wpAny_setField_rec hi (by simp) fun h1 hi1 sb1 => ?_)
 refine wpAny_bind (wpAny_setField_rec hi1 (by simp) fun h2 hi2 sb2 => ?_)
 refine wpAny_pure ⟨_, rfl, wpAny_pure ?_⟩
 rw [hev]
 refine h h2 ?_ (sb1.trans sb2)
 have e : ((i + 1 : Nat) : Int) = (i : Int) + 1 := by omega
 unfold SIt
 rw [e]
 simpa using hi2
theorem jmc {I a : Addr} {o : Obj} {es : Array (Int × Value)} {ep i : Nat} {t : SetTable} {Q : Option Value → Shared → Prop} (hh : A.handled = none) (hb : w.params.followText "set-order" = true) (hi : SIt s.heap I a (rawInt 0) i es.size ep)
   (ho : s.heap.get? a = some o) (hd : o.data = .set es ep t) (hf : t.fits es.size = true) (hv : (pickOrder (w.params.setOrder a ep) es)[i]? = none)
   (h : ∀ h', Heap.ExtBut I s.heap h' → Q none { s with heap := h' }) : wpAny (model prog w) A (pyNext (.ref I)) Q E s := by
 have hT : s.TypeIs (.ref I) "set_iterator" := ⟨_, hi, rfl⟩
 unfold pyNext
 refine wpAny_bind (wpAny_attempt (wpAny_callSpecial?_slot (name := Str.ofString "__next__") hT FS.slot_next (wpAny_call_entry FS.slot_next hT FS.entry_next ?_ (FS.args_next _))))
 unfold Builtin.«set_iterator.__next__»
 refine wpAny_bind (m := slotArgs "__next__" 0 ⟨[.ref I], []⟩) (wpAny_of_eq (a := (Value.ref I, [])) rfl ?_)
 refine wpAny_bind (wpAny_fieldsOf hi rfl ?_)
 show wpAny _ _ (setEntries a >>= _) _ _ _
 refine wpAny_bind (jbU ho hd hf ?_)
 simp only [bne_self_eq_false, Bool.false_eq_true, if_false]
 show wpAny _ _ (setNext a (0 : Int).toNat (i : Int).toNat (ep : Int).toNat >>= _) _ _ _
 rw [Int.toNat_natCast, Int.toNat_natCast]
 refine wpAny_bind (jjt hb ho hd hf ?_)
 rw [hv]
 dsimp only [Option.map]
 exact jg3 hh hi rfl (by simp) h
theorem jmE {a : Addr} {o : Obj} {es : Array (Int × Value)} {ep p : Nat} {t : SetTable} {e : Int × Value} {Q : Value → Shared → Prop} (ho : s.heap.get? a = some o) (hd : o.data = .set es ep t) (hf : t.fits es.size = true) (he : es[p]? = some e)
   (h : Q e.2 s) : wpAny (model prog w) A (setNextDrawn a p ep) Q E s := by
 unfold setNextDrawn
 refine wpAny_bind (wpAny_setState_of ho hd hf ?_)
 simp only [bne_self_eq_false, Bool.false_eq_true, if_false]
 rw [he]
 exact wpAny_pure h
theorem jj9 {I a T : Addr} {o oT : Obj} {es : Array (Int × Value)} {ep i p nT : Nat} {t : SetTable} {e : Int × Value} {places : List Nat} {Q : Option Value → Shared → Prop} (hi : SIt s.heap I a (.ref T) i es.size ep)
   (hTo : s.heap.get? T = some oT) (hTd : oT.data = .seq (places.map fun (p : Nat) => rawInt (p : Int)).toArray nT)
   (ho : s.heap.get? a = some o) (hd : o.data = .set es ep t) (hf : t.fits es.size = true) (hp : places[i]? = some p) (he : es[p]? = some e)
   (h : ∀ h', SIt h' I a (.ref T) (i + 1) es.size ep → Heap.SameBut I s.heap h' → Q (some e.2) { s with heap := h' }) : wpAny (model prog w) A (pyNext (.ref I)) Q E s := by
 have hT : s.TypeIs (.ref I) "set_iterator" := ⟨_, hi, rfl⟩
 unfold pyNext
 refine wpAny_bind (wpAny_attempt (wpAny_callSpecial?_slot (name := Str.ofString "__next__") hT FS.slot_next (wpAny_call_entry FS.slot_next hT FS.entry_next ?_ (FS.args_next _))))
 unfold Builtin.«set_iterator.__next__»
 refine wpAny_bind (m := slotArgs "__next__" 0 ⟨[.ref I], []⟩) (wpAny_of_eq (a := (Value.ref I, [])) rfl ?_)
 refine wpAny_bind (wpAny_fieldsOf hi rfl ?_)
 show wpAny _ _ (setEntries a >>= _) _ _ _
 refine wpAny_bind (jbU ho hd hf ?_)
 simp only [bne_self_eq_false, Bool.false_eq_true, if_false]
 show wpAny _ _ (seqItems? (.ref T) >>= _) _ _ _
 refine wpAny_bind ?_
 unfold seqItems?
 refine wpAny_bind (wpAny_load hTo ?_)
 rw [hTd]
 refine wpAny_pure ?_
 dsimp only
 have hpl : ((places.map fun (p : Nat) => rawInt (p : Int)).toArray)[(i : Int).toNat]? = some (rawInt (p : Int)) := by
   rw [Int.toNat_natCast]
   simp [hp]
 rw [hpl]
 show wpAny _ _ (setNextDrawn a (p : Int).toNat (ep : Int).toNat >>= _) _ _ _
 rw [Int.toNat_natCast, Int.toNat_natCast]
 refine wpAny_bind (jmE ho hd hf he ?_)
 refine wpAny_bind (wpAny_setField_rec hi (by simp) fun h2 hi2 sb2 => ?_)
 refine wpAny_pure ⟨_, rfl, wpAny_pure ?_⟩
 refine h h2 ?_ sb2
 have e : ((i + 1 : Nat) : Int) = (i : Int) + 1 := by omega
 unfold SIt
 rw [e]
 simpa using hi2
theorem jkW {I a T : Addr} {o oT : Obj} {es : Array (Int × Value)} {ep i nT : Nat} {t : SetTable} {places : List Nat} {Q : Option Value → Shared → Prop} (hh : A.handled = none) (hi : SIt s.heap I a (.ref T) i es.size ep)
   (hTo : s.heap.get? T = some oT) (hTd : oT.data = .seq (places.map fun (p : Nat) => rawInt (p : Int)).toArray nT)
   (ho : s.heap.get? a = some o) (hd : o.data = .set es ep t) (hf : t.fits es.size = true) (hp : places[i]? = none)
   (h : ∀ h', Heap.ExtBut I s.heap h' → Q none { s with heap := h' }) : wpAny (model prog w) A (pyNext (.ref I)) Q E s := by
 have hT : s.TypeIs (.ref I) "set_iterator" := ⟨_, hi, rfl⟩
 unfold pyNext
 refine wpAny_bind (wpAny_attempt (wpAny_callSpecial?_slot (name := Str.ofString "__next__") hT FS.slot_next (wpAny_call_entry FS.slot_next hT FS.entry_next ?_ (FS.args_next _))))
 unfold Builtin.«set_iterator.__next__»
 refine wpAny_bind (m := slotArgs "__next__" 0 ⟨[.ref I], []⟩) (wpAny_of_eq (a := (Value.ref I, [])) rfl ?_)
 refine wpAny_bind (wpAny_fieldsOf hi rfl ?_)
 show wpAny _ _ (setEntries a >>= _) _ _ _
 refine wpAny_bind (jbU ho hd hf ?_)
 simp only [bne_self_eq_false, Bool.false_eq_true, if_false]
 show wpAny _ _ (seqItems? (.ref T) >>= _) _ _ _
 refine wpAny_bind ?_
 unfold seqItems?
 refine wpAny_bind (wpAny_load hTo ?_)
 rw [hTd]
 refine wpAny_pure ?_
 dsimp only
 have hpl : ((places.map fun (p : Nat) => rawInt (p : Int)).toArray)[(i : Int).toNat]? = none := by
   rw [Int.toNat_natCast]
   simpa using hp
 rw [hpl]
 dsimp only
 refine wpAny_bind (wpAny_setField_rec hi (by simp) fun h2 hi2 sb2 => ?_)
 refine jg3 (s := { s with heap := h2 }) hh hi2 rfl (by simp) fun h' eb => h h' fun b ob hb e => eb b ob hb (sb2.extBut b ob hb e)
structure jeX (h : Heap) (a : Addr) (es : Array (Int × Value)) (ep : Nat) (t : SetTable) : Prop where
 ob : ∃ o, h.get? a = some o ∧ o.ExactSet ∧ o.data = .set es ep t
 fits : t.fits es.size = true
theorem jeX.at {h h' : Heap} {a : Addr} {es : Array (Int × Value)} {ep : Nat} {t : SetTable} (x : jeX h a es ep t) (k : ∀ o, h.get? a = some o → h'.get? a = some o) : jeX h' a es ep t := by
 obtain ⟨⟨o, e, r⟩, f⟩ := x
 exact ⟨⟨o, k o e, r⟩, f⟩
theorem jeX.typeIs {s : Shared} {a : Addr} {es : Array (Int × Value)} {ep : Nat} {t : SetTable} (x : jeX s.heap a es ep t) : s.TypeIs (.ref a) "set" := by
 obtain ⟨⟨o, e, r, _⟩, f⟩ := x
 exact ⟨o, e, r.1⟩
theorem jdK {I a : Addr} {first : Value} {i n ep : Nat} {Q : Value → Shared → Prop} (hi : SIt s.heap I a first i n ep) (h : Q (.ref I) s) : wpAny (model prog w) A (pyIter (.ref I)) Q E s := by
 have hT : s.TypeIs (.ref I) "set_iterator" := ⟨_, hi, rfl⟩
 refine wpAny_pyIter_slot hT FS.slot_iter (wpAny_call_entry FS.slot_iter hT FS.entry_iter ?_ (FS.args_iter _))
 show wpAny _ _ (ret (.ref I)) _ _ s
 exact wpAny_pure ⟨_, rfl, "set_iterator", _, hT, FS.slot_next.lookup, h⟩
theorem jo7 {I a : Addr} {es : Array (Int × Value)} {ep : Nat} {t : SetTable} (hh : A.handled = none) (hb : w.params.followText "set-order" = true) (hne : a ≠ I) :
   Walks prog w A I [I, a] [I] es.size (fun i v => ((pickOrder (w.params.setOrder a ep) es)[i]?).map (·.2) = some v) (fun i h => SIt h I a (rawInt 0) i es.size ep ∧ jeX h a es ep t) where
 sub := fun b hb => by simp at hb; simp [hb]
 frame := fun i h h' st k => ⟨k I (by simp) _ st.1, st.2.at fun o e => k a (by simp) o e⟩
 item := fun i s Q E hi st hQ => by
   obtain ⟨⟨o, ho, hex, hd⟩, hf⟩ := id st.2
   have hsz : (pickOrder (w.params.setOrder a ep) es).size = es.size := by
     have := (jb4 (w.params.setOrder a ep) es).length_eq
     simpa using this
   have hlt : i < (pickOrder (w.params.setOrder a ep) es).size := by omega
   have hv : ((pickOrder (w.params.setOrder a ep) es)[i]?).map (·.2) = some (pickOrder (w.params.setOrder a ep) es)[i].2 := by rw [Array.getElem?_eq_getElem hlt]; rfl
   refine jkC hb st.1 ho hd hf hv fun h' hi' sb => ?_
   exact hQ _ h' s.toks hv ⟨hi', st.2.at fun o e => sb.extBut a o hne e⟩ fun b o hb e => sb.extBut b o (by simpa using hb) e
 done := fun s Q E st hQ => by
   obtain ⟨⟨o, ho, hex, hd⟩, hf⟩ := id st.2
   have hsz : (pickOrder (w.params.setOrder a ep) es).size = es.size := by
     have := (jb4 (w.params.setOrder a ep) es).length_eq
     simpa using this
   refine jmc hh hb st.1 ho hd hf (by rw [Array.getElem?_eq_none_iff]; omega) fun h' eb => hQ h' s.toks fun b o hb e => eb b o (by simpa using hb) e
 self := fun i s Q E st hQ => jdK st.1 hQ
theorem jpR {I a T : Addr} {es : Array (Int × Value)} {ep nT : Nat} {t : SetTable} {places : List Nat} (hh : A.handled = none) (hp : places.Perm (List.range es.size)) (hne : a ≠ I) (hnT : T ≠ I) :
   Walks prog w A I [I, a, T] [I] es.size (fun i v => ((places[i]?).bind fun p => es[p]?).map (·.2) = some v) (fun i h => SIt h I a (.ref T) i es.size ep ∧ jeX h a es ep t ∧ ∃ oT, h.get? T = some oT ∧ oT.data = .seq (places.map fun (p : Nat) => rawInt (p : Int)).toArray nT) where
 sub := fun b hb => by simp at hb; simp [hb]
 frame := fun i h h' st k => ⟨k I (by simp) _ st.1, st.2.1.at fun o e => k a (by simp) o e, by obtain ⟨oT, e, d⟩ := st.2.2; exact ⟨oT, k T (by simp) _ e, d⟩⟩
 item := fun i s Q E hi st hQ => by
   obtain ⟨⟨o, ho, hex, hd⟩, hf⟩ := id st.2.1
   obtain ⟨oT, hTo, hTd⟩ := id st.2.2
   have hl : places.length = es.size := by rw [hp.length_eq, List.length_range]
   have hlt : i < places.length := by omega
   have hpl : places[i] < es.size := List.mem_range.mp (hp.mem_iff.mp (List.getElem_mem hlt))
   have e1 : places[i]? = some places[i] := List.getElem?_eq_getElem hlt
   have e2 : es[places[i]]? = some es[places[i]] := Array.getElem?_eq_getElem hpl
   refine jj9 st.1 hTo hTd ho hd hf e1 e2 fun h' hi' sb => ?_
   exact hQ _ h' s.toks (by rw [e1]; simp [e2]) ⟨hi', st.2.1.at fun o e => sb.extBut a o hne e, oT, sb.extBut T _ hnT hTo, hTd⟩ fun b o hb e => sb.extBut b o (by simpa using hb) e
 done := fun s Q E st hQ => by
   obtain ⟨⟨o, ho, hex, hd⟩, hf⟩ := id st.2.1
   obtain ⟨oT, hTo, hTd⟩ := id st.2.2
   have hl : places.length = es.size := by rw [hp.length_eq, List.length_range]
   refine jkW hh st.1 hTo hTd ho hd hf (List.getElem?_eq_none_iff.mpr (by omega)) fun h' eb => hQ h' s.toks fun b o hb e => eb b o (by simpa using hb) e
 self := fun i s Q E st hQ => jdK st.1 hQ
theorem jkd {a : Addr} {es : Array (Int × Value)} {ep : Nat} {t : SetTable} {Q : Value → Shared → Prop} (hS : jeX s.heap a es ep t) (hp : t.plain = false) (h2 : 1 < es.size) (hz : es.size ≤ 1000)
   (h : ∀ (I : Addr) (fp : List Addr) (P : Nat → Value → Prop) (St : Nat → Heap → Prop) (h' : Heap) (d' : Drawn), (∀ A' : Around, A'.handled = none → Walks prog w A' I fp [I] es.size P St) → St 0 h' → s.heap.objs.size ≤ I → I ∈ fp → (∀ b ∈ fp, b = a ∨ s.heap.objs.size ≤ b) →
     (∀ b o, s.heap.get? b = some o → h'.get? b = some o) → (∀ vs : List Value, vs.length = es.size → (∀ j v, vs[j]? = some v → P j v) → vs.Perm (es.toList.map (·.2))) → Q (.ref I) { s with heap := h', drawn := d' }) : wpAny (model prog w) A (pyIter (.ref a)) Q E s := by
 obtain ⟨⟨o, ho, hex, hd⟩, hf⟩ := id hS
 have hT := hS.typeIs
 refine wpAny_pyIter_slot hT F.slot_set_iter (wpAny_call_entry F.slot_set_iter hT FS.entry_set_iter ?_ (F.args_set_iter_1 _))
 unfold Builtin.«frozenset.__iter__»
 refine wpAny_bind (m := Builtin.Frozenset.slot0 "__iter__" ⟨[.ref a], []⟩) (wpAny_of_eq (a := a) rfl ?_)
 refine wpAny_bind (m := Builtin.Frozenset.sizeOf a) ?_
 unfold Builtin.Frozenset.sizeOf
 refine wpAny_bind (jbU ho hd hf (wpAny_pure ?_))
 refine wpAny_bind (m := setDrawn a) ?_
 unfold setDrawn
 refine wpAny_bind (wpAny_setState_of ho hd hf ?_)
 refine wpAny_bind (jfP (wpAny_pure ?_))
 dsimp only
 cases hb : w.params.followText "set-order" with
 | true =>
   refine wpAny_ite_split (fun z => absurd z (by simp)) (fun _ => ?_)
   refine wpAny_bind (wpAny_pure ?_)
   refine wpAny_bind (wpAny_setEpoch_of ho hd hf ?_)
   refine wpAny_bind (m := newFields _ _) (wpAny_newObj_type ?_)
   have hI : (s.heap.push { cls := .type "set_iterator", data := .fields #[rawInt 0, rawInt ((0 : Nat) : Int), .ref a, rawInt (es.size : Int), rawInt (ep : Int)] }).get? s.heap.objs.size = some { cls := .type "set_iterator", data := .fields #[rawInt 0, rawInt ((0 : Nat) : Int), .ref a, rawInt (es.size : Int), rawInt (ep : Int)] } := Heap.get?_push_size _ rfl
   have hne : a ≠ s.heap.objs.size := Nat.ne_of_lt (Heap.lt_size ho)
   refine wpAny_pure ⟨_, rfl, "set_iterator", _, ⟨_, hI, rfl⟩, FS.slot_next.lookup, ?_⟩
   refine h s.heap.objs.size [s.heap.objs.size, a] _ _ _ s.drawn (fun A' hA' => jo7 (t := t) hA' hb hne) ⟨hI, hS.at fun o e => Heap.get?_push_of_some _ e⟩ (Nat.le_refl _) (by simp) (fun b hb' => ?_) (fun b o e => Heap.get?_push_of_some _ e) fun vs hl hv => ?_
   · have hb2 : b = s.heap.objs.size ∨ b = a := by simpa using hb'
     rcases hb2 with z | z
     · rw [z]; exact .inr (Nat.le_refl _)
     · exact .inl z
   · have e : vs = ((pickOrder (w.params.setOrder a ep) es).toList.map (·.2)) := by
       have hl2 := (jb4 (w.params.setOrder a ep) es).length_eq
       apply List.ext_getElem?
       intro j
       by_cases hj : j < vs.length
       · have h1 := hv j vs[j] (List.getElem?_eq_getElem hj)
         rw [List.getElem?_eq_getElem hj, List.getElem?_map, Array.getElem?_toList]
         exact h1.symm
       · rw [List.getElem?_eq_none_iff.mpr (by omega), eq_comm, List.getElem?_eq_none_iff, List.length_map]
         simp at hl2
         simp
         omega
     rw [e]
     exact (jb4 _ _).map _
 | false =>
   have hdr : (!false && (!t.plain && decide (es.size > 1))) = true := by rw [hp]; simp [h2]
   refine wpAny_ite_split (fun _ => ?_) (fun z => absurd hdr z)
   refine wpAny_bind (jdw es.size (List.range es.size) _ (List.length_range ..) fun places d' hpl => ?_)
   have hlp : places.length = es.size := by rw [hpl.length_eq, List.length_range]
   refine wpAny_bind (wpAny_newTuple ?_ (by rw [List.length_map, hlp]; exact small hz))
   have hT1 : (s.heap.push { cls := .type "tuple", data := .seq (places.map fun (p : Nat) => rawInt (p : Int)).toArray }).get? s.heap.objs.size = some { cls := .type "tuple", data := .seq (places.map fun (p : Nat) => rawInt (p : Int)).toArray } := Heap.get?_push_size _ rfl
   have ho1 : (s.heap.push { cls := .type "tuple", data := .seq (places.map fun (p : Nat) => rawInt (p : Int)).toArray }).get? a = some o := Heap.get?_push_of_some _ ho
   generalize hh1 : s.heap.push { cls := .type "tuple", data := .seq (places.map fun (p : Nat) => rawInt (p : Int)).toArray } = h1 at hT1 ho1 ⊢
   have hs1 : h1.objs.size = s.heap.objs.size + 1 := by rw [← hh1, Heap.size_push]
   refine wpAny_bind (wpAny_setEpoch_of (s := { s with heap := h1, drawn := d' }) ho1 hd hf ?_)
   refine wpAny_bind (m := newFields _ _) (wpAny_newObj_type ?_)
   have hI : (h1.push { cls := .type "set_iterator", data := .fields #[.ref s.heap.objs.size, rawInt ((0 : Nat) : Int), .ref a, rawInt (es.size : Int), rawInt (ep : Int)] }).get? h1.objs.size = some { cls := .type "set_iterator", data := .fields #[.ref s.heap.objs.size, rawInt ((0 : Nat) : Int), .ref a, rawInt (es.size : Int), rawInt (ep : Int)] } := Heap.get?_push_size _ rfl
   have hlta := Heap.lt_size ho
   have hne : a ≠ h1.objs.size := by rw [hs1]; exact Nat.ne_of_lt (Nat.lt_succ_of_lt hlta)
   have hnT : s.heap.objs.size ≠ h1.objs.size := by rw [hs1]; omega
   refine wpAny_pure ⟨_, rfl, "set_iterator", _, ⟨_, hI, rfl⟩, FS.slot_next.lookup, ?_⟩
   refine h h1.objs.size [h1.objs.size, a, s.heap.objs.size] _ _ _ d' (fun A' hA' => jpR (t := t) (nT := 0) hA' hpl hne hnT) ⟨hI, hS.at fun o e => Heap.get?_push_of_some _ (by rw [← hh1]; exact Heap.get?_push_of_some _ e), _, Heap.get?_push_of_some _ hT1, rfl⟩ (by rw [hs1]; omega) (by simp) (fun b hb' => ?_) (fun b o e => Heap.get?_push_of_some _ (by rw [← hh1]; exact Heap.get?_push_of_some _ e)) fun vs hl hv => ?_
   · have hb2 : b = h1.objs.size ∨ b = a ∨ b = s.heap.objs.size := by simpa using hb'
     rcases hb2 with z | z | z
     · rw [z, hs1]; exact .inr (Nat.le_succ _)
     · exact .inl z
     · rw [z]; exact .inr (Nat.le_refl _)
   · have e : vs.map some = places.map fun p => (es[p]?).map (·.2) := by
       apply List.ext_getElem?
       intro j
       by_cases hj : j < vs.length
       · have h1 := hv j vs[j] (List.getElem?_eq_getElem hj)
         have hjp : j < places.length := by omega
         rw [List.getElem?_map, List.getElem?_map, List.getElem?_eq_getElem hj, List.getElem?_eq_getElem hjp]
         rw [List.getElem?_eq_getElem hjp] at h1
         simp only [Option.bind_some] at h1
         simp [h1]
       · rw [List.getElem?_eq_none_iff.mpr (by rw [List.length_map]; omega), List.getElem?_eq_none_iff.mpr (by rw [List.length_map]; omega)]
     have p1 : (places.map fun p => (es[p]?).map (·.2)).Perm ((List.range es.size).map fun p => (es[p]?).map (·.2)) := hpl.map _
     have e2 : ((List.range es.size).map fun p => (es[p]?).map (·.2)) = (es.toList.map (·.2)).map some := by
       apply List.ext_getElem?
       intro j
       by_cases hj : j < es.size
       · rw [List.getElem?_map, List.getElem?_range hj, List.getElem?_map, List.getElem?_map]
         simp [hj]
       · rw [List.getElem?_eq_none_iff.mpr (by rw [List.length_map, List.length_range]; omega), List.getElem?_eq_none_iff.mpr (by simp; omega)]
     rw [← e, e2] at p1
     have := p1.filterMap id
     simpa using this
end
end L2
namespace L2
open PySem PySem.Spec PyProof.Rows
section
variable {X : Cx} {pins : List (Addr × Obj)} {σ : List (Option V)} {H : Hp} {s : Shared}
theorem Inv.seer (I : Inv X pins σ H s) : s.heap.NoSeer := I.ok.mod.seer.keeps I.bk
def jro (X : Cx) : Prop := ∃ env l, X.stack = env :: l ∧ env.scope.isGenerator = false ∧ env.scope.isCoroutine = false ∧ env.builtins = builtinsNs ∧ env.globals = mainGlobals
theorem jg8 {k : Nat} (hT : jro X) (ht : X.prog.given.tree = none) (hr : je5 k X.A) (hk : 32 ≤ k) : OpR X (binaryOp .FloorDiv) (rI (fun _ j => 0 < j) fun i j => .int (i / j)) := by
 intro pins s σ H x y v u Q I rx ry h
 obtain ⟨i, j, rfl, rfl, hc, q⟩ := h
 have hc : (0 : Int) < j := hc
 obtain ⟨t, rfl⟩ := rx
 obtain ⟨t', rfl⟩ := ry
 obtain ⟨env, l, h1, h2, h3, h4, h5⟩ := hT
 refine floordiv_int (by omega) ?_ (.inr (PylongRoom.of I.nolimit (by have := hr.dp; show X.A.depth + 100 < _; omega) (SeerAt.of I.seer ht (by rw [I.ok.frames, h1]) h2 h3 h4 h5)))
 rw [Int.fdiv_eq_ediv_of_nonneg i (by omega)]
 exact ⟨.int (i / j), H, I.tok _, ⟨_, rfl⟩, q⟩
theorem jcb : OpR X (binaryOp .Mult) (rI IntMulOk fun i j => .int (i * j)) := opI fun _ _ _ _ _ _ _ hc q => mul_int q hc
theorem jfJ {i : Int} {m : Nat} (h : i.natAbs ≤ 2 ^ m) : Builtin.Int.intBits i ≤ m + 1 := by
 unfold Builtin.Int.intBits
 split
 · exact Nat.zero_le _
 · rename_i h0
   have hne : i.natAbs ≠ 0 := by
     intro z
     have : i = 0 := by omega
     simp [this] at h0
   have : i.natAbs.log2 < m + 1 := (Nat.log2_lt hne).mpr (Nat.lt_of_le_of_lt h (Nat.pow_lt_pow_right (by decide) (Nat.lt_succ_self m)))
   omega
theorem jqw {i j : Int} {m n : Nat} (hi : i.natAbs ≤ 2 ^ m) (hj : j.natAbs ≤ 2 ^ n) (h : m + n + 2 ≤ 134217728) : IntMulOk i j :=
 PyProof.Rows.mulOk_of_bits (jfJ hi) (jfJ hj) (by omega)
theorem jeT {Q : VK} {g : Int → Int → V} {i j : Int} {m n : Nat} (hi : i.natAbs ≤ 2 ^ m) (hj : j.natAbs ≤ 2 ^ n) (c : m + n + 2 ≤ 134217728) (h : Q (g i j) H) : rI IntMulOk g (.int i) (.int j) H Q := ⟨i, j, rfl, rfl, jqw hi hj c, h⟩
theorem jiY (ns : List Int) : preSum (fun i => ns.getD i 0) ns.length = ns.sum := by
 have key : ∀ (k : Nat), k ≤ ns.length → preSum (fun i => ns.getD i 0) k = (ns.take k).sum := by
   intro k
   induction k with
   | zero => intro _; rfl
   | succ k ih =>
     intro hk
     have e : ns.take (k + 1) = ns.take k ++ [ns[k]] := by rw [List.take_succ_eq_append_getElem (by omega)]
     show preSum (fun i => ns.getD i 0) k + ns.getD k 0 = _
     rw [ih (by omega), e, List.sum_append, List.getD_eq_getElem?_getD, List.getElem?_eq_getElem (by omega)]
     simp
 rw [key _ (Nat.le_refl _), List.take_length]
theorem jlW (hc : X.calm = true) : jch X (.builtin "sum") (fun xs H Q => ∃ p, ∃ ns : List Int, xs = [.ref p] ∧ SqL X.K H p (ns.map V.int) ∧ Q (.int ns.sum) H) := by
 intro pins s σ H xs us Q I r h
 obtain ⟨p, ns, rfl, hq, q⟩ := h
 obtain ⟨u, rfl, r1⟩ := vals1 r
 cases r1
 obtain ⟨its, rv, pl, hz⟩ := I.list hq
 have hl := rv.length
 rw [List.length_map] at hl
 refine call_sum_walkAnyS (wpAny_pyIter_list pl.isList ?_)
 have hne : p ≠ s.heap.objs.size := by
   obtain ⟨o, e, _⟩ := pl.isList
   exact Nat.ne_of_lt (Heap.lt_size e)
 have hlt : p < s.heap.objs.size := by obtain ⟨o, e, _⟩ := pl.isList; exact Heap.lt_size e
 refine ⟨_, _, _, _, _, _, _, fun i => ns.getD i 0, rfl, (Walks.list (A := X.A.in1) (I.ok.hd hc) _ p hne its.toArray).toS, ⟨⟨_, Heap.get?_push_size _ rfl, rfl, rfl⟩, pl.isList.at fun o e => Heap.get?_push_of_some _ e⟩, fun b hb => ?_, fun i v hv => ?_, fun s' t' hm => ?_⟩
 · rw [Heap.size_push]
   have hb' : b = s.heap.objs.size ∨ b = p := by simpa using hb
   rcases hb' with z | z
   · rw [z]; exact Nat.lt_succ_self _
   · rw [z]; exact Nat.lt_succ_of_lt hlt
 · obtain ⟨x, hx, rx⟩ := jdc rv (by simpa using hv)
   rw [List.getElem?_map] at hx
   cases e : ns[i]? with
   | none => rw [e] at hx; cases hx
   | some n =>
     rw [e] at hx
     cases hx
     obtain ⟨t, rfl⟩ := rx
     exact ⟨t, by show Value.int n t = Value.int (ns.getD i 0) t; rw [List.getD_eq_getElem?_getD, e]; rfl⟩
 · rw [List.size_toArray, ← hl, jiY]
   obtain ⟨h', g', d', tk', os'⟩ := s'
   have eg : g' = s.gens := hm.gens
   have ed : d' = s.drawn := hm.drawn
   have eo : os' = s.os := hm.os
   subst eg; subst ed; subst eo
   refine ⟨.int _, H, I.kept (t' := tk') fun b o e => hm.heap b o ?_ (Heap.get?_push_of_some _ e), ⟨_, rfl⟩, q⟩
   simpa using Nat.ne_of_lt (Heap.lt_size e)
theorem jea (K : PySem.W.Frag) (h : X.K = K) (hc : X.calm = true) : jch X (.builtin "sum") (fun xs H Q => ∃ p, ∃ ns : List Int, xs = [.ref p] ∧ SqL K H p (ns.map V.int) ∧ Q (.int ns.sum) H) := by subst h; exact jlW hc
def jqO : V → List V → Hp → VK → Prop := fun x vs H Q => ∃ a b, ∃ i : Nat, ∃ rest, x = .str (S a) ∧ vs = [.str (S b)] ∧ Builtin.Str.occurrences (S a) (S b) 0 (S a).length 1 = i :: rest ∧ Q (.int i) H
theorem jmi : MtR X "str.index" jqO := by
 intro pins s σ H x xs v us Q I rx rs h
 obtain ⟨a, b, i, rest, rfl, rfl, ho, q⟩ := h
 obtain ⟨t, rfl⟩ := rx
 obtain ⟨u, rfl, t', rfl⟩ := vals1 rs
 exact SC.index ho ⟨.int i, H, I.tok _, ⟨_, rfl⟩, q⟩
theorem jmp {n c : Nat} (h1 : 2 ≤ n) (h2 : n ≤ 4) (hc : c ∈ [97, 98, 99, 100].take n) : Builtin.Str.occurrences (S ([97, 98, 99, 100].take n)) (S [c]) 0 (S ([97, 98, 99, 100].take n)).length 1 = ([97, 98, 99, 100] : List Nat).idxOf c :: [] := by
 have hn : n = 2 ∨ n = 3 ∨ n = 4 := by omega
 have hm := List.mem_of_mem_take hc
 have hcs : c = 97 ∨ c = 98 ∨ c = 99 ∨ c = 100 := by simpa using hm
 rcases hn with rfl | rfl | rfl <;> rcases hcs with rfl | rfl | rfl | rfl <;> first | decide +kernel | (exact absurd hc (by decide))
end
section
variable {σ : St} {H : Hp} {Q : VK} {D : Ends} {K : PySem.W.Frag}
theorem jcW {p : Addr} {xs : List V} {i : Int} {v : V} (c : SqT K H p xs) (e : atI xs i = some v) (h : Q v H) : jqQ K (.ref p) (.int i) H Q := ⟨p, xs, i, v, rfl, rfl, c, e, h⟩
theorem jmx {g : Int → V} {i : Int} (h : Q (g i) H) : rU g (.int i) H Q := ⟨i, rfl, h⟩
theorem jrf {l : List Nat} {g : TG} {tb : TS} (Pv : Nat → St → Hp → Prop) (h0 : Pv 0 σ H)
   (hs : ∀ i c σ H, l[i]? = some c → Pv i σ H → g (.str (S [c])) σ H fun σ2 H2 => tb { D with nx := Pv (i + 1), ct := Pv (i + 1), bk := D.nx } σ2 H2) (hd : ∀ σ H, Pv l.length σ H → D.nx σ H) :
   joQ (Its l) g tb D σ H := by
 refine ⟨fun i m σ H => m = l.length - i ∧ i ≤ l.length ∧ Pv i σ H, ⟨l.length, by simp, Nat.zero_le _, h0⟩, ?_⟩
 rintro i m σ H ⟨rfl, hi, p⟩
 by_cases hlt : i < l.length
 · refine .inr ⟨hlt, Pv (i + 1), fun σ' H' p' => ⟨l.length - (i + 1), by omega, rfl, hlt, p'⟩, fun v H' y => ?_⟩
   obtain ⟨rfl, c, hc, rfl⟩ := y
   exact hs i c σ _ hc p
 · have e : i = l.length := by omega
   subst e
   exact .inl ⟨Nat.le_refl _, hd σ H p⟩
theorem jpJ {to ti : TE} {t : jqi} {v : V} {R : St → Hp → Prop} (h : to σ H fun o H1 => ti σ H1 fun i H2 => t o i v H2 fun H3 => R σ H3) : jrh to ti t v σ H R := h
theorem jnm {p : Addr} {xs : List V} {k : Int} {j : Nat} {v : V} {R : Hp → Prop} (c : H p = some (.lst xs)) (e : ixN xs.length k = some j) (h : R (upd H p (.lst (xs.set j v)))) : jpN (.ref p) (.int k) v H R := ⟨p, xs, k, j, rfl, rfl, c, e, h⟩
theorem jhK {n j : Nat} (h : j < n) : ixN n (j : Int) = some j := by
 unfold ixN
 rw [if_pos (by omega), if_pos (by omega)]
 simp
end
def sh (q : Rat) : List V := [.int q.num, .int (q.den : Int)]
end L2
namespace L2
open PySem PySem.Spec PyProof.Rows
section
variable {X : Cx} {N : List Str} {mp : List (Option Nat)} {sc : Scope}
theorem jod {i : Nat} {y : Str} {py spos : Pos} {elt tg iter : Expr} {ifs : List Expr} {pos : Pos} {wi : TI} {g : TG} {ti : TT} {te : TE} (hst : PG X (.Name y py) (jdf i)) (hc : X.calm = true) (S : jig X.env.scope X.N N mp sc) (hi : PI X tg iter wi)
   (hb : ∀ s3 H3 C fp, PG (blk X N sc s3 H3 C fp) tg g ∧ PIf (blk X N sc s3 H3 C fp) ifs ti ∧ PE (blk X N sc s3 H3 C fp) elt te)
   (hsw : swapsWith (.ListComp elt [⟨tg, iter, ifs, 0⟩] sc pos) (some (.Name y py)) spos.line X.env = pure true)
   (hs : ∀ x, foldedSetIterable iter X.env x = pure x := by intro _; rfl) : PS X (.Assign [.Name y py] (.ListComp elt [⟨tg, iter, ifs, 0⟩] sc pos) spos) (joS (jle mp wi g ti te) (jdf i)) := by
 intro pins s σ H DD I h
 rw [exec_Assign_Name_used _ _ _ _ hsw]
 refine wpAny_bind (wpAny_standAt (wpAny_bind ?_))
 show wpAny _ X.A (do let _ ← comprehension (.ListComp elt [⟨tg, iter, ifs, 0⟩] sc pos) sc X.env _ (newList []) false (eval iter X.env) (some (assign (.Name y py) X.env))) _ _ s
 refine wpAny_bind (wpAny_mono (wpAny_comprehension_free (use := some (assign (.Name y py) X.env)) (Q := fun _ s' => SP X pins DD .next s') rfl hs (jd6 (fun x hx hf => I.ok.has x.1 (S.free x hx hf))) S.kind S.own
   (thn (hi pins s σ H _ I h) fun v s1 h1 => thn h1 fun itv s2 h2 => ?_)) (fun _ s' hq => wpAny_pure (wpAny_pure hq)) fun _ _ e => e)
 obtain ⟨it, fp, tn, J, H2, rfl, I2, T, st2, f2, q⟩ := h2
 refine wpAny_newObj_type (wpAny_newFunctionEnv S.nocell (by intro y hy; simp at hy) (fun h₁ hns₁ hsb₁ => ?_) S.kind)
 dsimp only at hns₁ hsb₁ ⊢
 have hD : H2 s2.heap.objs.size = none := I2.hok.fresh (Nat.le_refl _)
 obtain ⟨W, ⟨m0, w0⟩, turn⟩ := q _ hD
 have I3 : Inv X pins σ (upd H2 s2.heap.objs.size (.lst [])) { s2 with heap := s2.heap.push { cls := .type "list", dict := none, data := .seq ([] : List Value).toArray } } :=
   I2.laid (t' := s2.toks) (o := .lst []) (fun b o e => Heap.get?_push_of_some _ e) (Nat.le_refl _) ⟨Nat.zero_le _, [], 0, .nil, Heap.get?_push_size _ rfl⟩
 have hDfp : s2.heap.objs.size ∉ fp := fun z => by
   obtain ⟨o, e, _⟩ := T.obj 0 _ st2 _ z
   exact absurd (Heap.lt_size e) (Nat.lt_irrefl _)
 have hf3 : ∀ b ∈ fp, jge X pins (upd H2 s2.heap.objs.size (.lst [])) b ∧ b < (s2.heap.push { cls := .type "list", dict := none, data := .seq ([] : List Value).toArray }).objs.size := fun b hb => by
   obtain ⟨o, e, _⟩ := T.obj 0 _ st2 b hb
   have hlt := Heap.lt_size e
   obtain ⟨f0, f1⟩ := f2 b hb
   refine ⟨⟨?_, f1⟩, ?_⟩
   · rw [jaw (Nat.ne_of_lt hlt)]; exact f0
   · rw [Heap.size_push]; exact Nat.lt_succ_of_lt hlt
 have IY := jl0 (N := N) (mp := mp) (sc := sc) (t' := s2.toks + ([] : List (Str × Value)).length) S I3 hf3 hns₁ hsb₁
 have old4 : ∀ b o, s2.heap.get? b = some o → h₁.get? b = some o := fun b o e => by
   have e3 : (s2.heap.push { cls := .type "list", dict := none, data := .seq ([] : List Value).toArray }).get? b = some o := Heap.get?_push_of_some _ e
   exact hsb₁.extBut b o (Nat.ne_of_lt (Heap.lt_size e3)) (Heap.get?_push_of_some _ e3)
 have st4 : tn 0 h₁ := T.keep _ _ _ st2 fun b _ o e => old4 b o e
 have fpY : ∀ {H' : Hp}, (∀ b ∈ fp, H' b = none) → ∀ b ∈ fp, jge (blk X N sc { s2 with heap := s2.heap.push { cls := .type "list", dict := none, data := .seq ([] : List Value).toArray } } (upd H2 s2.heap.objs.size (.lst [])) (s2.heap.push { cls := .type "list", dict := none, data := .seq ([] : List Value).toArray }).objs.size fp) [] H' b := fun hn b hb => by
   obtain ⟨x1, x2⟩ := hf3 b hb
   obtain ⟨f0, f1, f2', f3, f4, f5⟩ := x1
   exact ⟨hn b hb, Nat.ne_of_lt x2, fun z => (List.mem_cons.mp (I3.stkSub b z)).elim f1 f2', .inl hb, fun x c e => f4 x c (jdh e), fun p hp => absurd (show p ∈ ([] : List (Addr × Obj)) from hp) (by simp)⟩
 obtain ⟨hg, hif, he⟩ := id (hb { s2 with heap := s2.heap.push { cls := .type "list", dict := none, data := .seq ([] : List Value).toArray } } (upd H2 s2.heap.objs.size (.lst [])) (s2.heap.push { cls := .type "list", dict := none, data := .seq ([] : List Value).toArray }).objs.size fp)
 have loop : codeAny (model X.prog X.w) X.A (.compLoop (.ListComp elt [⟨tg, iter, ifs, 0⟩] sc pos) 0 (.ref it) (.ref s2.heap.objs.size) (compEnvC sc (jd2 sc.names X.env.cells) (s2.heap.push { cls := .type "list", dict := none, data := .seq ([] : List Value).toArray }).objs.size X.env))
     (compPost (model X.prog X.w) X.A X.xe (some (assign (.Name y py) X.env)) (fun _ s' => SP X pins DD .next s') (.ref s2.heap.objs.size) (s2.heap.push { cls := .type "list", dict := none, data := .seq ([] : List Value).toArray }).objs.size) { s2 with heap := h₁, toks := s2.toks + ([] : List (Str × Value)).length } := by
   refine jcu (fun n s' => ∃ i σ' H', Inv (blk X N sc { s2 with heap := s2.heap.push { cls := .type "list", dict := none, data := .seq ([] : List Value).toArray } } (upd H2 s2.heap.objs.size (.lst [])) (s2.heap.push { cls := .type "list", dict := none, data := .seq ([] : List Value).toArray }).objs.size fp) [] σ' H' s' ∧
     tn i s'.heap ∧ (∀ b ∈ fp, H' b = none) ∧ W i n σ' H') ?_ m0 ⟨0, _, _, IY, st4, fun b hb => (hf3 b hb).1.1, w0⟩
   rintro n s5 ⟨i, σ5, H5, I5, st5, fr5, w5⟩
   rcases turn i n σ5 H5 w5 with ⟨stop, qn⟩ | ⟨go, Nx, hN, step⟩
   · refine thn (T.done (blk X N sc { s2 with heap := s2.heap.push { cls := .type "list", dict := none, data := .seq ([] : List Value).toArray } } (upd H2 s2.heap.objs.size (.lst [])) (s2.heap.push { cls := .type "list", dict := none, data := .seq ([] : List Value).toArray }).objs.size fp) rfl rfl rfl hc i [] s5 σ5 H5 _ I5 (fpY fr5) st5 stop) fun r s6 ⟨hr, I6⟩ => ?_
     subst hr
     obtain ⟨m6, hn6, _⟩ := id I6.loc
     have hCeq : (blk X N sc { s2 with heap := s2.heap.push { cls := .type "list", dict := none, data := .seq ([] : List Value).toArray } } (upd H2 s2.heap.objs.size (.lst [])) (s2.heap.push { cls := .type "list", dict := none, data := .seq ([] : List Value).toArray }).objs.size fp).env.locals = (s2.heap.push { cls := .type "list", dict := none, data := .seq ([] : List Value).toArray }).objs.size := rfl
     rw [hCeq] at hn6
     have freeC : H5 (s2.heap.push { cls := .type "list", dict := none, data := .seq ([] : List Value).toArray }).objs.size = none := I6.free
     have fC : jge X pins H5 (s2.heap.push { cls := .type "list", dict := none, data := .seq ([] : List Value).toArray }).objs.size := I3.fpOk (Nat.le_refl _) freeC
     have un : Un (frs X.stack) fp (upd H2 s2.heap.objs.size (.lst [])) H5 (s2.heap.push { cls := .type "list", dict := none, data := .seq ([] : List Value).toArray }) s6.heap := I6.base
     have IX : Inv X pins σ H5 s6 := I3.call' (s' := s6) (ch := fp) I6.os un I6.hok I6.bare fun b hb => by
       obtain ⟨⟨f0, f1, f2', f3, f4, f5⟩, _⟩ := hf3 b hb
       exact ⟨f3, f1, f4, f5⟩
     obtain ⟨oC, esC, epC, eC, dC, rC⟩ := id hn6
     generalize hCC : (s2.heap.push { cls := .type "list", dict := none, data := .seq ([] : List Value).toArray }).objs.size = CC at *
     have IP := IX.pinned (fp := [CC]) (fun b hb => by
       have e : b = CC := by simpa using hb
       subst e; exact fC) (fun b hb => by
       have e : b = CC := by simpa using hb
       subst e; exact ⟨oC, eC, fun v z => by rw [dC] at z; cases z⟩)
     show wpAny _ X.A (assign (.Name y py) X.env (.ref s2.heap.objs.size)) _ _ s6
     refine thn (hst (pins ++ jff [CC] s6.heap) s6 σ H5 (.ref s2.heap.objs.size) (.ref s2.heap.objs.size) (fun σ' H' => DD.nx σ' H' ∧ H' = H5) IP rfl ⟨qn, rfl⟩) fun _ s7 ⟨σ7, H7, I7, q7, e7⟩ => ?_
     subst e7
     have eC7 : s7.heap.get? CC = some oC := (I7.pin (CC, oC) (List.mem_append_right _ (List.mem_append_right _ (jbX (by simp) eC)))).1
     refine ⟨m6, ⟨oC, esC, epC, eC7, dC, rC⟩, fun h8 hs8 => ⟨σ7, H7, ?_, q7⟩⟩
     exact I7.unpinned.turnedL (h' := h8) (t' := s7.toks) (ch := [CC]) (fun b o hb e => hs8.extBut b o (by simpa using hb) e) fun b hb => by
       have e : b = CC := by simpa using hb
       subst e; exact fC
   · refine thn (T.item (blk X N sc { s2 with heap := s2.heap.push { cls := .type "list", dict := none, data := .seq ([] : List Value).toArray } } (upd H2 s2.heap.objs.size (.lst [])) (s2.heap.push { cls := .type "list", dict := none, data := .seq ([] : List Value).toArray }).objs.size fp) rfl rfl rfl hc i [] s5 σ5 H5 _ I5 (fpY fr5) st5 go) fun r s6 ⟨u, hr, h6⟩ => ?_
     subst hr
     refine thn h6 fun _ s7 ⟨x, H7, I7, r7, y7, st7, fr7⟩ => ?_
     have I7' := I7.pinned (fpY fr7) (T.obj _ _ st7)
     refine thn (hg _ s7 σ5 H7 x u _ I7' r7 (step x H7 y7)) fun _ s8 ⟨σ8, H8, I8, q8⟩ => ?_
     refine thn (hif _ s8 σ8 H8 _ I8 q8) fun ok s9 ⟨H9, I9, q9⟩ => ?_
     have again : ∀ {σ' : St} {H' : Hp} {s' : Shared}, Inv (blk X N sc { s2 with heap := s2.heap.push { cls := .type "list", dict := none, data := .seq ([] : List Value).toArray } } (upd H2 s2.heap.objs.size (.lst [])) (s2.heap.push { cls := .type "list", dict := none, data := .seq ([] : List Value).toArray }).objs.size fp) ([] ++ jff fp s7.heap) σ' H' s' → Nx σ' H' →
         ∃ m, m < n ∧ ∃ i σ' H', Inv (blk X N sc { s2 with heap := s2.heap.push { cls := .type "list", dict := none, data := .seq ([] : List Value).toArray } } (upd H2 s2.heap.objs.size (.lst [])) (s2.heap.push { cls := .type "list", dict := none, data := .seq ([] : List Value).toArray }).objs.size fp) [] σ' H' s' ∧ tn i s'.heap ∧ (∀ b ∈ fp, H' b = none) ∧ W i m σ' H' := fun {σ' H' s'} J nx => by
       obtain ⟨m', hm, w'⟩ := hN σ' H' nx
       refine ⟨m', hm, i + 1, σ', H', J.unpinned, T.keep _ _ _ st7 fun b hb o e => (J.pin (b, o) (List.mem_append_right _ (List.mem_append_right _ (jbX hb e)))).1, fun b hb => ?_, w'⟩
       obtain ⟨o, e, d⟩ := T.obj _ _ st7 b hb
       exact (J.pin (b, o) (List.mem_append_right _ (List.mem_append_right _ (jbX hb e)))).2.1
     cases ok with
     | false =>
       rw [if_neg Bool.false_ne_true] at q9 ⊢
       exact again I9 q9
     | true =>
       rw [if_pos rfl] at q9 ⊢
       refine thn (he _ s9 σ8 H9 _ I9 q9) fun yv s10 ⟨y, H10, I10, ry, ys, hy, hl, nx⟩ => ?_
       refine thn (jih _ s10 σ8 H10 (.ref s2.heap.objs.size) [y] (.ref s2.heap.objs.size) [yv] (fun v H' => v = .non ∧ H' = upd H10 s2.heap.objs.size (.lst (ys ++ [y]))) I10 rfl (.cons ry .nil) ⟨_, ys, y, rfl, rfl, hy, hl, rfl, rfl⟩) fun _ s11 ⟨_, H11, I11, _, _, e11⟩ => ?_
       subst e11
       exact again I11 nx
 exact codeAny_compStart_list loop (T.self X.A 0 _ _ _ st4 loop)
theorem je0 (sc0 : Scope) (N0 N : List Str) (mp : List (Option Nat)) {i : Nat} {y : Str} {py spos : Pos} {elt tg iter : Expr} {ifs : List Expr} {pos : Pos} {wi : TI} {g : TG} {ti : TT} {te : TE} (hst : PG X (.Name y py) (jdf i)) (S : jig sc0 N0 N mp sc) (hi : PI X tg iter wi)
   (hb : ∀ s3 H3 C fp, PG (blk X N sc s3 H3 C fp) tg g ∧ PIf (blk X N sc s3 H3 C fp) ifs ti ∧ PE (blk X N sc s3 H3 C fp) elt te) (hc : X.calm = true := by rfl) (h0 : X.env.scope = sc0 := by rfl) (hN : X.N = N0 := by rfl)
   (hsw : swapsWith (.ListComp elt [⟨tg, iter, ifs, 0⟩] sc pos) (some (.Name y py)) spos.line X.env = pure true := by rfl)
   (hs : ∀ x, foldedSetIterable iter X.env x = pure x := by intro _; rfl) : PS X (.Assign [.Name y py] (.ListComp elt [⟨tg, iter, ifs, 0⟩] sc pos) spos) (joS (jle mp wi g ti te) (jdf i)) := by
 subst h0 hN
 exact jod hst hc S hi hb hsw hs
end
end L2
namespace L2
open PySem PySem.Spec PyProof.Rows
open Sem (wp)
theorem jkm {mask finger moves : Nat} {led plain : Bool} {hashes : Array Int} {t : SetTable} {o : Array Nat} (h : SetTable.laid mask finger moves led plain hashes = some (t, o)) : t.plain = plain := by
 unfold SetTable.laid at h
 revert h
 intro h
 simp only [Option.bind_eq_bind, Option.bind_eq_some_iff, Option.pure_def, Option.some.injEq, Prod.mk.injEq] at h
 obtain ⟨_, _, rfl, _⟩ := h
 rfl
theorem jgr {t : SetTable} {es : Array (Int × Value)} {wanted : Nat} (h : t.plain = false) : (relayAll t es wanted).2.1.plain = false := by
 unfold relayAll
 split
 · rename_i t' order e
   dsimp only
   split
   · have := jkm (show SetTable.laid _ _ _ t.led t.plain _ = some (t', order) from e)
     rw [this]; exact h
   · rfl
 · rfl
def tOf : Value → Str
 | .str x _ => x
 | _ => ⟨#[]⟩
structure jbv (prog : Program) (w : World) (h : Heap) (a : Addr) (L : List Str) : Prop where
 ex : ∃ o es ep t, h.get? a = some o ∧ o.ExactSet ∧ o.data = .set es ep t ∧ ElemsOf (jaz prog w) es.toList ∧ (∀ e ∈ es.toList, ∃ x tk, e.2 = Value.str x tk) ∧ (es.toList.map fun e => tOf e.2).Perm L ∧ es.size < scanBound ∧ t.fits es.size = true ∧ (L ≠ [] → t.plain = false)
theorem jbv.at {prog : Program} {w : World} {h h' : Heap} {a : Addr} {L : List Str} (x : jbv prog w h a L) (k : ∀ o, h.get? a = some o → h'.get? a = some o) : jbv prog w h' a L := by
 obtain ⟨o, es, ep, t, e, r⟩ := x.ex
 exact ⟨⟨o, es, ep, t, k o e, r⟩⟩
section
variable {prog : Program} {w : World} {A : Around} {E : Value → Shared → Prop} {s : Shared}
theorem jiw {a : Addr} {o : Obj} {es es' : Array (Int × Value)} {ep : Nat} {t t' : SetTable} {L : List Str} (ho : s.heap.get? a = some o) (hex : o.ExactSet) (hd : o.data = .set es ep t)
   (hel : ElemsOf (jaz prog w) es'.toList) (hs : ∀ e ∈ es'.toList, ∃ x tk, e.2 = Value.str x tk) (hp : (es'.toList.map fun e => tOf e.2).Perm L) (hb : es'.size < scanBound) (hf : t'.fits es'.size = true) (hpl : t'.plain = false) :
   (s.heap.update a (Obj.putSet es' t')).get? a = some { o with data := .set es' (ep + 1) t' } ∧ jbv prog w (s.heap.update a (Obj.putSet es' t')) a L := by
 have hg : (s.heap.update a (Obj.putSet es' t')).get? a = some { o with data := .set es' (ep + 1) t' } := by
   have := Heap.get?_update_self (Obj.putSet es' t') ho (by rw [putSet_of es' t' hd]; rfl)
   rw [putSet_of es' t' hd] at this; exact this
 exact ⟨hg, ⟨_, es', ep + 1, t', hg, hex, rfl, hel, hs, hp, hb, hf, fun _ => hpl⟩⟩
theorem jon {a : Addr} {L : List Str} {x : Str} {tk : Tok} {Q : Bool → Shared → Prop} (hS : jbv prog w s.heap a L) (hroom : L.length + 1 < scanBound)
   (h : ∀ (h' : Heap) (b : Bool), Heap.SameBut a s.heap h' → jbv prog w h' a (if x ∈ L then L else L ++ [x]) → Q b { s with heap := h' }) :
   wpAny (model prog w) A (setAddHashed a (.str x tk) ((jaz prog w).hash (.inr x))) Q E s := by
 obtain ⟨o, es, ep, t, ho, hex, hd, hel, hstr, hperm, hb, hf, hpl⟩ := hS.ex
 have hkey : (jaz prog w).is (.inr x) (.str x tk) = true := jdS prog w x tk
 have hsc : (Value.str x tk).scannable = true := rfl
 have hn : es.size = L.length := by have := hperm.length_eq; simpa using this
 have hb1 : es.size + 1 < scanBound := by rw [hn]; exact hroom
 have his : ∀ e ∈ es.toList, ((jaz prog w).is (.inr x) e.2 = true ↔ tOf e.2 = x) := fun e he => by
   obtain ⟨y, u, ey⟩ := hstr e he
   rw [ey]
   show jiq (.inr x) (.str y u) = true ↔ y = x
   constructor
   · intro z
     rcases jaP z with ⟨i, t, q, _⟩ | ⟨x', t, q, q2⟩
     · cases q
     · cases q; injection q2
   · rintro rfl; exact jhS _ _
 unfold setAddHashed setAddHashedIn
 refine wpAny_holding (wpAny_bind (wpAny_setState_of ho hd hf ?_))
 dsimp only
 rw [byScan_of hsc hb hel]
 simp only [↓reduceIte]
 unfold setAddByScan
 refine wpAny_bind ?_
 refine wpAny_bind (wpAny_rule ?_)
 refine wpAny_bind (wpAny_setScan_of hkey ho hd hf hel ?_)
 cases hr : List.findIdx? (fun e => (jaz prog w).is (.inr x) e.2) es.toList with
 | some j =>
   dsimp only
   obtain ⟨hj, hpj, _⟩ := List.findIdx?_eq_some_iff_getElem.mp hr
   have hm : x ∈ L := hperm.mem_iff.mp (List.mem_map.mpr ⟨_, List.getElem_mem hj, (his _ (List.getElem_mem hj)).mp hpj⟩)
   refine wpAny_pure (wpAny_pure ?_)
   have e : s = { s with heap := s.heap } := by cases s; rfl
   have := h s.heap false (Heap.SameBut.refl a s.heap) (by rw [if_pos hm]; exact hS)
   rw [e]; exact this
 | none =>
   dsimp only
   have hm : x ∉ L := fun z => by
     obtain ⟨e, he, q⟩ := List.mem_map.mp (hperm.mem_iff.mpr z)
     have := List.findIdx?_eq_none_iff.mp hr e he
     rw [(his e he).mpr q] at this; exact Bool.noConfusion this
   have hgw : ∀ (b : Bool) {s₁ : Shared} {Q' : Unit → Shared → Prop}, Q' () s₁ → wpAny (model prog w) A (match b with | true => rule "set.scan.the-table-gave-way" | false => pure ()) Q' E s₁ :=
     fun b s₁ Q' hq => by cases b <;> first | exact wpAny_pure hq | exact wpAny_rule hq
   have hlp := layNew_perm t es ((jaz prog w).hash (.inr x)) (.str x tk)
   have hlf := layNew_fits t es ((jaz prog w).hash (.inr x)) (.str x tk)
   generalize hL : layNew t es ((jaz prog w).hash (.inr x)) (.str x tk) = LL at hlp hlf ⊢
   obtain ⟨es1, t1, wasDummy, gave⟩ := LL
   dsimp only at hlp hlf ⊢
   rw [Array.toList_push] at hlp
   have hel1 : ElemsOf (jaz prog w) es1.toList := (hel.push hkey hsc).perm hlp
   have hstr1 : ∀ e ∈ es1.toList, ∃ y u, e.2 = Value.str y u := fun e he => by
     rcases List.mem_append.mp (hlp.mem_iff.mp he) with z | z
     · exact hstr e z
     · rw [List.mem_singleton] at z; subst z; exact ⟨x, tk, rfl⟩
   have hp1 : (es1.toList.map fun e => tOf e.2).Perm (L ++ [x]) := by
     refine (hlp.map fun e => tOf e.2).trans ?_
     rw [List.map_append]
     exact hperm.append_right _
   have hb1' : es1.size < scanBound := by rw [← Array.length_toList, hlp.length_eq, List.length_append, Array.length_toList]; simpa using hb1
   refine wpAny_bind (hgw _ ?_)
   have key : ∀ t2 : SetTable, t2.plain = false → t2.fits es1.size = true → ∀ {R : Option Bool → Shared → Prop}, (∀ h', Heap.SameBut a s.heap h' → jbv prog w h' a (L ++ [x]) → R (some true) { s with heap := h' }) →
       wpAny (model prog w) A (do
         storeSet a es1 t2
         if (!wasDummy && t2.tooFull) = true then do
             (match (relayAll t2 es1 (SetTable.grown es1.size)).2.2 with | true => rule "set.scan.the-table-gave-way" | false => pure ())
             storeSet a (relayAll t2 es1 (SetTable.grown es1.size)).1 (relayAll t2 es1 (SetTable.grown es1.size)).2.1
             pure (some true)
           else pure (some true)) R E s := by
     intro t2 hpl2 hf2 R hR
     refine wpAny_bind (wpAny_storeSet_of ho hd ?_ (fits_of_scanBound hb1'))
     obtain ⟨ho1, hS1⟩ := jiw (prog := prog) (w := w) ho hex hd hel1 hstr1 hp1 hb1' hf2 hpl2
     have hsb1 := Heap.SameBut.update s.heap a (Obj.putSet es1 t2)
     split
     · have hp := relayAll_perm t2 es1 (SetTable.grown es1.size)
       have hfr := relayAll_fits t2 es1 (SetTable.grown es1.size)
       have hplr := jgr (es := es1) (wanted := SetTable.grown es1.size) hpl2
       generalize hRl : relayAll t2 es1 (SetTable.grown es1.size) = Rl at hp hfr hplr ⊢
       obtain ⟨es2, t3, gave2⟩ := Rl
       dsimp only at hp hfr hplr ⊢
       have hel2 : ElemsOf (jaz prog w) es2.toList := hel1.perm hp
       have hstr2 : ∀ e ∈ es2.toList, ∃ y u, e.2 = Value.str y u := fun e he => hstr1 e (hp.mem_iff.mp he)
       have hp2 : (es2.toList.map fun e => tOf e.2).Perm (L ++ [x]) := (hp.map fun e => tOf e.2).trans hp1
       have hsz : es2.size = es1.size := by rw [← Array.length_toList, hp.length_eq, Array.length_toList]
       have hb2 : es2.size < scanBound := by rw [hsz]; exact hb1'
       refine wpAny_bind (hgw _ ?_)
       refine wpAny_bind (wpAny_storeSet_of ho1 rfl ?_ (fits_of_scanBound hb2))
       obtain ⟨_, hS2⟩ := jiw (prog := prog) (w := w) (s := { s with heap := s.heap.update a (Obj.putSet es1 t2) }) ho1 hex rfl hel2 hstr2 hp2 hb2 hfr hplr
       exact wpAny_pure (hR _ (hsb1.trans (Heap.SameBut.update _ a _)) hS2)
     · exact wpAny_pure (hR _ hsb1 hS1)
   have hend : ∀ h', Heap.SameBut a s.heap h' → jbv prog w h' a (L ++ [x]) → Q true { s with heap := h' } := by
     intro h' hsb hS'; refine h h' true hsb ?_; rw [if_neg hm]; exact hS'
   split
   · rename_i htp
     refine wpAny_bind ?_
     rw [hashByValue_scannable 8 hsc]
     refine wpAny_pure ?_
     have hk : plainKind (Value.str x tk) = false := rfl
     simp only [hk, Bool.false_eq_true, if_false]
     refine key { t1 with plain := false } rfl (SetTable.fits_plain_off hlf) ?_
     intro h' hsb hS'; exact wpAny_pure (hend h' hsb hS')
   · rename_i htp
     refine wpAny_bind (wpAny_pure ?_)
     simp only [↓reduceIte]
     refine key t1 (by simpa using htp) hlf ?_
     intro h' hsb hS'; exact wpAny_pure (hend h' hsb hS')
end
def jgy (val : Nat → Str) : Nat → List Str
 | 0 => []
 | i + 1 => if val i ∈ jgy val i then jgy val i else jgy val i ++ [val i]
theorem jha (val : Nat → Str) : ∀ i, (jgy val i).length ≤ i
 | 0 => Nat.le_refl _
 | i + 1 => by
   have := jha val i
   unfold jgy
   split
   · omega
   · rw [List.length_append, List.length_singleton]; omega
theorem jgW (val : Nat → Str) : ∀ i, (jgy val i).Nodup
 | 0 => by unfold jgy; simp
 | i + 1 => by
   have := jgW val i
   unfold jgy
   split
   · exact this
   · rename_i h
     rw [List.nodup_append]
     exact ⟨this, by simp, fun a ha b hb e => by
       have : b = val i := by simpa using hb
       subst this; subst e; exact h ha⟩
theorem jhQ (val : Nat → Str) {x : Str} : ∀ i, x ∈ jgy val i ↔ ∃ j, j < i ∧ val j = x
 | 0 => by unfold jgy; simp
 | i + 1 => by
   have ih := jhQ val (x := x) i
   unfold jgy
   split
   · rename_i h
     rw [ih]
     constructor
     · rintro ⟨j, h1, h2⟩; exact ⟨j, by omega, h2⟩
     · rintro ⟨j, h1, h2⟩
       by_cases e : j = i
       · subst e; subst h2
         exact (jhQ val j).mp h
       · exact ⟨j, by omega, h2⟩
   · rw [List.mem_append, ih]
     constructor
     · rintro (⟨j, h1, h2⟩ | z)
       · exact ⟨j, by omega, h2⟩
       · exact ⟨i, by omega, (by simpa using z : x = val i).symm⟩
     · rintro ⟨j, h1, h2⟩
       by_cases e : j = i
       · subst e; exact .inr (by simp [h2])
       · exact .inl ⟨j, by omega, h2⟩
section
variable {prog : Program} {w : World} {A : Around} {R : Result → Shared → Prop} {I : Addr} {fp wr : List Addr} {G : Array GenState → Array GenState → Prop} {n : Nat} {P : Nat → Value → Prop} {St : Nat → Shared → Prop}
theorem jfM (W : WalksS prog w A.in1 I fp wr G n P St) (S : Addr) (hSf : S ∉ fp) (val : Nat → Str) (hval : ∀ i v, P i v → ∃ t, v = .str (val i) t) (hb : n + 1 < scanBound) :
   ∀ (k i : Nat) (s : Shared), n - i = k → i ≤ n → St i s → jbv prog w s.heap S (jgy val i) →
     (∀ s', Moved (S :: wr) G s s' → jbv prog w s'.heap S (jgy val n) → R (.ok (.ret .none)) s') →
     codeAny (model prog w) A (.builtin "set.update.loop" ⟨[.ref S, .ref I], []⟩) R s := by
 have hSw : S ∉ wr := fun h => hSf (W.sub _ h)
 have hsub : ∀ b ∈ wr, b ∈ S :: wr := fun b hb => List.mem_cons_of_mem _ hb
 intro k
 induction k with
 | zero =>
   intro i s hk hi hst hS hR
   have hin : i = n := by omega
   subst hin
   refine codeAny_builtin F.entry_set_update_loop ?_
   rw [Around.under_plainId F.plain_set_update_loop _]
   show wpAny _ A.in1 (pyNext (.ref I) >>= _) _ _ s
   refine wpAny_bind (W.done s _ _ hst fun s' hm => ?_)
   show wpAny _ A.in1 (ret Value.none) _ _ s'
   exact wpAny_pure (hR s' (hm.mono hsub) (hS.at fun o e => hm.heap S _ hSw e))
 | succ k ih =>
   intro i s hk hi hst hS hR
   have hlt : i < n := by omega
   refine codeAny_builtin F.entry_set_update_loop ?_
   rw [Around.under_plainId F.plain_set_update_loop _]
   show wpAny _ A.in1 (pyNext (.ref I) >>= _) _ _ s
   refine wpAny_bind (W.item i s _ _ hlt hst fun v s' hP hst' hm => ?_)
   obtain ⟨t, rfl⟩ := hval i v hP
   have hS' : jbv prog w s'.heap S (jgy val i) := hS.at fun o e => hm.heap S _ hSw e
   show wpAny _ A.in1 (holding [Value.str (val i) t] (setAdd S (.str (val i) t)) >>= _) _ _ s'
   refine wpAny_bind (wpAny_holding ?_)
   unfold setAdd
   refine wpAny_holding ?_
   refine wpAny_bind ((jaz prog w).pyHash (k := .inr (val i)) (jdS _ _ _ _) ?_)
   have hroom : (jgy val i).length + 1 < scanBound := by have := jha val i; omega
   refine jon (s := { s' with toks := s'.toks + 1 }) hS' hroom fun h' b hsb hS2 => ?_
   have hSi : jbv prog w h' S (jgy val (i + 1)) := hS2
   refine wpAny_pure ⟨plainId_quiet F.plain_set_update_loop _, ih (i + 1) _ (by omega) hlt (W.frame _ s' _ _ hst' (Nat.le_succ _) fun b hb o e => ?_) hSi fun s'' hm'' hS'' => ?_⟩
   · rw [hsb.2 b (fun h : b = S => hSf (by rw [← h]; exact hb))]; exact e
   · refine hR s'' (Moved.trans W.gtrans ((hm.mono hsub).then_heap (Nat.le_succ _) fun b o hb e => ?_) hm'') hS''
     rw [hsb.2 b (fun h : b = S => hb (by rw [h]; exact List.mem_cons_self))]; exact e
end
section
variable {prog : Program} {w : World} {A : Around} {E : Value → Shared → Prop} {s : Shared}
theorem jbv.fresh {led : Bool} {a : Addr} {h : Heap} (e : h.get? a = some { cls := .type "set", dict := none, data := .set #[] 0 (.fresh 0 0 led) }) : jbv prog w h a [] :=
 ⟨_, #[], 0, _, e, ⟨rfl, rfl, rfl⟩, rfl, fun e he => by simp at he, fun e he => by simp at he, by simp, by decide, by rfl, fun z => absurd rfl z⟩
set_option maxHeartbeats 8000000 in
theorem jg6 {l : Addr} {items : Array Value} {val : Nat → Str} {Q : Value → Shared → Prop}
   (hh : A.handled = none) (hl : s.heap.IsList l items) (hi : ∀ (i : Nat) (v : Value), items[i]? = some v → ∃ t, v = Value.str (val i) t) (hb : items.size + 1 < scanBound)
   (h : ∀ (h' : Heap) (tk : Nat), jbv prog w h' s.heap.objs.size (jgy val items.size) →
     (∀ b o, b < s.heap.objs.size → s.heap.get? b = some o → h'.get? b = some o) → Q (.ref s.heap.objs.size) { s with heap := h', toks := tk }) :
   wpAny (model prog w) A (call (.type "set") [.ref l]) Q E s := by
 obtain ⟨c, tl, hmro⟩ := F.called_set.mro
 have hmade := F.called_set.made
 have hsub := F.called_set.sub
 refine wpAny_call (codeAny_of_tree ?_)
 show wpAny _ _ (callAny (.type "set") _) _ _ _
 refine wpAny_pure ⟨Code.quiet_builtin _ (by decide +kernel), codeAny_builtin F.entry_type_call ?_⟩
 rw [Around.under_plain (weight_type_call_type "set" [.ref l] []) rfl]
 have h1 := F.called_set.notType
 have h2 := F.called_set.canCreate
 have hct := F.typeCall_set_1 (.ref l)
 repeat (any_goals (first | assumption | wp_step))
 refine codeAny_mono (code_set_new_1 (.ref l) (E := E) (Q₁ := fun obj s₁ => ∃ led : Bool, obj = .ref s.heap.objs.size ∧ s₁ = { s with heap := s.heap.push { cls := .type "set", dict := none, data := .set #[] 0 (.fresh 0 0 led) } }) fun led => ⟨led, rfl, rfl⟩) fun r s₁ hr => ?_
 cases r with
 | error e => exact hr
 | ok fl =>
   cases fl with
   | ret obj =>
     obtain ⟨led, rfl, rfl⟩ := hr
     have hS : (s.heap.push { cls := .type "set", dict := none, data := .set #[] 0 (.fresh 0 0 led) }).get? s.heap.objs.size = some { cls := .type "set", dict := none, data := .set #[] 0 (.fresh 0 0 led) } := Heap.get?_push_size _ rfl
     have hT : Shared.TypeIs { s with heap := s.heap.push { cls := .type "set", dict := none, data := .set #[] 0 (.fresh 0 0 led) } } (.ref s.heap.objs.size) "set" := ⟨_, hS, rfl⟩
     have hli := F.called_set.init.lookup
     have hbi := F.called_set.init.bind (.ref s.heap.objs.size)
     repeat (any_goals (first | assumption | wp_step))
     refine codeAny_mono (codeAny_call_builtin (R := wants (fun r s₂ => r = .none ∧ ∃ h' tk, s₂ = { s with heap := h', toks := tk } ∧ jbv prog w h' s.heap.objs.size (jgy val items.size) ∧
         (∀ b o, b < s.heap.objs.size → s.heap.get? b = some o → h'.get? b = some o)) E) F.called_set.init.plain F.entry_set_init (check_set_init_1 hT ?_)) fun r₂ s₂ hr₂ => ?_
     · obtain ⟨ol, hol, hcl, nl, hdl⟩ := hl
       obtain ⟨ocls, odict, odata, oslots⟩ := ol
       simp only at hcl hdl
       subst hcl; subst hdl
       have hol' : (s.heap.push { cls := .type "set", dict := none, data := .set #[] 0 (.fresh 0 0 led) }).get? l = some { cls := .type "list", dict := odict, data := .seq items nl, slots := oslots } := Heap.get?_push_of_some _ hol
       have hsls := F.sub_list_set
       have hslf := F.sub_list_frozenset
       have hne : (Value.type "list" == Value.type "dict") = false := by decide
       have hl1 : (s.heap.push { cls := .type "set", dict := none, data := .set #[] 0 (.fresh 0 0 led) }).IsList l items := ⟨_, hol', rfl, nl, rfl⟩
       unfold Builtin.«set.__init__» noKeywords Builtin.Frozenset.updateFrom
       generalize hPI : pyIter = PI
       wp_walk
       subst hPI
       refine wpAny_pyIter_list hl1 ?_
       refine wpAny_bind (wpAny_runValue ?_)
       have hlS : l < s.heap.objs.size := Heap.lt_size hol
       have hh3 : A.in1.in1.in1.handled = none := by simp [hh]
       have hneI : l ≠ (s.heap.push { cls := .type "set", dict := none, data := .set #[] 0 (.fresh 0 0 led) }).objs.size := by
         rw [Heap.size_push]; exact Nat.ne_of_lt (Nat.lt_succ_of_lt hlS)
       have hSf : s.heap.objs.size ∉ [(s.heap.push { cls := .type "set", dict := none, data := .set #[] 0 (.fresh 0 0 led) }).objs.size, l] := by
         rw [Heap.size_push]; simp only [List.mem_cons, List.mem_singleton, List.not_mem_nil, or_false, not_or]
         exact ⟨Nat.ne_of_lt (Nat.lt_succ_self _), Nat.ne_of_gt hlS⟩
       refine jfM ((Walks.list hh3 _ l hneI items).toS) s.heap.objs.size
         hSf val hi hb (items.size - 0) 0 _ (by omega) (Nat.zero_le _)
         ⟨⟨_, Heap.get?_push_size _ rfl, rfl, rfl⟩, (hl1.push _)⟩ ?hS0 ?hR
       case hS0 =>
         have hget : ((s.heap.push { cls := .type "set", dict := none, data := .set #[] 0 (.fresh 0 0 led) }).push { cls := .type "list_iterator", data := .fields #[.ref l, .int 0 0] }).get? s.heap.objs.size
             = some { cls := .type "set", dict := none, data := .set #[] 0 (.fresh 0 0 led) } := Heap.get?_push_of_some _ hS
         exact jbv.fresh hget
       case hR =>
         intro s' hm hS'
         obtain ⟨h', g', d', tk', os'⟩ := s'
         have eg : g' = s.gens := hm.gens
         have ed : d' = s.drawn := hm.drawn
         have eo : os' = s.os := hm.os
         subst eg; subst ed; subst eo
         show wpAny _ _ _ _ _ _
         refine wpAny_pure ?_
         show wpAny _ _ (ret Value.none) _ _ _
         refine wpAny_pure ⟨rfl, h', tk', rfl, hS', fun b o hb e => ?_⟩
         have hb1 : b ≠ s.heap.objs.size := Nat.ne_of_lt hb
         have hb2 : b ≠ (s.heap.push { cls := .type "set", dict := none, data := .set #[] 0 (.fresh 0 0 led) }).objs.size := by
           rw [Heap.size_push]; exact Nat.ne_of_lt (Nat.lt_succ_of_lt hb)
         exact hm.heap b o (by simp only [List.mem_cons, List.mem_singleton, List.not_mem_nil, or_false, not_or]; exact ⟨hb1, hb2⟩) (Heap.get?_push_of_some _ (Heap.get?_push_of_some _ e))
     · cases r₂ with
       | error e => exact hr₂
       | ok fl₂ =>
         cases fl₂ with
         | ret r =>
           obtain ⟨rfl, h', tk, rfl, hS', hk'⟩ := hr₂
           repeat (any_goals (first | assumption | wp_step))
           exact h _ _ hS' hk'
         | _ => exact hr₂.elim
   | _ => exact hr.elim
end
end L2
namespace L2
open PySem PySem.Spec PyProof.Rows
open Sem (wp)
section
variable {prog : Program} {w : World} {A : Around} {E : Value → Shared → Prop} {s : Shared}
theorem jjs {a : Addr} {L : List Str} {Q : List Value → Shared → Prop} (hh : A.handled = none) (hS : jbv prog w s.heap a L) (h2 : 2 ≤ L.length) (hz : L.length ≤ 1000)
   (hQ : ∀ (h' : Heap) (d' : Drawn) (tk : Nat) (vs : List Value), s.heap.objs.size ≤ h'.objs.size → (∀ b o, s.heap.get? b = some o → h'.get? b = some o) → (vs.map tOf).Perm L → (∀ v ∈ vs, ∃ x t, v = Value.str x t) → Q vs { s with heap := h', drawn := d', toks := tk }) :
   wpAny (model prog w) A (collect (.ref a)) Q E s := by
 obtain ⟨o, es, ep, t, ho, hex, hd, hel, hstr, hperm, hb, hf, hpl⟩ := hS.ex
 have hn : es.size = L.length := by have := hperm.length_eq; simpa using this
 have hlt : a < s.heap.objs.size := Heap.lt_size ho
 have hpl' : t.plain = false := hpl (by intro z; subst z; simp at h2)
 unfold collect
 refine wpAny_bind (wpAny_runValue (codeAny_builtin F.entry_proto_collect ?_))
 rw [Around.under_plainId F.plain_proto_collect _]
 show wpAny _ A.in1 (newList [] >>= fun l => again (.builtin "list.__iadd__" ⟨[l, .ref a], []⟩)) _ _ s
 refine wpAny_bind (wpAny_newObj_type ?_)
 refine wpAny_pure ⟨plainId_quiet F.plain_list_iadd _, codeAny_builtin F.entry_list_iadd ?_⟩
 rw [Around.under_plainId F.plain_list_iadd _]
 have hS1 : jeX (s.heap.push { cls := .type "list", data := .seq ([] : List Value).toArray }) a es ep t := ⟨⟨o, Heap.get?_push_of_some _ ho, hex, hd⟩, hf⟩
 have hT1 := jeX.typeIs (s := { s with heap := s.heap.push { cls := .type "list", data := .seq ([] : List Value).toArray } }) hS1
 show wpAny _ A.in1 (Builtin.List.listExtendWith (.ref s.heap.objs.size) (.ref a) (.ref s.heap.objs.size)) _ _ _
 unfold Builtin.List.listExtendWith
 refine wpAny_bind (wpAny_typeOf hT1 ?_)
 have h1 : Builtin.List.listSameRef (.ref s.heap.objs.size) (.ref a) = false := by simp [Builtin.List.listSameRef]; exact Nat.ne_of_gt hlt
 have h2' : (Value.type "set" == Value.type "list") = false := by decide
 have h3 : (Value.type "set" == Value.type "tuple") = false := by decide
 simp only [h1, h2', h3, Bool.or_false, Bool.false_eq_true, if_false]
 refine wpAny_bind (jkd hS1 hpl' (by omega) (by omega) fun I fp P St h' d' hW hst hI hIf hfp hk hvs => ?_)
 have hk0 : ∀ b o, s.heap.get? b = some o → h'.get? b = some o := fun b o e => hk b o (Heap.get?_push_of_some _ e)
 have hS2 : jeX h' a es ep t := hS1.at fun o e => hk a o e
 have hT2 := jeX.typeIs (s := { s with heap := h', drawn := d' }) hS2
 have hL2 : h'.get? s.heap.objs.size = some { cls := .type "list", data := .seq ([] : List Value).toArray } := hk _ _ (Heap.get?_push_size _ rfl)
 refine wpAny_bind (wpAny_holding ?_)
 unfold Builtin.List.listLengthHint
 refine wpAny_bind (wpAny_specialOf hT2 F.slot_set_len.lookup ?_)
 dsimp only
 rw [show splitId "set.__len__" = some ("set", "__len__") from by decide +kernel]
 dsimp only
 refine wpAny_bind (wpAny_isInstance hT2 sub_set_self ?_)
 refine wpAny_ite_split (fun z => absurd z (by decide)) (fun _ => ?_)
 refine wpAny_ite_split (fun _ => ?_) (fun z => absurd (by rfl) z)
 refine wpAny_bind (wpAny_typeOf hT2 ?_)
 refine wpAny_pure ?_
 show wpAny _ A.in1 (rule "list.extend.makes-room" >>= fun _ => Builtin.List.listTouch (.ref s.heap.objs.size) >>= fun _ =>
   again (.builtin "list.extend.loop" ⟨[.ref s.heap.objs.size, .ref I, .ref s.heap.objs.size], []⟩)) _ _ _
 refine wpAny_bind (wpAny_rule ?_)
 refine wpAny_bind ?_
 show wpAny _ A.in1 (updateSeq s.heap.objs.size (·.push .none) >>= fun _ => updateSeq s.heap.objs.size (·.pop)) _ _ _
 refine wpAny_bind (wpAny_updateSeq hL2 rfl ?_)
 have hS₂ := Heap.get?_update_self (Obj.mapSeq (·.push Value.none)) hL2 rfl
 refine wpAny_updateSeq hS₂ rfl ?_
 have hS₃ := Heap.get?_update_self (Obj.mapSeq (·.pop)) hS₂ rfl
 have oth : ∀ b o, b ≠ s.heap.objs.size → h'.get? b = some o → ((h'.update s.heap.objs.size (Obj.mapSeq (·.push Value.none))).update s.heap.objs.size (Obj.mapSeq (·.pop))).get? b = some o :=
   fun b o hb e => (Heap.get?_update_other _ _ (Ne.symm hb)).trans ((Heap.get?_update_other _ _ (Ne.symm hb)).trans e)
 have hsz1 : (s.heap.push { cls := .type "list", data := .seq ([] : List Value).toArray }).objs.size = s.heap.objs.size + 1 := Heap.size_push ..
 have hSf : s.heap.objs.size ∉ fp := fun z => by
   rcases hfp _ z with y | y
   · exact Nat.ne_of_gt hlt y
   · have y' : s.heap.objs.size + 1 ≤ s.heap.objs.size := by rw [← hsz1]; exact y
     exact absurd y' (Nat.not_succ_le_self _)
 have W := (hW A.in1 (by simpa using hh)).toS
 refine wpAny_pure ⟨plainId_quiet F.plain_extend_loop _, codeAny_extend_loopS W (by rw [sizeLine_eq]; omega) s.heap.objs.size hSf _ es.size 0 _ _ _ rfl (Nat.zero_le _)
   ((hW A.in1 (by simpa using hh)).frame 0 _ _ hst fun b hb o e => oth b o (fun z => hSf (z ▸ hb)) e) hS₃ (ItemsOf.nil P) fun s' acc' c' hm hS' hacc => ?_⟩
 show wpAny _ A (load s.heap.objs.size >>= _) _ _ s'
 refine wpAny_bind (wpAny_load hS' ?_)
 obtain ⟨h3', g3, d3, tk3, os3⟩ := s'
 have eg : g3 = s.gens := hm.gens
 have ed : d3 = d' := hm.drawn
 have eo : os3 = s.os := hm.os
 subst eg; subst ed; subst eo
 refine wpAny_pure ?_
 obtain ⟨a1, a2⟩ := hacc
 have pv := hvs acc'.toList (by simpa using a1) (fun j v e => a2 j v (by simpa using e))
 refine hQ h3' d3 tk3 acc'.toList (Nat.le_of_lt (Heap.lt_size hS')) (fun b o e => ?_) ?_ (fun v hv => ?_)
 · have hbl := Heap.lt_size e
   refine hm.heap b o ?_ (oth b o (Nat.ne_of_lt hbl) (hk0 b o e))
   have hI' : s.heap.objs.size + 1 ≤ I := by rw [← hsz1]; exact hI
   simp only [List.mem_cons, List.mem_singleton, List.not_mem_nil, or_false, not_or]
   exact ⟨Nat.ne_of_lt hbl, Nat.ne_of_lt (Nat.lt_of_lt_of_le (Nat.lt_succ_of_lt hbl) hI')⟩
 · refine (pv.map tOf).trans ?_
   rw [List.map_map]
   exact hperm
 · obtain ⟨e, he, rfl⟩ := List.mem_map.mp (pv.mem_iff.mp hv)
   exact hstr e he
theorem jpX : ∀ v : Value, tOf v = strOf v := fun v => by cases v <;> rfl
theorem jjf {vs : List Value} (h : ∀ v ∈ vs, ∃ x t, v = Value.str x t) : StrsAre vs (vs.map tOf) := by
 have := strsAre_map vs h
 rwa [show vs.map strOf = vs.map tOf from List.map_congr_left fun v _ => (jpX v).symm] at this
theorem jkG {a : Addr} {L : List Str} {Q : Value → Shared → Prop} (hh : A.handled = none) (hS : jbv prog w s.heap a L) (h2 : 2 ≤ L.length) (h64 : L.length < 64)
   (hQ : ∀ (h' : Heap) (d' : Drawn) (tk : Nat) (r : Addr) (out : Array Value) (c : Nat) (ys : List Str), (∀ b o, s.heap.get? b = some o → h'.get? b = some o) → s.heap.objs.size ≤ r → h'.get? r = some (seqObj "list" out c) → StrsAre out.toList ys → ys.Perm L → sortedS ys = true →
     Q (.ref r) { s with heap := h', drawn := d', toks := tk }) : wpAny (model prog w) A (call (.builtin "sorted") [.ref a]) Q E s := by
 refine Calls.call_function_entry kind_sorted plain_sorted entry_sorted (args_sorted1 _) ?_
 unfold Builtin.«sorted»
 refine wpAny_bind (m := checkCount "sorted" 1 1 _) (wpAny_pure ?_)
 refine wpAny_bind (jjs (by simpa using hh) hS h2 (by omega) fun h1 d1 tk vs hle hk hp hstr => ?_)
 have hl : vs.length = L.length := by have := hp.length_eq; simpa using this
 have hA := jjf hstr
 refine wpAny_bind (wpAny_newList ?_ (by rw [sizeLine_eq]; omega))
 have hoL : (h1.push (seqObj "list" vs.toArray 0)).get? h1.objs.size = some (seqObj "list" vs.toArray 0) := Heap.get?_push_size _ rfl
 show wpAny _ _ _ _ _ { s with heap := h1.push (seqObj "list" vs.toArray 0), drawn := d1, toks := tk }
 refine wpAny_bind (wpAny_holding (wpAny_call_entry slot_list_sort ⟨_, hoL, rfl⟩ entry_list_sort (list_sort_treeK strKind_oneLt hoL hA.keysOf (fun v₁ v₂ rest e => keyKind_strs (by rw [← e]; exact hA)) (by omega) fun st' a1 a2 => ⟨_, rfl, ?_⟩) (args_list_sort _)))
 obtain ⟨ys, y1, y2, y3⟩ := sorted_out_str hA a1 a2
 obtain ⟨e, he⟩ := sortedHeap_at (out := (arrOf st').map (·.2)) hoL
 refine wpAny_pure ⟨_, rfl, hQ _ d1 tk h1.objs.size _ e ys (fun b o q => ?_) hle he y1 (y2.trans hp) y3⟩
 have hb := hk b o q
 have hlt := Heap.lt_size hb
 rw [sortedHeap_old (Nat.ne_of_lt hlt) (by rw [Heap.size_push]; exact Nat.lt_succ_of_lt hlt)]
 exact Heap.get?_push_of_some _ hb
end
section
variable {X : Cx} {pins : List (Addr × Obj)} {σ : List (Option V)} {H : Hp} {s : Shared}
def jnW (P : Program) (w : World) (a : Addr) (L : List Str) : HO := .ext fun h => jbv P w h a L
theorem jnW.ok {P : Program} {w : World} {H : Hp} {h : Heap} {a : Addr} {L : List Str} (x : jbv P w h a L) : jbW P w H h a (jnW P w a L) := by
 obtain ⟨o, es, ep, t, ho, _⟩ := id x.ex
 exact ⟨x, ⟨o, ho⟩, fun h1 h2 y k => y.at k⟩
theorem Inv.keptD {h' : Heap} {t' : Nat} {d' : Drawn} (I : Inv X pins σ H s) (k : ∀ b u, s.heap.get? b = some u → h'.get? b = some u) : Inv X pins σ H { s with heap := h', drawn := d', toks := t' } :=
 I.call (g' := s.gens) (t' := t') (d' := d') (ch := []) (Un.kept k) (I.hok.kept k) I.bare fun b z => absurd z (by simp)
theorem Inv.laidD {h' : Heap} {t' : Nat} {d' : Drawn} {a : Addr} {o : HO} (I : Inv X pins σ H s) (k : ∀ b u, s.heap.get? b = some u → h'.get? b = some u) (hp : s.heap.objs.size ≤ a) (new : jbW X.prog X.w (upd H a o) h' a o) :
   Inv X pins σ (upd H a o) { s with heap := h', drawn := d', toks := t' } := by
 have I1 : Inv X pins σ H { s with heap := h', drawn := d', toks := t' } := I.keptD k
 exact I1.track (I.fpOk hp (I.hok.fresh hp)) new
def jky (ts : List (List Nat)) : List Str := jgy (fun i => S (ts.getD i [])) ts.length
theorem jm1 (ts : List (List Nat)) : (jky ts).length ≤ ts.length := jha _ _
theorem jgE (ts : List (List Nat)) : (jky ts).Nodup := jgW _ _
theorem jd5 {ts : List (List Nat)} {x : Str} : x ∈ jky ts ↔ ∃ t ∈ ts, S t = x := by
 unfold jky
 rw [jhQ]
 constructor
 · rintro ⟨j, hj, e⟩
   exact ⟨ts[j], List.getElem_mem hj, by rw [← e, List.getD_eq_getElem?_getD, List.getElem?_eq_getElem hj]; rfl⟩
 · rintro ⟨t, ht, e⟩
   obtain ⟨j, hj, rfl⟩ := List.mem_iff_getElem.mp ht
   exact ⟨j, hj, by rw [← e, List.getD_eq_getElem?_getD, List.getElem?_eq_getElem hj]; rfl⟩
theorem jlC (K : PySem.W.Frag) (P : Program) (w : World) (hK : X.K = K) (hP : X.prog = P) (hw : X.w = w) (hc : X.calm = true) : jch X (.type "set") (fun xs H Q => ∃ p, ∃ ts : List (List Nat), xs = [.ref p] ∧ SqL K H p (ts.map fun l => V.str (S l)) ∧ ts.length ≤ 1000 ∧ ∀ r, H r = none → Q (.ref r) (upd H r (jnW P w r (jky ts)))) := by
 subst hK hP hw
 intro pins s σ H xs us Q I r h
 obtain ⟨p, ts, rfl, hq, hz, q⟩ := h
 obtain ⟨u, rfl, r1⟩ := vals1 r
 cases r1
 obtain ⟨its, rv, pl, _⟩ := I.list hq
 have hl := rv.length
 rw [List.length_map] at hl
 refine jg6 (val := fun i => S (ts.getD i [])) (I.ok.hd hc) pl.isList (fun i v hv => ?_) (by rw [List.size_toArray]; unfold scanBound; omega) fun h' tk hS hk => ?_
 · obtain ⟨x, hx, rx⟩ := jdc rv (by simpa using hv)
   rw [List.getElem?_map] at hx
   cases e : ts[i]? with
   | none => rw [e] at hx; cases hx
   | some t =>
     rw [e] at hx
     cases hx
     obtain ⟨tk, rfl⟩ := rx
     exact ⟨tk, by show Value.str (S t) tk = Value.str (S (ts.getD i [])) tk; rw [List.getD_eq_getElem?_getD, e]; rfl⟩
 · have e : jgy (fun i => S (ts.getD i [])) its.toArray.size = jky ts := by rw [List.size_toArray, ← hl]; rfl
   rw [e] at hS
   exact ⟨.ref _, _, I.laid (t' := tk) (fun b o e => hk b o (Heap.lt_size e) e) (Nat.le_refl _) (jnW.ok hS), rfl, q _ I.fresh⟩
theorem jh6 : ∀ {vs : List Value} {ys : List Str}, StrsAre vs ys → Vals (ys.map V.str) vs
 | _, _, .nil => .nil
 | _, _, .cons y t h => .cons ⟨t, rfl⟩ (jh6 h)
theorem jiG (P : Program) (w : World) (hP : X.prog = P) (hw : X.w = w) (hc : X.calm = true) : jch X (.builtin "sorted") (fun xs H Q => ∃ p L, xs = [.ref p] ∧ H p = some (jnW P w p L) ∧ 2 ≤ L.length ∧ L.length < 64 ∧ ∀ r ys, H r = none → ys.Perm L → sortedS ys = true → Q (.ref r) (upd H r (.lst (ys.map V.str)))) := by
 subst hP hw
 intro pins s σ H xs us Q I r h
 obtain ⟨p, L, rfl, hp, h2, h64, q⟩ := h
 obtain ⟨u, rfl, r1⟩ := vals1 r
 cases r1
 obtain ⟨hS, _⟩ := I.hok p _ hp
 have hS : jbv X.prog X.w s.heap p L := hS
 refine jkG (I.ok.hd hc) hS h2 h64 fun h' d' tk r out c ys hk hr hget hA hpm hso => ?_
 have hl : ys.length = L.length := hpm.length_eq
 refine ⟨.ref r, _, I.laidD (t' := tk) (d' := d') (o := .lst (ys.map V.str)) hk hr ⟨by rw [List.length_map, sizeLine_eq]; omega, out.toList, c, jh6 hA, ?_⟩, rfl, q r ys (I.hok.fresh hr) hpm hso⟩
 rw [hget]; try rfl
theorem Inv.byFr {h' : Heap} {t' : Nat} {m : Str → Option Value} (I : Inv X pins σ H s) (hm : s.heap.Ns X.env.locals m) (F : Fr (Att.noObjs s.heap) X.env.locals h' m) (N : News (Att.noObjs s.heap) X.env.locals h' (jhv (Att.noObjs s.heap) s.heap X.env.locals)) :
   (∀ b o, b ≠ X.env.locals → s.heap.get? b = some o → h'.get? b = some o) ∧ Inv X pins σ H { s with heap := h', toks := t' } := by
 have keep : ∀ b o, b ≠ X.env.locals → s.heap.get? b = some o → h'.get? b = some o := fun b o hb e => (N (b, o) (jf9 hb (Att.noObjs_get _ _) e)).1
 refine ⟨keep, ?_⟩
 refine I.step (g' := s.gens) (d' := s.drawn) (t' := t') (ch := []) (fun _ z => nomatch z) (fun b o hb _ _ e _ => keep b o hb e) (fun b o hb _ _ e _ => ⟨o.slots, keep b o hb e⟩) (fun _ _ _ _ n => n) (fun b o _ e => ?_)
   (fun _ _ e => e) (fun _ _ _ e => e) (fun b ps e => ⟨#[], by rw [e]; simp⟩) (fun m' hm' => ?_) (fun b u e => ?_) I.bare
 · by_cases hb : b = X.env.locals
   · subst hb
     obtain ⟨o', _, _, e', _⟩ := F.ns
     exact ⟨o', e'⟩
   · exact ⟨o, keep b o hb e⟩
 · have : m' = m := by
     obtain ⟨o, es, ep, e, d, k, f⟩ := hm
     obtain ⟨o', es', ep', e', d', k', f'⟩ := hm'
     rw [e] at e'; cases e'
     rw [d] at d'; cases d'
     funext x
     rw [← f x, ← f' x]
   subst this
   exact F.ns
 · have nb : ∀ c v, H c = some v → c ≠ X.env.locals := fun c v q z => by rw [z, I.free] at q; cases q
   refine (I.hok b u e).stay (fun c v hc q => keep c v ?_ q) (fun _ q => q) fun _ _ q => q
   rcases hc with z | z
   · rw [z]; exact nb b u e
   · exact nb c _ z
theorem jlk {h : Heap} {L : Addr} {m : Str → Option Value} (n : h.Ns L m) : Fr (Att.noObjs h) L h m := Att.fr_all n
theorem jjC {prog : Program} {w : World} {A : Around} {h₀ : Heap} {L : Addr} {m : Str → Option Value} {need : List (Addr × Obj)} {s : Shared} {x : Str} {t : Tok} (hz : x.length ≤ sizeLine) (F : Fr h₀ L s.heap m) (N : News h₀ L s.heap need) :
   wpAny (model prog w) A (call (.builtin "len") [.str x t]) (KskEnd h₀ L m need (x.length : Int) s) (fun _ _ => False) s := by
 refine PySem.P.len_str ?_ ?_
 · rw [sizeLine_eq] at hz; omega
 · exact ⟨s.heap, _, _, rfl, rfl, F, N⟩
section
variable {prog : Program} {w : World} {A : Around} {E : Value → Shared → Prop} {s : Shared} {h₀ : Heap} {L l : Addr} {m : Str → Option Value} {news : List (Addr × Obj)} {b : Bool} {vs : List Value} {Q : Value → Shared → Prop}
end
def cOf (v : Value) : List Nat := (tOf v).cps.toList
theorem jhF : ∀ {ts : List (List Nat)} {its : List Value}, Vals (ts.map fun l => V.str (S l)) its → its.map cOf = ts ∧ ∀ v ∈ its, ∃ t, v = Value.str (S (cOf v)) t
 | [], _, .nil => ⟨rfl, fun v hv => by simp at hv⟩
 | t :: ts, _, .cons a b => by
   obtain ⟨tk, rfl⟩ := a
   obtain ⟨h1, h2⟩ := jhF b
   have e : cOf (Value.str (S t) tk) = t := jgm t
   refine ⟨by rw [List.map_cons, h1, e], fun v hv => ?_⟩
   rcases List.mem_cons.mp hv with z | z
   · subst z; exact ⟨tk, by rw [e]⟩
   · exact h2 v z
theorem jfu : ∀ {out : List Value}, (∀ v ∈ out, ∃ t, v = Value.str (S (cOf v)) t) → Vals ((out.map cOf).map fun l => V.str (S l)) out
 | [], _ => .nil
 | v :: out, h => .cons (h v List.mem_cons_self) (jfu fun u hu => h u (List.mem_cons_of_mem _ hu))
theorem jh5 : bootBuiltins "sorted" = some (.builtin "sorted") := by decide +kernel
theorem jlb : bootBuiltins "max" = some (.builtin "max") := by decide +kernel
theorem jfe {f : Str} {id : String} {e : Expr} {te : TE} {p q kp pos : Pos} {pins : List (Addr × Obj)} {s : Shared} {σ : St} {H : Hp} {Q : Value → Shared → Prop} {R : V → Hp → Prop} (he : PE X e te) (hg : Gl X f) (hm : X.mg f = none) (hb : bootBuiltins f = some (.builtin id)) (hn : f ≠ "__name__") (hd : (f == ("__debug__" : Str)) = false) (hgl : Gl X "len") (hml : X.mg "len" = none)
   (h1 : starEach [e] X.env = [(false, eval e X.env)]) (I : Inv X pins σ H s) (h : te σ H R)
   (k : ∀ x H1 u s1, Inv X pins σ H1 s1 → RelV x u → R x H1 → wpAny (model X.prog X.w) X.A (call (.builtin id) [u] [(Str.ofString "key", .builtin "len")]) Q X.xe s1) :
   wpAny (model X.prog X.w) X.A (eval (.Call (.Name f p) [e] [⟨some "key", .Name "len" q, kp⟩] pos) X.env) Q X.xe s := by
 refine wpAny_Call_Name_kw (jdL I hg hm hb ?_ hn hd)
 have ha : PA X [e] (jmt te jqe) := jaa he jab (by rw [h1]; rfl)
 refine callWith_kw (thn (ha pos pins s σ H (fun vs H1 => match vs with | [x] => R x H1 | _ => False) I h) fun us s1 ⟨vs, H1, I1, r, q1⟩ => ?_) (by rw [h1]; rfl) (by rw [h1]; rfl) rfl rfl
 match vs, r, q1 with
 | [x], r, q1 =>
   obtain ⟨u, rfl, r1⟩ := vals1 r
   show wpAny _ _ (evalAll [do let v ← eval (.Name "len" q) X.env; standAt pos; pure v]) _ _ s1
   refine wpAny_evalAll_cons (wpAny_bind (jdL I1 hgl hml boot_len (wpAny_bind (wpAny_standAt (wpAny_pure (wpAny_evalAll_nil ?_))))))
   exact k x H1 u s1 I1 r1 q1
def jln (K : PySem.W.Frag) (te : TE) : TE := fun σ H Q => te σ H fun x H1 => ∃ a, ∃ ts : List (List Nat), x = .ref a ∧ SqL K H1 a (ts.map fun l => V.str (S l)) ∧ ts ≠ [] ∧ (∀ t ∈ ts, t.length ≤ 1000) ∧ ∀ t, t ∈ ts → (∀ u ∈ ts, u.length ≤ t.length) → Q (.str (S t)) H1
theorem jk2 (K : PySem.W.Frag) (hK : X.K = K) (hc : X.calm = true) {e : Expr} {te : TE} {p q kp pos : Pos} (he : PE X e te) (hg : Gl X "max") (hm : X.mg "max" = none) (hgl : Gl X "len") (hml : X.mg "len" = none) (h1 : starEach [e] X.env = [(false, eval e X.env)]) :
   PE X (.Call (.Name "max" p) [e] [⟨some "key", .Name "len" q, kp⟩] pos) (jln K te) := by
 subst hK
 intro pins s σ H Q I h
 refine jfe he hg hm jlb (by decide) (by decide) hgl hml h1 I h fun x H1 u s1 I1 rx hx => ?_
 obtain ⟨a, ts, rfl, hq, hne, hz, qq⟩ := hx
 cases rx
 obtain ⟨its, rv, pl, _⟩ := I1.list hq
 have hl := rv.length
 rw [List.length_map] at hl
 obtain ⟨c1, c2⟩ := jhF rv
 obtain ⟨m, hn, _⟩ := id I1.loc
 obtain ⟨oa, ea, ca, na, da⟩ := pl.isList
 have haL : a ≠ X.env.locals := fun z => by
   obtain ⟨o, es, ep, e, d, _⟩ := hn
   rw [← z, ea] at e; cases e
   rw [da] at d; cases d
 have hpos : 0 < its.length := by
   have := List.length_pos_iff.mpr hne
   omega
 refine kmb_max (kf := fun i => ((ts.getD i []).length : Int)) (I1.ok.hd hc) (jlk hn) jjP (fun h F' N' => ⟨oa, (N' (a, oa) (jf9 haL (Att.noObjs_get _ _) ea)).1, ca, na, da⟩) hpos (fun i v hv h tk own F' N' => ?_) fun i v h' tk hv hbest F' N' => ?_
 · have hvm := List.mem_of_getElem? hv
   obtain ⟨t, ev⟩ := c2 v hvm
   have hlen : (S (cOf v)).length = (cOf v).length := jaD _
   have hm' : cOf v ∈ ts := by rw [← c1]; exact List.mem_map.mpr ⟨v, hvm, rfl⟩
   have ei : ts.getD i [] = cOf v := by rw [← c1, List.getD_eq_getElem?_getD, List.getElem?_map, hv]; rfl
   have := jjC (prog := X.prog) (w := X.w) (A := X.A.in1) (s := { s1 with heap := h, toks := tk }) (x := S (cOf v)) (t := t) (by rw [hlen]; exact small (hz _ hm')) F' N'
   rw [hlen, ← ev, ← ei] at this
   exact this
 · have hvm := List.mem_of_getElem? hv
   obtain ⟨t, ev⟩ := c2 v hvm
   have hm' : cOf v ∈ ts := by rw [← c1]; exact List.mem_map.mpr ⟨v, hvm, rfl⟩
   have ei : ts.getD i [] = cOf v := by rw [← c1, List.getD_eq_getElem?_getD, List.getElem?_map, hv]; rfl
   obtain ⟨_, I2⟩ := I1.byFr (t' := tk) hn F' N'
   refine ⟨.str (S (cOf v)), H1, I2, ⟨t, ev⟩, qq _ hm' fun u hu => ?_⟩
   obtain ⟨j, hj, rfl⟩ := List.mem_iff_getElem.mp hu
   have := (hbest j (by omega)).1
   have ej : ts.getD j [] = ts[j] := by rw [List.getD_eq_getElem?_getD, List.getElem?_eq_getElem hj]; rfl
   rw [ei, ej] at this
   omega
section
variable {σ : St} {H : Hp} {Q : VK} {K : PySem.W.Frag} {te : TE}
theorem jmV (h : te σ H fun x H1 => ∃ a, ∃ ts : List (List Nat), x = .ref a ∧ SqL K H1 a (ts.map fun l => V.str (S l)) ∧ ts ≠ [] ∧ (∀ t ∈ ts, t.length ≤ 1000) ∧ ∀ t, t ∈ ts → (∀ u ∈ ts, u.length ≤ t.length) → Q (.str (S t)) H1) : jln K te σ H Q := h
end
end
end L2
namespace L2
open PySem PySem.Spec PyProof.Rows
theorem joB {a b : List Nat} : eqV (V.str (S a)) (V.str (S b)) = decide (a = b) := by
 show (S a == S b) = _
 by_cases h : a = b
 · subst h; simp
 · rw [decide_eq_false h]
   exact beq_eq_false_iff_ne.mpr fun z => h (jm4.mp z)
theorem joH {t : List Nat} {ts : List (List Nat)} : inV (V.str (S t)) (ts.map fun l => V.str (S l)) = decide (t ∈ ts) := by
 unfold inV
 rw [List.any_map, Bool.eq_iff_iff, List.any_eq_true, decide_eq_true_eq]
 constructor
 · rintro ⟨u, hu, h⟩
   have h' : eqV (V.str (S u)) (V.str (S t)) = true := h
   rw [joB, decide_eq_true_eq] at h'
   subst h'; exact hu
 · intro h
   refine ⟨t, h, ?_⟩
   show eqV (V.str (S t)) (V.str (S t)) = true
   rw [joB]; simp
theorem jjF (ts : List (List Nat)) : (ts.map fun l => V.str (S l)).all jgl = true := by
 rw [List.all_eq_true]
 intro v hv
 obtain ⟨l, _, rfl⟩ := List.mem_map.mp hv
 rfl
section
variable {X : Cx} {H : Hp} {Q : VK} {K : PySem.W.Frag}
theorem jhh {p : Addr} {t : List Nat} {ts : List (List Nat)} (c : SqL K H p (ts.map fun l => V.str (S l))) (h : Q (.bl (!decide (t ∈ ts))) H) : rIn K true (.str (S t)) (.ref p) H Q :=
 ⟨p, _, rfl, .inl c, rfl, jjF ts, by rw [joH]; exact h⟩
def jph (K : PySem.W.Frag) : V → List V → Hp → VK → Prop := fun x vs H Q => ∃ p t, ∃ ts : List (List Nat), x = .ref p ∧ vs = [.str (S t)] ∧ SqL K H p (ts.map fun l => V.str (S l)) ∧ t ∈ ts ∧ Q (.int (ts.idxOf t : Nat)) H
theorem jcT (K : PySem.W.Frag) (hK : X.K = K) : MtR X "list.index" (jph K) := by
 subst hK
 intro pins s σ H x xs v us Q I rx rs h
 obtain ⟨p, t, ts, rfl, rfl, hq, hm, q⟩ := h
 cases rx
 obtain ⟨u, rfl, ru⟩ := vals1 rs
 obtain ⟨its, rv, pl, hz⟩ := I.list hq
 have hl := rv.length
 rw [List.length_map] at hl
 rw [List.length_map, sizeLine_eq] at hz
 obtain ⟨o, ho, hc, n, hd⟩ := pl.isList
 have hj : ts.idxOf t < ts.length := List.idxOf_lt_length_of_mem hm
 obtain ⟨oc, odd, odt, osl⟩ := o
 simp only at hc hd
 subst hc; subst hd
 have item : ∀ m (h1 : m < its.toArray.size) (h2 : m < ts.length), eqU (.str (S t)) its.toArray[m] = decide (ts[m] = t) := fun m h1 h2 => by
   have h3 : m < its.length := by rw [List.size_toArray] at h1; exact h1
   have e1 : its[m]? = some its.toArray[m] := by rw [List.getElem?_eq_getElem h3]; rfl
   obtain ⟨x, hx, r⟩ := jdc rv e1
   rw [List.getElem?_map, List.getElem?_eq_getElem h2] at hx
   cases hx
   rw [jiJ r rfl, joB]
 refine call_meets PySem.F.slot_list_index ⟨_, ho, rfl⟩ PySem.F.entry_list_index (PySem.F.args_list_index_2 _ _)
   (SeqAt.list_indexAt p its.toArray n odd osl u (eqU (.str (S t))) (ts.idxOf t) (by rw [List.size_toArray]; omega) (by omega) ?_ ?_) ⟨ho, fun y hy => jdD ru rfl rv (jjF ts) y (by simpa using hy), ?_⟩
 · rw [item _ _ hj, List.getElem_idxOf]; simp
 · intro m h1 h2
   rw [item m h1 (by omega)]
   refine decide_eq_false fun z => ?_
   have := List.not_of_lt_findIdx (p := fun x => x == t) (xs := ts) (i := m) h2
   rw [z] at this
   simp at this
 · exact ⟨.int _, H, I.tok _, ⟨_, rfl⟩, q⟩
theorem jg2 {p : Addr} {t : List Nat} {ts : List (List Nat)} (c : SqL K H p (ts.map fun l => V.str (S l))) (hm : t ∈ ts) (h : Q (.int (ts.idxOf t : Nat)) H) : jph K (.ref p) [.str (S t)] H Q := ⟨p, t, ts, rfl, rfl, c, hm, h⟩
end
end L2
namespace Wr
abbrev Tx := List Nat
def Beg (ws : List Tx) (t : Tx) : Prop := ∃ w ∈ ws, t <+: w
def stF (ws : List Tx) (row : Tx) : Tx := ((List.range (row.length + 1)).findSome? fun k => if (ws.any fun w => (row.drop k).isPrefixOf w) = true then some (row.drop k) else none).getD []
theorem jjq {ws : List Tx} {t : Tx} : (ws.any fun w => t.isPrefixOf w) = true ↔ Beg ws t := by
 rw [List.any_eq_true]
 constructor
 · rintro ⟨w, h1, h2⟩; exact ⟨w, h1, List.isPrefixOf_iff_prefix.mp h2⟩
 · rintro ⟨w, h1, h2⟩; exact ⟨w, h1, List.isPrefixOf_iff_prefix.mpr h2⟩
theorem jfG {ws : List Tx} (h : ws ≠ []) : Beg ws [] := by
 cases ws with
 | nil => exact absurd rfl h
 | cons w r => exact ⟨w, List.mem_cons_self, List.nil_prefix⟩
theorem jku {α : Type} {f : Nat → Option α} : ∀ {n : Nat} {r : α}, (List.range n).findSome? f = some r → ∃ k, k < n ∧ f k = some r ∧ ∀ j, j < k → f j = none := by
 intro n
 induction n with
 | zero => intro r h; simp at h
 | succ n ih =>
   intro r h
   rw [List.range_succ, List.findSome?_append] at h
   cases e : (List.range n).findSome? f with
   | some q =>
     rw [e] at h
     cases h
     obtain ⟨k, h1, h2, h3⟩ := ih e
     exact ⟨k, by omega, h2, h3⟩
   | none =>
     rw [e] at h
     simp at h
     exact ⟨n, by omega, h, fun j hj => List.findSome?_eq_none_iff.mp e j (List.mem_range.mpr hj)⟩
theorem jhr {t row : Tx} (h : t <:+ row) : row.drop (row.length - t.length) = t := (List.suffix_iff_eq_drop.mp h).symm
theorem jhb {ws : List Tx} (hw : ws ≠ []) (row : Tx) : ∃ k, k ≤ row.length ∧ stF ws row = row.drop k ∧ Beg ws (row.drop k) ∧ ∀ j, j < k → ¬ Beg ws (row.drop j) := by
 unfold stF
 cases e : (List.range (row.length + 1)).findSome? fun k => if (ws.any fun w => (row.drop k).isPrefixOf w) = true then some (row.drop k) else none with
 | none =>
   have := List.findSome?_eq_none_iff.mp e row.length (List.mem_range.mpr (by omega))
   rw [if_pos (jjq.mpr (by rw [List.drop_length]; exact jfG hw))] at this
   cases this
 | some q =>
   obtain ⟨k, h1, h2, h3⟩ := jku e
   by_cases hb : (ws.any fun w => (row.drop k).isPrefixOf w) = true
   · rw [if_pos hb] at h2
     cases h2
     refine ⟨k, by omega, rfl, jjq.mp hb, fun j hj hb' => ?_⟩
     have := h3 j hj
     rw [if_pos (jjq.mpr hb')] at this
     cases this
   · rw [if_neg hb] at h2; cases h2
theorem jco {ws : List Tx} (hw : ws ≠ []) (row : Tx) : stF ws row <:+ row := by
 obtain ⟨k, _, e, _⟩ := jhb hw row
 rw [e]; exact List.drop_suffix _ _
theorem jcH {ws : List Tx} (hw : ws ≠ []) (row : Tx) : Beg ws (stF ws row) := by
 obtain ⟨k, _, e, h, _⟩ := jhb hw row
 rw [e]; exact h
theorem jlT {ws : List Tx} (hw : ws ≠ []) {row t : Tx} (h1 : t <:+ row) (h2 : Beg ws t) : t.length ≤ (stF ws row).length := by
 obtain ⟨k, hk, e, _, hn⟩ := jhb hw row
 rw [e, List.length_drop]
 have hl := h1.length_le
 rcases Nat.lt_or_ge (row.length - t.length) k with z | z
 · exact absurd (by rw [jhr h1]; exact h2) (hn _ z)
 · omega
theorem jhc {ws : List Tx} (hw : ws ≠ []) {row s : Tx} (h1 : s <:+ row) (h2 : Beg ws s) (h3 : ∀ t, t <:+ row → Beg ws t → t.length ≤ s.length) : stF ws row = s := by
 have a := jlT hw h1 h2
 have b := h3 _ (jco hw row) (jcH hw row)
 have e : (stF ws row).length = s.length := by omega
 rw [← jhr h1, ← jhr (jco hw row), e]
theorem jjI {ws : List Tx} (hw : ws ≠ []) {s : Tx} (h : Beg ws s) : stF ws s = s :=
 jhc hw List.suffix_rfl h fun _ ht _ => ht.length_le
theorem jgQ {a b row : Tx} (h1 : a <:+ row) (h2 : b <:+ row) (h : a.length ≤ b.length) : a <:+ b := List.suffix_of_suffix_length_le h1 h2 h
def Apart (ws : List Tx) : Prop := ∀ w ∈ ws, ∀ w' ∈ ws, w <:+: w' → w = w'
theorem jmP {ws : List Tx} (ha : Apart ws) {row w : Tx} (hw : w ∈ ws) (h : w <:+ row) : stF ws row = w := by
 have hne : ws ≠ [] := by intro z; subst z; simp at hw
 refine jhc hne h ⟨w, hw, List.prefix_rfl⟩ fun t ht hb => ?_
 obtain ⟨w', hw', hp⟩ := hb
 rcases Nat.le_total t.length w.length with z | z
 · exact z
 · have h1 : w <:+ t := jgQ h ht z
   have := ha w hw w' hw' (h1.isInfix.trans hp.isInfix)
   subst this
   exact hp.length_le
theorem jhR {ws : List Tx} {s : Tx} (hb : Beg ws s) (hn : s ∉ ws) : ∃ w ∈ ws, ∃ c ∈ w, s ++ [c] <+: w := by
 obtain ⟨w, hw, p, hp⟩ := hb
 cases p with
 | nil => rw [List.append_nil] at hp; subst hp; exact absurd hw hn
 | cons c r => exact ⟨w, hw, c, by rw [← hp]; simp, r, by rw [← hp]; simp⟩
end Wr
namespace Wr
def dot : List Int → (Nat → Rat) → Rat
 | [], _ => 0
 | a :: r, x => (a : Rat) * x 0 + dot r (fun i => x (i + 1))
theorem jjk : ∀ {r : List Int} {x y : Nat → Rat}, (∀ i, i < r.length → x i = y i) → dot r x = dot r y
 | [], _, _, _ => rfl
 | a :: r, x, y, h => by
   show (a : Rat) * x 0 + dot r _ = (a : Rat) * y 0 + dot r _
   rw [h 0 (by simp), jjk (r := r) (x := fun i => x (i + 1)) (y := fun i => y (i + 1)) fun i hi => h (i + 1) (by simpa using hi)]
theorem jiU : ∀ {r : List Int} {i : Nat} {v : Int} {x : Nat → Rat}, i < r.length → dot (r.set i v) x = dot r x + ((v : Rat) - (r.getD i 0 : Int)) * x i
 | [], _, _, _, h => by simp at h
 | a :: r, 0, v, x, _ => by
   show (v : Rat) * x 0 + dot r _ = (a : Rat) * x 0 + dot r _ + ((v : Rat) - (a : Int)) * x 0
   grind
 | a :: r, i + 1, v, x, h => by
   have ih := jiU (r := r) (i := i) (v := v) (x := fun i => x (i + 1)) (by simpa using h)
   show (a : Rat) * x 0 + dot (r.set i v) _ = (a : Rat) * x 0 + dot r _ + ((v : Rat) - ((r.getD i 0 : Int) : Rat)) * x (i + 1)
   rw [ih]; grind
theorem jfj : ∀ {r : List Int} {i : Nat} {t : Rat} {x : Nat → Rat}, dot r (fun j => if j = i then t else x j) = dot r x + ((r.getD i 0 : Int) : Rat) * (t - x i)
 | [], i, t, x => by simp [dot]; grind
 | a :: r, 0, t, x => by
   have e : dot r (fun j => (fun j => if j = 0 then t else x j) (j + 1)) = dot r fun j => x (j + 1) := jjk fun j _ => by simp
   show (a : Rat) * (if 0 = 0 then t else x 0) + dot r (fun j => (fun j => if j = 0 then t else x j) (j + 1)) = (a : Rat) * x 0 + dot r (fun j => x (j + 1)) + (a : Rat) * (t - x 0)
   rw [e]
   simp
   grind
 | a :: r, i + 1, t, x => by
   have ih := jfj (r := r) (i := i) (t := t) (x := fun j => x (j + 1))
   have e : dot r (fun j => (fun j => if j = i + 1 then t else x j) (j + 1)) = dot r (fun j => if j = i then t else x (j + 1)) := jjk fun j _ => by
     by_cases h : j = i <;> simp [h]
   show (a : Rat) * (if 0 = i + 1 then t else x 0) + dot r (fun j => (fun j => if j = i + 1 then t else x j) (j + 1)) = (a : Rat) * x 0 + dot r (fun j => x (j + 1)) + ((r.getD i 0 : Int) : Rat) * (t - x (i + 1))
   rw [e, ih]
   simp
   grind
def comb (p e : Int) (r q : List Int) : List Int := List.zipWith (fun own oth => own * p - oth * e) r q
theorem je7 {p e : Int} : ∀ {r q : List Int} {x : Nat → Rat}, r.length = q.length → dot (comb p e r q) x = (p : Rat) * dot r x - (e : Rat) * dot q x
 | [], [], x, _ => by simp [comb, dot]; grind
 | [], _ :: _, _, h => by simp at h
 | _ :: _, [], _, h => by simp at h
 | a :: r, b :: q, x, h => by
   have ih := je7 (p := p) (e := e) (r := r) (q := q) (x := fun i => x (i + 1)) (by simpa using h)
   show ((a * p - b * e : Int) : Rat) * x 0 + dot (comb p e r q) _ = (p : Rat) * ((a : Rat) * x 0 + dot r _) - (e : Rat) * ((b : Rat) * x 0 + dot q _)
   rw [ih, Rat.intCast_sub, Rat.intCast_mul, Rat.intCast_mul]
   grind
theorem jjU {p e : Int} {r q : List Int} (h : r.length = q.length) : (comb p e r q).length = r.length := by
 unfold comb; rw [List.length_zipWith]; omega
theorem jhM {p e : Int} : ∀ {r q : List Int} (j : Nat), r.length = q.length → (comb p e r q).getD j 0 = r.getD j 0 * p - q.getD j 0 * e
 | [], [], j, _ => by simp [comb]
 | [], _ :: _, _, h => by simp at h
 | _ :: _, [], _, h => by simp at h
 | a :: r, b :: q, 0, h => by simp [comb]
 | a :: r, b :: q, j + 1, h => by
   have ih := jhM (p := p) (e := e) (r := r) (q := q) j (by simpa using h)
   simpa [comb] using ih
theorem jfq {g : Int} (hg : g ≠ 0) : ∀ {r : List Int} {x : Nat → Rat}, (∀ a ∈ r, g ∣ a) → (g : Rat) * dot (r.map (· / g)) x = dot r x
 | [], x, _ => by simp [dot]
 | a :: r, x, h => by
   have ih := jfq hg (r := r) (x := fun i => x (i + 1)) fun b hb => h b (List.mem_cons_of_mem _ hb)
   have ea : g * (a / g) = a := Int.mul_ediv_cancel' (h a List.mem_cons_self)
   have ea' : (g : Rat) * ((a / g : Int) : Rat) = (a : Rat) := by rw [← Rat.intCast_mul, ea]
   show (g : Rat) * (((a / g : Int) : Rat) * x 0 + dot (r.map (· / g)) _) = (a : Rat) * x 0 + dot r _
   grind
theorem jgz : ∀ {r : List Int} {c : Int} {x : Nat → Rat}, dot (r ++ [c]) x = dot r x + (c : Rat) * x r.length
 | [], c, x => by simp [dot]; grind
 | a :: r, c, x => by
   have ih := jgz (r := r) (c := c) (x := fun i => x (i + 1))
   show (a : Rat) * x 0 + dot (r ++ [c]) _ = (a : Rat) * x 0 + dot r _ + (c : Rat) * x (r.length + 1)
   rw [ih]; grind
theorem jiz : ∀ {n : Nat} {x : Nat → Rat}, dot (List.replicate n 0) x = 0
 | 0, _ => rfl
 | n + 1, x => by
   show ((0 : Int) : Rat) * x 0 + dot (List.replicate n 0) _ = 0
   rw [jiz]; simp; grind
theorem jgG : ∀ {r : List Int} {x : Nat → Rat}, (∀ j, ((r.getD j 0 : Int) : Rat) * x j ≤ 0) → dot r x ≤ 0
 | [], _, _ => by simp [dot]
 | a :: r, x, h => by
   have ih := jgG (r := r) (x := fun i => x (i + 1)) fun j => by simpa using h (j + 1)
   have h0 : (a : Rat) * x 0 ≤ 0 := by simpa using h 0
   show (a : Rat) * x 0 + dot r _ ≤ 0
   grind
theorem jfI {r : List Int} {x : Nat → Rat} {i : Nat} (h : ∀ j, j ≠ i → ((r.getD j 0 : Int) : Rat) * x j ≤ 0) : dot r x ≤ ((r.getD i 0 : Int) : Rat) * x i := by
 have e := jfj (r := r) (i := i) (t := 0) (x := x)
 have n := jgG (r := r) (x := fun j => if j = i then 0 else x j) fun j => by
   by_cases hj : j = i
   · simp [hj]
   · simpa [hj] using h j hj
 grind
theorem jpt {r : List Int} {x : Nat → Rat} {i : Nat} (h : ∀ j, j ≠ i → ((r.getD j 0 : Int) : Rat) * x j = 0) : dot r x = ((r.getD i 0 : Int) : Rat) * x i := by
 have a := jfI (r := r) (x := x) (i := i) fun j hj => by rw [h j hj]; exact Rat.le_refl
 have b := jfI (r := r) (x := fun j => - x j) (i := i) fun j hj => by have := h j hj; grind
 have e : ∀ (r : List Int) (x : Nat → Rat), dot r (fun j => - x j) = - dot r x := by
   intro r
   induction r with
   | nil => intro x; simp [dot]
   | cons a r ih =>
     intro x
     show (a : Rat) * (- x 0) + dot r (fun j => - x (j + 1)) = - ((a : Rat) * x 0 + dot r _)
     rw [ih fun j => x (j + 1)]; grind
 rw [e] at b
 grind
structure Good (N : Nat) (v : Nat → Rat) (i : Nat) (r : List Int) : Prop where
 len : r.length = N
 off : ∀ j, j ≠ i → r.getD j 0 ≤ 0
 pot : 0 < dot r v
theorem jjj {a : Int} (h : a ≤ 0) : (a : Rat) ≤ 0 := by
 have := Rat.intCast_le_intCast.mpr h
 simpa using this
theorem jb1 {a : Int} (h : 0 < a) : (0 : Rat) < (a : Rat) := by
 have := Rat.intCast_lt_intCast.mpr h
 simpa using this
theorem Good.own {N : Nat} {v : Nat → Rat} {i : Nat} {r : List Int} (hv : ∀ j, 0 ≤ v j) (g : Good N v i r) : 0 < r.getD i 0 := by
 have h := jfI (r := r) (x := v) (i := i) fun j hj => by
   have a := jjj (g.off j hj)
   have b := hv j
   have := Rat.mul_nonneg (a := -((r.getD j 0 : Int) : Rat)) (b := v j) (by grind) b
   grind
 have p := g.pot
 rcases Int.lt_or_le 0 (r.getD i 0) with z | z
 · exact z
 · have a := jjj z
   have b := hv i
   have := Rat.mul_nonneg (a := -((r.getD i 0 : Int) : Rat)) (b := v i) (by grind) b
   grind
theorem Good.comb {N : Nat} {v : Nat → Rat} {i p : Nat} {r q : List Int} (hv : ∀ j, 0 ≤ v j) (hr : Good N v i r) (hq : Good N v p q) (hne : p ≠ i) : Good N v i (comb (q.getD p 0) (r.getD p 0) r q) ∧ (Wr.comb (q.getD p 0) (r.getD p 0) r q).getD p 0 = 0 := by
 have hl : r.length = q.length := by rw [hr.len, hq.len]
 have o := hq.own hv
 have rp := hr.off p hne
 refine ⟨⟨by rw [jjU hl, hr.len], fun j hj => ?_, ?_⟩, ?_⟩
 · rw [jhM j hl]
   by_cases hjp : j = p
   · subst hjp
     have : r.getD j 0 * q.getD j 0 - q.getD j 0 * r.getD j 0 = 0 := by rw [Int.mul_comm]; omega
     omega
   · have a := hr.off j hj
     have b := hq.off j hjp
     have c1 : r.getD j 0 * q.getD p 0 ≤ 0 := Int.mul_nonpos_of_nonpos_of_nonneg a (by omega)
     have c2 : 0 ≤ q.getD j 0 * r.getD p 0 := Int.mul_nonneg_of_nonpos_of_nonpos b rp
     omega
 · rw [je7 hl]
   have a := Rat.mul_pos (jb1 o) hr.pot
   have b := Rat.mul_nonneg (a := -((r.getD p 0 : Int) : Rat)) (b := dot q v) (by have := jjj rp; grind) (Rat.le_of_lt hq.pot)
   grind
 · rw [jhM p hl, Int.mul_comm]; omega
theorem jgS {N : Nat} {v : Nat → Rat} (hv : ∀ j, 0 ≤ v j) : ∀ (n : Nat) (L : List (Nat × List Int)), L.length = n → (L.map (·.1)).Nodup → (∀ e ∈ L, Good N v e.1 e.2) → ∀ y : Nat → Rat, ∃ x : Nat → Rat, (∀ j, j ∉ L.map (·.1) → x j = y j) ∧ ∀ e ∈ L, dot e.2 x = 0
 | 0, L, hl, _, _, y => by
   have : L = [] := List.eq_nil_of_length_eq_zero hl
   subst this
   exact ⟨y, fun _ _ => rfl, by simp⟩
 | n + 1, [], hl, _, _, _ => by simp at hl
 | n + 1, (u, r) :: L, hl, nd, hg, y => by
   have nd' : u ∉ L.map (·.1) ∧ (L.map (·.1)).Nodup := by simpa using nd
   have gu := hg (u, r) List.mem_cons_self
   have ou := gu.own hv
   have ne : ∀ e ∈ L, u ≠ e.1 := fun e he z => nd'.1 (List.mem_map.mpr ⟨e, he, z.symm⟩)
   let L' := L.map fun e => (e.1, comb (r.getD u 0) (e.2.getD u 0) e.2 r)
   have hk : L'.map (·.1) = L.map (·.1) := by simp [L']
   have hg' : ∀ e ∈ L', Good N v e.1 e.2 := fun e he => by
     obtain ⟨f, hf, rfl⟩ := List.mem_map.mp he
     exact ((hg f (List.mem_cons_of_mem _ hf)).comb hv gu (ne f hf)).1
   obtain ⟨x', h1, h2⟩ := jgS hv n L' (by simpa [L'] using hl) (by rw [hk]; exact nd'.2) hg' y
   have ru : ((r.getD u 0 : Int) : Rat) ≠ 0 := fun z => by have := jb1 ou; grind
   let t : Rat := x' u - dot r x' / ((r.getD u 0 : Int) : Rat)
   refine ⟨fun j => if j = u then t else x' j, fun j hj => ?_, fun e he => ?_⟩
   · have hj' : j ≠ u ∧ j ∉ L.map (·.1) := by simpa using hj
     show (if j = u then t else x' j) = y j
     rw [if_neg hj'.1]
     exact h1 j (by rw [hk]; exact hj'.2)
   · have hr : dot r (fun j => if j = u then t else x' j) = 0 := by
       rw [jfj]
       show dot r x' + ((r.getD u 0 : Int) : Rat) * (x' u - dot r x' / ((r.getD u 0 : Int) : Rat) - x' u) = 0
       grind
     rcases List.mem_cons.mp he with z | z
     · subst z; exact hr
     · have hl' : e.2.length = r.length := by rw [(hg e he).len, gu.len]
       have c := h2 (e.1, comb (r.getD u 0) (e.2.getD u 0) e.2 r) (List.mem_map.mpr ⟨e, z, rfl⟩)
       have c' : dot (comb (r.getD u 0) (e.2.getD u 0) e.2 r) x' = 0 := c
       have z0 := ((hg e he).comb hv gu (ne e z)).2
       have d : dot (comb (r.getD u 0) (e.2.getD u 0) e.2 r) (fun j => if j = u then t else x' j) = 0 := by
         rw [jfj, c', z0]; simp; grind
       rw [je7 hl', hr] at d
       have : ((r.getD u 0 : Int) : Rat) * dot e.2 (fun j => if j = u then t else x' j) = 0 := by grind
       grind
def jeQ (l : List Int) : Nat := l.foldl (fun g a => Nat.gcd g a.natAbs) 0
theorem jeM : ∀ (l : List Int) (g : Nat), (l.foldl (fun g a => Nat.gcd g a.natAbs) g) ∣ g ∧ ∀ a ∈ l, ((l.foldl (fun g a => Nat.gcd g a.natAbs) g : Nat) : Int) ∣ a
 | [], g => ⟨Nat.dvd_refl _, by simp⟩
 | a :: l, g => by
   obtain ⟨h1, h2⟩ := jeM l (Nat.gcd g a.natAbs)
   rw [List.foldl_cons]
   refine ⟨Nat.dvd_trans h1 (Nat.gcd_dvd_left _ _), fun b hb => ?_⟩
   rcases List.mem_cons.mp hb with z | z
   · subst z
     exact Int.ofNat_dvd_left.mpr (Nat.dvd_trans h1 (Nat.gcd_dvd_right _ _))
   · exact h2 b z
theorem jjS {l : List Int} {a : Int} (h : a ∈ l) : ((jeQ l : Nat) : Int) ∣ a := (jeM l 0).2 a h
theorem jjJ {l : List Int} {a : Int} (h : a ∈ l) (ha : a ≠ 0) : 0 < jeQ l := by
 rcases Nat.eq_zero_or_pos (jeQ l) with z | z
 · have := jjS h
   rw [z] at this
   exact absurd (Int.zero_dvd.mp this) ha
 · exact z
theorem mem_getD {l : List Int} {j : Nat} (h : l.getD j 0 ≠ 0) : l.getD j 0 ∈ l := by
 by_cases hj : j < l.length
 · rw [List.getD_eq_getElem?_getD, List.getElem?_eq_getElem hj]; exact List.getElem_mem hj
 · rw [List.getD_eq_getElem?_getD, List.getElem?_eq_none_iff.mpr (by omega)] at h; simp at h
def jcD (p : Nat) (used eq : List Int) : List Int :=
 (comb (used.getD p 0) (eq.getD p 0) eq used).map fun a => a / (jeQ (comb (used.getD p 0) (eq.getD p 0) eq used) : Nat)
theorem map_getD (l : List Int) (g : Int) (j : Nat) : (l.map (· / g)).getD j 0 = l.getD j 0 / g := by
 simp only [List.getD_eq_getElem?_getD, List.getElem?_map]
 cases l[j]? <;> simp
theorem jgX {N : Nat} {v : Nat → Rat} {i p : Nat} {r q : List Int} (hv : ∀ j, 0 ≤ v j) (hr : Good N v i r) (hq : Good N v p q) (hne : p ≠ i) : 0 < jeQ (comb (q.getD p 0) (r.getD p 0) r q) := by
 have g := (hr.comb hv hq hne).1
 have o := g.own hv
 exact jjJ (a := (Wr.comb (q.getD p 0) (r.getD p 0) r q).getD i 0) (mem_getD (by omega)) (by omega)
theorem jf5 {N : Nat} {v : Nat → Rat} {i p : Nat} {r q : List Int} (hv : ∀ j, 0 ≤ v j) (hr : Good N v i r) (hq : Good N v p q) (hne : p ≠ i) :
   Good N v i (jcD p q r) ∧ (jcD p q r).getD p 0 = 0 ∧ (∀ j, r.getD j 0 = 0 → q.getD j 0 = 0 → (jcD p q r).getD j 0 = 0) ∧ ∀ x : Nat → Rat, dot r x = 0 → dot q x = 0 → dot (jcD p q r) x = 0 := by
 have hl : r.length = q.length := by rw [hr.len, hq.len]
 obtain ⟨g, z⟩ := hr.comb hv hq hne
 have hp := jgX hv hr hq hne
 have hp' : (0 : Int) < ((jeQ (comb (q.getD p 0) (r.getD p 0) r q) : Nat) : Int) := by omega
 have hd : ∀ a ∈ comb (q.getD p 0) (r.getD p 0) r q, ((jeQ (comb (q.getD p 0) (r.getD p 0) r q) : Nat) : Int) ∣ a := fun a ha => jjS ha
 have hs := fun x : Nat → Rat => jfq (g := ((jeQ (comb (q.getD p 0) (r.getD p 0) r q) : Nat) : Int)) (by omega) (x := x) hd
 have hc := jb1 hp'
 unfold jcD
 generalize ((jeQ (comb (q.getD p 0) (r.getD p 0) r q) : Nat) : Int) = G at *
 refine ⟨⟨by rw [List.length_map]; exact g.len, fun j hj => ?_, ?_⟩, ?_, fun j h1 h2 => ?_, fun x h1 h2 => ?_⟩
 · have := g.off j hj
   rw [map_getD]
   exact Int.ediv_nonpos_of_nonpos_of_neg this hp'
 · have h1 := hs v
   have h2 := g.pot
   refine Rat.not_le.mp (fun z => ?_)
   · have := Rat.mul_nonneg (a := (G : Rat)) (b := - dot ((comb (q.getD p 0) (r.getD p 0) r q).map (· / G)) v) (Rat.le_of_lt hc) (by grind)
     grind
 · rw [map_getD, z]; simp
 · rw [map_getD, jhM j hl, h1, h2]; simp
 · have h3 := hs x
   rw [je7 hl, h1, h2] at h3
   have : (G : Rat) ≠ 0 := fun z => by grind
   grind
end Wr
namespace My
def abcd : List Nat := [97, 98, 99, 100]
structure jav (ns : List Int) : Prop where
 lo : 2 ≤ ns.length
 hi : ns.length ≤ 4
 w : ∀ n ∈ ns, 1 ≤ n ∧ n ≤ 9
structure jaG (n : Nat) (l : List Nat) : Prop where
 lo : 1 ≤ l.length
 hi : l.length ≤ 6
 s : ∀ c ∈ l, c ∈ abcd.take n
end My
namespace Wr
open My
def prs (dn : List Int) : List (Nat × Int) := (abcd.take dn.length).zip dn
theorem jdI : ∀ {l : List Int} {a b : Int}, (∀ n ∈ l, a ≤ n ∧ n ≤ b) → a * l.length ≤ l.sum ∧ l.sum ≤ b * l.length
 | [], a, b, _ => by simp
 | n :: l, a, b, h => by
   have ih := jdI (l := l) (a := a) (b := b) fun m hm => h m (List.mem_cons_of_mem _ hm)
   have h0 := h n List.mem_cons_self
   simp only [List.sum_cons, List.length_cons, Int.natCast_add, Int.mul_add]
   omega
theorem jeB {dn : List Int} (h : jav dn) : 2 ≤ dn.sum ∧ dn.sum ≤ 36 := by
 have := jdI (l := dn) (a := 1) (b := 9) h.w
 have h1 := h.lo
 have h2 := h.hi
 omega
theorem jjb {dn : List Int} (h : jav dn) : ((prs dn).map (·.2)).sum = dn.sum := by
 unfold prs
 rw [List.map_snd_zip]
 rw [List.length_take]
 have h2 := h.hi
 have : abcd.length = 4 := rfl
 omega
theorem jhy {dn : List Int} {c : Nat} {w : Int} (h : (c, w) ∈ prs dn) : c ∈ abcd.take dn.length ∧ w ∈ dn := ⟨(List.of_mem_zip h).1, (List.of_mem_zip h).2⟩
theorem joN {dn : List Int} (h : jav dn) {c : Nat} (hc : c ∈ abcd.take dn.length) : ∃ w, (c, w) ∈ prs dn := by
 obtain ⟨i, hi, e⟩ := List.mem_iff_getElem.mp hc
 have hd : i < dn.length := by rw [List.length_take] at hi; omega
 refine ⟨dn[i], ?_⟩
 unfold prs
 rw [List.mem_iff_getElem]
 exact ⟨i, by rw [List.length_zip]; omega, by rw [List.getElem_zip, e]⟩
def avg (dn : List Int) (f : Nat → Rat) : Rat := ((prs dn).map fun p => (p.2 : Rat) * f p.1).sum
def ja6 (dn : List Int) (ws : List Tx) (c : Rat) (X : Tx → Rat) : Prop :=
 ∀ s, Beg ws s → s ∉ ws → (dn.sum : Rat) * X s = avg dn (fun g => X (stF ws (s ++ [g]))) + (dn.sum : Rat) * c
structure jgs (ws bs : List Tx) : Prop where
 nd : bs.Nodup
 mem : ∀ t, t ∈ bs ↔ Beg ws t
def jcf (ws bs : List Tx) (s : Tx) (l : List (Nat × Int)) (r : List Int) : List Int :=
 l.foldl (fun r p => r.set (bs.idxOf (stF ws (s ++ [p.1]))) (r.getD (bs.idxOf (stF ws (s ++ [p.1]))) 0 - p.2)) r
def jcN (dn : List Int) (ws bs : List Tx) (s : Tx) : List Int := jcf ws bs s (prs dn) ((List.replicate bs.length 0).set (bs.idxOf s) dn.sum) ++ [-dn.sum]
theorem jcY {bs : List Tx} {t : Tx} (h : t ∈ bs) : bs.idxOf t < bs.length := List.idxOf_lt_length_of_mem h
theorem jht {bs : List Tx} {t : Tx} (h : t ∈ bs) : bs[bs.idxOf t]? = some t := by
 rw [List.getElem?_eq_getElem (jcY h), List.getElem_idxOf]
theorem jfi {bs : List Tx} {t u : Tx} (h : t ∈ bs) (h' : u ∈ bs) (e : bs.idxOf t = bs.idxOf u) : t = u := by
 have a := jht h
 rw [e, jht h'] at a
 exact (Option.some.inj a).symm
theorem jcm {ws bs : List Tx} {s : Tx} : ∀ {l : List (Nat × Int)} {r : List Int}, (jcf ws bs s l r).length = r.length
 | [], _ => rfl
 | p :: l, r => by
   show (jcf ws bs s l (r.set _ _)).length = _
   rw [jcm, List.length_set]
theorem jgR {ws bs : List Tx} {s : Tx} (hb : ∀ g, stF ws (s ++ [g]) ∈ bs) : ∀ {l : List (Nat × Int)} {r : List Int} {x : Nat → Rat}, r.length = bs.length →
   dot (jcf ws bs s l r) x = dot r x - (l.map fun p => (p.2 : Rat) * x (bs.idxOf (stF ws (s ++ [p.1])))).sum
 | [], r, x, _ => by simp [jcf]; grind
 | p :: l, r, x, hl => by
   have ih := jgR hb (l := l) (r := r.set (bs.idxOf (stF ws (s ++ [p.1]))) (r.getD (bs.idxOf (stF ws (s ++ [p.1]))) 0 - p.2)) (x := x) (by rw [List.length_set, hl])
   show dot (jcf ws bs s l (r.set _ _)) x = _
   rw [ih, jiU (by rw [hl]; exact jcY (hb _)), Rat.intCast_sub, List.map_cons, List.sum_cons]
   grind
theorem jlU {dn : List Int} {ws bs : List Tx} {s : Tx} : (jcN dn ws bs s).length = bs.length + 1 := by
 unfold jcN
 rw [List.length_append, jcm, List.length_set, List.length_replicate]
 rfl
theorem jfK {dn : List Int} {ws bs : List Tx} {s : Tx} (B : jgs ws bs) (hne : ws ≠ []) (hs : s ∈ bs) (x : Nat → Rat) :
   dot (jcN dn ws bs s) x = (dn.sum : Rat) * x (bs.idxOf s) - avg dn (fun g => x (bs.idxOf (stF ws (s ++ [g])))) - (dn.sum : Rat) * x bs.length := by
 unfold jcN
 rw [jgz, jgR (fun g => (B.mem _).mpr (jcH hne _)) (by simp), jiU (by simp; exact jcY hs), jiz, jcm, List.length_set, List.length_replicate]
 have z : (List.replicate bs.length (0 : Int)).getD (bs.idxOf s) 0 = 0 := by
   simp only [List.getD_eq_getElem?_getD, List.getElem?_replicate]
   split <;> rfl
 rw [z, Rat.intCast_neg]
 unfold avg
 have : ((0 : Int) : Rat) = 0 := rfl
 grind
theorem jjT (r : List Int) (i j : Nat) (v : Int) : (r.set i v).getD j 0 = if i = j ∧ i < r.length then v else r.getD j 0 := by
 simp only [List.getD_eq_getElem?_getD, List.getElem?_set]
 by_cases h : i = j
 · subst h
   by_cases hl : i < r.length
   · simp [hl]
   · simp [hl]
 · simp [h]
theorem jgJ {ws bs : List Tx} {s : Tx} {i : Nat} : ∀ {l : List (Nat × Int)} {r : List Int}, (∀ p ∈ l, 0 ≤ p.2) → (∀ j, j ≠ i → r.getD j 0 ≤ 0) → ∀ j, j ≠ i → (jcf ws bs s l r).getD j 0 ≤ 0
 | [], r, _, h => h
 | p :: l, r, hp, h => by
   refine jgJ (l := l) (r := r.set _ _) (fun q hq => hp q (List.mem_cons_of_mem _ hq)) fun j hj => ?_
   rw [jjT]
   have h0 := hp p List.mem_cons_self
   have h1 := h j hj
   by_cases e : bs.idxOf (stF ws (s ++ [p.1])) = j ∧ bs.idxOf (stF ws (s ++ [p.1])) < r.length
   · rw [if_pos e, e.1]; omega
   · rw [if_neg e]; exact h1
theorem jlP {dn : List Int} {ws bs : List Tx} {s : Tx} (hd : jav dn) (hs : s ∈ bs) : ∀ j, j ≠ bs.idxOf s → (jcN dn ws bs s).getD j 0 ≤ 0 := by
 intro j hj
 have hS := jeB hd
 unfold jcN
 have hl : (jcf ws bs s (prs dn) ((List.replicate bs.length 0).set (bs.idxOf s) dn.sum)).length = bs.length := by rw [jcm, List.length_set, List.length_replicate]
 have off := jgJ (ws := ws) (bs := bs) (s := s) (i := bs.idxOf s) (l := prs dn) (r := (List.replicate bs.length 0).set (bs.idxOf s) dn.sum) (fun p hp => by
   have := (hd.w p.2 (jhy (c := p.1) (w := p.2) hp).2).1; omega) (fun j hj => by
   rw [jjT, if_neg (fun z => hj z.1.symm)]
   simp only [List.getD_eq_getElem?_getD, List.getElem?_replicate]
   split <;> simp) j hj
 rcases Nat.lt_trichotomy j bs.length with z | z | z
 · rw [List.getD_eq_getElem?_getD, List.getElem?_append_left (by omega), ← List.getD_eq_getElem?_getD]; exact off
 · rw [List.getD_eq_getElem?_getD, List.getElem?_append_right (by omega), hl, z]; simp; omega
 · rw [List.getD_eq_getElem?_getD, List.getElem?_append_right (by omega), hl, List.getElem?_eq_none_iff.mpr (by simp; omega)]; simp
def vq (ws : List Tx) (t : Tx) : Rat := if t ∈ ws then 0 else 37 ^ 6 - 37 ^ t.length
def vI (ws bs : List Tx) (j : Nat) : Rat := match bs[j]? with | some t => vq ws t | none => 0
structure Race (n : Nat) (ws : List Tx) : Prop where
 lo : 1 ≤ ws.length
 hi : ws.length ≤ 4
 w : ∀ l ∈ ws, jaG n l
 nd : ws.Nodup
 apart : Apart ws
theorem Race.ne {n : Nat} {ws : List Tx} (R : Race n ws) : ws ≠ [] := by intro z; subst z; have := R.lo; simp at this
theorem Race.len {n : Nat} {ws : List Tx} (R : Race n ws) {t : Tx} (h : Beg ws t) : t.length ≤ 6 := by
 obtain ⟨w, hw, p⟩ := h
 have := (R.w w hw).hi
 have := p.length_le
 omega
theorem Race.len5 {n : Nat} {ws : List Tx} (R : Race n ws) {t : Tx} (h : Beg ws t) (hn : t ∉ ws) : t.length ≤ 5 := by
 obtain ⟨w, hw, c, hc, p⟩ := jhR h hn
 have := (R.w w hw).hi
 have := p.length_le
 simp at this
 omega
theorem jls {a b : Nat} (h : a ≤ b) : (37 : Rat) ^ a ≤ 37 ^ b := by
 have : ((37 ^ a : Nat) : Rat) ≤ ((37 ^ b : Nat) : Rat) := Rat.natCast_le_natCast.mpr (Nat.pow_le_pow_right (by decide) h)
 simpa using this
theorem jeE (a : Nat) : (1 : Rat) ≤ 37 ^ a := by
 have := jls (Nat.zero_le a)
 simpa using this
theorem jlV {n : Nat} {ws : List Tx} (R : Race n ws) {t : Tx} (h : Beg ws t) : 0 ≤ vq ws t := by
 unfold vq
 by_cases hw : t ∈ ws
 · rw [if_pos hw]; exact Rat.le_refl
 · rw [if_neg hw]
   have := jls (R.len h)
   grind
theorem jqy {ws : List Tx} (t : Tx) : vq ws t ≤ 37 ^ 6 - 1 := by
 unfold vq
 have h1 := jeE t.length
 by_cases hw : t ∈ ws
 · rw [if_pos hw]; have := jeE 6; grind
 · rw [if_neg hw]; grind
theorem jec {n : Nat} {ws bs : List Tx} (R : Race n ws) (B : jgs ws bs) (j : Nat) : 0 ≤ vI ws bs j := by
 unfold vI
 cases e : bs[j]? with
 | none => exact Rat.le_refl
 | some t => exact jlV R ((B.mem t).mp (List.mem_of_getElem? e))
theorem jnE {ws bs : List Tx} {t : Tx} (h : t ∈ bs) : vI ws bs (bs.idxOf t) = vq ws t := by
 unfold vI
 rw [jht h]
theorem jie : ∀ {l : List (Nat × Int)} {f : Nat → Rat} {M : Rat}, (∀ p ∈ l, 1 ≤ p.2) → (∀ g, f g ≤ M) → (l.map fun p => (p.2 : Rat) * f p.1).sum ≤ ((l.map (·.2)).sum : Int) * M
 | [], f, M, _, _ => by simp
 | p :: l, f, M, h, hf => by
   have ih := jie (l := l) (f := f) (M := M) (fun q hq => h q (List.mem_cons_of_mem _ hq)) hf
   have h0 : (0 : Rat) ≤ (p.2 : Rat) := by
     have := Rat.intCast_le_intCast.mpr (show (0 : Int) ≤ p.2 by have := h p List.mem_cons_self; omega)
     simpa using this
   have := Rat.mul_nonneg h0 (show 0 ≤ M - f p.1 by have := hf p.1; grind)
   simp only [List.map_cons, List.sum_cons, Rat.intCast_add]
   grind
theorem jgN : ∀ {l : List (Nat × Int)} {f : Nat → Rat} {M m : Rat} {c : Nat} {w : Int}, (∀ p ∈ l, 1 ≤ p.2) → (∀ g, f g ≤ M) → (c, w) ∈ l → f c ≤ m → m ≤ M → (l.map fun p => (p.2 : Rat) * f p.1).sum ≤ ((l.map (·.2)).sum : Int) * M - (M - m)
 | [], f, M, m, c, w, _, _, h, _, _ => by simp at h
 | p :: l, f, M, m, c, w, h, hf, hc, hm, hM => by
   have h1 : (1 : Rat) ≤ (p.2 : Rat) := by
     have := Rat.intCast_le_intCast.mpr (h p List.mem_cons_self)
     simpa using this
   rcases List.mem_cons.mp hc with z | z
   · subst z
     have ih := jie (l := l) (f := f) (M := M) (fun q hq => h q (List.mem_cons_of_mem _ hq)) hf
     have a := Rat.mul_nonneg (show 0 ≤ (w : Rat) - 1 by have : (1 : Rat) ≤ (w : Rat) := h1; grind) (show 0 ≤ M - f c by have := hf c; grind)
     simp only [List.map_cons, List.sum_cons, Rat.intCast_add]
     grind
   · have ih := jgN (l := l) (f := f) (M := M) (m := m) (c := c) (w := w) (fun q hq => h q (List.mem_cons_of_mem _ hq)) hf z hm hM
     have a := Rat.mul_nonneg (show 0 ≤ (p.2 : Rat) by grind) (show 0 ≤ M - f p.1 by have := hf p.1; grind)
     simp only [List.map_cons, List.sum_cons, Rat.intCast_add]
     grind
theorem jmS {dn : List Int} {ws : List Tx} {s : Tx} (hd : jav dn) (R : Race dn.length ws) (hb : Beg ws s) (hn : s ∉ ws) : 0 < (dn.sum : Rat) * vq ws s - avg dn (fun g => vq ws (stF ws (s ++ [g]))) := by
 obtain ⟨w, hw, c, hc, hp⟩ := jhR hb hn
 have hS := jeB hd
 have hcs := (R.w w hw).s c hc
 obtain ⟨q, hq⟩ := joN hd hcs
 have l5 := R.len5 hb hn
 have hB : Beg ws (s ++ [c]) := ⟨w, hw, hp⟩
 have e : stF ws (s ++ [c]) = s ++ [c] := jjI R.ne hB
 have pm : (37 : Rat) ^ (s.length + 1) = 37 ^ s.length * 37 := Rat.pow_succ ..
 have h6 := jls (show s.length + 1 ≤ 6 by omega)
 have h1 := jeE s.length
 have hm : vq ws (stF ws (s ++ [c])) ≤ 37 ^ 6 - 37 ^ s.length * 37 := by
   rw [e]
   unfold vq
   by_cases z : s ++ [c] ∈ ws
   · rw [if_pos z]; grind
   · rw [if_neg z, List.length_append, List.length_singleton]; grind
 have key := jgN (l := prs dn) (f := fun g => vq ws (stF ws (s ++ [g]))) (M := 37 ^ 6 - 1) (m := 37 ^ 6 - 37 ^ s.length * 37) (fun p hp => (hd.w p.2 (jhy (c := p.1) (w := p.2) hp).2).1) (fun g => jqy _) hq hm (by grind)
 rw [jjb hd] at key
 have ev : vq ws s = 37 ^ 6 - 37 ^ s.length := by unfold vq; rw [if_neg hn]
 rw [ev]
 have hT : (dn.sum : Rat) ≤ 36 := by
   have := Rat.intCast_le_intCast.mpr hS.2
   simpa using this
 have := Rat.mul_nonneg (show 0 ≤ 36 - (dn.sum : Rat) by grind) (show 0 ≤ (37 : Rat) ^ s.length - 1 by grind)
 unfold avg
 grind
theorem jgw {dn : List Int} {ws bs : List Tx} {s : Tx} (hd : jav dn) (R : Race dn.length ws) (B : jgs ws bs) (hb : Beg ws s) (hn : s ∉ ws) : Good (bs.length + 1) (vI ws bs) (bs.idxOf s) (jcN dn ws bs s) := by
 have hs := (B.mem s).mpr hb
 refine ⟨jlU, jlP hd hs, ?_⟩
 rw [jfK B R.ne hs]
 have e1 : (fun g => vI ws bs (bs.idxOf (stF ws (s ++ [g])))) = fun g => vq ws (stF ws (s ++ [g])) := by
   funext g; exact jnE ((B.mem _).mpr (jcH R.ne _))
 have e2 : vI ws bs bs.length = 0 := by unfold vI; simp
 rw [e1, e2, jnE hs]
 have := jmS hd R hb hn
 grind
def xOf (bs : List Tx) (X : Tx → Rat) (c : Rat) (j : Nat) : Rat := match bs[j]? with | some t => X t | none => c
theorem jfv {bs : List Tx} {X : Tx → Rat} {c : Rat} {t : Tx} (h : t ∈ bs) : xOf bs X c (bs.idxOf t) = X t := by
 unfold xOf
 rw [jht h]
theorem je4 {bs : List Tx} {X : Tx → Rat} {c : Rat} : xOf bs X c bs.length = c := by unfold xOf; simp
theorem jiH {dn : List Int} {ws bs : List Tx} {s : Tx} {X : Tx → Rat} {c : Rat} (R : Race dn.length ws) (B : jgs ws bs) (hb : Beg ws s) (hn : s ∉ ws) (h : ja6 dn ws c X) : dot (jcN dn ws bs s) (xOf bs X c) = 0 := by
 have hs := (B.mem s).mpr hb
 rw [jfK B R.ne hs, jfv hs, je4]
 have e1 : (fun g => xOf bs X c (bs.idxOf (stF ws (s ++ [g])))) = fun g => X (stF ws (s ++ [g])) := by
   funext g; exact jfv ((B.mem _).mpr (jcH R.ne _))
 rw [e1]
 have := h s hb hn
 grind
theorem jhA {dn : List Int} {ws bs : List Tx} (hd : jav dn) (R : Race dn.length ws) (B : jgs ws bs) (b : Tx → Rat) (c : Rat) : ∃ X, ja6 dn ws c X ∧ ∀ w ∈ ws, X w = b w := by
 let L := (bs.filter fun s => decide (s ∉ ws)).map fun s => (bs.idxOf s, jcN dn ws bs s)
 have mL : ∀ s, Beg ws s → s ∉ ws → (bs.idxOf s, jcN dn ws bs s) ∈ L := fun s h1 h2 => List.mem_map.mpr ⟨s, List.mem_filter.mpr ⟨(B.mem s).mpr h1, decide_eq_true h2⟩, rfl⟩
 have oL : ∀ e ∈ L, ∃ s, Beg ws s ∧ s ∉ ws ∧ e = (bs.idxOf s, jcN dn ws bs s) := fun e he => by
   obtain ⟨s, hs, rfl⟩ := List.mem_map.mp he
   have := List.mem_filter.mp hs
   exact ⟨s, (B.mem s).mp this.1, of_decide_eq_true this.2, rfl⟩
 have nd : (L.map (·.1)).Nodup := by
   have e : L.map (·.1) = (bs.filter fun s => decide (s ∉ ws)).map fun s => bs.idxOf s := by simp [L]
   rw [e]
   have n2 : (bs.filter fun s => decide (s ∉ ws)).Nodup := B.nd.filter _
   unfold List.Nodup at n2 ⊢
   rw [List.pairwise_map]
   exact n2.imp_of_mem fun ha hb hne z => hne (jfi (List.mem_filter.mp ha).1 (List.mem_filter.mp hb).1 z)
 obtain ⟨x, h1, h2⟩ := jgS (N := bs.length + 1) (v := vI ws bs) (jec R B) L.length L rfl nd (fun e he => by
   obtain ⟨s, s1, s2, rfl⟩ := oL e he
   exact jgw hd R B s1 s2) (xOf bs b c)
 refine ⟨fun t => x (bs.idxOf t), fun s s1 s2 => ?_, fun w hw => ?_⟩
 · have e := h2 _ (mL s s1 s2)
   have e' : dot (jcN dn ws bs s) x = 0 := e
   rw [jfK B R.ne ((B.mem s).mpr s1)] at e'
   have hc : x bs.length = c := by
     rw [h1 _ fun z => ?_, je4]
     obtain ⟨e, he, z⟩ := List.mem_map.mp z
     obtain ⟨s, s1, s2, rfl⟩ := oL e he
     have := jcY ((B.mem s).mpr s1)
     have z' : bs.idxOf s = bs.length := z
     omega
   rw [hc] at e'
   grind
 · have hwb : w ∈ bs := (B.mem w).mpr ⟨w, hw, List.prefix_rfl⟩
   show x (bs.idxOf w) = b w
   rw [h1 _ fun z => ?_, jfv hwb]
   obtain ⟨e, he, z⟩ := List.mem_map.mp z
   obtain ⟨s, s1, s2, rfl⟩ := oL e he
   have := jfi ((B.mem s).mpr s1) hwb z
   subst this
   exact s2 hw
end Wr
namespace Wr
open My
def jey (bs : List Tx) : List Tx → List (List Int) → List Int
 | [], eqs => eqs.headD []
 | o :: os, eqs => jey bs os (eqs.tail.map (jcD (bs.idxOf o) (eqs.headD [])))
def jir (n : Nat) (r : List Int) : Prop := ∀ a ∈ r, a.natAbs ≤ 2 ^ n
theorem jir.at {n : Nat} {r : List Int} (h : jir n r) (j : Nat) : (r.getD j 0).natAbs ≤ 2 ^ n := by
 by_cases e : r.getD j 0 = 0
 · rw [e]; exact Nat.zero_le _
 · exact h _ (mem_getD e)
theorem jir.mono {n m : Nat} {r : List Int} (h : jir n r) (hm : n ≤ m) : jir m r := fun a ha => Nat.le_trans (h a ha) (Nat.pow_le_pow_right (by decide) hm)
theorem bits_sub {a b c d : Int} {n : Nat} (ha : a.natAbs ≤ 2 ^ n) (hb : b.natAbs ≤ 2 ^ n) (hc : c.natAbs ≤ 2 ^ n) (hd : d.natAbs ≤ 2 ^ n) : (a * b - c * d).natAbs ≤ 2 ^ (2 * n + 1) := by
 have h1 : (a * b).natAbs ≤ 2 ^ n * 2 ^ n := by rw [Int.natAbs_mul]; exact Nat.mul_le_mul ha hb
 have h2 : (c * d).natAbs ≤ 2 ^ n * 2 ^ n := by rw [Int.natAbs_mul]; exact Nat.mul_le_mul hc hd
 have e : 2 ^ (2 * n + 1) = 2 ^ n * 2 ^ n + 2 ^ n * 2 ^ n := by rw [Nat.pow_succ, Nat.two_mul, Nat.pow_add]; omega
 omega
theorem jlQ {n : Nat} {p : Nat} {r q : List Int} (hr : jir n r) (hq : jir n q) : jir (2 * n + 1) (comb (q.getD p 0) (r.getD p 0) r q) := by
 intro a ha
 unfold comb at ha
 obtain ⟨i, hi, rfl⟩ := List.mem_iff_getElem.mp ha
 rw [List.getElem_zipWith]
 have hl := hi
 rw [List.length_zipWith] at hl
 exact bits_sub (hr _ (List.getElem_mem (by omega))) (hq.at p) (hq _ (List.getElem_mem (by omega))) (hr.at p)
theorem ji4 {n : Nat} {p : Nat} {r q : List Int} (hr : jir n r) (hq : jir n q) : jir (2 * n + 1) (jcD p q r) := by
 intro a ha
 obtain ⟨b, hb, rfl⟩ := List.mem_map.mp ha
 have h1 := jlQ (p := p) hr hq b hb
 have h2 : (b / ((jeQ (comb (q.getD p 0) (r.getD p 0) r q) : Nat) : Int)).natAbs ≤ b.natAbs := Int.natAbs_ediv_le_natAbs _ _
 omega
structure jgT (dn : List Int) (ws bs : List Tx) (n : Nat) (done rem : List Tx) (eqs : List (List Int)) : Prop where
 len : eqs.length = rem.length
 good : ∀ i (h : i < rem.length) (h' : i < eqs.length), Good (bs.length + 1) (vI ws bs) (bs.idxOf rem[i]) eqs[i]
 zero : ∀ i (h : i < eqs.length), ∀ t ∈ done, eqs[i].getD (bs.idxOf t) 0 = 0
 sol : ∀ i (h : i < eqs.length), ∀ (X : Tx → Rat) (c : Rat), ja6 dn ws c X → dot eqs[i] (xOf bs X c) = 0
 bits : ∀ r ∈ eqs, jir n r
theorem jgK {dn : List Int} {ws bs : List Tx} {rem : List Tx} (hd : jav dn) (R : Race dn.length ws) (B : jgs ws bs) (hr : ∀ t ∈ rem, Beg ws t ∧ t ∉ ws) : jgT dn ws bs 6 [] rem (rem.map (jcN dn ws bs)) where
 len := List.length_map ..
 good := fun i h h' => by
   rw [List.getElem_map]
   have := hr _ (List.getElem_mem h)
   exact jgw hd R B this.1 this.2
 zero := fun i h t ht => by simp at ht
 sol := fun i h X c hX => by
   rw [List.getElem_map]
   have hi : i < rem.length := by simpa using h
   have := hr _ (List.getElem_mem hi)
   exact jiH R B this.1 this.2 hX
 bits := fun r hr' => by
   obtain ⟨t, ht, rfl⟩ := List.mem_map.mp hr'
   have hS := jeB hd
   have key : ∀ (l : List (Nat × Int)) (r : List Int) (m : Int), (∀ p ∈ l, 0 ≤ p.2) → (∀ a ∈ r, -m ≤ a ∧ a ≤ 36) → 0 ≤ m → ∀ a ∈ jcf ws bs t l r, -(m + (l.map (·.2)).sum) ≤ a ∧ a ≤ 36 := by
     intro l
     induction l with
     | nil => intro r m _ h hm a ha; simpa using h a ha
     | cons p l ih =>
       intro r m hp h hm a ha
       have h0 := hp p List.mem_cons_self
       have := ih (r.set (bs.idxOf (stF ws (t ++ [p.1]))) (r.getD (bs.idxOf (stF ws (t ++ [p.1]))) 0 - p.2)) (m + p.2) (fun q hq => hp q (List.mem_cons_of_mem _ hq)) (fun b hb => by
         rcases List.mem_or_eq_of_mem_set hb with z | z
         · have := h b z; omega
         · by_cases e : r.getD (bs.idxOf (stF ws (t ++ [p.1]))) 0 = 0
           · omega
           · have := h _ (mem_getD e); omega) (by omega) a ha
       simp only [List.map_cons, List.sum_cons]
       omega
   have k2 := key (prs dn) ((List.replicate bs.length 0).set (bs.idxOf t) dn.sum) 0 (fun p hp => by
     have := (hd.w p.2 (jhy (c := p.1) (w := p.2) hp).2).1; omega) (fun a ha => by
     rcases List.mem_or_eq_of_mem_set ha with z | z
     · have := List.eq_of_mem_replicate z; omega
     · omega) (by omega)
   rw [jjb hd] at k2
   intro a ha
   unfold jcN at ha
   rcases List.mem_append.mp ha with z | z
   · have := k2 a z; omega
   · have : a = -dn.sum := by simpa using z
     omega
theorem jip {dn : List Int} {ws bs : List Tx} {n : Nat} {done rem : List Tx} {o : Tx} {eqs : List (List Int)} (R : Race dn.length ws) (B : jgs ws bs) (hm : ∀ t ∈ o :: rem, t ∈ bs) (nd : (o :: rem).Nodup) (h : jgT dn ws bs n done (o :: rem) eqs) :
   jgT dn ws bs (2 * n + 1) (done ++ [o]) rem (eqs.tail.map (jcD (bs.idxOf o) (eqs.headD []))) := by
 cases eqs with
 | nil => have := h.len; simp at this
 | cons q eqs =>
   have hl : eqs.length = rem.length := by simpa using h.len
   have gq : Good (bs.length + 1) (vI ws bs) (bs.idxOf o) q := h.good 0 (by simp) (by simp)
   have hv := jec R B
   have nd' : o ∉ rem := by have := List.nodup_cons.mp nd; exact this.1
   have gi : ∀ i (h1 : i < rem.length) (h2 : i < eqs.length), Good (bs.length + 1) (vI ws bs) (bs.idxOf rem[i]) eqs[i] := fun i h1 h2 => h.good (i + 1) (by simpa using h1) (by simpa using h2)
   have ne : ∀ i (h1 : i < rem.length), bs.idxOf o ≠ bs.idxOf rem[i] := fun i h1 z => nd' (by
     have := jfi (hm o List.mem_cons_self) (hm _ (List.mem_cons_of_mem _ (List.getElem_mem h1))) z
     rw [this]; exact List.getElem_mem h1)
   refine ⟨by simpa using hl, fun i h1 h2 => ?_, fun i h2 t ht => ?_, fun i h2 X c hX => ?_, fun r hr => ?_⟩
   · simp only [List.tail_cons, List.headD_cons, List.getElem_map]
     have h2' : i < eqs.length := by omega
     exact (jf5 hv (gi i h1 h2') gq (ne i h1)).1
   · have h2' : i < eqs.length := by simpa using h2
     have h1 : i < rem.length := by omega
     obtain ⟨_, z1, z2, _⟩ := jf5 hv (gi i h1 h2') gq (ne i h1)
     simp only [List.tail_cons, List.headD_cons, List.getElem_map]
     rcases List.mem_append.mp ht with z | z
     · exact z2 _ (h.zero (i + 1) (by simpa using h2') t z) (h.zero 0 (by simp) t z)
     · have : t = o := by simpa using z
       subst this; exact z1
   · have h2' : i < eqs.length := by simpa using h2
     have h1 : i < rem.length := by omega
     obtain ⟨_, _, _, z3⟩ := jf5 hv (gi i h1 h2') gq (ne i h1)
     simp only [List.tail_cons, List.headD_cons, List.getElem_map]
     exact z3 _ (h.sol (i + 1) (by simpa using h2') X c hX) (h.sol 0 (by simp) X c hX)
   · simp only [List.tail_cons, List.headD_cons] at hr
     obtain ⟨r', hr', rfl⟩ := List.mem_map.mp hr
     exact ji4 (h.bits r' (List.mem_cons_of_mem _ hr')) (h.bits q List.mem_cons_self)
structure Told (dn : List Int) (ws bs : List Tx) (n : Nat) (s : Tx) (r : List Int) : Prop where
 good : Good (bs.length + 1) (vI ws bs) (bs.idxOf s) r
 zero : ∀ t, Beg ws t → t ∉ ws → t ≠ s → r.getD (bs.idxOf t) 0 = 0
 sol : ∀ (X : Tx → Rat) (c : Rat), ja6 dn ws c X → dot r (xOf bs X c) = 0
 bits : jir n r
def jcS : Nat → Nat
 | 0 => 6
 | n + 1 => 2 * jcS n + 1
theorem jd4 (n : Nat) : jcS n + 1 = 7 * 2 ^ n := by
 induction n with
 | zero => rfl
 | succ n ih => rw [Nat.pow_succ]; show 2 * jcS n + 1 + 1 = _; omega
theorem jf1 {n m : Nat} (h : n ≤ m) : jcS n ≤ jcS m := by
 have a := jd4 n
 have b := jd4 m
 have := Nat.pow_le_pow_right (show 0 < 2 by decide) h
 omega
theorem jkU {dn : List Int} {ws bs : List Tx} {s : Tx} (R : Race dn.length ws) (B : jgs ws bs) : ∀ (others : List Tx) (k : Nat) (done : List Tx) (eqs : List (List Int)), (∀ t ∈ others ++ [s], t ∈ bs) → (others ++ [s]).Nodup → (∀ t, Beg ws t → t ∉ ws → t ≠ s → t ∈ done ++ others) →
   jgT dn ws bs (jcS k) done (others ++ [s]) eqs → Told dn ws bs (jcS (k + others.length)) s (jey bs others eqs)
 | [], k, done, eqs, hm, nd, hall, h => by
   have hl := h.len
   match eqs, hl with
   | [r], _ =>
     refine ⟨h.good 0 (by simp) (by simp), fun t h1 h2 h3 => h.zero 0 (by simp) t (by simpa using hall t h1 h2 h3), fun X c hX => h.sol 0 (by simp) X c hX, h.bits r (by simp)⟩
 | o :: os, k, done, eqs, hm, nd, hall, h => by
   have st := jip R B hm nd h
   have := jkU R B os (k + 1) (done ++ [o]) _ (fun t ht => hm t (List.mem_cons_of_mem _ ht)) (List.nodup_cons.mp nd).2 (fun t h1 h2 h3 => by simpa using hall t h1 h2 h3) st
   rw [show k + (o :: os).length = k + 1 + os.length by simp; omega]
   exact this
theorem jck : ∀ {l m : List Tx}, l.Nodup → (∀ t ∈ l, t ∈ m) → l.length ≤ m.length
 | [], m, _, _ => Nat.zero_le _
 | a :: l, m, nd, h => by
   have nd' := List.nodup_cons.mp nd
   have ha := h a List.mem_cons_self
   have := jck (l := l) (m := m.erase a) nd'.2 fun t ht => by
     rw [List.mem_erase_of_ne (fun z => nd'.1 (by rw [← z]; exact ht))]
     exact h t (List.mem_cons_of_mem _ ht)
   rw [List.length_erase_of_mem ha] at this
   have hp := List.length_pos_of_mem ha
   simp only [List.length_cons]
   omega
def heads (ws : List Tx) : List Tx := [] :: ws.flatMap fun w => (List.range (w.length - 1)).map fun k => w.take (k + 1)
theorem jiA {n : Nat} : ∀ {ws : List Tx}, (∀ l ∈ ws, jaG n l) → (ws.flatMap fun w => (List.range (w.length - 1)).map fun k => w.take (k + 1)).length ≤ 5 * ws.length
 | [], _ => by simp
 | w :: ws, h => by
   have ih := jiA (ws := ws) fun l hl => h l (List.mem_cons_of_mem _ hl)
   have := (h w List.mem_cons_self).hi
   rw [List.flatMap_cons, List.length_append, List.length_map, List.length_range, List.length_cons]
   omega
theorem jmd {ws : List Tx} {t : Tx} (h : Beg ws t) (hn : t ∉ ws) : t ∈ heads ws := by
 obtain ⟨w, hw, c, hc, hp⟩ := jhR h hn
 unfold heads
 by_cases e : t = []
 · rw [e]; exact List.mem_cons_self
 · refine List.mem_cons_of_mem _ (List.mem_flatMap.mpr ⟨w, hw, List.mem_map.mpr ⟨t.length - 1, ?_, ?_⟩⟩)
   · have hpl := hp.length_le
     rw [List.length_append, List.length_singleton] at hpl
     have : t.length ≠ 0 := fun z => e (List.eq_nil_of_length_eq_zero z)
     rw [List.mem_range]
     omega
   · have : t.length ≠ 0 := fun z => e (List.eq_nil_of_length_eq_zero z)
     have ht : t <+: w := (List.prefix_append t [c]).trans hp
     rw [show t.length - 1 + 1 = t.length by omega]
     exact (List.prefix_iff_eq_take.mp ht).symm
theorem jkp {n : Nat} {ws l : List Tx} (R : Race n ws) (nd : l.Nodup) (h : ∀ t ∈ l, Beg ws t ∧ t ∉ ws) : l.length ≤ 21 := by
 have h1 := jck nd fun t ht => jmd (h t ht).1 (h t ht).2
 have h2 := jiA R.w
 have := R.hi
 unfold heads at h1
 rw [List.length_cons] at h1
 omega
theorem jfs {dn : List Int} {ws bs others : List Tx} {s : Tx} (hd : jav dn) (R : Race dn.length ws) (B : jgs ws bs) (hs : Beg ws s) (hn : s ∉ ws) (nd : others.Nodup) (ho : ∀ t, t ∈ others ↔ Beg ws t ∧ t ∉ ws ∧ t ≠ s) :
   others.length ≤ 20 ∧ Told dn ws bs (jcS 20) s (jey bs others ((others ++ [s]).map (jcN dn ws bs))) := by
 have hall : ∀ t ∈ others ++ [s], Beg ws t ∧ t ∉ ws := fun t ht => by
   rcases List.mem_append.mp ht with z | z
   · have := (ho t).mp z; exact ⟨this.1, this.2.1⟩
   · have : t = s := by simpa using z
     subst this; exact ⟨hs, hn⟩
 have nd2 : (others ++ [s]).Nodup := by
   rw [List.nodup_append]
   refine ⟨nd, by simp, fun a ha b hb => ?_⟩
   have : b = s := by simpa using hb
   subst this
   exact ((ho a).mp ha).2.2
 have few := jkp R nd2 hall
 rw [List.length_append, List.length_singleton] at few
 have T := jkU R B others 0 [] _ (fun t ht => (B.mem t).mpr (hall t ht).1) nd2 (fun t h1 h2 h3 => by simpa using (ho t).mpr ⟨h1, h2, h3⟩) (jgK hd R B hall)
 refine ⟨by omega, T.good, T.zero, T.sol, T.bits.mono (jf1 (by omega))⟩
theorem Told.split {dn : List Int} {ws bs : List Tx} {n : Nat} {s : Tx} {r : List Int} (R : Race dn.length ws) (B : jgs ws bs) (hs : Beg ws s) (T : Told dn ws bs n s r) {X : Tx → Rat} {c : Rat} (hX : ja6 dn ws c X) {i : Nat} (hi : i ≠ bs.idxOf s)
   (h0 : ∀ j, j ≠ bs.idxOf s → j ≠ i → ((r.getD j 0 : Int) : Rat) * xOf bs X c j = 0) : ((r.getD (bs.idxOf s) 0 : Int) : Rat) * X s = - (((r.getD i 0 : Int) : Rat) * xOf bs X c i) := by
 have e := T.sol X c hX
 have u := jfj (r := r) (i := i) (t := 0) (x := xOf bs X c)
 have d := jpt (r := r) (x := fun j => if j = i then 0 else xOf bs X c j) (i := bs.idxOf s) fun j hj => by
   by_cases z : j = i
   · simp [z]
   · simpa [z] using h0 j hj z
 rw [d, e] at u
 have : (if bs.idxOf s = i then 0 else xOf bs X c (bs.idxOf s)) = X s := by rw [if_neg (Ne.symm hi), jfv ((B.mem s).mpr hs)]
 rw [this] at u
 grind
theorem Told.own {dn : List Int} {ws bs : List Tx} {n : Nat} {s : Tx} {r : List Int} (R : Race dn.length ws) (B : jgs ws bs) (T : Told dn ws bs n s r) : 0 < r.getD (bs.idxOf s) 0 := T.good.own (jec R B)
theorem jiT {bs : List Tx} {X : Tx → Rat} {c : Rat} {j : Nat} {t : Tx} (h : bs[j]? = some t) : xOf bs X c j = X t := by unfold xOf; rw [h]
theorem jes {bs : List Tx} (nd : bs.Nodup) {j : Nat} {t : Tx} (h : bs[j]? = some t) : bs.idxOf t = j := by
 obtain ⟨hj, e⟩ := List.getElem?_eq_some_iff.mp h
 subst e
 exact nd.idxOf_getElem j hj
theorem Told.share {dn : List Int} {ws bs : List Tx} {n : Nat} {s w : Tx} {r : List Int} (R : Race dn.length ws) (B : jgs ws bs) (hs : Beg ws s) (hn : s ∉ ws) (T : Told dn ws bs n s r) (hw : w ∈ ws) {X : Tx → Rat} (hX : ja6 dn ws 0 X) (hb : ∀ u ∈ ws, X u = if u = w then 1 else 0) :
   X s = Rat.divInt (-(r.getD (bs.idxOf w) 0)) (r.getD (bs.idxOf s) 0) := by
 have own := T.own R B
 have hwb : w ∈ bs := (B.mem w).mpr ⟨w, hw, List.prefix_rfl⟩
 have hsb : s ∈ bs := (B.mem s).mpr hs
 have hne : bs.idxOf w ≠ bs.idxOf s := fun z => hn (by rw [← jfi hwb hsb z]; exact hw)
 have := T.split R B hs hX hne fun j h1 h2 => by
   by_cases hj : j < bs.length
   · have e := List.getElem?_eq_getElem hj
     rw [jiT e]
     have hb' : Beg ws bs[j] := (B.mem _).mp (List.getElem_mem hj)
     have ej := jes B.nd e
     by_cases hjw : bs[j] ∈ ws
     · rw [hb _ hjw, if_neg (fun z => h2 (by rw [← ej, z]))]; grind
     · have := T.zero _ hb' hjw (fun z => h1 (by rw [← ej, z]))
       rw [ej] at this
       rw [this]; grind
   · have : xOf bs X 0 j = 0 := by unfold xOf; rw [List.getElem?_eq_none_iff.mpr (by omega)]
     rw [this]; grind
 rw [jfv hwb, hb w hw, if_pos rfl] at this
 have nz : ((r.getD (bs.idxOf s) 0 : Int) : Rat) ≠ 0 := fun z => by have := jb1 own; grind
 rw [Rat.divInt_eq_div, Rat.intCast_neg]
 grind
theorem Told.mean {dn : List Int} {ws bs : List Tx} {n : Nat} {s : Tx} {r : List Int} (R : Race dn.length ws) (B : jgs ws bs) (hs : Beg ws s) (hn : s ∉ ws) (T : Told dn ws bs n s r) {X : Tx → Rat} (hX : ja6 dn ws 1 X) (hb : ∀ u ∈ ws, X u = 0) :
   X s = Rat.divInt (-(r.getD bs.length 0)) (r.getD (bs.idxOf s) 0) := by
 have own := T.own R B
 have hsb : s ∈ bs := (B.mem s).mpr hs
 have hlt := jcY hsb
 have := T.split R B hs hX (i := bs.length) (by omega) fun j h1 h2 => by
   by_cases hj : j < bs.length
   · have e := List.getElem?_eq_getElem hj
     rw [jiT e]
     have hb' : Beg ws bs[j] := (B.mem _).mp (List.getElem_mem hj)
     have ej := jes B.nd e
     by_cases hjw : bs[j] ∈ ws
     · rw [hb _ hjw]; grind
     · have := T.zero _ hb' hjw (fun z => h1 (by rw [← ej, z]))
       rw [ej] at this
       rw [this]; grind
   · have : r.getD j 0 = 0 := by
       rw [List.getD_eq_getElem?_getD, List.getElem?_eq_none_iff.mpr (by rw [T.good.len]; omega)]; rfl
     rw [this]; grind
 rw [je4] at this
 have nz : ((r.getD (bs.idxOf s) 0 : Int) : Rat) ≠ 0 := fun z => by have := jb1 own; grind
 rw [Rat.divInt_eq_div, Rat.intCast_neg]
 grind
end Wr
namespace Wr
open My
theorem jh8 {dn : List Int} (h : jav dn) : (∃ a b, dn = [a, b]) ∨ (∃ a b c, dn = [a, b, c]) ∨ ∃ a b c d, dn = [a, b, c, d] := by
 have h1 := h.lo
 have h2 := h.hi
 match dn, h1, h2 with
 | [a, b], _, _ => exact .inl ⟨a, b, rfl⟩
 | [a, b, c], _, _ => exact .inr (.inl ⟨a, b, c, rfl⟩)
 | [a, b, c, d], _, _ => exact .inr (.inr ⟨a, b, c, d, rfl⟩)
 | _ :: _ :: _ :: _ :: _ :: _, _, h2 => simp at h2
theorem jlO (dn : List Int) (f g : Nat → Rat) (a b : Rat) : avg dn (fun c => a * f c + b * g c) = a * avg dn f + b * avg dn g := by
 unfold avg
 induction prs dn with
 | nil => simp; grind
 | cons p l ih => simp only [List.map_cons, List.sum_cons]; rw [ih]; grind
theorem jiv {dn : List Int} (h : jav dn) (a : Rat) : avg dn (fun _ => a) = (dn.sum : Rat) * a := by
 have key : ∀ l : List (Nat × Int), (l.map fun p => (p.2 : Rat) * a).sum = ((l.map (·.2)).sum : Int) * a := by
   intro l
   induction l with
   | nil => simp
   | cons p l ih => simp only [List.map_cons, List.sum_cons, Rat.intCast_add]; rw [ih]; grind
 unfold avg
 rw [key, jjb h]
theorem jn1 {dn : List Int} {α : Type} (l : List α) (f : α → Nat → Rat) : avg dn (fun c => (l.map fun a => f a c).sum) = (l.map fun a => avg dn (f a)).sum := by
 induction l with
 | nil =>
   have : avg dn (fun _ => (0 : Rat)) = 0 := by
     unfold avg
     induction prs dn with
     | nil => rfl
     | cons p r ih => simp only [List.map_cons, List.sum_cons]; rw [ih]; grind
   simpa using this
 | cons a l ih =>
   have e := jlO dn (f a) (fun c => (l.map fun a => f a c).sum) 1 1
   simp only [List.map_cons, List.sum_cons]
   rw [← ih]
   have e2 : avg dn (fun c => f a c + (l.map fun a => f a c).sum) = avg dn (fun c => 1 * f a c + 1 * (l.map fun a => f a c).sum) := by congr 1; funext c; grind
   rw [e2, e]; grind
theorem jkB {dn : List Int} (h : jav dn) {f : Nat → Rat} (hf : ∀ c ∈ abcd.take dn.length, 0 ≤ f c) : 0 ≤ avg dn f := by
 have key : ∀ l : List (Nat × Int), (∀ p ∈ l, p ∈ prs dn) → 0 ≤ (l.map fun p => (p.2 : Rat) * f p.1).sum := by
   intro l
   induction l with
   | nil => intro _; simp
   | cons p l ih =>
     intro hl
     have := ih fun q hq => hl q (List.mem_cons_of_mem _ hq)
     have hp := jhy (c := p.1) (w := p.2) (hl p List.mem_cons_self)
     have hw := (h.w _ hp.2).1
     have := Rat.mul_nonneg (Rat.le_of_lt (jb1 (show 0 < p.2 by omega))) (hf _ hp.1)
     simp only [List.map_cons, List.sum_cons]
     grind
 exact key _ fun p hp => hp
def wt (dn : List Int) (c : Nat) : Int := dn.getD (abcd.idxOf c) 0
theorem jju {dn : List Int} (h : jav dn) {c : Nat} (hc : c ∈ abcd.take dn.length) : wt dn c ∈ dn ∧ ∀ f : Nat → Rat, avg dn (fun g => if g = c then f g else 0) = (wt dn c : Rat) * f c := by
 rcases jh8 h with ⟨a, b, rfl⟩ | ⟨a, b, d, rfl⟩ | ⟨a, b, d, e, rfl⟩
 all_goals
   simp [abcd] at hc
   rcases hc with rfl | rfl | hc
 all_goals first
   | (constructor
      · simp [wt, abcd, List.idxOf, List.findIdx, List.findIdx.go]
      · intro f; simp [avg, prs, wt, abcd, List.idxOf, List.findIdx, List.findIdx.go]; try grind)
   | (rcases hc with rfl | rfl
      all_goals (constructor
                 · simp [wt, abcd, List.idxOf, List.findIdx, List.findIdx.go]
                 · intro f; simp [avg, prs, wt, abcd, List.idxOf, List.findIdx, List.findIdx.go]; try grind))
   | (subst hc
      constructor
      · simp [wt, abcd, List.idxOf, List.findIdx, List.findIdx.go]
      · intro f; simp [avg, prs, wt, abcd, List.idxOf, List.findIdx, List.findIdx.go]; try grind)
theorem jj4 {dn : List Int} (h : jav dn) {c : Nat} (hc : c ∈ abcd.take dn.length) : 1 ≤ wt dn c ∧ wt dn c ≤ 9 := h.w _ (jju h hc).1
def jaK (dn : List Int) : Tx → Rat
 | [] => 1
 | c :: t => (dn.sum : Rat) / (wt dn c : Rat) * jaK dn t
theorem jdA (dn : List Int) : ∀ a b : Tx, jaK dn (a ++ b) = jaK dn a * jaK dn b
 | [], b => by show jaK dn b = 1 * jaK dn b; grind
 | c :: a, b => by
   show (dn.sum : Rat) / (wt dn c : Rat) * jaK dn (a ++ b) = _ * jaK dn a * jaK dn b
   rw [jdA dn a b]; grind
theorem jeF (dn : List Int) (c : Nat) : jaK dn [c] = (dn.sum : Rat) / (wt dn c : Rat) := by
 show (dn.sum : Rat) / (wt dn c : Rat) * 1 = _; grind
theorem jg5 (dn : List Int) : ∀ a : Tx, jaK dn a.reverse = jaK dn a
 | [] => rfl
 | c :: a => by
   rw [List.reverse_cons, jdA, jg5 dn a, jeF]
   show _ = (dn.sum : Rat) / (wt dn c : Rat) * jaK dn a
   grind
def jce (dn : List Int) (w row : Tx) : Rat := ((List.range w.length).map fun k => if (w.take (k + 1)).isSuffixOf row = true then jaK dn (w.take (k + 1)) else 0).sum
theorem jee {a b : Tx} : a.isSuffixOf b = true ↔ a <:+ b := List.isSuffixOf_iff_suffix
theorem jdq (f : Nat → Rat) : ∀ n : Nat, ((List.range n).map f).sum + f n = f 0 + ((List.range n).map fun k => f (k + 1)).sum
 | 0 => by simp; grind
 | n + 1 => by
   have ih := jdq f n
   rw [List.range_succ, List.map_append, List.map_append, List.sum_append, List.sum_append]
   simp only [List.map_cons, List.map_nil, List.sum_cons, List.sum_nil]
   grind
theorem jm9 {dn : List Int} (h : jav dn) {w row : Tx} (hw : ∀ c ∈ w, c ∈ abcd.take dn.length) (hn : ¬ w <:+ row) : avg dn (fun g => jce dn w (row ++ [g])) = (dn.sum : Rat) * (1 + jce dn w row) := by
 unfold jce
 rw [jn1 (List.range w.length) (fun k g => if (w.take (k + 1)).isSuffixOf (row ++ [g]) = true then jaK dn (w.take (k + 1)) else 0)]
 have e : ((List.range w.length).map fun k => avg dn (fun g => if (w.take (k + 1)).isSuffixOf (row ++ [g]) = true then jaK dn (w.take (k + 1)) else 0)) = (List.range w.length).map fun k => (dn.sum : Rat) * (if (w.take k).isSuffixOf row = true then jaK dn (w.take k) else 0) := by
   apply List.map_congr_left
   intro k hk
   have hk := List.mem_range.mp hk
   have et : w.take (k + 1) = w.take k ++ [w[k]] := by rw [List.take_succ_eq_append_getElem hk]
   have hc := hw _ (List.getElem_mem hk)
   have iff : ∀ g, ((w.take (k + 1)).isSuffixOf (row ++ [g]) = true) ↔ (g = w[k] ∧ (w.take k).isSuffixOf row = true) := fun g => by
     rw [jee, jee, et]
     constructor
     · rintro ⟨p, hp⟩
       rw [← List.append_assoc] at hp
       have := List.append_inj' hp rfl
       exact ⟨by simpa using this.2.symm, p, this.1⟩
     · rintro ⟨rfl, p, hp⟩
       exact ⟨p, by rw [← List.append_assoc, hp]⟩
   by_cases hs : (w.take k).isSuffixOf row = true
   · have e2 : (fun g => if (w.take (k + 1)).isSuffixOf (row ++ [g]) = true then jaK dn (w.take (k + 1)) else 0) = fun g => if g = w[k] then (fun _ => jaK dn (w.take (k + 1))) g else 0 := by
       funext g
       by_cases hg : g = w[k]
       · rw [if_pos ((iff g).mpr ⟨hg, hs⟩), if_pos hg]
       · rw [if_neg (fun z => hg ((iff g).mp z).1), if_neg hg]
     rw [e2, (jju h hc).2, if_pos hs, et, jdA, jeF]
     have wp := jj4 h hc
     have nz : (wt dn w[k] : Rat) ≠ 0 := fun z => by have := jb1 (show 0 < wt dn w[k] by omega); grind
     grind
   · have e2 : (fun g => if (w.take (k + 1)).isSuffixOf (row ++ [g]) = true then jaK dn (w.take (k + 1)) else 0) = fun _ => (0 : Rat) := by
       funext g
       rw [if_neg (fun z => hs ((iff g).mp z).2)]
     rw [e2, jiv h, if_neg hs]
 rw [e]
 have shift := jdq (fun k => if (w.take k).isSuffixOf row = true then jaK dn (w.take k) else 0) w.length
 have z0 : (if (w.take 0).isSuffixOf row = true then jaK dn (w.take 0) else 0) = (1 : Rat) := by rw [if_pos (jee.mpr (by simp))]; rfl
 have zn : (if (w.take w.length).isSuffixOf row = true then jaK dn (w.take w.length) else 0) = (0 : Rat) := by rw [List.take_length, if_neg (fun z => hn (jee.mp z))]
 have sm : ∀ (l : List Nat) (f : Nat → Rat) (a : Rat), (l.map fun k => a * f k).sum = a * (l.map f).sum := by
   intro l f a
   induction l with
   | nil => simp
   | cons b l ih => simp only [List.map_cons, List.sum_cons]; rw [ih]; grind
 rw [sm]
 rw [z0, zn] at shift
 grind
theorem jgV {dn : List Int} {ws : List Tx} {w : Tx} (hw : w ∈ ws) (row : Tx) : jce dn w (stF ws row) = jce dn w row := by
 have hne : ws ≠ [] := by intro z; subst z; simp at hw
 unfold jce
 congr 1
 apply List.map_congr_left
 intro k _
 have iff : (w.take (k + 1)).isSuffixOf (stF ws row) = true ↔ (w.take (k + 1)).isSuffixOf row = true := by
   rw [jee, jee]
   constructor
   · intro h; exact h.trans (jco hne row)
   · intro h
     exact jgQ h (jco hne row) (jlT hne h ⟨w, hw, List.take_prefix _ _⟩)
 by_cases h : (w.take (k + 1)).isSuffixOf row = true
 · rw [if_pos h, if_pos (iff.mpr h)]
 · rw [if_neg h, if_neg (fun z => h (iff.mp z))]
theorem Race.open {n : Nat} {ws : List Tx} (R : Race n ws) {s w : Tx} (hs : Beg ws s) (hn : s ∉ ws) (hw : w ∈ ws) : ¬ w <:+ s := fun z => by
 have := jmP R.apart hw z
 rw [jjI R.ne hs] at this
 subst this
 exact hn hw
theorem jiV {dn : List Int} {ws : List Tx} (h : jav dn) (R : Race dn.length ws) {w : Tx} (hw : w ∈ ws) : ja6 dn ws (-1) (jce dn w) := by
 intro s hs hn
 have e : (fun g => jce dn w (stF ws (s ++ [g]))) = fun g => jce dn w (s ++ [g]) := by funext g; exact jgV hw _
 rw [e, jm9 h (R.w w hw).s (R.open hs hn hw)]
 grind
theorem ja6.lin {dn : List Int} {ws : List Tx} {c d : Rat} {X Y : Tx → Rat} (hX : ja6 dn ws c X) (hY : ja6 dn ws d Y) (a b : Rat) : ja6 dn ws (a * c + b * d) (fun t => a * X t + b * Y t) := by
 intro s hs hn
 have h1 := hX s hs hn
 have h2 := hY s hs hn
 show (dn.sum : Rat) * (a * X s + b * Y s) = avg dn (fun g => a * X (stF ws (s ++ [g])) + b * Y (stF ws (s ++ [g]))) + _
 rw [jlO]
 grind
theorem ja6.const {dn : List Int} {ws : List Tx} (h : jav dn) (a : Rat) : ja6 dn ws 0 (fun _ => a) := by
 intro s hs hn
 rw [jiv h]
 grind
theorem ja6.at {dn : List Int} {ws : List Tx} {c d : Rat} {X : Tx → Rat} (hX : ja6 dn ws c X) (e : c = d) : ja6 dn ws d X := e ▸ hX
def jm6 : List Tx → List Tx
 | [] => []
 | a :: l => if a ∈ l then jm6 l else a :: jm6 l
theorem je6 {t : Tx} : ∀ {l : List Tx}, t ∈ jm6 l ↔ t ∈ l
 | [] => by simp [jm6]
 | a :: l => by
   unfold jm6
   by_cases h : a ∈ l
   · rw [if_pos h, je6, List.mem_cons]
     exact ⟨.inr, fun z => z.elim (fun e => e ▸ h) id⟩
   · rw [if_neg h, List.mem_cons, List.mem_cons, je6]
theorem jep : ∀ l : List Tx, (jm6 l).Nodup
 | [] => by simp [jm6]
 | a :: l => by
   unfold jm6
   by_cases h : a ∈ l
   · rw [if_pos h]; exact jep l
   · rw [if_neg h, List.nodup_cons]
     exact ⟨fun z => h (je6.mp z), jep l⟩
def jkJ (ws : List Tx) : List Tx := jm6 (ws.flatMap fun w => (List.range (w.length + 1)).map fun k => w.take k)
theorem jho (ws : List Tx) : jgs ws (jkJ ws) := by
 refine ⟨jep _, fun t => ?_⟩
 unfold jkJ
 rw [je6, List.mem_flatMap]
 constructor
 · rintro ⟨w, hw, h⟩
   obtain ⟨k, _, rfl⟩ := List.mem_map.mp h
   exact ⟨w, hw, List.take_prefix _ _⟩
 · rintro ⟨w, hw, h⟩
   exact ⟨w, hw, List.mem_map.mpr ⟨t.length, List.mem_range.mpr (by have := h.length_le; omega), (List.prefix_iff_eq_take.mp h).symm⟩⟩
theorem jfR {dn : List Int} {ws : List Tx} (hd : jav dn) (R : Race dn.length ws) {s : Tx} (hs : Beg ws s) (hn : s ∉ ws) : ∃ n r, Told dn ws (jkJ ws) n s r := by
 have B := jho ws
 refine ⟨_, _, (jfs (others := (jkJ ws).filter fun t => decide (t ∉ ws ∧ t ≠ s)) hd R B hs hn (B.nd.filter _) fun t => ?_).2⟩
 rw [List.mem_filter, B.mem]
 simp
theorem jfV {dn : List Int} {ws : List Tx} (hd : jav dn) (R : Race dn.length ws) {c : Rat} {X Y : Tx → Rat} (hX : ja6 dn ws c X) (hY : ja6 dn ws c Y) (h : ∀ w ∈ ws, X w = Y w) {s : Tx} (hs : Beg ws s) : X s = Y s := by
 by_cases hn : s ∈ ws
 · exact h s hn
 have D := (hX.lin hY 1 (-1)).at (show 1 * c + (-1) * c = 0 by grind)
 obtain ⟨n, r, T⟩ := jfR hd R hs hn
 have B := jho ws
 have own := T.own R B
 have hlt := jcY ((B.mem s).mpr hs)
 have := T.split R B hs D (i := (jkJ ws).length) (by omega) fun j h1 h2 => by
   by_cases hj : j < (jkJ ws).length
   · have e := List.getElem?_eq_getElem hj
     rw [jiT e]
     have hb' : Beg ws (jkJ ws)[j] := (B.mem _).mp (List.getElem_mem hj)
     have ej := jes B.nd e
     by_cases hjw : (jkJ ws)[j] ∈ ws
     · have := h _ hjw; grind
     · have := T.zero _ hb' hjw (fun z => h1 (by rw [← ej, z]))
       rw [ej] at this
       rw [this]; grind
   · have : xOf (jkJ ws) (fun t => 1 * X t + (-1) * Y t) 0 j = 0 := by unfold xOf; rw [List.getElem?_eq_none_iff.mpr (by omega)]
     rw [this]; grind
 rw [je4] at this
 have nz : ((r.getD ((jkJ ws).idxOf s) 0 : Int) : Rat) ≠ 0 := fun z => by have := jb1 own; grind
 have z : ((r.getD ((jkJ ws).idxOf s) 0 : Int) : Rat) * (X s - Y s) = 0 := by grind
 have : X s - Y s = 0 := by grind
 grind
open Classical in
noncomputable def sol (dn : List Int) (ws : List Tx) (b : Tx → Rat) (c : Rat) : Tx → Rat := if h : ∃ X, ja6 dn ws c X ∧ ∀ w ∈ ws, X w = b w then h.choose else fun _ => 0
theorem jeh {dn : List Int} {ws : List Tx} (hd : jav dn) (R : Race dn.length ws) (b : Tx → Rat) (c : Rat) : ja6 dn ws c (sol dn ws b c) ∧ ∀ w ∈ ws, sol dn ws b c w = b w := by
 have h := jhA hd R (jho ws) b c
 unfold sol
 rw [dif_pos h]
 exact h.choose_spec
noncomputable def shq (dn : List Int) (ws : List Tx) (w : Tx) : Tx → Rat := sol dn ws (fun u => if u = w then 1 else 0) 0
noncomputable def mnq (dn : List Int) (ws : List Tx) : Tx → Rat := sol dn ws (fun _ => 0) 1
theorem divInt_nonneg {a b : Int} (ha : 0 ≤ a) (hb : 0 < b) : 0 ≤ Rat.divInt a b := Rat.divInt_nonneg ha (by omega)
theorem jki {dn : List Int} {ws : List Tx} (hd : jav dn) (R : Race dn.length ws) {s : Tx} (hs : Beg ws s) : 0 ≤ mnq dn ws s := by
 obtain ⟨h1, h2⟩ := jeh hd R (fun _ => 0) 1
 by_cases hn : s ∈ ws
 · show 0 ≤ sol _ _ _ _ _
   rw [h2 s hn]; exact Rat.le_refl
 · obtain ⟨n, r, T⟩ := jfR hd R hs hn
   have B := jho ws
   have e := T.mean R B hs hn h1 h2
   show 0 ≤ sol _ _ _ _ _
   rw [e]
   have hlt := jcY ((B.mem s).mpr hs)
   have := T.good.off (jkJ ws).length (by omega)
   exact divInt_nonneg (by omega) (T.own R B)
theorem joz {dn : List Int} {ws : List Tx} (hd : jav dn) (R : Race dn.length ws) {s : Tx} (hs : Beg ws s) (hn : s ∉ ws) : 1 ≤ mnq dn ws s := by
 obtain ⟨h1, h2⟩ := jeh hd R (fun _ => 0) 1
 have e := h1 s hs hn
 have e' : (dn.sum : Rat) * mnq dn ws s = avg dn (fun g => mnq dn ws (stF ws (s ++ [g]))) + (dn.sum : Rat) * 1 := e
 have := jkB hd (f := fun g => mnq dn ws (stF ws (s ++ [g]))) fun c _ => jki hd R (jcH R.ne _)
 have hT := jb1 (show 0 < dn.sum by have := jeB hd; omega)
 refine Rat.not_lt.mp fun z => ?_
 have := Rat.mul_pos hT (show 0 < 1 - mnq dn ws s by grind)
 grind
theorem jeD {dn : List Int} {ws : List Tx} (hd : jav dn) : ∀ (l : List Tx) (f : Tx → Tx → Rat), (∀ u ∈ l, ja6 dn ws 0 (f u)) → ja6 dn ws 0 (fun t => (l.map fun u => f u t).sum)
 | [], f, _ => by simpa using ja6.const hd 0
 | u :: l, f, h => by
   have ih := jeD hd l f fun v hv => h v (List.mem_cons_of_mem _ hv)
   have := ((h u List.mem_cons_self).lin ih 1 1).at (show (1 : Rat) * 0 + 1 * 0 = 0 by grind)
   have e : (fun t => ((u :: l).map fun u => f u t).sum) = fun t => 1 * f u t + 1 * (l.map fun u => f u t).sum := by funext t; simp only [List.map_cons, List.sum_cons]; grind
   rw [e]; exact this
theorem jfl (f : Tx → Rat) : ∀ {l : List Tx} {w : Tx}, l.Nodup → w ∈ l → (l.map fun u => f u * (if w = u then 1 else 0)).sum = f w
 | [], _, _, h => by simp at h
 | u :: l, w, nd, h => by
   have nd' := List.nodup_cons.mp nd
   rw [List.map_cons, List.sum_cons]
   by_cases e : w = u
   · subst e
     have z : (l.map fun u => f u * (if w = u then (1 : Rat) else 0)).sum = 0 := by
       have : ∀ m : List Tx, w ∉ m → (m.map fun u => f u * (if w = u then (1 : Rat) else 0)).sum = 0 := by
         intro m
         induction m with
         | nil => intro _; rfl
         | cons a m ih =>
           intro hm
           have hm' : ¬ w = a ∧ w ∉ m := by simpa using hm
           rw [List.map_cons, List.sum_cons, ih hm'.2, if_neg hm'.1]; grind
       exact this l nd'.1
     rw [z, if_pos rfl]; grind
   · have hm : w ∈ l := by rcases List.mem_cons.mp h with z | z; exact absurd z e; exact z
     rw [if_neg e, jfl f nd'.2 hm]; grind
theorem jn8 {dn : List Int} {ws : List Tx} (hd : jav dn) (R : Race dn.length ws) {s : Tx} (hs : Beg ws s) : (ws.map fun w => shq dn ws w s).sum = 1 := by
 have h := jeD (ws := ws) hd ws (fun w => shq dn ws w) fun u _ => (jeh hd R _ 0).1
 refine jfV hd R h (ja6.const hd 1) (fun w hw => ?_) hs
 have : (ws.map fun u => shq dn ws u w) = ws.map fun u => (fun _ => (1 : Rat)) u * (if w = u then 1 else 0) := by
   apply List.map_congr_left
   intro u _
   show sol dn ws _ 0 w = _
   rw [(jeh hd R _ 0).2 w hw]; grind
 show (ws.map fun u => shq dn ws u w).sum = 1
 rw [this]
 exact jfl (fun _ => 1) R.nd hw
theorem jpk {dn : List Int} {ws : List Tx} (hd : jav dn) (R : Race dn.length ws) {s w : Tx} (hs : Beg ws s) (hw : w ∈ ws) : mnq dn ws s = (ws.map fun u => jce dn w u * shq dn ws u s).sum - jce dn w s := by
 obtain ⟨h1, h2⟩ := jeh hd R (fun _ => 0) 1
 have hz := jeD (ws := ws) hd ws (fun u t => jce dn w u * shq dn ws u t) fun u _ => by
   have := ((jeh hd R (fun v => if v = u then 1 else 0) 0).1.lin (ja6.const hd 0) (jce dn w u) 0).at (show jce dn w u * 0 + 0 * 0 = 0 by grind)
   intro s' a b
   have := this s' a b
   have e1 : (fun g => jce dn w u * shq dn ws u (stF ws (s' ++ [g]))) = fun g => jce dn w u * sol dn ws (fun v => if v = u then 1 else 0) 0 (stF ws (s' ++ [g])) + 0 * 0 := by funext g; show _ = jce dn w u * shq dn ws u (stF ws (s' ++ [g])) + 0 * 0; grind
   rw [e1]
   have e2 : jce dn w u * shq dn ws u s' = jce dn w u * sol dn ws (fun v => if v = u then 1 else 0) 0 s' + 0 * 0 := by show _ = jce dn w u * shq dn ws u s' + 0 * 0; grind
   show _ * (jce dn w u * shq dn ws u s') = _
   rw [e2]
   exact this
 have h3 := (hz.lin (jiV hd R hw) 1 (-1)).at (show (1 : Rat) * 0 + -1 * -1 = 1 by grind)
 have := jfV hd R h1 h3 (fun v hv => ?_) hs
 · show sol dn ws _ 1 s = _
   rw [this]; grind
 · rw [h2 v hv]
   have : (ws.map fun u => jce dn w u * shq dn ws u v) = ws.map fun u => jce dn w u * (if v = u then 1 else 0) := by
     apply List.map_congr_left
     intro u _
     show jce dn w u * sol dn ws _ 0 v = _
     rw [(jeh hd R _ 0).2 v hv]
   show 0 = 1 * (ws.map fun u => jce dn w u * shq dn ws u v).sum + -1 * jce dn w v
   rw [this, jfl (jce dn w) R.nd hv]
   grind
end Wr
namespace Wr
open My
def cc (dn : List Int) (w : Tx) : Rat := jce dn w w
theorem jcO (f : Nat → Rat) : ∀ (n m : Nat), n ≤ m → (∀ k, n ≤ k → k < m → f k = 0) → ((List.range m).map f).sum = ((List.range n).map f).sum
 | n, 0, h, _ => by have : n = 0 := by omega
                    subst this; rfl
 | n, m + 1, h, z => by
   by_cases e : n = m + 1
   · subst e; rfl
   · have ih := jcO f n m (by omega) fun k h1 h2 => z k h1 (by omega)
     rw [List.range_succ, List.map_append, List.sum_append, ih]
     have := z m (by omega) (by omega)
     simp only [List.map_cons, List.map_nil, List.sum_cons, List.sum_nil]
     grind
theorem jfx {dn : List Int} {p w : Tx} (h : p <+: w) : jce dn w p = cc dn p := by
 have hl := h.length_le
 unfold jce cc jce
 rw [jcO _ p.length w.length hl fun k h1 h2 => ?_]
 · congr 1
   apply List.map_congr_left
   intro k hk
   have hk := List.mem_range.mp hk
   have e : w.take (k + 1) = p.take (k + 1) := by
     obtain ⟨r, rfl⟩ := h
     rw [List.take_append_of_le_length (by omega)]
   rw [e]
 · rw [if_neg fun z => ?_]
   have := (jee.mp z).length_le
   rw [List.length_take] at this
   omega
theorem jjz {n : Nat} {w : Tx} (h : jaG n w) : Race n [w] := by
 refine ⟨by simp, by simp, fun l hl => ?_, by simp, fun a ha b hb _ => ?_⟩
 · have : l = w := by simpa using hl
   subst this; exact h
 · have e1 : a = w := by simpa using ha
   have e2 : b = w := by simpa using hb
   rw [e1, e2]
theorem jmn {dn : List Int} (hd : jav dn) {w s : Tx} (h : jaG dn.length w) (hs : s <+: w) : mnq dn [w] s = cc dn w - cc dn s := by
 have R := jjz h
 have hb : Beg [w] s := ⟨w, by simp, hs⟩
 have e := jpk hd R hb (w := w) (by simp)
 have t := jn8 hd R hb
 simp only [List.map_cons, List.map_nil, List.sum_cons, List.sum_nil] at e t
 rw [e, jfx hs]
 have t' : shq dn [w] w s = 1 := by grind
 rw [t']
 show jce dn w w * 1 + 0 - cc dn s = jce dn w w - cc dn s
 grind
theorem jnR {dn : List Int} (hd : jav dn) {p : Tx} {c : Nat} (h : jaG dn.length (p ++ [c])) : cc dn p + 1 ≤ cc dn (p ++ [c]) := by
 have R := jjz h
 have hp : p <+: p ++ [c] := List.prefix_append _ _
 have e := jmn hd h hp
 have := joz hd R (s := p) ⟨_, by simp, hp⟩ (by
   intro z
   have : p = p ++ [c] := by simpa using z
   have := congrArg List.length this
   simp at this)
 grind
theorem jkM {dn : List Int} (hd : jav dn) {p : Tx} : ∀ {r : Tx}, r ≠ [] → jaG dn.length (p ++ r) → cc dn p + 1 ≤ cc dn (p ++ r) := by
 intro r
 induction h : r.length generalizing r with
 | zero => intro hr _; exact absurd (List.eq_nil_of_length_eq_zero h) hr
 | succ n ih =>
   intro hr hw
   obtain ⟨q, c, e⟩ : ∃ q c, r = q ++ [c] := by
     rcases List.eq_nil_or_concat r with e | ⟨q, c, e⟩
     · exact absurd e hr
     · exact ⟨q, c, by rw [e, List.concat_eq_append]⟩
   subst e
   rw [← List.append_assoc] at hw ⊢
   have s := jnR hd hw
   by_cases hq : q = []
   · subst hq; simpa using s
   · have h1 : 1 ≤ (p ++ q).length := by
       have : q.length ≠ 0 := fun z => hq (List.eq_nil_of_length_eq_zero z)
       rw [List.length_append]; omega
     have hi := hw.hi
     rw [List.length_append, List.length_singleton] at hi
     have := ih (r := q) (by simp at h; exact h) hq ⟨h1, by omega, fun x hx => hw.s x (List.mem_append_left _ hx)⟩
     grind
theorem jnH (dn : List Int) (w : Tx) : cc dn w.reverse = cc dn w := by
 unfold cc jce
 rw [List.length_reverse]
 congr 1
 apply List.map_congr_left
 intro k hk
 have hk := List.mem_range.mp hk
 have e1 : w.reverse.take (k + 1) = (w.drop (w.length - (k + 1))).reverse := by rw [List.take_reverse]
 have ld : (w.drop (w.length - (k + 1))).length = k + 1 := by rw [List.length_drop]; omega
 have lt : (w.take (k + 1)).length = k + 1 := by rw [List.length_take]; omega
 have i1 : (w.reverse.take (k + 1)).isSuffixOf w.reverse = true ↔ w.drop (w.length - (k + 1)) = w.take (k + 1) := by
   rw [jee, e1, List.reverse_suffix, List.prefix_iff_eq_take, ld]
 have i2 : (w.take (k + 1)).isSuffixOf w = true ↔ w.drop (w.length - (k + 1)) = w.take (k + 1) := by
   rw [jee, List.suffix_iff_eq_drop, lt]
   exact eq_comm
 by_cases h : w.drop (w.length - (k + 1)) = w.take (k + 1)
 · rw [if_pos (i1.mpr h), if_pos (i2.mpr h), e1, jg5, h]
 · rw [if_neg fun z => h (i1.mp z), if_neg fun z => h (i2.mp z)]
theorem jla {dn : List Int} (hd : jav dn) {u w : Tx} (hw : jaG dn.length w) (h : u <:+ w) (hne : u ≠ w) : cc dn u + 1 ≤ cc dn w := by
 obtain ⟨p, rfl⟩ := h
 have hp : p ≠ [] := fun z => hne (by rw [z]; rfl)
 have := jkM hd (p := u.reverse) (r := p.reverse) (by simpa using hp) ⟨by have := hw.lo; simp at *; omega, by have := hw.hi; simp at *; omega, fun c hc => hw.s c (by simp at *; exact hc.symm)⟩
 rw [← List.reverse_append, jnH, jnH] at this
 exact this
theorem jkP {dn : List Int} (hd : jav dn) {a b : Tx} (ha : jaG dn.length a) (hb : jaG dn.length b) (hl : a.length = b.length) (hne : a ≠ b) : jce dn b a + 1 ≤ cc dn a := by
 have hm : ([b] : List Tx) ≠ [] := by simp
 have e := jgV (dn := dn) (ws := [b]) (w := b) (by simp) a
 obtain ⟨w, hw, hp⟩ := jcH hm a
 have hwb : w = b := by simpa using hw
 subst hwb
 rw [jfx hp] at e
 rw [← e]
 refine jla hd ha (jco hm a) fun z => hne ?_
 rw [z] at hp
 exact hp.eq_of_length hl
end Wr
namespace Wr
open My
def Sz (n : Nat) (q : Rat) : Prop := q.num.natAbs ≤ 2 ^ n ∧ ((q.den : Nat) : Int).natAbs ≤ 2 ^ n
theorem jmT (t b : Int) : jeQ [t, b] = Nat.gcd t.natAbs b.natAbs := by
 unfold jeQ
 simp
theorem jeN {t b : Int} (hb : 0 < b) : (Rat.divInt t b).num = t / ((jeQ [t, b] : Nat) : Int) ∧ (((Rat.divInt t b).den : Nat) : Int) = b / ((jeQ [t, b] : Nat) : Int) := by
 obtain ⟨n, rfl⟩ := Int.eq_ofNat_of_zero_le (show 0 ≤ b by omega)
 have hn : n ≠ 0 := by omega
 have e : Rat.divInt t (n : Int) = Rat.normalize t n hn := by
   show mkRat t n = _
   rw [Rat.normalize_eq_mkRat]
 rw [e, Rat.normalize_eq, jmT]
 refine ⟨rfl, ?_⟩
 show ((n / t.natAbs.gcd n : Nat) : Int) = _
 simp
theorem jcV {t b : Int} {n : Nat} (hb : 0 < b) (h1 : t.natAbs ≤ 2 ^ n) (h2 : b.natAbs ≤ 2 ^ n) : Sz n (Rat.divInt t b) := by
 obtain ⟨e1, e2⟩ := jeN (t := t) hb
 refine ⟨?_, ?_⟩
 · rw [e1]; exact Nat.le_trans (Int.natAbs_ediv_le_natAbs _ _) h1
 · rw [e2]; exact Nat.le_trans (Int.natAbs_ediv_le_natAbs _ _) h2
theorem Sz.mono {n m : Nat} {q : Rat} (h : Sz n q) (hm : n ≤ m) : Sz m q := ⟨Nat.le_trans h.1 (Nat.pow_le_pow_right (by decide) hm), Nat.le_trans h.2 (Nat.pow_le_pow_right (by decide) hm)⟩
theorem jfW {t b : Int} (hb : 0 < b) : Rat.divInt t b = (t : Rat) / (b : Rat) := Rat.divInt_eq_div ..
theorem jgY (q : Rat) : q = (q.num : Rat) / ((q.den : Int) : Rat) := by
 rw [← Rat.divInt_eq_div, Rat.num_divInt_den]
theorem den_pos (q : Rat) : (0 : Int) < (q.den : Int) := by have := q.den_pos; omega
theorem jgA (q : Rat) : ((q.den : Int) : Rat) ≠ 0 := fun z => by have := jb1 (den_pos q); grind
theorem jh2 (p q : Rat) : Rat.divInt (p.num * (q.den : Int) + q.num * (p.den : Int)) ((p.den : Int) * (q.den : Int)) = p + q := by
 have h1 := jgA p
 have h2 := jgA q
 rw [Rat.divInt_eq_div, Rat.intCast_add, Rat.intCast_mul, Rat.intCast_mul, Rat.intCast_mul]
 have e1 := jgY p
 have e2 := jgY q
 generalize (p.num : Rat) = a at *
 generalize ((p.den : Int) : Rat) = b at *
 generalize (q.num : Rat) = c at *
 generalize ((q.den : Int) : Rat) = d at *
 subst e1 e2
 grind
theorem jiM (p q : Rat) : Rat.divInt (p.num * (q.den : Int) - q.num * (p.den : Int)) ((p.den : Int) * (q.den : Int)) = p - q := by
 have h1 := jgA p
 have h2 := jgA q
 rw [Rat.divInt_eq_div, Rat.intCast_sub, Rat.intCast_mul, Rat.intCast_mul, Rat.intCast_mul]
 have e1 := jgY p
 have e2 := jgY q
 generalize (p.num : Rat) = a at *
 generalize ((p.den : Int) : Rat) = b at *
 generalize (q.num : Rat) = c at *
 generalize ((q.den : Int) : Rat) = d at *
 subst e1 e2
 grind
theorem jdd (p q : Rat) : (0 : Int) < (p.den : Int) * (q.den : Int) := Int.mul_pos (den_pos p) (den_pos q)
theorem jbN {a b : Int} {m n : Nat} (ha : a.natAbs ≤ 2 ^ m) (hb : b.natAbs ≤ 2 ^ n) : (a * b).natAbs ≤ 2 ^ (m + n) := by
 rw [Int.natAbs_mul, Nat.pow_add]; exact Nat.mul_le_mul ha hb
theorem jgO {a b : Int} {m n : Nat} (ha : a.natAbs ≤ 2 ^ m) (hb : b.natAbs ≤ 2 ^ n) : (a + b).natAbs ≤ 2 ^ (max m n + 1) := by
 have h1 := Nat.pow_le_pow_right (show 0 < 2 by decide) (Nat.le_max_left m n)
 have h2 := Nat.pow_le_pow_right (show 0 < 2 by decide) (Nat.le_max_right m n)
 rw [Nat.pow_succ]
 have := Int.natAbs_add_le a b
 omega
theorem jko {a b : Int} {m n : Nat} (ha : a.natAbs ≤ 2 ^ m) (hb : b.natAbs ≤ 2 ^ n) : (a - b).natAbs ≤ 2 ^ (max m n + 1) := by
 have := jgO (a := a) (b := -b) ha (by rw [Int.natAbs_neg]; exact hb)
 rwa [← Int.sub_eq_add_neg] at this
theorem jdB {n m : Nat} {a : Nat} (h : a ≤ 2 ^ n) (hm : n ≤ m) : a ≤ 2 ^ m := Nat.le_trans h (Nat.pow_le_pow_right (by decide) hm)
theorem jk6 {p q : Rat} {m n : Nat} (hp : Sz m p) (hq : Sz n q) : Sz (m + n + 1) (p + q) := by
 rw [← jh2]
 have a := jgO (jbN hp.1 hq.2) (jbN hq.1 hp.2)
 exact jcV (jdd p q) (jdB a (by omega)) (jdB (jbN hp.2 hq.2) (by omega))
theorem jjH {p q : Rat} {m n : Nat} (hp : Sz m p) (hq : Sz n q) : Sz (m + n + 1) (p - q) := by
 rw [← jiM]
 have a := jko (jbN hp.1 hq.2) (jbN hq.1 hp.2)
 exact jcV (jdd p q) (jdB a (by omega)) (jdB (jbN hp.2 hq.2) (by omega))
def jmf (dn : List Int) (n : Nat) : Int := dn.sum ^ n
def jlp (dn : List Int) (t : Tx) : Int := (t.map (wt dn)).foldl (· * ·) 1
theorem jfh (dn : List Int) (t : Tx) (c : Nat) : jlp dn (t ++ [c]) = jlp dn t * wt dn c := by
 unfold jlp
 rw [List.map_append, List.foldl_append]
 rfl
theorem jf4 (dn : List Int) (n : Nat) : jmf dn (n + 1) = jmf dn n * dn.sum := Int.pow_succ ..
theorem je2 {dn : List Int} (h : jav dn) : ∀ {t : Tx}, (∀ c ∈ t, c ∈ abcd.take dn.length) → 0 < jlp dn t ∧ jlp dn t ≤ 9 ^ t.length := by
 intro t
 induction hl : t.length generalizing t with
 | zero =>
   intro _
   have : t = [] := List.eq_nil_of_length_eq_zero hl
   subst this
   exact ⟨show (0 : Int) < 1 by decide, show (1 : Int) ≤ 9 ^ 0 by decide⟩
 | succ n ih =>
   intro hc
   obtain ⟨r, c, e⟩ : ∃ r c, t = r ++ [c] := by
     rcases List.eq_nil_or_concat t with e | ⟨q, c, e⟩
     · subst e; simp at hl
     · exact ⟨q, c, by rw [e, List.concat_eq_append]⟩
   subst e
   have := ih (t := r) (by simpa using hl) fun c' hc' => hc c' (List.mem_append_left _ hc')
   have w := jj4 h (hc c (by simp))
   rw [jfh]
   refine ⟨Int.mul_pos this.1 (by omega), ?_⟩
   have e9 : (9 : Int) ^ (n + 1) = 9 ^ n * 9 := Int.pow_succ ..
   rw [e9]
   have : jlp dn r * wt dn c ≤ 9 ^ n * 9 := Int.mul_le_mul this.2 w.2 (by omega) (by omega)
   exact this
theorem jg9 {dn : List Int} (h : jav dn) : ∀ n, 0 < jmf dn n ∧ jmf dn n ≤ 36 ^ n
 | 0 => by have e : jmf dn 0 = 1 := Int.pow_zero _
           rw [e]; exact ⟨by decide, by decide⟩
 | n + 1 => by
   have ih := jg9 h n
   have s := jeB h
   rw [jf4]
   refine ⟨Int.mul_pos ih.1 (by omega), ?_⟩
   have e : (36 : Int) ^ (n + 1) = 36 ^ n * 36 := Int.pow_succ ..
   rw [e]
   exact Int.mul_le_mul ih.2 s.2 (by omega) (by omega)
theorem jg4 {a : Int} (ha : 1 ≤ a) : ∀ {n m : Nat}, n ≤ m → a ^ n ≤ a ^ m := by
 intro n m h
 induction h with
 | refl => exact Int.le_refl _
 | @step k hk ih =>
   have p : 0 ≤ a ^ k := Int.pow_nonneg (by omega)
   have : a ^ k * 1 ≤ a ^ k * a := Int.mul_le_mul_of_nonneg_left ha p
   rw [Int.pow_succ]
   omega
theorem jks {dn : List Int} (h : jav dn) {n : Nat} (hn : n ≤ 6) : jmf dn n ≤ 2176782336 := by
 have := (jg9 h n).2
 have := jg4 (a := 36) (by decide) hn
 have : (36 : Int) ^ 6 = 2176782336 := by decide
 omega
theorem jkc {dn : List Int} (h : jav dn) {t : Tx} (hn : t.length ≤ 6) (hc : ∀ c ∈ t, c ∈ abcd.take dn.length) : jlp dn t ≤ 531441 := by
 have := (je2 h hc).2
 have := jg4 (a := 9) (by decide) hn
 have : (9 : Int) ^ 6 = 531441 := by decide
 omega
theorem jeO {dn : List Int} (h : jav dn) : ∀ {t : Tx}, (∀ c ∈ t, c ∈ abcd.take dn.length) → jaK dn t = (jmf dn t.length : Rat) / (jlp dn t : Rat) := by
 intro t
 induction hl : t.length generalizing t with
 | zero =>
   intro _
   have : t = [] := List.eq_nil_of_length_eq_zero hl
   subst this
   have e : jmf dn 0 = 1 := Int.pow_zero _
   have e2 : jlp dn [] = 1 := rfl
   have e3 : jaK dn [] = 1 := rfl
   rw [e, e2, e3]
   show (1 : Rat) = ((1 : Int) : Rat) / ((1 : Int) : Rat)
   grind
 | succ n ih =>
   intro hc
   obtain ⟨r, c, e⟩ : ∃ r c, t = r ++ [c] := by
     rcases List.eq_nil_or_concat t with e | ⟨q, c, e⟩
     · subst e; simp at hl
     · exact ⟨q, c, by rw [e, List.concat_eq_append]⟩
   subst e
   have hr : ∀ c' ∈ r, c' ∈ abcd.take dn.length := fun c' hc' => hc c' (List.mem_append_left _ hc')
   have ih := ih (t := r) (by simpa using hl) hr
   have w := jj4 h (hc c (by simp))
   have b := (je2 h hr).1
   have hw : (wt dn c : Rat) ≠ 0 := fun z => by have := jb1 (show 0 < wt dn c by omega); grind
   have hb : (jlp dn r : Rat) ≠ 0 := fun z => by have := jb1 b; grind
   rw [jdA, jeF, ih, jfh, jf4, Rat.intCast_mul, Rat.intCast_mul]
   grind
theorem jhZ {dn : List Int} (h : jav dn) {t : Tx} (hn : t.length ≤ 6) (hc : ∀ c ∈ t, c ∈ abcd.take dn.length) : Sz 32 (jaK dn t) := by
 have b := je2 h hc
 have b2 := jkc h hn hc
 have a := jg9 h t.length
 have a2 := jks h hn
 rw [jeO h hc, ← jfW b.1]
 have q : (2 : Nat) ^ 32 = 4294967296 := by decide
 exact jcV b.1 (by omega) (by omega)
end Wr
namespace My
open PySem L2 PySem.Spec PyProof.Rows Wr
def ovl (one other : List Nat) : List Int := ((List.range (min one.length other.length)).filter fun k => (other.take (k + 1)).isSuffixOf one).map fun (k : Nat) => (1 : Int) + (k : Int)
theorem jl1 (one other : List Nat) : (ovl one other).length ≤ one.length := by
 unfold ovl
 rw [List.length_map]
 exact Nat.le_trans (List.length_filter_le _ _) (by rw [List.length_range]; exact Nat.min_le_left _ _)
abbrev txs (ws : List (List Nat)) : List V := ws.map fun l => V.str (S l)
structure jbc (n : Nat) (ws : List (List Nat)) : Prop where
 lo : 1 ≤ ws.length
 hi : ws.length ≤ 4
 w : ∀ l ∈ ws, jaG n l
 apart : ws.Pairwise fun a b => within a b = false ∧ within b a = false
theorem jct (ws : List (List Nat)) : (txs ws).length = ws.length := List.length_map ..
theorem jgL {ws : List (List Nat)} {i : Nat} (h : i < ws.length) : (txs ws)[i]? = some (.str (S ws[i])) := by
 rw [List.getElem?_map, List.getElem?_eq_getElem h]; rfl
theorem jl9 (xs : List V) (lo hi : Option Int) : jmh xs lo hi = jkH xs lo hi := rfl
def others (ws : List (List Nat)) (p : Nat) : List (List Nat) := ws.take p ++ ws.drop (p + 1)
theorem jbc.not_within {n : Nat} {ws : List (List Nat)} (h : jbc n ws) {p : Nat} (hp : p < ws.length) : (others ws p).any (fun o => within ws[p] o) = false := by
 rw [List.any_eq_false]
 intro o ho hw
 have key : ∀ i j (hi : i < ws.length) (hj : j < ws.length), i < j → within ws[i] ws[j] = false ∧ within ws[j] ws[i] = false := fun i j hi hj hij => List.pairwise_iff_getElem.mp h.apart i j hi hj hij
 rcases List.mem_append.mp ho with z | z
 · obtain ⟨i, hi, rfl⟩ := List.mem_take_iff_getElem.mp z
   have := (key i p (by omega) hp (by omega)).2
   rw [this] at hw; cases hw
 · obtain ⟨i, hi, rfl⟩ := List.mem_drop_iff_getElem.mp z
   have := (key p (p + 1 + i) hp (by omega) (by omega)).1
   rw [this] at hw; cases hw
def endAt (ws : List (List Nat)) (row : List Nat) (t : Nat) : Option (Nat × Nat) := (ws.findIdx? fun w => w.isSuffixOf (row.take (t + 1))).map fun p => (t + 1, p)
def jdF (ws : List (List Nat)) (row : List Nat) : Option (Nat × Nat) := (List.range row.length).findSome? (endAt ws row)
def jry (o : Option (Nat × Nat)) (v : V) (H : Hp) : Prop := match o with
 | none => v = .non
 | some (t, p) => ∃ a, v = .ref a ∧ H a = some (.tup [.int (t : Int), .int (p : Int)])
theorem jiR {ws : List (List Nat)} {row : List Nat} (h : ∀ t, t < row.length → endAt ws row t = none) : jdF ws row = none := by
 unfold jdF
 rw [List.findSome?_eq_none_iff]
 exact fun t ht => h t (List.mem_range.mp ht)
theorem jiZ {ws : List (List Nat)} {row : List Nat} {t : Nat} {r : Nat × Nat} (ht : t < row.length) (h : ∀ s, s < t → endAt ws row s = none) (e : endAt ws row t = some r) : jdF ws row = some r := by
 unfold jdF
 have key : ∀ n, t < n → (List.range n).findSome? (endAt ws row) = some r := by
   intro n hn
   induction n with
   | zero => omega
   | succ n ih =>
     rw [List.range_succ, List.findSome?_append]
     by_cases hnt : t < n
     · rw [ih hnt]; rfl
     · have : t = n := by omega
       subst this
       have hno : (List.range t).findSome? (endAt ws row) = none := by
         rw [List.findSome?_eq_none_iff]
         exact fun s hs => h s (List.mem_range.mp hs)
       rw [hno]
       simp [e]
 exact key _ ht
theorem jkb {ws : List (List Nat)} {row : List Nat} {t : Nat} (h : ∀ p (hp : p < ws.length), ws[p].isSuffixOf (row.take (t + 1)) = false) : endAt ws row t = none := by
 unfold endAt
 rw [Option.map_eq_none_iff, List.findIdx?_eq_none_iff]
 intro w hw
 obtain ⟨p, hp, rfl⟩ := List.mem_iff_getElem.mp hw
 simpa using h p hp
theorem jka {ws : List (List Nat)} {row : List Nat} {t p : Nat} (hp : p < ws.length) (h : ∀ q (hq : q < ws.length), q < p → ws[q].isSuffixOf (row.take (t + 1)) = false) (e : ws[p].isSuffixOf (row.take (t + 1)) = true) : endAt ws row t = some (t + 1, p) := by
 unfold endAt
 have : (ws.findIdx? fun w => w.isSuffixOf (row.take (t + 1))) = some p := by
   rw [List.findIdx?_eq_some_iff_getElem]
   exact ⟨hp, e, fun j hj => by rw [h j (by omega) hj]; exact Bool.false_ne_true⟩
 rw [this]
 rfl
theorem jlN (l : List Int) (a : Int) : jeQ (l ++ [a]) = Nat.gcd (jeQ l) a.natAbs := by unfold jeQ; rw [List.foldl_append]; rfl
theorem jqS {dn : List Int} (hd : jav dn) {c : Nat} (hc : c ∈ abcd.take dn.length) : atI (dn.map V.int) ((abcd.idxOf c : Nat) : Int) = some (V.int (wt dn c)) := by
 have hlt : abcd.idxOf c < dn.length := by
   rcases jh8 hd with ⟨a, b, rfl⟩ | ⟨a, b, d, rfl⟩ | ⟨a, b, d, e, rfl⟩
   all_goals
     have hm := List.mem_of_mem_take hc
     have hcs : c = 97 ∨ c = 98 ∨ c = 99 ∨ c = 100 := by simpa [abcd] using hm
     rcases hcs with rfl | rfl | rfl | rfl <;> first | (simp [abcd, List.idxOf, List.findIdx, List.findIdx.go]; done) | (exact absurd hc (by simp [abcd]))
 refine jfk ?_
 rw [List.getElem?_map, List.getElem?_eq_getElem hlt]
 unfold wt
 rw [List.getD_eq_getElem?_getD, List.getElem?_eq_getElem hlt]
 rfl
def jdG (dn : List Int) (other : List Nat) (l : List Int) : Rat := (l.map fun k => jaK dn (other.take k.toNat)).sum
theorem jgZ (p : Nat → Bool) (f : Nat → Rat) : ∀ l : List Nat, ((l.filter p).map f).sum = (l.map fun k => if p k = true then f k else 0).sum
 | [] => rfl
 | a :: l => by
   have ih := jgZ p f l
   cases h : p a with
   | true => rw [List.filter_cons_of_pos h, List.map_cons, List.sum_cons, ih, List.map_cons, List.sum_cons, if_pos h]
   | false => rw [List.filter_cons_of_neg (by rw [h]; exact Bool.false_ne_true), ih, List.map_cons, List.sum_cons, if_neg (by rw [h]; exact Bool.false_ne_true)]; grind
theorem jh3 (dn : List Int) (one other : List Nat) : jdG dn other (ovl one other) = jce dn other one := by
 unfold jdG ovl jce
 rw [List.map_map]
 have e : ((fun k : Int => jaK dn (other.take k.toNat)) ∘ fun (k : Nat) => (1 : Int) + (k : Int)) = fun k => jaK dn (other.take (k + 1)) := by
   funext k
   show jaK dn (other.take ((1 : Int) + (k : Int)).toNat) = _
   rw [show ((1 : Int) + (k : Int)).toNat = k + 1 by omega]
 rw [e, jgZ]
 symm
 refine jcO _ (min one.length other.length) other.length (Nat.min_le_right _ _) fun k h1 h2 => ?_
 rw [if_neg fun z => ?_]
 have := (jee.mp z).length_le
 rw [List.length_take] at this
 omega
theorem jiu {dn : List Int} (hd : jav dn) {other : List Nat} (hw : jaG dn.length other) : ∀ l : List Int, Sz (33 * l.length) (jdG dn other l) := by
 intro l
 induction hl : l.length generalizing l with
 | zero =>
   have : l = [] := List.eq_nil_of_length_eq_zero hl
   subst this
   exact ⟨show (0 : Rat).num.natAbs ≤ 2 ^ (33 * 0) by decide, show (((0 : Rat).den : Nat) : Int).natAbs ≤ 2 ^ (33 * 0) by decide⟩
 | succ n ih =>
   obtain ⟨r, c, e⟩ : ∃ r c, l = r ++ [c] := by
     rcases List.eq_nil_or_concat l with e | ⟨q, c, e⟩
     · subst e; simp at hl
     · exact ⟨q, c, by rw [e, List.concat_eq_append]⟩
   subst e
   have := ih r (by simpa using hl)
   have w := jhZ hd (t := other.take c.toNat) (by rw [List.length_take]; have := hw.hi; omega) fun x hx => hw.s x (List.mem_of_mem_take hx)
   have e : jdG dn other (r ++ [c]) = jdG dn other r + jaK dn (other.take c.toNat) := by
     unfold jdG
     rw [List.map_append, List.sum_append]
     simp only [List.map_cons, List.map_nil, List.sum_cons, List.sum_nil]
     grind
   rw [e]
   exact (jk6 this w).mono (by omega)
theorem jdj {dn : List Int} (hd : jav dn) {one other : List Nat} (h1 : jaG dn.length one) (h2 : jaG dn.length other) : Sz 200 (jce dn other one) := by
 rw [← jh3]
 refine (jiu hd h2 _).mono ?_
 have := jl1 one other
 have := h1.hi
 omega
theorem jg1 {a b : List Nat} : within a b = true ↔ a <:+: b := by
 unfold within
 rw [List.any_eq_true]
 constructor
 · rintro ⟨i, _, h⟩
   exact (List.isPrefixOf_iff_prefix.mp h).isInfix.trans (List.drop_suffix i b).isInfix
 · rintro ⟨p, q, h⟩
   refine ⟨p.length, List.mem_range.mpr (by have := congrArg List.length h; simp at this; omega), ?_⟩
   rw [List.isPrefixOf_iff_prefix, ← h, List.append_assoc, List.drop_left]
   exact List.prefix_append _ _
theorem jbc.race {n : Nat} {ws : List (List Nat)} (h : jbc n ws) : Race n ws := by
 have key : ∀ i j (hi : i < ws.length) (hj : j < ws.length), i < j → within ws[i] ws[j] = false ∧ within ws[j] ws[i] = false := fun i j hi hj hij => List.pairwise_iff_getElem.mp h.apart i j hi hj hij
 have ap : ∀ i j (hi : i < ws.length) (hj : j < ws.length), ws[i] <:+: ws[j] → i = j := fun i j hi hj hin => by
   rcases Nat.lt_trichotomy i j with z | z | z
   · have := (key i j hi hj z).1; rw [jg1.mpr hin] at this; cases this
   · exact z
   · have := (key j i hj hi z).2; rw [jg1.mpr hin] at this; cases this
 refine ⟨h.lo, h.hi, h.w, ?_, fun a ha b hb hin => ?_⟩
 · unfold List.Nodup
   rw [List.pairwise_iff_getElem]
   intro i j hi hj hij z
   have := ap i j hi hj (by rw [z]; exact List.infix_rfl)
   omega
 · obtain ⟨i, hi, rfl⟩ := List.mem_iff_getElem.mp ha
   obtain ⟨j, hj, rfl⟩ := List.mem_iff_getElem.mp hb
   have := ap i j hi hj hin
   subst this; rfl
end My
namespace My
open PySem L2 PySem.Spec PyProof.Rows Wr
def jkt (dn : List Int) (a b : List Nat) : Rat := (cc dn b - jce dn a b) / ((cc dn b - jce dn a b) + (cc dn a - jce dn b a))
theorem je1 {dn : List Int} (hd : jav dn) {a b : List Nat} (ha : jaG dn.length a) (hb : jaG dn.length b) (hl : a.length = b.length) (hne : a ≠ b) : 0 < cc dn b - jce dn a b := by
 have := jkP hd hb ha hl.symm (Ne.symm hne)
 grind
theorem jkv {p q : Rat} : q < p ↔ q.num * (p.den : Int) < p.num * (q.den : Int) := Rat.lt_iff ..
theorem part_of {p r : Rat} (hp : 0 < p) (hr : 0 < r) : 0 < p.den * (p + r).num ∧ Rat.divInt (p.num * ((p + r).den : Int)) ((p.den : Int) * (p + r).num) = p / (p + r) := by
 have hs : 0 < p + r := by grind
 have hn : 0 < (p + r).num := by
   have h1 := Rat.num_nonneg.mpr (Rat.le_of_lt hs)
   have h2 : (p + r).num ≠ 0 := fun z => by have := Rat.num_eq_zero.mp z; grind
   omega
 have hb : (0 : Int) < (p.den : Int) * (p + r).num := Int.mul_pos (den_pos p) hn
 refine ⟨hb, ?_⟩
 rw [jfW hb, Rat.intCast_mul, Rat.intCast_mul]
 have h1 := jgA p
 have h2 := jgA (p + r)
 have e1 := jgY p
 have e2 := jgY (p + r)
 have h3 : ((p + r).num : Rat) ≠ 0 := fun z => by have := jb1 hn; grind
 generalize ((p + r).num : Rat) = x at *
 generalize (((p + r).den : Int) : Rat) = y at *
 generalize (p.num : Rat) = u at *
 generalize ((p.den : Int) : Rat) = v at *
 rw [e2, e1]
 grind
def jhG (n : Nat) : Nat → List (List Nat)
 | 0 => [[]]
 | k + 1 => (jhG n k).flatMap fun t => (abcd.take n).map fun c => t ++ [c]
theorem jef {n : Nat} : ∀ {k : Nat} {t : List Nat}, t ∈ jhG n k ↔ t.length = k ∧ ∀ c ∈ t, c ∈ abcd.take n
 | 0, t => by
   constructor
   · intro h
     have : t = [] := by simpa [jhG] using h
     subst this; simp
   · rintro ⟨h, _⟩
     have : t = [] := List.eq_nil_of_length_eq_zero h
     subst this; simp [jhG]
 | k + 1, t => by
   show t ∈ (jhG n k).flatMap _ ↔ _
   rw [List.mem_flatMap]
   constructor
   · rintro ⟨u, hu, ht⟩
     obtain ⟨c, hc, rfl⟩ := List.mem_map.mp ht
     have := jef.mp hu
     refine ⟨by simp [this.1], fun x hx => ?_⟩
     rcases List.mem_append.mp hx with z | z
     · exact this.2 x z
     · have : x = c := by simpa using z
       subst this; exact hc
   · rintro ⟨h1, h2⟩
     obtain ⟨r, c, e⟩ : ∃ r c, t = r ++ [c] := by
       rcases List.eq_nil_or_concat t with e | ⟨q, c, e⟩
       · subst e; simp at h1
       · exact ⟨q, c, by rw [e, List.concat_eq_append]⟩
     subst e
     exact ⟨r, jef.mpr ⟨by simpa using h1, fun x hx => h2 x (List.mem_append_left _ hx)⟩, List.mem_map.mpr ⟨c, h2 c (by simp), rfl⟩⟩
theorem jhi {f : List Nat → List (List Nat)} {m : Nat} : ∀ {l : List (List Nat)}, (∀ t ∈ l, (f t).length = m) → (l.flatMap f).length = l.length * m
 | [], _ => by simp
 | a :: l, h => by
   rw [List.flatMap_cons, List.length_append, h a List.mem_cons_self, jhi fun t ht => h t (List.mem_cons_of_mem _ ht), List.length_cons, Nat.add_mul]
   omega
theorem jhB {n : Nat} (hn : n ≤ 4) : ∀ k : Nat, (jhG n k).length = n ^ k
 | 0 => rfl
 | k + 1 => by
   show ((jhG n k).flatMap _).length = _
   rw [jhi (m := n) fun t _ => by rw [List.length_map, List.length_take]; have : abcd.length = 4 := rfl; omega, jhB hn k, Nat.pow_succ]
def jej (n : Nat) (w : List Nat) : List (List Nat) := (jhG n w.length).filter fun t => !decide (t = w)
def jgj (f : List Nat → Rat) (b : List Nat) (l : List (List Nat)) : List Nat := l.foldl (fun b r => if f b < f r then r else b) b
theorem jez (f : List Nat → Rat) (b : List Nat) (l : List (List Nat)) (r : List Nat) : jgj f b (l ++ [r]) = if f (jgj f b l) < f r then r else jgj f b l := by
 unfold jgj; rw [List.foldl_append]; rfl
theorem jlK (f : List Nat → Rat) (b : List Nat) : ∀ l : List (List Nat), jgj f b l = b ∨ jgj f b l ∈ l := by
 intro l
 induction h : l.length generalizing l with
 | zero =>
   have : l = [] := List.eq_nil_of_length_eq_zero h
   subst this; exact .inl rfl
 | succ n ih =>
   obtain ⟨r, c, e⟩ : ∃ r c, l = r ++ [c] := by
     rcases List.eq_nil_or_concat l with e | ⟨q, c, e⟩
     · subst e; simp at h
     · exact ⟨q, c, by rw [e, List.concat_eq_append]⟩
   subst e
   rw [jez]
   have := ih r (by simpa using h)
   by_cases hc : f (jgj f b r) < f c
   · rw [if_pos hc]; exact .inr (by simp)
   · rw [if_neg hc]
     rcases this with z | z
     · exact .inl z
     · exact .inr (List.mem_append_left _ z)
theorem jnr {n : Nat} (h1 : 2 ≤ n) (h2 : n ≤ 4) {w : List Nat} (hw : jaG n w) : jej n w ≠ [] := by
 intro z
 have a : 97 ∈ abcd.take n := by
   have hn : n = 2 ∨ n = 3 ∨ n = 4 := by omega
   rcases hn with rfl | rfl | rfl <;> decide
 have b : 98 ∈ abcd.take n := by
   have hn : n = 2 ∨ n = 3 ∨ n = 4 := by omega
   rcases hn with rfl | rfl | rfl <;> decide
 have key : ∀ c, c ∈ abcd.take n → List.replicate w.length c = w := fun c hc => by
   by_cases e : List.replicate w.length c = w
   · exact e
   · have : List.replicate w.length c ∈ jej n w := by
       unfold jej
       rw [List.mem_filter]
       exact ⟨jef.mpr ⟨by simp, fun x hx => by rw [List.eq_of_mem_replicate hx]; exact hc⟩, by simpa using e⟩
     rw [z] at this
     simp at this
 have e := (key 97 a).trans (key 98 b).symm
 have hl := hw.lo
 obtain ⟨m, hm⟩ : ∃ m, w.length = m + 1 := ⟨w.length - 1, by omega⟩
 rw [hm, List.replicate_succ, List.replicate_succ] at e
 have := (List.cons.inj e).1
 omega
theorem jli {n : Nat} {w t : List Nat} (hw : jaG n w) (h : t ∈ jej n w) : jaG n t ∧ t.length = w.length ∧ t ≠ w := by
 unfold jej at h
 obtain ⟨h1, h2⟩ := List.mem_filter.mp h
 obtain ⟨h3, h4⟩ := jef.mp h1
 exact ⟨⟨by rw [h3]; exact hw.lo, by rw [h3]; exact hw.hi, h4⟩, h3, by simpa using h2⟩
def jrx (dn : List Int) (w : List Nat) : List Nat := jgj (fun r => jkt dn r w) ((jej dn.length w).headD []) (jej dn.length w)
theorem jmM {n : Nat} (h1 : 2 ≤ n) (h2 : n ≤ 4) {w : List Nat} (hw : jaG n w) : (jej n w).headD [] ∈ jej n w := by
 have := jnr h1 h2 hw
 cases e : jej n w with
 | nil => exact absurd e this
 | cons a l => simp
theorem jmw {dn : List Int} (hd : jav dn) {w : List Nat} (hw : jaG dn.length w) {l : List (List Nat)} (hl : ∀ t ∈ l, t ∈ jej dn.length w) (f : List Nat → Rat) : jgj f ((jej dn.length w).headD []) l ∈ jej dn.length w := by
 rcases jlK f ((jej dn.length w).headD []) l with z | z
 · rw [z]; exact jmM hd.lo hd.hi hw
 · exact hl _ z
theorem jlu {dn : List Int} (hd : jav dn) {a b : List Nat} (ha : jaG dn.length a) (hb : jaG dn.length b) (hl : a.length = b.length) (hne : a ≠ b) : Sz 2000 (jkt dn a b) := by
 have p1 := je1 hd ha hb hl hne
 have p2 := je1 hd hb ha hl.symm (Ne.symm hne)
 obtain ⟨hp, e⟩ := part_of p1 p2
 have z1 := jjH (jdj hd hb hb) (jdj hd hb ha)
 have z2 := jjH (jdj hd ha ha) (jdj hd ha hb)
 have z3 := jk6 z1 z2
 unfold jkt
 unfold cc at *
 rw [← e]
 exact jcV hp (jdB (jbN z1.1 z3.2) (by omega)) (jdB (jbN z1.2 z3.1) (by omega))
end My
namespace My
open PySem L2 PySem.Spec PyProof.Rows Wr
structure ji3 (n : Nat) (row : List Nat) : Prop where
 hi : row.length ≤ 60
 s : ∀ c ∈ row, c ∈ abcd.take n
def jga (ws : List (List Nat)) : List (List Nat) := [] :: ws.flatMap fun w => (List.range w.length).map fun k => w.take (k + 1)
theorem jdz {ws : List (List Nat)} (hne : ws ≠ []) {t : List Nat} : t ∈ jga ws ↔ Beg ws t := by
 unfold jga
 rw [List.mem_cons, List.mem_flatMap]
 constructor
 · rintro (h | ⟨w, hw, h⟩)
   · subst h; exact jfG hne
   · obtain ⟨k, _, rfl⟩ := List.mem_map.mp h
     exact ⟨w, hw, List.take_prefix _ _⟩
 · rintro ⟨w, hw, h⟩
   by_cases e : t = []
   · exact .inl e
   · have hl : t.length ≠ 0 := fun z => e (List.eq_nil_of_length_eq_zero z)
     have := h.length_le
     refine .inr ⟨w, hw, List.mem_map.mpr ⟨t.length - 1, List.mem_range.mpr (by omega), ?_⟩⟩
     rw [show t.length - 1 + 1 = t.length by omega]
     exact (List.prefix_iff_eq_take.mp h).symm
theorem jd0 {n : Nat} : ∀ {ws : List (List Nat)}, (∀ l ∈ ws, jaG n l) → (ws.flatMap fun w => (List.range w.length).map fun k => w.take (k + 1)).length ≤ 6 * ws.length
 | [], _ => by simp
 | w :: ws, h => by
   have ih := jd0 (ws := ws) fun l hl => h l (List.mem_cons_of_mem _ hl)
   have := (h w List.mem_cons_self).hi
   rw [List.flatMap_cons, List.length_append, List.length_map, List.length_range, List.length_cons]
   omega
theorem jlh (ws : List (List Nat)) (i : Nat) (h : i < ws.length) : jga (ws.take (i + 1)) = jga (ws.take i) ++ (List.range ws[i].length).map fun k => ws[i].take (k + 1) := by
 unfold jga
 rw [List.take_succ_eq_append_getElem h, List.flatMap_append]
 simp
theorem jo6 {L : List Str} {a b : Str} (ha : a ∈ L) (hb : b ∈ L) (hne : a ≠ b) : 2 ≤ L.length := by
 match L, ha, hb with
 | [], ha, _ => simp at ha
 | [x], ha, hb =>
   have e1 : a = x := by simpa using ha
   have e2 : b = x := by simpa using hb
   exact absurd (e1.trans e2.symm) hne
 | _ :: _ :: _, _, _ => simp
theorem joA {n : Nat} {ws : List (List Nat)} (R : jbc n ws) : 2 ≤ (jky (jga ws)).length := by
 have hne : ws ≠ [] := R.race.ne
 obtain ⟨w, hw⟩ := List.exists_mem_of_ne_nil ws hne
 have hlo := (R.w w hw).lo
 refine jo6 (a := S []) (b := S (w.take 1)) (jd5.mpr ⟨[], (jdz hne).mpr (jfG hne), rfl⟩) (jd5.mpr ⟨w.take 1, (jdz hne).mpr ⟨w, hw, List.take_prefix _ _⟩, rfl⟩) fun z => ?_
 have := congrArg List.length (jm4.mp z)
 rw [List.length_take] at this
 simp at this
 omega
theorem jk7 (ys : List Str) : ys.map V.str = (ys.map fun x => x.cps.toList).map fun l => V.str (S l) := by
 rw [List.map_map]
 apply List.map_congr_left
 intro x _
 show V.str x = V.str (S x.cps.toList)
 rw [joi]
theorem joY {ws bs : List (List Nat)} {ys : List Str} (hne : ws ≠ []) (h1 : ys.Perm (jky (jga ws))) (h2 : bs.Perm (ys.map fun x => x.cps.toList)) : jgs ws bs := by
 have inj : (ys.map fun x => x.cps.toList).Nodup := by
   have : ys.Nodup := h1.nodup_iff.mpr (jgE _)
   unfold List.Nodup at this ⊢
   rw [List.pairwise_map]
   exact this.imp fun {a b} hne z => hne (by rw [← joi a, ← joi b]; exact congrArg S z)
 refine ⟨h2.nodup_iff.mpr inj, fun t => ?_⟩
 rw [h2.mem_iff, ← jdz hne]
 constructor
 · intro h
   obtain ⟨x, hx, e⟩ := List.mem_map.mp h
   obtain ⟨u, hu, e2⟩ := jd5.mp (h1.mem_iff.mp hx)
   have : t = u := by
     rw [← e, ← e2]; try exact jgm u
   subst this; exact hu
 · intro h
   exact List.mem_map.mpr ⟨S t, h1.mem_iff.mpr (jd5.mpr ⟨t, h, rfl⟩), jgm t⟩
theorem jfU {n : Nat} {ws bs : List (List Nat)} (R : jbc n ws) (B : jgs ws bs) : bs.length ≤ 25 := by
 have h1 := jck (l := bs) (m := jga ws) B.nd fun t ht => (jdz R.race.ne).mpr ((B.mem t).mp ht)
 have h2 := jd0 R.w
 have := R.hi
 unfold jga at h1
 rw [List.length_cons] at h1
 omega
theorem jkV {ws bs : List (List Nat)} (hne : ws ≠ []) (B : jgs ws bs) {row t : List Nat} (h1 : t ∈ bs.filter fun b => b.isSuffixOf row) (h2 : ∀ u ∈ bs.filter fun b => b.isSuffixOf row, u.length ≤ t.length) : t = stF ws row := by
 obtain ⟨a, b⟩ := List.mem_filter.mp h1
 refine (jhc hne (jee.mp b) ((B.mem t).mp a) fun u hu hb => ?_).symm
 exact h2 u (List.mem_filter.mpr ⟨(B.mem u).mpr hb, jee.mpr hu⟩)
end My
namespace L2
open PySem PySem.Spec PyProof.Rows
section
variable {κ : Type} [DecidableEq κ]
def jkj (kvs : List (κ × V)) (k : κ) : Option V := (kvs.find? fun kv => decide (kv.1 = k)).map (·.2)
def putK (kvs : List (κ × V)) (k : κ) (v : V) : List (κ × V) :=
 if (kvs.any fun kv => decide (kv.1 = k)) = true then kvs.map (fun kv => if kv.1 = k then (kv.1, v) else kv) else kvs ++ [(k, v)]
theorem jeY {p : κ × V} {r : List (κ × V)} {k : κ} (e : p.1 = k) : jkj (p :: r) k = some p.2 := by simp [jkj, List.find?_cons, e]
theorem jfa {p : κ × V} {r : List (κ × V)} {k : κ} (e : ¬ p.1 = k) : jkj (p :: r) k = jkj r k := by simp [jkj, List.find?_cons, e]
theorem jjL (k : κ) : ∀ kvs : List (κ × V), (kvs.any fun kv => decide (kv.1 = k)) = (jkj kvs k).isSome
 | [] => rfl
 | p :: r => by
   rw [List.any_cons]
   by_cases e : p.1 = k
   · simp only [jeY e, decide_eq_true e, Bool.true_or, Option.isSome_some]
   · rw [jfa e, decide_eq_false e, Bool.false_or]; exact jjL k r
theorem jdQ (kvs : List (κ × V)) (k : κ) (v : V) : (putK kvs k v).length ≤ kvs.length + 1 := by
 unfold putK
 split
 · rw [List.length_map]; omega
 · rw [List.length_append, List.length_cons, List.length_nil]; omega
theorem jnt.isSome_eq {o : Option V} {u : Option Value} (r : jnt o u) : o.isSome = u.isSome := by
 cases o with
 | none => cases u with
   | none => rfl
   | some _ => exact (show False from r).elim
 | some _ => cases u with
   | none => exact (show False from r).elim
   | some _ => rfl
theorem jnt.getD {o : Option V} {u : Option Value} {d : V} {d' : Value} (r : jnt o u) (rd : RelV d d') : RelV (o.getD d) (u.getD d') := by
 cases o with
 | none => cases u with
   | none => exact rd
   | some _ => exact (show False from r).elim
 | some _ => cases u with
   | none => exact (show False from r).elim
   | some _ => exact r
theorem KV.val {kvs : List (κ × V)} {vs : List (κ × Value)} (r : KV kvs vs) (k : κ) : jnt (jkj kvs k) (valueAt vs k) := by
 unfold KV at r
 induction r with
 | nil => exact True.intro
 | @cons p q ps qs h t ih =>
   obtain ⟨h1, h2⟩ := h
   by_cases e : p.1 = k
   · have e' : q.1 = k := h1.symm.trans e
     have b : valueAt (q :: qs) k = some q.2 := by simp [valueAt, List.find?_cons, e']
     rw [jeY e, b]; exact h2
   · have e' : ¬ q.1 = k := fun z => e (h1.trans z)
     have b : valueAt (q :: qs) k = valueAt qs k := by simp [valueAt, List.find?_cons, e']
     rw [jfa e, b]; exact ih
theorem KV.any {kvs : List (κ × V)} {vs : List (κ × Value)} (r : KV kvs vs) (k : κ) : (kvs.any fun kv => decide (kv.1 = k)) = vs.any fun kv => decide (kv.1 = k) := by
 unfold KV at r
 induction r with
 | nil => rfl
 | cons h t ih => rw [List.any_cons, List.any_cons, ih, h.1]
theorem KV.repl {kvs : List (κ × V)} {vs : List (κ × Value)} (r : KV kvs vs) (k : κ) {y : V} {u : Value} (ry : RelV y u) :
   KV (kvs.map fun kv => if kv.1 = k then (kv.1, y) else kv) (vs.map fun kv => if kv.1 = k then (kv.1, u) else kv) := by
 unfold KV at r ⊢
 induction r with
 | nil => exact .nil
 | @cons p q ps qs h t ih =>
   rw [List.map_cons, List.map_cons]
   refine .cons ?_ ih
   obtain ⟨h1, h2⟩ := h
   by_cases e : p.1 = k
   · rw [if_pos e, if_pos (h1.symm.trans e)]; exact ⟨h1, ry⟩
   · rw [if_neg e, if_neg (fun z => e (h1.trans z))]; exact ⟨h1, h2⟩
theorem KV.put {kvs : List (κ × V)} {vs : List (κ × Value)} (r : KV kvs vs) (k : κ) {y : V} {u : Value} (ry : RelV y u) : KV (putK kvs k y) (stored vs k u) := by
 unfold putK stored
 rw [r.any k]
 by_cases e : (vs.any fun kv => decide (kv.1 = k)) = true
 · rw [if_pos e, if_pos e]; exact r.repl k ry
 · rw [if_neg e, if_neg e]; exact Paired.snoc r ⟨rfl, ry⟩
theorem KV.length {kvs : List (κ × V)} {vs : List (κ × Value)} (r : KV kvs vs) : kvs.length = vs.length := Paired.length r
end
theorem jmU {P : Program} {w : World} {k : Key} {u : Value} (r : RelV (kV k) u) : (jaz P w).is k u = true := by
 cases k with
 | inl i => obtain ⟨t, e⟩ := (show ∃ t, u = Value.int i t from r); subst e; exact ji1 P w i t
 | inr x => obtain ⟨t, e⟩ := (show ∃ t, u = Value.str x t from r); subst e; exact jdS P w x t
theorem jhT {P : Program} {w : World} : ∀ {ks : List Key} {us : List Value}, Vals (ks.map kV) us → ItemsAre (jaz P w) ks us
 | [], _, r => by rw [List.map_nil] at r; cases r; exact .nil
 | k :: ks, _, r => by
   rw [List.map_cons] at r
   cases r with
   | cons h t => exact .cons (jmU h) (jhT t)
abbrev KT (H : Hp) : List (List Key × V) → List (List Key × Addr × Value) → Prop := Paired fun p q => p.1 = q.1 ∧ H q.2.1 = some (.tup (p.1.map kV)) ∧ RelV p.2 q.2.2
theorem KT.val {H : Hp} {kvs : List (List Key × V)} {xs : List (List Key × Addr × Value)} (r : KT H kvs xs) (k : List Key) : jnt (jkj kvs k) ((atKey xs k).map (·.2)) := by
 induction r with
 | nil => exact True.intro
 | @cons p q ps qs h t ih =>
   obtain ⟨h1, _, h2⟩ := h
   by_cases e : p.1 = k
   · have e' : q.1 = k := h1.symm.trans e
     have b : atKey (q :: qs) k = some q.2 := by simp [atKey, List.find?_cons, e']
     rw [jeY e, b]; exact h2
   · have e' : ¬ q.1 = k := fun z => e (h1.trans z)
     have b : atKey (q :: qs) k = atKey qs k := by simp [atKey, List.find?_cons, e']
     rw [jfa e, b]; exact ih
theorem KT.repl {H : Hp} {kvs : List (List Key × V)} {xs : List (List Key × Addr × Value)} (r : KT H kvs xs) (k : List Key) {y : V} {u : Value} (ry : RelV y u) :
   KT H (kvs.map fun kv => if kv.1 = k then (kv.1, y) else kv) (xs.map (putAt k u)) := by
 induction r with
 | nil => exact .nil
 | @cons p q ps qs h t ih =>
   rw [List.map_cons, List.map_cons]
   refine .cons ?_ ih
   obtain ⟨h1, h2, h3⟩ := h
   unfold putAt
   by_cases e : p.1 = k
   · rw [if_pos e, if_pos (h1.symm.trans e)]; exact ⟨h1, h2, ry⟩
   · rw [if_neg e, if_neg (fun z => e (h1.trans z))]; exact ⟨h1, h2, h3⟩
theorem KT.put {H : Hp} {kvs : List (List Key × V)} {xs : List (List Key × Addr × Value)} (r : KT H kvs xs) (k : List Key) {b : Addr} {y : V} {u : Value} (hb : H b = some (.tup (k.map kV))) (ry : RelV y u) :
   KT H (putK kvs k y) (storedH xs k b u) := by
 have e : (kvs.any fun kv => decide (kv.1 = k)) = (atKey xs k).isSome := by
   rw [jjL, (r.val k).isSome_eq, Option.isSome_map]
 unfold putK storedH
 rw [e]
 by_cases q : (atKey xs k).isSome = true
 · rw [if_pos q, if_pos q]; exact r.repl k ry
 · rw [if_neg q, if_neg q]; exact Paired.snoc r ⟨rfl, hb, ry⟩
theorem KT.keeps {H H' : Hp} {kvs : List (List Key × V)} {xs : List (List Key × Addr × Value)} (r : KT H kvs xs) (ht : ∀ b ys, H b = some (.tup ys) → H' b = some (.tup ys)) : KT H' kvs xs :=
 Paired.mapP r fun _ _ z => ⟨z.1, ht _ _ z.2.1, z.2.2⟩
section
variable {P : Program} {w : World} {H : Hp} {h : Heap} {a : Addr}
theorem jpg {u : HO} (ok : HOk P w H h) (e : Rd H a u) : jbW P w H h a u := e.ok ok
theorem jol {kvs : List (Key × V)} (ok : HOk P w H h) (e : Rd H a (.dK kvs)) : kvs.length ≤ sizeLine ∧ (a == sysModules) = false ∧ ∃ vs, KV kvs vs ∧ h.DictOf (jaz P w) a vs :=
 show jbW P w H h a (.dK kvs) from jpg ok e
theorem jnT {kvs : List (Key × V)} (ok : HOk P w H h) (e : H a = some (.dK kvs)) : kvs.length ≤ sizeLine ∧ (a == sysModules) = false ∧ ∃ vs, KV kvs vs ∧ h.DictOf (jaz P w) a vs := jol ok (.inl e)
theorem jlA {ks : List Key} (ok : HOk P w H h) (e : H a = some (.tup (ks.map kV))) : (tupleKind (jaz P w)).is h ks a := by
 obtain ⟨_, its, r, o, h1, h2, n, h3⟩ := (show jbW P w H h a (.tup (ks.map kV)) from ok a _ e)
 exact ⟨o, its.toArray, n, h1, h2, h3, by simpa using jhT r⟩
theorem jnY {kvs : List (List Key × V)} (ok : HOk P w H h) (e : Rd H a (.dT kvs)) : kvs.length ≤ sizeLine ∧ (a == sysModules) = false ∧
   ∃ xs, KT H kvs xs ∧ h.DictOfH (tupleKind (jaz P w)) a xs := by
 obtain ⟨z, y, xs, r, o, es, ep, h1, h2, h3, h4, h5⟩ := (show jbW P w H h a (.dT kvs) from jpg ok e)
 refine ⟨z, y, xs, r, o, es, ep, h1, h2, h3, h4, fun x hx => ?_, h5⟩
 have all : ∀ {l : List (List Key × V)} {m : List (List Key × Addr × Value)}, KT H l m → ∀ x ∈ m, (tupleKind (jaz P w)).is h x.1 x.2.1 := by
   intro l m q
   induction q with
   | nil => intro x hx; exact nomatch hx
   | @cons p q ps qs hq t ih =>
     intro x hx
     rcases List.mem_cons.mp hx with e | hx
     · subst e
       exact jlA ok (by rw [← hq.1]; exact hq.2.1)
     · exact ih x hx
 exact all r x hx
theorem jqF {kvs : List (List Key × V)} (ok : HOk P w H h) (e : H a = some (.dT kvs)) : kvs.length ≤ sizeLine ∧ (a == sysModules) = false ∧
   ∃ xs, KT H kvs xs ∧ h.DictOfH (tupleKind (jaz P w)) a xs := jnY ok (.inl e)
end
def jqc (H : Hp) (a : Addr) (y : V) (r : Option V) : Prop :=
 (∃ kvs k, Rd H a (.dK kvs) ∧ y = kV k ∧ r = jkj kvs k) ∨ ∃ kvs k b, Rd H a (.dT kvs) ∧ y = .ref b ∧ H b = some (.tup (k.map kV)) ∧ r = jkj kvs k
def jqk (H : Hp) (a : Addr) (y v : V) (H' : Hp) : Prop :=
 (∃ kvs k, H a = some (.dK kvs) ∧ y = kV k ∧ kvs.length < sizeLine ∧ H' = upd H a (.dK (putK kvs k v))) ∨
 ∃ kvs k b, H a = some (.dT kvs) ∧ y = .ref b ∧ H b = some (.tup (k.map kV)) ∧ kvs.length < sizeLine ∧ H' = upd H a (.dT (putK kvs k v))
section
variable {X : Cx} {pins : List (Addr × Obj)} {σ : St} {H : Hp} {s : Shared} {a : Addr} {y v : V} {u r : Value} {o : Option V} {A : Around} {E : Value → Shared → Prop}
theorem Inv.big (I : Inv X pins σ H s) : sysModules < s.heap.objs.size := by
 have h : mainGlobals < s.heap.objs.size := (I.mod.glob.keeps I.bk).lt
 exact Nat.lt_trans (by decide) h
theorem ji6 {h' : Heap} {t' : Nat} {ob : HO} (I : Inv X pins σ H s) (mu : Mut (H a)) (hs : Heap.SameBut a s.heap h') (he : ∃ q, h'.get? a = some q) (new : jbW X.prog X.w (upd H a ob) h' a ob) :
   Inv X pins σ (upd H a ob) { s with heap := h', toks := t' } :=
 I.write (x := a) (e := a) mu (.inl rfl) (fun b q hb z => (hs.2 b hb).trans z) he new
theorem jnh {P : Program} {w : World} {H' : Hp} {h' : Heap} {kvs : List (Key × V)} {vs : List (Key × Value)} (z : kvs.length ≤ sizeLine) (hd : (a == sysModules) = false) (rel : KV kvs vs) (dd : h'.DictOf (jaz P w) a vs) :
   jbW P w H' h' a (.dK kvs) := ⟨z, hd, vs, rel, dd⟩
theorem jlL {H' : Hp} {Q : Unit → Shared → Prop} (hu : A.units + 1 < cLine) (I : Inv X pins σ H s) (g : jqk H a y v H') (ry : RelV y u) (rv : RelV v r) (h : ∀ s', Inv X pins σ H' s' → Q () s') :
   wpAny (model X.prog X.w) A (setItem (.ref a) u r) Q E s := by
 rcases g with ⟨kvs, k, e, ey, l, eH⟩ | ⟨kvs, k, b, e, ey, eb, l, eH⟩
 · subst ey eH
   obtain ⟨z, hd, vs, rel, dd⟩ := jnT I.hok e
   have hz : vs.length ≤ sizeLine := by rw [← rel.length]; exact z
   have hl : (putK kvs k v).length ≤ sizeLine := by have := jdQ kvs k v; omega
   refine wpAny_setItem_pairs (hsz := hz) (jmU ry) dd fun h' dd' hs => h _ ?_
   have he : ∃ q, h'.get? a = some q := let ⟨q, _, _, hq, _⟩ := dd'; ⟨q, hq⟩
   exact ji6 I (by rw [e]; exact True.intro) hs he (jnh hl hd (rel.put k rv) dd')
 · subst ey eH
   cases (show u = Value.ref b from ry)
   obtain ⟨z, hd, xs, rel, dd⟩ := jqF I.hok e
   have hz : xs.length ≤ sizeLine := by rw [← Paired.length rel]; exact z
   have hl : (putK kvs k v).length ≤ sizeLine := by have := jdQ kvs k v; omega
   refine wpAny_setItem_heap (hsz := hz) (tupleKind_room_in1 hu) (jlA I.hok eb) dd fun h' dd' hs => h _ ?_
   obtain ⟨q, es, ep, hq, h2, h3, h4, _, h5⟩ := dd'
   refine ji6 I (by rw [e]; exact True.intro) hs ⟨q, hq⟩ ⟨hl, hd, _, (rel.put k eb rv).keeps fun c ys ec => ?_, q, es, ep, hq, h2, h3, h4, h5⟩
   rw [jaw (jgg ec e (fun z => nomatch z))]
   exact ec
end
section
variable {X : Cx} {pins : List (Addr × Obj)} {σ : St} {H : Hp} {s : Shared} {a : Addr} {kvs : List (Key × V)} {k : Key} {u : Value} {A : Around} {E : Value → Shared → Prop}
end
def jpy (td ty tv : TE) : TS := fun D σ H => tv σ H fun v H1 => td σ H1 fun x H2 => ty σ H2 fun y H3 => ∃ a H4, x = .ref a ∧ jqk H3 a y v H4 ∧ D.nx σ H4
section
variable {X : Cx} {o i e value : Expr} {pos pos' tpos : Pos} {td ty tv : TE}
theorem joR (hu : X.A.units + 1 < cLine) (ho : PE X o td) (hi : PE X i ty) (hv : PE X value tv) (hs : swapsWith value (some (.Subscript o i pos')) pos.line X.env = pure false) :
   PS X (.Assign [.Subscript o i pos'] value pos) (jpy td ty tv) := by
 intro pins s σ H D I h
 refine wpAny_Assign_Subscript (thn (hv pins s σ H _ I h) fun r s1 ⟨v, H1, I1, rv, q1⟩ => thn (ho pins s1 σ H1 _ I1 q1) fun u s2 ⟨x, H2, I2, rx, q2⟩ => thn (hi pins s2 σ H2 _ I2 q2) fun iv s3 ⟨y, H3, I3, ry, a, H4, ex, g, q3⟩ => ?_) hs
 subst ex
 obtain rfl : u = Value.ref a := rx
 exact jlL hu I3 g ry rv fun s4 I4 => ⟨σ, H4, I4, q3⟩
end
theorem jj3 {P : Program} {w : World} {H : Hp} (h : Heap) (hb : sysModules < h.objs.size) : jbW P w H (h.push { cls := .type "dict", data := .dict #[] }) h.objs.size (.dK []) :=
 ⟨Nat.zero_le _, beq_eq_false_iff_ne.mpr (Ne.symm (Nat.ne_of_lt hb)), [], .nil, Heap.DictOf.new h⟩
def jnF : TE := fun _ H Q => ∀ p, H p = none → Q (.ref p) (upd H p (.dK []))
section
variable {X : Cx} {pos : Pos}
theorem jmN : PE X (.Dict [] [] pos) jnF := fun pins s σ H Q I h =>
 wpAny_Dict_empty ⟨.ref s.heap.objs.size, _, I.laid (a := s.heap.objs.size) (o := .dK []) (t' := s.toks) (fun _ _ q => Heap.get?_push_of_some _ q) (Nat.le_refl _) (jj3 s.heap I.big), rfl, h _ (I.hok.fresh (Nat.le_refl _))⟩
end
def jkT : List (TE × TE) → St → Hp → (List (V × V) → Hp → Prop) → Prop
 | [], _, H, Q => Q [] H
 | (tk, tv) :: r, σ, H, Q => tk σ H fun x H1 => tv σ H1 fun y H2 => jkT r σ H2 fun ps H3 => Q ((x, y) :: ps) H3
abbrev VV : List (V × V) → List (Value × Value) → Prop := Paired fun p q => RelV p.1 q.1 ∧ RelV p.2 q.2
def PPs (X : Cx) (pos : Pos) (keys : List (Option Expr)) (values : List Expr) (trs : List (TE × TE)) : Prop :=
 ∀ (pins : List (Addr × Obj)) (s : Shared) (σ : St) (H : Hp) (Q : List (V × V) → Hp → Prop), Inv X pins σ H s → jkT trs σ H Q →
   wpAny (model X.prog X.w) X.A (evalPairs (pairTrees keys values X.env pos)) (fun vs s' => ∃ ps H', Inv X pins σ H' s' ∧ VV ps vs ∧ Q ps H') X.xe s
theorem joq {X : Cx} {pos : Pos} : PPs X pos [] [] [] := fun pins s σ H Q I h => pairTrees_nil_walk ⟨[], H, I, .nil, h⟩
theorem jm0 {X : Cx} {pos : Pos} {k v : Expr} {ks : List (Option Expr)} {vs : List Expr} {tk tv : TE} {trs : List (TE × TE)} (hk : PE X k tk) (hv : PE X v tv) (hr : PPs X pos ks vs trs) :
   PPs X pos (some k :: ks) (v :: vs) ((tk, tv) :: trs) := fun pins s σ H Q I h =>
 pairTrees_cons_walk (thn (hk pins s σ H _ I h) fun u s1 ⟨x, H1, I1, rx, q1⟩ => thn (hv pins s1 σ H1 _ I1 q1) fun w2 s2 ⟨y, H2, I2, ry, q2⟩ =>
   thn (hr pins s2 σ H2 _ I2 q2) fun ws s3 ⟨ps, H3, I3, rel, q3⟩ => ⟨(x, y) :: ps, H3, I3, .cons ⟨rx, ry⟩ rel, q3⟩)
def jfw (kvs more : List (Key × V)) : List (Key × V) := more.foldl (fun acc kv => putK acc kv.1 kv.2) kvs
theorem KV.merge : ∀ {more : List (Key × V)} {rs : List (Key × Value)} {kvs : List (Key × V)} {vs : List (Key × Value)}, KV more rs → KV kvs vs → KV (jfw kvs more) (merged vs rs) := by
 intro more rs kvs vs r
 unfold KV at r
 induction r generalizing kvs vs with
 | nil => intro q; exact q
 | @cons p q ps qs h t ih =>
   intro r0
   have e : KV (putK kvs p.1 p.2) (stored vs q.1 q.2) := by
     have := r0.put p.1 h.2
     rw [← h.1]; exact this
   exact ih e
theorem jei : ∀ (more kvs : List (Key × V)), (jfw kvs more).length ≤ kvs.length + more.length
 | [], kvs => by show kvs.length ≤ kvs.length + 0; omega
 | p :: r, kvs => by
   have h1 := jei r (putK kvs p.1 p.2)
   have h2 := jdQ kvs p.1 p.2
   show (jfw (putK kvs p.1 p.2) r).length ≤ _
   rw [List.length_cons]; omega
theorem jgB {P : Program} {w : World} : ∀ {kvs : List (Key × V)} {ws : List (Value × Value)}, VV (kvs.map fun kv => (kV kv.1, kv.2)) ws → ∃ rs, Carries (jaz P w) ws rs ∧ KV kvs rs
 | [], _, r => by rw [List.map_nil] at r; cases r; exact ⟨[], True.intro, .nil⟩
 | p :: kvs, _, r => by
   rw [List.map_cons] at r
   cases r with
   | @cons a b as bs h t =>
     obtain ⟨rs, c, q⟩ := jgB (P := P) (w := w) t
     obtain ⟨b1, b2⟩ := b
     exact ⟨(p.1, b2) :: rs, ⟨jmU h.1, rfl, c⟩, .cons ⟨rfl, h.2⟩ q⟩
def jpp (trs : List (TE × TE)) : TE := fun σ H Q => ∀ p, H p = none → jkT trs σ (upd H p (.dK [])) fun ps H2 => H2 p = some (.dK []) ∧ ∃ kvs : List (Key × V), ps = kvs.map (fun kv => (kV kv.1, kv.2)) ∧ kvs.length ≤ 15 ∧ Q (.ref p) (upd H2 p (.dK (jfw [] kvs)))
theorem joF {X : Cx} {pos : Pos} {keys : List (Option Expr)} {values : List Expr} {trs : List (TE × TE)} (h : PPs X pos keys values trs) (hall : keys.all (·.isSome) = true) (hl : keys.length = values.length) (h0 : keys ≠ [])
   (h15 : keys.length ≤ 15) : PE X (.Dict keys values pos) (jpp trs) := by
 intro pins s σ H Q I q
 have hn := I.hok.fresh (Nat.le_refl s.heap.objs.size)
 have I1 := I.laid (a := s.heap.objs.size) (o := .dK []) (h' := s.heap.push { cls := .type "dict", data := .dict #[] }) (t' := s.toks) (fun _ _ q => Heap.get?_push_of_some _ q) (Nat.le_refl _) (jj3 s.heap I.big)
 refine wpAny_Dict_walk (knd := jaz X.prog X.w) hall hl h0 h15 (thn (h pins _ σ _ _ I1 (q _ hn)) fun ws s2 ⟨ps, H2, I2, rel, e, kvs, ep, lk, q2⟩ => ?_)
 subst ep
 obtain ⟨rs, c, rk⟩ := jgB (P := X.prog) (w := X.w) rel
 obtain ⟨z, hd, vs0, r0, dd⟩ := jnT I2.hok e
 cases r0
 refine ⟨rs, c, dd, fun h' dd' hs => ⟨.ref s.heap.objs.size, _, ?_, rfl, q2⟩⟩
 have hz : (jfw [] kvs).length ≤ sizeLine := by
   have h1 := jei kvs []
   rw [List.length_nil] at h1
   rw [sizeLine_eq]; omega
 have he : ∃ q, h'.get? s.heap.objs.size = some q := let ⟨q, _, _, hq, _⟩ := dd'; ⟨q, hq⟩
 exact ji6 I2 (by rw [e]; exact True.intro) hs he (jnh hz hd (rk.merge .nil) dd')
structure M2 (X : Cx) (o : Expr) (m : Str) (apos : Pos) (e f : Expr) (cpos : Pos) : Prop where
 base : attributeBase o m X.env (eval o X.env) = eval o X.env
 few : ((backTo cpos (starEach [e, f] X.env)).all (fun x => !x.1) && (backToKw cpos (keywordEach [] X.env)).all (fun x => x.1.isSome)
   && decide (([e, f] : List Expr).length + ([] : List Keyword).length + (if ([] : List Keyword).isEmpty then 0 else 1) < 30)) = true
 line : (apos.endLine == cpos.line) = true
 trees : backTo cpos (starEach [e, f] X.env) = [(false, eval e X.env), (false, eval f X.env)]
def IsD (H : Hp) (a : Addr) : Prop := (∃ kvs, Rd H a (.dK kvs)) ∨ ∃ kvs, Rd H a (.dT kvs)
theorem jpx {X : Cx} {pins : List (Addr × Obj)} {σ : St} {H : Hp} {s : Shared} {a : Addr} (I : Inv X pins σ H s) (d : IsD H a) :
   s.TypeIs (.ref a) "dict" ∧ (∀ b, Value.ref a = .ref b → ∃ ob, s.heap.get? b = some ob ∧ ob.dict = none) ∧ (a == sysModules) = false := by
 rcases d with ⟨kvs, e⟩ | ⟨kvs, e⟩
 · obtain ⟨_, hd, vs, _, dd⟩ := jol I.hok e
   refine ⟨dd.typeIs, fun b q => ?_, hd⟩
   cases q
   obtain ⟨ob, _, _, h1, h2, _⟩ := dd
   exact ⟨ob, h1, h2.2.1⟩
 · obtain ⟨_, hd, xs, _, dd⟩ := jnY I.hok e
   refine ⟨dd.typeIs, fun b q => ?_, hd⟩
   cases q
   obtain ⟨ob, _, _, h1, h2, _⟩ := dd
   exact ⟨ob, h1, h2.2.1⟩
section
variable {X : Cx} {pins : List (Addr × Obj)} {σ : St} {H : Hp} {s : Shared} {a : Addr} {y d : V} {u r : Value} {o : Option V} {A : Around} {E : Value → Shared → Prop}
theorem jpG {Q : Value → Shared → Prop} (hu : A.units + 1 < cLine) (I : Inv X pins σ H s) (g : jqc H a y o) (ry : RelV y u) (rd : RelV d r) (h : ∀ w' s', Inv X pins σ H s' → RelV (o.getD d) w' → Q w' s') :
   wpAny (model X.prog X.w) A (call (.builtin "dict.get") [.ref a, u, r]) Q E s := by
 rcases g with ⟨kvs, k, e, ey, l⟩ | ⟨kvs, k, b, e, ey, eb, l⟩
 · subst ey
   obtain ⟨z, hd, vs, rel, dd⟩ := jol I.hok e
   refine call_meetsIn PySem.F.slot_dict_get dd.typeIs PySem.F.entry_dict_get (PySem.F.args_dict_get_3 _ _ _) (meets_dict_get_default (jaz X.prog X.w) a (jmU ry) hd r) ⟨_, dd.mapOf, h _ _ (I.tok _) ?_⟩
   rw [l]
   exact (rel.val k).getD rd
 · subst ey
   cases (show u = Value.ref b from ry)
   obtain ⟨z, hd, xs, rel, dd⟩ := jnY I.hok e
   refine call_meetsIn PySem.F.slot_dict_get dd.typeIs PySem.F.entry_dict_get (PySem.F.args_dict_get_3 _ _ _) (meetsH_dict_get_default (tupleKind (jaz X.prog X.w)) a b hd r) ⟨tupleKind_room_in1 hu, k, xs, jlA I.hok eb, dd, h _ _ (I.tok _) ?_⟩
   rw [l]
   exact (rel.val k).getD rd
end
def jni (td ty tx : TE) : TE := fun σ H Q => td σ H fun x H1 => ∃ a, x = .ref a ∧ IsD H1 a ∧ ty σ H1 fun y H2 => tx σ H2 fun z H3 => ∃ o, jqc H3 a y o ∧ Q (o.getD z) H3
section
variable {X : Cx} {o e f : Expr} {apos cpos : Pos} {td ty tx : TE}
theorem jj5 (hu : X.A.units + 1 < cLine) (ho : PE X o td) (he : PE X e ty) (hf : PE X f tx) (m : M2 X o "get" apos e f cpos) : PE X (.Call (.Attribute o "get" apos) [e, f] [] cpos) (jni td ty tx) := by
 intro pins s σ H Q I h
 refine wpAny_Call_method m.base m.few m.line PySem.F.plainAttrs_dict PySem.F.slot_dict_get PySem.F.type_dict_get (thn (ho pins s σ H _ I h) fun u s1 ⟨x, H1, I1, rx, a, ex, d, q1⟩ => ?_)
 subst ex
 obtain rfl : u = Value.ref a := rx
 obtain ⟨t1, t2, _⟩ := jpx I1 d
 refine ⟨t1, t2, ?_⟩
 rw [m.trees]
 refine Calls.callWith_builtin rfl (Calls.evalArgs_plain (Calls.spliced_cons (thn (he pins s1 σ H1 _ I1 q1) fun iv s2 ⟨y, H2, I2, ry, q2⟩ =>
   Calls.spliced_cons (thn (hf pins s2 σ H2 _ I2 q2) fun fv s3 ⟨z, H3, I3, rz, ov, g, q3⟩ => Calls.spliced_nil ?_))))
 exact jpG hu I3 g ry rz fun w' s4 I4 rw' => ⟨_, H3, I4, rw', q3⟩
end
section
variable {X : Cx} {pins : List (Addr × Obj)} {σ : St} {H : Hp} {s : Shared} {a : Addr} {kvs : List (Key × V)} {A : Around} {E : Value → Shared → Prop}
end
section
variable {X : Cx} {pins : List (Addr × Obj)} {σ : St} {H : Hp} {s : Shared} {a : Addr} {y : V} {u : Value} {A : Around} {E : Value → Shared → Prop}
end
end L2
namespace L2
open PySem PySem.Spec PyProof.Rows
section
variable {κ : Type} [DecidableEq κ]
end
end L2
namespace L2
open PySem PySem.Spec PyProof.Rows
section
variable {X : Cx} {pins : List (Addr × Obj)} {σ : List (Option V)} {H H' : Hp} {s : Shared} {h' : Heap}
theorem Inv.freeze {d : Addr} {kvs : List (Key × V)} {o : Obj} (I : Inv X pins σ H s) (hd : H d = some (.dK kvs)) (ho : s.heap.get? d = some o) : Inv X pins σ (upd H d (.frz o (.dK kvs))) s := by
 have hok : HOk X.prog X.w (upd H d (.frz o (.dK kvs))) s.heap := fun b u e => by
   by_cases hb : b = d
   · subst hb; rw [jah] at e; cases e
     exact ⟨ho, (I.hok b _ hd).stay (fun c v _ q => q) (fun c q => by rw [jaw (jgg q hd (fun z => nomatch z))]; exact q) fun c xs q => by rw [jaw (jgg q hd (fun z => nomatch z))]; exact q⟩
   · rw [jaw hb] at e
     exact (I.hok b u e).stay (fun c v _ q => q) (fun c q => by rw [jaw (jgg q hd (fun z => nomatch z))]; exact q) fun c xs q => by rw [jaw (jgg q hd (fun z => nomatch z))]; exact q
 exact I.step (h' := s.heap) (H' := upd H d (.frz o (.dK kvs))) (g' := s.gens) (t' := s.toks) (d' := s.drawn) (ch := []) (fun _ z => nomatch z) (fun b o _ _ _ e _ => e) (fun b o _ _ _ e _ => ⟨o.slots, e⟩)
   (fun b u _ e n => by rw [jaw (fun z => by rw [z, hd] at n; cases n)]; exact n) (fun b o _ e => ⟨o, e⟩)
   (fun b xs e => by rw [jaw (jgg e hd (fun z => nomatch z))]; exact e) (fun b u xs e => by rw [jaw (jgg e hd (fun z => nomatch z))]; exact e) (fun b ps e => ⟨#[], by rw [jaw (jgg e hd (fun z => nomatch z)), e]; simp⟩) (fun m hm => hm) hok I.bare
end
def Itd (d : Addr) (o : Obj) (kvs : List (Key × V)) : It :=
 ⟨fun i H => H d = some (.frz o (.dK kvs)) ∧ i < kvs.length, fun i H v H' => ∃ t p, v = .ref t ∧ H t = none ∧ H' = upd H t (.tup [kV p.1, p.2]) ∧ kvs[i]? = some p, fun i H => H d = some (.frz o (.dK kvs)) ∧ kvs.length ≤ i⟩
theorem jpW {P : Program} {w : World} {k : Key} {u : Value} (h : (jaz P w).is k u = true) : RelV (kV k) u := by
 rcases jaP (show jiq k u = true from h) with ⟨i, t, rfl, rfl⟩ | ⟨x, t, rfl, rfl⟩
 · exact ⟨t, rfl⟩
 · exact ⟨t, rfl⟩
theorem KV.at {kvs : List (Key × V)} {vs : List (Key × Value)} (r : KV kvs vs) : ∀ {i : Nat} {p : Key × V}, kvs[i]? = some p → ∃ v, vs[i]? = some (p.1, v) ∧ RelV p.2 v := by
 unfold KV at r
 induction r with
 | nil => intro i p e; simp at e
 | @cons a b as bs h t ih =>
   intro i p e
   cases i with
   | zero => simp at e; subst e; exact ⟨b.2, by simp [h.1], h.2⟩
   | succ i => simp at e ⊢; exact ih e
theorem jkq {P : Program} {w : World} {K : PySem.W.Frag} {elts : List Expr} {kk : Nat} {tp : Pos} (d it : Addr) (o : Obj) (kvs : List (Key × V)) (es : Array DictEntry) (ep : Nat) (hod : o.data = .dict es ep)
   (hself : ∀ (A : Around) (i : Nat) (s : Shared) (Q : Value → Shared → Prop) (E : Value → Shared → Prop), (∃ ok ov, IsItemIter s.heap it d i kvs.length ep ok ov) → Q (.ref it) s → wpAny (model P w) A (pyIter (.ref it)) Q E s) :
   Turn P w K (.Tuple elts kk tp) (Itd d o kvs) [it] it (fun i h => ∃ ok ov, IsItemIter h it d i kvs.length ep ok ov) where
 mem := by simp
 obj := fun i h st b hb => by
   have e : b = it := by simpa using hb
   subst e
   obtain ⟨ok, ov, e⟩ := st
   exact ⟨_, e, fun v z => nomatch z⟩
 keep := fun i h h' st k => by
   obtain ⟨ok, ov, e⟩ := st
   exact ⟨ok, ov, k it (by simp) _ e⟩
 item := by
   intro X hP hw hK hc i pins s σ H E I hf st hg
   subst hP hw hK
   obtain ⟨hd, hi⟩ := hg
   obtain ⟨ok, ov, h1⟩ := st
   obtain ⟨ho, hz, hm, vs, rel, o', es', ep', h2, h3, h4, h5, h6, h7⟩ := (show jbW X.prog X.w H s.heap d (.frz o (.dK kvs)) from I.hok d _ hd)
   obtain rfl : o = o' := by rw [ho] at h2; exact Option.some.inj h2
   obtain ⟨rfl, rfl⟩ : es = es' ∧ ep = ep' := by rw [hod] at h4; exact ⟨by cases h4; rfl, by cases h4; rfl⟩
   have hp : kvs[i]? = some kvs[i] := by simp [hi]
   obtain ⟨v, hv, rv⟩ := rel.at hp
   rw [rel.length] at h1
   refine wpAny_pyNext_items_item (knd := jaz X.prog X.w) h1 ⟨o, es, h2, h3, h4, h5, h6, h7⟩ hv fun key hA hk heo ht1 hz1 hk1 => ?_
   refine ⟨_, rfl, wpAny_letOwnedTupleGo_items heo fun hB he2 hs2 => ?_⟩
   have hs2 : Heap.SameBut it hA hB := hs2
   have hel : it < s.heap.objs.size := Heap.lt_size h1
   have hsz : H s.heap.objs.size = none := I.hok.fresh (Nat.le_refl _)
   have hpres : ∀ b o, b ∉ [it] → s.heap.get? b = some o → hB.get? b = some o := fun b o hb z => by
     have hb' : b ≠ it := by simpa using hb
     exact hs2.extBut b o hb' (hk1 b o hb' z)
   have I1 : Inv X pins σ H { s with heap := hB, toks := s.toks } := I.turnedL (t' := s.toks) hpres hf
   have ht2 : hB.get? s.heap.objs.size = some { cls := .type "tuple", data := .seq #[key, v] } := hs2.extBut _ _ (Nat.ne_of_gt hel) ht1
   have fpt : jge X pins H s.heap.objs.size := I.fpOk (Nat.le_refl _) hsz
   have I2 := I1.track (o := .tup [kV kvs[i].1, kvs[i].2]) fpt ⟨by show 2 ≤ sizeLine; decide, [key, v], .cons (jpW hk) (.cons rv .nil), ⟨_, ht2, rfl, 0, rfl⟩⟩
   refine ⟨.ref s.heap.objs.size, _, I2, rfl, ⟨_, kvs[i], rfl, hsz, rfl, hp⟩, ⟨key, v, ?_⟩, fun b hb => ?_⟩
   · rw [rel.length]; exact he2
   · have e : b = it := by simpa using hb
     rw [e, jaw (Nat.ne_of_lt hel)]
     exact (hf it (by simp)).1
 done := by
   intro X hP hw hK hc i pins s σ H E I hf st hg
   subst hP hw hK
   obtain ⟨hd, hi⟩ := hg
   obtain ⟨ok, ov, h1⟩ := st
   obtain ⟨ho, hz, hm, vs, rel, o', es', ep', h2, h3, h4, h5, h6, h7⟩ := (show jbW X.prog X.w H s.heap d (.frz o (.dK kvs)) from I.hok d _ hd)
   obtain rfl : o = o' := by rw [ho] at h2; exact Option.some.inj h2
   obtain ⟨rfl, rfl⟩ : es = es' ∧ ep = ep' := by rw [hod] at h4; exact ⟨by cases h4; rfl, by cases h4; rfl⟩
   rw [rel.length] at h1 hi
   exact wpAny_pyNext_items_end (knd := jaz X.prog X.w) (I.ok.hd hc) h1 ⟨o, es, h2, h3, h4, h5, h6, h7⟩ (by simp; omega) fun hA eb => ⟨rfl, I.turnedL (t' := s.toks) (fun b o hb z => eb b o (fun y => hb (by simp [y])) z) hf⟩
 self := fun A i s Q E st h => hself A i s Q E st h
def jnd (td : TE) : TI := fun σ H R => td σ H fun x H1 => ∃ d kvs, x = .ref d ∧ H1 d = some (.dK kvs) ∧ ∀ o, R (Itd d o kvs) (upd H1 d (.frz o (.dK kvs)))
section
variable {X : Cx}
theorem jj6 {o : Expr} {elts : List Expr} {kk : Nat} {tp apos cpos : Pos} {td : TE} (ho : PE X o td) (hbase : attributeBase o "items" X.env (eval o X.env) = eval o X.env := by rfl) (hline : (apos.endLine == cpos.line) = true := by rfl) :
    PI X (.Tuple elts kk tp) (.Call (.Attribute o "items" apos) [] [] cpos) (jnd td) := by
  intro pins s σ H R I h
  refine wpAny_Call_method0_late hbase hline (thn (ho pins s σ H _ I h) fun v s1 ⟨x, H1, I1, r1, d, kvs, ex, hd, q1⟩ => ?_)
  subst ex
  obtain rfl : v = Value.ref d := r1
  obtain ⟨hz, hm, vs, rel, o', es, ep, h2, h3, h4, h5, h6, h7⟩ := jnT I1.hok hd
  have dd : s1.heap.DictOf (jaz X.prog X.w) d vs := ⟨o', es, ep, h2, h3, h4, h5, h6, h7⟩
  refine ⟨"dict", "dict.items", PySem.F.plainAttrs_dict, PySem.F.slot_dict_items, PySem.F.type_dict_items, dd.typeIs, fun b e => by cases e; exact ⟨o', h2, h3.2.1⟩, ?_⟩
  refine Calls.callWith_builtin rfl (PySem.evalArgs_none ?_)
  refine call_meetsIn PySem.F.slot_dict_items dd.typeIs PySem.F.entry_dict_items (PySem.F.args_dict_items_1 _) (meets_dict_items (jaz X.prog X.w) d hm) ⟨⟨vs, dd⟩, ?_⟩
  have I2 : Inv X pins σ H1 { s1 with heap := s1.heap.push { cls := .type "dict_items", data := .fields #[.ref d] } } := I1.kept (t' := s1.toks) fun b u e => Heap.get?_push_of_some _ e
  refine wpAny_pyIter_items (knd := jaz X.prog X.w) (kvs := vs) (ep := ep) ⟨_, Heap.get?_push_size _ rfl, rfl, rfl⟩ ⟨o', es, Heap.get?_push_of_some _ h2, h3, h4, h5, h6, h7⟩ ?_
  have I3 := I2.kept (t' := s1.toks) (h' := (s1.heap.push { cls := .type "dict_items", data := .fields #[.ref d] }).push { cls := .type "dict_itemiterator", data := .fields #[.none, .bool false, .ref d, .int 0 0, .int vs.length 0, .int ep 0, .none, .none] }) fun b u e => Heap.get?_push_of_some _ e
  have I4 := I3.freeze hd (Heap.get?_push_of_some _ (Heap.get?_push_of_some _ h2))
  refine ⟨(s1.heap.push { cls := .type "dict_items", data := .fields #[.ref d] }).objs.size, [(s1.heap.push { cls := .type "dict_items", data := .fields #[.ref d] }).objs.size], _, _, _, rfl, I4, jkq d _ o' kvs es ep h4 (fun A i s Q E st h => by obtain ⟨ok, ov, z⟩ := st; exact PySem.W.kcp_self z h), ⟨.none, .none, ?_⟩, fun b hb => ?_, q1 o'⟩
  · rw [rel.length]; exact Heap.get?_push_size _ rfl
  · have e : b = (s1.heap.push { cls := .type "dict_items", data := .fields #[.ref d] }).objs.size := by simpa using hb
    subst e
    have nd : d < (s1.heap.push { cls := .type "dict_items", data := .fields #[.ref d] }).objs.size := Heap.lt_size (Heap.get?_push_of_some _ h2)
    refine I2.fpOk (Nat.le_refl _) ?_
    rw [jaw (Nat.ne_of_gt nd)]
    exact I2.hok.fresh (Nat.le_refl _)
end
theorem jrj {d : Addr} {o : Obj} {kvs : List (Key × V)} {g : TG} {tb : TS} {D : Ends} {σ : St} {H : Hp} (Pv : Nat → St → Hp → Prop) (h0 : Pv 0 σ H) (hl : ∀ i σ H, i ≤ kvs.length → Pv i σ H → H d = some (.frz o (.dK kvs)))
   (hs : ∀ i p σ H, kvs[i]? = some p → Pv i σ H → ∀ t, H t = none → g (.ref t) σ (upd H t (.tup [kV p.1, p.2])) fun σ2 H2 => tb { D with nx := Pv (i + 1), ct := Pv (i + 1), bk := D.nx } σ2 H2) (hd : ∀ σ H, Pv kvs.length σ H → D.nx σ H) :
   joQ (Itd d o kvs) g tb D σ H := by
 refine ⟨fun i m σ H => m = kvs.length - i ∧ i ≤ kvs.length ∧ Pv i σ H, ⟨kvs.length, by simp, Nat.zero_le _, h0⟩, ?_⟩
 rintro i m σ H ⟨rfl, hi, p⟩
 have q := hl i σ H hi p
 by_cases hlt : i < kvs.length
 · refine .inr ⟨⟨q, hlt⟩, Pv (i + 1), fun σ' H' p' => ⟨kvs.length - (i + 1), by omega, rfl, hlt, p'⟩, fun v H' y => ?_⟩
   obtain ⟨t, x, rfl, hn, rfl, y⟩ := y
   exact hs i x σ _ y p t hn
 · have e : i = kvs.length := by omega
   subst e
   exact .inl ⟨⟨q, Nat.le_refl _⟩, hd σ H p⟩
theorem jj7 {td : TE} {σ : St} {H : Hp} {R : It → Hp → Prop} (h : td σ H fun x H1 => ∃ d kvs, x = .ref d ∧ H1 d = some (.dK kvs) ∧ ∀ o, R (Itd d o kvs) (upd H1 d (.frz o (.dK kvs)))) : jnd td σ H R := h
structure jm7 (J : It) (H1 : Hp) (xs : List (V × V)) : Prop where
 go : ∀ i H', jap H1 H' → i < xs.length → J.go i H'
 yld : ∀ i H' x H'', jap H1 H' → i < xs.length → J.yld i H' x H'' → ∃ t p, x = .ref t ∧ H' t = none ∧ H'' = upd H' t (.tup [p.1, p.2]) ∧ xs[i]? = some p
 stop : ∀ H', jap H1 H' → J.stop xs.length H'
theorem jkr {d : Addr} {o : Obj} {kvs : List (Key × V)} {H1 : Hp} (h : H1 d = some (.frz o (.dK kvs))) : jm7 (Itd d o kvs) H1 (kvs.map fun p => (kV p.1, p.2)) := by
 refine ⟨fun i H' e hi => ⟨e _ _ h, by simpa using hi⟩, fun i H' x H'' e hi y => ?_, fun H' e => ⟨e _ _ h, by simp⟩⟩
 obtain ⟨t, p, rfl, hn, rfl, y⟩ := y
 exact ⟨t, (kV p.1, p.2), rfl, hn, rfl, by rw [List.getElem?_map, y]; rfl⟩
theorem jk1 (K : PySem.W.Frag) {α : Type} {J : It} {src : List α} {gv : α → V × V} {mp : List (Option Nat)} {σ : St} {H1 : Hp} {ti : TT} {te : TE} {Dd : Addr} {Q : VK} (p : α → Bool) (F : α → V → Hp → Prop) (G : jm7 J H1 (src.map gv)) (hD : H1 Dd = none) (hz : src.length ≤ sizeLine)
   (Fm : ∀ a y H H', (∀ b o, b ≠ Dd → H b = some o → H' b = some o) → F a y H → F a y H')
   (ht : ∀ a ∈ src, ∀ (H' : Hp) (R : Bool → Hp → Prop), jap H1 H' → (∀ H'', jap H' H'' → R (p a) H'') → ti (((pick mp σ).set 0 (some (gv a).1)).set 1 (some (gv a).2)) H' R)
   (he : ∀ a ∈ src, p a = true → ∀ (H' : Hp) (R : VK), jap H1 H' → H' Dd ≠ none → (∀ y H'', jap H' H'' → F a y H'' → R y H'') → te (((pick mp σ).set 0 (some (gv a).1)).set 1 (some (gv a).2)) H' R)
   (q : ∀ H' ys, jap H1 H' → H' Dd = some (.lst ys) → jeR (fun x y => F x y H') (src.filter p) ys → Q (.ref Dd) H') :
   jin J mp (jpq K 2 (jjo (jdf 0) (jjo (jdf 1) jqg))) ti te Dd Q σ H1 := by
 let W : Nat → Nat → St → Hp → Prop := fun i m σ' H' => m = src.length - i ∧ i ≤ src.length ∧ (∀ v u, (σ'.set 0 (some v)).set 1 (some u) = ((pick mp σ).set 0 (some v)).set 1 (some u)) ∧ jap H1 H' ∧ ∃ ys, H' Dd = some (.lst ys) ∧ jeR (fun x y => F x y H') ((src.take i).filter p) ys
 have hlm : (src.map gv).length = src.length := List.length_map ..
 refine ⟨W, ⟨src.length, by simp, Nat.zero_le _, fun v u => rfl, jai (jap.refl _) hD, [], jah, by simpa using jeR.nil⟩, ?_⟩
 rintro i m σ' H' ⟨rfl, hi, hσ, hS, ys, hy, ha⟩
 by_cases hlt : i < src.length
 · refine .inr ⟨G.go i H' hS (by rw [hlm]; exact hlt), fun σ2 H2 => W (i + 1) (src.length - (i + 1)) σ2 H2, fun σ2 H2 w => ⟨_, by omega, w⟩, fun x H'' y => ?_⟩
   obtain ⟨t, pr, rfl, htn, rfl, hx⟩ := G.yld i H' x H'' hS (by rw [hlm]; exact hlt) y
   obtain ⟨a, hxa, rfl⟩ : ∃ a, src[i]? = some a ∧ gv a = pr := by
     rw [List.getElem?_map] at hx
     cases e : src[i]? with
     | none => rw [e] at hx; cases hx
     | some a => rw [e] at hx; exact ⟨a, rfl, Option.some.inj hx⟩
   have hm : a ∈ src := List.mem_of_getElem? hxa
   have hS1 : jap H' (upd H' t (.tup [(gv a).1, (gv a).2])) := jai (jap.refl _) htn
   refine jjy (SqT.of jah) ?_
   rw [hσ (gv a).1 (gv a).2]
   have hset : ∀ v u, (((((pick mp σ).set 0 (some (gv a).1)).set 1 (some (gv a).2)).set 0 (some v)).set 1 (some u)) = ((pick mp σ).set 0 (some v)).set 1 (some u) := fun v u => by
     rw [List.set_comm (some (gv a).2) (some v) (by decide : (1 : Nat) ≠ 0), List.set_set, List.set_set]
   have htk : (src.take (i + 1)).filter p = (src.take i).filter p ++ (if p a then [a] else []) := take_succ_filter p src i a hxa
   refine ht a hm _ _ (hS.trans hS1) fun H3 s3' => ?_
   have s3 : jap H' H3 := hS1.trans s3'
   have hS3 : jap H1 H3 := hS.trans s3
   have hy3 : H3 Dd = some (.lst ys) := s3 _ _ hy
   have ha3 : jeR (fun x y => F x y H3) ((src.take i).filter p) ys := ha.mono fun a b f => Fm a b _ _ (fun c o _ e => s3 c o e) f
   cases hp : p a with
   | false =>
     rw [if_neg Bool.false_ne_true]
     refine ⟨rfl, hlt, hset, hS3, ys, hy3, ?_⟩
     rw [htk, hp]
     simpa using ha3
   | true =>
     rw [if_pos rfl]
     refine he a hm hp H3 _ hS3 (by rw [hy3]; exact fun z => nomatch z) fun y H4 s4 f => ?_
     have hy4 : H4 Dd = some (.lst ys) := s4 _ _ hy3
     have hlen : ys.length ≤ i := by
       rw [ha.length]
       exact Nat.le_trans (List.length_filter_le _ _) (by rw [List.length_take]; omega)
     refine ⟨ys, hy4, by omega, rfl, hlt, hset, jai (hS3.trans s4) hD, ys ++ [y], jah, ?_⟩
     rw [htk, hp]
     have up : ∀ (c : Addr) (o : HO), c ≠ Dd → H4 c = some o → upd H4 Dd (.lst (ys ++ [y])) c = some o := fun c o hc e => by rw [jaw hc]; exact e
     exact jeR.snoc (ha3.mono fun a b f' => Fm a b _ _ (fun c o hc e => up c o hc (s4 c o e)) f') (Fm a y _ _ up f)
 · have e : i = src.length := by omega
   subst e
   rw [List.take_length] at ha
   exact .inl ⟨by rw [← hlm]; exact G.stop H' hS, q H' ys hS hy ha⟩
theorem jgx (K : PySem.W.Frag) {α : Type} {J : It} {src : List α} {gv : α → V × V} {mp : List (Option Nat)} {σ : St} {H1 : Hp} {ti : TT} {te : TE} {Dd : Addr} {Q : VK} (p : α → Bool) (f : α → V) (G : jm7 J H1 (src.map gv)) (hD : H1 Dd = none) (hz : src.length ≤ sizeLine)
   (ht : ∀ a ∈ src, ∀ (H' : Hp) (R : Bool → Hp → Prop), jap H1 H' → (∀ H'', jap H' H'' → R (p a) H'') → ti (((pick mp σ).set 0 (some (gv a).1)).set 1 (some (gv a).2)) H' R)
   (he : ∀ a ∈ src, p a = true → ∀ (H' : Hp) (R : VK), jap H1 H' → (∀ H'', jap H' H'' → R (f a) H'') → te (((pick mp σ).set 0 (some (gv a).1)).set 1 (some (gv a).2)) H' R)
   (q : ∀ H', jap H1 H' → H' Dd = some (.lst ((src.filter p).map f)) → Q (.ref Dd) H') :
   jin J mp (jpq K 2 (jjo (jdf 0) (jjo (jdf 1) jqg))) ti te Dd Q σ H1 :=
 jk1 K p (fun x y _ => y = f x) G hD hz (fun _ _ _ _ _ h => h) ht (fun x hx hp H' R s1 _ k => he x hx hp H' R s1 fun H'' s2 => k _ H'' s2 rfl)
   fun H' ys s1 hy ha => q H' s1 (by rw [hy, ha.map])
end L2
namespace My
open Wr
abbrev Cnt := List (Tx × Int)
def jpD (m : Cnt) (k : Tx) : Int := ((m.find? fun p => decide (p.1 = k)).map (·.2)).getD 0
def jos (m : Cnt) (k : Tx) (v : Int) : Cnt := if (m.any fun p => decide (p.1 = k)) = true then m.map (fun p => if p.1 = k then (p.1, v) else p) else m ++ [(k, v)]
def jqR (m : Cnt) (k : Tx) (n : Int) : Cnt := jos m k (jpD m k + n)
def putS (ws : List Tx) (p : Tx × Int) (l : List Nat) (acc : Cnt) : Cnt := l.foldl (fun acc c => jqR acc (stF ws (p.1 ++ [c])) p.2) acc
def jgh (ws : List Tx) (G : Nat) (l : Cnt) (acc : Cnt) : Cnt := l.foldl (fun acc p => if p.1 ∈ ws then acc else putS ws p (abcd.take G) acc) acc
def jiP (ws : List Tx) (G : Nat) : Nat → Cnt
 | 0 => [([], 1)]
 | n + 1 => jgh ws G (jiP ws G n) []
abbrev keys (m : Cnt) : List Tx := m.map (·.1)
structure jdx (ws : List Tx) (m : Cnt) : Prop where
 nd : (keys m).Nodup
 beg : ∀ k ∈ keys m, Beg ws k
theorem jlm {m : Cnt} {k : Tx} : (m.any fun p => decide (p.1 = k)) = true ↔ k ∈ keys m := by
 rw [List.any_eq_true]
 constructor
 · rintro ⟨p, h1, h2⟩; exact List.mem_map.mpr ⟨p, h1, of_decide_eq_true h2⟩
 · intro h; obtain ⟨p, h1, h2⟩ := List.mem_map.mp h; exact ⟨p, h1, decide_eq_true h2⟩
theorem jh9 {m : Cnt} {k : Tx} {v : Int} : keys (jos m k v) = if k ∈ keys m then keys m else keys m ++ [k] := by
 unfold jos
 by_cases h : k ∈ keys m
 · rw [if_pos (jlm.mpr h), if_pos h]
   unfold keys
   rw [List.map_map]
   apply List.map_congr_left
   intro p hp
   show (if p.1 = k then (p.1, v) else p).1 = p.1
   split <;> rfl
 · rw [if_neg (fun z => h (jlm.mp z)), if_neg h]
   simp [keys]
theorem jdx.put {ws : List Tx} {m : Cnt} (h : jdx ws m) {k : Tx} {v : Int} (hk : Beg ws k) : jdx ws (jos m k v) := by
 refine ⟨?_, fun t ht => ?_⟩
 · rw [jh9]
   split
   · exact h.nd
   · rename_i hn
     rw [List.nodup_append]
     refine ⟨h.nd, by simp, fun a ha b hb => ?_⟩
     simp at hb
     subst hb
     exact fun z => hn (z ▸ ha)
 · rw [jh9] at ht
   split at ht
   · exact h.beg t ht
   · rcases List.mem_append.mp ht with z | z
     · exact h.beg t z
     · simp at z; subst z; exact hk
theorem jdx.putS {ws : List Tx} (hw : ws ≠ []) {p : Tx × Int} : ∀ {l : List Nat} {m : Cnt}, jdx ws m → jdx ws (putS ws p l m)
 | [], m, h => h
 | c :: l, m, h => by
   show jdx ws (My.putS ws p l (jqR m (stF ws (p.1 ++ [c])) p.2))
   exact jdx.putS hw (h.put (jcH hw _))
theorem jdx.step {ws : List Tx} (hw : ws ≠ []) {G : Nat} : ∀ {l m : Cnt}, jdx ws m → jdx ws (jgh ws G l m)
 | [], m, h => h
 | p :: l, m, h => by
   show jdx ws (jgh ws G l (if p.1 ∈ ws then m else My.putS ws p (abcd.take G) m))
   refine jdx.step hw ?_
   split
   · exact h
   · exact h.putS hw
theorem cnt_nil (ws : List Tx) : jdx ws [] := ⟨List.nodup_nil, fun k hk => by simp at hk⟩
theorem jlr {ws : List Tx} (hw : ws ≠ []) (G : Nat) : ∀ n, jdx ws (jiP ws G n)
 | 0 => ⟨by simp [jiP], fun k hk => by simp [jiP] at hk; subst hk; exact jfG hw⟩
 | n + 1 => (cnt_nil ws).step hw
def jqz (ws : List Tx) (m : Cnt) : Int := ((m.filter fun p => !decide (p.1 ∈ ws)).map (·.2)).sum
def endC (ws : List Tx) (m : Cnt) : List Int := ws.map fun w => jpD m w
end My
namespace My
open PySem L2 PySem.Spec PyProof.Rows Wr
abbrev kvC (m : Cnt) : List (Key × V) := m.map fun p => ((Sum.inr (S p.1) : Key), V.int p.2)
theorem joy {a b : List Nat} : ((Sum.inr (S a) : Key) = Sum.inr (S b)) ↔ a = b :=
 ⟨fun h => jm4.mp (Sum.inr.inj h), fun h => by rw [h]⟩
theorem jjN (k : Tx) : ∀ m : Cnt, jkj (kvC m) (Sum.inr (S k)) = (m.find? fun p => decide (p.1 = k)).map fun p => V.int p.2
 | [] => rfl
 | p :: m => by
   by_cases e : p.1 = k
   · rw [show kvC (p :: m) = ((Sum.inr (S p.1) : Key), V.int p.2) :: kvC m from rfl, jeY (by rw [e]), List.find?_cons]
     simp [e]
   · rw [show kvC (p :: m) = ((Sum.inr (S p.1) : Key), V.int p.2) :: kvC m from rfl, jfa (fun z => e (joy.mp z)), jjN k m, List.find?_cons]
     simp [e]
theorem jjA (m : Cnt) (k : Tx) : (jkj (kvC m) (Sum.inr (S k))).getD (.int 0) = V.int (jpD m k) := by
 rw [jjN]
 unfold jpD
 cases m.find? fun p => decide (p.1 = k) <;> rfl
theorem jmQ (m : Cnt) (k : Tx) (v : Int) : putK (kvC m) (Sum.inr (S k)) (V.int v) = kvC (jos m k v) := by
 have ha : ((kvC m).any fun kv => decide (kv.1 = (Sum.inr (S k) : Key))) = m.any fun p => decide (p.1 = k) := by
   rw [List.any_map]
   apply congrArg (fun f => m.any f)
   funext p
   simp only [Function.comp, joy]
 unfold putK jos
 rw [ha]
 split
 · rw [List.map_map, kvC, List.map_map]
   apply List.map_congr_left
   intro p _
   simp only [Function.comp, joy]
   split <;> rfl
 · simp
theorem jjm (m : Cnt) : (kvC m).length = m.length := List.length_map ..
theorem joX {m : Cnt} {i : Nat} (h : i < m.length) : (kvC m)[i]? = some ((Sum.inr (S m[i].1) : Key), V.int m[i].2) := by
 rw [List.getElem?_map, List.getElem?_eq_getElem h]; rfl
theorem jiX {n : Nat} {ws : List (List Nat)} (R : jbc n ws) {m : Cnt} (h : jdx ws m) : m.length ≤ 25 := by
 have h1 := jck (l := keys m) (m := jga ws) h.nd fun t ht => (jdz R.race.ne).mpr (h.beg t ht)
 have h2 := jd0 R.w
 have := R.hi
 unfold jga at h1
 rw [List.length_cons, List.length_map] at h1
 omega
theorem jj8 (ws : List Tx) (G : Nat) (l acc : Cnt) (i : Nat) (h : i < l.length) :
   jgh ws G (l.take (i + 1)) acc = if l[i].1 ∈ ws then jgh ws G (l.take i) acc else putS ws l[i] (abcd.take G) (jgh ws G (l.take i) acc) := by
 unfold jgh
 rw [List.take_succ_eq_append_getElem h, List.foldl_append]
 rfl
theorem jlY (ws : List Tx) (p : Tx × Int) (l : List Nat) (acc : Cnt) (i : Nat) (h : i < l.length) :
   putS ws p (l.take (i + 1)) acc = jqR (putS ws p (l.take i) acc) (stF ws (p.1 ++ [l[i]])) p.2 := by
 unfold putS
 rw [List.take_succ_eq_append_getElem h, List.foldl_append]
 rfl
end My
namespace L2
open PySem PySem.Spec PyProof.Rows My Wr
theorem jlS {td ty tx : TE} {σ : St} {H : Hp} {Q : VK} (h : td σ H fun x H1 => ∃ a, x = .ref a ∧ IsD H1 a ∧ ty σ H1 fun y H2 => tx σ H2 fun z H3 => ∃ o, jqc H3 a y o ∧ Q (o.getD z) H3) : jni td ty tx σ H Q := h
theorem jng {td ty tv : TE} {D : Ends} {σ : St} {H : Hp} (h : tv σ H fun v H1 => td σ H1 fun x H2 => ty σ H2 fun y H3 => ∃ a H4, x = .ref a ∧ jqk H3 a y v H4 ∧ D.nx σ H4) : jpy td ty tv D σ H := h
theorem jnN {σ : St} {H : Hp} {Q : VK} (h : ∀ p, H p = none → Q (.ref p) (upd H p (.dK []))) : jnF σ H Q := h
theorem jkO {tk tv : TE} {σ : St} {H : Hp} {Q : VK} (h : ∀ p, H p = none → tk σ (upd H p (.dK [])) fun x H1 => tv σ H1 fun y H2 => H2 p = some (.dK []) ∧ ∃ kvs : List (Key × V), [(x, y)] = kvs.map (fun kv => (kV kv.1, kv.2)) ∧ kvs.length ≤ 15 ∧ Q (.ref p) (upd H2 p (.dK (jfw [] kvs)))) : jpp [(tk, tv)] σ H Q := h
theorem joK {k : List Nat} {n : Int} {R : Hp → Prop} {p : Addr} {H : Hp} (h : R (upd H p (.dK (kvC [(k, n)])))) : ∃ kvs : List (Key × V), [(V.str (S k), V.int n)] = kvs.map (fun kv => (kV kv.1, kv.2)) ∧ kvs.length ≤ 15 ∧ R (upd H p (.dK (jfw [] kvs))) :=
 ⟨[((Sum.inr (S k) : Key), V.int n)], rfl, (by show (1 : Nat) ≤ 15; decide), h⟩
theorem jpM {H : Hp} {a : Addr} {m : Cnt} {k : List Nat} (e : Rd H a (.dK (kvC m))) : jqc H a (.str (S k)) (jkj (kvC m) (Sum.inr (S k))) := .inl ⟨_, Sum.inr (S k), e, rfl, rfl⟩
theorem jo9 {H : Hp} {a : Addr} {m : Cnt} {k : List Nat} {v : Int} {R : Hp → Prop} (e : H a = some (.dK (kvC m))) (hl : m.length ≤ 1000) (h : R (upd H a (.dK (kvC (jos m k v))))) : ∃ a' H4, V.ref a = .ref a' ∧ jqk H a' (.str (S k)) (.int v) H4 ∧ R H4 :=
 ⟨a, _, rfl, .inl ⟨_, Sum.inr (S k), e, rfl, by rw [jjm]; exact Nat.lt_of_le_of_lt hl (by decide), by rw [jmQ]⟩, h⟩
def jcx (c : Addr) (H H' : Hp) : Prop := ∀ b o, b ≠ c → H b = some o → H' b = some o
theorem jcx.seq {K : PySem.W.Frag} {H H' : Hp} {a c : Addr} {xs : List V} {kvs : List (Key × V)} (e : jcx c H H') (hc : H c = some (.dK kvs)) (h : SqL K H a xs) : SqL K H' a xs := by
 rcases h with (h | ⟨o, h⟩) | h
 · exact .inl (.inl (e _ _ (jgg h hc (fun z => nomatch z)) h))
 · exact .inl (.inr ⟨o, e _ _ (jgg h hc (fun z => nomatch z)) h⟩)
 · exact .inr h
theorem jcx.of {c : Addr} {H H' : Hp} (s : jap H H') : jcx c H H' := fun b o _ e => s b o e
theorem jcx.trans {c : Addr} {H H' H'' : Hp} (s : jcx c H H') (t : jap H' H'') : jcx c H H'' := fun b o hb e => t b o (s b o hb e)
theorem jcx.upd {c a : Addr} {H H' : Hp} {u : HO} (s : jcx c H H') (hn : H a = none) : jcx c H (upd H' a u) := fun b o hb e => by
 rw [jaw (jaF e hn)]; exact s b o hb e
theorem jcx.updC {c : Addr} {H H' : Hp} {u : HO} (s : jcx c H H') : jcx c H (L2.upd H' c u) := fun b o hb e => by
 rw [jaw hb]; exact s b o hb e
theorem jcx.same {c : Addr} {H0 H H' : Hp} (s : jcx c H H') (s0 : jap H0 H) (hn : H0 c = none) : jap H0 H' := fun b o e => s b o (jaF e hn) (s0 b o e)
theorem jpU {b : Bool} {A B : Prop} (hb : b = false) (h : B) : if b = true then A else B := by subst hb; exact jkI h
theorem jpa {b : Bool} {A B : Prop} (hb : b = true) (h : A) : if b = true then A else B := by subst hb; exact jqf h
end L2
namespace PySem
open Sem (wp)
structure jd8 (z TI TO i1 i2 : Addr) (fp1 fp2 : List Addr) : Prop where
 TIz : TI ≠ z
 TOz : TO ≠ z
 i1z : i1 ≠ z
 i2z : i2 ≠ z
 TITO : TI ≠ TO
 TIi1 : TI ≠ i1
 TIi2 : TI ≠ i2
 TOi1 : TO ≠ i1
 TOi2 : TO ≠ i2
 f1 : ∀ b ∈ fp1, b ≠ z ∧ b ≠ TO ∧ b ≠ i2
 f2 : ∀ b ∈ fp2, b ≠ z ∧ b ≠ TO ∧ b ≠ i1
section
variable {prog : Program} {w : World} {A : Around} {E : Value → Shared → Prop} {s : Shared} {n1 n2 : Nat} {P1 P2 : Nat → Value → Prop} {St1 St2 : Nat → Heap → Prop} {fp1 fp2 : List Addr}
theorem jgt {z TI TO i1 i2 : Addr} {k1 k2 : Nat} {a b : Value} {Q : Value → Shared → Prop} (D : jd8 z TI TO i1 i2 fp1 fp2) (D1 : Draws prog w A i1 fp1 n1 P1 St1) (D2 : Draws prog w A i2 fp2 n2 P2 St2)
   (hz : IsZip s.heap z TI TO .none) (hTI : IsPair s.heap TI (.ref i1) (.ref i2)) (hTO : IsPair s.heap TO a b) (h1 : St1 k1 s.heap) (h2 : St2 k2 s.heap) (hk1 : k1 < n1) (hk2 : k2 < n2)
   (hQ : ∀ h' tk x y, P1 k1 x → P2 k2 y → IsZip h' z TI TO (rawInt s.heap.objs.size) → IsPair h' TO x y → St1 (k1 + 1) h' → St2 (k2 + 1) h' → IsPair h' s.heap.objs.size x y → h'.objs.size = s.heap.objs.size + 1 →
     (∀ c o, c ≠ z → c ≠ TO → c ≠ i1 → c ≠ i2 → s.heap.get? c = some o → h'.get? c = some o) → Q (.ref s.heap.objs.size) { s with heap := h', toks := tk }) :
   wpAny (model prog w) A (Builtin.«zip.__next__» ⟨[.ref z], []⟩) (fun fin s' => ∃ v, fin = .done (.ret v) ∧ Q v s') E s := by
 show wpAny _ _ (field (.ref z) 2 >>= _) _ _ _
 refine wpAny_bind (wpAny_field hz rfl (x := .bool false) rfl ?_)
 show wpAny _ _ (field (.ref z) 3 >>= _) _ _ _
 refine wpAny_bind (wpAny_field hz rfl (x := .ref TI) rfl ?_)
 refine wpAny_bind (wpAny_seqItems hTI rfl ?_)
 show wpAny _ _ (Builtin.SmallTypes.ownedTupleIsFree (.ref z) >>= _) _ _ _
 refine wpAny_bind ?_
 unfold Builtin.SmallTypes.ownedTupleIsFree
 refine wpAny_bind (wpAny_field hz rfl (x := .none) rfl (wpAny_pure ?_))
 simp only [if_true]
 refine wpAny_bind (wpAny_rule ?_)
 refine wpAny_bind (wpAny_field hz rfl (x := .ref TO) rfl ?_)
 refine wpAny_bind (wpAny_setField_rec hz (by simp) fun h₁ hz₁ hs₁ => ?_)
 replace hz₁ : IsZip h₁ z TI TO .ellipsis := hz₁
 refine wpAny_bind ?_
 simp only [List.zipIdx_cons, List.zipIdx_nil, List.forIn_cons, List.forIn_nil]
 have f1z : ∀ b ∈ fp1, ∀ o, s.heap.get? b = some o → h₁.get? b = some o := fun b hb o e => hs₁.extBut _ _ (D.f1 b hb).1 e
 have f2z : ∀ b ∈ fp2, ∀ o, s.heap.get? b = some o → h₁.get? b = some o := fun b hb o e => hs₁.extBut _ _ (D.f2 b hb).1 e
 refine wpAny_bind (wpAny_bind (wpAny_onRaise ?_))
 show wpAny _ _ (Builtin.SmallTypes.nextOf (.ref i1) >>= _) _ _ _
 refine wpAny_bind (D1.item k1 _ _ _ hk1 (D1.frame _ _ _ h1 f1z) fun x h₂ tk₂ hx h1₂ hs₂ => wpAny_pure ?_)
 replace hs₂ : Heap.SameBut i1 h₁ h₂ := hs₂
 have hTO₂ : IsPair h₂ TO a b := hs₂.extBut _ _ D.TOi1 (hs₁.extBut _ _ D.TOz hTO)
 refine wpAny_bind (wpAny_seqItems hTO₂ rfl ?_)
 refine wpAny_bind (wpAny_updateSeq_pair hTO₂ fun h₃ hTO₃ hs₃ => ?_)
 replace hTO₃ : IsPair h₃ TO x b := hTO₃
 replace hs₃ : Heap.SameBut TO h₂ h₃ := hs₃
 refine wpAny_bind (wpAny_letGo (wpAny_pure ?_))
 refine wpAny_bind (wpAny_bind (wpAny_onRaise ?_))
 show wpAny _ _ (Builtin.SmallTypes.nextOf (.ref i2) >>= _) _ _ _
 refine wpAny_bind (D2.item k2 _ _ _ hk2 (D2.frame _ _ _ h2 fun b hb o e => hs₃.extBut _ _ (D.f2 b hb).2.1 (hs₂.extBut _ _ (D.f2 b hb).2.2 (f2z b hb o e))) fun y h₄ tk₄ hy h2₄ hs₄ => wpAny_pure ?_)
 replace hs₄ : Heap.SameBut i2 h₃ h₄ := hs₄
 have hTO₄ : IsPair h₄ TO x b := hs₄.extBut _ _ D.TOi2 hTO₃
 refine wpAny_bind (wpAny_seqItems hTO₄ rfl ?_)
 refine wpAny_bind (wpAny_updateSeq_pair hTO₄ fun h₅ hTO₅ hs₅ => ?_)
 replace hTO₅ : IsPair h₅ TO x y := hTO₅
 replace hs₅ : Heap.SameBut TO h₄ h₅ := hs₅
 refine wpAny_bind (wpAny_letGo (wpAny_pure (wpAny_pure ?_)))
 refine wpAny_bind (wpAny_seqItems hTO₅ rfl ?_)
 refine wpAny_bind (wpAny_newTuple ?_)
 have hsz : h₅.objs.size = s.heap.objs.size := by rw [hs₅.1, hs₄.1, hs₃.1, hs₂.1, hs₁.1]
 have hz₅ : IsZip h₅ z TI TO .ellipsis := hs₅.extBut _ _ D.TOz.symm (hs₄.extBut _ _ D.i2z.symm (hs₃.extBut _ _ D.TOz.symm (hs₂.extBut _ _ D.i1z.symm hz₁)))
 have hk₅ : ∀ c o, c ≠ z → c ≠ TO → c ≠ i1 → c ≠ i2 → s.heap.get? c = some o → h₅.get? c = some o := fun c o c1 c2 c3 c4 e =>
   hs₅.extBut _ _ c2 (hs₄.extBut _ _ c4 (hs₃.extBut _ _ c2 (hs₂.extBut _ _ c3 (hs₁.extBut _ _ c1 e))))
 have h1₅ : St1 (k1 + 1) h₅ := D1.frame _ _ _ h1₂ fun b hb o e => hs₅.extBut _ _ (D.f1 b hb).2.1 (hs₄.extBut _ _ (D.f1 b hb).2.2 (hs₃.extBut _ _ (D.f1 b hb).2.1 e))
 have h2₅ : St2 (k2 + 1) h₅ := D2.frame _ _ _ h2₄ fun b hb o e => hs₅.extBut _ _ (D.f2 b hb).2.1 e
 have hzlt : z < h₅.objs.size := Heap.lt_size hz₅
 show wpAny _ _ (Builtin.SmallTypes.ownedTupleHandOut (.ref z) (.ref h₅.objs.size) >>= _) _ _ _
 refine wpAny_bind ?_
 unfold Builtin.SmallTypes.ownedTupleHandOut
 have hz₆ : IsZip (h₅.push { cls := .type "tuple", data := .seq #[x, y] }) z TI TO .ellipsis := Heap.get?_push_of_some _ hz₅
 refine wpAny_bind (wpAny_setField_rec hz₆ (by simp) fun h₇ hz₇ hs₇ => ?_)
 replace hz₇ : IsZip h₇ z TI TO (rawInt h₅.objs.size) := hz₇
 refine wpAny_setField_rec hz₇ (by simp) fun h₈ hz₈ hs₈ => ?_
 replace hz₈ : IsZip h₈ z TI TO (rawInt h₅.objs.size) := hz₈
 have up : ∀ c o, c ≠ z → h₅.get? c = some o → h₈.get? c = some o := fun c o c1 e => hs₈.extBut _ _ c1 (hs₇.extBut _ _ c1 (Heap.get?_push_of_some _ e))
 have hT₈ : IsPair h₈ h₅.objs.size x y := hs₈.extBut _ _ (Nat.ne_of_gt hzlt) (hs₇.extBut _ _ (Nat.ne_of_gt hzlt) (Heap.get?_push_size _ rfl))
 have hz8 : h₈.objs.size = h₅.objs.size + 1 := by rw [hs₈.1, hs₇.1, Heap.size_push]
 rw [hsz] at hz₈ hT₈ hz8
 refine wpAny_pure ⟨_, rfl, ?_⟩
 show Q (.ref h₅.objs.size) _
 rw [hsz]
 exact hQ h₈ tk₄ x y hx hy hz₈ (up _ _ D.TOz hTO₅) (D1.frame _ _ _ h1₅ fun b hb o e => up _ o (D.f1 b hb).1 e) (D2.frame _ _ _ h2₅ fun b hb o e => up _ o (D.f2 b hb).1 e) hT₈ hz8 fun c o c1 c2 c3 c4 e => up c o c1 (hk₅ c o c1 c2 c3 c4 e)
theorem jhe {z TI TO i1 i2 : Addr} {a b : Value} {Q : Fin → Shared → Prop} (D : jd8 z TI TO i1 i2 fp1 fp2) (D1 : Draws prog w A i1 fp1 n1 P1 St1)
   (hz : IsZip s.heap z TI TO .none) (hTI : IsPair s.heap TI (.ref i1) (.ref i2)) (hTO : IsPair s.heap TO a b) (h1 : St1 n1 s.heap)
   (hE : ∀ h' e, (∀ c o, c ≠ z → c ≠ TO → c ≠ i1 → c ≠ i2 → s.heap.get? c = some o → h'.get? c = some o) → (∃ o, h'.get? e = some o ∧ o.cls = .type "StopIteration") → E (.ref e) { s with heap := h' }) :
   wpAny (model prog w) A (Builtin.«zip.__next__» ⟨[.ref z], []⟩) Q E s := by
 show wpAny _ _ (field (.ref z) 2 >>= _) _ _ _
 refine wpAny_bind (wpAny_field hz rfl (x := .bool false) rfl ?_)
 show wpAny _ _ (field (.ref z) 3 >>= _) _ _ _
 refine wpAny_bind (wpAny_field hz rfl (x := .ref TI) rfl ?_)
 refine wpAny_bind (wpAny_seqItems hTI rfl ?_)
 show wpAny _ _ (Builtin.SmallTypes.ownedTupleIsFree (.ref z) >>= _) _ _ _
 refine wpAny_bind ?_
 unfold Builtin.SmallTypes.ownedTupleIsFree
 refine wpAny_bind (wpAny_field hz rfl (x := .none) rfl (wpAny_pure ?_))
 simp only [if_true]
 refine wpAny_bind (wpAny_rule ?_)
 refine wpAny_bind (wpAny_field hz rfl (x := .ref TO) rfl ?_)
 refine wpAny_bind (wpAny_setField_rec hz (by simp) fun h₁ hz₁ hs₁ => ?_)
 replace hz₁ : IsZip h₁ z TI TO .ellipsis := hz₁
 refine wpAny_bind ?_
 simp only [List.zipIdx_cons, List.zipIdx_nil, List.forIn_cons, List.forIn_nil]
 refine wpAny_bind (wpAny_bind (wpAny_onRaise ?_))
 show wpAny _ _ (Builtin.SmallTypes.nextOf (.ref i1) >>= _) _ _ _
 refine wpAny_bind (D1.done _ _ _ (D1.frame _ _ _ h1 fun b hb o e => hs₁.extBut _ _ (D.f1 b hb).1 e) fun h₂ e hs₂ he => ?_)
 obtain ⟨oe, hoe, hce⟩ := he
 have hz₂ : IsZip h₂ z TI TO .ellipsis := hs₂ _ _ D.i1z.symm hz₁
 have hez : e ≠ z := fun x => by subst x; rw [hz₂] at hoe; cases hoe; simp at hce
 refine wpAny_setField_rec hz₂ (by simp) fun h₃ _ hs₃ => hE h₃ e (fun c o c1 _ c3 _ x => hs₃.extBut _ _ c1 (hs₂ _ _ c3 (hs₁.extBut _ _ c1 x))) ⟨oe, hs₃.extBut _ _ hez hoe, hce⟩
end
section
variable {prog : Program} {w : World} {A : Around} {E : Value → Shared → Prop} {s : Shared} {n1 n2 : Nat} {P1 P2 : Nat → Value → Prop} {St1 St2 : Nat → Heap → Prop} {fp1 fp2 : List Addr}
theorem jdi {z TI TO i1 i2 : Addr} {k1 k2 : Nat} {a b : Value} {Q : Option Value → Shared → Prop} (D : jd8 z TI TO i1 i2 fp1 fp2) (D1 : Draws prog w A.in1 i1 fp1 n1 P1 St1) (D2 : Draws prog w A.in1 i2 fp2 n2 P2 St2)
   (hz : IsZip s.heap z TI TO .none) (hTI : IsPair s.heap TI (.ref i1) (.ref i2)) (hTO : IsPair s.heap TO a b) (h1 : St1 k1 s.heap) (h2 : St2 k2 s.heap) (hk1 : k1 < n1) (hk2 : k2 < n2)
   (hQ : ∀ h' tk x y, P1 k1 x → P2 k2 y → IsZip h' z TI TO (rawInt s.heap.objs.size) → IsPair h' TO x y → St1 (k1 + 1) h' → St2 (k2 + 1) h' → IsPair h' s.heap.objs.size x y → h'.objs.size = s.heap.objs.size + 1 →
     (∀ c o, c ≠ z → c ≠ TO → c ≠ i1 → c ≠ i2 → s.heap.get? c = some o → h'.get? c = some o) → Q (some (.ref s.heap.objs.size)) { s with heap := h', toks := tk }) :
   wpAny (model prog w) A (pyNext (.ref z)) Q E s := by
 have hT : s.TypeIs (.ref z) "zip" := ⟨_, hz, rfl⟩
 unfold pyNext
 exact wpAny_bind (wpAny_attempt (wpAny_callSpecial?_slot (name := Str.ofString "__next__") hT F.slot_zip_next
   (wpAny_call_entry F.slot_zip_next hT F.entry_zip_next
     (jgt D D1 D2 hz hTI hTO h1 h2 hk1 hk2 fun h' tk x y a1 a2 a3 a4 a5 a6 a7 a8 a9 => wpAny_pure (hQ h' tk x y a1 a2 a3 a4 a5 a6 a7 a8 a9)) (F.args_zip_next_1 _))))
theorem jdv {z TI TO i1 i2 : Addr} {a b : Value} {Q : Option Value → Shared → Prop} (D : jd8 z TI TO i1 i2 fp1 fp2) (D1 : Draws prog w A.in1 i1 fp1 n1 P1 St1)
   (hz : IsZip s.heap z TI TO .none) (hTI : IsPair s.heap TI (.ref i1) (.ref i2)) (hTO : IsPair s.heap TO a b) (h1 : St1 n1 s.heap)
   (hQ : ∀ h', (∀ c o, c ≠ z → c ≠ TO → c ≠ i1 → c ≠ i2 → s.heap.get? c = some o → h'.get? c = some o) → Q none { s with heap := h' }) : wpAny (model prog w) A (pyNext (.ref z)) Q E s := by
 have hT : s.TypeIs (.ref z) "zip" := ⟨_, hz, rfl⟩
 unfold pyNext
 refine wpAny_bind (wpAny_attempt (wpAny_callSpecial?_slot (name := Str.ofString "__next__") hT F.slot_zip_next
   (wpAny_call_entry F.slot_zip_next hT F.entry_zip_next (jhe D D1 hz hTI hTO h1 fun h' e hk he => ?_) (F.args_zip_next_1 _))))
 obtain ⟨o, ho, hc⟩ := he
 refine wpAny_bind (wpAny_isInstance (T := "StopIteration") (b := true) ⟨o, ho, hc⟩ isSubtype_stop ?_)
 exact wpAny_pure (hQ _ hk)
end
end PySem
namespace PySem
theorem jgq (x : Str) (t : Tok) (l2 : Addr) (ys : Array Value) (ha : x.cps.all (· < 128) = true) :
   Meets (Builtin.«zip.__new__» ⟨[.type "zip", .str x t, .ref l2], []⟩) (fun _ R s => s.heap.IsList l2 ys ∧
     R (.ok (.ret (.ref (s.heap.objs.size + 4)))) { s with heap := ((((s.heap.push { cls := .type "str_ascii_iterator", data := .fields #[.str x t, .int 0 0] }).push { cls := .type "list_iterator", data := .fields #[.ref l2, .int 0 0] }).push { cls := .type "tuple", data := .seq #[.ref s.heap.objs.size, .ref (s.heap.objs.size + 1)] }).push
       { cls := .type "tuple", data := .seq #[.none, .none] }).push { cls := .type "zip", data := .fields #[.none, .bool false, .bool false, .ref (s.heap.objs.size + 2), .ref (s.heap.objs.size + 3)] } }) :=
 .of_wp fun prog w A R s h => by
   obtain ⟨hp, g, d, tk, os⟩ := s; obtain ⟨hl2, h⟩ := h
   have hsub := sub_zip
   have hL2 : Heap.IsList (Shared.heap ⟨hp.push { cls := .type "str_ascii_iterator", data := .fields #[.str x t, .int 0 0] }, g, d, tk, os⟩) l2 ys := Heap.IsList.push hl2 _
   wp_walk using wpAny_pyIter_ascii ha, wpAny_pyIter_list hL2
   simp only [Heap.size_push] at h ⊢
   exact ⟨_, rfl, h⟩
theorem jkD {prog : Program} {w : World} {A : Around} {E : Value → Shared → Prop} {s : Shared} {x : Str} {t : Tok} {l2 : Addr} {ys : Array Value} {Q : Value → Shared → Prop} (ha : x.cps.all (· < 128) = true) (hl2 : s.heap.IsList l2 ys)
   (h : ∀ h', IsZip h' (s.heap.objs.size + 4) (s.heap.objs.size + 2) (s.heap.objs.size + 3) .none → IsPair h' (s.heap.objs.size + 2) (.ref s.heap.objs.size) (.ref (s.heap.objs.size + 1)) →
     IsPair h' (s.heap.objs.size + 3) .none .none → h'.IsStrIter s.heap.objs.size "str_ascii_iterator" x t 0 → h'.IsListIter (s.heap.objs.size + 1) l2 0 → h'.objs.size = s.heap.objs.size + 5 →
     (∀ c o, s.heap.get? c = some o → h'.get? c = some o) → Q (.ref (s.heap.objs.size + 4)) { s with heap := h' }) :
   wpAny (model prog w) A (call (.type "zip") [.str x t, .ref l2]) Q E s := by
 refine callType_new F.called_zip (by decide) (F.typeCall_zip_2 _ _) (F.newCall_zip_2 _ _) (fun obj => F.args_object_init_3 obj _ _) F.entry_zip_new
   (jgq x t l2 ys ha) ⟨hl2, ?_⟩
 have sz : ∀ (h : Heap) (o : Obj), (h.push o).objs.size = h.objs.size + 1 := fun h o => Heap.size_push ..
 have at_ : ∀ (h : Heap) (o : Obj) (n : Nat), h.objs.size = n → o.isFreed = false → (h.push o).get? n = some o := fun h o n e f => by subst e; exact Heap.get?_push_size _ f
 have up : ∀ (h : Heap) (o u : Obj) (n : Nat), h.get? n = some u → (h.push o).get? n = some u := fun h o u n e => Heap.get?_push_of_some _ e
 show _ ∧ _
 refine ⟨⟨_, at_ _ _ _ (by simp only [sz]) rfl, rfl⟩, h _ (at_ _ _ _ (by simp only [sz]) rfl) (up _ _ _ _ (up _ _ _ _ (at_ _ _ _ (by simp only [sz]) rfl))) (up _ _ _ _ (at_ _ _ _ (by simp only [sz]) rfl))
   ⟨_, up _ _ _ _ (up _ _ _ _ (up _ _ _ _ (up _ _ _ _ (at_ _ _ _ rfl rfl)))), rfl, rfl⟩ ⟨_, up _ _ _ _ (up _ _ _ _ (up _ _ _ _ (at_ _ _ _ (by simp only [sz]) rfl))), rfl, rfl⟩ (by simp only [sz]) fun c o e => ?_⟩
 exact up _ _ _ _ (up _ _ _ _ (up _ _ _ _ (up _ _ _ _ (up _ _ _ _ e))))
end PySem
namespace L2
open PySem PySem.Spec PyProof.Rows
theorem boot_zip : bootBuiltins "zip" = some (.type "zip") := by decide +kernel
def jqh (K : PySem.W.Frag) (l : List Nat) (a : Addr) : It :=
 ⟨fun i H => i < l.length ∧ ∃ xs, SqL K H a xs ∧ xs.length = l.length, fun i H v H' => ∃ t c x, v = .ref t ∧ H t = none ∧ H' = upd H t (.tup [.str (S [c]), x]) ∧ l[i]? = some c ∧ ∀ xs, SqL K H a xs → xs[i]? = some x, fun i H => l.length ≤ i⟩
def jqj (K : PySem.W.Frag) (b a : Addr) : It :=
 ⟨fun i H => ∃ ys xs, SqL K H b ys ∧ SqL K H a xs ∧ xs.length = ys.length ∧ i < ys.length, fun i H v H' => ∃ t y x, v = .ref t ∧ H t = none ∧ H' = upd H t (.tup [y, x]) ∧ (∀ ys, SqL K H b ys → ys[i]? = some y) ∧ ∀ xs, SqL K H a xs → xs[i]? = some x,
   fun i H => ∃ ys, SqL K H b ys ∧ ys.length = i⟩
theorem jjD {h : Heap} {a z TI TO i j : Addr} {its : Array Value} {x y : Value} {k : Nat} {m : Addr} (p : PlainL h a its) (hz : IsZip h z TI TO .none) (hTO : IsPair h TO x y) (hi : h.IsListIter i m k) (hj : ∃ o ty, h.get? j = some o ∧ o.cls = .type ty ∧ ty ≠ "list") : a ≠ z ∧ a ≠ TO ∧ a ≠ i ∧ a ≠ j := by
 obtain ⟨oa, n, ea, ca, da, dda⟩ := p
 refine ⟨fun e => ?_, fun e => ?_, fun e => ?_, fun e => ?_⟩
 · subst e; rw [hz] at ea; cases ea; exact absurd (show Value.type "zip" = Value.type "list" from ca) (by decide)
 · subst e; rw [hTO] at ea; cases ea; exact absurd (show Value.type "tuple" = Value.type "list" from ca) (by decide)
 · subst e
   obtain ⟨o, ho, c, _⟩ := hi
   rw [ho] at ea; cases ea
   rw [c] at ca
   exact absurd ca (by decide)
 · subst e
   obtain ⟨o, ty, ho, c, hty⟩ := hj
   rw [ho] at ea; cases ea
   rw [c] at ca
   exact hty (by cases ca; rfl)
theorem jkS {P : Program} {w : World} {K : PySem.W.Frag} {elts : List Expr} {kk : Nat} {tp : Pos} {l : List Nat} {t : Tok} (a z TI TO i1 i2 : Addr) (ap : TI ≠ z ∧ TO ≠ z ∧ i1 ≠ z ∧ i2 ≠ z ∧ TI ≠ TO ∧ TI ≠ i1 ∧ TI ≠ i2 ∧ TO ≠ i1 ∧ TO ≠ i2 ∧ i1 ≠ i2) :
   Turn P w K (.Tuple elts kk tp) (jqh K l a) [z, TI, TO, i1, i2] z (fun i h => i ≤ l.length ∧ IsZip h z TI TO .none ∧ IsPair h TI (.ref i1) (.ref i2) ∧ (∃ a b, IsPair h TO a b) ∧ h.IsStrIter i1 "str_ascii_iterator" (S l) t i ∧ h.IsListIter i2 a i) where
 mem := by simp
 obj := fun i h st b hb => by
   obtain ⟨hil, hz, hTI, ⟨x, y, hTO⟩, ⟨o1, e1, c1, d1⟩, ⟨o2, e2, c2, d2⟩⟩ := st
   have hb' : b = z ∨ b = TI ∨ b = TO ∨ b = i1 ∨ b = i2 := by simpa using hb
   rcases hb' with q | q | q | q | q
   · subst q; exact ⟨_, hz, fun v z => nomatch z⟩
   · subst q; exact ⟨_, hTI, fun v z => nomatch z⟩
   · subst q; exact ⟨_, hTO, fun v z => nomatch z⟩
   · subst q; exact ⟨o1, e1, fun v z => by rw [d1] at z; cases z⟩
   · subst q; exact ⟨o2, e2, fun v z => by rw [d2] at z; cases z⟩
 keep := fun i h h' st k => by
   obtain ⟨hil, hz, hTI, ⟨x, y, hTO⟩, ⟨o1, e1, r1⟩, ⟨o2, e2, r2⟩⟩ := st
   exact ⟨hil, k z (by simp) _ hz, k TI (by simp) _ hTI, ⟨x, y, k TO (by simp) _ hTO⟩, ⟨o1, k i1 (by simp) _ e1, r1⟩, ⟨o2, k i2 (by simp) _ e2, r2⟩⟩
 item := by
   intro X hP hw hK hc i pins s σ H E I hf st hg
   subst hP hw hK
   obtain ⟨hil, hz, hTI, ⟨x0, y0, hTO⟩, h1, h2⟩ := st
   obtain ⟨hg1, xs, hq, hxl⟩ := hg
   obtain ⟨its, rv, p, hzz⟩ := I.list hq
   have hpl := p.isList
   have ne := jjD p hz hTO h2 (let ⟨o1, e1, c1, _⟩ := h1; ⟨o1, _, e1, c1, by decide⟩)
   have D1 := Draws.strAscii (prog := X.prog) (w := X.w) (A := X.A.in1) (I.ok.hd hc) i1 (S l) t
   have hin : i < xs.length := by omega
   have hl2 := rv.length
   have D2 := Draws.list (prog := X.prog) (w := X.w) (A := X.A.in1) (I.ok.hd hc) i2 a ne.2.2.1 its.toArray
   obtain ⟨a1, a2, a3, a4, a5, a6, a7, a8, a9, a10⟩ := id ap
   refine jdi (k1 := i) (k2 := i) ⟨a1, a2, a3, a4, a5, a6, a7, a8, a9, fun b hb => by (have e : b = i1 := by simpa using hb); rw [e]; exact ⟨a3, Ne.symm a8, a10⟩, fun b hb => ?_⟩ D1 D2 hz hTI hTO h1 ⟨h2, hpl⟩ (by simp; omega) (by simp; omega) fun hA tk u v hu hv heo hto hst1 hst2 ht1 hz1 hk1 => ?_
   · have hb' : b = i2 ∨ b = a := by simpa using hb
     rcases hb' with q | q
     · rw [q]; exact ⟨a4, Ne.symm a9, Ne.symm a10⟩
     · rw [q]; exact ⟨ne.1, ne.2.1, ne.2.2.2⟩
   refine ⟨_, rfl, wpAny_letOwnedTupleGo_zip heo fun hB he2 hs2 => ?_⟩
   have hs2 : Heap.SameBut z hA hB := hs2
   have hel : z < s.heap.objs.size := Heap.lt_size hz
   have hsz : H s.heap.objs.size = none := I.hok.fresh (Nat.le_refl _)
   have hpres : ∀ b o, b ∉ [z, TI, TO, i1, i2] → s.heap.get? b = some o → hB.get? b = some o := fun b o hb q => by
     have hb' : b ≠ z ∧ b ≠ TI ∧ b ≠ TO ∧ b ≠ i1 ∧ b ≠ i2 := by simpa using hb
     exact hs2.extBut b o hb'.1 (hk1 b o hb'.1 hb'.2.2.1 hb'.2.2.2.1 hb'.2.2.2.2 q)
   have I1 : Inv X pins σ H { s with heap := hB, toks := tk } := I.turnedL (t' := tk) hpres hf
   have ht2 : hB.get? s.heap.objs.size = some { cls := .type "tuple", data := .seq #[u, v] } := hs2.extBut _ _ (Nat.ne_of_gt hel) ht1
   have fpt : jge X pins H s.heap.objs.size := I.fpOk (Nat.le_refl _) hsz
   obtain ⟨c, uu, hcc, hue⟩ := hu
   have ryv : RelV (.str (S [c])) u := ⟨uu, hue⟩
   obtain ⟨xv, hxv, rxv⟩ := jdc (i := i) (u := v) rv (by simpa using hv)
   have I2 := I1.track (o := .tup [.str (S [c]), xv]) fpt ⟨by show 2 ≤ sizeLine; decide, [u, v], .cons ryv (.cons rxv .nil), ⟨_, ht2, rfl, 0, rfl⟩⟩
   refine ⟨.ref s.heap.objs.size, _, I2, rfl, ⟨_, c, xv, rfl, hsz, rfl, (by simpa using hcc), fun zs hy => by rw [I.list_inj hy hq]; exact hxv⟩, ⟨hg1, he2, hs2.extBut _ _ a1 (hk1 _ _ a1 a5 a6 a7 hTI), ⟨u, v, hs2.extBut _ _ a2 hto⟩, hst1.extBut hs2.extBut a3, hst2.1.extBut hs2.extBut a4⟩, fun b hb => ?_⟩
   have hlt : b < s.heap.objs.size := by
     have hb' : b = z ∨ b = TI ∨ b = TO ∨ b = i1 ∨ b = i2 := by simpa using hb
     obtain ⟨o1, e1, _⟩ := h1
     obtain ⟨o2, e2, _⟩ := h2
     rcases hb' with q | q | q | q | q
     · rw [q]; exact hel
     · rw [q]; exact Heap.lt_size hTI
     · rw [q]; exact Heap.lt_size hTO
     · rw [q]; exact Heap.lt_size e1
     · rw [q]; exact Heap.lt_size e2
   rw [jaw (Nat.ne_of_lt hlt)]
   exact (hf b hb).1
 done := by
   intro X hP hw hK hc i pins s σ H E I hf st hg
   subst hP hw hK
   obtain ⟨hil, hz, hTI, ⟨x0, y0, hTO⟩, h1, h2⟩ := st
   obtain ⟨a1, a2, a3, a4, a5, a6, a7, a8, a9, a10⟩ := id ap
   have hg' : l.length ≤ i := hg
   have ei : i = (S l).cps.size := by simp; omega
   have D1 := Draws.strAscii (prog := X.prog) (w := X.w) (A := X.A.in1) (I.ok.hd hc) i1 (S l) t
   refine jdv (fp2 := []) ⟨a1, a2, a3, a4, a5, a6, a7, a8, a9, fun b hb => by (have e : b = i1 := by simpa using hb); rw [e]; exact ⟨a3, Ne.symm a8, a10⟩, fun b hb => by simp at hb⟩ D1 hz hTI hTO (by rw [← ei]; exact h1) fun hA eb => ⟨rfl, I.turnedL (t' := s.toks) (fun b o hb q => ?_) hf⟩
   have hb' : b ≠ z ∧ b ≠ TI ∧ b ≠ TO ∧ b ≠ i1 ∧ b ≠ i2 := by simpa using hb
   exact eb b o hb'.1 hb'.2.2.1 hb'.2.2.2.1 hb'.2.2.2.2 q
 self := fun A i s Q E st h => by
   obtain ⟨hil, hz, _⟩ := st
   exact wpAny_pyIter_zip hz h
theorem jl6 {P : Program} {w : World} {K : PySem.W.Frag} {elts : List Expr} {kk : Nat} {tp : Pos} (b : Addr) (a z TI TO i1 i2 : Addr) (ap : TI ≠ z ∧ TO ≠ z ∧ i1 ≠ z ∧ i2 ≠ z ∧ TI ≠ TO ∧ TI ≠ i1 ∧ TI ≠ i2 ∧ TO ≠ i1 ∧ TO ≠ i2 ∧ i1 ≠ i2) :
   Turn P w K (.Tuple elts kk tp) (jqj K b a) [z, TI, TO, i1, i2] z (fun i h => IsZip h z TI TO .none ∧ IsPair h TI (.ref i1) (.ref i2) ∧ (∃ a b, IsPair h TO a b) ∧ h.IsListIter i1 b i ∧ h.IsListIter i2 a i) where
 mem := by simp
 obj := fun i h st b hb => by
   obtain ⟨hz, hTI, ⟨x, y, hTO⟩, ⟨o1, e1, c1, d1⟩, ⟨o2, e2, c2, d2⟩⟩ := st
   have hb' : b = z ∨ b = TI ∨ b = TO ∨ b = i1 ∨ b = i2 := by simpa using hb
   rcases hb' with q | q | q | q | q
   · subst q; exact ⟨_, hz, fun v z => nomatch z⟩
   · subst q; exact ⟨_, hTI, fun v z => nomatch z⟩
   · subst q; exact ⟨_, hTO, fun v z => nomatch z⟩
   · subst q; exact ⟨o1, e1, fun v z => by rw [d1] at z; cases z⟩
   · subst q; exact ⟨o2, e2, fun v z => by rw [d2] at z; cases z⟩
 keep := fun i h h' st k => by
   obtain ⟨hz, hTI, ⟨x, y, hTO⟩, ⟨o1, e1, r1⟩, ⟨o2, e2, r2⟩⟩ := st
   exact ⟨k z (by simp) _ hz, k TI (by simp) _ hTI, ⟨x, y, k TO (by simp) _ hTO⟩, ⟨o1, k i1 (by simp) _ e1, r1⟩, ⟨o2, k i2 (by simp) _ e2, r2⟩⟩
 item := by
   intro X hP hw hK hc i pins s σ H E I hf st hg
   subst hP hw hK
   obtain ⟨hz, hTI, ⟨x0, y0, hTO⟩, h1, h2⟩ := st
   obtain ⟨ys, xs, hb1, hq, hxl, hg1⟩ := hg
   obtain ⟨its, rv, p, hzz⟩ := I.list hq
   have hpl := p.isList
   have ne := jjD p hz hTO h2 (let ⟨o1, e1, c1, _⟩ := h1; ⟨o1, _, e1, c1, by decide⟩)
   obtain ⟨its1, rv1, p1, hzz1⟩ := I.list hb1
   have ne1 := jjD p1 hz hTO h1 (let ⟨o1, e1, c1, _⟩ := h2; ⟨o1, _, e1, c1, by decide⟩)
   have hl1 := rv1.length
   have D1 := Draws.list (prog := X.prog) (w := X.w) (A := X.A.in1) (I.ok.hd hc) i1 b ne1.2.2.1 its1.toArray
   have hin : i < xs.length := by omega
   have hl2 := rv.length
   have D2 := Draws.list (prog := X.prog) (w := X.w) (A := X.A.in1) (I.ok.hd hc) i2 a ne.2.2.1 its.toArray
   obtain ⟨a1, a2, a3, a4, a5, a6, a7, a8, a9, a10⟩ := id ap
   refine jdi (k1 := i) (k2 := i) ⟨a1, a2, a3, a4, a5, a6, a7, a8, a9, fun c hc' => by
     have hb' : c = i1 ∨ c = b := by simpa using hc'
     rcases hb' with q | q
     · rw [q]; exact ⟨a3, Ne.symm a8, a10⟩
     · rw [q]; exact ⟨ne1.1, ne1.2.1, ne1.2.2.2⟩, fun b hb => ?_⟩ D1 D2 hz hTI hTO ⟨h1, p1.isList⟩ ⟨h2, hpl⟩ (by simp; omega) (by simp; omega) fun hA tk u v hu hv heo hto hst1 hst2 ht1 hz1 hk1 => ?_
   · have hb' : b = i2 ∨ b = a := by simpa using hb
     rcases hb' with q | q
     · rw [q]; exact ⟨a4, Ne.symm a9, Ne.symm a10⟩
     · rw [q]; exact ⟨ne.1, ne.2.1, ne.2.2.2⟩
   refine ⟨_, rfl, wpAny_letOwnedTupleGo_zip heo fun hB he2 hs2 => ?_⟩
   have hs2 : Heap.SameBut z hA hB := hs2
   have hel : z < s.heap.objs.size := Heap.lt_size hz
   have hsz : H s.heap.objs.size = none := I.hok.fresh (Nat.le_refl _)
   have hpres : ∀ b o, b ∉ [z, TI, TO, i1, i2] → s.heap.get? b = some o → hB.get? b = some o := fun b o hb q => by
     have hb' : b ≠ z ∧ b ≠ TI ∧ b ≠ TO ∧ b ≠ i1 ∧ b ≠ i2 := by simpa using hb
     exact hs2.extBut b o hb'.1 (hk1 b o hb'.1 hb'.2.2.1 hb'.2.2.2.1 hb'.2.2.2.2 q)
   have I1 : Inv X pins σ H { s with heap := hB, toks := tk } := I.turnedL (t' := tk) hpres hf
   have ht2 : hB.get? s.heap.objs.size = some { cls := .type "tuple", data := .seq #[u, v] } := hs2.extBut _ _ (Nat.ne_of_gt hel) ht1
   have fpt : jge X pins H s.heap.objs.size := I.fpOk (Nat.le_refl _) hsz
   obtain ⟨yv, hyv, ryv⟩ := jdc (i := i) (u := u) rv1 (by simpa using hu)
   obtain ⟨xv, hxv, rxv⟩ := jdc (i := i) (u := v) rv (by simpa using hv)
   have I2 := I1.track (o := .tup [yv, xv]) fpt ⟨by show 2 ≤ sizeLine; decide, [u, v], .cons ryv (.cons rxv .nil), ⟨_, ht2, rfl, 0, rfl⟩⟩
   refine ⟨.ref s.heap.objs.size, _, I2, rfl, ⟨_, yv, xv, rfl, hsz, rfl, fun zs hy => by rw [I.list_inj hy hb1]; exact hyv, fun zs hy => by rw [I.list_inj hy hq]; exact hxv⟩, ⟨he2, hs2.extBut _ _ a1 (hk1 _ _ a1 a5 a6 a7 hTI), ⟨u, v, hs2.extBut _ _ a2 hto⟩, hst1.1.extBut hs2.extBut a3, hst2.1.extBut hs2.extBut a4⟩, fun b hb => ?_⟩
   have hlt : b < s.heap.objs.size := by
     have hb' : b = z ∨ b = TI ∨ b = TO ∨ b = i1 ∨ b = i2 := by simpa using hb
     obtain ⟨o1, e1, _⟩ := h1
     obtain ⟨o2, e2, _⟩ := h2
     rcases hb' with q | q | q | q | q
     · rw [q]; exact hel
     · rw [q]; exact Heap.lt_size hTI
     · rw [q]; exact Heap.lt_size hTO
     · rw [q]; exact Heap.lt_size e1
     · rw [q]; exact Heap.lt_size e2
   rw [jaw (Nat.ne_of_lt hlt)]
   exact (hf b hb).1
 done := by
   intro X hP hw hK hc i pins s σ H E I hf st hg
   subst hP hw hK
   obtain ⟨hz, hTI, ⟨x0, y0, hTO⟩, h1, h2⟩ := st
   obtain ⟨a1, a2, a3, a4, a5, a6, a7, a8, a9, a10⟩ := id ap
   obtain ⟨ys, hb1, hyl⟩ := hg
   obtain ⟨its1, rv1, p1, hzz1⟩ := I.list hb1
   have ne1 := jjD p1 hz hTO h1 (let ⟨o1, e1, c1, _⟩ := h2; ⟨o1, _, e1, c1, by decide⟩)
   have hl1 := rv1.length
   have ei : i = its1.toArray.size := by simp; omega
   have D1 := Draws.list (prog := X.prog) (w := X.w) (A := X.A.in1) (I.ok.hd hc) i1 b ne1.2.2.1 its1.toArray
   refine jdv (fp2 := []) ⟨a1, a2, a3, a4, a5, a6, a7, a8, a9, fun c hc' => by
     have hb' : c = i1 ∨ c = b := by simpa using hc'
     rcases hb' with q | q
     · rw [q]; exact ⟨a3, Ne.symm a8, a10⟩
     · rw [q]; exact ⟨ne1.1, ne1.2.1, ne1.2.2.2⟩, fun b hb => by simp at hb⟩ D1 hz hTI hTO (by rw [← ei]; exact ⟨h1, p1.isList⟩) fun hA eb => ⟨rfl, I.turnedL (t' := s.toks) (fun b o hb q => ?_) hf⟩
   have hb' : b ≠ z ∧ b ≠ TI ∧ b ≠ TO ∧ b ≠ i1 ∧ b ≠ i2 := by simpa using hb
   exact eb b o hb'.1 hb'.2.2.1 hb'.2.2.2.1 hb'.2.2.2.2 q
 self := fun A i s Q E st h => by
   obtain ⟨hz, _⟩ := st
   exact wpAny_pyIter_zip hz h
def jp9 (K : PySem.W.Frag) (ta : TA) : TI := fun σ H R => ta σ H fun vs H1 => ∃ l a xs, vs = [.str (S l), .ref a] ∧ SqL K H1 a xs ∧ xs.length = l.length ∧ l.all (· < 128) = true ∧ R (jqh K l a) H1
theorem jnZ {X : Cx} (K : PySem.W.Frag) {e1 e2 : Expr} {elts : List Expr} {kk : Nat} {tp : Pos} {ta : TA} {p pos : Pos} (hK : X.K = K) (hg : Gl X "zip") (hm : X.mg "zip" = none) (ha : PA X [e1, e2] ta) (hs : starEach [e1, e2] X.env = (false, eval e1 X.env) :: starEach [e2] X.env) (hpl : (backTo pos (starEach [e2] X.env)).any (·.1) = false := by rfl) :
    PI X (.Tuple elts kk tp) (.Call (.Name "zip" p) [e1, e2] [] pos) (jp9 K ta) := by
  subst hK
  intro pins s σ H R I h
  refine Call_ (jdL I hg hm boot_zip (PyProof.Rows.callWith_type1 (thn (ha pos pins s σ H _ I h) fun us s1 ⟨vs, H1, I1, r1, q1⟩ => ?_) hs hpl))
  obtain ⟨l, a, xs, rfl, hq, hlen, ha', q⟩ := q1
  obtain ⟨u1, u2, rfl, r2, r3⟩ := vals2 r1
  obtain ⟨t, rfl⟩ := r2
  cases r3
  obtain ⟨its, rv, pl, hz⟩ := I1.list hq
  have fin : ∀ b ∈ [s1.heap.objs.size + 4, s1.heap.objs.size + 2, s1.heap.objs.size + 3, s1.heap.objs.size, s1.heap.objs.size + 1], jge X pins H1 b := fun b hb => by
    have hb' : b = s1.heap.objs.size + 4 ∨ b = s1.heap.objs.size + 2 ∨ b = s1.heap.objs.size + 3 ∨ b = s1.heap.objs.size ∨ b = s1.heap.objs.size + 1 := by simpa using hb
    have hle : s1.heap.objs.size ≤ b := by rcases hb' with q | q | q | q | q <;> rw [q] <;> first | exact Nat.le_refl _ | exact Nat.le_add_right _ _
    exact I1.fpOk hle (I1.hok.fresh hle)
  have ap : ∀ n : Nat, n + 2 ≠ n + 4 ∧ n + 3 ≠ n + 4 ∧ n ≠ n + 4 ∧ n + 1 ≠ n + 4 ∧ n + 2 ≠ n + 3 ∧ n + 2 ≠ n ∧ n + 2 ≠ n + 1 ∧ n + 3 ≠ n ∧ n + 3 ≠ n + 1 ∧ n ≠ n + 1 := fun n => by omega
  refine jkD (by rw [← ha']; simp) pl.isList fun h' g1 g2 g3 g4 g5 g6 hk => wpAny_pyIter_zip g1 ?_
  have I2 : Inv X pins σ H1 { s1 with heap := h' } := I1.kept (t' := s1.toks) hk
  exact ⟨s1.heap.objs.size + 4, [s1.heap.objs.size + 4, s1.heap.objs.size + 2, s1.heap.objs.size + 3, s1.heap.objs.size, s1.heap.objs.size + 1], _, _, H1, rfl, I2, jkS a _ _ _ _ _ (ap _), ⟨Nat.zero_le _, g1, g2, ⟨_, _, g3⟩, g4, g5⟩, fin, q⟩
def jpC (K : PySem.W.Frag) (ta : TA) : TI := fun σ H R => ta σ H fun vs H1 => ∃ b a ys xs, vs = [.ref b, .ref a] ∧ SqL K H1 b ys ∧ SqL K H1 a xs ∧ xs.length = ys.length ∧ R (jqj K b a) H1
theorem jox {X : Cx} (K : PySem.W.Frag) {e1 e2 : Expr} {elts : List Expr} {kk : Nat} {tp : Pos} {ta : TA} {p pos : Pos} (hK : X.K = K) (hg : Gl X "zip") (hm : X.mg "zip" = none) (ha : PA X [e1, e2] ta) (hs : starEach [e1, e2] X.env = (false, eval e1 X.env) :: starEach [e2] X.env) (hpl : (backTo pos (starEach [e2] X.env)).any (·.1) = false := by rfl) :
    PI X (.Tuple elts kk tp) (.Call (.Name "zip" p) [e1, e2] [] pos) (jpC K ta) := by
  subst hK
  intro pins s σ H R I h
  refine Call_ (jdL I hg hm boot_zip (PyProof.Rows.callWith_type1 (thn (ha pos pins s σ H _ I h) fun us s1 ⟨vs, H1, I1, r1, q1⟩ => ?_) hs hpl))
  obtain ⟨b, a, ys, xs, rfl, hb1, hq, hlen, q⟩ := q1
  obtain ⟨u1, u2, rfl, r2, r3⟩ := vals2 r1
  cases r2
  cases r3
  obtain ⟨its1, rv1, pl1, hz1⟩ := I1.list hb1
  obtain ⟨its, rv, pl, hz⟩ := I1.list hq
  have fin : ∀ b ∈ [s1.heap.objs.size + 4, s1.heap.objs.size + 2, s1.heap.objs.size + 3, s1.heap.objs.size, s1.heap.objs.size + 1], jge X pins H1 b := fun b hb => by
    have hb' : b = s1.heap.objs.size + 4 ∨ b = s1.heap.objs.size + 2 ∨ b = s1.heap.objs.size + 3 ∨ b = s1.heap.objs.size ∨ b = s1.heap.objs.size + 1 := by simpa using hb
    have hle : s1.heap.objs.size ≤ b := by rcases hb' with q | q | q | q | q <;> rw [q] <;> first | exact Nat.le_refl _ | exact Nat.le_add_right _ _
    exact I1.fpOk hle (I1.hok.fresh hle)
  have ap : ∀ n : Nat, n + 2 ≠ n + 4 ∧ n + 3 ≠ n + 4 ∧ n ≠ n + 4 ∧ n + 1 ≠ n + 4 ∧ n + 2 ≠ n + 3 ∧ n + 2 ≠ n ∧ n + 2 ≠ n + 1 ∧ n + 3 ≠ n ∧ n + 3 ≠ n + 1 ∧ n ≠ n + 1 := fun n => by omega
  refine call_zip_2 pl1.isList pl.isList fun h' g1 g2 g3 g4 g5 g6 hk => wpAny_pyIter_zip g1 ?_
  have I2 : Inv X pins σ H1 { s1 with heap := h' } := I1.kept (t' := s1.toks) hk
  exact ⟨s1.heap.objs.size + 4, [s1.heap.objs.size + 4, s1.heap.objs.size + 2, s1.heap.objs.size + 3, s1.heap.objs.size, s1.heap.objs.size + 1], _, _, H1, rfl, I2, jl6 b a _ _ _ _ _ (ap _), ⟨g1, g2, ⟨_, _, g3⟩, g4, g5⟩, fin, q⟩
end L2
namespace L2
open PySem PySem.Spec PyProof.Rows
theorem jrw {K : PySem.W.Frag} {l : List Nat} {a : Addr} {xs : List V} {g : TG} {tb : TS} {D : Ends} {σ : St} {H : Hp} (hlen : xs.length = l.length) (Pv : Nat → St → Hp → Prop) (h0 : Pv 0 σ H) (hl : ∀ i σ H, i ≤ l.length → Pv i σ H → SqL K H a xs)
   (hs : ∀ i c x σ H, l[i]? = some c → xs[i]? = some x → Pv i σ H → ∀ t, H t = none → g (.ref t) σ (upd H t (.tup [.str (S [c]), x])) fun σ2 H2 => tb { D with nx := Pv (i + 1), ct := Pv (i + 1), bk := D.nx } σ2 H2) (hd : ∀ σ H, Pv l.length σ H → D.nx σ H) :
   joQ (jqh K l a) g tb D σ H := by
 refine ⟨fun i m σ H => m = l.length - i ∧ i ≤ l.length ∧ Pv i σ H, ⟨l.length, by simp, Nat.zero_le _, h0⟩, ?_⟩
 rintro i m σ H ⟨rfl, hi, p⟩
 have q := hl i σ H hi p
 by_cases hlt : i < l.length
 · refine .inr ⟨⟨hlt, xs, q, hlen⟩, Pv (i + 1), fun σ' H' p' => ⟨l.length - (i + 1), by omega, rfl, hlt, p'⟩, fun v H' y => ?_⟩
   obtain ⟨t, c, x, rfl, hn, rfl, hc, y⟩ := y
   exact hs i c x σ _ hc (y xs q) p t hn
 · have e : i = l.length := by omega
   subst e
   exact .inl ⟨Nat.le_refl _, hd σ H p⟩
theorem jlw {K : PySem.W.Frag} {b a : Addr} {ys xs : List V} {H1 : Hp} (hb : SqL K H1 b ys) (ha : SqL K H1 a xs) (hlen : xs.length = ys.length) : jm7 (jqj K b a) H1 (ys.zip xs) := by
 have hz : (ys.zip xs).length = ys.length := by rw [List.length_zip, hlen, Nat.min_self]
 refine ⟨fun i H' e hi => ⟨ys, xs, e.seq hb, e.seq ha, hlen, by omega⟩, fun i H' x H'' e hi y => ?_, fun H' e => ⟨ys, e.seq hb, hz.symm⟩⟩
 obtain ⟨t, y1, x1, rfl, hn, rfl, h1, h2⟩ := y
 have e1 := h1 ys (e.seq hb)
 have e2 := h2 xs (e.seq ha)
 exact ⟨t, (y1, x1), rfl, hn, rfl, by rw [List.getElem?_zip_eq_some]; exact ⟨e1, e2⟩⟩
section
variable {K : PySem.W.Frag} {ta : TA} {σ : St} {H : Hp} {R : It → Hp → Prop}
theorem jlH (h : ta σ H fun vs H1 => ∃ l a xs, vs = [.str (S l), .ref a] ∧ SqL K H1 a xs ∧ xs.length = l.length ∧ l.all (· < 128) = true ∧ R (jqh K l a) H1) : jp9 K ta σ H R := h
theorem jlE (h : ta σ H fun vs H1 => ∃ b a ys xs, vs = [.ref b, .ref a] ∧ SqL K H1 b ys ∧ SqL K H1 a xs ∧ xs.length = ys.length ∧ R (jqj K b a) H1) : jpC K ta σ H R := h
end
end L2
namespace Stb
open PySem PyProof.Rows
variable (r : Keyed → Int)
def R (xs : Array Keyed) (i : Nat) : Int := match xs[i]? with | some p => r p | none => 0
theorem jfD {xs ys : Array Keyed} {i j : Nat} (h : xs[i]? = ys[j]?) : R r xs i = R r ys j := by unfold R; rw [h]
def Lx (xs : Array Keyed) (i j : Nat) : Prop := K xs i < K xs j ∨ (K xs i = K xs j ∧ R r xs i < R r xs j)
def Up (xs : Array Keyed) (n : Nat) : Prop := ∀ i j, i < j → j < n → Lx r xs i j
def Dn (xs : Array Keyed) (n : Nat) : Prop := ∀ i j, i < j → j < n → Lx r xs j i
def Un (xs : Array Keyed) (n m : Nat) : Prop := ∀ i j, i < j → n ≤ j → j < m → R r xs i < R r xs j
variable {r}
theorem Lx.trans {xs : Array Keyed} {i j k : Nat} (a : Lx r xs i j) (b : Lx r xs j k) : Lx r xs i k := by
 rcases a with a | ⟨a1, a2⟩ <;> rcases b with b | ⟨b1, b2⟩
 · exact .inl (by omega)
 · exact .inl (by omega)
 · exact .inl (by omega)
 · exact .inr ⟨by omega, by omega⟩
theorem Lx.congr {xs ys : Array Keyed} {i j i' j' : Nat} (a : Lx r xs i j) (h1 : ys[i']? = xs[i]?) (h2 : ys[j']? = xs[j]?) : Lx r ys i' j' := by
 unfold Lx
 rw [K_congr h1, K_congr h2, jfD r h1, jfD r h2]
 exact a
theorem Un.mono {xs : Array Keyed} {n n' m : Nat} (h : Un r xs n m) (hn : n ≤ n') : Un r xs n' m := fun i j hij hj hm => h i j hij (by omega) hm
theorem Un.shuffle {xs ys : Array Keyed} {n m : Nat} (h : Un r xs n m) (hn : ∀ k, n ≤ k → ys[k]? = xs[k]?) (hl : ∀ k, k < n → ∃ k', k' < n ∧ ys[k]? = xs[k']?) : Un r ys n m := fun i j hij hj hm => by
 rw [jfD r (hn j hj)]
 by_cases hi : i < n
 · obtain ⟨i', hi', e⟩ := hl i hi
   rw [jfD r e]
   exact h i' j (by omega) hj hm
 · rw [jfD r (hn i (by omega))]
   exact h i j hij hj hm
theorem jil {xs : Array Keyed} {i j n : Nat} (hj : j ≤ xs.size) (hn : j ≤ n) (k : Nat) (hk : n ≤ k) : (mirror xs i j ((j - i) / 2))[k]? = xs[k]? := by
 rw [getElem?_mirror_all hj, if_neg (by omega)]
theorem jfz {xs : Array Keyed} {i j n : Nat} (hj : j ≤ xs.size) (hn : j ≤ n) (k : Nat) (hk : k < n) : ∃ k', k' < n ∧ (mirror xs i j ((j - i) / 2))[k]? = xs[k']? := by
 rw [getElem?_mirror_all hj]
 by_cases h : i ≤ k ∧ k < j
 · rw [if_pos h]; exact ⟨_, by omega, rfl⟩
 · rw [if_neg h]; exact ⟨k, hk, rfl⟩
theorem Un.mirror {xs : Array Keyed} {i j n m : Nat} (h : Un r xs n m) (hj : j ≤ xs.size) (hn : j ≤ n) : Un r (mirror xs i j ((j - i) / 2)) n m :=
 h.shuffle (fun k hk => jil hj hn k hk) fun k hk => jfz hj hn k hk
theorem Dn.turn {xs : Array Keyed} {n : Nat} (h : Dn r xs n) (hn : n ≤ xs.size) : Up r (mirror xs 0 n ((n - 0) / 2)) n := fun i j hij hj => by
 have e1 := getElem?_mirror_all (i := 0) hn i
 have e2 := getElem?_mirror_all (i := 0) hn j
 rw [if_pos (by omega)] at e1 e2
 exact (h _ _ (show 0 + n - 1 - j < 0 + n - 1 - i by omega) (by omega)).congr e1 e2
theorem Up.turn {xs : Array Keyed} {n : Nat} (h : Up r xs n) (hn : n ≤ xs.size) : Dn r (mirror xs 0 n ((n - 0) / 2)) n := fun i j hij hj => by
 have e1 := getElem?_mirror_all (i := 0) hn i
 have e2 := getElem?_mirror_all (i := 0) hn j
 rw [if_pos (by omega)] at e1 e2
 exact (h _ _ (show 0 + n - 1 - j < 0 + n - 1 - i by omega) (by omega)).congr e2 e1
theorem Up.more {xs : Array Keyed} {n m : Nat} (h : Up r xs n) (hu : Un r xs n m) (hn : n < m) (h1 : 1 ≤ n) (hk : ¬ K xs n < K xs (n - 1)) : Up r xs (n + 1) := fun i j hij hj => by
 by_cases hjn : j < n
 · exact h i j hij hjn
 · have e : j = n := by omega
   subst e
   have last : Lx r xs (j - 1) j := by
     by_cases q : K xs (j - 1) < K xs j
     · exact .inl q
     · exact .inr ⟨by omega, hu _ _ (by omega) (Nat.le_refl _) hn⟩
   by_cases hi : i = j - 1
   · subst hi; exact last
   · exact (h i (j - 1) (by omega) (by omega)).trans last
structure Dq (r : Keyed → Int) (xs : Array Keyed) (n q : Nat) : Prop where
 le : q + 1 ≤ n
 dn : Dn r xs (n - (q + 1))
 cross : ∀ i j, i < n - (q + 1) → n - (q + 1) ≤ j → j < n → K xs j < K xs i
 eq : ∀ i, n - (q + 1) ≤ i → i < n → K xs i = K xs (n - 1)
 up : ∀ i j, n - (q + 1) ≤ i → i < j → j < n → R r xs i < R r xs j
theorem Dq.turn {xs : Array Keyed} {n q : Nat} (h : Dq r xs n q) (hn : n ≤ xs.size) : Dn r (mirror xs (n - (q + 1)) n ((n - (n - (q + 1))) / 2)) n := fun i j hij hj => by
 have e1 := getElem?_mirror_all (i := n - (q + 1)) hn i
 have e2 := getElem?_mirror_all (i := n - (q + 1)) hn j
 have hl := h.le
 by_cases hi : n - (q + 1) ≤ i
 · rw [if_pos (by omega)] at e1 e2
   refine Lx.congr (xs := xs) (i := n - (q + 1) + n - 1 - j) (j := n - (q + 1) + n - 1 - i) ?_ e2 e1
   refine .inr ⟨?_, h.up _ _ (by omega) (by omega) (by omega)⟩
   rw [h.eq _ (by omega) (by omega), h.eq (n - (q + 1) + n - 1 - i) (by omega) (by omega)]
 · rw [if_neg (by omega)] at e1
   by_cases hjq : n - (q + 1) ≤ j
   · rw [if_pos (by omega)] at e2
     exact Lx.congr (xs := xs) (.inl (h.cross i _ (by omega) (by omega) (by omega))) e2 e1
   · rw [if_neg (by omega)] at e2
     exact (h.dn i j hij (by omega)).congr e2 e1
theorem Dq.one {xs : Array Keyed} {n : Nat} (h : Dn r xs n) (hs : ∀ i, i < n → K xs n < K xs i) : Dq r xs (n + 1) 0 where
 le := by omega
 dn := fun i j hij hj => h i j hij (by omega)
 cross := fun i j hi hj hn => by
   have : j = n := by omega
   subst this; exact hs i (by omega)
 eq := fun i h1 h2 => by congr 1; omega
 up := fun i j h1 h2 h3 => by omega
theorem Dq.zero {xs : Array Keyed} {n : Nat} (h : Dq r xs n 0) : Dn r xs n := fun i j hij hj => by
 by_cases hjn : j < n - 1
 · exact h.dn i j hij (by omega)
 · exact .inl (h.cross i j (by omega) (by omega) hj)
theorem Dq.all_less {xs : Array Keyed} {n q : Nat} (h : Dq r xs n q) {v : Int} (hv : v < K xs (n - 1)) (i : Nat) (hi : i < n) : v < K xs i := by
 by_cases hq : n - (q + 1) ≤ i
 · rw [h.eq i hq hi]; exact hv
 · have := h.cross i (n - 1) (by omega) (by have := h.le; omega) (by omega)
   omega
theorem Dq.more {xs : Array Keyed} {n q m : Nat} (h : Dq r xs n q) (hu : Un r xs n m) (hn : n < m) (he : K xs n = K xs (n - 1)) : Dq r xs (n + 1) (q + 1) := by
 have hl := h.le
 have e0 : n + 1 - (q + 1 + 1) = n - (q + 1) := by omega
 refine ⟨by omega, by rw [e0]; exact h.dn, fun i j hi hj hn' => ?_, fun i h1 h2 => ?_, fun i j h1 h2 h3 => ?_⟩
 · rw [e0] at hi hj
   by_cases hjn : j < n
   · exact h.cross i j hi hj hjn
   · have : j = n := by omega
     subst this
     rw [he]
     exact h.cross i (j - 1) hi (by omega) (by omega)
 · rw [e0] at h1
   rw [show n + 1 - 1 = n by omega]
   by_cases hin : i < n
   · rw [he]; exact h.eq i h1 hin
   · have : i = n := by omega
     rw [this]
 · rw [e0] at h1
   by_cases hjn : j < n
   · exact h.up i j h1 h2 hjn
   · exact hu i j h2 (by omega) (by omega)
theorem jfn {xs : Array Keyed} {i j n : Nat} (hj : j ≤ xs.size) (hn : j ≤ n) (k : Nat) (hk : n ≤ k) : K (mirror xs i j ((j - i) / 2)) k = K xs k := K_congr (jil hj hn k hk)
end Stb
namespace Stb
open PySem PyProof.Rows
variable {prog : Program} {w : World} {A : Around} {E : Value → Shared → Prop} {s : Shared} {a₀ : Array Keyed} {r : Keyed → Int}
abbrev Wp (prog : Program) (w : World) (A : Around) (E : Value → Shared → Prop) (s : Shared) {α : Type} (m : StateT SortSt Sem α) (Q : α → SortSt → Prop) (st : SortSt) : Prop := wpS (model prog w) A E s m Q st
abbrev Told (a₀ : Array Keyed) (r : Keyed → Int) (Q : Option Nat → SortSt → Prop) : Prop :=
 ∀ m st', SBase a₀ st' → 1 ≤ m → m ≤ a₀.size → Up r (arrOf st') m → Un r (arrOf st') m a₀.size → Q (some m) st'
theorem asc {st : SortSt} {a : Nat} {Q : AscSt → SortSt → Prop} (kk : IntKeys a₀) (a1 : 1 ≤ a) (an : a ≤ a₀.size) (b : SBase a₀ st) (up : Up r (arrOf st) a) (un : Un r (arrOf st) a a₀.size)
   (go : ∀ n, a ≤ n → n ≤ a₀.size → Up r (arrOf st) n → (n = a₀.size ∨ K (arrOf st) n < K (arrOf st) (n - 1)) → Q (none, n) st) : Wp prog w A E s (ascLoop a a₀.size) Q st := by
 unfold ascLoop
 refine wpS_forRange (I := fun x c st' => st' = st ∧ c = (none, x) ∧ Up r (arrOf st) x) ?turn ?over ⟨rfl, rfl, up⟩
 case over =>
   rintro c st' ⟨rfl, rfl, u⟩
   have e : max a a₀.size = a₀.size := by omega
   rw [e] at u ⊢
   exact go _ an (Nat.le_refl _) u (.inl rfl)
 case turn =>
   rintro x c st' ax xn ⟨rfl, rfl, u⟩
   dsimp only
   refine wpS_bind (wpS_ltK b kk (by omega) (by omega) ?_)
   by_cases less : K (arrOf st') x < K (arrOf st') (x - 1)
   · simp only [less, decide_true, if_true]
     exact wpS_pure (go x ax (by omega) u (.inr less))
   · simp only [less, decide_false, Bool.false_eq_true, if_false]
     exact wpS_pure ⟨rfl, rfl, u.more (un.mono ax) xn (by omega) less⟩
theorem jny {st : SortSt} {n : Nat} {Q : Option Nat → SortSt → Prop} (kk : IntKeys a₀) (n1 : 1 ≤ n) (nn : n ≤ a₀.size) (b : SBase a₀ st) (dn : Dn r (arrOf st) n) (un : Un r (arrOf st) n a₀.size) (go : Told a₀ r Q) :
   Wp prog w A E s (tail3 n a₀.size) Q st := by
 unfold tail3
 have sz : n ≤ (arrOf st).size := by rw [b.size]; exact nn
 refine wpS_bind (wpS_reverse ?_)
 have b' := b.setArr (mirror_perm (arrOf st) 0 n ((n - 0) / 2))
 have un' : Un r (mirror (arrOf st) 0 n ((n - 0) / 2)) n a₀.size := un.mirror sz (Nat.le_refl _)
 exact wpS_bind (asc kk n1 nn b' (dn.turn sz) un' fun m m1 m2 u _ => wpS_pure (go m _ b' (by omega) m2 u (un'.mono m1)))
theorem desc {st : SortSt} {n : Nat} {Q : DescSt → SortSt → Prop} (kk : IntKeys a₀) (n1 : 1 ≤ n) (nn : n ≤ a₀.size) (b : SBase a₀ st) (dq : Dq r (arrOf st) n 0) (un : Un r (arrOf st) n a₀.size)
   (go : ∀ m q st', SBase a₀ st' → n ≤ m → m ≤ a₀.size → Dq r (arrOf st') m q → Un r (arrOf st') m a₀.size → Q (none, m, q) st') : Wp prog w A E s (descLoop n a₀.size) Q st := by
 unfold descLoop
 refine wpS_forRange (I := fun x c st' => ∃ q, c = (none, x, q) ∧ SBase a₀ st' ∧ Dq r (arrOf st') x q ∧ Un r (arrOf st') x a₀.size) ?turn ?over ⟨0, rfl, b, dq, un⟩
 case over =>
   rintro c st' ⟨q, rfl, b', d', u'⟩
   have e : max n a₀.size = a₀.size := by omega
   rw [e] at d' u' ⊢
   exact go _ q st' b' nn (Nat.le_refl _) d' u'
 case turn =>
   rintro x c st' ax xn ⟨q, rfl, b', d', u'⟩
   dsimp only
   have sz : x ≤ (arrOf st').size := by rw [b'.size]; omega
   refine wpS_bind (wpS_ltK b' kk (by omega) (by omega) ?_)
   by_cases less : K (arrOf st') x < K (arrOf st') (x - 1)
   · simp only [less, decide_true, if_true]
     by_cases q0 : q > 0
     · rw [if_pos q0]
       refine wpS_bind (wpS_reverse (wpS_pure ⟨0, rfl, b'.setArr (mirror_perm _ _ _ _), ?_, ?_⟩))
       · refine Dq.one (d'.turn sz) fun i hi => ?_
         obtain ⟨i', hi', e⟩ := jfz (i := x - (q + 1)) sz (Nat.le_refl _) i hi
         rw [K_congr e, jfn sz (Nat.le_refl _) x (Nat.le_refl _)]
         exact d'.all_less less i' hi'
       · exact (u'.mirror sz (Nat.le_refl _)).mono (by omega)
     · rw [if_neg q0]
       obtain rfl : q = 0 := by omega
       exact wpS_pure ⟨0, rfl, b', Dq.one d'.zero fun i hi => d'.all_less less i hi, u'.mono (by omega)⟩
   · simp only [less, decide_false, Bool.false_eq_true, if_false]
     refine wpS_bind (wpS_ltK b' kk (by omega) (by omega) ?_)
     by_cases more : K (arrOf st') (x - 1) < K (arrOf st') x
     · simp only [more, decide_true, if_true]
       exact wpS_pure (go x q st' b' ax (by omega) d' u')
     · simp only [more, decide_false, Bool.false_eq_true, if_false]
       exact wpS_pure ⟨q + 1, rfl, b', d'.more u' xn (by omega), u'.mono (by omega)⟩
theorem jnG {st : SortSt} {n : Nat} {Q : Option Nat → SortSt → Prop} (kk : IntKeys a₀) (nn : n + 1 ≤ a₀.size) (b : SBase a₀ st) (dq : Dq r (arrOf st) (n + 1) 0) (un : Un r (arrOf st) (n + 1) a₀.size) (go : Told a₀ r Q) :
   Wp prog w A E s (descPart n a₀.size) Q st := by
 unfold descPart
 refine wpS_bind (wpS_lift (wpAny_rule ⟨rfl, ?_⟩))
 refine wpS_bind (desc kk (by omega) nn b dq un fun m q st' b' m1 m2 d' u' => ?_)
 dsimp only
 have sz : m ≤ (arrOf st').size := by rw [b'.size]; omega
 by_cases q0 : q > 0
 · rw [if_pos q0]
   exact wpS_bind (wpS_reverse (jny kk (by omega) m2 (b'.setArr (mirror_perm _ _ _ _)) (d'.turn sz) (u'.mirror sz (Nat.le_refl _)) go))
 · rw [if_neg q0]
   obtain rfl : q = 0 := by omega
   exact jny kk (by omega) m2 b' d'.zero u' go
theorem run {st : SortSt} {Q : Option Nat → SortSt → Prop} (kk : IntKeys a₀) (s1 : 1 ≤ a₀.size) (b : SBase a₀ st) (un : Un r (arrOf st) 0 a₀.size) (go : Told a₀ r Q) : Wp prog w A E s (countRun' 0 a₀.size) Q st := by
 rw [countRun0_eq]
 refine wpS_bind (asc kk (Nat.le_refl 1) s1 b (fun i j ij j1 => by omega) (un.mono (by omega)) fun n n1 n2 u out => ?_)
 dsimp only
 by_cases nn : n = a₀.size
 · rw [if_pos (by simpa using nn)]
   exact wpS_pure (go n st b n1 n2 u (un.mono (by omega)))
 · rw [if_neg (by simpa using nn)]
   have less := out.resolve_left nn
   have sz : n ≤ (arrOf st).size := by rw [b.size]; omega
   by_cases g1 : n > 1
   · rw [if_pos g1]
     refine wpS_bind (wpS_ltK b kk (by omega) (by omega) ?_)
     by_cases rose : K (arrOf st) 0 < K (arrOf st) (n - 1)
     · simp only [rose, decide_true, if_true]
       exact wpS_pure (go n st b n1 n2 u (un.mono (by omega)))
     · simp only [rose, decide_false, Bool.false_eq_true, if_false]
       refine wpS_bind (wpS_reverse (jnG kk (by omega) (b.setArr (mirror_perm _ _ _ _)) ?_ ?_ go))
       · refine Dq.one (u.turn sz) fun i hi => ?_
         obtain ⟨i', hi', e⟩ := jfz (i := 0) sz (Nat.le_refl _) i hi
         rw [K_congr e, jfn sz (Nat.le_refl _) n (Nat.le_refl _)]
         have h0 : K (arrOf st) 0 ≤ K (arrOf st) i' := by
           by_cases z : i' = 0
           · rw [z]; exact Int.le_refl _
           · rcases u 0 i' (by omega) hi' with q | ⟨q, _⟩ <;> omega
         have hn : K (arrOf st) (n - 1) ≤ K (arrOf st) 0 := Int.not_lt.mp rose
         omega
       · exact (un.mono (Nat.zero_le n)).mirror sz (Nat.le_refl _) |>.mono (by omega)
   · rw [if_neg g1]
     obtain rfl : n = 1 := by omega
     exact jnG kk (by omega) b (Dq.one (fun i j ij j1 => by omega) fun i hi => by
       obtain rfl : i = 0 := by omega
       exact less) (un.mono (by omega)) go
theorem insert {st : SortSt} {ok : Nat} {Q : Bool → SortSt → Prop} (kk : IntKeys a₀) (hok : ok ≤ a₀.size) (b : SBase a₀ st) (up : Up r (arrOf st) ok) (un : Un r (arrOf st) ok a₀.size)
   (go : ∀ st', SBase a₀ st' → Up r (arrOf st') a₀.size → Q true st') : Wp prog w A E s (binarySort' 0 a₀.size ok) Q st := by
 rw [binarySort'_eq]
 simp only [Nat.zero_add]
 refine wpS_bind (wpS_mono (wpS_forRange (I := fun k c st' => c = (none, ()) ∧ SBase a₀ st' ∧ Up r (arrOf st') (min k a₀.size) ∧ Un r (arrOf st') k a₀.size)
   (Q := fun c st' => c = (none, ()) ∧ SBase a₀ st' ∧ Up r (arrOf st') a₀.size) ?turn ?over ?first) ?thn)
 case thn =>
   rintro c st' ⟨rfl, b', u'⟩
   exact wpS_pure (go st' b' u')
 case first =>
   refine ⟨rfl, b, fun i j ij j1 => ?_, un.mono (by omega)⟩
   by_cases z : ok = 0
   · omega
   · exact up i j ij (by omega)
 case over =>
   rintro c st' ⟨e, b', u', _⟩
   refine ⟨e, b', ?_⟩
   have z : min (max (max ok 1) a₀.size) a₀.size = a₀.size := by omega
   rw [z] at u'
   exact u'
 case turn =>
   rintro k c st' ak kn ⟨rfl, b', u', n'⟩
   have z : min k a₀.size = k := by omega
   rw [z] at u'
   have mono : ∀ i j, i ≤ j → j < k → K (arrOf st') i ≤ K (arrOf st') j := fun i j ij jk => by
     by_cases e : i = j
     · rw [e]; exact Int.le_refl _
     · rcases u' i j (by omega) jk with q | ⟨q, _⟩ <;> omega
   refine wpS_bind (wpS_mono (wpS_forRange (I := fun x c st2 => st2 = st' ∧ ∃ lo hi, c = (none, lo, hi) ∧ lo ≤ hi ∧ hi ≤ k ∧ hi - lo ≤ k - x ∧
       (∀ i, i < lo → K (arrOf st') i ≤ K (arrOf st') k) ∧ (∀ i, hi ≤ i → i < k → K (arrOf st') k < K (arrOf st') i))
     (Q := fun c st2 => st2 = st' ∧ ∃ lo hi, c = (none, lo, hi) ∧ lo ≤ k ∧
       (∀ i, i < lo → K (arrOf st') i ≤ K (arrOf st') k) ∧ (∀ i, lo ≤ i → i < k → K (arrOf st') k < K (arrOf st') i)) ?look ?found ?start) ?move)
   case start => exact ⟨rfl, 0, k, rfl, Nat.zero_le _, Nat.le_refl _, by omega, fun i h => by omega, fun i h1 h2 => by omega⟩
   case found =>
     rintro c st2 ⟨rfl, lo, hi, rfl, lh, hk, room, low, high⟩
     obtain rfl : lo = hi := by omega
     exact ⟨rfl, lo, lo, rfl, hk, low, high⟩
   case look =>
     rintro x c st2 _ xk ⟨rfl, lo, hi, rfl, lh, hk, room, low, high⟩
     dsimp only
     by_cases met : lo ≥ hi
     · rw [if_pos met]
       obtain rfl : lo = hi := by omega
       exact wpS_pure ⟨rfl, lo, lo, rfl, hk, low, high⟩
     · rw [if_neg met]
       obtain ⟨m, hm⟩ : ∃ m, m = (lo + hi) / 2 := ⟨_, rfl⟩
       have m1 : lo ≤ m := by omega
       have m2 : m < hi := by omega
       rw [← hm]
       clear hm met
       refine wpS_bind (wpS_ltK b' kk kn (by omega) ?_)
       by_cases less : K (arrOf st2) k < K (arrOf st2) m
       · simp only [less, decide_true, if_true]
         refine wpS_pure ⟨rfl, lo, m, rfl, m1, by omega, by omega, low, fun i h1 h2 => ?_⟩
         exact Int.lt_of_lt_of_le less (mono _ _ h1 h2)
       · simp only [less, decide_false, Bool.false_eq_true, if_false]
         refine wpS_pure ⟨rfl, m + 1, hi, rfl, m2, hk, by omega, fun i h1 => ?_, high⟩
         exact Int.le_trans (mono i m (Nat.le_of_lt_succ h1) (Nat.lt_of_lt_of_le m2 hk)) (Int.not_lt.mp less)
   case move =>
     rintro c st2 ⟨rfl, lo, hi, rfl, lk, low, high⟩
     show wpS _ _ _ _ (do moveDown' k lo; pure (ForInStep.yield (none, ()))) _ _
     rw [moveDown'_eq]
     have ks : k < (arrOf st2).size := by rw [b'.size]; exact kn
     have at_ : ∀ i, (bubble (arrOf st2) k (k - lo))[i]? = if i = lo then (arrOf st2)[k]? else if lo < i ∧ i ≤ k then (arrOf st2)[i - 1]? else (arrOf st2)[i]? := fun i => by
       rw [getElem?_bubble ks _ (by omega), show k - (k - lo) = lo by omega]
     refine wpS_bind (wpS_modify (wpS_pure ⟨rfl, b'.setArr (bubble_perm _ _ _), ?_, ?_⟩))
     · rw [show min (k + 1) a₀.size = k + 1 by omega]
       intro i j ij jk
       show Lx r (bubble (arrOf st2) k (k - lo)) i j
       have ei := at_ i
       have ej := at_ j
       have sm : ∀ p : Nat, p < lo → Lx r (arrOf st2) p k := fun p h => by
         have := low p h
         by_cases z : K (arrOf st2) p < K (arrOf st2) k
         · exact .inl z
         · exact .inr ⟨by omega, n' p k (by omega) (Nat.le_refl _) kn⟩
       by_cases i1 : i = lo
       · rw [if_pos i1] at ei
         rw [if_neg (by omega), if_pos (by omega)] at ej
         exact Lx.congr (.inl (high (j - 1) (by omega) (by omega))) ei ej
       · rw [if_neg i1] at ei
         by_cases j1 : j = lo
         · rw [if_pos j1] at ej
           rw [if_neg (by omega)] at ei
           exact (sm i (by omega)).congr ei ej
         · rw [if_neg j1] at ej
           by_cases i2 : lo < i ∧ i ≤ k
           · rw [if_pos i2] at ei
             rw [if_pos (by omega)] at ej
             exact (u' (i - 1) (j - 1) (by omega) (by omega)).congr ei ej
           · rw [if_neg i2] at ei
             by_cases j2 : lo < j ∧ j ≤ k
             · rw [if_pos j2] at ej
               exact (u' i (j - 1) (by omega) (by omega)).congr ei ej
             · rw [if_neg j2] at ej
               exact (u' i j ij (by omega)).congr ei ej
     · refine Un.shuffle (n'.mono (Nat.le_succ k)) (fun i hi => ?_) fun i hi => ?_
       · show (bubble (arrOf st2) k (k - lo))[i]? = _
         rw [at_, if_neg (by omega), if_neg (by omega)]
       · show ∃ k', k' < k + 1 ∧ (bubble (arrOf st2) k (k - lo))[i]? = _
         rw [at_]
         by_cases i1 : i = lo
         · rw [if_pos i1]; exact ⟨k, by omega, rfl⟩
         · rw [if_neg i1]
           by_cases i2 : lo < i ∧ i ≤ k
           · rw [if_pos i2]; exact ⟨i - 1, by omega, rfl⟩
           · rw [if_neg i2]; exact ⟨i, hi, rfl⟩
abbrev Dd (a₀ : Array Keyed) (r : Keyed → Int) (st : SortSt) : Prop := (arrOf st).Perm a₀ ∧ failedOf st = none ∧ pendingOf st = #[(0, a₀.size, 0)] ∧ Up r (arrOf st) a₀.size
theorem dd {st : SortSt} (b : SBase a₀ st) (u : Up r (arrOf st) a₀.size) : Dd a₀ r (setPending st ((pendingOf st).push (0, a₀.size, 0))) :=
 ⟨b.perm, b.failed, (by show (pendingOf st).push _ = _; rw [b.pend]; rfl), u⟩
theorem sorts {st : SortSt} {Q : Unit → SortSt → Prop} (kk : IntKeys a₀) (b : SBase a₀ st) (un : Un r (arrOf st) 0 a₀.size) (s2 : 2 ≤ a₀.size) (s64 : a₀.size < 64)
   (go : ∀ st', (arrOf st').Perm a₀ → failedOf st' = none → Up r (arrOf st') a₀.size → Q () st') : Wp prog w A E s sortRuns' Q st := by
 show wpS _ _ _ _ sortRuns' _ _
 rw [sortRuns'_eq]
 refine wpS_bind (wpS_get ?_)
 dsimp only
 have mr : minRun' a₀.size a₀.size 0 = a₀.size := by
   obtain ⟨f, e⟩ : ∃ f, a₀.size = f + 1 := ⟨a₀.size - 1, by omega⟩
   have z : minRun' (f + 1) a₀.size 0 = a₀.size := by rw [minRun'_succ, if_pos s64]; rfl
   rw [← e] at z; exact z
 simp only [b.size, mr]
 refine wpS_bind (wpS_mono (wpS_forRange
   (I := fun x c st' => (x = 0 ∧ c = (none, 0) ∧ SBase a₀ st' ∧ Un r (arrOf st') 0 a₀.size) ∨ (1 ≤ x ∧ c = (none, a₀.size) ∧ Dd a₀ r st'))
   (Q := fun c st' => c = (none, a₀.size) ∧ Dd a₀ r st') ?turn ?over (.inl ⟨rfl, rfl, b, un⟩)) ?thn)
 case over =>
   rintro c st' (⟨z, _⟩ | ⟨_, e, d⟩)
   · omega
   · exact ⟨e, d⟩
 case turn =>
   rintro x c st' _ xn (⟨rfl, rfl, b', u'⟩ | ⟨x1, rfl, d⟩)
   · dsimp only
     rw [if_neg (by omega)]
     simp only [Nat.sub_zero, Nat.min_self, Nat.zero_add]
     refine wpS_bind (run kk (by omega) b' u' fun m st2 b2 m1 m2 up2 un2 => ?_)
     dsimp only
     by_cases lt : m < a₀.size
     · rw [if_pos lt]
       refine wpS_bind (wpS_lift (wpAny_rule ⟨rfl, ?_⟩))
       refine wpS_bind (insert kk m2 b2 up2 un2 fun st3 b3 u3 => ?_)
       simp only [Bool.not_true, Bool.false_eq_true, if_false]
       refine wpS_bind (wpS_get ?_)
       have bk : (pendingOf st3).back? = none := by rw [b3.pend]; rfl
       rw [bk]
       dsimp only
       exact wpS_bind (wpS_modify (wpS_pure (.inr ⟨by omega, rfl, dd b3 u3⟩)))
     · rw [if_neg lt]
       obtain rfl : m = a₀.size := by omega
       refine wpS_bind (wpS_get ?_)
       have bk : (pendingOf st2).back? = none := by rw [b2.pend]; rfl
       rw [bk]
       dsimp only
       exact wpS_bind (wpS_modify (wpS_pure (.inr ⟨by omega, rfl, dd b2 up2⟩)))
   · dsimp only
     rw [if_pos (Nat.le_refl _)]
     exact wpS_pure ⟨rfl, d⟩
 case thn =>
   rintro c st' ⟨rfl, d⟩
   dsimp only
   refine wpS_bind (wpS_mono (wpS_forRange (I := fun _ c st2 => st2 = st' ∧ c = (none, ())) (Q := fun c st2 => st2 = st' ∧ c = (none, ())) ?_ (fun _ _ hh => hh) ⟨rfl, rfl⟩) ?_)
   · rintro x c st2 _ _ ⟨rfl, rfl⟩
     refine wpS_bind (wpS_get ?_)
     rw [if_pos (by rw [d.2.2.1]; exact Nat.le_refl 1)]
     exact wpS_pure ⟨rfl, rfl⟩
   · rintro c st2 ⟨rfl, rfl⟩
     exact wpS_pure (go _ d.1 d.2.1 d.2.2.2)
end Stb
namespace Stb
open PySem PyProof.Rows
def Out (rk : Value → Int) (kz : List Int) (vs out : List Value) : Prop :=
 ∃ ps : List (Int × Value), ps.Perm (kz.zip vs) ∧ out = ps.map Prod.snd ∧ ps.Pairwise fun p q => p.1 < q.1 ∨ (p.1 = q.1 ∧ rk p.2 < rk q.2)
def Rising (rk : Value → Int) (vs : List Value) : Prop := ∀ (i j : Nat) (u v : Value), i < j → vs[i]? = some u → vs[j]? = some v → rk u < rk v
variable {prog : Program} {w : World} {A : Around} {E : Value → Shared → Prop} {s : Shared} {h₀ : Heap} {L : Addr} {m : Str → Option Value} {news : List (Addr × Obj)} {a kS : Addr} {vs : List Value} {kz : List Int} {keys : Array Value} {e e1 : Nat} {P : PySem.Fin → Shared → Prop} {rk : Value → Int}
theorem jpA (ks : IntsAre keys.toList kz) {xs : Array Keyed} (pm : xs.Perm (keys.zip vs.toArray)) (up : Up (fun p => rk p.2) xs xs.size) : Out rk kz vs (xs.map (·.2)).toList := by
 have pl : xs.toList.Perm (keys.toList.zip vs) := by rw [← ksk_zip]; exact Array.perm_iff_toList_perm.mp pm
 have ez : (keys.toList.zip vs).map (fun p : Keyed => (numOf p.1, p.2)) = kz.zip vs := by
   rw [← ks.nums, List.zip_map_left]
   exact List.map_congr_left fun ⟨_, _⟩ _ => rfl
 refine ⟨xs.toList.map fun p : Keyed => (numOf p.1, p.2), by rw [← ez]; exact pl.map _, by rw [Array.toList_map, List.map_map]; rfl, ?_⟩
 rw [List.pairwise_iff_getElem]
 intro i j li lj ij
 have i' : i < xs.size := by simpa using li
 have j' : j < xs.size := by simpa using lj
 have z := up i j ij j'
 unfold Lx R at z
 rw [K_eq i', K_eq j', getElem?_pos xs i i', getElem?_pos xs j j'] at z
 simpa using z
theorem jm3 (ks : IntsAre keys.toList kz) (len : kz.length = vs.length) (rise : Rising rk vs) : Un (fun p => rk p.2) (keys.zip vs.toArray) 0 (keys.zip vs.toArray).size := by
 intro i j ij _ js
 have at_ : ∀ k, k < (keys.zip vs.toArray).size → ∃ v, vs[k]? = some v ∧ R (fun p => rk p.2) (keys.zip vs.toArray) k = rk v := fun k hk => by
   have hk2 : k < vs.length := by
     have e6 : vs.toArray.size = vs.length := List.size_toArray ..
     rw [Array.size_zip, e6] at hk
     omega
   refine ⟨vs[k], List.getElem?_eq_getElem hk2, ?_⟩
   unfold R
   rw [getElem?_pos _ k hk]
   simp
 obtain ⟨u, eu, ru⟩ := at_ i (by omega)
 obtain ⟨v, ev, rv⟩ := at_ j js
 rw [ru, rv]
 exact rise i j u v ij eu ev
theorem jqJ {st : SortSt} (F : Fr h₀ L s.heap m) (N : News h₀ L s.heap (news ++ [(kS, seqObj "list" keys e), (a, seqObj "list" #[] e1)])) (ap : kS ≠ a) (nk : ∀ p ∈ news, p.1 ≠ kS) (na : ∀ p ∈ news, p.1 ≠ a)
   (ks : IntsAre keys.toList kz) (len : kz.length = vs.length) (few : vs.length < 64) (pm : (arrOf st).Perm (keys.zip vs.toArray)) (up : Up (fun p => rk p.2) (arrOf st) (arrOf st).size) (nofail : failedOf st = none)
   (go : ∀ g tk out c, Fr h₀ L g m → News h₀ L g ((a, seqObj "list" out c) :: news) → Out rk kz vs out.toList → P (.done (.ret .none)) { s with heap := g, toks := tk }) :
   wpAny (model prog w) A (ksk_tail a false e1 (.ref kS) st) P E s := by
 have Nk := N (kS, seqObj "list" keys e) (List.mem_append_right _ (.head _))
 have Na := N (a, seqObj "list" #[] e1) (List.mem_append_right _ (.tail _ (.head _)))
 have kl : keys.size = vs.length := by have := ks.length; rw [Array.length_toList] at this; omega
 have al : ((arrOf st).map (·.2)).size = vs.length := by rw [Array.size_map, pm.size_eq, Array.size_zip, kl, List.size_toArray, Nat.min_self]
 have b1 := Heap.SameBut.update s.heap kS (Obj.mapSeq fun _ => (#[] : Array Value))
 have Na1 := (b1.2 a ap.symm).trans Na.1
 have b2 := Heap.SameBut.update (s.heap.update kS (Obj.mapSeq fun _ => (#[] : Array Value))) a (Obj.mapSeq fun _ => (arrOf st).map (·.2))
 obtain ⟨c2, g2⟩ : ∃ c2, ((s.heap.update kS (Obj.mapSeq fun _ => (#[] : Array Value))).update a (Obj.mapSeq fun _ => (arrOf st).map (·.2))).get? a = some (seqObj "list" ((arrOf st).map (·.2)) c2) :=
   ⟨_, get?_update_seq Na1 fun _ => (arrOf st).map (·.2)⟩
 have N2 := ksk_news (ksk_news (fun p hp => N p (List.mem_append_left _ hp) : News h₀ L s.heap news) b1 nk) b2 na
 unfold ksk_tail
 try dsimp only
 refine wpAny_bind (listUpdate_at Nk.1 rfl ?_ (by rw [kl, sizeLine_eq]; omega) (Nat.zero_le _))
 refine wpAny_bind (wpAny_letGo (wpAny_bind (seqEpoch_at Na1 rfl ?_)))
 refine wpAny_bind (listUpdate_at Na1 rfl ?_ (Nat.zero_le _) (Nat.le_trans (Nat.le_of_eq al) (by rw [sizeLine_eq]; omega)))
 rw [nofail]
 simp only [bne_self_eq_false, Bool.false_eq_true, if_false]
 refine wpAny_pure (go _ _ _ c2 (ksk_fr (ksk_fr F b1 Nk.2.1 Nk.2.2) b2 Na.2.1 Na.2.2) (fun p hp => ?_) (jpA ks pm up))
 rcases List.mem_cons.mp hp with rfl | q
 · exact ⟨g2, Na.2⟩
 · exact N2 p q
theorem end_ (F : Fr h₀ L s.heap m) (N : News h₀ L s.heap (news ++ [(kS, seqObj "list" keys e), (a, seqObj "list" #[] e1)])) (ap : kS ≠ a) (nk : ∀ p ∈ news, p.1 ≠ kS) (na : ∀ p ∈ news, p.1 ≠ a)
   (ks : IntsAre keys.toList kz) (len : kz.length = vs.length) (few : vs.length < 64) (two : 2 ≤ vs.length) (rise : Rising rk vs)
   (go : ∀ g tk out c, Fr h₀ L g m → News h₀ L g ((a, seqObj "list" out c) :: news) → Out rk kz vs out.toList → P (.done (.ret .none)) { s with heap := g, toks := tk }) :
   wpAny (model prog w) A (ksk_end a false vs.toArray e1 (.ref kS) keys) P E s := by
 have kl : keys.size = vs.length := by have := ks.length; rw [Array.length_toList] at this; omega
 have zl : (keys.zip vs.toArray).size = vs.length := by rw [Array.size_zip, kl, List.size_toArray, Nat.min_self]
 have no2 : ¬ vs.toArray.size < 2 := by rw [List.size_toArray]; omega
 unfold ksk_end
 try dsimp only
 rw [if_neg no2, if_neg no2, ksk_kind ks (by omega)]
 simp only [Bool.false_eq_true, if_false]
 refine wpAny_bind (wpAny_pure ?_)
 refine wpAny_bind (wpAny_mono (sorts (r := fun p => rk p.2) (a₀ := keys.zip vs.toArray) (st := SortSt.mk' oneType' (keys.zip vs.toArray) #[] 7 none)
   (Q := fun _ st' => (arrOf st').Perm (keys.zip vs.toArray) ∧ failedOf st' = none ∧ Up (fun p => rk p.2) (arrOf st') (keys.zip vs.toArray).size)
   (ksk_intKeys ks) ⟨Array.Perm.refl _, rfl, rfl, rfl⟩ (jm3 ks len rise) (by omega) (by omega) fun st' q1 q2 q3 => ⟨q1, q2, q3⟩) ?_ fun _ _ z => z)
 rintro ⟨⟨⟩, st'⟩ s' ⟨rfl, pm, nf, up⟩
 try dsimp only
 have hz : (arrOf st').size = (keys.zip vs.toArray).size := pm.size_eq
 exact jqJ F N ap nk na ks len few pm (by rw [hz]; exact up) nf go
theorem jqq {f : Value} (F : Fr h₀ L s.heap m) (N : News h₀ L s.heap (news ++ [(kS, seqObj "list" #[] 0), (a, seqObj "list" #[] e1)])) (ap : kS ≠ a) (nk : ∀ p ∈ news, p.1 ≠ kS) (na : ∀ p ∈ news, p.1 ≠ a)
   (len : kz.length = vs.length) (few : vs.length < 64) (two : 2 ≤ vs.length) (rise : Rising rk vs)
   (turn : ∀ (i : Nat) (v : Value) (k : Int), vs[i]? = some v → kz[i]? = some k → ∀ (g : Heap) (tk : Nat) (own : List (Addr × Obj)), Fr h₀ L g m → News h₀ L g (news ++ own) →
     wpAny (model prog w) A (call f [v]) (KskEnd h₀ L m (news ++ own) k { s with heap := g, toks := tk }) (fun _ _ => False) { s with heap := g, toks := tk })
   (go : ∀ g tk out c, Fr h₀ L g m → News h₀ L g ((a, seqObj "list" out c) :: news) → Out rk kz vs out.toList → P (.done (.ret .none)) { s with heap := g, toks := tk }) :
   wpAny (model prog w) A (ksk_rest a f false vs.toArray e1 (.ref kS)) P E s := by
 unfold ksk_rest
 refine wpAny_bind (wpAny_rule ?_)
 first
   | rw [List.forIn_toArray]
   | (rw [← Array.forIn_toList]; simp only [List.toList_toArray])
 refine wpAny_bind (ksk_fold (fun i s' => ∃ g tk kA c, s' = { s with heap := g, toks := tk } ∧ Fr h₀ L g m ∧ News h₀ L g (news ++ [(kS, seqObj "list" kA c), (a, seqObj "list" #[] e1)]) ∧ IntsAre kA.toList (kz.take i)) vs 0 s
   ⟨s.heap, s.toks, #[], 0, rfl, F, N, by simpa using IntsAre.nil⟩ ?one ?all)
 case one =>
   rintro j x s' hx ⟨g, tk, kA, c, rfl, F', N', ks⟩
   simp only [Nat.zero_add] at ks ⊢
   have jl : j < vs.length := (List.getElem?_eq_some_iff.mp hx).1
   obtain ⟨k, kj⟩ : ∃ k, kz[j]? = some k := ⟨_, List.getElem?_eq_getElem (by omega)⟩
   have kl : kA.size ≤ vs.length := by have := ks.length; rw [Array.length_toList, List.length_take] at this; omega
   refine wpAny_bind (wpAny_attempt (wpAny_mono (turn j x k hx kj g tk _ F' N') (fun v s2 q => ?_) fun _ _ z => z.elim))
   obtain ⟨g2, tk2, t2, rfl, rfl, F2, N2⟩ := q
   try dsimp only
   have Nk := N2 (kS, seqObj "list" kA c) (List.mem_append_right _ (.head _))
   have Na := N2 (a, seqObj "list" #[] e1) (List.mem_append_right _ (.tail _ (.head _)))
   have b1 := Heap.SameBut.update g2 kS (Obj.mapSeq (·.push (.int k t2)))
   obtain ⟨c2, q2⟩ : ∃ c2, (g2.update kS (Obj.mapSeq (·.push (.int k t2)))).get? kS = some (seqObj "list" (kA.push (.int k t2)) c2) := ⟨_, get?_update_seq Nk.1 (·.push (.int k t2))⟩
   have e3 : kz.take (j + 1) = kz.take j ++ [k] := by rw [List.take_add_one, kj]; simp
   have e4 : (kA.push (Value.int k t2)).toList = kA.toList ++ [Value.int k t2] := by simp
   refine wpAny_bind (listUpdate_at Nk.1 rfl ?_ (by rw [sizeLine_eq]; omega) (Nat.le_trans (Nat.le_of_eq (Array.size_push ..)) (by rw [sizeLine_eq]; omega)))
   refine wpAny_pure ⟨rfl, _, _, kA.push (.int k t2), c2, rfl, ksk_fr F2 b1 Nk.2.1 Nk.2.2, fun p hp => ?_, by rw [e4, e3]; exact ksk_snoc ks⟩
   rcases List.mem_append.mp hp with q | q
   · exact ksk_news (fun q hq => N2 q (List.mem_append_left _ hq)) b1 nk p q
   · rcases List.mem_cons.mp q with rfl | q
     · exact ⟨q2, Nk.2⟩
     · rw [List.mem_singleton.mp q]
       exact ⟨(b1.2 a ap.symm).trans Na.1, Na.2⟩
 case all =>
   rintro s' ⟨g, tk, kA, c, rfl, F', N', ks⟩
   have e5 : kz.take (0 + vs.length) = kz := List.take_of_length_le (by omega)
   rw [e5] at ks
   try dsimp only
   refine wpAny_bind (listItems_at (N' (kS, seqObj "list" kA c) (List.mem_append_right _ (.head _))).1 rfl ?_)
   exact end_ F' N' ap nk na ks len few two rise fun g3 tk3 out c3 F3 N3 k3 => go g3 tk3 out c3 F3 N3 k3
theorem sort_ {f : Value} {n : Nat} (F : Fr h₀ L s.heap m) (N : News h₀ L s.heap news) (ho : s.heap.get? a = some (seqObj "list" vs.toArray n)) (aL : a ≠ L) (a0 : h₀.get? a = none) (na : ∀ p ∈ news, p.1 ≠ a)
   (len : kz.length = vs.length) (few : vs.length < 64) (two : 2 ≤ vs.length) (rise : Rising rk vs)
   (turn : ∀ (i : Nat) (v : Value) (k : Int), vs[i]? = some v → kz[i]? = some k → ∀ (g : Heap) (tk : Nat) (own : List (Addr × Obj)), Fr h₀ L g m → News h₀ L g (news ++ own) →
     wpAny (model prog w) A (call f [v]) (KskEnd h₀ L m (news ++ own) k { s with heap := g, toks := tk }) (fun _ _ => False) { s with heap := g, toks := tk })
   (go : ∀ g tk out c, Fr h₀ L g m → News h₀ L g ((a, seqObj "list" out c) :: news) → Out rk kz vs out.toList → P (.done (.ret .none)) { s with heap := g, toks := tk }) :
   wpAny (model prog w) A (ksk_tree a f false) P E s := by
 have al : a < s.heap.objs.size := Heap.lt_size ho
 have b1 := Heap.SameBut.update s.heap a (Obj.mapSeq fun _ => (#[] : Array Value))
 obtain ⟨e1, o1⟩ : ∃ e1, (s.heap.update a (Obj.mapSeq fun _ => (#[] : Array Value))).get? a = some (seqObj "list" #[] e1) := ⟨_, get?_update_seq ho fun _ => #[]⟩
 have F1 := ksk_fr F b1 aL a0
 have N1 := ksk_news N b1 na
 have sz1 : (s.heap.update a (Obj.mapSeq fun _ => (#[] : Array Value))).objs.size = s.heap.objs.size := Heap.size_update ..
 unfold ksk_tree
 refine wpAny_bind (listItems_at ho rfl ?_)
 refine wpAny_bind (listUpdate_at ho rfl ?_ (by rw [List.size_toArray, sizeLine_eq]; omega) (Nat.zero_le _))
 show wpAny _ _ _ _ _ { s with heap := s.heap.update a (Obj.mapSeq fun _ => (#[] : Array Value)) }
 generalize s.heap.update a (Obj.mapSeq fun _ => (#[] : Array Value)) = g1 at *
 refine wpAny_bind (seqEpoch_at o1 rfl ?_)
 refine wpAny_bind (wpAny_newTuple ?_ (by show vs.length ≤ _; rw [sizeLine_eq]; omega))
 refine wpAny_bind (wpAny_newList ?_ (Nat.zero_le _))
 refine wpAny_holding ?_
 have hkS : (g1.push (seqObj "tuple" vs.toArray 0)).objs.size = s.heap.objs.size + 1 := by rw [size_push', sz1]
 have Lk : L < (g1.push (seqObj "tuple" vs.toArray 0)).objs.size := (F1.push _).ns.lt
 refine jqq (s := { s with heap := (g1.push (seqObj "tuple" vs.toArray 0)).push (seqObj "list" #[] 0) }) (kS := (g1.push (seqObj "tuple" vs.toArray 0)).objs.size)
   ((F1.push _).push _) (fun p hp => ?_) (by rw [hkS]; exact Nat.ne_of_gt (Nat.lt_succ_of_lt al)) (fun p hp => by rw [hkS]; exact Nat.ne_of_lt (Nat.lt_succ_of_lt (Heap.lt_size (N p hp).1))) na len few two rise turn go
 rcases List.mem_append.mp hp with q | q
 · exact ⟨Heap.get?_push_of_some _ (Heap.get?_push_of_some _ (N1 p q).1), (N1 p q).2⟩
 · rcases List.mem_cons.mp q with rfl | q
   · exact ⟨Heap.get?_push_size _ rfl, Nat.ne_of_gt Lk, Heap.get?_none_of_le (Nat.le_trans F.above (Nat.le_of_lt Lk))⟩
   · rw [List.mem_singleton.mp q]
     exact ⟨Heap.get?_push_of_some _ (Heap.get?_push_of_some _ o1), aL, a0⟩
end Stb
namespace L2
open PySem PySem.Spec PyProof.Rows
open Sem (wp)
section
variable {prog : Program} {w : World} {A : Around} {E : Value → Shared → Prop} {s : Shared} {h₀ : Heap} {L l : Addr} {m : Str → Option Value} {news : List (Addr × Obj)} {vs : List Value} {Q : Value → Shared → Prop}
theorem jiW {rk : Value → Int} {kz : List Int} {f : Value} {kw : List (Str × Value)} (F : Fr h₀ L s.heap m) (N : News h₀ L s.heap news) (hl : s.heap.IsList l vs.toArray) (hlen : kz.length = vs.length) (h64 : vs.length < 64) (h2 : 2 ≤ vs.length) (hr : Stb.Rising rk vs)
   (ha1 : argsOk "sorted" ⟨[.ref l], kw⟩) (ha2 : ∀ x, argsOk "list.sort" ⟨[.ref x], kw⟩) (ht : ∀ x, Builtin.«list.sort» ⟨[.ref x], kw⟩ = ksk_tree x f false)
   (turn : ∀ (i : Nat) (v : Value) (k : Int), vs[i]? = some v → kz[i]? = some k → ∀ (h : Heap) (tk : Nat) (own : List (Addr × Obj)), Fr h₀ L h m → News h₀ L h (news ++ own) →
     wpAny (model prog w) A.in1.in1 (call f [v]) (KskEnd h₀ L m (news ++ own) k { s with heap := h, toks := tk }) (fun _ _ => False) { s with heap := h, toks := tk })
   (h : ∀ h' tk out c, Fr h₀ L h' m → News h₀ L h' ((s.heap.objs.size + 1, seqObj "list" out c) :: news) → Stb.Out rk kz vs out.toList → Q (.ref (s.heap.objs.size + 1)) { s with heap := h', toks := tk }) :
   wpAny (model prog w) A (call (.builtin "sorted") [.ref l] kw) Q E s := by
 refine call_function_entry_kw kind_sorted plain_sorted entry_sorted ha1 ?_
 unfold Builtin.«sorted»
 refine wpAny_bind (m := checkCount "sorted" 1 1 _) (wpAny_pure ?_)
 refine wpAny_bind (collect_list hl ?_ (by rw [sizeLine_eq]; omega))
 refine wpAny_bind (wpAny_newList ?_ (by rw [sizeLine_eq]; omega))
 have hsz : ((s.heap.push (seqObj "list" #[] 0)).update s.heap.objs.size (Obj.mapSeq (· ++ vs.toArray))).objs.size = s.heap.objs.size + 1 := by
   rw [Heap.size_update, size_push']
 have hoL : (((s.heap.push (seqObj "list" #[] 0)).update s.heap.objs.size (Obj.mapSeq (· ++ vs.toArray))).push (seqObj "list" vs.toArray 0)).get? (s.heap.objs.size + 1) = some (seqObj "list" vs.toArray 0) := by
   rw [← hsz]; exact Heap.get?_push_size _ rfl
 have keep : ∀ b o, s.heap.get? b = some o → (((s.heap.push (seqObj "list" #[] 0)).update s.heap.objs.size (Obj.mapSeq (· ++ vs.toArray))).push (seqObj "list" vs.toArray 0)).get? b = some o := fun b o q => by
   have hlt : b < s.heap.objs.size := Heap.lt_size q
   rw [Heap.get?_push_ne _ _ _ (by rw [hsz]; exact Nat.ne_of_lt (Nat.lt_succ_of_lt hlt)), Heap.get?_update_ne _ _ _ _ (Nat.ne_of_lt hlt), Heap.get?_push_ne _ _ _ (Nat.ne_of_lt hlt)]
   exact q
 have hL : L < s.heap.objs.size := F.ns.lt
 show wpAny _ _ _ _ _ { s with heap := ((s.heap.push (seqObj "list" #[] 0)).update s.heap.objs.size (Obj.mapSeq (· ++ vs.toArray))).push (seqObj "list" vs.toArray 0) }
 rw [hsz]
 refine wpAny_bind (wpAny_holding (wpAny_call_entry_kw slot_list_sort ⟨_, hoL, rfl⟩ entry_list_sort ?body (ha2 _)))
 case body =>
   have ht' := ht (s.heap.objs.size + 1)
   show wpAny (model prog w) A.in1.in1 (Builtin.«list.sort» ⟨[.ref (s.heap.objs.size + 1)], kw⟩) _ _ _
   rw [ht']
   refine Stb.sort_ (rk := rk) (s := { s with heap := ((s.heap.push (seqObj "list" #[] 0)).update s.heap.objs.size (Obj.mapSeq (· ++ vs.toArray))).push (seqObj "list" vs.toArray 0) })
     (F.kept keep) (N.grown keep) hoL (Nat.ne_of_gt (Nat.lt_succ_of_lt hL)) (Heap.get?_none_of_le (Nat.le_trans F.above (Nat.le_succ_of_le (Nat.le_of_lt hL))))
     (fun p hp => Nat.ne_of_lt (Nat.lt_succ_of_lt (Heap.lt_size (N p hp).1))) hlen h64 h2 hr turn fun h' tk out c F' N' k' => ⟨_, rfl, ?_⟩
   exact wpAny_pure ⟨_, rfl, h h' tk out c F' N' k'⟩
end
def jnk (K : PySem.W.Frag) (te : TE) : TE := fun σ H Q => te σ H fun x H1 => ∃ a, ∃ ts : List (List Nat), x = .ref a ∧ SqL K H1 a (ts.map fun l => V.str (S l)) ∧ ts.length < 64 ∧ 2 ≤ ts.length ∧ ts.Nodup ∧ (∀ t ∈ ts, t.length ≤ 1000) ∧ ∀ r (ys : List (List Nat)), H1 r = none → ys.Perm ts → ys.Pairwise (fun a b => a.length < b.length ∨ (a.length = b.length ∧ ts.idxOf a < ts.idxOf b)) → Q (.ref r) (upd H1 r (.lst (ys.map fun l => V.str (S l))))
section
variable {X : Cx} {pins : List (Addr × Obj)} {σ : List (Option V)} {H : Hp} {s : Shared}
theorem jmv (K : PySem.W.Frag) (hK : X.K = K) {e : Expr} {te : TE} {p q kp pos : Pos} (he : PE X e te) (hg : Gl X "sorted") (hm : X.mg "sorted" = none) (hgl : Gl X "len") (hml : X.mg "len" = none) (h1 : starEach [e] X.env = [(false, eval e X.env)]) :
   PE X (.Call (.Name "sorted" p) [e] [⟨some "key", .Name "len" q, kp⟩] pos) (jnk K te) := by
 subst hK
 intro pins s σ H Q I h
 refine jfe he hg hm jh5 (by decide) (by decide) hgl hml h1 I h fun x H1 u s1 I1 rx hx => ?_
 obtain ⟨a, ts, rfl, hq, h64, h2, nd, hz, qq⟩ := hx
 cases rx
 obtain ⟨its, rv, pl, _⟩ := I1.list hq
 have hl := rv.length
 rw [List.length_map] at hl
 obtain ⟨c1, c2⟩ := jhF rv
 obtain ⟨m, hn, _⟩ := id I1.loc
 have hrise : Stb.Rising (fun v => ((ts.idxOf (cOf v) : Nat) : Int)) its := fun i j u v ij eu ev => by
   have z : ∀ (k : Nat) (x : Value), its[k]? = some x → ts.idxOf (cOf x) = k := fun k x hx => by
     have e : ts[k]? = some (cOf x) := by rw [← c1, List.getElem?_map, hx]; rfl
     obtain ⟨hk, e2⟩ := List.getElem?_eq_some_iff.mp e
     rw [← e2]
     exact nd.idxOf_getElem k hk
   show ((ts.idxOf (cOf u) : Nat) : Int) < ((ts.idxOf (cOf v) : Nat) : Int)
   rw [z i u eu, z j v ev]
   omega
 refine jiW (rk := fun v => ((ts.idxOf (cOf v) : Nat) : Int)) (kz := its.map fun v => ((cOf v).length : Int)) (jlk hn) jjP pl.isList (by rw [List.length_map]) (by omega) (by omega) hrise (ksk_s1 _ _) (fun x => ksk_l1 _ _) (fun x => ksk_t4 "len" x) (fun i v k hv hk h tk own F' N' => ?_) fun h' tk out c F' N' hout => ?_
 · have hvm := List.mem_of_getElem? hv
   obtain ⟨t, ev⟩ := c2 v hvm
   rw [List.getElem?_map, hv] at hk
   have ek : ((cOf v).length : Int) = k := Option.some.inj hk
   have hlen : (S (cOf v)).length = (cOf v).length := jaD _
   have hm' : cOf v ∈ ts := by rw [← c1]; exact List.mem_map.mpr ⟨v, hvm, rfl⟩
   have := jjC (prog := X.prog) (w := X.w) (A := X.A.in1.in1) (s := { s1 with heap := h, toks := tk }) (x := S (cOf v)) (t := t) (by rw [hlen]; exact small (hz _ hm')) F' N'
   rw [hlen, ek, ← ev] at this
   exact this
 · obtain ⟨ps, hp, he', hs⟩ := hout
   have ez : (its.map fun v => ((cOf v).length : Int)).zip its = its.map fun v => (((cOf v).length : Int), v) := by
     have : ∀ l : List Value, (l.map fun v => ((cOf v).length : Int)).zip l = l.map fun v => (((cOf v).length : Int), v) := by
       intro l
       induction l with
       | nil => rfl
       | cons a l ih => simp [ih]
     exact this its
   rw [ez] at hp
   have hk1 : ∀ p ∈ ps, p.1 = ((cOf p.2).length : Int) ∧ p.2 ∈ its := fun p hpm => by
     obtain ⟨v, hv, rfl⟩ := List.mem_map.mp (hp.mem_iff.mp hpm)
     exact ⟨rfl, hv⟩
   have hperm : out.toList.Perm its := by
     have := hp.map Prod.snd
     rw [List.map_map, show (Prod.snd ∘ fun v : Value => (((cOf v).length : Int), v)) = id from rfl, List.map_id] at this
     rw [he']
     exact this
   obtain ⟨keep, I2⟩ := I1.byFr (t' := tk) hn F' (fun p hp => N' p (List.mem_cons_of_mem _ hp))
   have hD : h'.get? (s1.heap.objs.size + 1) = some (seqObj "list" out c) := (N' _ (List.mem_cons_self)).1
   have hys : (out.toList.map cOf).Perm ts := by rw [← c1]; exact hperm.map cOf
   refine ⟨.ref _, _, I2.track (o := .lst ((out.toList.map cOf).map fun l => V.str (S l))) (I1.fpOk (Nat.le_succ _) (I1.hok.fresh (Nat.le_succ _))) ⟨?_, out.toList, c, jfu fun v hv => c2 v (hperm.mem_iff.mp hv), ?_⟩, rfl, qq _ _ (I1.hok.fresh (Nat.le_succ _)) hys ?_⟩
   · rw [List.length_map, List.length_map, hperm.length_eq, sizeLine_eq]; omega
   · rw [hD]; try rfl
   · rw [he', List.map_map, List.pairwise_map]
     refine hs.imp_of_mem fun {p q} hp1 hq1 hpq => ?_
     have e1 := (hk1 p hp1).1
     have e2 := (hk1 q hq1).1
     show (cOf p.2).length < (cOf q.2).length ∨ ((cOf p.2).length = (cOf q.2).length ∧ ts.idxOf (cOf p.2) < ts.idxOf (cOf q.2))
     rcases hpq with z | ⟨z1, z2⟩
     · exact .inl (by omega)
     · have z3 : ((ts.idxOf (cOf p.2) : Nat) : Int) < ((ts.idxOf (cOf q.2) : Nat) : Int) := z2
       exact .inr ⟨by omega, by omega⟩
end
section
variable {σ : St} {H : Hp} {Q : VK} {K : PySem.W.Frag} {te : TE}
theorem jor (h : te σ H fun x H1 => ∃ a, ∃ ts : List (List Nat), x = .ref a ∧ SqL K H1 a (ts.map fun l => V.str (S l)) ∧ ts.length < 64 ∧ 2 ≤ ts.length ∧ ts.Nodup ∧ (∀ t ∈ ts, t.length ≤ 1000) ∧ ∀ r (ys : List (List Nat)), H1 r = none → ys.Perm ts → ys.Pairwise (fun a b => a.length < b.length ∨ (a.length = b.length ∧ ts.idxOf a < ts.idxOf b)) → Q (.ref r) (upd H1 r (.lst (ys.map fun l => V.str (S l))))) : jnk K te σ H Q := h
end
end L2
namespace My
open PySem L2 PySem.Spec PyProof.Rows Wr
theorem jkZ : ∀ a : List Nat, ltCps a a = false
 | [] => rfl
 | x :: a => by simp [ltCps, jkZ a]
theorem jhD {x y : Nat} {a b : List Nat} : ltCps (x :: a) (y :: b) = true ↔ x < y ∨ (x = y ∧ ltCps a b = true) := by simp [ltCps]
theorem jfS : ∀ {a b c : List Nat}, ltCps a b = true → ltCps b c = true → ltCps a c = true
 | [], [], _, h, _ => by simp [ltCps] at h
 | [], _ :: _, [], _, h => by simp [ltCps] at h
 | [], _ :: _, _ :: _, _, _ => rfl
 | _ :: _, [], _, h, _ => by simp [ltCps] at h
 | _ :: _, _ :: _, [], _, h => by simp [ltCps] at h
 | x :: a, y :: b, z :: c, h1, h2 => by
   rw [jhD] at h1 h2 ⊢
   rcases h1 with h1 | ⟨rfl, h1⟩
   · rcases h2 with h2 | ⟨rfl, h2⟩
     · exact .inl (by omega)
     · exact .inl h1
   · rcases h2 with h2 | ⟨rfl, h2⟩
     · exact .inl h2
     · exact .inr ⟨rfl, jfS h1 h2⟩
theorem jl2 : ∀ {a b : List Nat}, a ≠ b → ltCps b a = false → ltCps a b = true
 | [], [], h, _ => absurd rfl h
 | [], _ :: _, _, _ => rfl
 | _ :: _, [], _, h => by simp [ltCps] at h
 | x :: a, y :: b, h, h2 => by
   rw [jhD]
   have n2 : ¬ ltCps (y :: b) (x :: a) = true := by rw [h2]; decide
   rw [jhD] at n2
   by_cases e : x = y
   · subst e
     refine .inr ⟨rfl, jl2 (fun z => h (by rw [z])) ?_⟩
     cases q : ltCps b a
     · rfl
     · exact absurd (.inr ⟨rfl, q⟩) n2
   · exact .inl (by
       have : ¬ y < x := fun z => n2 (.inl z)
       omega)
def Ord (a b : List Nat) : Prop := a.length < b.length ∨ (a.length = b.length ∧ ltCps a b = true)
theorem Ord.irr {a : List Nat} (h : Ord a a) : False := by
 rcases h with h | ⟨_, h⟩
 · omega
 · rw [jkZ] at h; cases h
theorem Ord.trans {a b c : List Nat} (h : Ord a b) (g : Ord b c) : Ord a c := by
 rcases h with h | ⟨e, h⟩
 · rcases g with g | ⟨f, _⟩
   · exact .inl (by omega)
   · exact .inl (by omega)
 · rcases g with g | ⟨f, g⟩
   · exact .inl (by omega)
   · exact .inr ⟨by omega, jfS h g⟩
theorem Ord.asym {a b : List Nat} (h : Ord a b) (g : Ord b a) : False := (h.trans g).irr
theorem jjY : ∀ {l m : List (List Nat)}, l.Pairwise Ord → m.Pairwise Ord → (∀ t, t ∈ l ↔ t ∈ m) → l = m
 | [], [], _, _, _ => rfl
 | [], b :: m, _, _, h => absurd ((h b).mpr List.mem_cons_self) (by simp)
 | a :: l, [], _, _, h => absurd ((h a).mp List.mem_cons_self) (by simp)
 | a :: l, b :: m, hl, hm, h => by
   have l1 := List.pairwise_cons.mp hl
   have m1 := List.pairwise_cons.mp hm
   have e : a = b := by
     rcases List.mem_cons.mp ((h a).mp List.mem_cons_self) with z | z
     · exact z
     · rcases List.mem_cons.mp ((h b).mpr List.mem_cons_self) with y | y
       · exact y.symm
       · exact ((m1.1 a z).asym (l1.1 b y)).elim
   subst e
   congr 1
   refine jjY l1.2 m1.2 fun t => ⟨fun ht => ?_, fun ht => ?_⟩
   · rcases List.mem_cons.mp ((h t).mp (List.mem_cons_of_mem _ ht)) with z | z
     · subst z; exact (l1.1 t ht).irr.elim
     · exact z
   · rcases List.mem_cons.mp ((h t).mpr (List.mem_cons_of_mem _ ht)) with z | z
     · subst z; exact (m1.1 t ht).irr.elim
     · exact z
structure joL (ws bs : List (List Nat)) : Prop where
 l : jgs ws bs
 ord : bs.Pairwise Ord
theorem joL.uniq {ws bs cs : List (List Nat)} (h : joL ws bs) (g : joL ws cs) : bs = cs :=
 jjY h.ord g.ord fun t => (h.l.mem t).trans (g.l.mem t).symm
theorem jf8 : ∀ {l : List Str} {p : Str}, risingS p l = true → p ∉ l → l.Nodup → (∀ x ∈ l, ltCps p.cps.toList x.cps.toList = true) ∧ l.Pairwise fun a b => ltCps a.cps.toList b.cps.toList = true
 | [], p, _, _, _ => ⟨fun x hx => by simp at hx, .nil⟩
 | x :: l, p, h, hp, nd => by
   have h' : ltCps x.cps.toList p.cps.toList = false ∧ risingS x l = true := by simpa [risingS] using h
   have nd' := List.nodup_cons.mp nd
   obtain ⟨i1, i2⟩ := jf8 h'.2 nd'.1 nd'.2
   have px : ltCps p.cps.toList x.cps.toList = true := jl2 (fun z => hp (by rw [show p = x by rw [← joi p, ← joi x, z]]; exact List.mem_cons_self)) h'.1
   refine ⟨fun y hy => ?_, List.pairwise_cons.mpr ⟨i1, i2⟩⟩
   rcases List.mem_cons.mp hy with z | z
   · rw [z]; exact px
   · exact jfS px (i1 y z)
theorem jgu : ∀ {l : List Str}, sortedS l = true → l.Nodup → l.Pairwise fun a b => ltCps a.cps.toList b.cps.toList = true
 | [], _, _ => .nil
 | x :: l, h, nd => by
   have nd' := List.nodup_cons.mp nd
   obtain ⟨i1, i2⟩ := jf8 (show risingS x l = true from h) nd'.1 nd'.2
   exact List.pairwise_cons.mpr ⟨i1, i2⟩
theorem jlB {ts : List (List Nat)} (hs : ts.Pairwise fun a b => ltCps a b = true) {a b : List Nat} (ha : a ∈ ts) (hb : b ∈ ts) (h : ts.idxOf a < ts.idxOf b) : ltCps a b = true := by
 have la := List.idxOf_lt_length_of_mem ha
 have lb := List.idxOf_lt_length_of_mem hb
 have := List.pairwise_iff_getElem.mp hs _ _ la lb h
 rwa [List.getElem_idxOf, List.getElem_idxOf] at this
theorem jot {ws bs : List (List Nat)} {ys : List Str} (hne : ws ≠ []) (h1 : ys.Perm (jky (jga ws))) (nd : ys.Nodup) (hs : sortedS ys = true) (h2 : bs.Perm (ys.map fun x => x.cps.toList))
   (h3 : bs.Pairwise fun a b => a.length < b.length ∨ (a.length = b.length ∧ (ys.map fun x => x.cps.toList).idxOf a < (ys.map fun x => x.cps.toList).idxOf b)) : joL ws bs := by
 refine ⟨joY hne h1 h2, h3.imp_of_mem fun {a b} ha hb h => ?_⟩
 rcases h with h | ⟨e, h⟩
 · exact .inl h
 · exact .inr ⟨e, jlB (by rw [List.pairwise_map]; exact jgu hs nd) (h2.mem_iff.mp ha) (h2.mem_iff.mp hb) h⟩
end My
namespace L2
open PySem PySem.Spec PyProof.Rows
end L2
namespace My
open PySem L2 PySem.Spec PyProof.Rows Wr
end My
namespace My
open PySem L2 PySem.Spec PyProof.Rows Wr
end My
namespace L2
open PySem PySem.Spec PyProof.Rows
def jfN (sep : List Nat) : List (List Nat) → List Nat
 | [] => []
 | [x] => x
 | x :: y :: r => x ++ sep ++ jfN sep (y :: r)
theorem jnL (sep : List Nat) : ∀ ts : List (List Nat), Str.join (S sep) (ts.map S) = S (jfN sep ts)
 | [] => rfl
 | [x] => rfl
 | x :: y :: r => by
   have ih := jnL sep (y :: r)
   show S x ++ S sep ++ Str.join (S sep) ((y :: r).map S) = _
   rw [ih, ji0, ji0]
   rfl
theorem jiK : ∀ {ts : List (List Nat)} {its : List Value}, Vals (ts.map fun l => V.str (S l)) its → StrsAre its (ts.map S)
 | [], _, .nil => .nil
 | t :: ts, _, .cons a b => by
   obtain ⟨tk, rfl⟩ := a
   exact .cons _ _ (jiK b)
section
variable {X : Cx}
def rJoin (K : PySem.W.Frag) : V → List V → Hp → VK → Prop := fun x vs H Q => ∃ a p, ∃ ts : List (List Nat), x = .str (S a) ∧ vs = [.ref p] ∧ SqL K H p (ts.map fun l => V.str (S l)) ∧ ts.length ≤ 1000 ∧ (∀ t ∈ ts, t.length ≤ 1000) ∧ a.length ≤ 1000 ∧ Q (.str (S (jfN a ts))) H
theorem jjW (K : PySem.W.Frag) (hK : X.K = K) : MtR X "str.join" (rJoin K) := by
 subst hK
 intro pins s σ H x xs v us Q I rx rs h
 obtain ⟨a, p, ts, rfl, rfl, hq, hl, ht, ha, q⟩ := h
 obtain ⟨t, rfl⟩ := rx
 obtain ⟨u, rfl, ru⟩ := vals1 rs
 cases ru
 obtain ⟨its, rv, pl, hz⟩ := I.list hq
 refine join_list (ys := ts.map S) pl.isList (by simpa using jiK rv) ?_ fun t' k => ?_
 · have h1 : ((ts.map S).map (·.length)).sum ≤ (ts.map S).length * 1000 := StrLaws.sumLen_le _ fun y hy => by
     obtain ⟨z, hz', rfl⟩ := List.mem_map.mp hy
     rw [jaD]; exact ht z hz'
   rw [List.length_map] at h1 ⊢
   rw [jaD]
   have h2 := Nat.mul_le_mul hl ha
   omega
 · have e : Txt.join (S a) (ts.map S) = S (jfN a ts) := by
     show Builtin.Str.glued (S a) (ts.map S) = _
     rw [StrLaws.glued_eq_join, jnL]
   rw [e]
   exact ⟨.str (S (jfN a ts)), H, I.tok k, ⟨_, rfl⟩, q⟩
def dg (n : Int) : List Nat := [48 + n.toNat]
theorem jkE {n : Int} (h0 : 0 ≤ n) (h9 : n ≤ 9) : Str.ofString (toString n) = S (dg n) := by
 have h : n = 0 ∨ n = 1 ∨ n = 2 ∨ n = 3 ∨ n = 4 ∨ n = 5 ∨ n = 6 ∨ n = 7 ∨ n = 8 ∨ n = 9 := by omega
 rcases h with rfl | rfl | rfl | rfl | rfl | rfl | rfl | rfl | rfl | rfl <;> decide +kernel
theorem jl5 : jch X (.type "str") (fun xs H Q => ∃ n : Int, xs = [.int n] ∧ 0 ≤ n ∧ n ≤ 9 ∧ Q (.str (S (dg n))) H) := by
 intro pins s σ H xs us Q I r h
 obtain ⟨n, rfl, h0, h9, q⟩ := h
 obtain ⟨u, rfl, t, rfl⟩ := vals1 r
 refine PySem.P.str_of_int ?_ ?_
 · have : n.natAbs ≤ 9 := by omega
   have h2 : n.natAbs.log2 ≤ 9 := Nat.le_trans (Nat.log2_le_self _) this
   omega
 · exact ⟨.str (S (dg n)), H, I.tok _, ⟨_, by rw [← jkE h0 h9]⟩, q⟩
def tFv (t : TE) : TE := fun σ H Q => t σ H fun x H1 => ∃ a, x = .str (S a) ∧ a.length ≤ 1000 ∧ Q (.str (S a)) H1
theorem jpm {e : Expr} {t : TE} {p : Pos} (h : PE X e t) : PE X (.FormattedValue e (-1) none p) (tFv t) := by
 intro pins s σ H Q I q
 refine wpAny_FormattedValue_plain (thn (h pins s σ H _ I q) fun u s1 ⟨x, H1, I1, r, a, e, ha, q1⟩ => ?_)
 subst e
 obtain ⟨tk, rfl⟩ := r
 exact wpAny_formatField_str ⟨.str (S a), H1, I1, ⟨_, rfl⟩, q1⟩ ⟨.str (S a), H1, I1.tok _, ⟨_, rfl⟩, q1⟩ (by rw [jaD, sizeLine_eq]; omega)
def tF3 (t1 t2 t3 : TE) : TE := fun σ H Q => t1 σ H fun x H1 => ∃ a, x = .str (S a) ∧ a.length ≤ 1000 ∧ t2 σ H1 fun y H2 => ∃ b, y = .str (S b) ∧ b.length ≤ 1000 ∧ t3 σ H2 fun z H3 => ∃ c, z = .str (S c) ∧ c.length ≤ 1000 ∧ Q (.str (S (a ++ b ++ c))) H3
theorem jqT {e1 e2 e3 : Expr} {t1 t2 t3 : TE} {p : Pos} (h1 : PE X e1 t1) (h2 : PE X e2 t2) (h3 : PE X e3 t3) : PE X (.JoinedStr [e1, e2, e3] p) (tF3 t1 t2 t3) := by
 intro pins s σ H Q I q
 refine wpAny_JoinedStr ?_
 refine thn (h1 pins s σ H _ I q) fun u1 s1 ⟨x, H1, I1, r1, a, ex, la, q1⟩ => ?_
 subst ex
 obtain ⟨k1, rfl⟩ := r1
 have z0 : Str.empty ++ S a = S a := Str.empty_append _
 refine ⟨S a, k1, rfl, by rw [z0, jaD, sizeLine_eq]; omega, ?_⟩
 rw [z0]
 refine thn (h2 pins s1 σ H1 _ I1 q1) fun u2 s2 ⟨y, H2, I2, r2, b, ey, lb, q2⟩ => ?_
 subst ey
 obtain ⟨k2, rfl⟩ := r2
 refine ⟨S b, k2, rfl, by rw [ji0, jaD, List.length_append, sizeLine_eq]; omega, ?_⟩
 rw [ji0]
 refine thn (h3 pins s2 σ H2 _ I2 q2) fun u3 s3 ⟨z, H3, I3, r3, c, ez, lc, q3⟩ => ?_
 subst ez
 obtain ⟨k3, rfl⟩ := r3
 have hl : (S (a ++ b) ++ S c).length ≤ sizeLine := by rw [ji0, jaD, List.length_append, List.length_append, sizeLine_eq]; omega
 refine ⟨S c, k3, rfl, hl, hl, ?_⟩
 rw [ji0]
 exact ⟨.str (S (a ++ b ++ c)), H3, I3.tok _, ⟨_, rfl⟩, q3⟩
def joc (X : Cx) : Cx := { X with xe := fun _ _ => False }
theorem jna {pins : List (Addr × Obj)} {σ : St} {H : Hp} {s : Shared} (I : Inv X pins σ H s) : Inv (joc X) pins σ H s :=
 ⟨⟨I.ok.mod, I.ok.kind, I.ok.glob, I.ok.blt, I.ok.above, I.ok.inj, I.ok.has, I.ok.cab, I.ok.hd, I.ok.frames, I.ok.stk, I.ok.exf, I.ok.bs, I.ok.bsz, I.ok.noex, I.ok.exfs, I.ok.funs, I.ok.frf⟩, I.os, I.bare, I.base, I.loc, I.cell, I.free, I.freeC, I.pin, I.hok, I.len⟩
theorem je9 {pins : List (Addr × Obj)} {σ : St} {H : Hp} {s : Shared} (I : Inv (joc X) pins σ H s) : Inv X pins σ H s :=
 ⟨⟨I.ok.mod, I.ok.kind, I.ok.glob, I.ok.blt, I.ok.above, I.ok.inj, I.ok.has, I.ok.cab, I.ok.hd, I.ok.frames, I.ok.stk, I.ok.exf, I.ok.bs, I.ok.bsz, I.ok.noex, I.ok.exfs, I.ok.funs, I.ok.frf⟩, I.os, I.bare, I.base, I.loc, I.cell, I.free, I.freeC, I.pin, I.hok, I.len⟩
theorem joO {body : List Stmt} {h₀ : ExceptHandler} {hs : List ExceptHandler} {pos : Pos} {t : TS} (hb : PSs (joc X) body t) : PS X (.Try body (h₀ :: hs) [] [] pos) t := by
 intro pins s σ H D I q
 refine wpAny_Try_except (wpAny_mono (hb pins s σ H D (jna I) q) (fun f s1 h => ?_) fun _ _ z => z.elim)
 cases f with
 | next =>
   obtain ⟨σ', H', I', d⟩ := h
   exact jaq pins s1 σ' H' D (je9 I') d
 | brk => obtain ⟨σ', H', I', d⟩ := h; exact ⟨σ', H', je9 I', d⟩
 | cont => obtain ⟨σ', H', I', d⟩ := h; exact ⟨σ', H', je9 I', d⟩
 | ret u => obtain ⟨v, σ', H', I', r, d⟩ := h; exact ⟨v, σ', H', je9 I', r, d⟩
end
end L2
namespace L2
open PySem PySem.Spec PyProof.Rows
end L2
namespace My
open PySem L2 PySem.Spec PyProof.Rows Wr
theorem jfp {c n : Nat} : ∀ {ps : List (List Nat)}, (∀ p ∈ ps, p.length ≤ n) → (jfN [c] ps).length ≤ ps.length * (n + 1)
 | [], _ => by simp [jfN]
 | [p], h => by
   have := h p (by simp)
   show p.length ≤ 1 * (n + 1)
   omega
 | p :: q :: r, h => by
   have ih := jfp (c := c) (n := n) (ps := q :: r) fun x hx => h x (List.mem_cons_of_mem _ hx)
   have hp := h p (by simp)
   show (p ++ [c] ++ jfN [c] (q :: r)).length ≤ _
   rw [List.length_append, List.length_append, List.length_singleton]
   rw [List.length_cons] at ih ⊢
   rw [Nat.succ_mul] at ih ⊢
   rw [List.length_cons, Nat.succ_mul]
   omega
def wtT (ns : List Int) : List Nat := jfN [32] (ns.map dg)
def jqr (ns : List Int) (ws : List (List Nat)) : List Nat := wtT ns ++ [58, 32] ++ jfN [32] ws
theorem job {ns : List Int} (hd : jav ns) : (wtT ns).length ≤ 8 := by
 have h := jfp (c := 32) (n := 1) (ps := ns.map dg) fun p hp => by
   obtain ⟨n, hn, rfl⟩ := List.mem_map.mp hp
   exact Nat.le_refl 1
 rw [List.length_map] at h
 have := hd.hi
 unfold wtT
 omega
theorem joJ {n : Nat} {ws : List (List Nat)} (R : jbc n ws) : (jfN [32] ws).length ≤ 28 := by
 have h := jfp (c := 32) (n := 6) (ps := ws) fun p hp => (R.w p hp).hi
 have := R.hi
 omega
end My
namespace L2
open PySem
theorem by1 {P : List Value → Prop} (h : ∀ a, P [a]) : ∀ us : List Value, us.length = 1 → P us
 | [a], _ => h a
theorem by2 {P : List Value → Prop} (h : ∀ a b, P [a, b]) : ∀ us : List Value, us.length = 2 → P us
 | [a, b], _ => h a b
theorem by3 {P : List Value → Prop} (h : ∀ a b c, P [a, b, c]) : ∀ us : List Value, us.length = 3 → P us
 | [a, b, c], _ => h a b c
theorem bz1 {fd : FuncData} {ps : List Str} (h : ∀ a, bindArgs fd ⟨[a], []⟩ = pure (ps.zip [a])) (us : List Value) (hl : us.length = 1) : bindArgs fd ⟨us, []⟩ = pure (ps.zip us) := by1 (P := fun us => bindArgs fd ⟨us, []⟩ = pure (ps.zip us)) h us hl
theorem bz2 {fd : FuncData} {ps : List Str} (h : ∀ a b, bindArgs fd ⟨[a, b], []⟩ = pure (ps.zip [a, b])) (us : List Value) (hl : us.length = 2) : bindArgs fd ⟨us, []⟩ = pure (ps.zip us) := by2 (P := fun us => bindArgs fd ⟨us, []⟩ = pure (ps.zip us)) h us hl
theorem bz3 {fd : FuncData} {ps : List Str} (h : ∀ a b c, bindArgs fd ⟨[a, b, c], []⟩ = pure (ps.zip [a, b, c])) (us : List Value) (hl : us.length = 3) : bindArgs fd ⟨us, []⟩ = pure (ps.zip us) := by3 (P := fun us => bindArgs fd ⟨us, []⟩ = pure (ps.zip us)) h us hl
end L2
namespace L2
open PySem PySem.Spec PyProof.Rows
section
variable {σ : St} {H : Hp} {Q : VK} {K : PySem.W.Frag} {D : Ends}
theorem jp4 {t u : TS} (h : let d := D; t { d with nx := u d } σ H) : jqA t u D σ H := h
theorem jpQ {te : TE} {g : TG} (h : let n := D.nx; te σ H fun x H1 => g x σ H1 n) : joS te g D σ H := h
theorem jqD {c : TT} {t u : TS} (h : let d := D; c σ H fun b H1 => if b = true then t d σ H1 else u d σ H1) : jqP c t u D σ H := h
theorem jqn {r : R2} {ta tb : TE} (h : let q := Q; ta σ H fun x H1 => tb σ H1 fun y H2 => r x y H2 q) : tOp r ta tb σ H Q := h
theorem jqt {r : List V → Hp → VK → Prop} {t : TA} (h : let q := Q; t σ H fun vs H1 => r vs H1 q) : tCB r t σ H Q := h
theorem jqm {T : String} {r : V → List V → Hp → VK → Prop} {to : TE} {t : TA} (h : let q := Q; to σ H fun x H1 => tyV K T x H1 ∧ t σ H1 fun xs H2 => r x xs H2 q) : tBM K T r to t σ H Q := h
theorem jok {sp : Sp} {E : XK} {t : TA} (h : let q := Q; t σ H fun vs H1 => sp (vs ++ []) H1 q E) : jkw sp [] E t σ H Q := h
end
end L2
namespace L2
open PySem PySem.Spec PyProof.Rows
def ExcAt (h : Heap) (ea : Addr) (cls : Value) (T : Addr) : Prop :=
 ∃ a0 oe vs oT ts, h.get? ea = some oe ∧ (oe.cls = cls ∧ vs[0]? = some a0) ∧ oe.data = .fields vs ∧ vs[1]? = some (.ref T) ∧ T ≠ ea ∧ h.get? T = some oT ∧ oT.data = .fields ts ∧ ts[3]? = some .none
def CX1 (P : Program) (w : World) : CXT := fun outer H s E e s' => ∃ ea cls T H', e = .ref ea ∧ s'.os = s.os ∧ AllBare s'.gens ∧ Un (frs outer) [] H H' s.heap s'.heap ∧ HOk P w H' s'.heap ∧ ExcAt s'.heap ea cls T ∧
 H' ea = none ∧ H' T = none ∧ s.heap.get? ea = none ∧ s.heap.get? T = none ∧ E cls (some ea) H'
theorem jql {h : Heap} {B : Heap} : ∀ {l : List Env} {L : List Addr}, (∀ b ∈ frs l, b ∈ L) → h.FunFrames B l → h.FunFrames (PySem.W.hideAll h L) l
 | [], _, _, _ => trivial
 | env :: l, L, hs, ⟨k, ⟨A, o, hf, hn, ho, hd⟩, r⟩ => by
   have hm : A ∈ L := hs A (by unfold frs; rw [List.filterMap_cons, hf]; exact List.mem_cons_self)
   refine ⟨k, ⟨A, o, hf, PySem.W.hideAll_none L hm, ho, hd⟩, jql (fun b hb => hs b ?_) r⟩
   unfold frs at hb ⊢
   rw [List.filterMap_cons, hf]
   exact List.mem_cons_of_mem _ hb
theorem jbW.there {P : Program} {w : World} {H : Hp} {h : Heap} {a : Addr} {o : HO} (x : jbW P w H h a o) : ∃ ob, h.get? a = some ob := by
 cases o with
 | lst xs => obtain ⟨_, _, _, _, e⟩ := x; exact ⟨_, e⟩
 | tup xs => obtain ⟨_, _, _, ob, e, _⟩ := x; exact ⟨_, e⟩
 | dK kvs => obtain ⟨_, _, _, _, o, _, _, e, _⟩ := x; exact ⟨_, e⟩
 | dT kvs => obtain ⟨_, _, _, _, o, _, _, e, _⟩ := x; exact ⟨_, e⟩
 | set S n => obtain ⟨o, _, _, _, e, _⟩ := x; exact ⟨_, e⟩
 | ins C dx fs => obtain ⟨_, _, _, e, _⟩ := x; exact ⟨_, e⟩
 | own y => obtain ⟨_, e⟩ := x; exact ⟨_, e⟩
 | xd fs => obtain ⟨_, ⟨_, _, _, e, _⟩, _⟩ := x; exact ⟨_, e⟩
 | rng lo hi => obtain ⟨_, _, _, e⟩ := x; exact ⟨_, e⟩
 | frz ob u => obtain ⟨e, _⟩ := x; exact ⟨_, e⟩
 | tbl ps => exact ⟨_, show h.get? a = some _ from x⟩
 | met f y => exact ⟨_, show h.get? a = some _ from x⟩
 | ext φ => obtain ⟨_, ⟨_, e⟩, _⟩ := x; exact ⟨_, e⟩
section
variable {P : Program} {w : World} {K : PySem.W.Frag} {mg : Str → Option Value} {base : Heap} {N : List Str} {qual : Str} {scope : Scope} {f : Addr} {cd : Value} {A : Around} {outer : List Env} {s : Shared} {H : Hp} {E : XK} {CX : CXT}
theorem jpB {pins : List (Addr × Obj)} {σ : St} {H2 : Hp} {s2 : Shared} {L : List Addr} {ea : Addr} {cls a0 : Value} {h' : Heap}
   (J : Inv (jbu CX P w K mg base N qual scope f cd A outer s H E) pins σ H2 s2) (hL : ∀ b ∈ L, H2 b = none ∧ (b ∈ frs outer ∨ s.heap.get? b = none)) (hLf : ∀ b ∈ frs outer, b ∈ L) (hea : s.heap.get? ea = none) (heH : H2 ea = none)
   (fl : Heap.FlyingW (PySem.W.hideAll s2.heap L) outer ea cls a0 h') (up : s2.heap.UpToSlots h') (q : E cls (some ea) H2) : CX1 P w outer H s E (.ref ea) { s2 with heap := h' } := by
 obtain ⟨f1, f2, f3, oe, vs, T, oT, ts, he, hc, hd, h1, hnT, hTe, hT, hdT, h3⟩ := fl
 have kp : ∀ b o, b ∉ L → s2.heap.get? b = some o → h'.get? b = some o := fun b o hb e => f1 b o (PySem.W.hideAll_get L e hb)
 have trk : ∀ b u, H2 b = some u → b ∉ L := fun b u e hb => by rw [(hL b hb).1] at e; cases e
 have hTH : H2 T = none := by
   cases e : H2 T with
   | none => rfl
   | some u =>
     obtain ⟨o, ho⟩ := (J.hok T u e).there
     have := PySem.W.hideAll_get L ho (trk T u e)
     rw [hnT] at this; cases this
 refine ⟨ea, cls, T, H2, rfl, J.os, J.bare, ?_, ?_, ⟨a0, oe, vs, oT, ts, he, hc, hd, h1, hTe, hT, hdT, h3⟩, heH, hTH, hea, ?_, q⟩
 · refine ⟨fun b o e n hb hx => ?_, fun b o e n hb hx => ?_, fun b o e n hx => ?_, fun b o e hx => ?_, J.base.tups, J.base.frzs, J.base.tbls⟩
   · have e2 := J.base.keep b o e n hb hx
     exact kp b o (fun hl => by rcases (hL b hl).2 with z | z; exact hb z; rw [e] at z; cases z) e2
   · obtain ⟨sl, e2⟩ := J.base.slot b o e n hb hx
     obtain ⟨_, o', ho', hnf⟩ := J.ok.funs.mem hb
     have eo : o = o' := Option.some.inj ((show s.heap.get? b = some o from e).symm.trans ho')
     subst eo
     obtain ⟨sl', e3⟩ := up b _ e2 (fun ws z => hnf ws z)
     exact ⟨sl', e3⟩
   · exact J.base.free b o e n hx
   · obtain ⟨o', e2⟩ := J.base.there b o e hx
     by_cases hl : b ∈ L
     · rcases (hL b hl).2 with z | z
       · obtain ⟨sl, e3⟩ := J.base.slot b o e (J.ok.frf b z) z hx
         obtain ⟨_, o4, ho4, hnf⟩ := J.ok.funs.mem z
         have eo : o = o4 := Option.some.inj ((show s.heap.get? b = some o from e).symm.trans ho4)
         subst eo
         obtain ⟨sl', e4⟩ := up b _ e3 (fun ws z => hnf ws z)
         exact ⟨_, e4⟩
       · rw [e] at z; cases z
     · exact ⟨o', kp b o' hl e2⟩
 · intro b u e
   refine (J.hok b u e).stay (fun c v hc q => kp c v ?_ q) (fun _ q => q) fun _ _ q => q
   rcases hc with z | z
   · rw [z]; exact trk b u e
   · exact trk c _ z
 · cases e : s.heap.get? T with
   | none => rfl
   | some o =>
     obtain ⟨o', e2⟩ := J.base.there T o e (by simp [jbu])
     by_cases hl : T ∈ L
     · rcases (hL T hl).2 with z | z
       · obtain ⟨_, o4, ho4, hnf⟩ := f3.mem z
         rw [hT] at ho4
         cases ho4
         exact absurd hdT (hnf ts)
       · rw [e] at z; cases z
     · have := PySem.W.hideAll_get L e2 hl
       rw [hnT] at this; cases this
theorem jb7 : jgC (CX1 P w) (jbu (CX1 P w) P w K mg base N qual scope f cd A outer s H E) E := by
 intro pins σ H1 s1 e s2 I c
 obtain ⟨ea, cls, T, H', rfl, os, bare, un, hok, ⟨a0, oe, vs, oT, ts, he, hc, hd, h1, hTe, hT, hdT, h3⟩, hea, hTH, nea, nT, q⟩ := c
 have J : Inv (jbu (CX1 P w) P w K mg base N qual scope f cd A outer s H E) pins σ H' s2 := I.call' (s' := s2) (ch := []) os un hok bare fun b hb => by simp at hb
 have up0 : ∀ b, s1.heap.get? b = none → s.heap.get? b = none := fun b hb => by
   cases e : s.heap.get? b with
   | none => rfl
   | some o =>
     obtain ⟨o', e2⟩ := I.base.there b o e (by simp [jbu])
     rw [hb] at e2; cases e2
 have hloc := J.ok.above
 have stk := J.stack
 have nloc : s.heap.get? (jbu (CX1 P w) P w K mg base N qual scope f cd A outer s H E).env.locals = none := Heap.get?_none_of_le hloc
 let L : List Addr := ea :: T :: (jbu (CX1 P w) P w K mg base N qual scope f cd A outer s H E).env.locals :: frs outer
 have hLs : ∀ b ∈ frs ((jbu (CX1 P w) P w K mg base N qual scope f cd A outer s H E).env :: outer), b ∈ L := fun b hb => by
   have := J.stkSub b hb
   exact List.mem_cons_of_mem _ (List.mem_cons_of_mem _ this)
 refine wpAny_leaves_onW (base := PySem.W.hideAll s2.heap L) (L := (jbu (CX1 P w) P w K mg base N qual scope f cd A outer s H E).env.locals) (cls := cls) (a0 := a0) J.ok.frames ?_ ?_ fun h' fl up => ?_
 · rfl
 · exact ⟨fun b o e => PySem.W.of_hideAll L e, PySem.W.hideAll_none L (by simp [L]), jql hLs stk, oe, vs, T, oT, ts, he, hc, hd, h1, PySem.W.hideAll_none L (by simp [L]), hTe, hT, hdT, h3⟩
 · refine jpB J (L := L) (fun b hb => ?_) (fun b hb => by simp [L, hb]) (up0 ea nea) hea fl up q
   rcases List.mem_cons.mp hb with z | hb
   · rw [z]; exact ⟨hea, .inr (up0 ea nea)⟩
   · rcases List.mem_cons.mp hb with z | hb
     · rw [z]; exact ⟨hTH, .inr (up0 T nT)⟩
     · rcases List.mem_cons.mp hb with z | hb
       · rw [z]; exact ⟨J.free, .inr nloc⟩
       · exact ⟨J.stkFree b (by
           obtain ⟨e, he', hf⟩ := List.mem_filterMap.mp (show b ∈ outer.filterMap (·.frame) from hb)
           exact List.mem_filterMap.mpr ⟨e, List.mem_cons_of_mem _ he', hf⟩), .inl hb⟩
end
end L2
namespace L2
open PySem PySem.Spec PyProof.Rows
section
variable {P : Program} {w : World} {K : PySem.W.Frag} {mg : Str → Option Value} {base : Heap}
structure DfX (P : Program) (w : World) (K : PySem.W.Frag) (mg : Str → Option Value) (base : Heap) (x : Str) (k : Nat) (f : Addr) (fd : FuncData) (ps : List Str) (sp : Sp) : Prop where
 ok : jbf P w K mg base (CX1 P w) k f fd ps sp
 m : mg x = some (.ref f)
 kp : PySem.W.keepIn K (.ref f) = true
 b : Binds K fd ps []
end
theorem jay {X : Cx} {E : XK} {x : Str} {k k' : Nat} {f : Addr} {fd : FuncData} {ps : List Str} {sp : Sp} {p pos : Pos} {e : Expr} {es : List Expr} {t : TA} (hx : jgC (CX1 X.prog X.w) X E) (D : DfX X.prog X.w X.K X.mg X.base x k f fd ps sp) (hr : je5 k' X.A) (hg : Gl X x) (ha : PA X (e :: es) t) (hk : k ≤ k' := by decide)
    (hdb : (x == ("__debug__" : Str)) = false := by decide) (he : starEach (e :: es) X.env = (false, eval e X.env) :: starEach es X.env := by rfl) (hpl : (backTo pos (starEach es X.env)).any (·.1) = false := by rfl) :
    PE X (.Call (.Name x p) (e :: es) [] pos) (jkw sp [] E t) := jl7 D.ok (hr.mono hk) hg D.m D.kp D.b .nil hx ha hdb he hpl
structure Exc (K : PySem.W.Frag) (mg : Str → Option Value) (x : Str) (C : Addr) : Prop where
 m : mg x = some (.ref C)
 cl : ∃ bmB newId, PySem.W.excIn K C bmB newId = true ∧ ∃ B initId, ExcBaseFacts B newId initId bmB
def jnB (C : Addr) (E : XK) : TS := fun _ _ H => ∀ ea, H ea = none → E (.ref C) (some ea) H
theorem jlX {K : PySem.W.Frag} {h : Heap} {C : Addr} {bmB : List Value} {newId : String} (X : K.In h) (q : PySem.W.excIn K C bmB newId = true) :
   ∃ bm N nm q bs hdct sn sub ab col dd k0 k1 k2 k3 k5 mN, h.get? C = some (excClassObj nm q C N bs bm hdct sn sub ab col dd k0 k1 k2 k3 k5 newId) ∧ h.Ns N mN ∧ mN "__init__" = none ∧ OwnTail h bmB bm := by
 unfold PySem.W.excIn at q
 split at q
 · rename_i dd cd sl ho
   split at q
   · rename_i C' bm k0 k1 k2 k3 n k5 hm hs
     simp only [Bool.and_eq_true, beq_iff_eq, Bool.not_eq_true'] at q
     obtain ⟨⟨⟨⟨⟨rfl, rfl⟩, hdel⟩, ht⟩, hok⟩, hni⟩ := q
     obtain ⟨nm, bs, mro, ns, qn, hd, sn, sub, ab, col, del⟩ := cd
     dsimp only at hm hdel hok hni
     subst hm hdel
     have hsl : sl = #[k0, k1, k2, k3, some (.builtin n), k5] := by
       obtain ⟨l⟩ := sl
       simp only at hs
       rw [hs]
     subst hsl
     exact ⟨bm, ns, nm, qn, bs, hd, sn, sub, ab, col, dd, k0, k1, k2, k3, k5, _, X _ _ ho, .of_isNs (PySem.W.isNs_of_in X hok), PySem.W.nsMap_none_of_in X hok hni, PySem.W.tail_of_in X ht⟩
   · cases q
 · cases q
section
variable {P : Program} {w : World} {K : PySem.W.Frag} {mg : Str → Option Value} {base : Heap} {N : List Str} {qual : Str} {scope : Scope} {f : Addr} {cd : Value} {A : Around} {outer : List Env} {s : Shared} {H : Hp} {E : XK}
theorem joD {pins : List (Addr × Obj)} {σ : St} {H2 : Hp} {s2 : Shared} {h' : Heap} {ea : Addr} {cls : Value} {vs : List Value} (J : Inv (jbu (CX1 P w) P w K mg base N qual scope f cd A outer s H E) pins σ H2 s2) (mk : Heap.MadeExcOf s2.heap h' ea cls vs)
   (q : E cls (some ea) H2) : (jbu (CX1 P w) P w K mg base N qual scope f cd A outer s H E).xe (.ref ea) { s2 with heap := h' } := by
 have up0 : ∀ b, s2.heap.get? b = none → s.heap.get? b = none := fun b hb => by
   cases e : s.heap.get? b with
   | none => rfl
   | some o =>
     obtain ⟨o', e2⟩ := J.base.there b o e (by simp [jbu])
     rw [hb] at e2; cases e2
 have nloc : s.heap.get? (jbu (CX1 P w) P w K mg base N qual scope f cd A outer s H E).env.locals = none := Heap.get?_none_of_le J.ok.above
 let L : List Addr := (jbu (CX1 P w) P w K mg base N qual scope f cd A outer s H E).env.locals :: frs outer
 have hLs : ∀ b ∈ frs ((jbu (CX1 P w) P w K mg base N qual scope f cd A outer s H E).env :: outer), b ∈ L := fun b hb => J.stkSub b hb
 have heH : H2 ea = none := by
   cases e : H2 ea with
   | none => rfl
   | some u =>
     obtain ⟨o, ho⟩ := (J.hok ea u e).there
     rw [mk.new] at ho; cases ho
 refine wpAny_leaves_madeW (base := PySem.W.hideAll s2.heap L) (h := s2.heap) (L := (jbu (CX1 P w) P w K mg base N qual scope f cd A outer s H E).env.locals) (cls := cls) (args := vs) J.ok.frames rfl (fun b o e => PySem.W.of_hideAll L e) (jql hLs J.stack) mk fun h2 t fl _ _ up => ?_
 refine jpB (s2 := s2) (h' := h2) J (L := L) (fun b hb => ?_) (fun b hb => List.mem_cons_of_mem _ hb) (up0 ea mk.new) heH fl ((Heap.UpToSlots.of_keeps mk.keeps).trans up) q
 rcases List.mem_cons.mp hb with z | hb
 · rw [z]; exact ⟨J.free, .inr nloc⟩
 · exact ⟨J.stkFree b (by
     obtain ⟨e, he', hf⟩ := List.mem_filterMap.mp (show b ∈ outer.filterMap (·.frame) from hb)
     exact List.mem_filterMap.mpr ⟨e, List.mem_cons_of_mem _ he', hf⟩), .inl hb⟩
theorem jjO {x : Str} {C : Addr} {np cpos pos : Pos} {e₀ : Expr} {ta : TE} (hh : A.handled = none) (X : Exc K mg x C) (hg : Gl (jbu (CX1 P w) P w K mg base N qual scope f cd A outer s H E) x) (he : PE (jbu (CX1 P w) P w K mg base N qual scope f cd A outer s H E) e₀ ta)
   (hst : starEach [e₀] (jbu (CX1 P w) P w K mg base N qual scope f cd A outer s H E).env = [(false, eval e₀ (jbu (CX1 P w) P w K mg base N qual scope f cd A outer s H E).env)] := by rfl) (hd : (x == ("__debug__" : Str)) = false := by decide) :
   PS (jbu (CX1 P w) P w K mg base N qual scope f cd A outer s H E) (.Raise (some (.Call (.Name x np) [e₀] [] cpos)) none pos) (fun D σ H1 => ta σ H1 fun _ H2 => jnB C E D σ H2) := by
 intro pins s1 σ H1 D I q
 obtain ⟨bmB, newId, hx, B, initId, FB⟩ := X.cl
 obtain ⟨tl, N', nm, q', bs, hdct, sn, sub, ab, col, dd, k0, k1, k2, k3, k5, mN, hC, hN, hni, T⟩ := jlX (h := base) I.ok.mod.kin hx
 have ha : PA (jbu (CX1 P w) P w K mg base N qual scope f cd A outer s H E) [e₀] (jmt ta jqe) := jaa he jab (by rw [hst]; rfl)
 refine wpAny_Raise_call_subT (C := C) (nm := nm) (q := q') (N := N') (bs := bs) (bm := tl) (hdct := hdct) (sn := sn) (sub := sub) (ab := ab) (col := col) (dd := dd) (k0 := k0) (k1 := k1) (k2 := k2) (k3 := k3) (k5 := k5)
   FB (mN := mN) (T.hasType FB.hasBase) (I.ok.hd rfl) (by rw [hst]; rfl) hni (jfO I hg X.m ⟨rfl, ?_⟩ hd)
 have hsp := ha cpos pins s1 σ H1 (fun vs H2 => match vs with | [_] => jnB C E D σ H2 | _ => False) I q
 rw [hst] at hsp ⊢
 refine Calls.evalArgs_plain (thn hsp fun us s2 ⟨vs, H2, I2, r, q2⟩ => ?_)
 match vs, r, q2 with
 | [v], r, q2 =>
   refine ⟨rfl, by rw [← r.length, sizeLine_eq]; exact (by decide : 1 ≤ 16777216), I2.bk _ _ hC, hN.keeps I2.bk, T.keeps I2.bk, fun h' e mk => joD I2 mk (q2 e ?_)⟩
   cases z : H2 e with
   | none => rfl
   | some u =>
     obtain ⟨o, ho⟩ := (I2.hok e u z).there
     rw [mk.new] at ho; cases ho
end
end L2
namespace L2
open PySem PySem.Spec PyProof.Rows PySem.W
structure jmu (K : PySem.W.Frag) (C : Addr) : Prop where
 hc : (clsIn K C).isSome = true
 g1 : findIn K (.ref C) "__getattribute__" = some (some (.builtin "BaseException.__getattribute__"))
 g3 : findIn K (.ref C) "__getattr__" = some none
 g2 : findIn K (.ref C) "__class__" = some (some (.builtin "object.__class__"))
 sB : subIn K (.ref C) (.type "BaseException") = some true
 sO : subIn K (.ref C) (.type "object") = some true
section
variable {K : PySem.W.Frag} {C : Addr} {prog : Program} {w : World} {A : Around} {E : Value → Shared → Prop} {h : Heap} {g : Array GenState} {d : Drawn} {t : Nat} {os : OsState} {a : Addr} {o : Obj}
theorem jo3 {R : Result → Shared → Prop} (Z : jmu K C) (X : K.In h) (hx : h.get? a = some o) (hc : o.cls = .ref C) (hq : R (.ok (.ret (.ref C))) ⟨h, g, d, t, os⟩) :
   codeAny (model prog w) A (.call (.builtin "getset_descriptor.__get__") ⟨[.builtin "object.__class__", .ref a, .ref C], []⟩) R ⟨h, g, d, t, os⟩ := by
 have hT5 : (⟨h, g, d, t, os⟩ : Shared).TypeIs (.builtin "object.__class__") "getset_descriptor" := F.typeOf_object_class
 have sO : subIn K (.ref C) (.type (".".intercalate ("object.__class__".cutAt '.').dropLast)) = some true := by rw [F.owner_object_class]; exact Z.sO
 refine codeAny_call_builtin F.slot_gs_get.plain F.entry_gs_get (F.slot_gs_get.check _ _ _ _ _ _ _ _ hT5 (F.args_gs_get _ _ _) ?_)
 repeat (any_goals (first | assumption | (with_reducible refine wpAny_loadPart_at hx ?_; rw [hc]) | with_reducible refine (looks_subIn X sO).at ?_ | wp_step))
 refine ⟨Code.quiet_builtin _ (by decide +kernel), codeAny_builtin F.entry_object_class ?_⟩
 repeat (any_goals (first | assumption | (with_reducible refine wpAny_loadPart_at hx ?_; rw [hc]) | wp_step))
theorem jmC {tk : Tok} {Q : Fin → Shared → Prop} (Z : jmu K C) (X : K.In h) (hx : h.get? a = some o) (hc : o.cls = .ref C) (hq : Q (.done (.ret (.ref C))) ⟨h, g, d, t, os⟩) :
   wpAny (model prog w) A (Builtin.«object.__getattribute__» ⟨[.ref a, .str "__class__" tk], []⟩) Q E ⟨h, g, d, t, os⟩ := by
 have hT5 : (⟨h, g, d, t, os⟩ : Shared).TypeIs (.builtin "object.__class__") "getset_descriptor" := F.typeOf_object_class
 have f5 := F.typeOf_object_class
 have f6 := F.slot_gs_get.lookup
 have f7 := F.slot_gs_set.lookup
 repeat (any_goals (first | assumption | (with_reducible refine wpAny_loadPart_at hx ?_; rw [hc]) | with_reducible refine (looks_findIn X Z.g2).at ?_ | wp_step))
 refine jo3 Z X hx hc ?_
 repeat (any_goals (first | assumption | wp_step))
theorem jmJ {M : Model} {nameV : Value} {Q : Unit → Shared → Prop} (Z : jmu K C) (X : K.In h) (hx : h.get? a = some o) (hc : o.cls = .ref C) (hq : Q () ⟨h, g, d, t, os⟩) :
   wpAny M A (checkBuiltinCall "BaseException.__getattribute__" ⟨[.ref a, nameV], []⟩) Q E ⟨h, g, d, t, os⟩ := by
 have hk : builtinKind "BaseException.__getattribute__" = some .slot := by decide +kernel
 have hsplit : splitId "BaseException.__getattribute__" = some ("BaseException", "__getattribute__") := by decide +kernel
 have ha := F.args_bexc_ga (.ref a) nameV
 simp only [checkBuiltinCall, hk, hsplit]
 refine wpAny_bind ?_
 · unfold isInstance
   repeat (first | (with_reducible refine wpAny_loadPart_at hx ?_; rw [hc]) | with_reducible refine (looks_subIn X Z.sB).at ?_ | wp_step)
   exact hq
theorem jom {tk : Tok} {R : Result → Shared → Prop} (Z : jmu K C) (X : K.In h) (hx : h.get? a = some o) (hc : o.cls = .ref C) (hq : R (.ok (.ret (.ref C))) ⟨h, g, d, t, os⟩) :
   codeAny (model prog w) A (.call (.builtin "BaseException.__getattribute__") ⟨[.ref a, .str "__class__" tk], []⟩) R ⟨h, g, d, t, os⟩ :=
 codeAny_call_builtin PySem.F.excAttr_ValueError.ga.plain F.entry_bexc_ga (jmJ Z X hx hc (jmC Z X hx hc hq))
theorem jqH {tk : Tok} {Q : Value → Shared → Prop} (Z : jmu K C) (X : K.In h) (hx : h.get? a = some o) (hc : o.cls = .ref C) (hq : Q (.ref C) ⟨h, g, d, t, os⟩) :
    wpAny (model prog w) A (getAttrBy (.ref a) (.str "__class__" tk) false) Q E ⟨h, g, d, t, os⟩ := by
  have f3 := PySem.F.excAttr_ValueError.ga.bind (.ref a)
  have hx2 : (Value.builtin "BaseException.__getattribute__" == Value.builtin "object.__getattribute__") = false := by decide +kernel
  have hx1 : (onTheHeap (Value.ref C) && Value.builtin "BaseException.__getattribute__" == Value.builtin "object.__getattribute__") = false := by rw [hx2]; rfl
  repeat (any_goals (first | assumption | (with_reducible refine wpAny_loadPart_at hx ?_; rw [hc]) | with_reducible refine (looks_findIn X Z.g1).at ?_ | with_reducible refine (looks_findIn X Z.g3).at ?_ | wp_step))
  refine jom Z X hx hc ?_
  repeat (any_goals (first | assumption | wp_step))
theorem jnP {Q : Option Value → Shared → Prop} (Z : jmu K C) (X : K.In h) (hx : h.get? a = some o) (hc : o.cls = .ref C) (hq : Q (some (.ref C)) ⟨h, g, d, t + 1, os⟩) : wpAny (model prog w) A (getAttr? (.ref a) "__class__") Q E ⟨h, g, d, t, os⟩ := by
 unfold getAttr? getAttrBy?
 repeat (any_goals (first | assumption | with_reducible apply jqH Z X hx hc | wp_step))
end
def jov (a C : Addr) (h : Heap) : Prop := ∃ o, h.get? a = some o ∧ o.cls = .ref C
theorem jmR {K : PySem.W.Frag} {a C : Addr} (Z : jmu K C) : KitX K (.ref a) (.ref C) (jov a C) where
 ty := fun _ _ _ ⟨o, h1, h2⟩ => h2 ▸ (Looks.ld h1).andThen .now
 it := fun _ _ X _ => by
   have hcD := Z.hc
   unfold clsIn at hcD
   split at hcD
   · rename_i c' d' cd' sl' ho
     intro A' Q' E' s' k q
     unfold isType loadHead
     exact wpAny_bind (wpAny_loadPart (k _ _ (X _ _ ho)) (wpAny_pure q))
   · cases hcD
 ne := fun h tp dd its n sl X htp => by
   have hcD := Z.hc
   refine Bool.eq_false_iff.mpr fun q => ?_
   have e : C = tp := Value.ref.inj (beq_iff_eq.mp q)
   subst e
   unfold clsIn at hcD
   split at hcD
   · rename_i c' d' cd' sl' ho
     have z := (X _ _ ho).symm.trans htp
     cases z
   · cases hcD
 ca := fun {_ _ _ _ _ s} X p k => by
   obtain ⟨h, g, d, t, os⟩ := s
   obtain ⟨o, h1, h2⟩ := p
   exact jnP Z X h1 h2 k
end L2
namespace L2
open PySem PySem.Spec PyProof.Rows PySem.W
section
variable {M : Model} {A : Around} {E : Value → Shared → Prop} {h : Heap} {g : Array GenState} {d : Drawn} {t : Nat} {os : OsState} {e C CR : Addr} {oe : Obj} {K : PySem.W.Frag}
 {nm q : Str} {N : Addr} {bs bm : List Value} {hdct : Bool} {sn : List Str} {sub : List Value} {ab : Bool} {col : Option Bool} {dd : Option Addr} {k0 k1 k2 k3 k5 : Option Value} {newId : String}
theorem jp3 {Q : Bool → Shared → Prop} (X : K.In h) (hC : h.get? CR = some (excClassObj nm q CR N bs bm hdct sn sub ab col dd k0 k1 k2 k3 k5 newId)) (hbase : bm.contains (.type "BaseException") = true) (he : h.get? e = some oe) (hcls : oe.cls = .ref C)
   (sb : subIn K (.ref C) (.ref CR) = some true) (hq : Q true ⟨h, g, d, t, os⟩) : wpAny M A (excMatches (.ref e) (.ref CR)) Q E ⟨h, g, d, t, os⟩ := by
 have hcB : (Value.ref CR :: bm).contains (.type "BaseException") = true := by rw [List.contains_cons, hbase, Bool.or_true]
 have f := tc_notTuple
 unfold excMatches
 repeat (first | (with_reducible refine wpAny_loadPart_at he ?_; rw [hcls]) | with_reducible refine wpAny_loadPart_at hC ?_ | (with_reducible refine wpAny_isSubtype_exc hC ?_; rw [hcB]) | with_reducible refine (looks_subIn X sb).at ?_ | wp_step)
 exact hq
end
def EO (ea C : Addr) : HO := .ext (jov ea C)
def mkX (X : Cx) (ea : Addr) : Cx := { X with A := X.A.mark (some (.ref ea)), calm := false, xe := fun _ _ => False }
def trX (X : Cx) (xe : Value → Shared → Prop) (pn : List (Addr × Obj)) : Cx := { X with xe := xe, pn := pn }
section
variable {X : Cx} {pins : List (Addr × Obj)} {σ : St} {H : Hp} {s : Shared}
theorem jnA {ea : Addr} (I : Inv X pins σ H s) : Inv (mkX X ea) pins σ H s :=
 ⟨⟨I.ok.mod, I.ok.kind, I.ok.glob, I.ok.blt, I.ok.above, I.ok.inj, I.ok.has, I.ok.cab, (fun z => nomatch z), I.ok.frames, I.ok.stk, I.ok.exf, I.ok.bs, I.ok.bsz, I.ok.noex, I.ok.exfs, I.ok.funs, I.ok.frf⟩, I.os, I.bare, I.base, I.loc, I.cell, I.free, I.freeC, I.pin, I.hok, I.len⟩
theorem jpl {xe : Value → Shared → Prop} (I : Inv X pins σ H s) : Inv (trX X xe (X.pn ++ pins)) [] σ H s :=
 ⟨⟨I.ok.mod, I.ok.kind, I.ok.glob, I.ok.blt, I.ok.above, I.ok.inj, I.ok.has, I.ok.cab, I.ok.hd, I.ok.frames, I.ok.stk, I.ok.exf, I.ok.bs, I.ok.bsz, I.ok.noex, I.ok.exfs, I.ok.funs, I.ok.frf⟩, I.os, I.bare, I.base, I.loc, I.cell, I.free, I.freeC, fun p hp => I.pin p (by simpa [trX] using hp), I.hok, I.len⟩
theorem jh1 {xe : Value → Shared → Prop} {p1 : List (Addr × Obj)} (k : X.Ok) (I : Inv (trX X xe (X.pn ++ pins)) p1 σ H s) : Inv X pins σ H s :=
 ⟨k, I.os, I.bare, I.base, I.loc, I.cell, I.free, I.freeC, fun p hp => I.pin p (List.mem_append_left _ hp), I.hok, I.len⟩
theorem jpY {ea : Addr} (k : X.Ok) (I : Inv (mkX X ea) pins σ H s) : Inv X pins σ H s := ⟨k, I.os, I.bare, I.base, I.loc, I.cell, I.free, I.freeC, I.pin, I.hok, I.len⟩
theorem Inv.name_goes {h' : Heap} {m' : Str → Option Value} {t' : Nat} (I : Inv X pins σ H s) (hn : h'.Ns X.env.locals m') (sb : Heap.SameBut X.env.locals s.heap h') : Inv X pins (List.replicate X.N.length none) H { s with heap := h', toks := t' } := by
 have kp : ∀ b o, b ≠ X.env.locals → s.heap.get? b = some o → h'.get? b = some o := fun b o hb e => (sb.2 b hb).trans e
 have neL : ∀ b o, X.s₀.heap.get? b = some o → b ≠ X.env.locals := fun b o e => Nat.ne_of_lt (Nat.lt_of_lt_of_le (Heap.lt_size e) I.ok.above)
 refine ⟨I.ok, I.os, I.bare, ⟨fun b o e n f x => kp b o (neL b o e) (I.base.keep b o e n f x), fun b o e n f x => ?_, I.base.free, fun b o e x => ?_, I.base.tups, I.base.frzs, I.base.tbls⟩, ⟨m', hn, fun i x v _ e => ?_⟩, fun x c e => ?_, I.free, I.freeC, fun p hp => ?_, fun b u e => ?_, List.length_replicate⟩
 · obtain ⟨sl, z⟩ := I.base.slot b o e n f x
   exact ⟨sl, kp b _ (neL b o e) z⟩
 · obtain ⟨o', z⟩ := I.base.there b o e x
   exact ⟨o', kp b _ (neL b o e) z⟩
 · rw [List.getElem?_replicate] at e
   split at e <;> cases e
 · obtain ⟨v, z⟩ := I.cell x c e
   exact ⟨v, z.sameBut sb (I.cne x c e)⟩
 · obtain ⟨a, b, c, r⟩ := I.pin p hp
   exact ⟨kp _ _ c a, b, c, r⟩
 · have nl : ∀ b u, H b = some u → b ≠ X.env.locals := fun b u e z => by rw [z, I.free] at e; cases e
   refine (I.hok b u e).stay (fun c v hc q => kp c v ?_ q) (fun _ q => q) fun _ _ q => q
   rcases hc with z | z
   · rw [z]; exact nl b u e
   · exact nl c _ z
end
def jri (i : Nat) (Sub : Addr → Prop) (ts : TS) (tb : XK → TS) : TS := fun D σ H =>
 tb (fun cls a H' => ∃ ea C, a = some ea ∧ cls = .ref C ∧ Sub C ∧ ∀ σ', σ'[i]? = some (some (.ref ea)) → ts { nx := fun _ _ => False, rt := D.rt } σ' (upd H' ea (EO ea C))) D σ H
section
variable {P : Program} {w : World} {K : PySem.W.Frag} {mg : Str → Option Value} {base : Heap} {N : List Str} {qual : Str} {scope : Scope} {f : Addr} {cd : Value} {A : Around} {outer : List Env} {s : Shared} {H : Hp} {E : XK} {CX : CXT}
theorem landed {pins : List (Addr × Obj)} {σ : St} {H1 H' : Hp} {s1 s2 : Shared} {ea T C : Addr} {a0 : Value} {h' : Heap} {xe : Value → Shared → Prop} {pn : List (Addr × Obj)}
   (I : Inv (trX (jbu CX P w K mg base N qual scope f cd A outer s H E) xe pn) pins σ H1 s1) (os : s2.os = s1.os) (bare : AllBare s2.gens) (un : Un (frs (jbu CX P w K mg base N qual scope f cd A outer s H E).stack) [] H1 H' s1.heap s2.heap) (hok : HOk P w H' s2.heap) (hea : H' ea = none) (hTH : H' T = none) (nea : s1.heap.get? ea = none) (nT : s1.heap.get? T = none)
   (fl : Heap.FlyingW (PySem.W.hideAll s2.heap (ea :: T :: frs (jbu CX P w K mg base N qual scope f cd A outer s H E).stack)) (jbu CX P w K mg base N qual scope f cd A outer s H E).stack ea (.ref C) a0 h') (up : s2.heap.UpToSlots h') : Inv (trX (jbu CX P w K mg base N qual scope f cd A outer s H E) xe pn) pins σ (upd H' ea (EO ea C)) { s2 with heap := h' } := by
 obtain ⟨f1, f2, f3, oe, vs, T', oT, ts, he, hc, hd, r⟩ := fl
 have stk := I.stack
 have sfr : ∀ b ∈ frs (jbu CX P w K mg base N qual scope f cd A outer s H E).stack, H' b = none := fun b hb => by
   obtain ⟨_, o, ho, _⟩ := stk.mem hb
   exact un.free b o ho (I.stkFree b hb) (by simp)
 have kp : ∀ b o, b ∉ (ea :: T :: frs (jbu CX P w K mg base N qual scope f cd A outer s H E).stack) → s2.heap.get? b = some o → h'.get? b = some o := fun b o hb e => f1 b o (PySem.W.hideAll_get _ e hb)
 have trk : ∀ b u, H' b = some u → b ∉ (ea :: T :: frs (jbu CX P w K mg base N qual scope f cd A outer s H E).stack) := fun b u e hb => by
   rcases List.mem_cons.mp hb with z | hb
   · rw [z, hea] at e; cases e
   · rcases List.mem_cons.mp hb with z | hb
     · rw [z, hTH] at e; cases e
     · rw [sfr b hb] at e; cases e
 have ne1 : ∀ b o, s1.heap.get? b = some o → b ≠ ea := fun b o e z => by rw [z, nea] at e; cases e
 have ne2 : ∀ b o, s1.heap.get? b = some o → b ≠ T := fun b o e z => by rw [z, nT] at e; cases e
 have uo : ∀ b, b ≠ ea → upd H' ea (EO ea C) b = H' b := fun b hb => jaw hb
 have ue : ∀ b u, H1 b = some u → b ≠ ea := fun b u e => by
   obtain ⟨o, ho⟩ := (I.hok b u e).there
   exact ne1 b o ho
 refine I.call' (s' := { s2 with heap := h' }) (ch := []) os ⟨fun b o e n hb _ => ?_, fun b o e n hb _ => ?_, fun b o e n _ => ?_, fun b o e _ => ?_, fun b xs e => ?_, fun b o u e => ?_, fun b ps e => ?_⟩ (fun b u e => ?_) bare fun b hb => by simp at hb
 · refine kp b o ?_ (un.keep b o e n hb (by simp))
   intro z
   rcases List.mem_cons.mp z with z | z
   · exact ne1 b o e z
   · rcases List.mem_cons.mp z with z | z
     · exact ne2 b o e z
     · exact hb z
 · obtain ⟨sl, e2⟩ := un.slot b o e n hb (by simp)
   obtain ⟨_, o', ho', hnf⟩ := stk.mem hb
   have eo : o = o' := Option.some.inj (e.symm.trans ho')
   subst eo
   obtain ⟨sl', e3⟩ := up b _ e2 (fun ws z => hnf ws z)
   exact ⟨sl', e3⟩
 · rw [uo b (ne1 b o e)]; exact un.free b o e n (by simp)
 · obtain ⟨o', e2⟩ := un.there b o e (by simp)
   by_cases hb : b ∈ frs (jbu CX P w K mg base N qual scope f cd A outer s H E).stack
   · obtain ⟨_, o4, ho4, hnf⟩ := f3.mem hb
     exact ⟨o4, ho4⟩
   · exact ⟨o', kp b o' (fun z => by
       rcases List.mem_cons.mp z with z | z
       · exact ne1 b o e z
       · rcases List.mem_cons.mp z with z | z
         · exact ne2 b o e z
         · exact hb z) e2⟩
 · rw [uo b (ue b _ e)]; exact un.tups b xs e
 · rw [uo b (ue b _ e)]; exact un.frzs b o u e
 · obtain ⟨more, z⟩ := un.tbls b ps e
   exact ⟨more, by rw [uo b (ue b _ e)]; exact z⟩
 · by_cases hb : b = ea
   · subst hb
     rw [jah] at e
     cases e
     exact ⟨⟨oe, he, hc.1⟩, ⟨oe, he⟩, fun h1 h2 ⟨o, z1, z2⟩ k => ⟨o, k o z1, z2⟩⟩
   · rw [uo b hb] at e
     refine (hok b u e).stay (fun c v hc q => kp c v ?_ q) (fun c q => ?_) fun c x q => ?_
     · rcases hc with z | z
       · rw [z]; exact trk b u e
       · exact trk c _ z
     · rw [uo c (fun z => by rw [z, hea] at q; cases q)]; exact q
     · rw [uo c (fun z => by rw [z, hea] at q; cases q)]; exact q
theorem joP {x n : Str} {i : Nat} {CR : Addr} {body suite : List Stmt} {b₀ : Stmt} {np hpos pos : Pos} {tb : XK → TS} {ts : TS} (hN : (jbu CX P w K mg base N qual scope f cd A outer s H E).N.Nodup) (hi : (jbu CX P w K mg base N qual scope f cd A outer s H E).N[i]? = some n) (hl : (jbu CX P w K mg base N qual scope f cd A outer s H E).env.kindOf n = some .local)
   (Z : Exc K mg x CR) (hg : Gl (jbu CX P w K mg base N qual scope f cd A outer s H E) x) (hb : ∀ xe pn E', jgC (CX1 P w) (trX (jbu CX P w K mg base N qual scope f cd A outer s H E) xe pn) E' → PSs (trX (jbu CX P w K mg base N qual scope f cd A outer s H E) xe pn) body (tb E'))
   (hs : ∀ ea, PSs (mkX (jbu CX P w K mg base N qual scope f cd A outer s H E) ea) (b₀ :: suite) ts) (hd : (x == ("__debug__" : Str)) = false := by decide) :
   PS (jbu CX P w K mg base N qual scope f cd A outer s H E) (.Try body [.ExceptHandler (some (.Name x np)) (some n) (b₀ :: suite) hpos] [] [] pos) (jri i (fun C => subIn K (.ref C) (.ref CR) = some true) ts tb) := by
 intro pins s0 σ H0 D I q
 refine wpAny_Try_except ?_
 refine wpAny_mono (hb (fun e s₁ => wpAny (model P w) (jbu CX P w K mg base N qual scope f cd A outer s H E).A (noteFrame e (jbu CX P w K mg base N qual scope f cd A outer s H E).env) (fun _ s₂ => wpAny (model P w) (jbu CX P w K mg base N qual scope f cd A outer s H E).A (setFlight e none) (fun _ s₃ => wpAny (model P w) (jbu CX P w K mg base N qual scope f cd A outer s H E).A (handleBy e (jbu CX P w K mg base N qual scope f cd A outer s H E).env [.ExceptHandler (some (.Name x np)) (some n) (b₀ :: suite) hpos]) (SP (jbu CX P w K mg base N qual scope f cd A outer s H E) pins D) (jbu CX P w K mg base N qual scope f cd A outer s H E).xe s₃) (jbu CX P w K mg base N qual scope f cd A outer s H E).xe s₂) (jbu CX P w K mg base N qual scope f cd A outer s H E).xe s₁) ((jbu CX P w K mg base N qual scope f cd A outer s H E).pn ++ pins)
   _ ?_ [] s0 σ H0 D (jpl I) q) (fun fl s1 hh => ?_) fun _ _ z => z
 · intro pins1 σ1 H1 s1 e s2 I1 c
   obtain ⟨ea, cls, T, H', rfl, os, bare, un, hok, ⟨a0, oe, vs, oT, ts', he, hc, hd', h1, hTe, hT, hdT, h3⟩, hea, hTH, nea, nT, ea2, C, eae, rfl, hsub, kq⟩ := c
   cases eae
   have stk := I1.stack
   have sfr : ∀ b ∈ frs (jbu CX P w K mg base N qual scope f cd A outer s H E).stack, b ∈ (ea :: T :: frs (jbu CX P w K mg base N qual scope f cd A outer s H E).stack) := fun b hb => List.mem_cons_of_mem _ (List.mem_cons_of_mem _ hb)
   have stk2 : s2.heap.FunFrames base (jbu CX P w K mg base N qual scope f cd A outer s H E).stack := (I1.call' (s' := s2) (ch := []) os un hok bare fun b hb => by simp at hb).stack
   have land : ∀ h', Heap.FlyingW (PySem.W.hideAll s2.heap (ea :: T :: frs (jbu CX P w K mg base N qual scope f cd A outer s H E).stack)) (jbu CX P w K mg base N qual scope f cd A outer s H E).stack ea (.ref C) a0 h' → s2.heap.UpToSlots h' → Inv (jbu CX P w K mg base N qual scope f cd A outer s H E) pins σ1 (upd H' ea (EO ea C)) { s2 with heap := h' } := fun h' fl up =>
     jh1 I.ok (landed I1 os bare un hok hea hTH nea nT fl up)
   refine wpAny_looks_onW (base := PySem.W.hideAll s2.heap (ea :: T :: frs (jbu CX P w K mg base N qual scope f cd A outer s H E).stack)) (L := (jbu CX P w K mg base N qual scope f cd A outer s H E).env.locals) (cls := .ref C) (a0 := a0) I.ok.frames rfl ?_ fun h4 held sm4 => ?_
   · exact ⟨fun b o e => PySem.W.of_hideAll _ e, PySem.W.hideAll_none _ (by simp), jql sfr stk2, oe, vs, T, oT, ts', he, hc, hd', h1, PySem.W.hideAll_none _ (by simp), hTe, hT, hdT, h3⟩
   refine wpAny_landsW held fun h5 fl5 sm5 => ?_
   have sm25 := sm4.trans sm5
   have J5 := land h5 fl5 sm25
   refine wpAny_handleBy_cons (codeAny_handlers_test (jfO (X := mkX (jbu CX P w K mg base N qual scope f cd A outer s H E) ea) (jnA J5) hg Z.m ?_ hd)) (by intro q; cases q)
   obtain ⟨bmB, newId, hx, B, initId, FB⟩ := Z.cl
   obtain ⟨tl, N', nm, q', bs, hdct, sn, sub, ab, col, dd, k0, k1, k2, k3, k5, mN, hC, hN', hni, TT⟩ := jlX (h := h5) J5.kIn hx
   obtain ⟨ob, hob, hobc⟩ := fl5.there
   refine jp3 (K := K) J5.kIn hC (TT.hasType FB.hasBase) hob hobc hsub (codeAny_handlers_suite_as ?_)
   refine lands_againW fl5 fun h6 fl6 sm6 => ?_
   have J6 := land h6 fl6 (sm25.trans sm6)
   refine jhH (X := (jbu CX P w K mg base N qual scope f cd A outer s H E)) (v := .ref ea) J6 hN hi (.inl hl) rfl (fun s7 J7 => ?_) (.inr hl)
   have hli : i < σ1.length := by rw [I1.len]; exact (List.getElem?_eq_some_iff.mp hi).1
   refine wpAny_mono (hs ea pins s7 _ _ _ (jnA J7) (kq _ (by rw [List.getElem?_set_self hli]))) (fun fl s8 h8 => ?_) fun _ _ z => z.elim
   cases fl with
   | ret u =>
     obtain ⟨v, σ8, H8, J8, r8, q8⟩ := h8
     obtain ⟨m8, ns8, _⟩ := J8.loc
     refine wpAny_nameGoes hl ns8 (by rw [I.ok.kind]; rfl) fun h9 m9 ns9 sb9 => ?_
     exact ⟨v, _, H8, (jpY I.ok J8).name_goes ns9 sb9, r8, q8⟩
   | next => obtain ⟨_, _, _, z⟩ := h8; exact z.elim
   | brk => obtain ⟨_, _, _, z⟩ := h8; exact z.elim
   | cont => obtain ⟨_, _, _, z⟩ := h8; exact z.elim
 · cases fl with
   | next =>
     obtain ⟨σ', H', I', d⟩ := hh
     exact jaq pins s1 σ' H' D (jh1 I.ok I') d
   | brk => obtain ⟨σ', H', I', d⟩ := hh; exact ⟨σ', H', jh1 I.ok I', d⟩
   | cont => obtain ⟨σ', H', I', d⟩ := hh; exact ⟨σ', H', jh1 I.ok I', d⟩
   | ret u => obtain ⟨v, σ', H', I', r, d⟩ := hh; exact ⟨v, σ', H', jh1 I.ok I', r, d⟩
end
end L2
namespace L2
open PySem PySem.Spec PyProof.Rows PySem.W
def cV : V → Value
 | .ref D => .ref D
 | .ty T => .type T
 | _ => .none
def jqM (K : PySem.W.Frag) : List V → Hp → VK → Prop := fun xs H Q => ∃ ea c C b, xs = [.ref ea, c] ∧ H ea = some (EO ea C) ∧ jmu K C ∧ kitOne K (.ref C) (cV c) = some b ∧ Q (.bl b) H
section
variable {X : Cx} {H : Hp} {Q : VK} {K : PySem.W.Frag}
theorem jcz (K : PySem.W.Frag) (hK : X.K = K) : jch X (.builtin "isinstance") (jqM K) := by
 subst hK
 intro pins s σ H xs us Q I r h
 obtain ⟨ea, c, C, b, rfl, hE, Z, e, q⟩ := h
 obtain ⟨u, w', rfl, r1, r2⟩ := vals2 r
 cases r1
 have p : jov ea C s.heap := (show jbW X.prog X.w H s.heap ea (EO ea C) from I.hok ea _ hE).1
 have hw : w' = cV c := by
   cases c with
   | ref D => exact r2
   | ty T => exact r2
   | _ =>
     exfalso
     unfold kitOne cV at e
     rw [if_neg (by simp)] at e
     cases e
 subst hw
 exact kia_one (jmR Z) I.kIn p e (fun z => nomatch z) fun tk => ⟨.bl b, H, I.tok tk, rfl, q⟩
theorem jjZ (bs : List Bool) : (bs.map V.bl).all jgl = true := by
 rw [List.all_eq_true]
 intro v hv
 obtain ⟨l, _, rfl⟩ := List.mem_map.mp hv
 rfl
theorem jgD : ∀ {bs : List Bool} {us : List Value}, Vals (bs.map V.bl) us → us.countP (eqU (.bl true)) = bs.countP id
 | [], _, .nil => rfl
 | b :: bs, _, .cons r t => by
   rw [List.countP_cons, List.countP_cons, jgD t, jiJ r rfl]
   cases b <;> rfl
def jqx (K : PySem.W.Frag) : V → List V → Hp → VK → Prop := fun x vs H Q => ∃ p, ∃ bs : List Bool, x = .ref p ∧ vs = [.bl true] ∧ SqL K H p (bs.map V.bl) ∧ Q (.int (bs.countP id : Nat)) H
theorem jkY (K : PySem.W.Frag) (hK : X.K = K) : MtR X "list.count" (jqx K) := by
 subst hK
 intro pins s σ H x xs v us Q I rx rs h
 obtain ⟨p, bs, rfl, rfl, hq, q⟩ := h
 cases rx
 obtain ⟨u, rfl, ru⟩ := vals1 rs
 obtain ⟨its, rv, pl, hz⟩ := I.list hq
 obtain ⟨o, ho, hc, n, hd⟩ := pl.isList
 obtain ⟨oc, odd, odt, osl⟩ := o
 simp only at hc hd
 subst hc; subst hd
 refine call_meets PySem.F.slot_list_count ⟨_, ho, rfl⟩ PySem.F.entry_list_count (PySem.F.args_list_count_2 _ _) (SeqAt.list_countAt p its.toArray n odd osl u (eqU (.bl true))) ⟨ho, fun y hy => jdD ru rfl rv (jjZ bs) y (by simpa using hy), ?_⟩
 rw [show its.toArray.toList = its from rfl, jgD rv]
 exact ⟨.int _, H, I.tok _, ⟨_, rfl⟩, q⟩
def jqu (K : PySem.W.Frag) : V → List V → Hp → VK → Prop := fun x vs H Q => ∃ p j, ∃ bs : List Bool, x = .ref p ∧ vs = [.bl true] ∧ SqL K H p (bs.map V.bl) ∧ bs[j]? = some true ∧ (∀ m, m < j → bs[m]? = some false) ∧ Q (.int (j : Nat)) H
theorem jlz (K : PySem.W.Frag) (hK : X.K = K) : MtR X "list.index" (jqu K) := by
 subst hK
 intro pins s σ H x xs v us Q I rx rs h
 obtain ⟨p, j, bs, rfl, rfl, hq, hj, hlt, q⟩ := h
 cases rx
 obtain ⟨u, rfl, ru⟩ := vals1 rs
 obtain ⟨its, rv, pl, hz⟩ := I.list hq
 have hl := rv.length
 rw [List.length_map] at hl
 rw [List.length_map, sizeLine_eq] at hz
 have hjl := (List.getElem?_eq_some_iff.mp hj).1
 obtain ⟨o, ho, hc, n, hd⟩ := pl.isList
 obtain ⟨oc, odd, odt, osl⟩ := o
 simp only at hc hd
 subst hc; subst hd
 have item : ∀ m b (h1 : m < its.toArray.size), bs[m]? = some b → eqU (.bl true) its.toArray[m] = (b == true) := fun m b h1 h2 => by
   have h3 : m < its.length := by rw [List.size_toArray] at h1; exact h1
   have e1 : its[m]? = some its.toArray[m] := by rw [List.getElem?_eq_getElem h3]; rfl
   obtain ⟨x, hx, r⟩ := jdc rv e1
   rw [List.getElem?_map, h2] at hx
   cases hx
   rw [jiJ r rfl]; rfl
 refine call_meets PySem.F.slot_list_index ⟨_, ho, rfl⟩ PySem.F.entry_list_index (PySem.F.args_list_index_2 _ _)
   (SeqAt.list_indexAt p its.toArray n odd osl u (eqU (.bl true)) j (by rw [List.size_toArray]; omega) (by omega) ?_ ?_) ⟨ho, fun y hy => jdD ru rfl rv (jjZ bs) y (by simpa using hy), ?_⟩
 · rw [item _ _ _ hj]; rfl
 · intro m h1 h2
   rw [item m _ h1 (hlt m h2)]; rfl
 · exact ⟨.int _, H, I.tok _, ⟨_, rfl⟩, q⟩
end
structure jf0 (k : Nat) (A : Around) : Prop where
 dp : A.depth + 3 * k + 5 < recursionLimit
 un : A.units + 16 * k + 200 < cLine
theorem je5.toM {k : Nat} {A : Around} (r : je5 k A) (x : Option Value) : jf0 k (A.mark x) := ⟨r.dp, r.un⟩
theorem jf0.deeper {k : Nat} {A : Around} (r : jf0 (k + 1) A) (env : Env) : jf0 k (A.deeper env) :=
 ⟨by have := r.dp; show A.depth + 1 + 3 * k + 5 < _; omega, by have := r.un; show A.units + 3 + 16 * k + 200 < _; omega⟩
theorem jf0.mono {j k : Nat} {A : Around} (r : jf0 k A) (h : j ≤ k) : jf0 j A := ⟨by have := r.dp; omega, by have := r.un; omega⟩
structure jmk (P : Program) (w : World) (K : PySem.W.Frag) (mg : Str → Option Value) (base : Heap) (k : Nat) (f : Addr) (fd : FuncData) (ps : List Str) (sp : Sp) : Prop where
 len : ∀ vs H Q E, sp vs H Q E → vs.length = ps.length
 run : ∀ (A : Around) (outer : List Env) (s : Shared) (H : Hp) (args : Args) (us : List Value) (vs : List V) (Q : VK) (E : XK), jf0 k A → jnO P w K mg base A outer s H → BindsTo s fd args (ps.zip us) → Vals vs us → sp vs H Q E →
   codeAny (model P w) A (.call (.ref f) args) (CR CX0 outer P w H s Q E) s
def cxM (P : Program) (w : World) (K : PySem.W.Frag) (mg : Str → Option Value) (base : Heap) (N : List Str) (qual : Str) (scope : Scope) (f : Addr) (cd : Value) (A : Around) (outer : List Env) (s : Shared) (H : Hp) : Cx :=
 { jbu CX0 P w K mg base N qual scope f cd A outer s H E0 with calm := false, xe := fun _ _ => False }
theorem jkz {P : Program} {w : World} {K : PySem.W.Frag} {mg : Str → Option Value} {base : Heap} {N ps : List Str} {qual : Str} {scope : Scope} {f : Addr} {cd : Value} {A : Around} {outer : List Env} {s s1 : Shared} {H : Hp} {us : List Value} {vs : List V}
   (S : jan N ps scope) (e0 : jnO P w K mg base A outer s H) (hl : vs.length = ps.length) (r : Vals vs us)
   (x : InCallC s s.heap.objs.size (bindL (envOfC qual scope s.heap.objs.size f cd).kindOf (ps.zip us) fun _ => none) (cellsFrom (s.heap.objs.size + 1) scope.names []) (bindC (envOfC qual scope s.heap.objs.size f cd).kindOf (ps.zip us) fun _ => none) s1) :
   Inv (cxM P w K mg base N qual scope f cd A outer s H) [] (start N vs) H s1 := by
 have e1 : jnO P w K mg base { A with handled := none } outer s H := ⟨e0.frames, e0.mod, e0.bs, e0.bsz, e0.funs, e0.frf, e0.hok, e0.bare⟩
 have I : Inv (jbu CX0 P w K mg base N qual scope f cd { A with handled := none } outer s H E0) [] (start N vs) H s1 := jiE S rfl e1 hl r x
 exact ⟨⟨I.ok.mod, I.ok.kind, I.ok.glob, I.ok.blt, I.ok.above, I.ok.inj, I.ok.has, I.ok.cab, (fun z => nomatch z), Around.frames_deeper e0.frames, I.ok.stk, I.ok.exf, I.ok.bs, I.ok.bsz, I.ok.noex, I.ok.exfs, I.ok.funs, I.ok.frf⟩, I.os, I.bare, I.base, I.loc, I.cell, I.free, I.freeC, I.pin, I.hok, I.len⟩
theorem jpb {P : Program} {w : World} {K : PySem.W.Frag} {mg : Str → Option Value} {base : Heap} {k : Nat} {f : Addr} {name qual : Str} {params : Arguments} {body : List Stmt} {scope : Scope} {dV kV doc pm cdv ct oc : Value} {an od : Option Addr}
   {osl : Array (Option Value)} {N ps : List Str} {sp : Sp} (lk : K.lookup f = some ⟨oc, od, .func (PySem.W.fnOf name qual params body scope dV kV doc pm an cdv ct), osl⟩) (hcd : PySem.W.codeIn K cdv qual = true) (S : jan N ps scope)
   (len : ∀ vs H Q E, sp vs H Q E → vs.length = ps.length)
   (hbody : ∀ (A : Around) (outer : List Env) (s : Shared) (H : Hp) (vs : List V) (Q : VK) (E : XK), jf0 k (A.deeper (envOfC qual scope s.heap.objs.size f cdv)) → sp vs H Q E →
     ∃ t, PSs (cxM P w K mg base N qual scope f cdv A outer s H) body t ∧ t { nx := fun _ H' => Q .non H', rt := Q } (start N vs) H) :
   jmk P w K mg base (k + 1) f (PySem.W.fnOf name qual params body scope dV kV doc pm an cdv ct) ps sp := by
 refine ⟨len, fun A outer s H args us vs Q E hr e0 hb r hsp => ?_⟩
 have hl := len _ _ _ _ hsp
 have KX : K.In s.heap := e0.mod.kin.keeps fun b o e => (e0.bs b o e).1
 have lim : s.heap.NoLimit := e0.mod.nolimit.keeps fun b o e => (e0.bs b o e).1
 have hkind : ∀ y ∈ ps.zip us, scope.names.lookup y.1 = some .local ∨ (scope.names.lookup y.1 = some .cell ∧ ((cellsFrom (s.heap.objs.size + 1) scope.names []).lookup y.1).isSome = true) := fun ⟨n, v⟩ hy => by
   rcases S.par n (List.of_mem_zip hy).1 with q | q
   · exact .inl q
   · exact .inr ⟨q, PySem.W.cellsFrom_some _ _ _ (.inl q)⟩
 refine codeAny_call_function (by have := hr.dp; omega) (KX _ _ lk) rfl S.co S.gen rfl (PySem.W.codeRec_of KX hcd) (hb _ _ _ _ ?_)
 refine wpAny_newFunctionEnv_cells S.kind hkind fun env he s1 x => ?_
 subst he
 refine ⟨lim.keeps x.toInCall.keep, codeAny_func ?_⟩
 obtain ⟨t, ht, hq⟩ := hbody A outer s H vs Q E (hr.deeper _) hsp
 have I : Inv (cxM P w K mg base N qual scope f cdv A outer s H) [] (start N vs) H s1 := jkz S e0 hl r x
 refine wpAny_mono (ht [] s1 (start N vs) H _ I hq) (fun fl s' hs => ?_) fun e s' hs => hs.elim
 have fin : ∀ {σ' : St} {H' : Hp} {v : V} {u : Value}, Inv (cxM P w K mg base N qual scope f cdv A outer s H) [] σ' H' s' → RelV v u → Q v H' → CE outer P w H s Q u s' :=
   fun {σ' H' v u} J rv q => ⟨v, H', J.os, J.bare, J.base, J.hok, rv, q⟩
 cases fl with
 | ret u =>
   obtain ⟨v, σ', H', J, rv, q⟩ := hs
   exact fin J rv q
 | next =>
   obtain ⟨σ', H', J, q⟩ := hs
   exact fin (v := V.non) (u := Value.none) J rfl q
 | brk =>
   obtain ⟨_, _, _, q⟩ := hs
   exact False.elim q
 | cont =>
   obtain ⟨_, _, _, q⟩ := hs
   exact False.elim q
section
variable {P : Program} {w : World} {K : PySem.W.Frag} {mg : Str → Option Value} {base : Heap}
theorem Fun.okM {x qual : Str} {st : Stmt} {f : Addr} {fd : FuncData} {N ps : List Str} {k : Nat} {sp : Sp} (F : Fun K x qual st f fd) (S : jan N ps (jad st)) (len : ∀ vs H Q E, sp vs H Q E → vs.length = ps.length)
   (hbody : ∀ (cdv : Value) (A : Around) (outer : List Env) (s : Shared) (H : Hp) (vs : List V) (Q : VK) (E : XK), jf0 k (A.deeper (envOfC qual (jad st) s.heap.objs.size f cdv)) → sp vs H Q E →
     ∃ t, PSs (cxM P w K mg base N qual (jad st) f cdv A outer s H) (jal st) t ∧ t { nx := fun _ H' => Q .non H', rt := Q } (start N vs) H) : jmk P w K mg base (k + 1) f fd ps sp := by
 obtain ⟨oc, od, kV, doc, pm, an, cdv, ct, osl, rfl, lk, hcd⟩ := F.ex
 exact jpb lk hcd S len fun A outer s H vs Q E hr hsp => hbody cdv A outer s H vs Q E hr hsp
structure DfM (P : Program) (w : World) (K : PySem.W.Frag) (mg : Str → Option Value) (base : Heap) (x : Str) (k : Nat) (f : Addr) (fd : FuncData) (ps : List Str) (sp : Sp) : Prop where
 ok : jmk P w K mg base k f fd ps sp
 m : mg x = some (.ref f)
 kp : PySem.W.keepIn K (.ref f) = true
 b : Binds K fd ps []
end
theorem jmy {X : Cx} {x : Str} {k k' : Nat} {f : Addr} {fd : FuncData} {ps : List Str} {sp : Sp} {p pos : Pos} {e : Expr} {es : List Expr} {t : TA} (D : DfM X.prog X.w X.K X.mg X.base x k f fd ps sp) (hr : jf0 k' X.A) (hg : Gl X x) (ha : PA X (e :: es) t) (hk : k ≤ k')
   (hdb : (x == ("__debug__" : Str)) = false) (he : starEach (e :: es) X.env = (false, eval e X.env) :: starEach es X.env) (hpl : (backTo pos (starEach es X.env)).any (·.1) = false) :
   PE X (.Call (.Name x p) (e :: es) [] pos) (jkw sp [] E0 t) := by
 intro pins s σ H Q I h
 refine wpAny_Call_Name_kw (jfO I hg D.m ?_ hdb)
 refine PySem.W.callWith_K (h₀ := X.base) I.ok.mod.kin D.kp (thn (ha pos pins s σ H _ I h) fun us s1 ⟨vs, H1, I1, r, q⟩ => ⟨I1.kIn, ?_⟩) he hpl
 have q' : sp vs H1 Q E0 := by have z : sp (vs ++ []) H1 Q E0 := q; rw [List.append_nil] at z; exact z
 have hl : us.length = ps.length := by rw [← r.length]; exact D.ok.len _ _ _ _ q'
 refine wpAny_call (codeAny_mono (D.ok.run X.A X.stack s1 H1 ⟨us, []⟩ us vs Q E0 (hr.mono hk) I1.env0 (by have := D.b s1 us I1.kIn (by rw [List.append_nil]; exact hl); rw [List.append_nil] at this; exact this) r q') fun r s' hq => ?_)
 cases r with
 | error e => exact hq.elim
 | ok fl =>
   cases fl with
   | ret u => exact I1.after hq
   | next => exact False.elim hq
   | brk => exact False.elim hq
   | cont => exact False.elim hq
end L2
namespace L2
open PySem PySem.Spec PyProof.Rows PySem.W
def bmV : List Value := [.type "ValueError", .type "Exception", .type "BaseException", .type "object"]
def jqb (K : PySem.W.Frag) (cR c : Addr) : Bool := (clsIn K c).isSome && findIn K (.ref c) "__getattribute__" == some (some (.builtin "BaseException.__getattribute__")) && findIn K (.ref c) "__getattr__" == some none
 && findIn K (.ref c) "__class__" == some (some (.builtin "object.__class__")) && subIn K (.ref c) (.type "BaseException") == some true && subIn K (.ref c) (.type "object") == some true
 && subIn K (.ref c) (.ref cR) == some true && kitOne K (.ref c) (.type "ValueError") == some true && excIn K c bmV "ValueError.__new__"
def jqV (K : PySem.W.Frag) (cs : List Addr) (cR : Addr) : Bool := cs.all (jqb K cR) && excIn K cR bmV "ValueError.__new__" && (cs.zipIdx.all fun x => cs.zipIdx.all fun y => kitOne K (.ref x.1) (.ref y.1) == some (x.2 == y.2))
structure Xc (K : PySem.W.Frag) (mg : Str → Option Value) (c : Nat → Addr) : Prop where
 m0 : mg "NoDie" = some (.ref (c 0))
 m1 : mg "NoWord" = some (.ref (c 1))
 m2 : mg "NoRace" = some (.ref (c 2))
 m3 : mg "NoRow" = some (.ref (c 3))
 m4 : mg "Over" = some (.ref (c 4))
 m5 : mg "TooMany" = some (.ref (c 5))
 m6 : mg "NoNote" = some (.ref (c 6))
 m7 : mg "RaceError" = some (.ref (c 7))
 ex : ∀ j, j < 8 → excIn K (c j) bmV "ValueError.__new__" = true
 k : ∀ j, j < 7 → jmu K (c j)
 sb : ∀ j, j < 7 → subIn K (.ref (c j)) (.ref (c 7)) = some true
 iv : ∀ j, j < 7 → kitOne K (.ref (c j)) (.type "ValueError") = some true
 ix : ∀ i j, i < 7 → j < 7 → kitOne K (.ref (c i)) (.ref (c j)) = some (i == j)
theorem Xc.e {K : PySem.W.Frag} {mg : Str → Option Value} {c : Nat → Addr} (Y : Xc K mg c) (j : Nat) (hj : j < 8) {x : Str} (h : mg x = some (.ref (c j))) : Exc K mg x (c j) :=
 ⟨h, bmV, _, Y.ex j hj, _, _, PySem.F.excBase_ValueError⟩
theorem jqI {K : PySem.W.Frag} {mg : Str → Option Value} {a0 a1 a2 a3 a4 a5 a6 a7 : Addr} (h : jqV K [a0, a1, a2, a3, a4, a5, a6] a7 = true) (m0 : mg "NoDie" = some (.ref a0)) (m1 : mg "NoWord" = some (.ref a1)) (m2 : mg "NoRace" = some (.ref a2)) (m3 : mg "NoRow" = some (.ref a3))
   (m4 : mg "Over" = some (.ref a4)) (m5 : mg "TooMany" = some (.ref a5)) (m6 : mg "NoNote" = some (.ref a6)) (m7 : mg "RaceError" = some (.ref a7)) : ∃ c, Xc K mg c := by
 unfold jqV at h
 rw [Bool.and_eq_true, Bool.and_eq_true] at h
 obtain ⟨⟨h1, h2⟩, h3⟩ := h
 rw [List.all_eq_true] at h1 h3
 let l := [a0, a1, a2, a3, a4, a5, a6]
 have hl : ∀ j, j < 7 → [a0, a1, a2, a3, a4, a5, a6, a7].getD j 0 ∈ l := fun j hj => by
   match j, hj with
   | 0, _ => simp [l]
   | 1, _ => simp [l]
   | 2, _ => simp [l]
   | 3, _ => simp [l]
   | 4, _ => simp [l]
   | 5, _ => simp [l]
   | 6, _ => simp [l]
 have hz : ∀ j, j < 7 → ([a0, a1, a2, a3, a4, a5, a6, a7].getD j 0, j) ∈ l.zipIdx := fun j hj => by
   match j, hj with
   | 0, _ => simp [l]
   | 1, _ => simp [l]
   | 2, _ => simp [l]
   | 3, _ => simp [l]
   | 4, _ => simp [l]
   | 5, _ => simp [l]
   | 6, _ => simp [l]
 have h1' : ∀ j, j < 7 → jqb K a7 ([a0, a1, a2, a3, a4, a5, a6, a7].getD j 0) = true := fun j hj => h1 _ (hl j hj)
 refine ⟨fun j => [a0, a1, a2, a3, a4, a5, a6, a7].getD j 0, m0, m1, m2, m3, m4, m5, m6, m7, fun j hj => ?_, fun j hj => ?_, fun j hj => ?_, fun j hj => ?_, fun i j hi hj => ?_⟩
 · by_cases h7 : j < 7
   · have z := h1' j h7
     unfold jqb at z
     rw [Bool.and_eq_true] at z
     exact z.2
   · obtain rfl : j = 7 := by omega
     exact h2
 all_goals first
   | (have z := h1' j hj
      unfold jqb at z
      simp only [Bool.and_eq_true, beq_iff_eq] at z
      obtain ⟨⟨⟨⟨⟨⟨⟨⟨z1, z2⟩, z3⟩, z4⟩, z5⟩, z6⟩, z7⟩, z8⟩, z9⟩ := z
      first | exact ⟨z1, z2, z3, z4, z5, z6⟩ | exact z7 | exact z8)
   | skip
 have z := h3 _ (hz i hi)
 rw [List.all_eq_true] at z
 exact beq_iff_eq.mp (z _ (hz j hj))
def jmz (j : Nat) : List Nat := [[100, 105, 101], [119, 111, 114, 100], [114, 97, 99, 101], [114, 111, 119], [111, 118, 101, 114], [109, 97, 110, 121], [110, 111, 116, 101]].getD j []
theorem jfT : bootBuiltins "ValueError" = some (.type "ValueError") := by decide +kernel
section
variable {P : Program} {w : World} {K : PySem.W.Frag} {mg : Str → Option Value} {base : Heap} {CX : CXT}
theorem Fun.okG {x qual : Str} {st : Stmt} {f : Addr} {fd : FuncData} {N ps : List Str} {k : Nat} {sp : Sp} (F : Fun K x qual st f fd) (S : jan N ps (jad st)) (len : ∀ vs H Q E, sp vs H Q E → vs.length = ps.length)
   (hbody : ∀ (cdv : Value) (A : Around) (outer : List Env) (s : Shared) (H : Hp) (vs : List V) (Q : VK) (E : XK), je5 k (A.deeper (envOfC qual (jad st) s.heap.objs.size f cdv)) → sp vs H Q E →
     ∃ t, PSs (jbu CX P w K mg base N qual (jad st) f cdv A outer s H E) (jal st) t ∧ t { nx := fun _ H' => Q .non H', rt := Q } (start N vs) H) : jbf P w K mg base CX (k + 1) f fd ps sp := by
 obtain ⟨oc, od, kV, doc, pm, an, cdv, ct, osl, rfl, lk, hcd⟩ := F.ex
 exact jpd lk hcd S len fun A outer s H vs Q E hr hsp => hbody cdv A outer s H vs Q E hr hsp
end
theorem jqK {i : Nat} {Sub : Addr → Prop} {ts : TS} {tb : XK → TS} {D : Ends} {σ : St} {H : Hp}
   (h : tb (fun cls a H' => ∃ ea C, a = some ea ∧ cls = .ref C ∧ Sub C ∧ ∀ σ', σ'[i]? = some (some (.ref ea)) → ts { nx := fun _ _ => False, rt := D.rt } σ' (upd H' ea (EO ea C))) D σ H) : jri i Sub ts tb D σ H := h
section
variable {X : Cx} {H : Hp} {Q : VK} {K : PySem.W.Frag} {mg : Str → Option Value} {c : Nat → Addr}
theorem jja {ea : Addr} {i j : Nat} (Y : Xc K mg c) (h : H ea = some (EO ea (c i))) (hi : i < 7) (hj : j < 7) (k : Q (.bl (i == j)) H) : jqM K [.ref ea, .ref (c j)] H Q := ⟨ea, _, c i, _, rfl, h, Y.k i hi, Y.ix i j hi hj, k⟩
theorem jqv {ea : Addr} {i : Nat} (Y : Xc K mg c) (h : H ea = some (EO ea (c i))) (hi : i < 7) (k : Q (.bl true) H) : jqM K [.ref ea, .ty "ValueError"] H Q := ⟨ea, _, c i, _, rfl, h, Y.k i hi, Y.iv i hi, k⟩
end
end L2
namespace My
open PySem L2 PySem.Spec PyProof.Rows Wr
end My
namespace My
open PySem L2 PySem.Spec PyProof.Rows Wr
def _root_.PySem.W.Fast.tw18260568090434974889 : Unit := ()
def _root_.PySem.W.Fast.tw12628069373727370174 : Unit := ()
def _root_.PySem.W.Fast.tw12641663440264640474 : Unit := ()
def _root_.PySem.W.Fast.tw5761958538556194994 : Unit := ()
def _root_.PySem.W.Fast.tw1342839097265433155 : Unit := ()
def _root_.PySem.W.Fast.tw3959851616461191335 : Unit := ()
def _root_.PySem.W.Fast.tw16848137658684892499 : Unit := ()
def _root_.PySem.W.Fast.tw7233489099535537140 : Unit := ()
def _root_.PySem.W.Fast.tw2380705788191395496 : Unit := ()
def _root_.PySem.W.Fast.tw17755551755415073874 : Unit := ()
def _root_.PySem.W.Fast.tw7525577451370064412 : Unit := ()
def _root_.PySem.W.Fast.tw2719835351167732799 : Unit := ()
def _root_.PySem.W.Fast.tw14394151312069443628 : Unit := ()
def _root_.PySem.W.Fast.tw1200534782730253728 : Unit := ()
def _root_.PySem.W.Fast.tw3687945522284380656 : Unit := ()
def _root_.PySem.W.Fast.tw15746718949472085378 : Unit := ()
def _root_.PySem.W.Fast.tw10273391182111168165 : Unit := ()
def _root_.PySem.W.Fast.tw3999059095597823542 : Unit := ()
def top (i : Nat) : Stmt := PySem.Challenge.pw_wordrace_k14_no_die.main.body.getD i (.Pass ⟨0, 0, 0, 0⟩)
abbrev jcl : Stmt := top 18
abbrev jbD : Stmt := top 19
abbrev jbF : Stmt := top 20
abbrev jbM : Stmt := top 21
abbrev jat : Stmt := top 22
abbrev ja8 : Stmt := top 23
abbrev jb0 : Stmt := top 24
abbrev jaR : Stmt := top 25
abbrev jaJ : Stmt := top 26
abbrev jbL : Stmt := top 28
abbrev jbl : Stmt := top 29
abbrev jbY : Stmt := top 30
abbrev jdX : Stmt := top 31
abbrev jbQ : Stmt := top 33
abbrev jaW : Stmt := top 34
abbrev ja5 : Stmt := top 35
abbrev jbh : Stmt := top 36
abbrev ja7 : Stmt := top 37
abbrev jdu : Stmt := top 39
abbrev ja1 : Stmt := top 42
abbrev jcq : Stmt := top 43
abbrev jet : Stmt := top 44
abbrev jbI : Stmt := top 45
abbrev jbJ : Stmt := top 46
abbrev jel : Stmt := top 47
abbrev jaV : Stmt := top 48
abbrev jcv : Stmt := top 49
abbrev ja9 : Stmt := top 50
abbrev jbP : Stmt := top 51
abbrev jcj : Stmt := top 52
abbrev jaQ : Stmt := top 53
abbrev jcC : Stmt := top 54
abbrev jfc : Stmt := top 55
abbrev jfB : Stmt := top 56
abbrev jaN : Stmt := top 57
abbrev jbC : Stmt := top 58
abbrev jcG : Stmt := top 59
abbrev jbr : Stmt := top 61
abbrev jcn : Stmt := top 62
abbrev jb8 : Stmt := top 63
abbrev jcp : Stmt := top 64
abbrev jbp : Stmt := top 65
abbrev jbG : Stmt := top 66
abbrev jbn : Stmt := top 67
abbrev jb3 : Stmt := top 68
abbrev jhu : Stmt := top 69
structure Bl (mg : Str → Option Value) : Prop where
 len : mg "len" = none
 min : mg "min" = none
 max : mg "max" = none
 all : mg "all" = none
 any : mg "any" = none
 isinstance : mg "isinstance" = none
 sum : mg "sum" = none
 abs : mg "abs" = none
 list : mg "list" = none
 sorted : mg "sorted" = none
 str : mg "str" = none
 range : mg "range" = none
 enumerate : mg "enumerate" = none
 set : mg "set" = none
 zip : mg "zip" = none
 ValueError : mg "ValueError" = none
structure Cs (P : Program) (mg : Str → Option Value) : Prop where
 tree : P.given.tree = none
 SIGNS : ∃ t_SIGNS, mg "SIGNS" = some (.str (S [97, 98, 99, 100]) t_SIGNS)
 LEAST_WEIGHTS : ∃ t_LEAST_WEIGHTS, mg "LEAST_WEIGHTS" = some (.int 2 t_LEAST_WEIGHTS)
 MOST_WEIGHTS : ∃ t_MOST_WEIGHTS, mg "MOST_WEIGHTS" = some (.int 4 t_MOST_WEIGHTS)
 LEAST_WEIGHT : ∃ t_LEAST_WEIGHT, mg "LEAST_WEIGHT" = some (.int 1 t_LEAST_WEIGHT)
 MOST_WEIGHT : ∃ t_MOST_WEIGHT, mg "MOST_WEIGHT" = some (.int 9 t_MOST_WEIGHT)
 MOST_SIGNS : ∃ t_MOST_SIGNS, mg "MOST_SIGNS" = some (.int 6 t_MOST_SIGNS)
 MOST_WORDS : ∃ t_MOST_WORDS, mg "MOST_WORDS" = some (.int 4 t_MOST_WORDS)
 MOST_THROWS : ∃ t_MOST_THROWS, mg "MOST_THROWS" = some (.int 60 t_MOST_THROWS)
 MOST_ANSWERS : ∃ t_MOST_ANSWERS, mg "MOST_ANSWERS" = some (.int 32 t_MOST_ANSWERS)
local macro_rules | `(tactic| walk_at "go0") => `(tactic| first
 | with_reducible refine jqU ?_ | with_reducible refine jqo ?_ | with_reducible refine jns ?_ | with_reducible refine jnf ?_ | with_reducible refine jpj ?_ | with_reducible refine jne ?_
 | with_reducible refine g_par ?_ | with_reducible refine jqZ ?_ | with_reducible refine jmx ?_ | with_reducible refine g_retN ?_ | with_reducible refine jpJ ?_
 | with_reducible refine jrt ?_ | with_reducible refine g_c ?_ | ((with_reducible refine jjV ?_); refine ⟨_, rfl, ?_⟩) | with_reducible refine jo2 ?_ | ((with_reducible refine jq9 ?c ?_); (case c => first | exact ⟨by decide, by decide⟩ | exact (show (0 : Int) < _ by first | decide | omega) | exact Or.inl ⟨by decide, by decide⟩ | exact Or.inr ⟨by decide, by decide⟩ | exact Or.inl ⟨by omega, by omega⟩ | exact Or.inr ⟨by omega, by omega⟩))
 | with_reducible refine jnx ?_ | with_reducible refine jrg ?_ | with_reducible refine jrk ?_ | with_reducible refine jnw ?_ | with_reducible refine jpZ ?_
 | with_reducible refine jrd ?_ | with_reducible refine jjK ?_ | with_reducible refine jno ?_ | with_reducible refine jpH ?_ | with_reducible refine jre ?_ | with_reducible refine jpI ?_
 | with_reducible refine g_andV ?_ | with_reducible refine g_orV ?_ | with_reducible refine g_notV ?_ | with_reducible refine jpO ?_ | with_reducible refine jrr ?_ | with_reducible refine joU ?_ | with_reducible refine jpz ?_
 | with_reducible refine jnM ?_ | with_reducible refine jnK ?_ | with_reducible refine jlF ?_ | with_reducible refine jlt ?_ | with_reducible refine jnq ?_ | with_reducible refine jnv ?_ | with_reducible refine g_yes ?_ | with_reducible refine jpF ?_
 | with_reducible refine jlS ?_ | with_reducible refine g_dget ?_ | with_reducible refine jng ?_ | with_reducible refine jnN ?_ | with_reducible refine jkO ?_ | with_reducible refine jj7 ?_ | with_reducible refine jlH ?_ | with_reducible refine jlE ?_
 | with_reducible refine jp6 ?_ | with_reducible refine jpE ?_ | with_reducible refine jpP ?_ | with_reducible refine jpe ?_ | with_reducible refine jps ?_ | with_reducible refine jq2 ?_ | with_reducible refine g_sw ?_ | with_reducible refine jpi ?_ | with_reducible refine jhl (by assumption) ?_ | with_reducible refine jhl (SqL.of (by assumption)) ?_ | with_reducible refine ⟨_, rfl, ?_⟩ | with_reducible refine And.intro rfl ?_ | ((with_reducible refine And.intro (a := _ ≤ sizeLine) ?hz ?_); (case hz => first | decide | exact small (by omega) | exact small (by simp))))
local macro_rules | `(tactic| walk_at "go1") => `(tactic| first | walk_at "go0" | with_reducible refine jru ?_)
local macro_rules | `(tactic| walk_at "go") => `(tactic| repeat walk_at "go1")
local macro_rules | `(tactic| walk_at "goJ") => `(tactic| repeat walk_at "go0")
local macro_rules | `(tactic| walk_at "goL0") => `(tactic| first
 | ((with_reducible refine jp4 ?_); intro _q) | ((with_reducible refine jpQ ?_); intro _q) | with_reducible refine jns ?_ | with_reducible refine jnf ?_ | with_reducible refine jpj ?_ | with_reducible refine jne ?_
 | with_reducible refine g_par ?_ | with_reducible refine jqZ ?_ | with_reducible refine jmx ?_ | with_reducible refine g_retN ?_ | with_reducible refine jpJ ?_
 | ((with_reducible refine jqn ?_); intro _q) | with_reducible refine g_c ?_ | ((with_reducible refine jjV ?_); refine ⟨_, rfl, ?_⟩) | with_reducible refine jo2 ?_ | ((with_reducible refine jq9 ?c ?_); (case c => first | exact ⟨by decide, by decide⟩ | exact (show (0 : Int) < _ by first | decide | omega) | exact Or.inl ⟨by decide, by decide⟩ | exact Or.inr ⟨by decide, by decide⟩ | exact Or.inl ⟨by omega, by omega⟩ | exact Or.inr ⟨by omega, by omega⟩))
 | with_reducible refine jnx ?_ | with_reducible refine jrg ?_ | ((with_reducible refine jqt ?_); intro _q) | with_reducible refine jnw ?_ | with_reducible refine jpZ ?_
 | with_reducible refine jrd ?_ | with_reducible refine jjK ?_ | with_reducible refine jno ?_ | with_reducible refine jpH ?_ | with_reducible refine jre ?_ | with_reducible refine jpI ?_
 | with_reducible refine g_andV ?_ | with_reducible refine g_orV ?_ | with_reducible refine g_notV ?_ | ((with_reducible refine jok ?_); intro _q) | ((with_reducible refine jqm ?_); intro _q) | with_reducible refine joU ?_ | with_reducible refine jpz ?_
 | with_reducible refine jnM ?_ | with_reducible refine jnK ?_ | with_reducible refine jlF ?_ | with_reducible refine jlt ?_ | with_reducible refine jnq ?_ | with_reducible refine jnv ?_ | with_reducible refine g_yes ?_ | with_reducible refine jpF ?_
 | with_reducible refine jlS ?_ | with_reducible refine g_dget ?_ | with_reducible refine jng ?_ | with_reducible refine jnN ?_ | with_reducible refine jkO ?_ | with_reducible refine jj7 ?_ | with_reducible refine jlH ?_ | with_reducible refine jlE ?_
 | with_reducible refine jp6 ?_ | with_reducible refine jpE ?_ | with_reducible refine jpP ?_ | with_reducible refine jpe ?_ | with_reducible refine jps ?_ | with_reducible refine jq2 ?_ | with_reducible refine g_sw ?_ | with_reducible refine jpi ?_ | with_reducible refine jhl (by assumption) ?_ | with_reducible refine jhl (SqL.of (by assumption)) ?_ | with_reducible refine ⟨_, rfl, ?_⟩ | with_reducible refine And.intro rfl ?_ | ((with_reducible refine And.intro (a := _ ≤ sizeLine) ?hz ?_); (case hz => first | decide | exact small (by omega) | exact small (by simp))))
local macro_rules | `(tactic| walk_at "goL1") => `(tactic| first | walk_at "goL0" | ((with_reducible refine jqD ?_); intro _q))
local macro_rules | `(tactic| walk_at "goL") => `(tactic| repeat walk_at "goL1")
local macro_rules | `(tactic| walk_at "goLJ") => `(tactic| repeat walk_at "goL0")
section
variable {P : Program} {w : World} {K : PySem.W.Frag} {mg : Str → Option Value} {base : Heap} {c : Nat → Addr}
def jdP (_ : PySem.W.Frag) : Sp := fun vs H Q _ => ∃ i, vs = [.int i] ∧ ∀ v : Int, 0 ≤ v → v < 2147483629 → Q (.int v) H
theorem jfQ : jan ["seed"] ["seed"] (jad jcn) := ⟨rfl, rfl, rfl, by decide +kernel, rfl, by decide +kernel, by decide +kernel⟩
theorem jjd {f : Addr} {fd : FuncData} (F : Fun K "_law_next" "_law_next" jcn f fd) (M : Bl mg) (T : Cs P mg)  : jbf P w K mg base CX0 37 f fd ["seed"] (jdP K) := by
 refine F.ok jfQ (fun vs H Q E h => ?_) (fun cdv A outer s H vs Q E hr h => ?_)
 · obtain ⟨i, rfl, _⟩ := h; rfl
 · obtain ⟨i, rfl, k⟩ := h
   have b1 := Int.emod_nonneg (i + 7919) (show (2147483647 : Int) ≠ 0 by decide)
   have b2 := Int.emod_lt_of_pos (i + 7919) (show (0 : Int) < 2147483647 by decide)
   refine ⟨_, (jac (jar (i := 0) jfQ.nd rfl (Or.inl rfl) (jax jcw (jax jcE (pv 0) jag) jag) rfl (Or.inl rfl))
 (jaf (jam (jax jcw (jax jcE (jax jcE (jax jgI (pv 0) (pv 0)) (jax jgI jag (pv 0))) jag) jag)))), ?_⟩
   walk_at "goL"
   exact k _ (Int.emod_nonneg _ (by decide)) (Int.emod_lt_of_pos _ (by decide))
def jen (_ : PySem.W.Frag) : Sp := fun vs H Q _ => ∃ c : Int, vs = [.int c] ∧ ∀ a ns H', jav ns → H a = none → jap H H' → H' a = some (.lst (ns.map V.int)) → Q (.ref a) H'
theorem jgU : jan ["cell", "many"] ["cell"] (jad jb8) := ⟨rfl, rfl, rfl, by decide +kernel, rfl, by decide +kernel, by decide +kernel⟩
theorem jkk {f : Addr} {fd : FuncData} (F : Fun K "_law_die" "_law_die" jb8 f fd) (M : Bl mg) (T : Cs P mg) {f_law_next : Addr} {fd_law_next : FuncData} (D_law_next : Df P w K mg base "_law_next" 37 f_law_next fd_law_next ["seed"] (jdP K)) : jbf P w K mg base CX0 38 f fd ["cell"] (jen K) := by
 refine F.ok jgU (fun vs H Q E h => ?_) (fun cdv A outer s H vs Q E hr h => ?_)
 · obtain ⟨c, rfl, _⟩ := h; rfl
 · obtain ⟨c, rfl, k⟩ := h
   have b1 := Int.emod_nonneg c (show (3 : Int) ≠ 0 by decide)
   have b2 := Int.emod_lt_of_pos c (show (0 : Int) < 3 by decide)
   have fin : ∀ {D : Addr} {H' : Hp} {ys : List V}, H D = none → jap H H' → H' D = some (.lst ys) → jeR (fun (_ : Nat) y => ∃ n : Int, y = V.int n ∧ 1 ≤ n ∧ n ≤ 9) (List.range (2 + c % 3).toNat) ys → Q (.ref D) H' := fun {D H' ys} hD t1 hy ha => by
     obtain ⟨ns, rfl, hl, hp⟩ := jlf ha
     rw [List.length_range] at hl
     exact k D ns H' ⟨by omega, by omega, hp⟩ hD t1 hy
   refine ⟨_, (jac (jar (i := 1) jgU.nd rfl (Or.inl rfl) (jax jcE jag (jax jcw (pv 0) jag)) rfl (Or.inl rfl))
 (jac (jaT (jak jca (jax jcw (jax jdy (pv 0) jag) jag) jag (jas _))
 (jaf (jam (jaY (jad jb8) ["cell", "many"] ["k"] [none] ⟨rfl, by decide +kernel, by decide +kernel, by decide +kernel, by decide +kernel, rfl, by decide +kernel⟩ (jcr (by rfl) M.range (jaa (pv 1) jab rfl) rfl) (fun s3 H3 C fp => ⟨pgb (i := 0) (by decide +kernel) rfl rfl, jbH, jag⟩) rfl rfl rfl (fun _ => rfl))))
 jaq)
 (jaf (jam (jaY (jad jb8) ["cell", "many"] ["k", "cell"] [none, some 0] ⟨rfl, by decide +kernel, by decide +kernel, by decide +kernel, by decide +kernel, rfl, by decide +kernel⟩ (jcr (by rfl) M.range (jaa (pv 1) jab rfl) rfl) (fun s3 H3 C fp => ⟨pgb (i := 0) (by decide +kernel) rfl rfl, jbH, (jax jcE jag (jax jcw (jax jdy (jae D_law_next hr (glb rfl) (jaa (jax jcE (jax jdy (pvb 1) jag) (jax jgI jag (pvb 0))) jab rfl) (by decide) (by decide) rfl rfl) jag) jag))⟩) rfl rfl rfl (fun _ => rfl)))))), ?_⟩
   walk_at "goL"
   refine jbR (fun _ => ?_) (fun _ => ?_)
   · walk_at "goL"
     refine ⟨by omega, by omega, ?_⟩
     intro D hD
     refine jcQ (fun _ y _ => ∃ n : Int, y = V.int n ∧ 1 ≤ n ∧ n ≤ 9) (jcZ 0 _ _) hD (by rw [List.length_range]; exact small (by omega)) (fun _ _ _ _ _ h => h) (fun j hj H' R t1 _ k1 => ?_) (fun H' ys t1 hy ha => fin hD t1 hy ha)
     walk_at "goL"
     exact k1 _ _ (jap.refl _) ⟨1, rfl, by decide, by decide⟩
   · walk_at "goL"
     refine ⟨by omega, by omega, ?_⟩
     intro D hD
     refine jcQ (fun _ y _ => ∃ n : Int, y = V.int n ∧ 1 ≤ n ∧ n ≤ 9) (jcZ 0 _ _) hD (by rw [List.length_range]; exact small (by omega)) (fun _ _ _ _ _ h => h) (fun j hj H' R t1 _ k1 => ?_) (fun H' ys t1 hy ha => fin hD t1 hy ha)
     walk_at "goL"
     refine ⟨_, rfl, fun v v0 v1 => ?_⟩
     walk_at "goL"
     have c1 := Int.emod_nonneg (v / 7) (show (9 : Int) ≠ 0 by decide)
     have c2 := Int.emod_lt_of_pos (v / 7) (show (0 : Int) < 9 by decide)
     exact k1 _ _ (jap.refl _) ⟨_, rfl, by omega, by omega⟩
def jcK (K : PySem.W.Frag) : Sp := fun vs H Q _ => ∃ a, ∃ ns : List Int, ∃ c : Int, vs = [.ref a, .int c] ∧ H a = some (.lst (ns.map V.int)) ∧ jav ns ∧ ∀ r ms H', jap H H' → H' r = some (.lst (ms.map V.int)) → ¬ jav ms → Q (.ref r) H'
theorem jmI (ms : List Int) (j : Nat) : jmh (ms.map V.int) none (some (j : Int)) = (ms.take j).map V.int := (jc7 (ms.map V.int) j).trans (List.map_take ..).symm
theorem jkN (v : Int) : ∃ x : Int, atI [V.int 0, .int 10, .int (-1), .int ((10 : Int) ^ (9 : Int).toNat)] (v % 4) = some (.int x) ∧ (x < 1 ∨ 9 < x) := by
 obtain ⟨j, ej⟩ := Int.eq_ofNat_of_zero_le (Int.emod_nonneg v (show (4 : Int) ≠ 0 by decide))
 have hj : j < 4 := by have := Int.emod_lt_of_pos v (show (0 : Int) < 4 by decide); omega
 rw [ej]
 match j, hj with
 | 0, _ => exact ⟨_, rfl, by decide⟩
 | 1, _ => exact ⟨_, rfl, by decide⟩
 | 2, _ => exact ⟨_, rfl, by decide⟩
 | 3, _ => exact ⟨_, rfl, by decide⟩
theorem jdH : jan ["die", "cell", "at"] ["die", "cell"] (jad jbp) := ⟨rfl, rfl, rfl, by decide +kernel, rfl, by decide +kernel, by decide +kernel⟩
theorem jgv {f : Addr} {fd : FuncData} (F : Fun K "_law_bad_die" "_law_bad_die" jbp f fd) (M : Bl mg) (T : Cs P mg)  : jbf P w K mg base CX0 37 f fd ["die", "cell"] (jcK K) := by
 refine F.ok jdH (fun vs H Q E h => ?_) (fun cdv A outer s H vs Q E hr h => ?_)
 · obtain ⟨a, ns, c, rfl, _⟩ := h; rfl
 · obtain ⟨a, ns, c, rfl, hS, hd, k⟩ := h
   have q1 := hd.lo
   have q2 := hd.hi
   have hl : (ns.map V.int).length = ns.length := List.length_map ..
   refine ⟨_, (jac (jaT (jak jca (jax jcw (pv 1) jag) jag (jas _))
 (jaf (jam (jmj (jak jca (jax jcw (jax jdy (pv 1) jag) jag) jag (jas _)) (jaU jab) (jbd (jda K rfl) (pv 0) jbT (jbV jag)))))
 jaq)
 (jac (jaT (jak jca (jax jcw (pv 1) jag) jag (jas _))
 (jaf (jam (jbd (jda K rfl) (jax jfd (pv 0) (jaU (jaa jag (jaa jag (jaa jag (jaa jag jab rfl) rfl) rfl) rfl))) jbT (jbV (jax jcE jag (jax jcw (jax jdy (pv 1) jag) jag))))))
 jaq)
 (jac (jar (i := 2) jdH.nd rfl (Or.inl rfl) (jax jcw (jax jdy (pv 1) jag) (jaj (ja4 K rfl) (by rfl) M.len PySem.boot_len (jaa (pv 0) jab rfl) (by decide) (by decide) rfl rfl)) rfl (Or.inl rfl))
 (jaf (jam (jax jfd (jax jfd (jbd (jda K rfl) (pv 0) jbT (jbV (pv 2))) (jaU (jaa (jbg (jaZ K rfl) (jaU (jaa jag (jaa jag (jaa (jkR jiL jag) (jaa (jax jo4 jag jag) jab rfl) rfl) rfl) rfl)) (jax jcw (jax jdy (pv 1) jag) jag) (fun _ _ => rfl)) jab rfl))) (jbd (jda K rfl) (pv 0) (jbV (jax jcE (pv 2) jag)) jbT))))))), ?_⟩
   walk_at "go"
   refine jbR (fun _ => ?_) (fun _ => ?_)
   · walk_at "go"
     unfold tIf
     walk_at "go"
     refine jbR (fun _ => ?_) (fun _ => ?_)
     · walk_at "go"
       intro p hp
       exact k p [] _ (jai (jap.refl _) hp) jah fun z => by have := z.lo; simp at this
     · walk_at "go"
       refine ⟨a, _, rfl, SqL.of hS, fun p hp => ?_⟩
       rw [show jmh (ns.map V.int) none (some 1) = (ns.take 1).map V.int from (jc7 (ns.map V.int) 1).trans (List.map_take ..).symm]
       exact k p _ _ (jai (jap.refl _) hp) jah fun z => by have := z.lo; rw [List.length_take] at this; omega
   walk_at "go"
   refine jbR (fun _ => ?_) (fun _ => ?_)
   · walk_at "go"
     intro p hp
     have u1 := jai (o := .lst ([1, 2, 3, 4].map V.int)) (jap.refl H) hp
     refine ⟨a, p, _, _, rfl, rfl, u1 _ _ hS, jah, by rw [hl]; show _ + 4 ≤ _; exact small (by omega), fun p2 hp2 => ?_⟩
     rw [show ns.map V.int ++ [V.int 1, .int 2, .int 3, .int 4] = (ns ++ [1, 2, 3, 4]).map V.int by rw [List.map_append]; rfl]
     have u2 := jai (o := .lst ((ns ++ [1, 2, 3, 4]).map V.int)) (jap.refl (upd H p (.lst ([1, 2, 3, 4].map V.int)))) hp2
     walk_at "go"
     have b1 := Int.emod_nonneg (c / 6) (show (2 : Int) ≠ 0 by decide)
     obtain ⟨m, em⟩ := Int.eq_ofNat_of_zero_le b1
     refine ⟨p2, _, rfl, SqL.of jah, fun p3 hp3 => ?_⟩
     rw [show c / 6 % 2 = (m : Int) from em, show (5 : Int) + (m : Int) = ((5 + m : Nat) : Int) by omega]
     rw [jmI]
     exact k p3 _ _ (jai (u1.trans u2) ((u1.trans u2).free hp3)) jah fun z => by
       have := z.hi
       rw [List.length_take, List.length_append] at this
       have e4 : [1, 2, 3, 4].length = 4 := rfl
       omega
   walk_at "go"
   refine ⟨_, _, rfl, .inl (SqL.of hS), ?_⟩
   rw [hl]
   walk_at "go"
   obtain ⟨i, ei⟩ := Int.eq_ofNat_of_zero_le (Int.emod_nonneg (c / 6) (show (ns.length : Int) ≠ 0 by omega))
   have hi : i < ns.length := by have := Int.emod_lt_of_pos (c / 6) (show (0 : Int) < ns.length by omega); omega
   rw [show c / 6 % (ns.length : Int) = (i : Int) from ei]
   walk_at "go"
   refine ⟨a, _, rfl, SqL.of hS, fun p1 n1 => ?_⟩
   rw [show jmh (ns.map V.int) none (some (i : Int)) = (ns.take i).map V.int from (jc7 (ns.map V.int) i).trans (List.map_take ..).symm]
   have u1 := jai (o := .lst ((ns.take i).map V.int)) (jap.refl H) n1
   have e1 : upd H p1 (.lst ((ns.take i).map V.int)) p1 = some (.lst ((ns.take i).map V.int)) := jah
   generalize upd H p1 (.lst ((ns.take i).map V.int)) = H1 at u1 e1 ⊢
   walk_at "go"
   intro p2 n2
   have u2 := jai (o := .lst [V.int 0, .int 10, .int (-1), .int ((10 : Int) ^ (9 : Int).toNat)]) (jap.refl H1) n2
   have e2 : upd H1 p2 (.lst [V.int 0, .int 10, .int (-1), .int ((10 : Int) ^ (9 : Int).toNat)]) p2 = some (.lst [V.int 0, .int 10, .int (-1), .int ((10 : Int) ^ (9 : Int).toNat)]) := jah
   generalize upd H1 p2 (.lst [V.int 0, .int 10, .int (-1), .int ((10 : Int) ^ (9 : Int).toNat)]) = H2 at u2 e2 ⊢
   walk_at "go"
   obtain ⟨x, ex, hx⟩ := jkN (c / 24)
   refine jdE (SqL.of e2) ex ?_
   walk_at "go"
   intro p3 n3
   have u3 := jai (o := .lst [V.int x]) (jap.refl H2) n3
   refine ⟨p1, p3, _, _, rfl, rfl, u3 _ _ (u2 _ _ e1), jah, by rw [List.length_map, List.length_take]; show _ + 1 ≤ _; exact small (by omega), fun p4 n4 => ?_⟩
   rw [show (ns.take i).map V.int ++ [V.int x] = (ns.take i ++ [x]).map V.int by rw [List.map_append]; rfl]
   have u4 := jai (o := .lst ((ns.take i ++ [x]).map V.int)) (jap.refl (upd H2 p3 (.lst [V.int x]))) n4
   have e4 : upd (upd H2 p3 (.lst [V.int x])) p4 (.lst ((ns.take i ++ [x]).map V.int)) p4 = some (.lst ((ns.take i ++ [x]).map V.int)) := jah
   have w4 : jap H (upd (upd H2 p3 (.lst [V.int x])) p4 (.lst ((ns.take i ++ [x]).map V.int))) := ((u1.trans u2).trans u3).trans u4
   generalize upd (upd H2 p3 (.lst [V.int x])) p4 (.lst ((ns.take i ++ [x]).map V.int)) = H4 at u4 e4 w4 ⊢
   walk_at "go"
   refine ⟨a, _, rfl, w4.seq (SqL.of hS), fun p5 n5 => ?_⟩
   rw [show jmh (ns.map V.int) (some ((i : Int) + 1)) none = (ns.drop (i + 1)).map V.int from (by rw [show (i : Int) + 1 = ((i + 1 : Nat) : Int) by omega]; exact (jfL (ns.map V.int) (i + 1)).trans (List.map_drop ..).symm)]
   have u5 := jai (o := .lst ((ns.drop (i + 1)).map V.int)) (jap.refl H4) n5
   refine ⟨p4, p5, _, _, rfl, rfl, u5 _ _ e4, jah, by rw [List.length_map, List.length_map, List.length_append, List.length_take, List.length_drop]; show _ + 1 + _ ≤ _; exact small (by omega), fun p6 n6 => ?_⟩
   rw [← List.map_append]
   exact k p6 _ _ (jai (w4.trans u5) ((w4.trans u5).free n6)) jah fun z => by
     have := z.w x (by simp)
     omega
def jcI (K : PySem.W.Frag) : Sp := fun vs H Q _ => ∃ a, ∃ ns : List Int, ∃ k : Nat, vs = [.ref a, .int k] ∧ SqL K H a (ns.map V.int) ∧ ∀ v, Q (.int v) H
theorem jgn : jan ["script", "k"] ["script", "k"] (jad jbr) := ⟨rfl, rfl, rfl, by decide +kernel, rfl, by decide +kernel, by decide +kernel⟩
theorem jgo {f : Addr} {fd : FuncData} (F : Fun K "_law_cell_at" "_law_cell_at" jbr f fd) (M : Bl mg) (T : Cs P mg)  : jbf P w K mg base CX0 37 f fd ["script", "k"] (jcI K) := by
 refine F.ok jgn (fun vs H Q E h => ?_) (fun cdv A outer s H vs Q E hr h => ?_)
 · obtain ⟨a, ns, k, rfl, _⟩ := h; rfl
 · obtain ⟨a, ns, k, rfl, hS, q⟩ := h
   have hl : (ns.map V.int).length = ns.length := List.length_map ..
   refine ⟨_, (jac (jaT (jak jft (pv 1) (jaj (ja4 K rfl) (by rfl) M.len PySem.boot_len (jaa (pv 0) jab rfl) (by decide) (by decide) rfl rfl) (jas _))
 (jaf (jam (jbg (jaZ K rfl) (pv 0) (pv 1) (fun _ _ => rfl))))
 jaq)
 (jaf (jam jag))), ?_⟩
   walk_at "goL"
   refine ⟨_, _, rfl, .inl hS, ?_⟩
   walk_at "goL"
   refine jbR (fun hk => ?_) (fun hk => ?_)
   · walk_at "goL"
     have hk' : k < ns.length := by omega
     exact jdE hS (jfk (v := V.int ns[k]) (by rw [List.getElem?_map, List.getElem?_eq_getElem hk']; rfl)) (q _)
   · walk_at "goL"
     exact q _
def jbj (K : PySem.W.Frag) : Sp := fun vs H Q _ => ∃ a ns, vs = [.ref a] ∧ SqL K H a (ns.map V.int) ∧ jav ns ∧ Q .non H
theorem jeK : jan ["die"] ["die"] (jad jbF) := ⟨rfl, rfl, rfl, by decide +kernel, rfl, by decide +kernel, by decide +kernel⟩
theorem jib {f : Addr} {fd : FuncData} (F : Fun K "check_die" "check_die" jbF f fd) (M : Bl mg) (T : Cs P mg)  : jbf P w K mg base CX0 37 f fd ["die"] (jbj K) := by
 refine F.ok jeK (fun vs H Q E h => ?_) (fun cdv A outer s H vs Q E hr h => ?_)
 · obtain ⟨a, ns, rfl, _⟩ := h; rfl
 · obtain ⟨a, ns, rfl, hS, hd, k⟩ := h
   have hl : (ns.map V.int).length = ns.length := List.length_map ..
   have h1 := hd.lo
   have h2 := hd.hi
   have hne : ns ≠ [] := by intro z; subst z; simp at h1
   refine ⟨_, (jac (jaT (PW.pt (jfb (jak jft (jaj (ja4 K rfl) (by rfl) M.len PySem.boot_len (jaa (pv 0) jab rfl) (by decide) (by decide) rfl rfl) (jdY (by rfl) T.LEAST_WEIGHTS (by decide)) (jas _)) (jds (jak jfZ (jaj (ja4 K rfl) (by rfl) M.len PySem.boot_len (jaa (pv 0) jab rfl) (by decide) (by decide) rfl rfl) (jdY (by rfl) T.MOST_WEIGHTS (by decide)) (jas _)))))
 (jaf jbt)
 jaq)
 (jaf (jaT (PW.pt (jfb (jak jft (jaj (jim K rfl rfl) (by rfl) M.min boot_min (jaa (pv 0) jab rfl) (by decide) (by decide) rfl rfl) (jdY (by rfl) T.LEAST_WEIGHT (by decide)) (jas _)) (jds (jak jfZ (jaj (jh4 K rfl rfl) (by rfl) M.max boot_max (jaa (pv 0) jab rfl) (by decide) (by decide) rfl rfl) (jdY (by rfl) T.MOST_WEIGHT (by decide)) (jas _)))))
 (jaf jbt)
 jaq))), ?_⟩
   walk_at "goL"
   refine ⟨_, _, rfl, .inl hS, ?_⟩
   walk_at "goL"
   refine jdU (by omega) ?_
   walk_at "goL"
   refine ⟨_, _, rfl, .inl hS, ?_⟩
   walk_at "goL"
   refine jdU (by omega) ?_
   walk_at "goL"
   refine ⟨a, ns, rfl, hS, hne, fun M hM _ => ?_⟩
   have hM' := hd.w M hM
   walk_at "goL"
   refine jdU (by omega) ?_
   walk_at "goL"
   refine ⟨a, ns, rfl, hS, hne, fun M2 hM2 _ => ?_⟩
   have hM2' := hd.w M2 hM2
   walk_at "goL"
   refine jdU (by omega) ?_
   walk_at "goL"
   exact k
def jpu (K : PySem.W.Frag) (c : Nat → Addr) : Sp := fun vs H Q E => ∃ d y, ∃ ns : List Int, vs = [.ref d, y] ∧ SqL K H d (ns.map V.int) ∧ ¬ jav ns ∧ ∀ H' ea, jap H H' → H' ea = none → E (.ref (c 0)) (some ea) H'
def jmr (K : PySem.W.Frag) (c : Nat → Addr) : Sp := fun vs H Q E => ∃ d y z, ∃ ns : List Int, vs = [.ref d, y, z] ∧ SqL K H d (ns.map V.int) ∧ ¬ jav ns ∧ ∀ H' ea, jap H H' → H' ea = none → E (.ref (c 0)) (some ea) H'
def jba (K : PySem.W.Frag) (c : Nat → Addr) : Sp := fun vs H Q E => ∃ a ns, vs = [.ref a] ∧ SqL K H a (ns.map V.int) ∧ ¬ jav ns ∧ ∀ ea, H ea = none → E (.ref (c 0)) (some ea) H
theorem jhz {f : Addr} {fd : FuncData} (F : Fun K "check_die" "check_die" jbF f fd) (M : Bl mg) (T : Cs P mg) (Y : Xc K mg c)  : jbf P w K mg base (CX1 P w) 37 f fd ["die"] (jba K c) := by
 refine F.okG jeK (fun vs H Q E h => ?_) (fun cdv A outer s H vs Q E hr h => ?_)
 · obtain ⟨a, ns, rfl, _⟩ := h; rfl
 · obtain ⟨a, ns, rfl, hS, hd, k⟩ := h
   have hl : (ns.map V.int).length = ns.length := List.length_map ..
   by_cases h24 : 2 ≤ ns.length ∧ ns.length ≤ 4
   · have hne : ns ≠ [] := by intro z; subst z; simp at h24
     refine ⟨_, (jac (jaT (PW.pt (jfb (jak jft (jaj (ja4 K rfl) (by rfl) M.len PySem.boot_len (jaa (pv 0) jab rfl) (by decide) (by decide) rfl rfl) (jdY (by rfl) T.LEAST_WEIGHTS (by decide)) (jas _)) (jds (jak jfZ (jaj (ja4 K rfl) (by rfl) M.len PySem.boot_len (jaa (pv 0) jab rfl) (by decide) (by decide) rfl rfl) (jdY (by rfl) T.MOST_WEIGHTS (by decide)) (jas _)))))
 (jaf jbt)
 jaq)
 (jaf (jaT (PW.pt (jfb (jak jft (jaj (jim K rfl rfl) (by rfl) M.min boot_min (jaa (pv 0) jab rfl) (by decide) (by decide) rfl rfl) (jdY (by rfl) T.LEAST_WEIGHT (by decide)) (jas _)) (jds (jak jfZ (jaj (jh4 K rfl rfl) (by rfl) M.max boot_max (jaa (pv 0) jab rfl) (by decide) (by decide) rfl rfl) (jdY (by rfl) T.MOST_WEIGHT (by decide)) (jas _)))))
 (jaf (jjO hr.hd (Y.e 0 (by decide) Y.m0) (by rfl) (jaB [97, 32, 119, 101, 105, 103, 104, 116, 32, 105, 115, 32, 97, 32, 110, 117, 109, 98, 101, 114, 32, 102, 114, 111, 109, 32, 49, 32, 116, 111, 32, 57] (by decide +kernel)) rfl (by decide)))
 jaq))), ?_⟩
     walk_at "goL"
     refine ⟨_, _, rfl, .inl hS, ?_⟩
     walk_at "goL"
     refine jdU (by omega) ?_
     walk_at "goL"
     refine ⟨_, _, rfl, .inl hS, ?_⟩
     walk_at "goL"
     refine jdU (by omega) ?_
     walk_at "goL"
     refine ⟨a, ns, rfl, hS, hne, fun M hM hm => ?_⟩
     walk_at "goL"
     refine jbR (fun _ => ?_) (fun h1 => ?_)
     · walk_at "goL"
       exact fun ea he => k ea he
     · walk_at "goL"
       refine ⟨a, ns, rfl, hS, hne, fun M2 hM2 hm2 => ?_⟩
       walk_at "goL"
       refine jo8 ?_ ?_
       · refine Classical.byContradiction fun z => hd ⟨h24.1, h24.2, fun n hn => ⟨?_, ?_⟩⟩
         · have := hm n hn; omega
         · have := hm2 n hn; omega
       · walk_at "goL"
         exact fun ea he => k ea he
   · refine ⟨_, (jac (jaT (PW.pt (jfb (jak jft (jaj (ja4 K rfl) (by rfl) M.len PySem.boot_len (jaa (pv 0) jab rfl) (by decide) (by decide) rfl rfl) (jdY (by rfl) T.LEAST_WEIGHTS (by decide)) (jas _)) (jds (jak jfZ (jaj (ja4 K rfl) (by rfl) M.len PySem.boot_len (jaa (pv 0) jab rfl) (by decide) (by decide) rfl rfl) (jdY (by rfl) T.MOST_WEIGHTS (by decide)) (jas _)))))
 (jaf (jjO hr.hd (Y.e 0 (by decide) Y.m0) (by rfl) (jaB [97, 32, 100, 105, 101, 32, 104, 97, 115, 32, 50, 32, 116, 111, 32, 52, 32, 119, 101, 105, 103, 104, 116, 115] (by decide +kernel)) rfl (by decide)))
 jaq)
 jaO), ?_⟩
     walk_at "goL"
     refine ⟨_, _, rfl, .inl hS, ?_⟩
     walk_at "goL"
     refine jbR (fun _ => ?_) (fun h1 => ?_)
     · walk_at "goL"
       exact fun ea he => k ea he
     · walk_at "goL"
       refine ⟨_, _, rfl, .inl hS, ?_⟩
       walk_at "goL"
       refine jo8 (by omega) ?_
       walk_at "goL"
       exact fun ea he => k ea he
def jbE (K : PySem.W.Frag) : Sp := fun vs H Q _ => ∃ a xs, vs = [.ref a] ∧ SqL K H a xs ∧ Q (.str (S (abcd.take xs.length))) H
theorem ji8 : jan ["die"] ["die"] (jad jcl) := ⟨rfl, rfl, rfl, by decide +kernel, rfl, by decide +kernel, by decide +kernel⟩
theorem jji {f : Addr} {fd : FuncData} (F : Fun K "signs_of" "signs_of" jcl f fd) (M : Bl mg) (T : Cs P mg)  : jbf P w K mg base CX0 37 f fd ["die"] (jbE K) := by
 refine F.ok ji8 (fun vs H Q E h => ?_) (fun cdv A outer s H vs Q E hr h => ?_)
 · obtain ⟨a, xs, rfl, _⟩ := h; rfl
 · obtain ⟨a, xs, rfl, hS, k⟩ := h
   refine ⟨_, (jaf (jam (jbd jf3 (jqL (by rfl) T.SIGNS (by decide)) jbT (jbV (jaj (ja4 K rfl) (by rfl) M.len PySem.boot_len (jaa (pv 0) jab rfl) (by decide) (by decide) rfl rfl))))), ?_⟩
   walk_at "goL"
   refine ⟨_, _, rfl, .inl hS, ?_⟩
   walk_at "goL"
   refine jiQ (by decide) ?_
   rw [jc7]
   exact k
def jcA (K : PySem.W.Frag) : Sp := fun vs H Q _ => ∃ a xs l, vs = [.ref a, .str (S l)] ∧ SqL K H a xs ∧ l.length ≤ 1000 ∧ ∀ H', jap H H' → Q (.bl (l.all fun c => decide (c ∈ abcd.take xs.length))) H'
theorem jeG : jan ["die", "text", "signs"] ["die", "text"] (jad jbD) := ⟨rfl, rfl, rfl, by decide +kernel, rfl, by decide +kernel, by decide +kernel⟩
theorem jhW {f : Addr} {fd : FuncData} (F : Fun K "is_thrown" "is_thrown" jbD f fd) (M : Bl mg) (T : Cs P mg) {f_signs_of : Addr} {fd_signs_of : FuncData} (D_signs_of : Df P w K mg base "signs_of" 37 f_signs_of fd_signs_of ["die"] (jbE K)) : jbf P w K mg base CX0 38 f fd ["die", "text"] (jcA K) := by
 refine F.ok jeG (fun vs H Q E h => ?_) (fun cdv A outer s H vs Q E hr h => ?_)
 · obtain ⟨a, xs, l, rfl, _⟩ := h; rfl
 · obtain ⟨a, xs, l, rfl, hS, hl, k⟩ := h
   refine ⟨_, (jac (jar (i := 2) jeG.nd rfl (Or.inr rfl) (jae D_signs_of hr (by rfl) (jaa (pv 0) jab rfl) (by decide) (by decide) rfl rfl) rfl (Or.inl rfl))
 (jaf (jam (jaj (jll K rfl rfl) (by rfl) M.all boot_all (jaa (jaY (jad jbD) ["die", "text", "signs"] ["sign", "signs"] [none, some 2] ⟨rfl, by decide +kernel, by decide +kernel, by decide +kernel, by decide +kernel, rfl, by decide +kernel⟩ (jjG (pv 1)) (fun s3 H3 C fp => ⟨pgb (i := 0) (by decide +kernel) rfl rfl, jbH, (jjc jnz (pvb 0) (pvb 1) (by with_unfolding_all rfl))⟩) rfl rfl rfl (fun _ => rfl)) jab rfl) (by decide) (by decide) rfl rfl)))), ?_⟩
   walk_at "goL"
   refine ⟨a, xs, rfl, hS, ?_⟩
   walk_at "goL"
   intro D hD
   refine jci (fun c => V.bl (decide (c ∈ abcd.take xs.length))) (jjR l _) hD (small hl) (fun c hc H' R s1 k1 => ?_) (fun H' s1 hy => ?_)
   · walk_at "goL"
     rw [jkg]
     exact k1 _ (jap.refl _)
   · walk_at "goL"
     refine ⟨D, l.map fun c => decide (c ∈ abcd.take xs.length), rfl, SqL.of (by rw [hy]; simp), ?_⟩
     have e : (l.map fun c => decide (c ∈ abcd.take xs.length)).all id = l.all fun c => decide (c ∈ abcd.take xs.length) := by rw [List.all_map]; rfl
     rw [e]
     exact k H' s1
def jbb (K : PySem.W.Frag) : Sp := fun vs H Q _ => ∃ a xs l, vs = [.ref a, .str (S l)] ∧ SqL K H a xs ∧ jaG xs.length l ∧ ∀ H', jap H H' → Q .non H'
theorem jhN : jan ["die", "word"] ["die", "word"] (jad jbM) := ⟨rfl, rfl, rfl, by decide +kernel, rfl, by decide +kernel, by decide +kernel⟩
theorem jhJ {f : Addr} {fd : FuncData} (F : Fun K "check_word" "check_word" jbM f fd) (M : Bl mg) (T : Cs P mg) {f_is_thrown : Addr} {fd_is_thrown : FuncData} (D_is_thrown : Df P w K mg base "is_thrown" 38 f_is_thrown fd_is_thrown ["die", "text"] (jcA K)) : jbf P w K mg base CX0 39 f fd ["die", "word"] (jbb K) := by
 refine F.ok jhN (fun vs H Q E h => ?_) (fun cdv A outer s H vs Q E hr h => ?_)
 · obtain ⟨a, xs, l, rfl, _⟩ := h; rfl
 · obtain ⟨a, xs, l, rfl, hS, hw, k⟩ := h
   have h1 := hw.lo
   have h2 := hw.hi
   refine ⟨_, (jac (jaT (PW.pt (jfb (jak jft (jaj jbm (by rfl) M.len PySem.boot_len (jaa (pv 1) jab rfl) (by decide) (by decide) rfl rfl) jag (jas _)) (jds (jak jfZ (jaj jbm (by rfl) M.len PySem.boot_len (jaa (pv 1) jab rfl) (by decide) (by decide) rfl rfl) (jdY (by rfl) T.MOST_SIGNS (by decide)) (jas _)))))
 (jaf jbt)
 jaq)
 (jaf (jaT (jk9 (jeI (jae D_is_thrown hr (by rfl) (jaa (pv 0) (jaa (pv 1) jab rfl) rfl) (by decide) (by decide) rfl rfl) (fun _ => rfl)))
 (jaf jbt)
 jaq))), ?_⟩
   walk_at "goL"
   refine jdU (by omega) ?_
   walk_at "goL"
   refine jdU (by omega) ?_
   walk_at "goL"
   refine ⟨a, xs, l, rfl, hS, by omega, fun H' s1 => ?_⟩
   have e : (l.all fun c => decide (c ∈ abcd.take xs.length)) = true := by
     rw [List.all_eq_true]
     exact fun c hc => decide_eq_true (hw.s c hc)
   rw [e]
   walk_at "goL"
   refine jkI ?_
   walk_at "goL"
   exact k H' s1
def ja0 (K : PySem.W.Frag) : Sp := fun vs H Q _ => ∃ a ws, ∃ p : Nat, ∃ hp : p < ws.length, vs = [.ref a, .int p] ∧ SqL K H a (txs ws) ∧ ws.length ≤ 1000 ∧ ∀ H', jap H H' → Q (.bl ((others ws p).any fun o => within ws[p] o)) H'
theorem jbO : jan ["words", "place", "others"] ["words", "place"] (jad jat) := ⟨rfl, rfl, rfl, by decide +kernel, rfl, by decide +kernel, by decide +kernel⟩
theorem jcU {f : Addr} {fd : FuncData} (F : Fun K "stands_within_another" "stands_within_another" jat f fd) (M : Bl mg) (T : Cs P mg)  : jbf P w K mg base CX0 37 f fd ["words", "place"] (ja0 K) := by
 refine F.ok jbO (fun vs H Q E h => ?_) (fun cdv A outer s H vs Q E hr h => ?_)
 · obtain ⟨a, ws, p, hp, rfl, _⟩ := h; rfl
 · obtain ⟨a, ws, p, hp, rfl, hS, hl, k⟩ := h
   refine ⟨_, (jac (jar (i := 2) jbO.nd rfl (Or.inl rfl) (jax jfd (jbd (jda K rfl) (pv 0) jbT (jbV (pv 1))) (jbd (jda K rfl) (pv 0) (jbV (jax jcE (pv 1) jag)) jbT)) rfl (Or.inl rfl))
 (jaf (jam (jaj (jix K rfl rfl) (by rfl) M.any boot_any (jaa (jaY (jad jat) ["words", "place", "others"] ["other", "words", "place"] [none, some 0, some 1] ⟨rfl, by decide +kernel, by decide +kernel, by decide +kernel, by decide +kernel, rfl, by decide +kernel⟩ (jaS K rfl (pv 2)) (fun s3 H3 C fp => ⟨pgb (i := 0) (by decide +kernel) rfl rfl, jbH, (jjc jnz (jbg (jaZ K rfl) (pvb 1) (pvb 2) (fun _ _ => rfl)) (pvb 0) (by with_unfolding_all rfl))⟩) rfl rfl rfl (fun _ => rfl)) jab rfl) (by decide) (by decide) rfl rfl)))), ?_⟩
   walk_at "goL"
   refine ⟨a, _, rfl, hS, fun b1 n1 => ?_⟩
   rw [jl9, jc7]
   have s1 : jap H (upd H b1 (.lst ((txs ws).take p))) := jai (jap.refl _) n1
   walk_at "goL"
   refine ⟨a, _, rfl, s1.seq hS, fun b2 n2 => ?_⟩
   rw [jl9, show (p : Int) + 1 = ((p + 1 : Nat) : Int) by omega, jfL]
   have n12 : b1 ≠ b2 := jaF jah n2
   refine ⟨b1, b2, _, _, rfl, rfl, by rw [jaw n12]; exact jah, jah, by rw [List.length_take, List.length_drop, jct]; exact small (by omega), fun b3 n3 => ?_⟩
   have s2 : jap H (upd (upd H b1 (.lst ((txs ws).take p))) b2 (.lst ((txs ws).drop (p + 1)))) := jai s1 (s1.free n2)
   have s3 := jai (o := .lst ((txs ws).take p ++ (txs ws).drop (p + 1))) s2 (s2.free n3)
   have eo : (txs ws).take p ++ (txs ws).drop (p + 1) = txs (others ws p) := by unfold others; simp [List.map_take, List.map_drop]
   walk_at "goL"
   refine ⟨⟨_, (SqL.of jah)⟩, ?_⟩
   intro D hD
   refine jci (src := others ws p) (gv := fun l => V.str (S l)) (fun l => V.bl (within ws[p] l)) (show Goes _ _ (txs (others ws p)) from by rw [← eo]; exact jbk (SqL.of jah)) hD (by unfold others; rw [List.length_append, List.length_take, List.length_drop]; exact small (by omega)) (fun l hl' H' R t1 k1 => ?_) (fun H' t1 hy => ?_)
   · walk_at "goL"
     refine jdE (t1.seq (s3.seq hS)) (jfk (jgL hp)) ?_
     walk_at "goL"
     exact k1 _ (jap.refl _)
   · walk_at "goL"
     refine ⟨D, (others ws p).map fun l => within ws[p] l, rfl, SqL.of (by rw [hy]; simp), ?_⟩
     have e : ((others ws p).map fun l => within ws[p] l).any id = (others ws p).any fun o => within ws[p] o := by rw [List.any_map]; rfl
     rw [e]
     exact k H' (s3.trans t1)
def jaX (K : PySem.W.Frag) : Sp := fun vs H Q _ => ∃ d a, ∃ ns : List Int, ∃ ws, vs = [.ref d, .ref a] ∧ SqL K H d (ns.map V.int) ∧ jav ns ∧ SqL K H a (txs ws) ∧ jbc ns.length ws ∧ ∀ H', jap H H' → Q .non H'
theorem jde : jan ["die", "words", "word"] ["die", "words"] (jad ja8) := ⟨rfl, rfl, rfl, by decide +kernel, rfl, by decide +kernel, by decide +kernel⟩
theorem jhn {f : Addr} {fd : FuncData} (F : Fun K "check_race" "check_race" ja8 f fd) (M : Bl mg) (T : Cs P mg) {f_check_die : Addr} {fd_check_die : FuncData} (D_check_die : Df P w K mg base "check_die" 37 f_check_die fd_check_die ["die"] (jbj K)) {f_check_word : Addr} {fd_check_word : FuncData} (D_check_word : Df P w K mg base "check_word" 39 f_check_word fd_check_word ["die", "word"] (jbb K)) {f_stands_within_another : Addr} {fd_stands_within_another : FuncData} (D_stands_within_another : Df P w K mg base "stands_within_another" 37 f_stands_within_another fd_stands_within_another ["words", "place"] (ja0 K)) : jbf P w K mg base CX0 40 f fd ["die", "words"] (jaX K) := by
 refine F.ok jde (fun vs H Q E h => ?_) (fun cdv A outer s H vs Q E hr h => ?_)
 · obtain ⟨d, a, ns, ws, rfl, _⟩ := h; rfl
 · obtain ⟨d, a, ns, ws, rfl, hd, hdo, hS, hw, k⟩ := h
   have hl : (ns.map V.int).length = ns.length := List.length_map ..
   have q1 := hw.lo
   have q2 := hw.hi
   have hsl := jct ws
   refine ⟨_, (jac (jau (jae D_check_die hr (by rfl) (jaa (pv 0) jab rfl) (by decide) (by decide) rfl rfl) rfl)
 (jac (jb6 PassesOwn.never rfl (jaS K rfl (pv 1)) (jaH (i := 2) jde.nd rfl (Or.inl rfl) (Or.inl rfl))
 (jaf (jau (jae D_check_word hr (by rfl) (jaa (pv 0) (jaa (pv 2) jab rfl) rfl) (by decide) (by decide) rfl rfl) rfl)) (fun _ => rfl))
 (jac (jaT (PW.pt (jfb (jak jft (jaj (ja4 K rfl) (by rfl) M.len PySem.boot_len (jaa (pv 1) jab rfl) (by decide) (by decide) rfl rfl) jag (jas _)) (jds (jak jfZ (jaj (ja4 K rfl) (by rfl) M.len PySem.boot_len (jaa (pv 1) jab rfl) (by decide) (by decide) rfl rfl) (jdY (by rfl) T.MOST_WORDS (by decide)) (jas _)))))
 (jaf jbt)
 jaq)
 (jaf (jaT (jeI (jaj (jix K rfl rfl) (by rfl) M.any boot_any (jaa (jaY (jad ja8) ["die", "words", "word"] ["place", "words"] [none, some 1] ⟨rfl, by decide +kernel, by decide +kernel, by decide +kernel, by decide +kernel, rfl, by decide +kernel⟩ (jcr (by rfl) M.range (jaa (jaj (ja4 K rfl) (by rfl) M.len PySem.boot_len (jaa (pv 1) jab rfl) (by decide) (by decide) rfl rfl) jab rfl) rfl) (fun s3 H3 C fp => ⟨pgb (i := 0) (by decide +kernel) rfl rfl, jbH, (jae D_stands_within_another hr (glb rfl) (jaa (pvb 1) (jaa (pvb 0) jab rfl) rfl) (by decide) (by decide) rfl rfl)⟩) rfl rfl rfl (fun _ => rfl)) jab rfl) (by decide) (by decide) rfl rfl) (fun _ => rfl))
 (jaf jbt)
 jaq))))), ?_⟩
   walk_at "goL"
   refine ⟨d, ns, rfl, hd, hdo, ?_⟩
   walk_at "goL"
   refine ⟨⟨_, hS⟩, ?_⟩
   let Pv0 : Nat → L2.St → Hp → Prop := (fun i σ H2 => ∃ v : Option V, jap H H2 ∧ σ = [some (.ref d), some (.ref a), v])
   refine forL (xs := txs ws) Pv0 ⟨none, jap.refl _, rfl⟩ (by rintro i σ H2 _ ⟨_, s1, _⟩; exact s1.seq hS) ?_ ?_
   · rintro i x σ H2 hi ⟨v, s1, rfl⟩
     have hlt : i < ws.length := by have := (List.getElem?_eq_some_iff.mp hi).1; omega
     rw [jgL hlt] at hi
     obtain rfl := (Option.some.inj hi).symm
     walk_at "goL"
     refine ⟨d, _, ws[i], rfl, s1.seq hd, by rw [hl]; exact hw.w _ (List.getElem_mem hlt), fun H3 s3 => ?_⟩
     exact ⟨_, s1.trans s3, rfl⟩
   · rintro σ H2 ⟨v, s1, rfl⟩
     walk_at "goL"
     refine ⟨_, _, rfl, .inl (s1.seq hS), ?_⟩
     walk_at "goL"
     refine jdU (by omega) ?_
     walk_at "goL"
     refine ⟨_, _, rfl, .inl (s1.seq hS), ?_⟩
     walk_at "goL"
     refine jdU (by omega) ?_
     walk_at "goL"
     refine ⟨_, _, rfl, .inl (s1.seq hS), ?_⟩
     walk_at "goL"
     refine ⟨by omega, by omega, ?_⟩
     intro D hD
     refine jci (src := List.range ((txs ws).length : Int).toNat) (fun _ => V.bl false) (jcZ 0 _ _) hD (by rw [List.length_range]; exact small (by omega)) (fun j hj H' R t1 k1 => ?_) (fun H' t1 hy => ?_)
     · have hj' : j < ws.length := by have := List.mem_range.mp hj; omega
       walk_at "goL"
       refine ⟨a, ws, j, hj', by rw [show (0 : Int) + (j : Int) = (j : Int) by omega]; rfl, t1.seq (s1.seq hS), by omega, fun H3 s3 => ?_⟩
       rw [hw.not_within hj']
       exact k1 H3 s3
     · walk_at "goL"
       refine ⟨D, (List.range ((txs ws).length : Int).toNat).map fun _ => false, rfl, SqL.of (by rw [hy]; simp), ?_⟩
       have e : ((List.range ((txs ws).length : Int).toNat).map fun _ => false).any id = false := by simp
       rw [e]
       walk_at "goL"
       refine jkI ?_
       walk_at "goL"
       exact k H' (s1.trans t1)
abbrev jaM := jpu
theorem jgc {f : Addr} {fd : FuncData} (F : Fun K "check_race" "check_race" ja8 f fd) (M : Bl mg) (T : Cs P mg) (Y : Xc K mg c) {f_check_die : Addr} {fd_check_die : FuncData} (R_check_die : DfX P w K mg base "check_die" 37 f_check_die fd_check_die ["die"] (jba K c)) : jbf P w K mg base (CX1 P w) 40 f fd ["die", "words"] (jaM K c) := by
 refine F.okG jde (fun vs H Q E h => ?_) (fun cdv A outer s H vs Q E hr h => ?_)
 · obtain ⟨d, y, ns, rfl, _⟩ := h; rfl
 · obtain ⟨d, y, ns, rfl, hd, hb, k⟩ := h
   refine ⟨_, (jac (jau (jay jb7 R_check_die hr (by rfl) (jaa (pv 0) jab rfl) (by decide) (by decide) rfl rfl) rfl)
 jaO), ?_⟩
   walk_at "goL"
   exact ⟨d, ns, rfl, hd, hb, fun ea he => k H ea (jap.refl _) he⟩
def jcF (K : PySem.W.Frag) : Sp := fun vs H Q _ => ∃ a xs l, vs = [.ref a, .str (S l)] ∧ SqL K H a xs ∧ l.length ≤ 60 ∧ (∀ c ∈ l, c ∈ abcd.take xs.length) ∧ ∀ H', jap H H' → Q .non H'
theorem jiB : jan ["die", "row"] ["die", "row"] (jad jb0) := ⟨rfl, rfl, rfl, by decide +kernel, rfl, by decide +kernel, by decide +kernel⟩
theorem jid {f : Addr} {fd : FuncData} (F : Fun K "check_row" "check_row" jb0 f fd) (M : Bl mg) (T : Cs P mg) {f_is_thrown : Addr} {fd_is_thrown : FuncData} (D_is_thrown : Df P w K mg base "is_thrown" 38 f_is_thrown fd_is_thrown ["die", "text"] (jcA K)) : jbf P w K mg base CX0 39 f fd ["die", "row"] (jcF K) := by
 refine F.ok jiB (fun vs H Q E h => ?_) (fun cdv A outer s H vs Q E hr h => ?_)
 · obtain ⟨a, xs, l, rfl, _⟩ := h; rfl
 · obtain ⟨a, xs, l, rfl, hS, hl, hc, k⟩ := h
   refine ⟨_, (jac (jaT (jak jfZ (jaj jbm (by rfl) M.len PySem.boot_len (jaa (pv 1) jab rfl) (by decide) (by decide) rfl rfl) (jdY (by rfl) T.MOST_THROWS (by decide)) (jas _))
 (jaf jbt)
 jaq)
 (jaf (jaT (jk9 (jeI (jae D_is_thrown hr (by rfl) (jaa (pv 0) (jaa (pv 1) jab rfl) rfl) (by decide) (by decide) rfl rfl) (fun _ => rfl)))
 (jaf jbt)
 jaq))), ?_⟩
   walk_at "goL"
   refine jdU (by omega) ?_
   walk_at "goL"
   refine ⟨a, xs, l, rfl, hS, by omega, fun H' s1 => ?_⟩
   have e : (l.all fun c => decide (c ∈ abcd.take xs.length)) = true := by
     rw [List.all_eq_true]
     exact fun c hc' => decide_eq_true (hc c hc')
   rw [e]
   walk_at "goL"
   refine jkI ?_
   walk_at "goL"
   exact k H' s1
def ja2 (K : PySem.W.Frag) : Sp := fun vs H Q _ => ∃ a bs ws row, vs = [.ref a, .str (S row)] ∧ SqL K H a (txs bs) ∧ jgs ws bs ∧ ws ≠ [] ∧ bs.length ≤ 1000 ∧ (∀ t ∈ bs, t.length ≤ 1000) ∧ ∀ H', jap H H' → Q (.str (S (stF ws row))) H'
theorem jeC : jan ["begun", "text"] ["begun", "text"] (jad jaJ) := ⟨rfl, rfl, rfl, by decide +kernel, rfl, by decide +kernel, by decide +kernel⟩
theorem jer {f : Addr} {fd : FuncData} (F : Fun K "longest_at_end" "longest_at_end" jaJ f fd) (M : Bl mg) (T : Cs P mg)  : jbf P w K mg base CX0 37 f fd ["begun", "text"] (ja2 K) := by
 refine F.ok jeC (fun vs H Q E h => ?_) (fun cdv A outer s H vs Q E hr h => ?_)
 · obtain ⟨a, bs, ws, row, rfl, _⟩ := h; rfl
 · obtain ⟨a, bs, ws, row, rfl, hS, hB, hne, hbl, hbt, k⟩ := h
   refine ⟨_, (jaf (jam (jk2 K rfl rfl (jaY (jad jaJ) ["begun", "text"] ["beginning", "text"] [none, some 1] ⟨rfl, by decide +kernel, by decide +kernel, by decide +kernel, by decide +kernel, rfl, by decide +kernel⟩ (jaS K rfl (pv 0)) (fun s3 H3 C fp => ⟨pgb (i := 0) (by decide +kernel) rfl rfl, (jfo (jeI (jcd K rfl PySem.F.plainAttrs_str PySem.F.slot_str_endswith PySem.F.type_str_endswith jdR (pvb 1) (jaa (pvb 0) jab rfl) rfl rfl rfl rfl rfl) (fun _ => rfl))), (pvb 0)⟩) rfl rfl rfl (fun _ => rfl)) (by rfl) M.max (by rfl) M.len rfl))), ?_⟩
   walk_at "goL"
   refine jmV ?_
   walk_at "goL"
   refine ⟨⟨_, hS⟩, ?_⟩
   intro D hD
   refine jd1 (src := bs) (gv := fun l => V.str (S l)) (fun b => b.isSuffixOf row) (fun b => V.str (S b)) (jbk hS) hD (small hbl) (fun b hb H' R t1 k1 => ?_) (fun b hb _ H' R t1 k1 => ?_) (fun H1 s1 hy => ?_)
   · walk_at "goL"
     exact k1 _ (jap.refl _)
   · walk_at "goL"
     exact k1 _ (jap.refl _)
   · refine ⟨D, bs.filter fun b => b.isSuffixOf row, rfl, SqL.of hy, ?_, fun t ht => hbt t (List.mem_filter.mp ht).1, fun t ht hm => ?_⟩
     · intro z
       have : ([] : List Nat) ∈ bs.filter fun b => b.isSuffixOf row := List.mem_filter.mpr ⟨(hB.mem _).mpr (jfG hne), jee.mpr (List.nil_suffix)⟩
       rw [z] at this
       simp at this
     · rw [jkV hne hB ht hm]
       exact k H1 s1
def jaC (K : PySem.W.Frag) : Sp := fun vs H Q _ => ∃ a ws, ∃ n : Nat, vs = [.ref a] ∧ SqL K H a (txs ws) ∧ jbc n ws ∧ ∀ r bs H', jap H H' → H r = none → H' r = some (.lst (txs bs)) → joL ws bs → Q (.ref r) H'
theorem jcc : jan ["words", "texts", "word"] ["words"] (jad jaR) := ⟨rfl, rfl, rfl, by decide +kernel, rfl, by decide +kernel, by decide +kernel⟩
theorem jeU {f : Addr} {fd : FuncData} (F : Fun K "beginnings_of" "beginnings_of" jaR f fd) (M : Bl mg) (T : Cs P mg)  : jbf P w K mg base CX0 37 f fd ["words"] (jaC K) := by
 refine F.ok jcc (fun vs H Q E h => ?_) (fun cdv A outer s H vs Q E hr h => ?_)
 · obtain ⟨a, ws, n, rfl, _⟩ := h; rfl
 · obtain ⟨a, ws, n, rfl, hS, hR, k⟩ := h
   have hsl := jct ws
   have hw4 := hR.hi
   refine ⟨_, (jac (jar (i := 1) jcc.nd rfl (Or.inl rfl) (jaU (jaa (jaB [] (by decide +kernel)) jab rfl)) rfl (Or.inl rfl))
 (jac (jb6 PassesOwn.never rfl (jaS K rfl (pv 0)) (jaH (i := 2) jcc.nd rfl (Or.inr rfl) (Or.inl rfl))
 (jaf (jau (jcd K rfl PySem.F.plainAttrs_list PySem.F.slot_list_extend PySem.F.type_list_extend jij (pv 1) (jaa (jaY (jad jaR) ["words", "texts", "word"] ["many", "word"] [none, some 2] ⟨rfl, by decide +kernel, by decide +kernel, by decide +kernel, by decide +kernel, rfl, by decide +kernel⟩ (jfm (by rfl) M.range (jaa jag (jaa (jax jcE (jaj jbm (by rfl) M.len PySem.boot_len (jaa (pv 2) jab rfl) (by decide) (by decide) rfl rfl) jag) jab rfl) rfl) rfl rfl) (fun s3 H3 C fp => ⟨pgb (i := 0) (by decide +kernel) rfl rfl, jbH, (jbd jf3 (pvb 1) jbT (jbV (pvb 0)))⟩) rfl rfl rfl (fun _ => rfl)) jab rfl) rfl rfl rfl rfl rfl) rfl)) (fun _ => rfl))
 (jaf (jam (jmv K rfl (jaj (jiG P w rfl rfl rfl) (by rfl) M.sorted boot_sorted (jaa (jd3 (jlC K P w rfl rfl rfl rfl) (by rfl) M.set boot_set (jaa (pv 1) jab rfl) (by decide) (by decide) rfl rfl) jab rfl) (by decide) (by decide) rfl rfl) (by rfl) M.sorted (by rfl) M.len rfl))))), ?_⟩
   walk_at "goL"
   intro p0 n0
   have s0 := jai (o := .lst [.str (S [])]) (jap.refl H) n0
   walk_at "goL"
   refine ⟨⟨_, s0.seq hS⟩, ?_⟩
   let Pv0 : Nat → L2.St → Hp → Prop := (fun i σ H2 => ∃ y : Option V, jap H H2 ∧ H2 p0 = some (.lst (txs (jga (ws.take i)))) ∧ σ = [some (.ref a), some (.ref p0), y])
   refine forL (xs := txs ws) Pv0 ⟨none, s0, jah, rfl⟩ (by rintro i σ H2 _ ⟨_, e, _⟩; exact e.seq hS) ?_ ?_
   · rintro i x σ H2 hi ⟨y, s1, e1, rfl⟩
     have hlt : i < ws.length := by have := (List.getElem?_eq_some_iff.mp hi).1; omega
     rw [jgL hlt] at hi
     obtain rfl := (Option.some.inj hi).symm
     have hwi := (hR.w _ (List.getElem_mem hlt)).hi
     walk_at "goL"
     refine ⟨_, _, rfl, by omega, ?_⟩
     rw [show ((ws[i].length : Int) + 1 - 1).toNat = ws[i].length by omega]
     intro D hD
     refine jci (src := List.range ws[i].length) (gv := fun (k : Nat) => V.int (1 + (k : Int))) (fun k => V.str (S (ws[i].take (k + 1)))) (jcZ 1 _ _) hD (by rw [List.length_range]; exact small (by omega)) (fun j hj H' R t1 k1 => ?_) (fun H' t1 hy => ?_)
     · walk_at "goL"
       refine jiQ (small (by omega)) ?_
       rw [show (1 : Int) + (j : Int) = ((j + 1 : Nat) : Int) by omega, jc7]
       exact k1 _ (jap.refl _)
     · have e2 := t1 _ _ e1
       have hb1 := jd0 (ws := ws.take i) fun l hl => hR.w l (List.mem_of_mem_take hl)
       have hlt' : (ws.take i).length ≤ 4 := by rw [List.length_take]; omega
       walk_at "goL"
       refine ⟨p0, D, _, _, rfl, rfl, e2, hy, ?_, ?_⟩
       · rw [jct, List.length_map, List.length_range]
         unfold jga
         rw [List.length_cons]
         exact small (by omega)
       · refine ⟨_, jai (s1.trans t1) n0, ?_, rfl⟩
         rw [jah, jlh ws i hlt, txs, txs, List.map_append, List.map_map]
         rfl
   · rintro σ H2 ⟨y, s1, e1, rfl⟩
     rw [jct, List.take_length] at e1
     have hne := hR.race.ne
     have h2 := joA hR
     have hml := jm1 (jga ws)
     have hbl : (jga ws).length ≤ 25 := by
       have := jd0 hR.w
       unfold jga
       rw [List.length_cons]
       omega
     walk_at "goL"
     refine jor ?_
     walk_at "goL"
     refine ⟨p0, jga ws, rfl, SqL.of e1, by omega, fun r1 n1 => ?_⟩
     have s2 := jai (o := jnW P w r1 (jky (jga ws))) (jap.refl H2) n1
     walk_at "goL"
     refine ⟨r1, jky (jga ws), rfl, jah, h2, by omega, fun r2 ys n2 hp2 hs2 => ?_⟩
     have s3 := jai (o := .lst (ys.map V.str)) (jap.refl (upd H2 r1 (jnW P w r1 (jky (jga ws))))) n2
     have yl : ys.length = (jky (jga ws)).length := hp2.length_eq
     have ynd : ys.Nodup := hp2.nodup_iff.mpr (jgE _)
     have hmem : ∀ t ∈ ys.map (fun x => x.cps.toList), t.length ≤ 6 := fun t ht => by
       obtain ⟨x, hx, rfl⟩ := List.mem_map.mp ht
       obtain ⟨u, hu, e⟩ := jd5.mp (hp2.mem_iff.mp hx)
       rw [← e, jgm]
       exact hR.race.len ((jdz hne).mp hu)
     have tnd : (ys.map fun x => x.cps.toList).Nodup := by
       rw [List.Nodup, List.pairwise_map]
       refine ynd.imp fun {a b} h z => h ?_
       rw [← joi a, ← joi b, z]
     refine ⟨r2, _, rfl, by rw [← jk7]; exact SqL.of jah, by rw [List.length_map]; omega, by rw [List.length_map]; omega, tnd, fun t ht => by have := hmem t ht; omega, fun r bs nr hp hs => ?_⟩
     exact k r bs _ (jai ((s1.trans s2).trans s3) (((s1.trans s2).trans s3).free nr)) (((s1.trans s2).trans s3).free nr) jah (jot hne hp2 ynd hs2 hp hs)
def jdg (K : PySem.W.Frag) : Sp := fun vs H Q _ => ∃ d a, ∃ ns : List Int, ∃ ws row, vs = [.ref d, .ref a, .str (S row)] ∧ SqL K H d (ns.map V.int) ∧ jav ns ∧ SqL K H a (txs ws) ∧ jbc ns.length ws ∧ ji3 ns.length row ∧ ∀ H', jap H H' → Q (.str (S (stF ws row))) H'
theorem jf6 : jan ["die", "words", "row"] ["die", "words", "row"] (jad jbY) := ⟨rfl, rfl, rfl, by decide +kernel, rfl, by decide +kernel, by decide +kernel⟩
theorem ji9 {f : Addr} {fd : FuncData} (F : Fun K "state_of" "state_of" jbY f fd) (M : Bl mg) (T : Cs P mg) {f_check_race : Addr} {fd_check_race : FuncData} (D_check_race : Df P w K mg base "check_race" 40 f_check_race fd_check_race ["die", "words"] (jaX K)) {f_check_row : Addr} {fd_check_row : FuncData} (D_check_row : Df P w K mg base "check_row" 39 f_check_row fd_check_row ["die", "row"] (jcF K)) {f_longest_at_end : Addr} {fd_longest_at_end : FuncData} (D_longest_at_end : Df P w K mg base "longest_at_end" 37 f_longest_at_end fd_longest_at_end ["begun", "text"] (ja2 K)) {f_beginnings_of : Addr} {fd_beginnings_of : FuncData} (D_beginnings_of : Df P w K mg base "beginnings_of" 37 f_beginnings_of fd_beginnings_of ["words"] (jaC K)) : jbf P w K mg base CX0 41 f fd ["die", "words", "row"] (jdg K) := by
 refine F.ok jf6 (fun vs H Q E h => ?_) (fun cdv A outer s H vs Q E hr h => ?_)
 · obtain ⟨d, a, ns, ws, row, rfl, _⟩ := h; rfl
 · obtain ⟨d, a, ns, ws, row, rfl, hd, hdo, hS, hw, hro, k⟩ := h
   have hl : (ns.map V.int).length = ns.length := List.length_map ..
   refine ⟨_, (jac (jau (jae D_check_race hr (by rfl) (jaa (pv 0) (jaa (pv 1) jab rfl) rfl) (by decide) (by decide) rfl rfl) rfl)
 (jac (jau (jae D_check_row hr (by rfl) (jaa (pv 0) (jaa (pv 2) jab rfl) rfl) (by decide) (by decide) rfl rfl) rfl)
 (jaf (jam (jae D_longest_at_end hr (by rfl) (jaa (jae D_beginnings_of hr (by rfl) (jaa (pv 1) jab rfl) (by decide) (by decide) rfl rfl) (jaa (pv 2) jab rfl) rfl) (by decide) (by decide) rfl rfl))))), ?_⟩
   walk_at "goL"
   refine ⟨d, a, ns, ws, rfl, hd, hdo, hS, hw, fun H1 s1 => ?_⟩
   walk_at "goL"
   refine ⟨d, _, row, rfl, s1.seq hd, hro.hi, by rw [hl]; exact hro.s, fun H2 s2 => ?_⟩
   walk_at "goL"
   refine ⟨a, ws, _, rfl, (s1.trans s2).seq hS, hw, fun r bs H3 s3 nr hr3 hBO => ?_⟩
   have hB := hBO.l
   have hfew := jfU hw hB
   walk_at "goL"
   refine ⟨r, bs, ws, row, rfl, SqL.of hr3, hB, hw.race.ne, by omega, fun t ht => by have := hw.race.len ((hB.mem t).mp ht); omega, fun H4 s4 => ?_⟩
   exact k H4 (((s1.trans s2).trans s3).trans s4)
abbrev jcB := jmr
theorem jh7 {f : Addr} {fd : FuncData} (F : Fun K "state_of" "state_of" jbY f fd) (M : Bl mg) (T : Cs P mg) (Y : Xc K mg c) {f_check_race : Addr} {fd_check_race : FuncData} (R_check_race : DfX P w K mg base "check_race" 40 f_check_race fd_check_race ["die", "words"] (jaM K c)) : jbf P w K mg base (CX1 P w) 41 f fd ["die", "words", "row"] (jcB K c) := by
 refine F.okG jf6 (fun vs H Q E h => ?_) (fun cdv A outer s H vs Q E hr h => ?_)
 · obtain ⟨d, y, z, ns, rfl, _⟩ := h; rfl
 · obtain ⟨d, y, z, ns, rfl, hd, hb, k⟩ := h
   refine ⟨_, (jac (jau (jay jb7 R_check_race hr (by rfl) (jaa (pv 0) (jaa (pv 1) jab rfl) rfl) (by decide) (by decide) rfl rfl) rfl)
 jaO), ?_⟩
   walk_at "goL"
   exact ⟨d, _, ns, rfl, hd, hb, k⟩
def je8 (K : PySem.W.Frag) : Sp := fun vs H Q _ => ∃ d a, ∃ ns : List Int, ∃ ws row, vs = [.ref d, .ref a, .str (S row)] ∧ SqL K H d (ns.map V.int) ∧ jav ns ∧ SqL K H a (txs ws) ∧ jbc ns.length ws ∧ ji3 ns.length row ∧ ∀ v H', jap H H' → jry (jdF ws row) v H' → Q v H'
theorem jd9 : jan ["die", "words", "row", "throws", "place", "word"] ["die", "words", "row"] (jad jdX) := ⟨rfl, rfl, rfl, by decide +kernel, rfl, by decide +kernel, by decide +kernel⟩
theorem jmF {f : Addr} {fd : FuncData} (F : Fun K "ended" "ended" jdX f fd) (M : Bl mg) (T : Cs P mg) {f_check_race : Addr} {fd_check_race : FuncData} (D_check_race : Df P w K mg base "check_race" 40 f_check_race fd_check_race ["die", "words"] (jaX K)) {f_check_row : Addr} {fd_check_row : FuncData} (D_check_row : Df P w K mg base "check_row" 39 f_check_row fd_check_row ["die", "row"] (jcF K)) : jbf P w K mg base CX0 41 f fd ["die", "words", "row"] (je8 K) := by
 refine F.ok jd9 (fun vs H Q E h => ?_) (fun cdv A outer s H vs Q E hr h => ?_)
 · obtain ⟨d, a, ns, ws, row, rfl, _⟩ := h; rfl
 · obtain ⟨d, a, ns, ws, row, rfl, hd, hdo, hS, hw, hro, k⟩ := h
   have hl : (ns.map V.int).length = ns.length := List.length_map ..
   have hr60 := hro.hi
   have hsl := jct ws
   refine ⟨_, (jac (jau (jae D_check_race hr (by rfl) (jaa (pv 0) (jaa (pv 1) jab rfl) rfl) (by decide) (by decide) rfl rfl) rfl)
 (jac (jau (jae D_check_row hr (by rfl) (jaa (pv 0) (jaa (pv 2) jab rfl) rfl) (by decide) (by decide) rfl rfl) rfl)
 (jac (jb6 PassesOwn.never rfl (jfm (by rfl) M.range (jaa jag (jaa (jax jcE (jaj jbm (by rfl) M.len PySem.boot_len (jaa (pv 2) jab rfl) (by decide) (by decide) rfl rfl) jag) jab rfl) rfl) rfl rfl) (jaH (i := 3) jd9.nd rfl (Or.inl rfl) (Or.inl rfl))
 (jaf (jb6 PassesOwn.never rfl (joE K rfl (by rfl) M.enumerate (jaa (pv 1) jab rfl) rfl) (jfE K rfl rfl (jb5 (jaH (i := 4) jd9.nd rfl (Or.inl rfl) (Or.inl rfl)) (jb5 (jaH (i := 5) jd9.nd rfl (Or.inl rfl) (Or.inl rfl)) jfY rfl) rfl) rfl rfl)
   (jaf (jaT (jeI (jcd K rfl PySem.F.plainAttrs_str PySem.F.slot_str_endswith PySem.F.type_str_endswith jdR (jbd jf3 (pv 2) jbT (jbV (pv 3))) (jaa (pv 5) jab rfl) rfl rfl rfl rfl rfl) (fun _ => rfl))
     (jaf (jam (jlj (jaa (pv 3) (jaa (pv 4) jab rfl) rfl))))
     jaq)) (fun _ => rfl))) (fun _ => rfl))
 (jaf (jam jnD))))), ?_⟩
   walk_at "go"
   refine ⟨d, a, ns, ws, rfl, hd, hdo, hS, hw, fun H1 s1 => ?_⟩
   walk_at "go"
   refine ⟨d, _, row, rfl, s1.seq hd, hr60, by rw [hl]; exact hro.s, fun H2 s2 => ?_⟩
   walk_at "go"
   refine ⟨_, _, rfl, by omega, ?_⟩
   rw [show ((row.length : Int) + 1 - 1).toNat = row.length by omega]
   refine forR (fun i σ H3 => ∃ x y z : Option V, jap H H3 ∧ σ = [some (.ref d), some (.ref a), some (.str (S row)), x, y, z] ∧ ∀ t, t < i → endAt ws row t = none) ⟨none, none, none, s1.trans s2, rfl, by omega⟩ ?_ ?_
   · rintro i σ H3 hi ⟨x, y, z, s3, rfl, hno⟩
     walk_at "go"
     refine ⟨⟨_, s3.seq hS⟩, ?_⟩
     refine jrm (xs := txs ws) (fun j σ H4 => ∃ y z : Option V, jap H H4 ∧ σ = [some (.ref d), some (.ref a), some (.str (S row)), some (.int (1 + i)), y, z] ∧ ∀ q (hq : q < ws.length), q < j → ws[q].isSuffixOf (row.take (i + 1)) = false) ⟨y, z, s3, rfl, by omega⟩ (fun j σ H4 _ ⟨_, _, s4, _⟩ => s4.seq hS) ?_ ?_
     · rintro j xj σ H4 hj ⟨y, z, s4, rfl, hq⟩ t ht
       have hjl : j < ws.length := by have := (List.getElem?_eq_some_iff.mp hj).1; omega
       rw [jgL hjl] at hj
       obtain rfl := (Option.some.inj hj).symm
       have hwj := (hw.w _ (List.getElem_mem hjl)).hi
       refine jjy (.inl (.inl jah)) ?_
       walk_at "go"
       refine jiQ (small (by omega)) ?_
       rw [show (1 : Int) + (i : Int) = ((i + 1 : Nat) : Int) by omega, jc7]
       walk_at "go"
       cases e : ws[j].isSuffixOf (row.take (i + 1)) with
       | true =>
         refine jqf ?_
         walk_at "go"
         intro p hp
         refine k _ _ (jai (jai s4 (s4.free ht)) ((jai s4 (s4.free ht)).free hp)) ?_
         rw [jiZ hi hno (jka hjl hq e)]
         refine ⟨p, rfl, ?_⟩
         rw [jah]
       | false =>
         refine jkI ?_
         walk_at "go"
         refine ⟨_, _, jai s4 (s4.free ht), by rw [show ((i + 1 : Nat) : Int) = 1 + (i : Int) by omega]; rfl, fun q hql hqj => ?_⟩
         by_cases hqq : q < j
         · exact hq q hql hqq
         · have : q = j := by omega
           subst this; exact e
     · rintro σ H4 ⟨y, z, s4, rfl, hq⟩
       refine ⟨_, _, _, s4, rfl, fun t ht => ?_⟩
       by_cases htt : t < i
       · exact hno t htt
       · have : t = i := by omega
         subst this
         exact jkb fun p hp => hq p hp (by omega)
   · rintro σ H3 ⟨x, y, z, s3, rfl, hno⟩
     walk_at "go"
     exact k _ _ s3 (by rw [jiR hno]; rfl)
abbrev jf2 := jmr
theorem jlD {f : Addr} {fd : FuncData} (F : Fun K "ended" "ended" jdX f fd) (M : Bl mg) (T : Cs P mg) (Y : Xc K mg c) {f_check_race : Addr} {fd_check_race : FuncData} (R_check_race : DfX P w K mg base "check_race" 40 f_check_race fd_check_race ["die", "words"] (jaM K c)) : jbf P w K mg base (CX1 P w) 41 f fd ["die", "words", "row"] (jf2 K c) := by
 refine F.okG jd9 (fun vs H Q E h => ?_) (fun cdv A outer s H vs Q E hr h => ?_)
 · obtain ⟨d, y, z, ns, rfl, _⟩ := h; rfl
 · obtain ⟨d, y, z, ns, rfl, hd, hb, k⟩ := h
   refine ⟨_, (jac (jau (jay jb7 R_check_race hr (by rfl) (jaa (pv 0) (jaa (pv 1) jab rfl) rfl) (by decide) (by decide) rfl rfl) rfl)
 jaO), ?_⟩
   walk_at "go"
   exact ⟨d, _, ns, rfl, hd, hb, k⟩
def jbA (K : PySem.W.Frag) : Sp := fun vs H Q _ => ∃ d a, ∃ ns : List Int, ∃ ws row, vs = [.ref d, .ref a, .str (S row)] ∧ SqL K H d (ns.map V.int) ∧ jav ns ∧ SqL K H a (txs ws) ∧ jbc ns.length ws ∧ ji3 ns.length row ∧ jdF ws row = none ∧ ∀ H', jap H H' → Q (.str (S (stF ws row))) H'
theorem jbB : jan ["die", "words", "row", "state"] ["die", "words", "row"] (jad jaQ) := ⟨rfl, rfl, rfl, by decide +kernel, rfl, by decide +kernel, by decide +kernel⟩
theorem jeS {f : Addr} {fd : FuncData} (F : Fun K "state_of_open" "state_of_open" jaQ f fd) (M : Bl mg) (T : Cs P mg) {f_state_of : Addr} {fd_state_of : FuncData} (D_state_of : Df P w K mg base "state_of" 41 f_state_of fd_state_of ["die", "words", "row"] (jdg K)) {f_ended : Addr} {fd_ended : FuncData} (D_ended : Df P w K mg base "ended" 41 f_ended fd_ended ["die", "words", "row"] (je8 K)) : jbf P w K mg base CX0 42 f fd ["die", "words", "row"] (jbA K) := by
 refine F.ok jbB (fun vs H Q E h => ?_) (fun cdv A outer s H vs Q E hr h => ?_)
 · obtain ⟨d, a, ns, ws, row, rfl, _⟩ := h; rfl
 · obtain ⟨d, a, ns, ws, row, rfl, hd, hdo, hS, hw, hro, hop, k⟩ := h
   refine ⟨_, (jac (jar (i := 3) jbB.nd rfl (Or.inl rfl) (jae D_state_of hr (by rfl) (jaa (pv 0) (jaa (pv 1) (jaa (pv 2) jab rfl) rfl) rfl) (by decide) (by decide) rfl rfl) rfl (Or.inl rfl))
 (jac (jaT (jak jou (jae D_ended hr (by rfl) (jaa (pv 0) (jaa (pv 1) (jaa (pv 2) jab rfl) rfl) rfl) (by decide) (by decide) rfl rfl) jnD (jas _))
 (jaf jbt)
 jaq)
 (jaf (jam (pv 3))))), ?_⟩
   walk_at "goL"
   refine ⟨d, a, ns, ws, row, rfl, hd, hdo, hS, hw, hro, fun H1 s1 => ?_⟩
   walk_at "goL"
   refine ⟨d, a, ns, ws, row, rfl, s1.seq hd, hdo, s1.seq hS, hw, hro, fun v H2 s2 he => ?_⟩
   rw [hop] at he
   obtain rfl : v = .non := he
   walk_at "goL"
   refine jow rfl ?_
   walk_at "goL"
   exact k H2 (s1.trans s2)
abbrev jbq := jmr
theorem jeq {f : Addr} {fd : FuncData} (F : Fun K "state_of_open" "state_of_open" jaQ f fd) (M : Bl mg) (T : Cs P mg) (Y : Xc K mg c) {f_state_of : Addr} {fd_state_of : FuncData} (R_state_of : DfX P w K mg base "state_of" 41 f_state_of fd_state_of ["die", "words", "row"] (jcB K c)) : jbf P w K mg base (CX1 P w) 42 f fd ["die", "words", "row"] (jbq K c) := by
 refine F.okG jbB (fun vs H Q E h => ?_) (fun cdv A outer s H vs Q E hr h => ?_)
 · obtain ⟨d, y, z, ns, rfl, _⟩ := h; rfl
 · obtain ⟨d, y, z, ns, rfl, hd, hb, k⟩ := h
   refine ⟨_, (jac (jar (i := 3) jbB.nd rfl (Or.inl rfl) (jay jb7 R_state_of hr (by rfl) (jaa (pv 0) (jaa (pv 1) (jaa (pv 2) jab rfl) rfl) rfl) (by decide) (by decide) rfl rfl) rfl (Or.inl rfl))
 jaO), ?_⟩
   walk_at "goL"
   exact ⟨d, _, _, ns, rfl, hd, hb, k⟩
theorem joM : ∀ c ∈ abcd, c < 128 := by decide
theorem ji5 {ws bs : List Tx} {s : Tx} {r : List Int} {ps : List (Nat × Int)} {i : Nat} (h : i < ps.length) : jcf ws bs s (ps.take (i + 1)) r =
   (jcf ws bs s (ps.take i) r).set (bs.idxOf (stF ws (s ++ [ps[i].1]))) ((jcf ws bs s (ps.take i) r).getD (bs.idxOf (stF ws (s ++ [ps[i].1]))) 0 - ps[i].2) := by
 unfold jcf
 rw [List.take_succ_eq_append_getElem h, List.foldl_append]
 rfl
theorem jek {l : List Int} {j : Nat} (h : j < l.length) : atI (l.map V.int) (j : Int) = some (.int (l.getD j 0)) := by
 unfold atI
 rw [jhK (by rw [List.length_map]; exact h)]
 show (l.map V.int)[j]? = _
 rw [List.getElem?_map, List.getElem?_eq_getElem h, List.getD_eq_getElem?_getD, List.getElem?_eq_getElem h]
 rfl
def jcP (K : PySem.W.Frag) : Sp := fun vs H Q _ => ∃ d b, ∃ ns : List Int, ∃ ws bs t, vs = [.ref d, .ref b, .str (S t)] ∧ SqL K H d (ns.map V.int) ∧ jav ns ∧ SqL K H b (txs bs) ∧ jbc ns.length ws ∧ jgs ws bs ∧ Beg ws t ∧ ∀ r H', jap H H' → H r = none → H' r = some (.lst ((jcN ns ws bs t).map V.int)) → Q (.ref r) H'
theorem jbw : jan ["die", "begun", "state", "numbers", "sign", "weight", "place"] ["die", "begun", "state"] (jad ja9) := ⟨rfl, rfl, rfl, by decide +kernel, rfl, by decide +kernel, by decide +kernel⟩
theorem jgk {f : Addr} {fd : FuncData} (F : Fun K "equation_of" "equation_of" ja9 f fd) (M : Bl mg) (T : Cs P mg) {f_signs_of : Addr} {fd_signs_of : FuncData} (D_signs_of : Df P w K mg base "signs_of" 37 f_signs_of fd_signs_of ["die"] (jbE K)) {f_longest_at_end : Addr} {fd_longest_at_end : FuncData} (D_longest_at_end : Df P w K mg base "longest_at_end" 37 f_longest_at_end fd_longest_at_end ["begun", "text"] (ja2 K)) : jbf P w K mg base CX0 38 f fd ["die", "begun", "state"] (jcP K) := by
 refine F.ok jbw (fun vs H Q E h => ?_) (fun cdv A outer s H vs Q E hr h => ?_)
 · obtain ⟨d, b, ns, ws, bs, t, rfl, _⟩ := h; rfl
 · obtain ⟨d, b, ns, ws, bs, t, rfl, hd, hdo, hb, hw, hB, ht, k⟩ := h
   have hl : (ns.map V.int).length = ns.length := List.length_map ..
   have hfew := jfU hw hB
   have ne := hw.race.ne
   have d4 := hdo.hi
   have htb := (hB.mem t).mpr ht
   have t6 := hw.race.len ht
   have hpl : (abcd.take ns.length).length = ns.length := by rw [List.length_take]; show min ns.length 4 = _; omega
   have hps : (prs ns).length = ns.length := by unfold prs; rw [List.length_zip, hpl, Nat.min_self]
   refine ⟨_, (jac (je0 (jad ja9) ["die", "begun", "state", "numbers", "sign", "weight", "place"] ["beginning"] [none] (jaH (i := 3) jbw.nd rfl (Or.inl rfl) (Or.inl rfl)) ⟨rfl, by decide +kernel, by decide +kernel, by decide +kernel, by decide +kernel, rfl, by decide +kernel⟩ (jaS K rfl (pv 1)) (fun s3 H3 C fp => ⟨pgb (i := 0) (by decide +kernel) rfl rfl, jbH, jag⟩) rfl rfl rfl rfl (fun _ => rfl))
 (jac (jnp (jaj (jea K rfl rfl) (by rfl) M.sum boot_sum (jaa (pv 0) jab rfl) (by decide) (by decide) rfl rfl) (jnn (pv 3) (jcd K rfl PySem.F.plainAttrs_list PySem.F.slot_list_index PySem.F.type_list_index (jcT K rfl) (pv 1) (jaa (pv 2) jab rfl) rfl rfl rfl rfl rfl) set_list (fun _ => rfl)))
 (jac (jb6 PassesOwn.never rfl (jnZ K rfl (by rfl) M.zip (jaa (jae D_signs_of hr (by rfl) (jaa (pv 0) jab rfl) (by decide) (by decide) rfl rfl) (jaa (pv 0) jab rfl) rfl) rfl) (jfE K rfl rfl (jb5 (jaH (i := 4) jbw.nd rfl (Or.inl rfl) (Or.inl rfl)) (jb5 (jaH (i := 5) jbw.nd rfl (Or.inl rfl) (Or.inl rfl)) jfY rfl) rfl) rfl rfl)
 (jac (jar (i := 6) jbw.nd rfl (Or.inl rfl) (jcd K rfl PySem.F.plainAttrs_list PySem.F.slot_list_index PySem.F.type_list_index (jcT K rfl) (pv 1) (jaa (jae D_longest_at_end hr (by rfl) (jaa (pv 1) (jaa (jax ji2 (pv 2) (pv 4)) jab rfl) rfl) (by decide) (by decide) rfl rfl) jab rfl) rfl rfl rfl rfl rfl) rfl (Or.inl rfl))
   (jaf (jnp (jax jlR (jbg (jaZ K rfl) (pv 3) (pv 6) (fun _ _ => rfl)) (pv 5)) (jnn (pv 3) (pv 6) set_list (fun _ => rfl))))) (fun _ => rfl))
 (jaf (jam (jax jfd (pv 3) (jaU (jaa (jkR jiL (jaj (jea K rfl rfl) (by rfl) M.sum boot_sum (jaa (pv 0) jab rfl) (by decide) (by decide) rfl rfl)) jab rfl)))))))), ?_⟩
   walk_at "goL"
   refine ⟨⟨_, hb⟩, ?_⟩
   intro y hy
   refine jci (src := bs) (gv := fun l => V.str (S l)) (fun _ => V.int 0) (jbk hb) hy (small (by omega)) (fun j hj H' R t1 k1 => ?_) (fun H1 s1 hy1 => ?_)
   · walk_at "goL"
     exact k1 _ (jap.refl _)
   · have e0 : bs.map (fun _ => V.int 0) = (List.replicate bs.length (0 : Int)).map V.int := by
       rw [List.map_replicate]
       exact List.eq_replicate_iff.mpr ⟨by simp, fun x hx => by obtain ⟨_, _, z⟩ := List.mem_map.mp hx; exact z.symm⟩
     rw [e0] at hy1
     walk_at "goL"
     refine ⟨d, ns, rfl, s1.seq hd, ?_⟩
     walk_at "goL"
     refine jhl (s1.seq hb) ?_
     walk_at "goL"
     refine jg2 (s1.seq hb) htb ?_
     refine jnm hy1 (jhK (by rw [List.length_map, List.length_replicate]; exact jcY htb)) ?_
     rw [← List.map_set]
     have s2 := jai (o := .lst (((List.replicate bs.length (0 : Int)).set (bs.idxOf t) ns.sum).map V.int)) s1 hy
     walk_at "goL"
     refine ⟨d, _, rfl, s2.seq hd, ?_⟩
     rw [hl]
     walk_at "goL"
     refine ⟨_, d, _, rfl, s2.seq hd, by rw [hl, hpl], List.all_eq_true.mpr fun c hc => decide_eq_true (joM c (List.mem_of_mem_take hc)), ?_⟩
     let Pv0 : Nat → L2.St → Hp → Prop := (fun i σ H2 => ∃ x5 x6 x7 : Option V, jap H H2 ∧ H2 y = some (.lst ((jcf ws bs t ((prs ns).take i) ((List.replicate bs.length 0).set (bs.idxOf t) ns.sum)).map V.int)) ∧
       σ = [some (.ref d), some (.ref b), some (.str (S t)), some (.ref y), x5, x6, x7])
     refine jrw (xs := ns.map V.int) (by rw [hl, hpl]) Pv0 ⟨none, none, none, s2, jah, rfl⟩ (by rintro i σ H2 _ ⟨_, _, _, e, _⟩; exact e.seq hd) ?_ ?_
     · rintro i c x σ H2 hc hx ⟨x5, x6, x7, s3, e3, rfl⟩ tt ntt
       rw [List.getElem?_map] at hx
       obtain ⟨hil, rfl⟩ := List.getElem?_eq_some_iff.mp hc
       have hin : i < ns.length := by omega
       rw [List.getElem?_eq_getElem hin] at hx
       obtain rfl := (Option.some.inj hx).symm
       have st := jai (o := .tup [V.str (S [(abcd.take ns.length)[i]]), V.int ns[i]]) (jap.refl H2) ntt
       have s4 := s3.trans st
       have e4 := st _ _ e3
       have hpi : i < (prs ns).length := by omega
       have ep : (prs ns)[i] = ((abcd.take ns.length)[i], ns[i]) := by simp [prs]
       have stp := ji5 (ws := ws) (bs := bs) (s := t) (r := (List.replicate bs.length 0).set (bs.idxOf t) ns.sum) hpi
       rw [ep] at stp
       have hbe := (hB.mem _).mpr (jcH ne (t ++ [(abcd.take ns.length)[i]]))
       have lf : (jcf ws bs t ((prs ns).take i) ((List.replicate bs.length 0).set (bs.idxOf t) ns.sum)).length = bs.length := by rw [jcm, List.length_set, List.length_replicate]
       have lt5 : bs.idxOf (stF ws (t ++ [(abcd.take ns.length)[i]])) < (jcf ws bs t ((prs ns).take i) ((List.replicate bs.length 0).set (bs.idxOf t) ns.sum)).length := by rw [lf]; exact jcY hbe
       refine jjy (SqT.of jah) ?_
       walk_at "goL"
       refine jhl (s4.seq hb) ?_
       walk_at "goL"
       refine jma (by rw [List.length_singleton]; exact small (by omega)) ?_
       walk_at "goL"
       refine ⟨b, bs, ws, _, rfl, s4.seq hb, hB, ne, by omega, fun u hu => by have := hw.race.len ((hB.mem u).mp hu); omega, fun H5 s5 => ?_⟩
       have s05 := s4.trans s5
       have e5 := s5 _ _ e4
       walk_at "goL"
       refine jg2 (s05.seq hb) hbe ?_
       walk_at "goL"
       refine jdE (SqL.of e5) (jek lt5) ?_
       walk_at "goL"
       refine jnm e5 (jhK (by rw [List.length_map]; exact lt5)) ?_
       rw [← List.map_set]
       exact ⟨_, _, _, jai s05 hy, by rw [jah, stp], rfl⟩
     · rintro σ H2 ⟨x5, x6, x7, s3, e3, rfl⟩
       rw [hpl, ← hps, List.take_length] at e3
       walk_at "goL"
       refine ⟨d, ns, rfl, s3.seq hd, ?_⟩
       walk_at "goL"
       intro q nq
       have sq := jai (o := .lst [V.int (-ns.sum)]) (jap.refl H2) nq
       refine ⟨y, q, _, _, rfl, rfl, sq _ _ e3, jah, ?_, fun r nr => ?_⟩
       · rw [List.length_map, jcm, List.length_set, List.length_replicate]
         exact small (by show bs.length + 1 ≤ _; omega)
       · refine k r _ (jai (s3.trans sq) ((s3.trans sq).free nr)) ((s3.trans sq).free nr) ?_
         rw [jah]
         unfold jcN
         rw [List.map_append]
         rfl
def jbz (K : PySem.W.Frag) : Sp := fun vs H Q _ => ∃ a, ∃ ns : List Int, vs = [.ref a] ∧ SqL K H a (ns.map V.int) ∧ Q (.int ((jeQ ns : Nat) : Int)) H
theorem jaI : jan ["numbers", "factor", "number", "rest", "smaller"] ["numbers"] (jad ja1) := ⟨rfl, rfl, rfl, by decide +kernel, rfl, by decide +kernel, by decide +kernel⟩
theorem jeW {f : Addr} {fd : FuncData} (F : Fun K "common_factor" "common_factor" ja1 f fd) (M : Bl mg) (T : Cs P mg)  : jbf P w K mg base CX0 37 f fd ["numbers"] (jbz K) := by
 refine F.ok jaI (fun vs H Q E h => ?_) (fun cdv A outer s H vs Q E hr h => ?_)
 · obtain ⟨a, ns, rfl, _⟩ := h; rfl
 · obtain ⟨a, ns, rfl, hS, k⟩ := h
   refine ⟨_, (jac (jar (i := 1) jaI.nd rfl (Or.inl rfl) jag rfl (Or.inl rfl))
 (jac (jb6 PassesOwn.never rfl (jaS K rfl (pv 0)) (jaH (i := 2) jaI.nd rfl (Or.inl rfl) (Or.inl rfl))
 (jac (jar (i := 3) jaI.nd rfl (Or.inl rfl) (jaj jnb (by rfl) M.abs boot_abs (jaa (pv 2) jab rfl) (by decide) (by decide) rfl rfl) rfl (Or.inl rfl))
   (jaf (jm2 PassesOwn.never (jak jjg (pv 3) jag (jas _))
   (jac (jar (i := 4) jaI.nd rfl (Or.inl rfl) (jax jcw (pv 1) (pv 3)) rfl (Or.inl rfl))
     (jac (jar (i := 1) jaI.nd rfl (Or.inl rfl) (pv 3) rfl (Or.inl rfl))
     (jaf (jar (i := 3) jaI.nd rfl (Or.inl rfl) (pv 4) rfl (Or.inl rfl)))))))) (fun _ => rfl))
 (jaf (jam (pv 1))))), ?_⟩
   walk_at "goL"
   refine ⟨⟨_, hS⟩, ?_⟩
   let Pv0 : Nat → L2.St → Hp → Prop := (fun i σ H2 => ∃ x y z : Option V, H2 = H ∧ σ = [some (.ref a), some (.int ((jeQ (ns.take i) : Nat) : Int)), x, y, z])
   refine forL (xs := ns.map V.int) Pv0 ⟨none, none, none, rfl, rfl⟩ (by rintro i σ H2 _ ⟨_, _, _, e, _⟩; exact e ▸ hS) ?_ ?_
   · rintro i x σ H2 hi ⟨x1, y1, z1, rfl, rfl⟩
     have hlt : i < ns.length := by have := (List.getElem?_eq_some_iff.mp hi).1; rw [List.length_map] at this; exact this
     rw [List.getElem?_map, List.getElem?_eq_getElem hlt] at hi
     obtain rfl := (Option.some.inj hi).symm
     walk_at "goL"
     have ea : (if ns[i] < 0 then -ns[i] else ns[i]) = ((ns[i].natAbs : Nat) : Int) := by split <;> omega
     rw [ea]
     have et : ns.take (i + 1) = ns.take i ++ [ns[i]] := by rw [List.take_succ_eq_append_getElem hlt]
     refine jmK (fun σ H3 => ∃ (f r : Nat) (z : Option V), H3 = H2 ∧ σ = [some (.ref a), some (.int (f : Int)), some (.int ns[i]), some (.int (r : Int)), z] ∧ Nat.gcd f r = jeQ (ns.take (i + 1)))
       (fun (σ : List (Option V)) _ => match σ[3]? with | some (some (V.int r)) => r.toNat | _ => 0) ⟨_, _, _, rfl, rfl, by rw [et, jlN]⟩ ?_ (by rintro σ H Q Q' hq ⟨v, e, hs, k, ek, q⟩; exact ⟨v, e, hs, k, ek, hq _ _ q⟩)
     rintro σ H3 ⟨f, r, z, rfl, rfl, hg⟩
     walk_at "goL"
     by_cases hr0 : r = 0
     · subst hr0
       refine jow (by decide) ?_
       rw [Nat.gcd_zero_right] at hg
       rw [hg]
       exact ⟨_, _, _, rfl, rfl⟩
     · refine jpv (fun _ => ?_) (fun z => absurd z (by omega))
       walk_at "goL"
       have em : (f : Int) % (r : Int) = ((f % r : Nat) : Int) := by omega
       rw [em]
       refine ⟨⟨r, f % r, _, rfl, rfl, ?_⟩, ?_⟩
       · rw [← hg, Nat.gcd_comm f r, Nat.gcd_rec r f, Nat.gcd_comm]
       · show ((f % r : Nat) : Int).toNat < ((r : Nat) : Int).toNat
         have := Nat.mod_lt f (show r > 0 by omega)
         omega
   · rintro σ H2 ⟨x, y, z, rfl, rfl⟩
     rw [List.length_map, List.take_length]
     walk_at "goL"
     exact k
theorem jjM (p e : Int) : ∀ (r q : List Int), comb p e r q = (r.zip q).map fun x => x.1 * p - x.2 * e
 | [], q => by simp [comb]
 | a :: r, [] => by simp [comb]
 | a :: r, b :: q => by
   have := jjM p e r q
   unfold comb at this ⊢
   rw [List.zipWith_cons_cons, this]
   rfl
def jdV (K : PySem.W.Frag) : Sp := fun vs H Q _ => ∃ u e, ∃ us es : List Int, ∃ p n : Nat, vs = [.int (p : Int), .ref u, .ref e] ∧ SqL K H u (us.map V.int) ∧ SqL K H e (es.map V.int) ∧ es.length = us.length ∧ us.length ≤ 1000 ∧ p < us.length ∧ jir n us ∧ jir n es ∧ n ≤ 60000000 ∧ 0 < jeQ (comb (us.getD p 0) (es.getD p 0) es us) ∧
 ∀ r H', jap H H' → H r = none → H' r = some (.lst ((jcD p us es).map V.int)) → Q (.ref r) H'
theorem jcs : jan ["place", "used", "equation", "numbers", "factor"] ["place", "used", "equation"] (jad jbP) := ⟨rfl, rfl, rfl, by decide +kernel, rfl, by decide +kernel, by decide +kernel⟩
theorem ji7 {f : Addr} {fd : FuncData} (F : Fun K "freed_of" "freed_of" jbP f fd) (M : Bl mg) (T : Cs P mg) {f_common_factor : Addr} {fd_common_factor : FuncData} (D_common_factor : Df P w K mg base "common_factor" 37 f_common_factor fd_common_factor ["numbers"] (jbz K)) : jbf P w K mg base CX0 38 f fd ["place", "used", "equation"] (jdV K) := by
 refine F.ok jcs (fun vs H Q E h => ?_) (fun cdv A outer s H vs Q E hr h => ?_)
 · obtain ⟨u, e, us, es, p, n, rfl, _⟩ := h; rfl
 · obtain ⟨u, e, us, es, p, n, rfl, hu, he, hlen, hfew, hp, bu, be, hn, hg, k⟩ := h
   have hg' : (0 : Int) < ((jeQ (comb (us.getD p 0) (es.getD p 0) es us) : Nat) : Int) := by omega
   have hzl : (es.zip us).length = us.length := by rw [List.length_zip, hlen, Nat.min_self]
   refine ⟨_, (jac (je0 (jad jbP) ["place", "used", "equation", "numbers", "factor"] ["own", "other", "used", "place", "equation"] [none, none, some 1, some 0, some 2] (jaH (i := 3) jcs.nd rfl (Or.inl rfl) (Or.inl rfl)) ⟨rfl, by decide +kernel, by decide +kernel, by decide +kernel, by decide +kernel, rfl, by decide +kernel⟩ (jox K rfl (by rfl) M.zip (jaa (pv 2) (jaa (pv 1) jab rfl) rfl) rfl) (fun s3 H3 C fp => ⟨jfE K (n := 2) rfl rfl (jb5 (pgb (i := 0) (by decide +kernel) rfl rfl) (jb5 (pgb (i := 1) (by decide +kernel) rfl rfl) jfY rfl) rfl) rfl rfl, jbH, (jax jlR (jax jcb (pvb 0) (jbg (jaZ K rfl) (pvb 2) (pvb 3) (fun _ _ => rfl))) (jax jcb (pvb 1) (jbg (jaZ K rfl) (pvb 4) (pvb 3) (fun _ _ => rfl))))⟩) rfl rfl rfl rfl (fun _ => rfl))
 (jac (jar (i := 4) jcs.nd rfl (Or.inr rfl) (jae D_common_factor hr (by rfl) (jaa (pv 3) jab rfl) (by decide) (by decide) rfl rfl) rfl (Or.inl rfl))
 (jaf (jam (jaY (jad jbP) ["place", "used", "equation", "numbers", "factor"] ["number", "factor"] [none, some 4] ⟨rfl, by decide +kernel, by decide +kernel, by decide +kernel, by decide +kernel, rfl, by decide +kernel⟩ (jaS K rfl (pv 3)) (fun s3 H3 C fp => ⟨pgb (i := 0) (by decide +kernel) rfl rfl, jbH, (jax (jg8 ⟨_, _, rfl, jcs.gen, jcs.co, rfl, rfl⟩ T.tree hr (by decide)) (pvb 0) (pvb 1))⟩) rfl rfl rfl (fun _ => rfl)))))), ?_⟩
   walk_at "goL"
   refine ⟨e, u, _, _, rfl, he, hu, by rw [List.length_map, List.length_map, hlen], ?_⟩
   intro y hy
   have gz := jlw he hu (by rw [List.length_map, List.length_map, hlen])
   rw [List.zip_map] at gz
   refine jgx K (src := es.zip us) (gv := Prod.map V.int V.int) (fun _ => true) (fun x => V.int (x.1 * us.getD p 0 - x.2 * es.getD p 0)) gz hy (by rw [hzl]; exact small hfew) (fun x hx H' R t1 k1 => ?_) (fun x hx _ H' R t1 k1 => ?_) (fun H1 s1 hy1 => ?_)
   · exact k1 _ (jap.refl _)
   · obtain ⟨a, c⟩ := x
     have m1 := List.of_mem_zip hx
     walk_at "goL"
     refine jdE (t1.seq hu) (jek hp) ?_
     walk_at "goL"
     refine jeT (be a m1.1) (bu.at p) (by omega) ?_
     walk_at "goL"
     refine jdE (t1.seq he) (jek (by omega)) ?_
     walk_at "goL"
     refine jeT (bu c m1.2) (be.at p) (by omega) ?_
     walk_at "goL"
     exact k1 _ (jap.refl _)
   · rw [jgF, show (es.zip us).map (fun x => V.int (x.1 * us.getD p 0 - x.2 * es.getD p 0)) = (comb (us.getD p 0) (es.getD p 0) es us).map V.int by rw [jjM, List.map_map]; rfl] at hy1
     walk_at "goL"
     refine ⟨y, _, rfl, SqL.of hy1, ?_⟩
     walk_at "goL"
     refine ⟨⟨_, SqL.of hy1⟩, ?_⟩
     intro z hz
     refine jci (src := comb (us.getD p 0) (es.getD p 0) es us) (gv := V.int) (fun a => V.int (a / ((jeQ (comb (us.getD p 0) (es.getD p 0) es us) : Nat) : Int))) (jbk (SqL.of hy1)) hz (by rw [jjU hlen]; exact small (by omega)) (fun a ha H' R t1 k1 => ?_) (fun H2 s2 hz2 => ?_)
     · walk_at "goL"
       exact k1 _ (jap.refl _)
     · walk_at "goL"
       refine k z H2 (s1.trans s2) (s1.free hz) ?_
       rw [hz2]
       unfold jcD
       rw [List.map_map]
       rfl
theorem jly {α : Type} (x : α) (xs : List α) : atI (x :: xs) 0 = some x := by
 unfold atI
 have e : ixN (x :: xs).length (0 : Int) = some 0 := jhK (j := 0) (by rw [List.length_cons]; omega)
 rw [e]
 rfl
def jhU (H : Hp) (ps : List Addr) (eqs : List (List Int)) : Prop := ps.length = eqs.length ∧ ∀ (i : Nat) (p : Addr) (r : List Int), ps[i]? = some p → eqs[i]? = some r → H p = some (.lst (r.map V.int))
theorem jhU.same {H H' : Hp} {ps : List Addr} {eqs : List (List Int)} (h : jhU H ps eqs) (s : jap H H') : jhU H' ps eqs := ⟨h.1, fun i p r a b => s _ _ (h.2 i p r a b)⟩
theorem jeP {α : Type} {H : Hp} {f : α → List Int} {src : List α} {ys : List V} (h : jeR (fun x y => ∃ p, y = V.ref p ∧ H p = some (.lst ((f x).map V.int))) src ys) : ∃ ps : List Addr, ys = ps.map V.ref ∧ jhU H ps (src.map f) := by
 induction h with
 | nil => exact ⟨[], rfl, rfl, fun i p r a => by simp at a⟩
 | @snoc a0 b0 l m _ g ih =>
   obtain ⟨ps, rfl, h1, h2⟩ := ih
   obtain ⟨p, rfl, hp⟩ := g
   refine ⟨ps ++ [p], by simp, by simpa using h1, fun i q r a b => ?_⟩
   rw [List.map_append] at b
   rw [List.length_map] at h1
   by_cases hi : i < ps.length
   · rw [List.getElem?_append_left hi] at a
     rw [List.getElem?_append_left (by rw [List.length_map]; omega)] at b
     exact h2 i q r a b
   · rw [List.getElem?_append_right (by omega)] at a
     rw [List.getElem?_append_right (by rw [List.length_map]; omega), List.length_map, ← h1] at b
     obtain ⟨z1, z2⟩ := List.getElem?_eq_some_iff.mp a
     have e : i - ps.length = 0 := by simpa using z1
     rw [e] at a b
     have a' : p = q := by simpa using a
     have b' : f a0 = r := by simpa using b
     rw [← a', ← b']
     exact hp
theorem jmL {dn : List Int} {ws bs : List Tx} {n : Nat} {done rem : List Tx} {o : Tx} {eqs : List (List Int)} (R : Race dn.length ws) (B : jgs ws bs) (hm : ∀ t ∈ o :: rem, t ∈ bs) (nd : (o :: rem).Nodup) (h : jgT dn ws bs n done (o :: rem) eqs) :
   ∃ q es, eqs = q :: es ∧ q.length = bs.length + 1 ∧ jir n q ∧ ∀ e ∈ es, e.length = bs.length + 1 ∧ jir n e ∧ 0 < jeQ (comb (q.getD (bs.idxOf o) 0) (e.getD (bs.idxOf o) 0) e q) := by
 cases eqs with
 | nil => have := h.len; simp at this
 | cons q es =>
   have gq : Good (bs.length + 1) (vI ws bs) (bs.idxOf o) q := h.good 0 (by simp) (by simp)
   refine ⟨q, es, rfl, gq.len, h.bits q List.mem_cons_self, fun e he => ?_⟩
   obtain ⟨i, hi, rfl⟩ := List.mem_iff_getElem.mp he
   have hl : es.length = rem.length := by simpa using h.len
   have gi : Good (bs.length + 1) (vI ws bs) (bs.idxOf rem[i]) es[i] := h.good (i + 1) (by simp; omega) (by simpa using hi)
   have nd' := (List.nodup_cons.mp nd).1
   refine ⟨gi.len, h.bits _ (List.mem_cons_of_mem _ he), jgX (jec R B) gi gq fun z => nd' ?_⟩
   rw [jfi (hm o List.mem_cons_self) (hm _ (List.mem_cons_of_mem _ (List.getElem_mem (show i < rem.length by omega)))) z]
   exact List.getElem_mem _
def jeg (K : PySem.W.Frag) : Sp := fun vs H Q _ => ∃ d a, ∃ ns : List Int, ∃ ws t, vs = [.ref d, .ref a, .str (S t)] ∧ SqL K H d (ns.map V.int) ∧ jav ns ∧ SqL K H a (txs ws) ∧ jbc ns.length ws ∧ Beg ws t ∧ t ∉ ws ∧
 ∀ r bs row H', jap H H' → H' r = some (.lst (row.map V.int)) → joL ws bs → Told ns ws bs (jcS 20) t row → Q (.ref r) H'
theorem jcy : jan ["die", "words", "state", "begun", "others", "equations", "other", "place"] ["die", "words", "state"] (jad jcj) := ⟨rfl, rfl, rfl, by decide +kernel, rfl, by decide +kernel, by decide +kernel⟩
theorem jmb {f : Addr} {fd : FuncData} (F : Fun K "solved" "solved" jcj f fd) (M : Bl mg) (T : Cs P mg) {f_beginnings_of : Addr} {fd_beginnings_of : FuncData} (D_beginnings_of : Df P w K mg base "beginnings_of" 37 f_beginnings_of fd_beginnings_of ["words"] (jaC K)) {f_equation_of : Addr} {fd_equation_of : FuncData} (D_equation_of : Df P w K mg base "equation_of" 38 f_equation_of fd_equation_of ["die", "begun", "state"] (jcP K)) {f_freed_of : Addr} {fd_freed_of : FuncData} (D_freed_of : Df P w K mg base "freed_of" 38 f_freed_of fd_freed_of ["place", "used", "equation"] (jdV K)) : jbf P w K mg base CX0 39 f fd ["die", "words", "state"] (jeg K) := by
 refine F.ok jcy (fun vs H Q E h => ?_) (fun cdv A outer s H vs Q E hr h => ?_)
 · obtain ⟨d, a, ns, ws, t, rfl, _⟩ := h; rfl
 · obtain ⟨d, a, ns, ws, t, rfl, hd, hdo, hS, hw, ht, htw, k⟩ := h
   have ne := hw.race.ne
   refine ⟨_, (jac (jar (i := 3) jcy.nd rfl (Or.inr rfl) (jae D_beginnings_of hr (by rfl) (jaa (pv 1) jab rfl) (by decide) (by decide) rfl rfl) rfl (Or.inl rfl))
 (jac (je0 (jad jcj) ["die", "words", "state", "begun", "others", "equations", "other", "place"] ["text", "words", "state"] [none, some 1, some 2] (jaH (i := 4) jcy.nd rfl (Or.inl rfl) (Or.inl rfl)) ⟨rfl, by decide +kernel, by decide +kernel, by decide +kernel, by decide +kernel, rfl, by decide +kernel⟩ (jaS K rfl (pv 3)) (fun s3 H3 C fp => ⟨pgb (i := 0) (by decide +kernel) rfl rfl, (jfo (PW.pt (jpw (jak (jfy K rfl) (pvb 0) (pvb 1) (by with_unfolding_all rfl)) (jop (jak jjg (pvb 0) (pvb 2) (jas _)))))), (pvb 0)⟩) rfl rfl rfl rfl (fun _ => rfl))
 (jac (jar (i := 5) jcy.nd rfl (Or.inr rfl) (jaY (jad jcj) ["die", "words", "state", "begun", "others", "equations", "other", "place"] ["text", "die", "begun"] [none, some 0, some 3] ⟨rfl, by decide +kernel, by decide +kernel, by decide +kernel, by decide +kernel, rfl, by decide +kernel⟩ (jaS K rfl (jax jfd (pv 4) (jaU (jaa (pv 2) jab rfl)))) (fun s3 H3 C fp => ⟨pgb (i := 0) (by decide +kernel) rfl rfl, jbH, (jae D_equation_of hr (glb rfl) (jaa (pvb 1) (jaa (pvb 2) (jaa (pvb 0) jab rfl) rfl) rfl) (by decide) (by decide) rfl rfl)⟩) rfl rfl rfl (fun _ => rfl)) rfl (Or.inl rfl))
 (jac (jb6 PassesOwn.never rfl (jaS K rfl (pv 4)) (jaH (i := 6) jcy.nd rfl (Or.inl rfl) (Or.inl rfl))
 (jac (jar (i := 7) jcy.nd rfl (Or.inr rfl) (jcd K rfl PySem.F.plainAttrs_list PySem.F.slot_list_index PySem.F.type_list_index (jcT K rfl) (pv 3) (jaa (pv 6) jab rfl) rfl rfl rfl rfl rfl) rfl (Or.inl rfl))
   (jaf (jar (i := 5) jcy.nd rfl (Or.inr rfl) (jaY (jad jcj) ["die", "words", "state", "begun", "others", "equations", "other", "place"] ["equation", "place", "equations"] [none, some 7, some 5] ⟨rfl, by decide +kernel, by decide +kernel, by decide +kernel, by decide +kernel, rfl, by decide +kernel⟩ (jaS K rfl (jbd (jda K rfl) (pv 5) (jbV jag) jbT)) (fun s3 H3 C fp => ⟨pgb (i := 0) (by decide +kernel) rfl rfl, jbH, (jae D_freed_of hr (glb rfl) (jaa (pvb 1) (jaa (jbg (jaZ K rfl) (pvb 2) jag (fun _ _ => rfl)) (jaa (pvb 0) jab rfl) rfl) rfl) (by decide) (by decide) rfl rfl)⟩) rfl rfl rfl (fun _ => rfl)) rfl (Or.inl rfl)))) (fun _ => rfl))
 (jaf (jam (jbg (jaZ K rfl) (pv 5) jag (fun _ _ => rfl)))))))), ?_⟩
   walk_at "goL"
   refine ⟨a, ws, _, rfl, hS, hw, fun rb bs H1 s1 nrb hrb hBO => ?_⟩
   have hB := hBO.l
   have hfew := jfU hw hB
   walk_at "goL"
   refine ⟨⟨_, SqL.of hrb⟩, ?_⟩
   intro D1 hD1
   refine jd1 (src := bs) (gv := fun l => V.str (S l)) (fun u => !decide (u ∈ ws) && !decide (u = t)) (fun u => V.str (S u)) (jbk (SqL.of hrb)) hD1 (small (by omega)) (fun u hu H' R t1 k1 => ?_) (fun u hu _ H' R t1 k1 => ?_) (fun H2 s2 e2 => ?_)
   · walk_at "goL"
     refine jhh ((s1.trans t1).seq hS) ?_
     walk_at "goL"
     by_cases hin : u ∈ ws
     · refine jpU (by simp [hin]) ?_
       simpa [hin] using k1 _ (jap.refl _)
     · refine jpa (by simp [hin]) ?_
       walk_at "goL"
       simpa [hin] using k1 _ (jap.refl _)
   · walk_at "goL"
     exact k1 _ (jap.refl _)
   · generalize hos : bs.filter (fun u => !decide (u ∈ ws) && !decide (u = t)) = os at e2
     have ho : ∀ u, u ∈ os ↔ Beg ws u ∧ u ∉ ws ∧ u ≠ t := fun u => by
       rw [← hos, List.mem_filter, hB.mem]
       simp
     have ond : os.Nodup := by rw [← hos]; exact hB.nd.filter _
     obtain ⟨olen, T⟩ := jfs hdo hw.race hB ht htw ond ho
     have hall : ∀ u ∈ os ++ [t], Beg ws u ∧ u ∉ ws := fun u hu => by
       rcases List.mem_append.mp hu with z | z
       · exact ⟨((ho u).mp z).1, ((ho u).mp z).2.1⟩
       · obtain rfl : u = t := by simpa using z
         exact ⟨ht, htw⟩
     have nd2 : (os ++ [t]).Nodup := by
       rw [List.nodup_append]
       refine ⟨ond, by simp, fun x hx y hy => ?_⟩
       obtain rfl : y = t := by simpa using hy
       exact ((ho x).mp hx).2.2
     have R0 := jgK hdo hw.race hB hall
     have s12 := s1.trans s2
     walk_at "goL"
     intro q nq
     have sq := jai (o := .lst [V.str (S t)]) (jap.refl H2) nq
     refine ⟨D1, q, _, _, rfl, rfl, sq _ _ e2, jah, by rw [List.length_map]; exact small (by show os.length + 1 ≤ _; omega), fun c nc => ?_⟩
     have sc := jai (o := .lst (os.map (fun u => V.str (S u)) ++ [V.str (S t)])) sq (sq.free nc)
     have ec : os.map (fun u => V.str (S u)) ++ [V.str (S t)] = txs (os ++ [t]) := by rw [txs, List.map_append]; rfl
     have s3 := s12.trans sc
     have hrb3 := (s2.trans sc) _ _ hrb
     walk_at "goL"
     refine ⟨⟨_, SqL.of jah⟩, ?_⟩
     intro D2 hD2
     have hc3 : upd (upd H2 q (.lst [V.str (S t)])) c (.lst (os.map (fun u => V.str (S u)) ++ [V.str (S t)])) c = some (.lst (txs (os ++ [t]))) := by rw [jah, ec]
     generalize upd (upd H2 q (.lst [V.str (S t)])) c (.lst (os.map (fun u => V.str (S u)) ++ [V.str (S t)])) = H3 at *
     have b3 := (s2.trans sc) _ _ hrb
     have d3 := sc _ _ e2
     refine jcQ (src := os ++ [t]) (gv := fun l => V.str (S l)) (fun u y H => ∃ p, y = V.ref p ∧ p ≠ D2 ∧ H p = some (.lst ((jcN ns ws bs u).map V.int))) (jbk (SqL.of hc3)) hD2 (small (by rw [List.length_append, List.length_singleton]; omega))
       (by rintro u y G G' hk ⟨p, e, hp, g⟩; exact ⟨p, e, hp, hk p _ hp g⟩) (fun u hu H' R t1 nD k1 => ?_) (fun H4 ys s4 e4 all => ?_)
     · walk_at "goL"
       refine ⟨d, rb, ns, ws, bs, u, rfl, (s3.trans t1).seq hd, hdo, SqL.of (t1 _ _ b3), hw, hB, (hall u hu).1, fun p H5 s5 n5 e5 => ?_⟩
       exact k1 _ H5 s5 ⟨p, rfl, fun z => nD (by rw [← z]; exact n5), e5⟩
     · obtain ⟨ps, rfl, RA⟩ := jeP (f := jcN ns ws bs) (all.mono fun x y ⟨p, e, _, g⟩ => ⟨p, e, g⟩)
       walk_at "goL"
       refine ⟨⟨_, SqL.of (s4 _ _ d3)⟩, ?_⟩
       let Pv0 : Nat → L2.St → Hp → Prop := (fun i σ H5 => ∃ (x5 x6 : Option V) (pe : Addr) (ps : List Addr) (eqs : List (List Int)), jap H H5 ∧ H5 rb = some (.lst (txs bs)) ∧ H5 D1 = some (.lst (os.map fun u => V.str (S u))) ∧ H5 pe = some (.lst (ps.map V.ref)) ∧ jhU H5 ps eqs ∧
           jgT ns ws bs (jcS i) (os.take i) (os.drop i ++ [t]) eqs ∧ jey bs (os.drop i) eqs = jey bs os ((os ++ [t]).map (jcN ns ws bs)) ∧
           σ = [some (.ref d), some (.ref a), some (.str (S t)), some (.ref rb), some (.ref D1), some (.ref pe), x5, x6])
       refine forL (xs := os.map fun u => V.str (S u)) Pv0
         ⟨none, none, D2, ps, _, s3.trans s4, s4 _ _ b3, s4 _ _ d3, e4, RA, R0, rfl, rfl⟩ (by rintro i σ H5 _ ⟨_, _, _, _, _, _, _, z, _⟩; exact SqL.of z) ?_ ?_
       · rintro i x σ H5 hi ⟨x5, x6, pe, ps, eqs, s5, b5, d5, e5, RA5, RO, ev, rfl⟩
         have hlt : i < os.length := by have := (List.getElem?_eq_some_iff.mp hi).1; rw [List.length_map] at this; exact this
         rw [List.getElem?_map, List.getElem?_eq_getElem hlt] at hi
         obtain rfl := (Option.some.inj hi).symm
         have hob := (hB.mem _).mpr ((ho _).mp (List.getElem_mem hlt)).1
         have dr : os.drop i = os[i] :: os.drop (i + 1) := List.drop_eq_getElem_cons hlt
         rw [dr] at RO ev
         have hm : ∀ u ∈ os[i] :: (os.drop (i + 1) ++ [t]), u ∈ bs := fun u hu => (hB.mem u).mpr (hall u (by
           rw [← List.cons_append, ← dr] at hu
           rcases List.mem_append.mp hu with z | z
           · exact List.mem_append_left _ (List.mem_of_mem_drop z)
           · exact List.mem_append_right _ z)).1
         have nd3 : (os[i] :: (os.drop (i + 1) ++ [t])).Nodup := by
           rw [← List.cons_append, ← dr, ← List.drop_append_of_le_length (by omega)]
           exact nd2.sublist (List.drop_sublist _ _)
         obtain ⟨q1, es, rfl, ql, qb, each⟩ := jmL hw.race hB hm nd3 RO
         have RO' := jip hw.race hB hm nd3 RO
         have bsz : jcS i ≤ 60000000 := by
           have h1 := jf1 (show i ≤ 20 by omega)
           have h2 := jd4 20
           have e : (2 : Nat) ^ 20 = 1048576 := (by decide)
           omega
         have pl : ps.length = es.length + 1 := by have := RA5.1; simpa using this
         match ps, pl with
         | p1 :: ps, pl =>
         have pl' : ps.length = es.length := by simpa using pl
         walk_at "goL"
         refine jg2 (SqL.of b5) hob ?_
         walk_at "goL"
         refine ⟨pe, _, rfl, SqL.of e5, fun pc npc => ?_⟩
         have ecut : jmh ((p1 :: ps).map V.ref) (some 1) none = ps.map V.ref := (jfL ((p1 :: ps).map V.ref) 1).trans rfl
         rw [ecut]
         have sp := jai (o := .lst (ps.map V.ref)) (jap.refl H5) npc
         have hpc : upd H5 pc (.lst (ps.map V.ref)) pc = some (.lst (ps.map V.ref)) := jah
         generalize upd H5 pc (.lst (ps.map V.ref)) = H6 at *
         have RA6 := RA5.same sp
         walk_at "goL"
         refine ⟨⟨_, SqL.of hpc⟩, ?_⟩
         intro D3 hD3
         have ez : (ps.zip es).map (fun z => V.ref z.1) = ps.map V.ref := by
           rw [show (ps.zip es).map (fun z => V.ref z.1) = ((ps.zip es).map Prod.fst).map V.ref by rw [List.map_map]; rfl, List.map_fst_zip (by omega)]
         have ez2 : (ps.zip es).map Prod.snd = es := List.map_snd_zip (by omega)
         have zl : (ps.zip es).length = es.length := by rw [List.length_zip, pl', Nat.min_self]
         have el : es.length ≤ 21 := by
           have h1 := RO.len
           simp at h1
           omega
         have gl := jbk (K := K) (SqL.of hpc)
         rw [← ez] at gl
         have hq1 : H6 p1 = some (.lst (q1.map V.int)) := RA6.2 0 p1 q1 rfl rfl
         have pos : bs.idxOf os[i] < bs.length + 1 := by have := jcY hob; omega
         refine jcQ (src := ps.zip es) (gv := fun z => V.ref z.1) (fun z y H => ∃ p, y = V.ref p ∧ p ≠ D3 ∧ H p = some (.lst ((jcD (bs.idxOf os[i]) q1 z.2).map V.int))) gl hD3 (small (by omega))
           (by rintro u y G G' hk ⟨p, e, hp, g⟩; exact ⟨p, e, hp, hk p _ hp g⟩) (fun z hz H' R t1 nD k1 => ?_) (fun H7 ys s7 e7 all => ?_)
         · obtain ⟨zp, ze⟩ := z
           obtain ⟨j, hj, ej⟩ := List.mem_iff_getElem.mp hz
           rw [List.getElem_zip] at ej
           have ej1 : ps[j]'(by omega) = zp := congrArg Prod.fst ej
           have ej2 : es[j]'(by omega) = ze := congrArg Prod.snd ej
           have hze : H6 zp = some (.lst (ze.map V.int)) := RA6.2 (j + 1) zp ze (by rw [List.getElem?_cons_succ, List.getElem?_eq_getElem (by omega), ej1]) (by rw [List.getElem?_cons_succ, List.getElem?_eq_getElem (by omega), ej2])
           obtain ⟨el1, eb1, eg1⟩ := each ze (by rw [← ej2]; exact List.getElem_mem _)
           walk_at "goL"
           refine jdE (SqL.of (t1 _ _ (sp _ _ e5))) (jly (V.ref p1) (ps.map V.ref)) ?_
           walk_at "goL"
           refine ⟨p1, zp, q1, ze, bs.idxOf os[i], jcS i, rfl, SqL.of (t1 _ _ hq1), SqL.of (t1 _ _ hze), by omega, by omega, by omega, qb, eb1, bsz, eg1, fun r H8 s8 n8 e8 => ?_⟩
           exact k1 _ H8 s8 ⟨r, rfl, fun z => nD (by rw [← z]; exact n8), e8⟩
         · obtain ⟨ps7, rfl, RA7⟩ := jeP (f := fun z : Addr × List Int => jcD (bs.idxOf os[i]) q1 z.2) (all.mono fun x y ⟨p, e, _, g⟩ => ⟨p, e, g⟩)
           have s57 := sp.trans s7
           rw [show (ps.zip es).map (fun z : Addr × List Int => jcD (bs.idxOf os[i]) q1 z.2) = es.map (jcD (bs.idxOf os[i]) q1) by rw [← ez2, List.map_map]; rw [ez2]; rfl] at RA7
           refine ⟨_, _, D3, ps7, _, s5.trans s57, s57 _ _ b5, s57 _ _ d5, e7, RA7, ?_, ev, rfl⟩
           rw [List.take_succ_eq_append_getElem hlt]
           exact RO'
       · rintro σ H5 ⟨x5, x6, pe, ps, eqs, s5, b5, d5, e5, RA5, RO, ev, rfl⟩
         rw [List.length_map, List.drop_length] at RO ev
         have el := RO.len
         match eqs, el with
         | [row], _ =>
           have pl := RA5.1
           match ps, pl with
           | [p1], _ =>
             walk_at "goL"
             refine jdE (SqL.of e5) (jly (V.ref p1) []) ?_
             have ev' : row = jey bs os ((os ++ [t]).map (jcN ns ws bs)) := ev
             rw [← ev'] at T
             exact k p1 bs row H5 s5 (RA5.2 0 p1 row rfl rfl) hBO T
def jbi (_ : PySem.W.Frag) : Sp := fun vs H Q _ => ∃ t b : Int, vs = [.int t, .int b] ∧ 0 < b ∧ ∀ p H', jap H H' → H p = none → H' p = some (.tup (sh (Rat.divInt t b))) → Q (.ref p) H'
theorem jbZ : jan ["top", "bottom", "factor"] ["top", "bottom"] (jad jcq) := ⟨rfl, rfl, rfl, by decide +kernel, rfl, by decide +kernel, by decide +kernel⟩
theorem jjn {f : Addr} {fd : FuncData} (F : Fun K "share_of" "share_of" jcq f fd) (M : Bl mg) (T : Cs P mg) {f_common_factor : Addr} {fd_common_factor : FuncData} (D_common_factor : Df P w K mg base "common_factor" 37 f_common_factor fd_common_factor ["numbers"] (jbz K)) : jbf P w K mg base CX0 38 f fd ["top", "bottom"] (jbi K) := by
 refine F.ok jbZ (fun vs H Q E h => ?_) (fun cdv A outer s H vs Q E hr h => ?_)
 · obtain ⟨t, b, rfl, _⟩ := h; rfl
 · obtain ⟨t, b, rfl, hb, k⟩ := h
   obtain ⟨e1, e2⟩ := jeN (t := t) hb
   have hg : 0 < jeQ [t, b] := jjJ (a := b) (by simp) (by omega)
   have hg' : (0 : Int) < ((jeQ [t, b] : Nat) : Int) := by omega
   refine ⟨_, (jac (jar (i := 2) jbZ.nd rfl (Or.inl rfl) (jae D_common_factor hr (by rfl) (jaa (jaU (jaa (pv 0) (jaa (pv 1) jab rfl) rfl)) jab rfl) (by decide) (by decide) rfl rfl) rfl (Or.inl rfl))
 (jaf (jam (jlj (jaa (jax (jg8 ⟨_, _, rfl, jbZ.gen, jbZ.co, rfl, rfl⟩ T.tree hr (by decide)) (pv 0) (pv 2)) (jaa (jax (jg8 ⟨_, _, rfl, jbZ.gen, jbZ.co, rfl, rfl⟩ T.tree hr (by decide)) (pv 1) (pv 2)) jab rfl) rfl))))), ?_⟩
   walk_at "goL"
   intro p1 n1
   have s1 := jai (o := .lst [.int t, .int b]) (jap.refl H) n1
   walk_at "goL"
   refine ⟨p1, [t, b], rfl, SqL.of jah, ?_⟩
   walk_at "goL"
   intro p2 n2
   refine k p2 _ (jai s1 (s1.free n2)) (s1.free n2) ?_
   rw [jah, sh, e1, e2]
theorem jgP {n : Nat} {ws : List (List Nat)} {row : List Nat} (R : jbc n ws) (h : jdF ws row = none) : stF ws row ∉ ws := fun hm => by
 have hsuf := jco R.race.ne row
 have hlo := (R.w _ hm).lo
 have hle := hsuf.length_le
 unfold jdF at h
 rw [List.findSome?_eq_none_iff] at h
 have := h (row.length - 1) (List.mem_range.mpr (by omega))
 unfold endAt at this
 rw [Option.map_eq_none_iff, List.findIdx?_eq_none_iff] at this
 have := this _ hm
 rw [show row.length - 1 + 1 = row.length by omega, List.take_length] at this
 rw [jee.mpr hsuf] at this
 cases this
theorem jjQ : jcS 20 = 7340031 := by
 have h2 := jd4 20
 have e : (2 : Nat) ^ 20 = 1048576 := (by decide)
 omega
def jjw (H : Hp) (ps : List Addr) (qs : List Rat) : Prop := ps.length = qs.length ∧ ∀ (i : Nat) (p : Addr) (q : Rat), ps[i]? = some p → qs[i]? = some q → H p = some (.tup (sh q))
theorem jgf {α : Type} {H : Hp} {f : α → Rat} {src : List α} {ys : List V} (h : jeR (fun x y => ∃ p, y = V.ref p ∧ H p = some (.tup (sh (f x)))) src ys) : ∃ ps : List Addr, ys = ps.map V.ref ∧ jjw H ps (src.map f) := by
 induction h with
 | nil => exact ⟨[], rfl, rfl, fun i p r a => by simp at a⟩
 | @snoc a0 b0 l m _ g ih =>
   obtain ⟨ps, rfl, h1, h2⟩ := ih
   obtain ⟨p, rfl, hp⟩ := g
   refine ⟨ps ++ [p], by simp, by simpa using h1, fun i q r a b => ?_⟩
   rw [List.map_append] at b
   rw [List.length_map] at h1
   by_cases hi : i < ps.length
   · rw [List.getElem?_append_left hi] at a
     rw [List.getElem?_append_left (by rw [List.length_map]; omega)] at b
     exact h2 i q r a b
   · rw [List.getElem?_append_right (by omega)] at a
     rw [List.getElem?_append_right (by rw [List.length_map]; omega), List.length_map, ← h1] at b
     obtain ⟨z1, z2⟩ := List.getElem?_eq_some_iff.mp a
     have e : i - ps.length = 0 := by simpa using z1
     rw [e] at a b
     have a' : p = q := by simpa using a
     have b' : f a0 = r := by simpa using b
     rw [← a', ← b']
     exact hp
def jfH (K : PySem.W.Frag) : Sp := fun vs H Q _ => ∃ d a, ∃ ns : List Int, ∃ ws row, vs = [.ref d, .ref a, .str (S row)] ∧ SqL K H d (ns.map V.int) ∧ jav ns ∧ SqL K H a (txs ws) ∧ jbc ns.length ws ∧ ji3 ns.length row ∧ jdF ws row = none ∧
 ∀ r ps H', jap H H' → H r = none → H' r = some (.lst (ps.map V.ref)) → jjw H' ps (ws.map fun w => shq ns ws w (stF ws row)) → (∀ w ∈ ws, Sz 7340031 (shq ns ws w (stF ws row))) → Q (.ref r) H'
theorem jcX : jan ["die", "words", "row", "state", "begun", "numbers"] ["die", "words", "row"] (jad jcC) := ⟨rfl, rfl, rfl, by decide +kernel, rfl, by decide +kernel, by decide +kernel⟩
theorem jkL {f : Addr} {fd : FuncData} (F : Fun K "shares" "shares" jcC f fd) (M : Bl mg) (T : Cs P mg) {f_state_of_open : Addr} {fd_state_of_open : FuncData} (D_state_of_open : Df P w K mg base "state_of_open" 42 f_state_of_open fd_state_of_open ["die", "words", "row"] (jbA K)) {f_beginnings_of : Addr} {fd_beginnings_of : FuncData} (D_beginnings_of : Df P w K mg base "beginnings_of" 37 f_beginnings_of fd_beginnings_of ["words"] (jaC K)) {f_solved : Addr} {fd_solved : FuncData} (D_solved : Df P w K mg base "solved" 39 f_solved fd_solved ["die", "words", "state"] (jeg K)) {f_share_of : Addr} {fd_share_of : FuncData} (D_share_of : Df P w K mg base "share_of" 38 f_share_of fd_share_of ["top", "bottom"] (jbi K)) : jbf P w K mg base CX0 43 f fd ["die", "words", "row"] (jfH K) := by
 refine F.ok jcX (fun vs H Q E h => ?_) (fun cdv A outer s H vs Q E hr h => ?_)
 · obtain ⟨d, a, ns, ws, row, rfl, _⟩ := h; rfl
 · obtain ⟨d, a, ns, ws, row, rfl, hd, hdo, hS, hw, hro, hop, k⟩ := h
   have ne := hw.race.ne
   have hst := jgP hw hop
   have hbe := jcH ne row
   refine ⟨_, (jac (jar (i := 3) jcX.nd rfl (Or.inr rfl) (jae D_state_of_open hr (by rfl) (jaa (pv 0) (jaa (pv 1) (jaa (pv 2) jab rfl) rfl) rfl) (by decide) (by decide) rfl rfl) rfl (Or.inl rfl))
 (jac (jar (i := 4) jcX.nd rfl (Or.inr rfl) (jae D_beginnings_of hr (by rfl) (jaa (pv 1) jab rfl) (by decide) (by decide) rfl rfl) rfl (Or.inl rfl))
 (jac (jar (i := 5) jcX.nd rfl (Or.inr rfl) (jae D_solved hr (by rfl) (jaa (pv 0) (jaa (pv 1) (jaa (pv 3) jab rfl) rfl) rfl) (by decide) (by decide) rfl rfl) rfl (Or.inl rfl))
 (jaf (jam (jaY (jad jcC) ["die", "words", "row", "state", "begun", "numbers"] ["word", "numbers", "state", "begun"] [none, some 5, some 3, some 4] ⟨rfl, by decide +kernel, by decide +kernel, by decide +kernel, by decide +kernel, rfl, by decide +kernel⟩ (jaS K rfl (pv 1)) (fun s3 H3 C fp => ⟨pgb (i := 0) (by decide +kernel) rfl rfl, jbH, (jae D_share_of hr (glb rfl) (jaa (jkR jiL (jbg (jaZ K rfl) (pvb 1) (jcd K rfl PySem.F.plainAttrs_list PySem.F.slot_list_index PySem.F.type_list_index (jcT K rfl) (pvb 3) (jaa (pvb 0) jab rfl) rfl rfl rfl rfl rfl) (fun _ _ => rfl))) (jaa (jbg (jaZ K rfl) (pvb 1) (jcd K rfl PySem.F.plainAttrs_list PySem.F.slot_list_index PySem.F.type_list_index (jcT K rfl) (pvb 3) (jaa (pvb 2) jab rfl) rfl rfl rfl rfl rfl) (fun _ _ => rfl)) jab rfl) rfl) (by decide) (by decide) rfl rfl)⟩) rfl rfl rfl (fun _ => rfl))))))), ?_⟩
   walk_at "goL"
   refine ⟨d, a, ns, ws, row, rfl, hd, hdo, hS, hw, hro, hop, fun H1 s1 => ?_⟩
   walk_at "goL"
   refine ⟨a, ws, _, rfl, s1.seq hS, hw, fun rb bs H2 s2 nrb hrb hBO => ?_⟩
   have s12 := s1.trans s2
   have hB := hBO.l
   walk_at "goL"
   refine ⟨d, a, ns, ws, _, rfl, s12.seq hd, hdo, s12.seq hS, hw, hbe, hst, fun rn bs' nums H3 s3 hrn hBO' T => ?_⟩
   obtain rfl := hBO.uniq hBO'
   have s13 := s12.trans s3
   have hrb3 := s3 _ _ hrb
   have hsb := (hB.mem _).mpr hbe
   have own := T.own hw.race hB
   have nl : nums.length = bs.length + 1 := T.good.len
   have val : ∀ w ∈ ws, shq ns ws w (stF ws row) = Rat.divInt (-(nums.getD (bs.idxOf w) 0)) (nums.getD (bs.idxOf (stF ws row)) 0) := fun w hwm => by
     obtain ⟨h1, h2⟩ := jeh hdo hw.race (fun u => if u = w then 1 else 0) 0
     exact T.share hw.race hB hbe hst hwm h1 h2
   have hfew := jfU hw hB
   walk_at "goL"
   refine ⟨⟨_, s13.seq hS⟩, ?_⟩
   intro D hD
   refine jcQ (src := ws) (gv := fun l => V.str (S l)) (fun w y H => ∃ p, y = V.ref p ∧ p ≠ D ∧ H p = some (.tup (sh (shq ns ws w (stF ws row))))) (jbk (s13.seq hS)) hD (small (by have := hw.hi; omega))
     (by rintro u y G G' hk ⟨p, e, hp, g⟩; exact ⟨p, e, hp, hk p _ hp g⟩) (fun w hwm H' R t1 nD k1 => ?_) (fun H4 ys s4 e4 all => ?_)
   · have hwb : w ∈ bs := (hB.mem w).mpr ⟨w, hwm, List.prefix_rfl⟩
     walk_at "goL"
     refine jhl (SqL.of (t1 _ _ hrb3)) ?_
     walk_at "goL"
     refine jg2 (SqL.of (t1 _ _ hrb3)) hwb ?_
     refine jdE (SqL.of (t1 _ _ hrn)) (jek (by have := jcY hwb; omega)) ?_
     refine jmx ?_
     walk_at "goL"
     refine jhl (SqL.of (t1 _ _ hrb3)) ?_
     walk_at "goL"
     refine jg2 (SqL.of (t1 _ _ hrb3)) hsb ?_
     refine jdE (SqL.of (t1 _ _ hrn)) (jek (by have := jcY hsb; omega)) ?_
     walk_at "goL"
     refine ⟨_, _, rfl, own, fun p H5 s5 n5 e5 => ?_⟩
     refine k1 _ H5 s5 ⟨p, rfl, fun z => nD (by rw [← z]; exact n5), ?_⟩
     rw [val w hwm]
     exact e5
   · obtain ⟨ps, rfl, SA⟩ := jgf (f := fun w => shq ns ws w (stF ws row)) (all.mono fun x y ⟨p, e, _, g⟩ => ⟨p, e, g⟩)
     walk_at "goL"
     refine k D ps H4 (s13.trans s4) (s13.free hD) e4 SA fun w hwm => ?_
     rw [val w hwm]
     exact jcV own (by rw [Int.natAbs_neg, ← jjQ]; exact T.bits.at _) (by rw [← jjQ]; exact T.bits.at _)
abbrev jew := jmr
theorem jkx {f : Addr} {fd : FuncData} (F : Fun K "shares" "shares" jcC f fd) (M : Bl mg) (T : Cs P mg) (Y : Xc K mg c) {f_state_of_open : Addr} {fd_state_of_open : FuncData} (R_state_of_open : DfX P w K mg base "state_of_open" 42 f_state_of_open fd_state_of_open ["die", "words", "row"] (jbq K c)) : jbf P w K mg base (CX1 P w) 43 f fd ["die", "words", "row"] (jew K c) := by
 refine F.okG jcX (fun vs H Q E h => ?_) (fun cdv A outer s H vs Q E hr h => ?_)
 · obtain ⟨d, y, z, ns, rfl, _⟩ := h; rfl
 · obtain ⟨d, y, z, ns, rfl, hd, hb, k⟩ := h
   refine ⟨_, (jac (jar (i := 3) jcX.nd rfl (Or.inr rfl) (jay jb7 R_state_of_open hr (by rfl) (jaa (pv 0) (jaa (pv 1) (jaa (pv 2) jab rfl) rfl) rfl) (by decide) (by decide) rfl rfl) rfl (Or.inl rfl))
 jaO), ?_⟩
   walk_at "goL"
   exact ⟨d, _, _, ns, rfl, hd, hb, k⟩
def jc9 (K : PySem.W.Frag) : Sp := fun vs H Q _ => ∃ a ns one other, vs = [.ref a, .str (S one), .str (S other)] ∧ SqL K H a (ns.map V.int) ∧ jav ns ∧ jaG ns.length one ∧ jaG ns.length other ∧
 ∀ b H', jap H H' → H b = none → H' b = some (.lst ((ovl one other).map V.int)) → Q (.ref b) H'
theorem jdM : jan ["die", "one", "other", "shorter"] ["die", "one", "other"] (jad jbL) := ⟨rfl, rfl, rfl, by decide +kernel, rfl, by decide +kernel, by decide +kernel⟩
theorem jjl {f : Addr} {fd : FuncData} (F : Fun K "overlaps" "overlaps" jbL f fd) (M : Bl mg) (T : Cs P mg) {f_check_die : Addr} {fd_check_die : FuncData} (D_check_die : Df P w K mg base "check_die" 37 f_check_die fd_check_die ["die"] (jbj K)) {f_check_word : Addr} {fd_check_word : FuncData} (D_check_word : Df P w K mg base "check_word" 39 f_check_word fd_check_word ["die", "word"] (jbb K)) : jbf P w K mg base CX0 40 f fd ["die", "one", "other"] (jc9 K) := by
 refine F.ok jdM (fun vs H Q E h => ?_) (fun cdv A outer s H vs Q E hr h => ?_)
 · obtain ⟨a, ns, one, other, rfl, _⟩ := h; rfl
 · obtain ⟨a, ns, one, other, rfl, hS, hd, hw1, hw2, k⟩ := h
   have hl : (ns.map V.int).length = ns.length := List.length_map ..
   have o1 := hw1.hi
   have o2 := hw2.hi
   refine ⟨_, (jac (jau (jae D_check_die hr (by rfl) (jaa (pv 0) jab rfl) (by decide) (by decide) rfl rfl) rfl)
 (jac (jau (jae D_check_word hr (by rfl) (jaa (pv 0) (jaa (pv 1) jab rfl) rfl) (by decide) (by decide) rfl rfl) rfl)
 (jac (jau (jae D_check_word hr (by rfl) (jaa (pv 0) (jaa (pv 2) jab rfl) rfl) (by decide) (by decide) rfl rfl) rfl)
 (jac (jar (i := 3) jdM.nd rfl (Or.inl rfl) (jaj (jlG rfl) (by rfl) M.min boot_min (jaa (jaj jbm (by rfl) M.len PySem.boot_len (jaa (pv 1) jab rfl) (by decide) (by decide) rfl rfl) (jaa (jaj jbm (by rfl) M.len PySem.boot_len (jaa (pv 2) jab rfl) (by decide) (by decide) rfl rfl) jab rfl) rfl) (by decide) (by decide) rfl rfl) rfl (Or.inl rfl))
 (jaf (jam (jaY (jad jbL) ["die", "one", "other", "shorter"] ["many", "one", "other"] [none, some 1, some 2] ⟨rfl, by decide +kernel, by decide +kernel, by decide +kernel, by decide +kernel, rfl, by decide +kernel⟩ (jfm (by rfl) M.range (jaa jag (jaa (jax jcE (pv 3) jag) jab rfl) rfl) rfl rfl) (fun s3 H3 C fp => ⟨pgb (i := 0) (by decide +kernel) rfl rfl, (jfo (jeI (jcd K rfl PySem.F.plainAttrs_str PySem.F.slot_str_endswith PySem.F.type_str_endswith jdR (pvb 1) (jaa (jbd jf3 (pvb 2) jbT (jbV (pvb 0))) jab rfl) rfl rfl rfl rfl rfl) (fun _ => rfl))), (pvb 0)⟩) rfl rfl rfl (fun _ => rfl)))))))), ?_⟩
   walk_at "goL"
   refine ⟨a, ns, rfl, hS, hd, ?_⟩
   walk_at "goL"
   refine ⟨a, _, one, rfl, hS, by rw [hl]; exact hw1, fun H1 s1 => ?_⟩
   walk_at "goL"
   refine ⟨a, _, other, rfl, s1.seq hS, by rw [hl]; exact hw2, fun H2 s2 => ?_⟩
   walk_at "goL"
   refine ⟨_, _, rfl, ?_⟩
   walk_at "goL"
   refine ⟨_, _, rfl, by split <;> omega, ?_⟩
   intro D hD
   have em : ((if (other.length : Int) < (one.length : Int) then (other.length : Int) else (one.length : Int)) + 1 - 1).toNat = min one.length other.length := by split <;> omega
   rw [em]
   refine jd1 (fun k => (other.take (k + 1)).isSuffixOf one) (fun (k : Nat) => V.int ((1 : Int) + (k : Int))) (jcZ 1 _ _) hD (by rw [List.length_range]; exact small (by omega)) (fun j hj H' R t1 k1 => ?_) (fun j hj _ H' R t1 k1 => ?_) (fun H' t1 hy => ?_)
   · walk_at "goL"
     refine jiQ (l := other) (small (by omega)) ?_
     walk_at "goL"
     rw [show (1 : Int) + (j : Int) = ((j + 1 : Nat) : Int) by omega, jc7]
     exact k1 _ (jap.refl _)
   · walk_at "goL"
     exact k1 _ (jap.refl _)
   · refine k D H' ((s1.trans s2).trans t1) ((s1.trans s2).free hD) ?_
     rw [hy]
     unfold ovl
     rw [List.map_map]
     rfl
abbrev jdk := jmr
theorem jia {f : Addr} {fd : FuncData} (F : Fun K "overlaps" "overlaps" jbL f fd) (M : Bl mg) (T : Cs P mg) (Y : Xc K mg c) {f_check_die : Addr} {fd_check_die : FuncData} (R_check_die : DfX P w K mg base "check_die" 37 f_check_die fd_check_die ["die"] (jba K c)) : jbf P w K mg base (CX1 P w) 40 f fd ["die", "one", "other"] (jdk K c) := by
 refine F.okG jdM (fun vs H Q E h => ?_) (fun cdv A outer s H vs Q E hr h => ?_)
 · obtain ⟨d, y, z, ns, rfl, _⟩ := h; rfl
 · obtain ⟨d, y, z, ns, rfl, hd, hb, k⟩ := h
   refine ⟨_, (jac (jau (jay jb7 R_check_die hr (by rfl) (jaa (pv 0) jab rfl) (by decide) (by decide) rfl rfl) rfl)
 jaO), ?_⟩
   walk_at "goL"
   exact ⟨d, ns, rfl, hd, hb, fun ea he => k H ea (jap.refl _) he⟩
def jc5 (K : PySem.W.Frag) : Sp := fun vs H Q _ => ∃ d a, ∃ ns : List Int, ∃ ws, vs = [.ref d, .ref a] ∧ SqL K H d (ns.map V.int) ∧ jav ns ∧ SqL K H a (txs ws) ∧ jbc ns.length ws ∧ ∀ r bs H', jap H H' → H r = none → H' r = some (.lst (txs bs)) → joL ws bs → Q (.ref r) H'
theorem jdZ : jan ["die", "words"] ["die", "words"] (jad jbl) := ⟨rfl, rfl, rfl, by decide +kernel, rfl, by decide +kernel, by decide +kernel⟩
theorem jhx {f : Addr} {fd : FuncData} (F : Fun K "beginnings" "beginnings" jbl f fd) (M : Bl mg) (T : Cs P mg) {f_check_race : Addr} {fd_check_race : FuncData} (D_check_race : Df P w K mg base "check_race" 40 f_check_race fd_check_race ["die", "words"] (jaX K)) {f_beginnings_of : Addr} {fd_beginnings_of : FuncData} (D_beginnings_of : Df P w K mg base "beginnings_of" 37 f_beginnings_of fd_beginnings_of ["words"] (jaC K)) : jbf P w K mg base CX0 41 f fd ["die", "words"] (jc5 K) := by
 refine F.ok jdZ (fun vs H Q E h => ?_) (fun cdv A outer s H vs Q E hr h => ?_)
 · obtain ⟨d, a, ns, ws, rfl, _⟩ := h; rfl
 · obtain ⟨d, a, ns, ws, rfl, hd, hdo, hS, hw, k⟩ := h
   refine ⟨_, (jac (jau (jae D_check_race hr (by rfl) (jaa (pv 0) (jaa (pv 1) jab rfl) rfl) (by decide) (by decide) rfl rfl) rfl)
 (jaf (jam (jae D_beginnings_of hr (by rfl) (jaa (pv 1) jab rfl) (by decide) (by decide) rfl rfl)))), ?_⟩
   walk_at "goL"
   refine ⟨d, a, ns, ws, rfl, hd, hdo, hS, hw, fun H1 s1 => ?_⟩
   walk_at "goL"
   refine ⟨a, ws, _, rfl, s1.seq hS, hw, fun r bs H2 s2 nr hr2 hBO => ?_⟩
   exact k r bs H2 (s1.trans s2) (s1.free nr) hr2 hBO
abbrev jcL := jpu
theorem jgd {f : Addr} {fd : FuncData} (F : Fun K "beginnings" "beginnings" jbl f fd) (M : Bl mg) (T : Cs P mg) (Y : Xc K mg c) {f_check_race : Addr} {fd_check_race : FuncData} (R_check_race : DfX P w K mg base "check_race" 40 f_check_race fd_check_race ["die", "words"] (jaM K c)) : jbf P w K mg base (CX1 P w) 41 f fd ["die", "words"] (jcL K c) := by
 refine F.okG jdZ (fun vs H Q E h => ?_) (fun cdv A outer s H vs Q E hr h => ?_)
 · obtain ⟨d, y, ns, rfl, _⟩ := h; rfl
 · obtain ⟨d, y, ns, rfl, hd, hb, k⟩ := h
   refine ⟨_, (jac (jau (jay jb7 R_check_race hr (by rfl) (jaa (pv 0) (jaa (pv 1) jab rfl) rfl) (by decide) (by decide) rfl rfl) rfl)
 jaO), ?_⟩
   walk_at "goL"
   exact ⟨d, _, ns, rfl, hd, hb, k⟩
def jeZ (K : PySem.W.Frag) : Sp := fun vs H Q _ => ∃ a b p q, ∃ m n : Nat, vs = [.ref a, .ref b] ∧ SqT K H a (sh p) ∧ SqT K H b (sh q) ∧ Sz m p ∧ Sz n q ∧ m + n ≤ 100000000 ∧ ∀ r H', jap H H' → H r = none → H' r = some (.tup (sh (p + q))) → Q (.ref r) H'
theorem jmq : jan ["one", "other"] ["one", "other"] (jad jet) := ⟨rfl, rfl, rfl, by decide +kernel, rfl, by decide +kernel, by decide +kernel⟩
theorem jmA {f : Addr} {fd : FuncData} (F : Fun K "added" "added" jet f fd) (M : Bl mg) (T : Cs P mg) {f_share_of : Addr} {fd_share_of : FuncData} (D_share_of : Df P w K mg base "share_of" 38 f_share_of fd_share_of ["top", "bottom"] (jbi K)) : jbf P w K mg base CX0 39 f fd ["one", "other"] (jeZ K) := by
 refine F.ok jmq (fun vs H Q E h => ?_) (fun cdv A outer s H vs Q E hr h => ?_)
 · obtain ⟨a, b, p, q, m, n, rfl, _⟩ := h; rfl
 · obtain ⟨a, b, p, q, m, n, rfl, ha, hb, zp, zq, hz, k⟩ := h
   refine ⟨_, (jaf (jam (jae D_share_of hr (by rfl) (jaa (jax jcE (jax jcb (jbg (ja3 K rfl) (pv 0) jag (fun _ _ => rfl)) (jbg (ja3 K rfl) (pv 1) jag (fun _ _ => rfl))) (jax jcb (jbg (ja3 K rfl) (pv 1) jag (fun _ _ => rfl)) (jbg (ja3 K rfl) (pv 0) jag (fun _ _ => rfl)))) (jaa (jax jcb (jbg (ja3 K rfl) (pv 0) jag (fun _ _ => rfl)) (jbg (ja3 K rfl) (pv 1) jag (fun _ _ => rfl))) jab rfl) rfl) (by decide) (by decide) rfl rfl))), ?_⟩
   walk_at "goL"
   refine jcW ha rfl ?_
   walk_at "goL"
   refine jcW hb rfl ?_
   refine jeT zp.1 zq.2 (by omega) ?_
   walk_at "goL"
   refine jcW hb rfl ?_
   walk_at "goL"
   refine jcW ha rfl ?_
   refine jeT zq.1 zp.2 (by omega) ?_
   walk_at "goL"
   refine jcW ha rfl ?_
   walk_at "goL"
   refine jcW hb rfl ?_
   refine jeT zp.2 zq.2 (by omega) ?_
   walk_at "goL"
   refine ⟨_, _, rfl, jdd p q, fun r H' s1 n1 e => ?_⟩
   rw [jh2] at e
   exact k r H' s1 n1 e
def jhC (K : PySem.W.Frag) : Sp := fun vs H Q _ => ∃ a dn t, vs = [.ref a, .str (S t)] ∧ SqL K H a (dn.map V.int) ∧ jav dn ∧ t.length ≤ 6 ∧ (∀ c ∈ t, c ∈ abcd.take dn.length) ∧ ∀ r H', jap H H' → H r = none → H' r = some (.tup (sh (jaK dn t))) → Q (.ref r) H'
theorem jdC : jan ["die", "text", "top", "bottom", "sign"] ["die", "text"] (jad jel) := ⟨rfl, rfl, rfl, by decide +kernel, rfl, by decide +kernel, by decide +kernel⟩
theorem jmW {f : Addr} {fd : FuncData} (F : Fun K "worth" "worth" jel f fd) (M : Bl mg) (T : Cs P mg) {f_share_of : Addr} {fd_share_of : FuncData} (D_share_of : Df P w K mg base "share_of" 38 f_share_of fd_share_of ["top", "bottom"] (jbi K)) {f_signs_of : Addr} {fd_signs_of : FuncData} (D_signs_of : Df P w K mg base "signs_of" 37 f_signs_of fd_signs_of ["die"] (jbE K)) : jbf P w K mg base CX0 39 f fd ["die", "text"] (jhC K) := by
 refine F.ok jdC (fun vs H Q E h => ?_) (fun cdv A outer s H vs Q E hr h => ?_)
 · obtain ⟨a, dn, t, rfl, _⟩ := h; rfl
 · obtain ⟨a, dn, t, rfl, hS, hd, ht, hc, k⟩ := h
   have hS2 := jeB hd
   have h1 := hd.lo
   have h2 := hd.hi
   have hl : (dn.map V.int).length = dn.length := List.length_map ..
   refine ⟨_, (jac (jar (i := 2) jdC.nd rfl (Or.inl rfl) jag rfl (Or.inl rfl))
 (jac (jar (i := 3) jdC.nd rfl (Or.inl rfl) jag rfl (Or.inl rfl))
 (jac (jb6 PassesOwn.never rfl (jjG (pv 1)) (jaH (i := 4) jdC.nd rfl (Or.inl rfl) (Or.inl rfl))
 (jac (jar (i := 2) jdC.nd rfl (Or.inl rfl) (jax jgI (pv 2) (jaj (jea K rfl rfl) (by rfl) M.sum boot_sum (jaa (pv 0) jab rfl) (by decide) (by decide) rfl rfl)) rfl (Or.inl rfl))
   (jaf (jar (i := 3) jdC.nd rfl (Or.inl rfl) (jax jgI (pv 3) (jbg (jaZ K rfl) (pv 0) (jcd K rfl PySem.F.plainAttrs_str PySem.F.slot_str_index PySem.F.type_str_index jmi (jae D_signs_of hr (by rfl) (jaa (pv 0) jab rfl) (by decide) (by decide) rfl rfl) (jaa (pv 4) jab rfl) rfl rfl rfl rfl rfl) (fun _ _ => rfl))) rfl (Or.inl rfl)))) (fun _ => rfl))
 (jaf (jam (jae D_share_of hr (by rfl) (jaa (pv 2) (jaa (pv 3) jab rfl) rfl) (by decide) (by decide) rfl rfl)))))), ?_⟩
   walk_at "goL"
   let Pv0 : Nat → L2.St → Hp → Prop := (fun i σ H2 => ∃ x : Option V, H2 = H ∧ σ = [some (.ref a), some (.str (S t)), some (.int (jmf dn i)), some (.int (jlp dn (t.take i))), x])
   refine jrf (l := t) Pv0 ⟨none, rfl, by rw [show jmf dn 0 = 1 from Int.pow_zero _]; rfl⟩ ?_ ?_
   · rintro i c σ H2 hi ⟨x, rfl, rfl⟩
     have hlt : i < t.length := (List.getElem?_eq_some_iff.mp hi).1
     have hci : c ∈ abcd.take dn.length := hc c (List.mem_of_getElem? hi)
     have hw := jj4 hd hci
     have et : t.take (i + 1) = t.take i ++ [c] := by
       rw [List.take_succ_eq_append_getElem hlt, (List.getElem?_eq_some_iff.mp hi).2]
     walk_at "goL"
     refine ⟨a, dn, rfl, hS, ?_⟩
     walk_at "goL"
     refine ⟨a, _, rfl, hS, ?_⟩
     rw [hl]
     walk_at "goL"
     refine ⟨_, _, _, _, rfl, rfl, jmp h1 h2 hci, ?_⟩
     refine jdE hS (jqS hd hci) ?_
     walk_at "goL"
     refine ⟨some (.str (S [c])), rfl, ?_⟩
     rw [jf4, et, jfh]
     rfl
   · rintro σ H2 ⟨x, rfl, rfl⟩
     rw [List.take_length]
     walk_at "goL"
     have hb := je2 hd hc
     refine ⟨_, _, rfl, hb.1, fun r H' s1 n1 e => ?_⟩
     rw [jfW hb.1, ← jeO hd hc] at e
     exact k r H' s1 n1 e
def jbo (K : PySem.W.Frag) : Sp := fun vs H Q _ => ∃ a dn one other, vs = [.ref a, .str (S one), .str (S other)] ∧ SqL K H a (dn.map V.int) ∧ jav dn ∧ jaG dn.length one ∧ jaG dn.length other ∧ ∀ r H', jap H H' → H r = none → H' r = some (.tup (sh (jce dn other one))) → Q (.ref r) H'
theorem jbs : jan ["die", "one", "other", "together", "many"] ["die", "one", "other"] (jad jaV) := ⟨rfl, rfl, rfl, by decide +kernel, rfl, by decide +kernel, by decide +kernel⟩
theorem jeA {f : Addr} {fd : FuncData} (F : Fun K "one_with_other" "one_with_other" jaV f fd) (M : Bl mg) (T : Cs P mg) {f_overlaps : Addr} {fd_overlaps : FuncData} (D_overlaps : Df P w K mg base "overlaps" 40 f_overlaps fd_overlaps ["die", "one", "other"] (jc9 K)) {f_added : Addr} {fd_added : FuncData} (D_added : Df P w K mg base "added" 39 f_added fd_added ["one", "other"] (jeZ K)) {f_worth : Addr} {fd_worth : FuncData} (D_worth : Df P w K mg base "worth" 39 f_worth fd_worth ["die", "text"] (jhC K)) : jbf P w K mg base CX0 41 f fd ["die", "one", "other"] (jbo K) := by
 refine F.ok jbs (fun vs H Q E h => ?_) (fun cdv A outer s H vs Q E hr h => ?_)
 · obtain ⟨a, dn, one, other, rfl, _⟩ := h; rfl
 · obtain ⟨a, dn, one, other, rfl, hS, hd, h1, h2, k⟩ := h
   refine ⟨_, (jac (jar (i := 3) jbs.nd rfl (Or.inl rfl) (jlj (jaa jag (jaa jag jab rfl) rfl)) rfl (Or.inl rfl))
 (jac (jb6 PassesOwn.never rfl (jaS K rfl (jae D_overlaps hr (by rfl) (jaa (pv 0) (jaa (pv 1) (jaa (pv 2) jab rfl) rfl) rfl) (by decide) (by decide) rfl rfl)) (jaH (i := 4) jbs.nd rfl (Or.inl rfl) (Or.inl rfl))
 (jaf (jar (i := 3) jbs.nd rfl (Or.inl rfl) (jae D_added hr (by rfl) (jaa (pv 3) (jaa (jae D_worth hr (by rfl) (jaa (pv 0) (jaa (jbd jf3 (pv 2) jbT (jbV (pv 4))) jab rfl) rfl) (by decide) (by decide) rfl rfl) jab rfl) rfl) (by decide) (by decide) rfl rfl) rfl (Or.inl rfl))) (fun _ => rfl))
 (jaf (jam (pv 3))))), ?_⟩
   walk_at "goL"
   intro p0 n0
   have s0 := jai (o := .tup [.int 0, .int 1]) (jap.refl H) n0
   walk_at "goL"
   refine ⟨a, dn, one, other, rfl, s0.seq hS, hd, h1, h2, fun b H1 s1 hb hb1 => ?_⟩
   have s01 := s0.trans s1
   walk_at "goL"
   refine ⟨⟨_, SqL.of hb1⟩, ?_⟩
   have ol := jl1 one other
   have o6 := h1.hi
   let Pv0 : Nat → L2.St → Hp → Prop := (fun i σ H2 => ∃ (r : Addr) (x : Option V), jap H1 H2 ∧ H r = none ∧ H2 r = some (.tup (sh (jdG dn other ((ovl one other).take i)))) ∧ σ = [some (.ref a), some (.str (S one)), some (.str (S other)), some (.ref r), x])
   refine forL (xs := (ovl one other).map V.int) Pv0 ⟨p0, none, jap.refl _, n0, by rw [s1 _ _ jah]; rfl, rfl⟩ (by rintro i σ H2 _ ⟨_, _, e, _⟩; exact e.seq (SqL.of hb1)) ?_ ?_
   · rintro i x σ H2 hi ⟨r, y, s2, nr, hr2, rfl⟩
     have hlt : i < (ovl one other).length := by have := (List.getElem?_eq_some_iff.mp hi).1; rw [List.length_map] at this; exact this
     rw [List.getElem?_map, List.getElem?_eq_getElem hlt] at hi
     obtain rfl := (Option.some.inj hi).symm
     have hk : 0 ≤ (ovl one other)[i] := by
       have : (ovl one other)[i] ∈ ovl one other := List.getElem_mem hlt
       unfold ovl at this
       obtain ⟨j, _, e⟩ := List.mem_map.mp this
       have e' : (1 : Int) + (j : Int) = (ovl one other)[i] := e
       omega
     obtain ⟨kk, hkk⟩ := Int.eq_ofNat_of_zero_le hk
     have et : (ovl one other).take (i + 1) = (ovl one other).take i ++ [(ovl one other)[i]] := by rw [List.take_succ_eq_append_getElem hlt]
     have es : jdG dn other ((ovl one other).take (i + 1)) = jdG dn other ((ovl one other).take i) + jaK dn (other.take kk) := by
       rw [et]
       unfold jdG
       rw [List.map_append, List.sum_append]
       simp only [List.map_cons, List.map_nil, List.sum_cons, List.sum_nil]
       rw [hkk, show ((kk : Nat) : Int).toNat = kk by omega]
       grind
     have z1 := jiu hd h2 ((ovl one other).take i)
     have hw6 := h2.hi
     have htl : (other.take kk).length ≤ 6 := by rw [List.length_take]; omega
     have htc : ∀ c ∈ other.take kk, c ∈ abcd.take dn.length := fun c hc => h2.s c (List.mem_of_mem_take hc)
     have z2 := jhZ hd htl htc
     rw [hkk]
     walk_at "goL"
     refine jiQ (small (by omega)) ?_
     rw [jc7]
     walk_at "goL"
     refine ⟨a, dn, _, rfl, (s01.trans s2).seq hS, hd, htl, htc, fun q H3 s3 nq hq => ?_⟩
     refine ⟨r, q, _, _, _, _, rfl, .inl (.inl (s3 _ _ hr2)), .inl (.inl hq), z1, z2, by rw [List.length_take]; omega, fun r2 H4 s4 n4 h4 => ?_⟩
     refine ⟨r2, _, (s2.trans s3).trans s4, ((s01.trans s2).trans s3).free n4, by rw [h4, es], rfl⟩
   · rintro σ H2 ⟨r, y, s2, nr, hr2, rfl⟩
     walk_at "goL"
     rw [List.length_map, List.take_length, jh3] at hr2
     exact k r H2 (s01.trans s2) nr hr2
def jeu (K : PySem.W.Frag) : Sp := fun vs H Q _ => ∃ a dn w, vs = [.ref a, .str (S w)] ∧ SqL K H a (dn.map V.int) ∧ jav dn ∧ jaG dn.length w ∧ ∀ r H', jap H H' → H r = none → H' r = some (.tup (sh (cc dn w))) → Q (.ref r) H'
theorem jg0 : jan ["die", "word"] ["die", "word"] (jad jcv) := ⟨rfl, rfl, rfl, by decide +kernel, rfl, by decide +kernel, by decide +kernel⟩
theorem jkF {f : Addr} {fd : FuncData} (F : Fun K "waiting" "waiting" jcv f fd) (M : Bl mg) (T : Cs P mg) {f_check_die : Addr} {fd_check_die : FuncData} (D_check_die : Df P w K mg base "check_die" 37 f_check_die fd_check_die ["die"] (jbj K)) {f_check_word : Addr} {fd_check_word : FuncData} (D_check_word : Df P w K mg base "check_word" 39 f_check_word fd_check_word ["die", "word"] (jbb K)) {f_one_with_other : Addr} {fd_one_with_other : FuncData} (D_one_with_other : Df P w K mg base "one_with_other" 41 f_one_with_other fd_one_with_other ["die", "one", "other"] (jbo K)) : jbf P w K mg base CX0 42 f fd ["die", "word"] (jeu K) := by
 refine F.ok jg0 (fun vs H Q E h => ?_) (fun cdv A outer s H vs Q E hr h => ?_)
 · obtain ⟨a, dn, w, rfl, _⟩ := h; rfl
 · obtain ⟨a, dn, w, rfl, hS, hd, hw, k⟩ := h
   have hl : (dn.map V.int).length = dn.length := List.length_map ..
   refine ⟨_, (jac (jau (jae D_check_die hr (by rfl) (jaa (pv 0) jab rfl) (by decide) (by decide) rfl rfl) rfl)
 (jac (jau (jae D_check_word hr (by rfl) (jaa (pv 0) (jaa (pv 1) jab rfl) rfl) (by decide) (by decide) rfl rfl) rfl)
 (jaf (jam (jae D_one_with_other hr (by rfl) (jaa (pv 0) (jaa (pv 1) (jaa (pv 1) jab rfl) rfl) rfl) (by decide) (by decide) rfl rfl))))), ?_⟩
   walk_at "goL"
   refine ⟨a, dn, rfl, hS, hd, ?_⟩
   walk_at "goL"
   refine ⟨a, _, w, rfl, hS, by rw [hl]; exact hw, fun H1 s1 => ?_⟩
   walk_at "goL"
   exact ⟨a, dn, w, w, rfl, s1.seq hS, hd, hw, hw, fun r H2 s2 nr hr2 => k r H2 (s1.trans s2) (s1.free nr) hr2⟩
abbrev jdW := jpu
theorem jjr {f : Addr} {fd : FuncData} (F : Fun K "waiting" "waiting" jcv f fd) (M : Bl mg) (T : Cs P mg) (Y : Xc K mg c) {f_check_die : Addr} {fd_check_die : FuncData} (R_check_die : DfX P w K mg base "check_die" 37 f_check_die fd_check_die ["die"] (jba K c)) : jbf P w K mg base (CX1 P w) 42 f fd ["die", "word"] (jdW K c) := by
 refine F.okG jg0 (fun vs H Q E h => ?_) (fun cdv A outer s H vs Q E hr h => ?_)
 · obtain ⟨d, y, ns, rfl, _⟩ := h; rfl
 · obtain ⟨d, y, ns, rfl, hd, hb, k⟩ := h
   refine ⟨_, (jac (jau (jay jb7 R_check_die hr (by rfl) (jaa (pv 0) jab rfl) (by decide) (by decide) rfl rfl) rfl)
 jaO), ?_⟩
   walk_at "goL"
   exact ⟨d, ns, rfl, hd, hb, fun ea he => k H ea (jap.refl _) he⟩
theorem jgM {n : Nat} (h : 2 ≤ n) : jaG n [97] := ⟨by decide, by decide, fun c hc => by
  obtain ⟨m, rfl⟩ : ∃ m, n = m + 1 := ⟨n - 1, by omega⟩
  rw [List.mem_singleton.mp hc]; exact List.mem_cons_self⟩
theorem jnu {n : Nat} (h : 2 ≤ n) : jaG n [98] := ⟨by decide, by decide, fun c hc => by
  obtain ⟨m, rfl⟩ : ∃ m, n = m + 2 := ⟨n - 2, by omega⟩
  rw [List.mem_singleton.mp hc]; exact List.mem_cons_of_mem _ List.mem_cons_self⟩
theorem jeL {n : Nat} (h : 2 ≤ n) : jbc n [[97]] := ⟨by decide, by decide, fun l hl => by rw [List.mem_singleton.mp hl]; exact jgM h, List.pairwise_singleton ..⟩
theorem jje (n : Nat) : ji3 n [] := ⟨by decide, fun c hc => by cases hc⟩
theorem jqE {n : Nat} (h : 2 ≤ n) : ji3 n [97] := ⟨by decide, (jgM h).s⟩
def jdo (K : PySem.W.Frag) : Sp := fun vs H Q _ => ∃ t d, ∃ ns : List Int, vs = [.int t, .ref d, .str (S [97])] ∧ SqL K H d (ns.map V.int) ∧ jav ns ∧ ∀ v H', jap H H' → Q v H'
theorem jeH : jan ["turn", "die", "text"] ["turn", "die", "text"] (jad jbG) := ⟨rfl, rfl, rfl, by decide +kernel, rfl, by decide +kernel, by decide +kernel⟩
theorem jic {f : Addr} {fd : FuncData} (F : Fun K "_law_first" "_law_first" jbG f fd) (M : Bl mg) (T : Cs P mg) {f_shares : Addr} {fd_shares : FuncData} (D_shares : Df P w K mg base "shares" 43 f_shares fd_shares ["die", "words", "row"] (jfH K)) {f_overlaps : Addr} {fd_overlaps : FuncData} (D_overlaps : Df P w K mg base "overlaps" 40 f_overlaps fd_overlaps ["die", "one", "other"] (jc9 K)) {f_beginnings : Addr} {fd_beginnings : FuncData} (D_beginnings : Df P w K mg base "beginnings" 41 f_beginnings fd_beginnings ["die", "words"] (jc5 K)) {f_state_of : Addr} {fd_state_of : FuncData} (D_state_of : Df P w K mg base "state_of" 41 f_state_of fd_state_of ["die", "words", "row"] (jdg K)) {f_ended : Addr} {fd_ended : FuncData} (D_ended : Df P w K mg base "ended" 41 f_ended fd_ended ["die", "words", "row"] (je8 K)) {f_waiting : Addr} {fd_waiting : FuncData} (D_waiting : Df P w K mg base "waiting" 42 f_waiting fd_waiting ["die", "word"] (jeu K)) : jbf P w K mg base CX0 44 f fd ["turn", "die", "text"] (jdo K) := by
 refine F.ok jeH (fun vs H Q E h => ?_) (fun cdv A outer s H vs Q E hr h => ?_)
 · obtain ⟨t, d, ns, rfl, _⟩ := h; rfl
 · obtain ⟨t, d, ns, rfl, hd, hdo, k⟩ := h
   have q1 := hdo.lo
   have u := fun p (n : H p = none) => jai (o := .lst (txs [[97]])) (jap.refl H) n
   refine ⟨_, (jac (jaT (jak jca (pv 0) jag (jas _))
 (jaf (jam (jae D_overlaps hr (by rfl) (jaa (pv 1) (jaa (pv 2) (jaa (jaB [98] (by decide +kernel)) jab rfl) rfl) rfl) (by decide) (by decide) rfl rfl)))
 jaq)
 (jac (jaT (jak jca (pv 0) jag (jas _))
 (jaf (jam (jae D_beginnings hr (by rfl) (jaa (pv 1) (jaa (jaU (jaa (pv 2) jab rfl)) jab rfl) rfl) (by decide) (by decide) rfl rfl)))
 jaq)
 (jac (jaT (jak jca (pv 0) jag (jas _))
 (jaf (jam (jae D_state_of hr (by rfl) (jaa (pv 1) (jaa (jaU (jaa (pv 2) jab rfl)) (jaa (jbd jf3 (pv 2) jbT (jbV jag)) jab rfl) rfl) rfl) (by decide) (by decide) rfl rfl)))
 jaq)
 (jac (jaT (jak jca (pv 0) jag (jas _))
 (jaf (jam (jae D_ended hr (by rfl) (jaa (pv 1) (jaa (jaU (jaa (pv 2) jab rfl)) (jaa (pv 2) jab rfl) rfl) rfl) (by decide) (by decide) rfl rfl)))
 jaq)
 (jac (jaT (jak jca (pv 0) jag (jas _))
 (jaf (jam (jae D_waiting hr (by rfl) (jaa (pv 1) (jaa (pv 2) jab rfl) rfl) (by decide) (by decide) rfl rfl)))
 jaq)
 (jaf (jam (jae D_shares hr (by rfl) (jaa (pv 1) (jaa (jaU (jaa (pv 2) jab rfl)) (jaa (jaB [] (by decide +kernel)) jab rfl) rfl) rfl) (by decide) (by decide) rfl rfl)))))))), ?_⟩
   walk_at "goL"
   refine jbR (fun _ => ?_) (fun _ => ?_)
   · walk_at "goL"
     exact ⟨d, ns, [97], [98], rfl, hd, hdo, jgM q1, jnu q1, fun b H1 s1 _ _ => k _ _ s1⟩
   walk_at "goL"
   refine jbR (fun _ => ?_) (fun _ => ?_)
   · walk_at "goL"
     intro p np
     walk_at "goL"
     exact ⟨d, p, ns, [[97]], rfl, (u p np).seq hd, hdo, SqL.of jah, jeL q1, fun r bs H1 s1 _ _ _ => k _ _ ((u p np).trans s1)⟩
   walk_at "goL"
   refine jbR (fun _ => ?_) (fun _ => ?_)
   · walk_at "goL"
     intro p np
     walk_at "goL"
     refine jiQ (by decide) ?_
     walk_at "goL"
     exact ⟨d, p, ns, [[97]], [], rfl, (u p np).seq hd, hdo, SqL.of jah, jeL q1, jje _, fun H1 s1 => k _ _ ((u p np).trans s1)⟩
   walk_at "goL"
   refine jbR (fun _ => ?_) (fun _ => ?_)
   · walk_at "goL"
     intro p np
     walk_at "goL"
     exact ⟨d, p, ns, [[97]], [97], rfl, (u p np).seq hd, hdo, SqL.of jah, jeL q1, jqE q1, fun v H1 s1 _ => k _ _ ((u p np).trans s1)⟩
   walk_at "goL"
   refine jbR (fun _ => ?_) (fun _ => ?_)
   · walk_at "goL"
     exact ⟨d, ns, [97], rfl, hd, hdo, jgM q1, fun r H1 s1 _ _ => k _ _ s1⟩
   walk_at "goL"
   intro p np
   walk_at "goL"
   exact ⟨d, p, ns, [[97]], [], rfl, (u p np).seq hd, hdo, SqL.of jah, jeL q1, jje _, rfl, fun r ps H1 s1 _ _ _ _ => k _ _ ((u p np).trans s1)⟩
def jc1 (K : PySem.W.Frag) (c : Nat → Addr) : Sp := fun vs H Q E => ∃ t d, ∃ ns : List Int, ∃ x, vs = [.int t, .ref d, .str (S x)] ∧ SqL K H d (ns.map V.int) ∧ ¬ jav ns ∧ x.length ≤ 1000 ∧ ∀ H' ea, jap H H' → H' ea = none → E (.ref (c 0)) (some ea) H'
theorem jhj {f : Addr} {fd : FuncData} (F : Fun K "_law_first" "_law_first" jbG f fd) (M : Bl mg) (T : Cs P mg) (Y : Xc K mg c) {f_overlaps : Addr} {fd_overlaps : FuncData} (R_overlaps : DfX P w K mg base "overlaps" 40 f_overlaps fd_overlaps ["die", "one", "other"] (jdk K c)) {f_beginnings : Addr} {fd_beginnings : FuncData} (R_beginnings : DfX P w K mg base "beginnings" 41 f_beginnings fd_beginnings ["die", "words"] (jcL K c)) {f_state_of : Addr} {fd_state_of : FuncData} (R_state_of : DfX P w K mg base "state_of" 41 f_state_of fd_state_of ["die", "words", "row"] (jcB K c)) {f_ended : Addr} {fd_ended : FuncData} (R_ended : DfX P w K mg base "ended" 41 f_ended fd_ended ["die", "words", "row"] (jf2 K c)) {f_waiting : Addr} {fd_waiting : FuncData} (R_waiting : DfX P w K mg base "waiting" 42 f_waiting fd_waiting ["die", "word"] (jdW K c)) {f_shares : Addr} {fd_shares : FuncData} (R_shares : DfX P w K mg base "shares" 43 f_shares fd_shares ["die", "words", "row"] (jew K c)) : jbf P w K mg base (CX1 P w) 44 f fd ["turn", "die", "text"] (jc1 K c) := by
 refine F.okG jeH (fun vs H Q E h => ?_) (fun cdv A outer s H vs Q E hr h => ?_)
 · obtain ⟨t, d, ns, x, rfl, _⟩ := h; rfl
 · obtain ⟨t, d, ns, x, rfl, hd, hb, hx, k⟩ := h
   have u := fun p (n : H p = none) => jai (o := .lst (txs [x])) (jap.refl H) n
   refine ⟨_, (jac (jaT (jak jca (pv 0) jag (jas _))
 (jaf (jam (jay jb7 R_overlaps hr (by rfl) (jaa (pv 1) (jaa (pv 2) (jaa (jaB [98] (by decide +kernel)) jab rfl) rfl) rfl) (by decide) (by decide) rfl rfl)))
 jaq)
 (jac (jaT (jak jca (pv 0) jag (jas _))
 (jaf (jam (jay jb7 R_beginnings hr (by rfl) (jaa (pv 1) (jaa (jaU (jaa (pv 2) jab rfl)) jab rfl) rfl) (by decide) (by decide) rfl rfl)))
 jaq)
 (jac (jaT (jak jca (pv 0) jag (jas _))
 (jaf (jam (jay jb7 R_state_of hr (by rfl) (jaa (pv 1) (jaa (jaU (jaa (pv 2) jab rfl)) (jaa (jbd jf3 (pv 2) jbT (jbV jag)) jab rfl) rfl) rfl) (by decide) (by decide) rfl rfl)))
 jaq)
 (jac (jaT (jak jca (pv 0) jag (jas _))
 (jaf (jam (jay jb7 R_ended hr (by rfl) (jaa (pv 1) (jaa (jaU (jaa (pv 2) jab rfl)) (jaa (pv 2) jab rfl) rfl) rfl) (by decide) (by decide) rfl rfl)))
 jaq)
 (jac (jaT (jak jca (pv 0) jag (jas _))
 (jaf (jam (jay jb7 R_waiting hr (by rfl) (jaa (pv 1) (jaa (pv 2) jab rfl) rfl) (by decide) (by decide) rfl rfl)))
 jaq)
 (jaf (jam (jay jb7 R_shares hr (by rfl) (jaa (pv 1) (jaa (jaU (jaa (pv 2) jab rfl)) (jaa (jaB [] (by decide +kernel)) jab rfl) rfl) rfl) (by decide) (by decide) rfl rfl)))))))), ?_⟩
   walk_at "goL"
   refine jbR (fun _ => ?_) (fun _ => ?_)
   · walk_at "goL"
     exact ⟨d, _, _, ns, rfl, hd, hb, k⟩
   walk_at "goL"
   refine jbR (fun _ => ?_) (fun _ => ?_)
   · walk_at "goL"
     intro p np
     walk_at "goL"
     exact ⟨d, _, ns, rfl, (u p np).seq hd, hb, fun H' ea s1 he => k H' ea ((u p np).trans s1) he⟩
   walk_at "goL"
   refine jbR (fun _ => ?_) (fun _ => ?_)
   · walk_at "goL"
     intro p np
     walk_at "goL"
     refine jiQ (small hx) ?_
     walk_at "goL"
     exact ⟨d, _, _, ns, rfl, (u p np).seq hd, hb, fun H' ea s1 he => k H' ea ((u p np).trans s1) he⟩
   walk_at "goL"
   refine jbR (fun _ => ?_) (fun _ => ?_)
   · walk_at "goL"
     intro p np
     walk_at "goL"
     exact ⟨d, _, _, ns, rfl, (u p np).seq hd, hb, fun H' ea s1 he => k H' ea ((u p np).trans s1) he⟩
   walk_at "goL"
   refine jbR (fun _ => ?_) (fun _ => ?_)
   · walk_at "goL"
     exact ⟨d, _, ns, rfl, hd, hb, k⟩
   walk_at "goL"
   intro p np
   walk_at "goL"
   exact ⟨d, _, _, ns, rfl, (u p np).seq hd, hb, fun H' ea s1 he => k H' ea ((u p np).trans s1) he⟩
def jhw (K : PySem.W.Frag) : Sp := fun vs H Q _ => ∃ d a, ∃ ns : List Int, ∃ ws, vs = [.ref d, .ref a] ∧ SqL K H d (ns.map V.int) ∧ jav ns ∧ SqL K H a (txs ws) ∧ jbc ns.length ws ∧ ∀ H', jap H H' → Q (.str (S (jqr ns ws))) H'
theorem je3 : jan ["die", "words", "weights", "listed"] ["die", "words"] (jad jdu) := ⟨rfl, rfl, rfl, by decide +kernel, rfl, by decide +kernel, by decide +kernel⟩
theorem jmD {f : Addr} {fd : FuncData} (F : Fun K "shown" "shown" jdu f fd) (M : Bl mg) (T : Cs P mg) {f_check_race : Addr} {fd_check_race : FuncData} (D_check_race : Df P w K mg base "check_race" 40 f_check_race fd_check_race ["die", "words"] (jaX K)) : jbf P w K mg base CX0 41 f fd ["die", "words"] (jhw K) := by
 refine F.ok je3 (fun vs H Q E h => ?_) (fun cdv A outer s H vs Q E hr h => ?_)
 · obtain ⟨d, a, ns, ws, rfl, _⟩ := h; rfl
 · obtain ⟨d, a, ns, ws, rfl, hd, hdo, hS, hw, k⟩ := h
   have d4 := hdo.hi
   have w4 := hw.hi
   have l1 := job hdo
   have l2 := joJ hw
   refine ⟨_, (jac (jau (jae D_check_race hr (by rfl) (jaa (pv 0) (jaa (pv 1) jab rfl) rfl) (by decide) (by decide) rfl rfl) rfl)
 (jac (jar (i := 2) je3.nd rfl (Or.inl rfl) (jcd K rfl PySem.F.plainAttrs_str PySem.F.slot_str_join PySem.F.type_str_join (jjW K rfl) (jaB [32] (by decide +kernel)) (jaa (jaY (jad jdu) ["die", "words", "weights", "listed"] ["weight"] [none] ⟨rfl, by decide +kernel, by decide +kernel, by decide +kernel, by decide +kernel, rfl, by decide +kernel⟩ (jaS K rfl (pv 0)) (fun s3 H3 C fp => ⟨pgb (i := 0) (by decide +kernel) rfl rfl, jbH, (jd3 jl5 (glb rfl) M.str boot_str (jaa (pvb 0) jab rfl) (by decide) (by decide) rfl rfl)⟩) rfl rfl rfl (fun _ => rfl)) jab rfl) rfl rfl rfl rfl rfl) rfl (Or.inl rfl))
 (jac (jar (i := 3) je3.nd rfl (Or.inl rfl) (jcd K rfl PySem.F.plainAttrs_str PySem.F.slot_str_join PySem.F.type_str_join (jjW K rfl) (jaB [32] (by decide +kernel)) (jaa (pv 1) jab rfl) rfl rfl rfl rfl rfl) rfl (Or.inl rfl))
 (jaf (jam (jqT (jpm (pv 2)) (jaB [58, 32] (by decide +kernel)) (jpm (pv 3)))))))), ?_⟩
   walk_at "goL"
   refine ⟨d, a, ns, ws, rfl, hd, hdo, hS, hw, fun H1 s1 => ?_⟩
   walk_at "goL"
   refine ⟨⟨_, s1.seq hd⟩, ?_⟩
   intro D hD
   refine jci (src := ns) (gv := V.int) (fun n => V.str (S (dg n))) (jbk (s1.seq hd)) hD (small (by omega)) (fun n hn H' R t1 k1 => ?_) (fun H2 s2 hy => ?_)
   · have := hdo.w n hn
     walk_at "goL"
     refine ⟨by omega, by omega, ?_⟩
     exact k1 _ (jap.refl _)
   · have hy' : H2 D = some (.lst ((ns.map dg).map fun l => V.str (S l))) := by rw [hy, List.map_map]; rfl
     walk_at "goL"
     refine ⟨_, D, ns.map dg, rfl, rfl, SqL.of hy', by rw [List.length_map]; omega, fun t ht => ?_, by decide, ?_⟩
     · obtain ⟨n, hn, rfl⟩ := List.mem_map.mp ht
       show 1 ≤ 1000
       decide
     · walk_at "goL"
       refine ⟨_, a, ws, rfl, rfl, (s1.trans s2).seq hS, by omega, fun t ht => by have := (hw.w t ht).hi; omega, by decide, ?_⟩
       walk_at "goL"
       unfold tF3 tFv
       walk_at "goL"
       refine ⟨by show (wtT ns).length ≤ _; omega, ?_⟩
       walk_at "goL"
       refine ⟨by show (wtT ns).length ≤ _; omega, ?_⟩
       walk_at "goL"
       refine ⟨by decide, ?_⟩
       walk_at "goL"
       refine ⟨by omega, ?_⟩
       walk_at "goL"
       refine ⟨by omega, ?_⟩
       exact k H2 (s1.trans s2)
abbrev jfr := jpu
theorem jk3 {f : Addr} {fd : FuncData} (F : Fun K "shown" "shown" jdu f fd) (M : Bl mg) (T : Cs P mg) (Y : Xc K mg c) {f_check_race : Addr} {fd_check_race : FuncData} (R_check_race : DfX P w K mg base "check_race" 40 f_check_race fd_check_race ["die", "words"] (jaM K c)) : jbf P w K mg base (CX1 P w) 41 f fd ["die", "words"] (jfr K c) := by
 refine F.okG je3 (fun vs H Q E h => ?_) (fun cdv A outer s H vs Q E hr h => ?_)
 · obtain ⟨d, y, ns, rfl, _⟩ := h; rfl
 · obtain ⟨d, y, ns, rfl, hd, hb, k⟩ := h
   refine ⟨_, (jac (jau (jay jb7 R_check_race hr (by rfl) (jaa (pv 0) (jaa (pv 1) jab rfl) rfl) (by decide) (by decide) rfl rfl) rfl)
 jaO), ?_⟩
   walk_at "goL"
   exact ⟨d, _, ns, rfl, hd, hb, k⟩
theorem jnV {l : List Int} {n : Nat} (h : l.length = n + 1) : atI (l.map V.int) (-1) = some (.int (l.getD n 0)) := by
 unfold atI ixN
 rw [List.length_map, if_neg (by decide), if_pos (by omega)]
 have e : ((-1 : Int) + (l.length : Int)).toNat = n := by omega
 rw [e]
 show (l.map V.int)[n]? = _
 rw [List.getElem?_map, List.getElem?_eq_getElem (by omega), List.getD_eq_getElem?_getD, List.getElem?_eq_getElem (by omega)]
 rfl
def jjp (K : PySem.W.Frag) : Sp := fun vs H Q _ => ∃ d a, ∃ ns : List Int, ∃ ws row, vs = [.ref d, .ref a, .str (S row)] ∧ SqL K H d (ns.map V.int) ∧ jav ns ∧ SqL K H a (txs ws) ∧ jbc ns.length ws ∧ ji3 ns.length row ∧ jdF ws row = none ∧
 ∀ p H', jap H H' → H p = none → H' p = some (.tup (sh (mnq ns ws (stF ws row)))) → Sz 7340031 (mnq ns ws (stF ws row)) → Q (.ref p) H'
theorem jem : jan ["die", "words", "row", "state", "begun", "numbers"] ["die", "words", "row"] (jad jfc) := ⟨rfl, rfl, rfl, by decide +kernel, rfl, by decide +kernel, by decide +kernel⟩
theorem joo {f : Addr} {fd : FuncData} (F : Fun K "mean" "mean" jfc f fd) (M : Bl mg) (T : Cs P mg) {f_state_of_open : Addr} {fd_state_of_open : FuncData} (D_state_of_open : Df P w K mg base "state_of_open" 42 f_state_of_open fd_state_of_open ["die", "words", "row"] (jbA K)) {f_beginnings_of : Addr} {fd_beginnings_of : FuncData} (D_beginnings_of : Df P w K mg base "beginnings_of" 37 f_beginnings_of fd_beginnings_of ["words"] (jaC K)) {f_solved : Addr} {fd_solved : FuncData} (D_solved : Df P w K mg base "solved" 39 f_solved fd_solved ["die", "words", "state"] (jeg K)) {f_share_of : Addr} {fd_share_of : FuncData} (D_share_of : Df P w K mg base "share_of" 38 f_share_of fd_share_of ["top", "bottom"] (jbi K)) : jbf P w K mg base CX0 43 f fd ["die", "words", "row"] (jjp K) := by
 refine F.ok jem (fun vs H Q E h => ?_) (fun cdv A outer s H vs Q E hr h => ?_)
 · obtain ⟨d, a, ns, ws, row, rfl, _⟩ := h; rfl
 · obtain ⟨d, a, ns, ws, row, rfl, hd, hdo, hS, hw, hro, hop, k⟩ := h
   have ne := hw.race.ne
   have hst := jgP hw hop
   have hbe := jcH ne row
   refine ⟨_, (jac (jar (i := 3) jem.nd rfl (Or.inl rfl) (jae D_state_of_open hr (by rfl) (jaa (pv 0) (jaa (pv 1) (jaa (pv 2) jab rfl) rfl) rfl) (by decide) (by decide) rfl rfl) rfl (Or.inl rfl))
 (jac (jar (i := 4) jem.nd rfl (Or.inl rfl) (jae D_beginnings_of hr (by rfl) (jaa (pv 1) jab rfl) (by decide) (by decide) rfl rfl) rfl (Or.inl rfl))
 (jac (jar (i := 5) jem.nd rfl (Or.inl rfl) (jae D_solved hr (by rfl) (jaa (pv 0) (jaa (pv 1) (jaa (pv 3) jab rfl) rfl) rfl) (by decide) (by decide) rfl rfl) rfl (Or.inl rfl))
 (jaf (jam (jae D_share_of hr (by rfl) (jaa (jkR jiL (jbg (jaZ K rfl) (pv 5) (jkR jiL jag) (fun _ _ => rfl))) (jaa (jbg (jaZ K rfl) (pv 5) (jcd K rfl PySem.F.plainAttrs_list PySem.F.slot_list_index PySem.F.type_list_index (jcT K rfl) (pv 4) (jaa (pv 3) jab rfl) rfl rfl rfl rfl rfl) (fun _ _ => rfl)) jab rfl) rfl) (by decide) (by decide) rfl rfl)))))), ?_⟩
   walk_at "goL"
   refine ⟨d, a, ns, ws, row, rfl, hd, hdo, hS, hw, hro, hop, fun H1 s1 => ?_⟩
   walk_at "goL"
   refine ⟨a, ws, _, rfl, s1.seq hS, hw, fun rb bs H2 s2 nrb hrb hBO => ?_⟩
   have s12 := s1.trans s2
   have hB := hBO.l
   walk_at "goL"
   refine ⟨d, a, ns, ws, _, rfl, s12.seq hd, hdo, s12.seq hS, hw, hbe, hst, fun rn bs' nums H3 s3 hrn hBO' T => ?_⟩
   obtain rfl := hBO.uniq hBO'
   have s13 := s12.trans s3
   have hrb3 := s3 _ _ hrb
   have hsb := (hB.mem _).mpr hbe
   have own := T.own hw.race hB
   have nl : nums.length = bs.length + 1 := T.good.len
   have val : mnq ns ws (stF ws row) = Rat.divInt (-(nums.getD bs.length 0)) (nums.getD (bs.idxOf (stF ws row)) 0) := by
     obtain ⟨h1, h2⟩ := jeh hdo hw.race (fun _ => 0) 1
     exact T.mean hw.race hB hbe hst h1 h2
   walk_at "goL"
   refine jdE (SqL.of hrn) (jnV nl) ?_
   refine jmx ?_
   walk_at "goL"
   refine jg2 (SqL.of hrb3) hsb ?_
   refine jdE (SqL.of hrn) (jek (by have := jcY hsb; omega)) ?_
   walk_at "goL"
   refine ⟨_, _, rfl, own, fun p H5 s5 n5 e5 => ?_⟩
   refine k p H5 (s13.trans s5) (s13.free n5) (by rw [val]; exact e5) ?_
   rw [val]
   exact jcV own (by rw [Int.natAbs_neg, ← jjQ]; exact T.bits.at _) (by rw [← jjQ]; exact T.bits.at _)
abbrev jhI := jmr
theorem jml {f : Addr} {fd : FuncData} (F : Fun K "mean" "mean" jfc f fd) (M : Bl mg) (T : Cs P mg) (Y : Xc K mg c) {f_state_of_open : Addr} {fd_state_of_open : FuncData} (R_state_of_open : DfX P w K mg base "state_of_open" 42 f_state_of_open fd_state_of_open ["die", "words", "row"] (jbq K c)) : jbf P w K mg base (CX1 P w) 43 f fd ["die", "words", "row"] (jhI K c) := by
 refine F.okG jem (fun vs H Q E h => ?_) (fun cdv A outer s H vs Q E hr h => ?_)
 · obtain ⟨d, y, z, ns, rfl, _⟩ := h; rfl
 · obtain ⟨d, y, z, ns, rfl, hd, hb, k⟩ := h
   refine ⟨_, (jac (jar (i := 3) jem.nd rfl (Or.inl rfl) (jay jb7 R_state_of_open hr (by rfl) (jaa (pv 0) (jaa (pv 1) (jaa (pv 2) jab rfl) rfl) rfl) (by decide) (by decide) rfl rfl) rfl (Or.inl rfl))
 jaO), ?_⟩
   walk_at "goL"
   exact ⟨d, _, _, ns, rfl, hd, hb, k⟩
def jc3 (K : PySem.W.Frag) : Sp := fun vs H Q _ => ∃ a b p q, ∃ m n : Nat, vs = [.ref a, .ref b] ∧ SqT K H a (sh p) ∧ SqT K H b (sh q) ∧ Sz m p ∧ Sz n q ∧ m + n ≤ 100000000 ∧ ∀ r H', jap H H' → H r = none → H' r = some (.tup (sh (p - q))) → Q (.ref r) H'
theorem jhE : jan ["one", "other"] ["one", "other"] (jad jbI) := ⟨rfl, rfl, rfl, by decide +kernel, rfl, by decide +kernel, by decide +kernel⟩
theorem jhf {f : Addr} {fd : FuncData} (F : Fun K "taken_away" "taken_away" jbI f fd) (M : Bl mg) (T : Cs P mg) {f_share_of : Addr} {fd_share_of : FuncData} (D_share_of : Df P w K mg base "share_of" 38 f_share_of fd_share_of ["top", "bottom"] (jbi K)) : jbf P w K mg base CX0 39 f fd ["one", "other"] (jc3 K) := by
 refine F.ok jhE (fun vs H Q E h => ?_) (fun cdv A outer s H vs Q E hr h => ?_)
 · obtain ⟨a, b, p, q, m, n, rfl, _⟩ := h; rfl
 · obtain ⟨a, b, p, q, m, n, rfl, ha, hb, zp, zq, hz, k⟩ := h
   refine ⟨_, (jaf (jam (jae D_share_of hr (by rfl) (jaa (jax jlR (jax jcb (jbg (ja3 K rfl) (pv 0) jag (fun _ _ => rfl)) (jbg (ja3 K rfl) (pv 1) jag (fun _ _ => rfl))) (jax jcb (jbg (ja3 K rfl) (pv 1) jag (fun _ _ => rfl)) (jbg (ja3 K rfl) (pv 0) jag (fun _ _ => rfl)))) (jaa (jax jcb (jbg (ja3 K rfl) (pv 0) jag (fun _ _ => rfl)) (jbg (ja3 K rfl) (pv 1) jag (fun _ _ => rfl))) jab rfl) rfl) (by decide) (by decide) rfl rfl))), ?_⟩
   walk_at "goL"
   refine jcW ha rfl ?_
   walk_at "goL"
   refine jcW hb rfl ?_
   refine jeT zp.1 zq.2 (by omega) ?_
   walk_at "goL"
   refine jcW hb rfl ?_
   walk_at "goL"
   refine jcW ha rfl ?_
   refine jeT zq.1 zp.2 (by omega) ?_
   walk_at "goL"
   refine jcW ha rfl ?_
   walk_at "goL"
   refine jcW hb rfl ?_
   refine jeT zp.2 zq.2 (by omega) ?_
   walk_at "goL"
   refine ⟨_, _, rfl, jdd p q, fun r H' s1 n1 e => ?_⟩
   rw [jiM] at e
   exact k r H' s1 n1 e
def jhs (K : PySem.W.Frag) : Sp := fun vs H Q _ => ∃ a dn one other, vs = [.ref a, .str (S one), .str (S other)] ∧ SqL K H a (dn.map V.int) ∧ jav dn ∧ jaG dn.length one ∧ jaG dn.length other ∧ one.length = other.length ∧ one ≠ other ∧ ∀ r H', jap H H' → H r = none → H' r = some (.tup (sh (jkt dn one other))) → Q (.ref r) H'
theorem jf7 : jan ["die", "one", "other", "first", "second", "both"] ["die", "one", "other"] (jad jfB) := ⟨rfl, rfl, rfl, by decide +kernel, rfl, by decide +kernel, by decide +kernel⟩
theorem jn4 {f : Addr} {fd : FuncData} (F : Fun K "odds" "odds" jfB f fd) (M : Bl mg) (T : Cs P mg) {f_check_die : Addr} {fd_check_die : FuncData} (D_check_die : Df P w K mg base "check_die" 37 f_check_die fd_check_die ["die"] (jbj K)) {f_check_word : Addr} {fd_check_word : FuncData} (D_check_word : Df P w K mg base "check_word" 39 f_check_word fd_check_word ["die", "word"] (jbb K)) {f_taken_away : Addr} {fd_taken_away : FuncData} (D_taken_away : Df P w K mg base "taken_away" 39 f_taken_away fd_taken_away ["one", "other"] (jc3 K)) {f_added : Addr} {fd_added : FuncData} (D_added : Df P w K mg base "added" 39 f_added fd_added ["one", "other"] (jeZ K)) {f_share_of : Addr} {fd_share_of : FuncData} (D_share_of : Df P w K mg base "share_of" 38 f_share_of fd_share_of ["top", "bottom"] (jbi K)) {f_one_with_other : Addr} {fd_one_with_other : FuncData} (D_one_with_other : Df P w K mg base "one_with_other" 41 f_one_with_other fd_one_with_other ["die", "one", "other"] (jbo K)) : jbf P w K mg base CX0 42 f fd ["die", "one", "other"] (jhs K) := by
 refine F.ok jf7 (fun vs H Q E h => ?_) (fun cdv A outer s H vs Q E hr h => ?_)
 · obtain ⟨a, dn, one, other, rfl, _⟩ := h; rfl
 · obtain ⟨a, dn, one, other, rfl, hS, hd, h1, h2, hl, hne, k⟩ := h
   have hm : (dn.map V.int).length = dn.length := List.length_map ..
   have l1 := h1.hi
   have l2 := h2.hi
   have p1 := je1 hd h1 h2 hl hne
   have p2 := je1 hd h2 h1 hl.symm (Ne.symm hne)
   refine ⟨_, (jac (jau (jae D_check_die hr (by rfl) (jaa (pv 0) jab rfl) (by decide) (by decide) rfl rfl) rfl)
 (jac (jau (jae D_check_word hr (by rfl) (jaa (pv 0) (jaa (pv 1) jab rfl) rfl) (by decide) (by decide) rfl rfl) rfl)
 (jac (jau (jae D_check_word hr (by rfl) (jaa (pv 0) (jaa (pv 2) jab rfl) rfl) (by decide) (by decide) rfl rfl) rfl)
 (jac (jaT (PW.pt (jfb (jak jjg (jaj jbm (by rfl) M.len PySem.boot_len (jaa (pv 1) jab rfl) (by decide) (by decide) rfl rfl) (jaj jbm (by rfl) M.len PySem.boot_len (jaa (pv 2) jab rfl) (by decide) (by decide) rfl rfl) (jas _)) (jds (jak jca (pv 1) (pv 2) (jas _)))))
 (jaf jbt)
 jaq)
 (jac (jar (i := 3) jf7.nd rfl (Or.inl rfl) (jae D_taken_away hr (by rfl) (jaa (jae D_one_with_other hr (by rfl) (jaa (pv 0) (jaa (pv 2) (jaa (pv 2) jab rfl) rfl) rfl) (by decide) (by decide) rfl rfl) (jaa (jae D_one_with_other hr (by rfl) (jaa (pv 0) (jaa (pv 2) (jaa (pv 1) jab rfl) rfl) rfl) (by decide) (by decide) rfl rfl) jab rfl) rfl) (by decide) (by decide) rfl rfl) rfl (Or.inl rfl))
 (jac (jar (i := 4) jf7.nd rfl (Or.inl rfl) (jae D_taken_away hr (by rfl) (jaa (jae D_one_with_other hr (by rfl) (jaa (pv 0) (jaa (pv 1) (jaa (pv 1) jab rfl) rfl) rfl) (by decide) (by decide) rfl rfl) (jaa (jae D_one_with_other hr (by rfl) (jaa (pv 0) (jaa (pv 1) (jaa (pv 2) jab rfl) rfl) rfl) (by decide) (by decide) rfl rfl) jab rfl) rfl) (by decide) (by decide) rfl rfl) rfl (Or.inl rfl))
 (jac (jar (i := 5) jf7.nd rfl (Or.inl rfl) (jae D_added hr (by rfl) (jaa (pv 3) (jaa (pv 4) jab rfl) rfl) (by decide) (by decide) rfl rfl) rfl (Or.inl rfl))
 (jaf (jam (jae D_share_of hr (by rfl) (jaa (jax jcb (jbg (ja3 K rfl) (pv 3) jag (fun _ _ => rfl)) (jbg (ja3 K rfl) (pv 5) jag (fun _ _ => rfl))) (jaa (jax jcb (jbg (ja3 K rfl) (pv 3) jag (fun _ _ => rfl)) (jbg (ja3 K rfl) (pv 5) jag (fun _ _ => rfl))) jab rfl) rfl) (by decide) (by decide) rfl rfl)))))))))), ?_⟩
   walk_at "goL"
   refine ⟨a, dn, rfl, hS, hd, ?_⟩
   walk_at "goL"
   refine ⟨a, _, one, rfl, hS, by rw [hm]; exact h1, fun H1 s1 => ?_⟩
   walk_at "goL"
   refine ⟨a, _, other, rfl, s1.seq hS, by rw [hm]; exact h2, fun H2 s2 => ?_⟩
   have s02 := s1.trans s2
   walk_at "goL"
   refine jow (by omega) ?_
   walk_at "goL"
   refine jdU hne ?_
   walk_at "goL"
   refine ⟨a, dn, other, other, rfl, s02.seq hS, hd, h2, h2, fun r3 H3 s3 n3 e3 => ?_⟩
   have s03 := s02.trans s3
   walk_at "goL"
   refine ⟨a, dn, other, one, rfl, s03.seq hS, hd, h2, h1, fun r4 H4 s4 n4 e4 => ?_⟩
   have s04 := s03.trans s4
   refine ⟨r3, r4, _, _, 200, 200, rfl, .inl (.inl (s4 _ _ e3)), .inl (.inl e4), jdj hd h2 h2, jdj hd h2 h1, by decide, fun r5 H5 s5 n5 e5 => ?_⟩
   have s05 := s04.trans s5
   walk_at "goL"
   refine ⟨a, dn, one, one, rfl, s05.seq hS, hd, h1, h1, fun r6 H6 s6 n6 e6 => ?_⟩
   have s06 := s05.trans s6
   walk_at "goL"
   refine ⟨a, dn, one, other, rfl, s06.seq hS, hd, h1, h2, fun r7 H7 s7 n7 e7 => ?_⟩
   have s07 := s06.trans s7
   refine ⟨r6, r7, _, _, 200, 200, rfl, .inl (.inl (s7 _ _ e6)), .inl (.inl e7), jdj hd h1 h1, jdj hd h1 h2, by decide, fun r8 H8 s8 n8 e8 => ?_⟩
   have s08 := s07.trans s8
   have e58 : H8 r5 = some (.tup (sh (cc dn other - jce dn one other))) := s8 _ _ (s7 _ _ (s6 _ _ e5))
   have e88 : H8 r8 = some (.tup (sh (cc dn one - jce dn other one))) := e8
   have z1 : Sz 401 (cc dn other - jce dn one other) := jjH (jdj hd h2 h2) (jdj hd h2 h1)
   have z2 : Sz 401 (cc dn one - jce dn other one) := jjH (jdj hd h1 h1) (jdj hd h1 h2)
   walk_at "goL"
   refine ⟨r5, r8, _, _, 401, 401, rfl, .inl (.inl e58), .inl (.inl e88), z1, z2, by decide, fun r9 H9 s9 n9 e9 => ?_⟩
   have s09 := s08.trans s9
   have z3 := jk6 z1 z2
   have t5 : SqT K H9 r5 (sh (cc dn other - jce dn one other)) := .inl (.inl (s9 _ _ e58))
   have t9 : SqT K H9 r9 (sh ((cc dn other - jce dn one other) + (cc dn one - jce dn other one))) := .inl (.inl e9)
   obtain ⟨pp, ep⟩ := part_of p1 p2
   walk_at "goL"
   refine jcW t5 rfl ?_
   walk_at "goL"
   refine jcW t9 rfl ?_
   refine jeT z1.1 z3.2 (by omega) ?_
   walk_at "goL"
   refine jcW t5 rfl ?_
   walk_at "goL"
   refine jcW t9 rfl ?_
   refine jeT z1.2 z3.1 (by omega) ?_
   walk_at "goL"
   refine ⟨_, _, rfl, pp, fun r H' s10 n10 e10 => ?_⟩
   rw [ep] at e10
   exact k r H' (s09.trans s10) (s09.free n10) e10
abbrev jhk := jmr
theorem jmO {f : Addr} {fd : FuncData} (F : Fun K "odds" "odds" jfB f fd) (M : Bl mg) (T : Cs P mg) (Y : Xc K mg c) {f_check_die : Addr} {fd_check_die : FuncData} (R_check_die : DfX P w K mg base "check_die" 37 f_check_die fd_check_die ["die"] (jba K c)) : jbf P w K mg base (CX1 P w) 42 f fd ["die", "one", "other"] (jhk K c) := by
 refine F.okG jf7 (fun vs H Q E h => ?_) (fun cdv A outer s H vs Q E hr h => ?_)
 · obtain ⟨d, y, z, ns, rfl, _⟩ := h; rfl
 · obtain ⟨d, y, z, ns, rfl, hd, hb, k⟩ := h
   refine ⟨_, (jac (jau (jay jb7 R_check_die hr (by rfl) (jaa (pv 0) jab rfl) (by decide) (by decide) rfl rfl) rfl)
 jaO), ?_⟩
   walk_at "goL"
   exact ⟨d, ns, rfl, hd, hb, fun ea he => k H ea (jap.refl _) he⟩
def jbS (K : PySem.W.Frag) : Sp := fun vs H Q _ => ∃ a xs, ∃ n : Nat, vs = [.ref a, .int (n : Int)] ∧ SqL K H a xs ∧ xs.length ≤ 4 ∧ n ≤ 6 ∧ Q (.int ((xs.length ^ n : Nat) : Int)) H
theorem jbe : jan ["die", "length", "number", "step"] ["die", "length"] (jad jaN) := ⟨rfl, rfl, rfl, by decide +kernel, rfl, by decide +kernel, by decide +kernel⟩
theorem jed {f : Addr} {fd : FuncData} (F : Fun K "number_of_words" "number_of_words" jaN f fd) (M : Bl mg) (T : Cs P mg)  : jbf P w K mg base CX0 37 f fd ["die", "length"] (jbS K) := by
 refine F.ok jbe (fun vs H Q E h => ?_) (fun cdv A outer s H vs Q E hr h => ?_)
 · obtain ⟨a, xs, n, rfl, _⟩ := h; rfl
 · obtain ⟨a, xs, n, rfl, hS, hx, hn, k⟩ := h
   refine ⟨_, (jac (jar (i := 2) jbe.nd rfl (Or.inl rfl) jag rfl (Or.inl rfl))
 (jac (jb6 PassesOwn.never rfl (jcr (by rfl) M.range (jaa (pv 1) jab rfl) rfl) (jaH (i := 3) jbe.nd rfl (Or.inl rfl) (Or.inl rfl))
 (jaf (jar (i := 2) jbe.nd rfl (Or.inl rfl) (jax jgI (pv 2) (jaj (ja4 K rfl) (by rfl) M.len PySem.boot_len (jaa (pv 0) jab rfl) (by decide) (by decide) rfl rfl)) rfl (Or.inl rfl))) (fun _ => rfl))
 (jaf (jam (pv 2))))), ?_⟩
   walk_at "goL"
   refine ⟨by omega, by omega, ?_⟩
   let Pv0 : Nat → L2.St → Hp → Prop := (fun i σ H2 => ∃ x : Option V, H2 = H ∧ σ = [some (.ref a), some (.int (n : Int)), some (.int ((xs.length ^ i : Nat) : Int)), x])
   refine forR Pv0 ⟨none, rfl, rfl⟩ ?_ ?_
   · rintro i σ H2 hi ⟨x, rfl, rfl⟩
     walk_at "goL"
     refine ⟨_, _, rfl, .inl hS, ?_⟩
     walk_at "goL"
     refine ⟨some (.int (0 + i)), rfl, ?_⟩
     rw [Nat.pow_succ]
     rfl
   · rintro σ H2 ⟨x, rfl, rfl⟩
     rw [show ((n : Nat) : Int).toNat = n by omega]
     walk_at "goL"
     exact k
def jc2 (K : PySem.W.Frag) : Sp := fun vs H Q _ => ∃ a b p q, ∃ m n : Nat, vs = [.ref a, .ref b] ∧ SqT K H a (sh p) ∧ SqT K H b (sh q) ∧ Sz m p ∧ Sz n q ∧ m + n ≤ 100000000 ∧ Q (.bl (decide (q < p))) H
theorem jhd : jan ["one", "other"] ["one", "other"] (jad jbJ) := ⟨rfl, rfl, rfl, by decide +kernel, rfl, by decide +kernel, by decide +kernel⟩
theorem jhg {f : Addr} {fd : FuncData} (F : Fun K "is_greater" "is_greater" jbJ f fd) (M : Bl mg) (T : Cs P mg)  : jbf P w K mg base CX0 37 f fd ["one", "other"] (jc2 K) := by
 refine F.ok jhd (fun vs H Q E h => ?_) (fun cdv A outer s H vs Q E hr h => ?_)
 · obtain ⟨a, b, p, q, m, n, rfl, _⟩ := h; rfl
 · obtain ⟨a, b, p, q, m, n, rfl, ha, hb, zp, zq, hz, k⟩ := h
   refine ⟨_, (jaf (jam (jjc jfZ (jax jcb (jbg (ja3 K rfl) (pv 0) jag (fun _ _ => rfl)) (jbg (ja3 K rfl) (pv 1) jag (fun _ _ => rfl))) (jax jcb (jbg (ja3 K rfl) (pv 1) jag (fun _ _ => rfl)) (jbg (ja3 K rfl) (pv 0) jag (fun _ _ => rfl))) (jas _)))), ?_⟩
   walk_at "goL"
   refine jcW ha rfl ?_
   walk_at "goL"
   refine jcW hb rfl ?_
   refine jeT zp.1 zq.2 (by omega) ?_
   walk_at "goL"
   refine jcW hb rfl ?_
   walk_at "goL"
   refine jcW ha rfl ?_
   refine jeT zq.1 zp.2 (by omega) ?_
   walk_at "goL"
   have e : decide (q < p) = decide (q.num * (p.den : Int) < p.num * (q.den : Int)) := by rw [decide_eq_decide]; exact jkv
   rw [← e]
   exact k
def jdm (K : PySem.W.Frag) : Sp := fun vs H Q _ => ∃ a xs, ∃ n : Nat, vs = [.ref a, .int (n : Int)] ∧ SqL K H a xs ∧ xs.length ≤ 4 ∧ n ≤ 6 ∧ (∀ i, i ≤ n → xs.length ^ i ≤ 1000) ∧ ∀ r H', jap H H' → H r = none → H' r = some (.lst (txs (jhG xs.length n))) → Q (.ref r) H'
theorem jm5 {n : Nat} (l : List (List Nat)) (j : Nat) (h : j < l.length) : (l.take (j + 1)).flatMap (fun t => (abcd.take n).map fun c => t ++ [c]) = (l.take j).flatMap (fun t => (abcd.take n).map fun c => t ++ [c]) ++ (abcd.take n).map fun c => l[j] ++ [c] := by
 rw [List.take_succ_eq_append_getElem h, List.flatMap_append]
 simp
theorem jn5 {n : Nat} (hn : n ≤ 4) (l : List (List Nat)) : (l.flatMap (fun t => (abcd.take n).map fun c => t ++ [c])).length = l.length * n := by
 rw [jhi (m := n) fun t _ => by rw [List.length_map, List.length_take]; have : abcd.length = 4 := rfl; omega]
theorem jbK : jan ["die", "length", "texts", "step", "longer", "text"] ["die", "length"] (jad jbC) := ⟨rfl, rfl, rfl, by decide +kernel, rfl, by decide +kernel, by decide +kernel⟩
theorem jit {f : Addr} {fd : FuncData} (F : Fun K "all_words" "all_words" jbC f fd) (M : Bl mg) (T : Cs P mg) {f_signs_of : Addr} {fd_signs_of : FuncData} (D_signs_of : Df P w K mg base "signs_of" 37 f_signs_of fd_signs_of ["die"] (jbE K)) : jbf P w K mg base CX0 38 f fd ["die", "length"] (jdm K) := by
 refine F.ok jbK (fun vs H Q E h => ?_) (fun cdv A outer s H vs Q E hr h => ?_)
 · obtain ⟨a, xs, n, rfl, _⟩ := h; rfl
 · obtain ⟨a, xs, n, rfl, hS, hx, hn, hz, k⟩ := h
   refine ⟨_, (jac (jar (i := 2) jbK.nd rfl (Or.inl rfl) (jaU (jaa (jaB [] (by decide +kernel)) jab rfl)) rfl (Or.inl rfl))
 (jac (jb6 PassesOwn.never rfl (jcr (by rfl) M.range (jaa (pv 1) jab rfl) rfl) (jaH (i := 3) jbK.nd rfl (Or.inl rfl) (Or.inl rfl))
 (jac (jar (i := 4) jbK.nd rfl (Or.inl rfl) (jaU jab) rfl (Or.inl rfl))
   (jac (jb6 PassesOwn.never rfl (jaS K rfl (pv 2)) (jaH (i := 5) jbK.nd rfl (Or.inr rfl) (Or.inl rfl))
   (jaf (jau (jcd K rfl PySem.F.plainAttrs_list PySem.F.slot_list_extend PySem.F.type_list_extend jij (pv 4) (jaa (jaY (jad jbC) ["die", "length", "texts", "step", "longer", "text"] ["last", "text"] [none, some 5] ⟨rfl, by decide +kernel, by decide +kernel, by decide +kernel, by decide +kernel, rfl, by decide +kernel⟩ (jjG (jae D_signs_of hr (by rfl) (jaa (pv 0) jab rfl) (by decide) (by decide) rfl rfl)) (fun s3 H3 C fp => ⟨pgb (i := 0) (by decide +kernel) rfl rfl, jbH, (jax ji2 (pvb 1) (pvb 0))⟩) rfl rfl rfl (fun _ => rfl)) jab rfl) rfl rfl rfl rfl rfl) rfl)) (fun _ => rfl))
   (jaf (jar (i := 2) jbK.nd rfl (Or.inl rfl) (pv 4) rfl (Or.inl rfl))))) (fun _ => rfl))
 (jaf (jam (pv 2))))), ?_⟩
   walk_at "goL"
   intro p0 n0
   have s0 := jai (o := .lst [.str (S [])]) (jap.refl H) n0
   walk_at "goL"
   refine ⟨by omega, by omega, ?_⟩
   let Pv0 : Nat → L2.St → Hp → Prop := (fun i σ H2 => ∃ (tp : Addr) (x y z : Option V), jap H H2 ∧ H tp = none ∧ H2 tp = some (.lst (txs (jhG xs.length i))) ∧ σ = [some (.ref a), some (.int (n : Int)), some (.ref tp), x, y, z])
   refine forR Pv0 ⟨p0, none, none, none, s0, n0, jah, rfl⟩ ?_ ?_
   · rintro i σ H2 hi ⟨tp, x, y, z, s2, ntp, htp, rfl⟩
     have hin : i < n := by omega
     have hl1 := jhB hx i
     have hl2 := hz i (by omega)
     have hl3 := hz (i + 1) (by omega)
     walk_at "goL"
     intro lp nlp
     have s3 := jai (o := .lst []) (jap.refl H2) nlp
     have htp3 := s3 _ _ htp
     have ne0 : tp ≠ lp := jaF htp nlp
     walk_at "goL"
     refine ⟨⟨_, SqL.of htp3⟩, ?_⟩
     let Pv1 : Nat → L2.St → Hp → Prop := (fun j σ H3 => ∃ z : Option V, jap H H3 ∧ H3 tp = some (.lst (txs (jhG xs.length i))) ∧ H3 lp = some (.lst (txs (((jhG xs.length i).take j).flatMap fun t => (abcd.take xs.length).map fun c => t ++ [c]))) ∧ σ = [some (.ref a), some (.int (n : Int)), some (.ref tp), some (.int (0 + i)), some (.ref lp), z])
     refine forL (xs := txs (jhG xs.length i)) Pv1
       ⟨z, s2.trans s3, htp3, jah, rfl⟩ (by rintro j σ H3 _ ⟨_, _, e, _⟩; exact SqL.of e) ?_ ?_
     · rintro j t σ H3 hj ⟨z, s4, e4, e5, rfl⟩
       have hjl : j < (jhG xs.length i).length := by have := (List.getElem?_eq_some_iff.mp hj).1; rw [jct] at this; exact this
       rw [jgL hjl] at hj
       obtain rfl := (Option.some.inj hj).symm
       have tl := (jef.mp (List.getElem_mem hjl)).1
       walk_at "goL"
       refine ⟨a, xs, rfl, s4.seq hS, ?_⟩
       walk_at "goL"
       intro D hD
       refine jci (src := abcd.take xs.length) (gv := fun c => V.str (S [c])) (fun c => V.str (S ((jhG xs.length i)[j] ++ [c]))) (jjR _ _) hD (by rw [List.length_take]; exact small (by omega)) (fun c hc H' R t1 k1 => ?_) (fun H' t1 hy => ?_)
       · walk_at "goL"
         refine jma (by rw [tl, List.length_singleton]; exact small (by omega)) ?_
         exact k1 _ (jap.refl _)
       · walk_at "goL"
         have e6 := t1 _ _ e5
         have e7 := t1 _ _ e4
         have step := jm5 (n := xs.length) (jhG xs.length i) j hjl
         have hlen : ((jhG xs.length i).take (j + 1)).length * xs.length ≤ 1000 := by
           rw [List.length_take, hl1]
           have : min (j + 1) (xs.length ^ i) * xs.length ≤ xs.length ^ i * xs.length := Nat.mul_le_mul_right _ (Nat.min_le_right _ _)
           rw [Nat.pow_succ] at hl3
           omega
         have hll := jn5 hx ((jhG xs.length i).take (j + 1))
         refine ⟨lp, D, _, _, rfl, rfl, e6, hy, ?_, ?_⟩
         · rw [step] at hll
           have := congrArg List.length step
           rw [List.length_append, List.length_map] at hll
           rw [jct, List.length_map]
           exact small (by omega)
         · refine ⟨_, jai (s4.trans t1) (s2.free nlp), by rw [jaw ne0]; exact e7, ?_, rfl⟩
           rw [jah, step, txs, txs, List.map_append, List.map_map]
           rfl
     · rintro σ H3 ⟨z, s4, e4, e5, rfl⟩
       rw [jct, List.take_length] at e5
       walk_at "goL"
       exact ⟨lp, _, _, _, s4, s2.free nlp, e5, rfl⟩
   · rintro σ H2 ⟨tp, x, y, z, s2, ntp, htp, rfl⟩
     rw [show ((n : Nat) : Int).toNat = n by omega] at htp
     walk_at "goL"
     exact k tp H2 s2 ntp htp
def jfg (K : PySem.W.Frag) : Sp := fun vs H Q _ => ∃ a dn w, vs = [.ref a, .str (S w)] ∧ SqL K H a (dn.map V.int) ∧ jav dn ∧ jaG dn.length w ∧ dn.length ^ w.length ≤ 32 ∧ ∀ H', jap H H' → Q (.str (S (jrx dn w))) H'
theorem jcR : jan ["die", "word", "rivals", "best", "rival"] ["die", "word"] (jad jcG) := ⟨rfl, rfl, rfl, by decide +kernel, rfl, by decide +kernel, by decide +kernel⟩
theorem jlc {f : Addr} {fd : FuncData} (F : Fun K "answer" "answer" jcG f fd) (M : Bl mg) (T : Cs P mg) {f_check_die : Addr} {fd_check_die : FuncData} (D_check_die : Df P w K mg base "check_die" 37 f_check_die fd_check_die ["die"] (jbj K)) {f_check_word : Addr} {fd_check_word : FuncData} (D_check_word : Df P w K mg base "check_word" 39 f_check_word fd_check_word ["die", "word"] (jbb K)) {f_number_of_words : Addr} {fd_number_of_words : FuncData} (D_number_of_words : Df P w K mg base "number_of_words" 37 f_number_of_words fd_number_of_words ["die", "length"] (jbS K)) {f_is_greater : Addr} {fd_is_greater : FuncData} (D_is_greater : Df P w K mg base "is_greater" 37 f_is_greater fd_is_greater ["one", "other"] (jc2 K)) {f_all_words : Addr} {fd_all_words : FuncData} (D_all_words : Df P w K mg base "all_words" 38 f_all_words fd_all_words ["die", "length"] (jdm K)) {f_odds : Addr} {fd_odds : FuncData} (D_odds : Df P w K mg base "odds" 42 f_odds fd_odds ["die", "one", "other"] (jhs K)) : jbf P w K mg base CX0 43 f fd ["die", "word"] (jfg K) := by
 refine F.ok jcR (fun vs H Q E h => ?_) (fun cdv A outer s H vs Q E hr h => ?_)
 · obtain ⟨a, dn, w, rfl, _⟩ := h; rfl
 · obtain ⟨a, dn, w, rfl, hS, hd, hw, h32, k⟩ := h
   have hm : (dn.map V.int).length = dn.length := List.length_map ..
   have hd1 := hd.lo
   have hd2 := hd.hi
   have hw6 := hw.hi
   have hpow : ∀ i, i ≤ w.length → dn.length ^ i ≤ 1000 := fun i hi => by
     have := Nat.pow_le_pow_right (show 0 < dn.length by omega) hi
     omega
   refine ⟨_, (jac (jau (jae D_check_die hr (by rfl) (jaa (pv 0) jab rfl) (by decide) (by decide) rfl rfl) rfl)
 (jac (jau (jae D_check_word hr (by rfl) (jaa (pv 0) (jaa (pv 1) jab rfl) rfl) (by decide) (by decide) rfl rfl) rfl)
 (jac (jaT (jak jfZ (jae D_number_of_words hr (by rfl) (jaa (pv 0) (jaa (jaj jbm (by rfl) M.len PySem.boot_len (jaa (pv 1) jab rfl) (by decide) (by decide) rfl rfl) jab rfl) rfl) (by decide) (by decide) rfl rfl) (jdY (by rfl) T.MOST_ANSWERS (by decide)) (jas _))
 (jaf jbt)
 jaq)
 (jac (je0 (jad jcG) ["die", "word", "rivals", "best", "rival"] ["text", "word"] [none, some 1] (jaH (i := 2) jcR.nd rfl (Or.inl rfl) (Or.inl rfl)) ⟨rfl, by decide +kernel, by decide +kernel, by decide +kernel, by decide +kernel, rfl, by decide +kernel⟩ (jaS K rfl (jae D_all_words hr (by rfl) (jaa (pv 0) (jaa (jaj jbm (by rfl) M.len PySem.boot_len (jaa (pv 1) jab rfl) (by decide) (by decide) rfl rfl) jab rfl) rfl) (by decide) (by decide) rfl rfl)) (fun s3 H3 C fp => ⟨pgb (i := 0) (by decide +kernel) rfl rfl, (jfo (jak jjg (pvb 0) (pvb 1) (jas _))), (pvb 0)⟩) rfl rfl rfl rfl (fun _ => rfl))
 (jac (jar (i := 3) jcR.nd rfl (Or.inl rfl) (jbg (jaZ K rfl) (pv 2) jag (fun _ _ => rfl)) rfl (Or.inl rfl))
 (jac (jb6 PassesOwn.never rfl (jaS K rfl (pv 2)) (jaH (i := 4) jcR.nd rfl (Or.inl rfl) (Or.inl rfl))
 (jaf (jaT (jeI (jae D_is_greater hr (by rfl) (jaa (jae D_odds hr (by rfl) (jaa (pv 0) (jaa (pv 4) (jaa (pv 1) jab rfl) rfl) rfl) (by decide) (by decide) rfl rfl) (jaa (jae D_odds hr (by rfl) (jaa (pv 0) (jaa (pv 3) (jaa (pv 1) jab rfl) rfl) rfl) (by decide) (by decide) rfl rfl) jab rfl) rfl) (by decide) (by decide) rfl rfl) (fun _ => rfl))
   (jaf (jar (i := 3) jcR.nd rfl (Or.inl rfl) (pv 4) rfl (Or.inl rfl)))
   jaq)) (fun _ => rfl))
 (jaf (jam (pv 3))))))))), ?_⟩
   walk_at "goL"
   refine ⟨a, dn, rfl, hS, hd, ?_⟩
   walk_at "goL"
   refine ⟨a, _, w, rfl, hS, by rw [hm]; exact hw, fun H1 s1 => ?_⟩
   walk_at "goL"
   refine ⟨a, _, w.length, rfl, s1.seq hS, by omega, by omega, ?_⟩
   rw [hm]
   walk_at "goL"
   refine jdU (by omega) ?_
   walk_at "goL"
   refine ⟨a, _, w.length, rfl, s1.seq hS, by omega, by omega, by rw [hm]; exact hpow, fun r2 H2 s2 n2 e2 => ?_⟩
   rw [hm] at e2
   have s02 := s1.trans s2
   walk_at "goL"
   refine ⟨⟨_, SqL.of e2⟩, ?_⟩
   intro D hD
   have hal := jhB hd2 w.length
   refine jd1 (src := jhG dn.length w.length) (gv := fun l => V.str (S l)) (fun t => !decide (t = w)) (fun t => V.str (S t)) (jbk (SqL.of e2)) hD (small (by omega)) (fun t ht H' R t1 k1 => ?_) (fun t ht _ H' R t1 k1 => ?_) (fun H3 s3 hy => ?_)
   · walk_at "goL"
     exact k1 _ (jap.refl _)
   · walk_at "goL"
     exact k1 _ (jap.refl _)
   · have hy' : H3 D = some (.lst (txs (jej dn.length w))) := hy
     have s03 := s02.trans s3
     have hne := jnr hd1 hd2 hw
     have hh : (txs (jej dn.length w))[0]? = some (.str (S ((jej dn.length w).headD []))) := by
       cases e : jej dn.length w with
       | nil => exact absurd e hne
       | cons b l => rfl
     walk_at "goL"
     refine jdE (SqL.of hy') (jfk (j := 0) hh) ?_
     walk_at "goL"
     refine ⟨⟨_, SqL.of hy'⟩, ?_⟩
     let Pv0 : Nat → L2.St → Hp → Prop := (fun i σ H4 => ∃ x : Option V, jap H3 H4 ∧ σ = [some (.ref a), some (.str (S w)), some (.ref D), some (.str (S (jgj (fun r => jkt dn r w) ((jej dn.length w).headD []) ((jej dn.length w).take i)))), x])
     refine forL (xs := txs (jej dn.length w)) Pv0
       ⟨none, jap.refl _, rfl⟩ (by rintro i σ H4 _ ⟨_, e, _⟩; exact e.seq (SqL.of hy')) ?_ ?_
     · rintro i x σ H4 hi ⟨y, s4, rfl⟩
       have hlt : i < (jej dn.length w).length := by have := (List.getElem?_eq_some_iff.mp hi).1; rw [jct] at this; exact this
       rw [jgL hlt] at hi
       obtain rfl := (Option.some.inj hi).symm
       have s04 := s03.trans s4
       obtain ⟨r1, r2', r3⟩ := jli hw (List.getElem_mem hlt)
       obtain ⟨b1, b2, b3⟩ := jli hw (jmw hd hw (fun t ht => List.mem_of_mem_take ht) (fun r => jkt dn r w) (l := (jej dn.length w).take i))
       have et : (jej dn.length w).take (i + 1) = (jej dn.length w).take i ++ [(jej dn.length w)[i]] := by rw [List.take_succ_eq_append_getElem hlt]
       walk_at "goL"
       refine ⟨a, dn, _, w, rfl, s04.seq hS, hd, r1, hw, r2', r3, fun q5 H5 s5 n5 e5 => ?_⟩
       walk_at "goL"
       refine ⟨a, dn, _, w, rfl, (s04.trans s5).seq hS, hd, b1, hw, b2, b3, fun q6 H6 s6 n6 e6 => ?_⟩
       refine ⟨q5, q6, _, _, 2000, 2000, rfl, .inl (.inl (s6 _ _ e5)), .inl (.inl e6), jlu hd r1 hw r2' r3, jlu hd b1 hw b2 b3, by decide, ?_⟩
       walk_at "goL"
       refine jbR (fun hc => ?_) (fun hc => ?_)
       · walk_at "goL"
         refine ⟨some (.str (S (jej dn.length w)[i])), (s4.trans s5).trans s6, ?_⟩
         rw [et, jez, if_pos hc]
         rfl
       · walk_at "goL"
         refine ⟨some (.str (S (jej dn.length w)[i])), (s4.trans s5).trans s6, ?_⟩
         rw [et, jez, if_neg hc]
         rfl
     · rintro σ H4 ⟨y, s4, rfl⟩
       rw [jct, List.take_length]
       walk_at "goL"
       exact k H4 (s03.trans s4)
abbrev jeo := jpu
theorem jkn {f : Addr} {fd : FuncData} (F : Fun K "answer" "answer" jcG f fd) (M : Bl mg) (T : Cs P mg) (Y : Xc K mg c) {f_check_die : Addr} {fd_check_die : FuncData} (R_check_die : DfX P w K mg base "check_die" 37 f_check_die fd_check_die ["die"] (jba K c)) : jbf P w K mg base (CX1 P w) 43 f fd ["die", "word"] (jeo K c) := by
 refine F.okG jcR (fun vs H Q E h => ?_) (fun cdv A outer s H vs Q E hr h => ?_)
 · obtain ⟨d, y, ns, rfl, _⟩ := h; rfl
 · obtain ⟨d, y, ns, rfl, hd, hb, k⟩ := h
   refine ⟨_, (jac (jau (jay jb7 R_check_die hr (by rfl) (jaa (pv 0) jab rfl) (by decide) (by decide) rfl rfl) rfl)
 jaO), ?_⟩
   walk_at "goL"
   exact ⟨d, ns, rfl, hd, hb, fun ea he => k H ea (jap.refl _) he⟩
def jcg (K : PySem.W.Frag) : Sp := fun vs H Q _ => ∃ n : Int, vs = [.int n] ∧ 0 ≤ n ∧ n ≤ 60 ∧ Q .non H
theorem jhq : jan ["many"] ["many"] (jad jbQ) := ⟨rfl, rfl, rfl, by decide +kernel, rfl, by decide +kernel, by decide +kernel⟩
theorem jhm {f : Addr} {fd : FuncData} (F : Fun K "check_many" "check_many" jbQ f fd) (M : Bl mg) (T : Cs P mg)  : jbf P w K mg base CX0 37 f fd ["many"] (jcg K) := by
 refine F.ok jhq (fun vs H Q E h => ?_) (fun cdv A outer s H vs Q E hr h => ?_)
 · obtain ⟨n, rfl, _⟩ := h; rfl
 · obtain ⟨n, rfl, h1, h2, k⟩ := h
   refine ⟨_, (jaf (jaT (PW.pt (jfb (jak jft (pv 0) jag (jas _)) (jds (jak jfZ (pv 0) (jdY (by rfl) T.MOST_THROWS (by decide)) (jas _)))))
 (jaf jbt)
 jaq)), ?_⟩
   walk_at "goL"
   refine jdU (by omega) ?_
   walk_at "goL"
   refine jdU (by omega) ?_
   walk_at "goL"
   exact k
def jb2 (K : PySem.W.Frag) : Sp := fun vs H Q _ => ∃ d a c, ∃ ns : List Int, ∃ ws m, vs = [.ref d, .ref a, .ref c] ∧ SqL K H d (ns.map V.int) ∧ jav ns ∧ SqL K H a (txs ws) ∧ jbc ns.length ws ∧ H c = some (.dK (kvC m)) ∧ jdx ws m ∧
 ∀ r H', jcx c H H' → H' c ≠ none → H r = none → H' r = some (.dK (kvC (jgh ws ns.length m []))) → Q (.ref r) H'
theorem jaE : jan ["die", "words", "counted", "begun", "longer", "state", "number", "sign", "after"] ["die", "words", "counted"] (jad jaW) := ⟨rfl, rfl, rfl, by decide +kernel, rfl, by decide +kernel, by decide +kernel⟩
theorem jex {f : Addr} {fd : FuncData} (F : Fun K "one_throw_more" "one_throw_more" jaW f fd) (M : Bl mg) (T : Cs P mg) {f_beginnings_of : Addr} {fd_beginnings_of : FuncData} (D_beginnings_of : Df P w K mg base "beginnings_of" 37 f_beginnings_of fd_beginnings_of ["words"] (jaC K)) {f_signs_of : Addr} {fd_signs_of : FuncData} (D_signs_of : Df P w K mg base "signs_of" 37 f_signs_of fd_signs_of ["die"] (jbE K)) {f_longest_at_end : Addr} {fd_longest_at_end : FuncData} (D_longest_at_end : Df P w K mg base "longest_at_end" 37 f_longest_at_end fd_longest_at_end ["begun", "text"] (ja2 K)) : jbf P w K mg base CX0 38 f fd ["die", "words", "counted"] (jb2 K) := by
 refine F.ok jaE (fun vs H Q E h => ?_) (fun cdv A outer s H vs Q E hr h => ?_)
 · obtain ⟨d, a, c, ns, ws, m, rfl, _⟩ := h; rfl
 · obtain ⟨d, a, c, ns, ws, m, rfl, hd, hdo, hS, hw, hc, hm, k⟩ := h
   have hl : (ns.map V.int).length = ns.length := List.length_map ..
   have hml := jiX hw hm
   have d4 := hdo.hi
   refine ⟨_, (jac (jar (i := 3) jaE.nd rfl (Or.inl rfl) (jae D_beginnings_of hr (by rfl) (jaa (pv 1) jab rfl) (by decide) (by decide) rfl rfl) rfl (Or.inl rfl))
 (jac (jar (i := 4) jaE.nd rfl (Or.inl rfl) jmN rfl (Or.inl rfl))
 (jac (jb6 PassesOwn.never rfl (jj6 (pv 2) rfl rfl) (jfE K rfl rfl (jb5 (jaH (i := 5) jaE.nd rfl (Or.inl rfl) (Or.inl rfl)) (jb5 (jaH (i := 6) jaE.nd rfl (Or.inl rfl) (Or.inl rfl)) jfY rfl) rfl) rfl rfl)
 (jaf (jaT (jak (jfy K rfl) (pv 5) (pv 1) (by with_unfolding_all rfl))
   (jaf (jb6 PassesOwn.never rfl (jjG (jae D_signs_of hr (by rfl) (jaa (pv 0) jab rfl) (by decide) (by decide) rfl rfl)) (jaH (i := 7) jaE.nd rfl (Or.inl rfl) (Or.inl rfl))
     (jac (jar (i := 8) jaE.nd rfl (Or.inl rfl) (jae D_longest_at_end hr (by rfl) (jaa (pv 3) (jaa (jax ji2 (pv 5) (pv 7)) jab rfl) rfl) (by decide) (by decide) rfl rfl) rfl (Or.inl rfl))
       (jaf (joR (jog hr) (pv 4) (pv 8) (jax jcE (jj5 (jog hr) (pv 4) (pv 8) jag ⟨rfl, rfl, rfl, rfl⟩) (pv 6)) rfl))) (fun _ => rfl)))
   jaq)) (fun _ => rfl))
 (jaf (jam (pv 4)))))), ?_⟩
   walk_at "goL"
   refine ⟨a, ws, _, rfl, hS, hw, fun rb bs H1 s1 nrb hrb hBO => ?_⟩
   have hB := hBO.l
   have hfew := jfU hw hB
   have ne := hw.race.ne
   walk_at "goL"
   intro lp nlp
   have s2 := jai (o := .dK []) (jap.refl H1) nlp
   have s12 := s1.trans s2
   have hc2 := s12 _ _ hc
   walk_at "goL"
   refine ⟨c, kvC m, rfl, hc2, fun o => ?_⟩
   have nlc : lp ≠ c := fun z => by rw [z] at nlp; rw [s1 _ _ hc] at nlp; cases nlp
   have nrc : rb ≠ c := fun z => by rw [z] at nrb; rw [hc] at nrb; cases nrb
   have nlr : rb ≠ lp := fun z => by rw [← z] at nlp; rw [hrb] at nlp; cases nlp
   have nl0 := s1.free nlp
   let Pv0 : Nat → L2.St → Hp → Prop := (fun i σ H3 => ∃ x5 x6 x7 x8 : Option V, jcx c H H3 ∧ H3 c = some (.frz o (.dK (kvC m))) ∧ H3 rb = some (.lst (txs bs)) ∧ H3 lp = some (.dK (kvC (jgh ws ns.length (m.take i) []))) ∧
     σ = [some (.ref d), some (.ref a), some (.ref c), some (.ref rb), some (.ref lp), x5, x6, x7, x8])
   refine jrj (kvs := kvC m) Pv0
     ⟨none, none, none, none, jcx.updC (jcx.of s12), jah, by rw [jaw nrc]; exact s2 _ _ hrb, by rw [jaw nlc, jah]; rfl, rfl⟩ (by rintro i σ H3 _ ⟨_, _, _, _, _, e, _⟩; exact e) ?_ ?_
   · rintro i p σ H3 hi ⟨x5, x6, x7, x8, b3, c3, r3, l3, rfl⟩ t nt
     have hlt : i < m.length := by have := (List.getElem?_eq_some_iff.mp hi).1; rw [jjm] at this; exact this
     rw [joX hlt] at hi
     obtain rfl := (Option.some.inj hi).symm
     have st := jai (o := .tup [V.str (S m[i].1), V.int m[i].2]) (jap.refl H3) nt
     have b4 := b3.trans st
     have hbg : Beg ws m[i].1 := hm.beg _ (List.mem_map.mpr ⟨_, List.getElem_mem hlt, rfl⟩)
     have hbl := hw.race.len hbg
     have stp := jj8 ws ns.length m [] i hlt
     refine jjy (SqT.of jah) ?_
     walk_at "goL"
     refine jhh (b4.seq hc hS) ?_
     walk_at "goL"
     by_cases hin : m[i].1 ∈ ws
     · refine jpU (by simp [hin]) ?_
       walk_at "goL"
       exact ⟨_, _, x7, x8, b4, st _ _ c3, st _ _ r3, by rw [stp, if_pos hin]; exact st _ _ l3, rfl⟩
     · refine jpa (by simp [hin]) ?_
       rw [if_neg hin] at stp
       walk_at "goL"
       refine ⟨d, _, rfl, b4.seq hc hd, ?_⟩
       walk_at "goL"
       rw [hl]
       let Pv1 : Nat → L2.St → Hp → Prop := (fun j σ H5 => ∃ x7 x8 : Option V, jcx c H H5 ∧ H5 c = some (.frz o (.dK (kvC m))) ∧ H5 rb = some (.lst (txs bs)) ∧ H5 lp = some (.dK (kvC (putS ws m[i] ((abcd.take ns.length).take j) (jgh ws ns.length (m.take i) [])))) ∧
         σ = [some (.ref d), some (.ref a), some (.ref c), some (.ref rb), some (.ref lp), some (.str (S m[i].1)), some (.int m[i].2), x7, x8])
       refine jrf (l := abcd.take ns.length) Pv1
         ⟨x7, x8, b4, st _ _ c3, st _ _ r3, by rw [List.take_zero]; exact st _ _ l3, rfl⟩ ?_ ?_
       · rintro j ch σ H5 hj ⟨x7, x8, b5, c5, r5, l5, rfl⟩
         obtain ⟨hjl, rfl⟩ := List.getElem?_eq_some_iff.mp hj
         have okm := (((cnt_nil ws).step ne (G := ns.length) (l := m.take i)).putS ne (p := m[i]) (l := (abcd.take ns.length).take j))
         have ml := jiX hw okm
         walk_at "goL"
         refine jma (by rw [List.length_singleton]; exact small (by omega)) ?_
         walk_at "goL"
         refine ⟨rb, bs, ws, _, rfl, SqL.of r5, hB, ne, by omega, fun t ht => by have := hw.race.len ((hB.mem t).mp ht); omega, fun H6 s6 => ?_⟩
         have l6 := s6 _ _ l5
         walk_at "goL"
         refine ⟨.inl ⟨_, .inl l6⟩, ?_⟩
         walk_at "goL"
         refine ⟨_, jpM (.inl l6), ?_⟩
         rw [jjA]
         walk_at "goL"
         refine jo9 l6 (by omega) ?_
         refine ⟨_, _, (b5.trans s6).upd nl0, by rw [jaw (Ne.symm nlc)]; exact s6 _ _ c5, by rw [jaw nlr]; exact s6 _ _ r5, ?_, rfl⟩
         rw [jah, jlY ws m[i] _ _ j hjl]
         rfl
       · rintro σ H5 ⟨x7, x8, b5, c5, r5, l5, rfl⟩
         rw [List.take_length] at l5
         exact ⟨_, _, x7, x8, b5, c5, r5, by rw [stp]; exact l5, rfl⟩
   · rintro σ H3 ⟨x5, x6, x7, x8, b3, c3, r3, l3, rfl⟩
     rw [jjm, List.take_length] at l3
     walk_at "goL"
     exact k lp H3 b3 (by rw [c3]; exact fun z => nomatch z) nl0 l3
def jbx (K : PySem.W.Frag) : Sp := fun vs H Q _ => ∃ d a, ∃ ns : List Int, ∃ ws, ∃ n : Nat, vs = [.ref d, .ref a, .int (n : Int)] ∧ SqL K H d (ns.map V.int) ∧ jav ns ∧ SqL K H a (txs ws) ∧ jbc ns.length ws ∧ n ≤ 60 ∧
 ∀ r H', jap H H' → H r = none → H' r = some (.dK (kvC (jiP ws ns.length n))) → Q (.ref r) H'
theorem jby : jan ["die", "words", "many", "counted", "throw"] ["die", "words", "many"] (jad ja5) := ⟨rfl, rfl, rfl, by decide +kernel, rfl, by decide +kernel, by decide +kernel⟩
theorem jeV {f : Addr} {fd : FuncData} (F : Fun K "rows_by_state" "rows_by_state" ja5 f fd) (M : Bl mg) (T : Cs P mg) {f_one_throw_more : Addr} {fd_one_throw_more : FuncData} (D_one_throw_more : Df P w K mg base "one_throw_more" 38 f_one_throw_more fd_one_throw_more ["die", "words", "counted"] (jb2 K)) : jbf P w K mg base CX0 39 f fd ["die", "words", "many"] (jbx K) := by
 refine F.ok jby (fun vs H Q E h => ?_) (fun cdv A outer s H vs Q E hr h => ?_)
 · obtain ⟨d, a, ns, ws, n, rfl, _⟩ := h; rfl
 · obtain ⟨d, a, ns, ws, n, rfl, hd, hdo, hS, hw, hn, k⟩ := h
   refine ⟨_, (jac (jar (i := 3) jby.nd rfl (Or.inl rfl) (joF (jm0 (jaB [] (by decide +kernel)) jag joq) rfl rfl (by decide) (by decide)) rfl (Or.inl rfl))
 (jac (jb6 PassesOwn.never rfl (jcr (by rfl) M.range (jaa (pv 2) jab rfl) rfl) (jaH (i := 4) jby.nd rfl (Or.inl rfl) (Or.inl rfl))
 (jaf (jar (i := 3) jby.nd rfl (Or.inl rfl) (jae D_one_throw_more hr (by rfl) (jaa (pv 0) (jaa (pv 1) (jaa (pv 3) jab rfl) rfl) rfl) (by decide) (by decide) rfl rfl) rfl (Or.inl rfl))) (fun _ => rfl))
 (jaf (jam (pv 3))))), ?_⟩
   walk_at "goL"
   intro p0 n0
   have s0 := jai (o := .dK []) (jap.refl H) n0
   walk_at "goL"
   refine ⟨jah, joK ?_⟩
   rw [jn6]
   have s1 := jai (o := .dK (kvC [([], 1)])) (jap.refl H) n0
   walk_at "goL"
   refine ⟨by omega, by omega, ?_⟩
   rw [show ((n : Nat) : Int).toNat = n by omega]
   let Pv0 : Nat → L2.St → Hp → Prop := (fun i σ H2 => ∃ (c : Addr) (x : Option V), jap H H2 ∧ H c = none ∧ H2 c = some (.dK (kvC (jiP ws ns.length i))) ∧ σ = [some (.ref d), some (.ref a), some (.int (n : Int)), some (.ref c), x])
   refine forR Pv0 ⟨p0, none, s1, n0, jah, rfl⟩ ?_ ?_
   · rintro i σ H2 hi ⟨c, x, s2, nc, hc, rfl⟩
     walk_at "goL"
     refine ⟨d, a, c, ns, ws, _, rfl, s2.seq hd, hdo, s2.seq hS, hw, hc, jlr hw.race.ne _ i, fun r H3 s3 _ nr hr => ?_⟩
     exact ⟨r, _, s3.same s2 nc, s2.free nr, hr, rfl⟩
   · rintro σ H2 ⟨c, x, s2, nc, hc, rfl⟩
     walk_at "goL"
     exact k c H2 s2 nc hc
def jdt (K : PySem.W.Frag) : Sp := fun vs H Q _ => ∃ d a, ∃ ns : List Int, ∃ ws, ∃ n : Nat, vs = [.ref d, .ref a, .int (n : Int)] ∧ SqL K H d (ns.map V.int) ∧ jav ns ∧ SqL K H a (txs ws) ∧ jbc ns.length ws ∧ n ≤ 60 ∧
 ∀ H', jap H H' → Q (.int (jqz ws (jiP ws ns.length n))) H'
theorem jdn : jan ["die", "words", "many", "counted"] ["die", "words", "many"] (jad jbh) := ⟨rfl, rfl, rfl, by decide +kernel, rfl, by decide +kernel, by decide +kernel⟩
theorem jhX {f : Addr} {fd : FuncData} (F : Fun K "open_rows" "open_rows" jbh f fd) (M : Bl mg) (T : Cs P mg) {f_check_race : Addr} {fd_check_race : FuncData} (D_check_race : Df P w K mg base "check_race" 40 f_check_race fd_check_race ["die", "words"] (jaX K)) {f_check_many : Addr} {fd_check_many : FuncData} (D_check_many : Df P w K mg base "check_many" 37 f_check_many fd_check_many ["many"] (jcg K)) {f_rows_by_state : Addr} {fd_rows_by_state : FuncData} (D_rows_by_state : Df P w K mg base "rows_by_state" 39 f_rows_by_state fd_rows_by_state ["die", "words", "many"] (jbx K)) : jbf P w K mg base CX0 41 f fd ["die", "words", "many"] (jdt K) := by
 refine F.ok jdn (fun vs H Q E h => ?_) (fun cdv A outer s H vs Q E hr h => ?_)
 · obtain ⟨d, a, ns, ws, n, rfl, _⟩ := h; rfl
 · obtain ⟨d, a, ns, ws, n, rfl, hd, hdo, hS, hw, hn, k⟩ := h
   refine ⟨_, (jac (jau (jae D_check_race hr (by rfl) (jaa (pv 0) (jaa (pv 1) jab rfl) rfl) (by decide) (by decide) rfl rfl) rfl)
 (jac (jau (jae D_check_many hr (by rfl) (jaa (pv 2) jab rfl) (by decide) (by decide) rfl rfl) rfl)
 (jac (jar (i := 3) jdn.nd rfl (Or.inl rfl) (jae D_rows_by_state hr (by rfl) (jaa (pv 0) (jaa (pv 1) (jaa (pv 2) jab rfl) rfl) rfl) (by decide) (by decide) rfl rfl) rfl (Or.inl rfl))
 (jaf (jam (jaj (jea K rfl rfl) (by rfl) M.sum boot_sum (jaa (jaY (jad jbh) ["die", "words", "many", "counted"] ["state", "number", "words"] [none, none, some 1] ⟨rfl, by decide +kernel, by decide +kernel, by decide +kernel, by decide +kernel, rfl, by decide +kernel⟩ (jj6 (pv 3) rfl rfl) (fun s3 H3 C fp => ⟨jfE K (n := 2) rfl rfl (jb5 (pgb (i := 0) (by decide +kernel) rfl rfl) (jb5 (pgb (i := 1) (by decide +kernel) rfl rfl) jfY rfl) rfl) rfl rfl, (jfo (jak (jfy K rfl) (pvb 0) (pvb 2) (by with_unfolding_all rfl))), (pvb 1)⟩) rfl rfl rfl (fun _ => rfl)) jab rfl) (by decide) (by decide) rfl rfl)))))), ?_⟩
   walk_at "goL"
   refine ⟨d, a, ns, ws, rfl, hd, hdo, hS, hw, fun H1 s1 => ?_⟩
   walk_at "goL"
   refine ⟨n, rfl, by omega, by omega, ?_⟩
   walk_at "goL"
   refine ⟨d, a, ns, ws, n, rfl, s1.seq hd, hdo, s1.seq hS, hw, hn, fun c H2 s2 nc hc => ?_⟩
   have ok := jlr hw.race.ne ns.length n
   have ml := jiX hw ok
   have s12 := s1.trans s2
   have nc0 := s1.free nc
   walk_at "goL"
   refine ⟨c, kvC (jiP ws ns.length n), rfl, hc, fun o => ?_⟩
   have x3 : jcx c H (upd H2 c (.frz o (.dK (kvC (jiP ws ns.length n))))) := jcx.updC (jcx.of s12)
   have s3 : jap H (upd H2 c (.frz o (.dK (kvC (jiP ws ns.length n))))) := x3.same (jap.refl H) nc0
   intro D hD
   refine jgx K (src := jiP ws ns.length n) (gv := fun p => (V.str (S p.1), V.int p.2)) (fun p => !decide (p.1 ∈ ws)) (fun p => V.int p.2) (by have g := jkr (d := c) (o := o) (kvs := kvC (jiP ws ns.length n)) (H1 := upd H2 c (.frz o (.dK (kvC (jiP ws ns.length n))))) jah; rw [List.map_map] at g; exact g) hD (small (by omega)) (fun p hp H' R t1 k1 => ?_) (fun p hp _ H' R t1 k1 => ?_) (fun H' t1 hy => ?_)
   · walk_at "goL"
     refine jhh ((s3.trans t1).seq hS) ?_
     exact ⟨_, rfl, k1 _ (jap.refl _)⟩
   · walk_at "goL"
     exact k1 _ (jap.refl _)
   · walk_at "goL"
     refine ⟨D, ((jiP ws ns.length n).filter fun p => !decide (p.1 ∈ ws)).map (·.2), rfl, SqL.of (by rw [hy, List.map_map]; rfl), ?_⟩
     exact k H' (s3.trans t1)
abbrev jc8 := jmr
theorem jg7 {f : Addr} {fd : FuncData} (F : Fun K "open_rows" "open_rows" jbh f fd) (M : Bl mg) (T : Cs P mg) (Y : Xc K mg c) {f_check_race : Addr} {fd_check_race : FuncData} (R_check_race : DfX P w K mg base "check_race" 40 f_check_race fd_check_race ["die", "words"] (jaM K c)) : jbf P w K mg base (CX1 P w) 41 f fd ["die", "words", "many"] (jc8 K c) := by
 refine F.okG jdn (fun vs H Q E h => ?_) (fun cdv A outer s H vs Q E hr h => ?_)
 · obtain ⟨d, y, z, ns, rfl, _⟩ := h; rfl
 · obtain ⟨d, y, z, ns, rfl, hd, hb, k⟩ := h
   refine ⟨_, (jac (jau (jay jb7 R_check_race hr (by rfl) (jaa (pv 0) (jaa (pv 1) jab rfl) rfl) (by decide) (by decide) rfl rfl) rfl)
 jaO), ?_⟩
   walk_at "goL"
   exact ⟨d, _, ns, rfl, hd, hb, k⟩
def jdb (K : PySem.W.Frag) : Sp := fun vs H Q _ => ∃ d a, ∃ ns : List Int, ∃ ws, ∃ n : Nat, vs = [.ref d, .ref a, .int (n : Int)] ∧ SqL K H d (ns.map V.int) ∧ jav ns ∧ SqL K H a (txs ws) ∧ jbc ns.length ws ∧ n ≤ 60 ∧
 ∀ r H', jap H H' → H r = none → H' r = some (.lst ((endC ws (jiP ws ns.length n)).map V.int)) → Q (.ref r) H'
theorem jc4 : jan ["die", "words", "many", "counted"] ["die", "words", "many"] (jad ja7) := ⟨rfl, rfl, rfl, by decide +kernel, rfl, by decide +kernel, by decide +kernel⟩
theorem jhL {f : Addr} {fd : FuncData} (F : Fun K "ended_rows" "ended_rows" ja7 f fd) (M : Bl mg) (T : Cs P mg) {f_check_race : Addr} {fd_check_race : FuncData} (D_check_race : Df P w K mg base "check_race" 40 f_check_race fd_check_race ["die", "words"] (jaX K)) {f_check_many : Addr} {fd_check_many : FuncData} (D_check_many : Df P w K mg base "check_many" 37 f_check_many fd_check_many ["many"] (jcg K)) {f_rows_by_state : Addr} {fd_rows_by_state : FuncData} (D_rows_by_state : Df P w K mg base "rows_by_state" 39 f_rows_by_state fd_rows_by_state ["die", "words", "many"] (jbx K)) : jbf P w K mg base CX0 41 f fd ["die", "words", "many"] (jdb K) := by
 refine F.ok jc4 (fun vs H Q E h => ?_) (fun cdv A outer s H vs Q E hr h => ?_)
 · obtain ⟨d, a, ns, ws, n, rfl, _⟩ := h; rfl
 · obtain ⟨d, a, ns, ws, n, rfl, hd, hdo, hS, hw, hn, k⟩ := h
   have hw4 := hw.hi
   refine ⟨_, (jac (jau (jae D_check_race hr (by rfl) (jaa (pv 0) (jaa (pv 1) jab rfl) rfl) (by decide) (by decide) rfl rfl) rfl)
 (jac (jau (jae D_check_many hr (by rfl) (jaa (pv 2) jab rfl) (by decide) (by decide) rfl rfl) rfl)
 (jac (jar (i := 3) jc4.nd rfl (Or.inr rfl) (jae D_rows_by_state hr (by rfl) (jaa (pv 0) (jaa (pv 1) (jaa (pv 2) jab rfl) rfl) rfl) (by decide) (by decide) rfl rfl) rfl (Or.inl rfl))
 (jaf (jam (jaY (jad ja7) ["die", "words", "many", "counted"] ["word", "counted"] [none, some 3] ⟨rfl, by decide +kernel, by decide +kernel, by decide +kernel, by decide +kernel, rfl, by decide +kernel⟩ (jaS K rfl (pv 1)) (fun s3 H3 C fp => ⟨pgb (i := 0) (by decide +kernel) rfl rfl, jbH, (jj5 (jog hr) (pvb 1) (pvb 0) jag ⟨rfl, rfl, rfl, rfl⟩)⟩) rfl rfl rfl (fun _ => rfl))))))), ?_⟩
   walk_at "goL"
   refine ⟨d, a, ns, ws, rfl, hd, hdo, hS, hw, fun H1 s1 => ?_⟩
   walk_at "goL"
   refine ⟨n, rfl, by omega, by omega, ?_⟩
   walk_at "goL"
   refine ⟨d, a, ns, ws, n, rfl, s1.seq hd, hdo, s1.seq hS, hw, hn, fun c H2 s2 nc hc => ?_⟩
   have s12 := s1.trans s2
   walk_at "goL"
   refine ⟨⟨_, s12.seq hS⟩, ?_⟩
   intro D hD
   refine jci (src := ws) (gv := fun l => V.str (S l)) (fun l => V.int (jpD (jiP ws ns.length n) l)) (jbk (s12.seq hS)) hD (small (by omega)) (fun l hl' H' R t1 k1 => ?_) (fun H' t1 hy => ?_)
   · have hc' := t1 _ _ hc
     walk_at "goL"
     refine ⟨.inl ⟨_, .inl hc'⟩, ?_⟩
     walk_at "goL"
     refine ⟨_, jpM (.inl hc'), ?_⟩
     rw [jjA]
     exact k1 _ (jap.refl _)
   · refine k D H' (s12.trans t1) (s12.free hD) ?_
     rw [hy]
     unfold endC
     rw [List.map_map]
     rfl
abbrev jcM := jmr
theorem jgb {f : Addr} {fd : FuncData} (F : Fun K "ended_rows" "ended_rows" ja7 f fd) (M : Bl mg) (T : Cs P mg) (Y : Xc K mg c) {f_check_race : Addr} {fd_check_race : FuncData} (R_check_race : DfX P w K mg base "check_race" 40 f_check_race fd_check_race ["die", "words"] (jaM K c)) : jbf P w K mg base (CX1 P w) 41 f fd ["die", "words", "many"] (jcM K c) := by
 refine F.okG jc4 (fun vs H Q E h => ?_) (fun cdv A outer s H vs Q E hr h => ?_)
 · obtain ⟨d, y, z, ns, rfl, _⟩ := h; rfl
 · obtain ⟨d, y, z, ns, rfl, hd, hb, k⟩ := h
   refine ⟨_, (jac (jau (jay jb7 R_check_race hr (by rfl) (jaa (pv 0) (jaa (pv 1) jab rfl) rfl) (by decide) (by decide) rfl rfl) rfl)
 jaO), ?_⟩
   walk_at "goL"
   exact ⟨d, _, ns, rfl, hd, hb, k⟩
def jc6 (K : PySem.W.Frag) : Sp := fun vs H Q _ => ∃ t d, ∃ ns : List Int, vs = [.int t, .ref d, .str (S [97])] ∧ SqL K H d (ns.map V.int) ∧ jav ns ∧ ∀ v H', jap H H' → Q v H'
theorem jd7 : jan ["turn", "die", "text"] ["turn", "die", "text"] (jad jbn) := ⟨rfl, rfl, rfl, by decide +kernel, rfl, by decide +kernel, by decide +kernel⟩
theorem jhP {f : Addr} {fd : FuncData} (F : Fun K "_law_second" "_law_second" jbn f fd) (M : Bl mg) (T : Cs P mg) {f_shown : Addr} {fd_shown : FuncData} (D_shown : Df P w K mg base "shown" 41 f_shown fd_shown ["die", "words"] (jhw K)) {f_mean : Addr} {fd_mean : FuncData} (D_mean : Df P w K mg base "mean" 43 f_mean fd_mean ["die", "words", "row"] (jjp K)) {f_odds : Addr} {fd_odds : FuncData} (D_odds : Df P w K mg base "odds" 42 f_odds fd_odds ["die", "one", "other"] (jhs K)) {f_answer : Addr} {fd_answer : FuncData} (D_answer : Df P w K mg base "answer" 43 f_answer fd_answer ["die", "word"] (jfg K)) {f_open_rows : Addr} {fd_open_rows : FuncData} (D_open_rows : Df P w K mg base "open_rows" 41 f_open_rows fd_open_rows ["die", "words", "many"] (jdt K)) {f_ended_rows : Addr} {fd_ended_rows : FuncData} (D_ended_rows : Df P w K mg base "ended_rows" 41 f_ended_rows fd_ended_rows ["die", "words", "many"] (jdb K)) : jbf P w K mg base CX0 44 f fd ["turn", "die", "text"] (jc6 K) := by
 refine F.ok jd7 (fun vs H Q E h => ?_) (fun cdv A outer s H vs Q E hr h => ?_)
 · obtain ⟨t, d, ns, rfl, _⟩ := h; rfl
 · obtain ⟨t, d, ns, rfl, hd, hdo, k⟩ := h
   have q1 := hdo.lo
   have q2 := hdo.hi
   have u := fun p (n : H p = none) => jai (o := .lst (txs [[97]])) (jap.refl H) n
   refine ⟨_, (jac (jaT (jak jca (pv 0) jag (jas _))
 (jaf (jam (jae D_mean hr (by rfl) (jaa (pv 1) (jaa (jaU (jaa (pv 2) jab rfl)) (jaa (jaB [] (by decide +kernel)) jab rfl) rfl) rfl) (by decide) (by decide) rfl rfl)))
 jaq)
 (jac (jaT (jak jca (pv 0) jag (jas _))
 (jaf (jam (jae D_odds hr (by rfl) (jaa (pv 1) (jaa (pv 2) (jaa (jaB [98] (by decide +kernel)) jab rfl) rfl) rfl) (by decide) (by decide) rfl rfl)))
 jaq)
 (jac (jaT (jak jca (pv 0) jag (jas _))
 (jaf (jam (jae D_answer hr (by rfl) (jaa (pv 1) (jaa (pv 2) jab rfl) rfl) (by decide) (by decide) rfl rfl)))
 jaq)
 (jac (jaT (jak jca (pv 0) jag (jas _))
 (jaf (jam (jae D_open_rows hr (by rfl) (jaa (pv 1) (jaa (jaU (jaa (pv 2) jab rfl)) (jaa jag jab rfl) rfl) rfl) (by decide) (by decide) rfl rfl)))
 jaq)
 (jac (jaT (jak jca (pv 0) jag (jas _))
 (jaf (jam (jae D_ended_rows hr (by rfl) (jaa (pv 1) (jaa (jaU (jaa (pv 2) jab rfl)) (jaa jag jab rfl) rfl) rfl) (by decide) (by decide) rfl rfl)))
 jaq)
 (jaf (jam (jae D_shown hr (by rfl) (jaa (pv 1) (jaa (jaU (jaa (pv 2) jab rfl)) jab rfl) rfl) (by decide) (by decide) rfl rfl)))))))), ?_⟩
   walk_at "goL"
   refine jbR (fun _ => ?_) (fun _ => ?_)
   · walk_at "goL"
     intro p np
     walk_at "goL"
     exact ⟨d, p, ns, [[97]], [], rfl, (u p np).seq hd, hdo, SqL.of jah, jeL q1, jje _, rfl, fun r H1 s1 _ _ _ => k _ _ ((u p np).trans s1)⟩
   walk_at "goL"
   refine jbR (fun _ => ?_) (fun _ => ?_)
   · walk_at "goL"
     exact ⟨d, ns, [97], [98], rfl, hd, hdo, jgM q1, jnu q1, rfl, by decide, fun r H1 s1 _ _ => k _ _ s1⟩
   walk_at "goL"
   refine jbR (fun _ => ?_) (fun _ => ?_)
   · walk_at "goL"
     exact ⟨d, ns, [97], rfl, hd, hdo, jgM q1, by show ns.length ^ 1 ≤ 32; rw [Nat.pow_one]; omega, fun H1 s1 => k _ _ s1⟩
   walk_at "goL"
   refine jbR (fun _ => ?_) (fun _ => ?_)
   · walk_at "goL"
     intro p np
     walk_at "goL"
     exact ⟨d, p, ns, [[97]], 3, rfl, (u p np).seq hd, hdo, SqL.of jah, jeL q1, by decide, fun H1 s1 => k _ _ ((u p np).trans s1)⟩
   walk_at "goL"
   refine jbR (fun _ => ?_) (fun _ => ?_)
   · walk_at "goL"
     intro p np
     walk_at "goL"
     exact ⟨d, p, ns, [[97]], 3, rfl, (u p np).seq hd, hdo, SqL.of jah, jeL q1, by decide, fun r H1 s1 _ _ => k _ _ ((u p np).trans s1)⟩
   walk_at "goL"
   intro p np
   walk_at "goL"
   exact ⟨d, p, ns, [[97]], rfl, (u p np).seq hd, hdo, SqL.of jah, jeL q1, fun H1 s1 => k _ _ ((u p np).trans s1)⟩
def jcJ (K : PySem.W.Frag) (c : Nat → Addr) : Sp := fun vs H Q E => ∃ t d, ∃ ns : List Int, ∃ x, vs = [.int t, .ref d, .str (S x)] ∧ SqL K H d (ns.map V.int) ∧ ¬ jav ns ∧ x.length ≤ 1000 ∧ ∀ H' ea, jap H H' → H' ea = none → E (.ref (c 0)) (some ea) H'
theorem jgp {f : Addr} {fd : FuncData} (F : Fun K "_law_second" "_law_second" jbn f fd) (M : Bl mg) (T : Cs P mg) (Y : Xc K mg c) {f_mean : Addr} {fd_mean : FuncData} (R_mean : DfX P w K mg base "mean" 43 f_mean fd_mean ["die", "words", "row"] (jhI K c)) {f_odds : Addr} {fd_odds : FuncData} (R_odds : DfX P w K mg base "odds" 42 f_odds fd_odds ["die", "one", "other"] (jhk K c)) {f_answer : Addr} {fd_answer : FuncData} (R_answer : DfX P w K mg base "answer" 43 f_answer fd_answer ["die", "word"] (jeo K c)) {f_open_rows : Addr} {fd_open_rows : FuncData} (R_open_rows : DfX P w K mg base "open_rows" 41 f_open_rows fd_open_rows ["die", "words", "many"] (jc8 K c)) {f_ended_rows : Addr} {fd_ended_rows : FuncData} (R_ended_rows : DfX P w K mg base "ended_rows" 41 f_ended_rows fd_ended_rows ["die", "words", "many"] (jcM K c)) {f_shown : Addr} {fd_shown : FuncData} (R_shown : DfX P w K mg base "shown" 41 f_shown fd_shown ["die", "words"] (jfr K c)) : jbf P w K mg base (CX1 P w) 44 f fd ["turn", "die", "text"] (jcJ K c) := by
 refine F.okG jd7 (fun vs H Q E h => ?_) (fun cdv A outer s H vs Q E hr h => ?_)
 · obtain ⟨t, d, ns, x, rfl, _⟩ := h; rfl
 · obtain ⟨t, d, ns, x, rfl, hd, hb, hx, k⟩ := h
   have u := fun p (n : H p = none) => jai (o := .lst (txs [x])) (jap.refl H) n
   refine ⟨_, (jac (jaT (jak jca (pv 0) jag (jas _))
 (jaf (jam (jay jb7 R_mean hr (by rfl) (jaa (pv 1) (jaa (jaU (jaa (pv 2) jab rfl)) (jaa (jaB [] (by decide +kernel)) jab rfl) rfl) rfl) (by decide) (by decide) rfl rfl)))
 jaq)
 (jac (jaT (jak jca (pv 0) jag (jas _))
 (jaf (jam (jay jb7 R_odds hr (by rfl) (jaa (pv 1) (jaa (pv 2) (jaa (jaB [98] (by decide +kernel)) jab rfl) rfl) rfl) (by decide) (by decide) rfl rfl)))
 jaq)
 (jac (jaT (jak jca (pv 0) jag (jas _))
 (jaf (jam (jay jb7 R_answer hr (by rfl) (jaa (pv 1) (jaa (pv 2) jab rfl) rfl) (by decide) (by decide) rfl rfl)))
 jaq)
 (jac (jaT (jak jca (pv 0) jag (jas _))
 (jaf (jam (jay jb7 R_open_rows hr (by rfl) (jaa (pv 1) (jaa (jaU (jaa (pv 2) jab rfl)) (jaa jag jab rfl) rfl) rfl) (by decide) (by decide) rfl rfl)))
 jaq)
 (jac (jaT (jak jca (pv 0) jag (jas _))
 (jaf (jam (jay jb7 R_ended_rows hr (by rfl) (jaa (pv 1) (jaa (jaU (jaa (pv 2) jab rfl)) (jaa jag jab rfl) rfl) rfl) (by decide) (by decide) rfl rfl)))
 jaq)
 (jaf (jam (jay jb7 R_shown hr (by rfl) (jaa (pv 1) (jaa (jaU (jaa (pv 2) jab rfl)) jab rfl) rfl) (by decide) (by decide) rfl rfl)))))))), ?_⟩
   walk_at "goL"
   refine jbR (fun _ => ?_) (fun _ => ?_)
   · walk_at "goL"
     intro p np
     walk_at "goL"
     exact ⟨d, _, _, ns, rfl, (u p np).seq hd, hb, fun H' ea s1 he => k H' ea ((u p np).trans s1) he⟩
   walk_at "goL"
   refine jbR (fun _ => ?_) (fun _ => ?_)
   · walk_at "goL"
     exact ⟨d, _, _, ns, rfl, hd, hb, k⟩
   walk_at "goL"
   refine jbR (fun _ => ?_) (fun _ => ?_)
   · walk_at "goL"
     exact ⟨d, _, ns, rfl, hd, hb, k⟩
   walk_at "goL"
   refine jbR (fun _ => ?_) (fun _ => ?_)
   · walk_at "goL"
     intro p np
     walk_at "goL"
     exact ⟨d, _, _, ns, rfl, (u p np).seq hd, hb, fun H' ea s1 he => k H' ea ((u p np).trans s1) he⟩
   walk_at "goL"
   refine jbR (fun _ => ?_) (fun _ => ?_)
   · walk_at "goL"
     intro p np
     walk_at "goL"
     exact ⟨d, _, _, ns, rfl, (u p np).seq hd, hb, fun H' ea s1 he => k H' ea ((u p np).trans s1) he⟩
   walk_at "goL"
   intro p np
   walk_at "goL"
   exact ⟨d, _, ns, rfl, (u p np).seq hd, hb, fun H' ea s1 he => k H' ea ((u p np).trans s1) he⟩
def kindB (j : Nat) : List Bool := [j == 0, j == 1, j == 2, j == 3, j == 4, j == 5, j == 6]
theorem jn9 : ∀ j, j < 7 → (kindB j).countP id = 1 := by decide
theorem joa : ∀ j, j < 7 → (kindB j)[j]? = some true := by decide
theorem joC : ∀ j, j < 7 → ∀ m, m < j → (kindB j)[m]? = some false := by decide
theorem jnc : ∀ j, j < 7 → (List.map (fun l => V.str (S l)) [[100, 105, 101], [119, 111, 114, 100], [114, 97, 99, 101], [114, 111, 119], [111, 118, 101, 114], [109, 97, 110, 121], [110, 111, 116, 101]])[j]? = some (.str (S (jmz j))) := fun j hj => by
 rw [List.getElem?_map, List.getElem?_eq_getElem hj]
 unfold jmz
 rw [List.getD_eq_getElem?_getD, List.getElem?_eq_getElem hj]
 rfl
def jdT (K : PySem.W.Frag) (c : Nat → Addr) : Sp := fun vs H Q _ => ∃ ea j, vs = [.ref ea] ∧ j < 7 ∧ H ea = some (EO ea (c j)) ∧ ∀ H', jap H H' → Q (.str (S (jmz j))) H'
theorem jdO : jan ["e", "kinds"] ["e"] (jad jcp) := ⟨rfl, rfl, rfl, by decide +kernel, rfl, by decide +kernel, by decide +kernel⟩
theorem jiI {f : Addr} {fd : FuncData} (F : Fun K "_law_kind" "_law_kind" jcp f fd) (M : Bl mg) (T : Cs P mg) (Y : Xc K mg c)  : jmk P w K mg base 37 f fd ["e"] (jdT K c) := by
 refine F.okM jdO (fun vs H Q E h => ?_) (fun cdv A outer s H vs Q E hr h => ?_)
 · obtain ⟨ea, j, rfl, _⟩ := h; rfl
 · obtain ⟨ea, j, rfl, hj, hE, k⟩ := h
   refine ⟨_, (jac (jar (i := 1) jdO.nd rfl (Or.inl rfl) (jaU (jaa (jaj (jcz K rfl) (by rfl) M.isinstance boot_isinstance (jaa (pv 0) (jaa (jc0 (v := .ref (c 0)) (by rfl) Y.m0 rfl (by decide)) jab rfl) rfl) (by decide) (by decide) rfl rfl) (jaa (jaj (jcz K rfl) (by rfl) M.isinstance boot_isinstance (jaa (pv 0) (jaa (jc0 (v := .ref (c 1)) (by rfl) Y.m1 rfl (by decide)) jab rfl) rfl) (by decide) (by decide) rfl rfl) (jaa (jaj (jcz K rfl) (by rfl) M.isinstance boot_isinstance (jaa (pv 0) (jaa (jc0 (v := .ref (c 2)) (by rfl) Y.m2 rfl (by decide)) jab rfl) rfl) (by decide) (by decide) rfl rfl) (jaa (jaj (jcz K rfl) (by rfl) M.isinstance boot_isinstance (jaa (pv 0) (jaa (jc0 (v := .ref (c 3)) (by rfl) Y.m3 rfl (by decide)) jab rfl) rfl) (by decide) (by decide) rfl rfl) jab rfl) rfl) rfl) rfl)) rfl (Or.inl rfl))
 (jac (jar (i := 1) jdO.nd rfl (Or.inl rfl) (jax jfd (pv 1) (jaU (jaa (jaj (jcz K rfl) (by rfl) M.isinstance boot_isinstance (jaa (pv 0) (jaa (jc0 (v := .ref (c 4)) (by rfl) Y.m4 rfl (by decide)) jab rfl) rfl) (by decide) (by decide) rfl rfl) (jaa (jaj (jcz K rfl) (by rfl) M.isinstance boot_isinstance (jaa (pv 0) (jaa (jc0 (v := .ref (c 5)) (by rfl) Y.m5 rfl (by decide)) jab rfl) rfl) (by decide) (by decide) rfl rfl) (jaa (jaj (jcz K rfl) (by rfl) M.isinstance boot_isinstance (jaa (pv 0) (jaa (jc0 (v := .ref (c 6)) (by rfl) Y.m6 rfl (by decide)) jab rfl) rfl) (by decide) (by decide) rfl rfl) jab rfl) rfl) rfl))) rfl (Or.inl rfl))
 (jac (jaT (PW.pt (jfb (jk9 (jeI (jaj (jcz K rfl) (by rfl) M.isinstance boot_isinstance (jaa (pv 0) (jaa (jnU (v := .ty "ValueError") (by rfl) M.ValueError jfT rfl (by decide) (by decide)) jab rfl) rfl) (by decide) (by decide) rfl rfl) (fun _ => rfl))) (jds (jak jjg (jcd K rfl PySem.F.plainAttrs_list PySem.F.slot_list_count PySem.F.type_list_count (jkY K rfl) (pv 1) (jaa jmZ jab rfl) rfl rfl rfl rfl rfl) jag (jas _)))))
 (jaf (jam (jaB [111, 116, 104, 101, 114] (by decide +kernel))))
 jaq)
 (jaf (jam (jbg (jaZ K rfl) (jaU (jaa (jaB [100, 105, 101] (by decide +kernel)) (jaa (jaB [119, 111, 114, 100] (by decide +kernel)) (jaa (jaB [114, 97, 99, 101] (by decide +kernel)) (jaa (jaB [114, 111, 119] (by decide +kernel)) (jaa (jaB [111, 118, 101, 114] (by decide +kernel)) (jaa (jaB [109, 97, 110, 121] (by decide +kernel)) (jaa (jaB [110, 111, 116, 101] (by decide +kernel)) jab rfl) rfl) rfl) rfl) rfl) rfl) rfl)) (jcd K rfl PySem.F.plainAttrs_list PySem.F.slot_list_index PySem.F.type_list_index (jlz K rfl) (pv 1) (jaa jmZ jab rfl) rfl rfl rfl rfl rfl) (fun _ _ => rfl))))))), ?_⟩
   walk_at "goL"
   refine jja Y hE hj (by decide) ?_
   walk_at "goL"
   refine jja Y hE hj (by decide) ?_
   walk_at "goL"
   refine jja Y hE hj (by decide) ?_
   walk_at "goL"
   refine jja Y hE hj (by decide) ?_
   walk_at "goL"
   intro p hp
   have s1 : jap H (upd H p (.lst [.bl (j == 0), .bl (j == 1), .bl (j == 2), .bl (j == 3)])) := jai (jap.refl _) hp
   have hE1 := s1 _ _ hE
   have e1 : upd H p (.lst [.bl (j == 0), .bl (j == 1), .bl (j == 2), .bl (j == 3)]) p = some (.lst [.bl (j == 0), .bl (j == 1), .bl (j == 2), .bl (j == 3)]) := jah
   revert s1 hE1 e1
   generalize upd H p (.lst [.bl (j == 0), .bl (j == 1), .bl (j == 2), .bl (j == 3)]) = H1
   intro s1 hE1 e1
   walk_at "goL"
   refine jja Y hE1 hj (by decide) ?_
   walk_at "goL"
   refine jja Y hE1 hj (by decide) ?_
   walk_at "goL"
   refine jja Y hE1 hj (by decide) ?_
   walk_at "goL"
   intro p2 hp2
   have s2 : jap H1 (upd H1 p2 (.lst [.bl (j == 4), .bl (j == 5), .bl (j == 6)])) := jai (jap.refl _) hp2
   refine ⟨p, p2, _, _, rfl, rfl, s2 _ _ e1, jah, (show 4 + 3 ≤ sizeLine by rw [sizeLine_eq]; decide), fun p3 hp3 => ?_⟩
   have s3 : jap H (upd (upd H1 p2 (.lst [.bl (j == 4), .bl (j == 5), .bl (j == 6)])) p3 (.lst ((kindB j).map V.bl))) := (s1.trans s2).trans (jai (jap.refl _) hp3)
   have hE3 := s3 _ _ hE
   have e3 : upd (upd H1 p2 (.lst [.bl (j == 4), .bl (j == 5), .bl (j == 6)])) p3 (.lst ((kindB j).map V.bl)) p3 = some (.lst ((kindB j).map V.bl)) := jah
   show jdf 1 _ _ (upd (upd H1 p2 (.lst [.bl (j == 4), .bl (j == 5), .bl (j == 6)])) p3 (.lst ((kindB j).map V.bl))) _
   revert s3 hE3 e3
   generalize upd (upd H1 p2 (.lst [.bl (j == 4), .bl (j == 5), .bl (j == 6)])) p3 (.lst ((kindB j).map V.bl)) = H3
   intro s3 hE3 e3
   walk_at "goL"
   refine jqv Y hE3 hj ?_
   walk_at "goL"
   refine jkI ?_
   walk_at "goL"
   refine ⟨p3, kindB j, rfl, rfl, SqL.of e3, ?_⟩
   rw [jn9 j hj]
   walk_at "goL"
   refine jkI ?_
   walk_at "goL"
   intro p4 hp4
   have s4 : jap H3 (upd H3 p4 (.lst (List.map (fun l => V.str (S l)) [[100, 105, 101], [119, 111, 114, 100], [114, 97, 99, 101], [114, 111, 119], [111, 118, 101, 114], [109, 97, 110, 121], [110, 111, 116, 101]]))) := jai (jap.refl _) hp4
   walk_at "goL"
   refine jhl (SqL.of (s4 _ _ e3)) ?_
   walk_at "goL"
   refine ⟨p3, j, kindB j, rfl, rfl, SqL.of (s4 _ _ e3), joa j hj, joC j hj, ?_⟩
   refine jdE (SqL.of (xs := List.map (fun l => V.str (S l)) [[100, 105, 101], [119, 111, 114, 100], [114, 97, 99, 101], [114, 111, 119], [111, 118, 101, 114], [109, 97, 110, 121], [110, 111, 116, 101]]) jah) (jfk (jnc j hj)) ?_
   exact k _ (s3.trans s4)
def jdp (K : PySem.W.Frag) (c : Nat → Addr) : Sp := fun vs H Q _ => ∃ t d, ∃ ns : List Int, ∃ x l, vs = [.int t, .ref d, .str (S x)] ∧ SqL K H d (ns.map V.int) ∧ ((l = [100, 111, 110, 101] ∧ x = [97] ∧ jav ns) ∨ (l = jmz 0 ∧ x.length ≤ 1000 ∧ ¬ jav ns)) ∧ ∀ H', jap H H' → Q (.str (S l)) H'
theorem jeJ : jan ["turn", "die", "text", "e"] ["turn", "die", "text"] (jad jb3) := ⟨rfl, rfl, rfl, by decide +kernel, rfl, by decide +kernel, by decide +kernel⟩
theorem jhO {f : Addr} {fd : FuncData} (F : Fun K "_law_tried" "_law_tried" jb3 f fd) (M : Bl mg) (T : Cs P mg) (Y : Xc K mg c) {f_law_first : Addr} {fd_law_first : FuncData} (D_law_first : Df P w K mg base "_law_first" 44 f_law_first fd_law_first ["turn", "die", "text"] (jdo K)) (R_law_first : DfX P w K mg base "_law_first" 44 f_law_first fd_law_first ["turn", "die", "text"] (jc1 K c)) {f_law_second : Addr} {fd_law_second : FuncData} (D_law_second : Df P w K mg base "_law_second" 44 f_law_second fd_law_second ["turn", "die", "text"] (jc6 K)) (R_law_second : DfX P w K mg base "_law_second" 44 f_law_second fd_law_second ["turn", "die", "text"] (jcJ K c)) {f_law_kind : Addr} {fd_law_kind : FuncData} (Q_law_kind : DfM P w K mg base "_law_kind" 37 f_law_kind fd_law_kind ["e"] (jdT K c)) : jbf P w K mg base CX0 45 f fd ["turn", "die", "text"] (jdp K c) := by
 refine F.okG jeJ (fun vs H Q E h => ?_) (fun cdv A outer s H vs Q E hr h => ?_)
 · obtain ⟨t, d, ns, x, l, rfl, _⟩ := h; rfl
 · obtain ⟨t, d, ns, x, l, rfl, hd, hb, k⟩ := h
   rcases hb with ⟨rfl, rfl, hdo⟩ | ⟨rfl, hx, hb⟩
   · refine ⟨_, (jac (joO (jaf (jaT (jak jft (pv 0) jag (jas _))
   (jaf (jau (jae D_law_first hr (by rfl) (jaa (pv 0) (jaa (pv 1) (jaa (pv 2) jab rfl) rfl) rfl) (by decide) (by decide) rfl rfl) rfl))
   (jaf (jau (jae D_law_second hr (by rfl) (jaa (pv 0) (jaa (pv 1) (jaa (pv 2) jab rfl) rfl) rfl) (by decide) (by decide) rfl rfl) rfl)))))
 (jaf (jam (jaB [100, 111, 110, 101] (by decide +kernel))))), ?_⟩
     walk_at "goL"
     refine jbR (fun _ => ?_) (fun _ => ?_)
     · walk_at "goL"
       refine ⟨t, d, ns, rfl, hd, hdo, fun v H1 s1 => ?_⟩
       walk_at "goL"
       exact k _ s1
     · walk_at "goL"
       refine ⟨t, d, ns, rfl, hd, hdo, fun v H1 s1 => ?_⟩
       walk_at "goL"
       exact k _ s1
   · refine ⟨_, (jac (joP (i := 3) jeJ.nd rfl rfl (Y.e 7 (by decide) Y.m7) (by rfl) (fun xe pn E2 hx => (jaf (jaT (jak jft (pv 0) jag (jas _))
   (jaf (jau (jay hx R_law_first hr (by rfl) (jaa (pv 0) (jaa (pv 1) (jaa (pv 2) jab rfl) rfl) rfl) (by decide) (by decide) rfl rfl) rfl))
   (jaf (jau (jay hx R_law_second hr (by rfl) (jaa (pv 0) (jaa (pv 1) (jaa (pv 2) jab rfl) rfl) rfl) (by decide) (by decide) rfl rfl) rfl))))) (fun ea => (jaf (jam (jmy Q_law_kind (hr.toM _) (by rfl) (jaa (pv 3) jab rfl) (by decide) (by decide) rfl rfl)))) (by decide))
 (jaf (jam (jaB [100, 111, 110, 101] (by decide +kernel))))), ?_⟩
     walk_at "goL"
     refine jqK ?_
     walk_at "goL"
     refine jbR (fun _ => ?_) (fun _ => ?_)
     · walk_at "goL"
       refine ⟨t, d, ns, x, rfl, hd, hb, hx, fun H1 ea s1 he => ⟨ea, c 0, rfl, rfl, Y.sb 0 (by decide), fun σ' hσ => ?_⟩⟩
       walk_at "goL"
       refine jjV ⟨_, hσ, ?_⟩
       walk_at "goL"
       exact ⟨ea, 0, rfl, by decide, jah, fun H2 s2 => k H2 ((jai s1 (s1.free he)).trans s2)⟩
     · walk_at "goL"
       refine ⟨t, d, ns, x, rfl, hd, hb, hx, fun H1 ea s1 he => ⟨ea, c 0, rfl, rfl, Y.sb 0 (by decide), fun σ' hσ => ?_⟩⟩
       walk_at "goL"
       refine jjV ⟨_, hσ, ?_⟩
       walk_at "goL"
       exact ⟨ea, 0, rfl, by decide, jah, fun H2 s2 => k H2 ((jai s1 (s1.free he)).trans s2)⟩
def jjE (K : PySem.W.Frag) : Sp := fun vs H Q _ => ∃ (a : Addr) (ns : List Int), vs = [.ref a] ∧ SqL K H a (ns.map V.int) ∧ ns.length ≤ 63 ∧ ∀ H', Q (.bl true) H'
theorem jn0 (v : Int) : ∃ x : List Nat, atI ([[97], [], [101], [97, 97, 97, 97, 97, 97, 97]].map fun l => V.str (S l)) (v % 8 / 2) = some (.str (S x)) ∧ x.length ≤ 1000 := by
 obtain ⟨j, ej⟩ := Int.eq_ofNat_of_zero_le (show 0 ≤ v % 8 / 2 by have := Int.emod_nonneg v (show (8 : Int) ≠ 0 by decide); omega)
 have hj : j < 4 := by have := Int.emod_lt_of_pos v (show (0 : Int) < 8 by decide); omega
 rw [ej]
 match j, hj with
 | 0, _ => exact ⟨_, rfl, by decide⟩
 | 1, _ => exact ⟨_, rfl, by decide⟩
 | 2, _ => exact ⟨_, rfl, by decide⟩
 | 3, _ => exact ⟨_, rfl, by decide⟩
theorem jio : jan ["script", "die", "bad", "text", "turn"] ["script"] (jad jhu) := ⟨rfl, rfl, rfl, by decide +kernel, rfl, by decide +kernel, by decide +kernel⟩
theorem jqa {f : Addr} {fd : FuncData} (F : Fun K "law" "law" jhu f fd) (M : Bl mg) (T : Cs P mg) {f_law_die : Addr} {fd_law_die : FuncData} (D_law_die : Df P w K mg base "_law_die" 38 f_law_die fd_law_die ["cell"] (jen K)) {f_law_bad_die : Addr} {fd_law_bad_die : FuncData} (D_law_bad_die : Df P w K mg base "_law_bad_die" 37 f_law_bad_die fd_law_bad_die ["die", "cell"] (jcK K)) {f_law_cell_at : Addr} {fd_law_cell_at : FuncData} (D_law_cell_at : Df P w K mg base "_law_cell_at" 37 f_law_cell_at fd_law_cell_at ["script", "k"] (jcI K)) {f_law_tried : Addr} {fd_law_tried : FuncData} (D_law_tried : Df P w K mg base "_law_tried" 45 f_law_tried fd_law_tried ["turn", "die", "text"] (jdp K c)) : jbf P w K mg base CX0 46 f fd ["script"] (jjE K) := by
 refine F.ok jio (fun vs H Q E h => ?_) (fun cdv A outer s H vs Q E hr h => ?_)
 · obtain ⟨a, ns, rfl, _⟩ := h; rfl
 · obtain ⟨a, sc, rfl, hS, hlen, k⟩ := h
   refine ⟨_, (jac (jar (i := 1) jio.nd rfl (Or.inl rfl) (jae D_law_die hr (by rfl) (jaa (jax jcw (jae D_law_cell_at hr (by rfl) (jaa (pv 0) (jaa jag jab rfl) rfl) (by decide) (by decide) rfl rfl) jag) jab rfl) (by decide) (by decide) rfl rfl) rfl (Or.inl rfl))
 (jac (jar (i := 2) jio.nd rfl (Or.inl rfl) (jae D_law_bad_die hr (by rfl) (jaa (pv 1) (jaa (jax jcw (jae D_law_cell_at hr (by rfl) (jaa (pv 0) (jaa jag jab rfl) rfl) (by decide) (by decide) rfl rfl) jag) jab rfl) rfl) (by decide) (by decide) rfl rfl) rfl (Or.inl rfl))
 (jac (jar (i := 3) jio.nd rfl (Or.inl rfl) (jbg (jaZ K rfl) (jaU (jaa (jaB [97] (by decide +kernel)) (jaa (jaB [] (by decide +kernel)) (jaa (jaB [101] (by decide +kernel)) (jaa (jaB [97, 97, 97, 97, 97, 97, 97] (by decide +kernel)) jab rfl) rfl) rfl) rfl)) (jax jdy (jax jcw (jae D_law_cell_at hr (by rfl) (jaa (pv 0) (jaa jag jab rfl) rfl) (by decide) (by decide) rfl rfl) jag) jag) (fun _ _ => rfl)) rfl (Or.inl rfl))
 (jac (jb6 PassesOwn.never rfl (jcr (by rfl) M.range (jaa jag jab rfl) rfl) (jaH (i := 4) jio.nd rfl (Or.inl rfl) (Or.inl rfl))
 (jaf (jaT (PW.pt (jfb (jak jjg (jae D_law_tried hr (by rfl) (jaa (pv 4) (jaa (jd3 (jgH K rfl) (by rfl) M.list boot_list (jaa (pv 2) jab rfl) (by decide) (by decide) rfl rfl) (jaa (pv 3) jab rfl) rfl) rfl) (by decide) (by decide) rfl rfl) (jaB [100, 105, 101] (by decide +kernel)) (jas _)) (jds (jak jjg (jae D_law_tried hr (by rfl) (jaa (pv 4) (jaa (jd3 (jgH K rfl) (by rfl) M.list boot_list (jaa (pv 1) jab rfl) (by decide) (by decide) rfl rfl) (jaa (jaB [97] (by decide +kernel)) jab rfl) rfl) rfl) (by decide) (by decide) rfl rfl) (jaB [100, 111, 110, 101] (by decide +kernel)) (jas _)))))
   (jaf (jam jmZ))
   jaq)) (fun _ => rfl))
 (jaf (jam jmZ)))))), ?_⟩
   walk_at "goL"
   refine ⟨a, sc, 0, rfl, hS, fun v0 => ?_⟩
   walk_at "goL"
   refine ⟨_, rfl, fun d dn H1 hd hf1 s1 hd1 => ?_⟩
   walk_at "goL"
   refine ⟨a, sc, 1, rfl, s1.seq hS, fun v1 => ?_⟩
   walk_at "goL"
   refine ⟨d, dn, _, rfl, hd1, hd, fun b ms H2 s2 hb2 hbad => ?_⟩
   have hd2 := s2 _ _ hd1
   walk_at "goL"
   intro p np
   have u1 := jai (o := .lst ([[97], [], [101], [97, 97, 97, 97, 97, 97, 97]].map fun l => V.str (S l))) (jap.refl H2) np
   have e1 : upd H2 p (.lst ([[97], [], [101], [97, 97, 97, 97, 97, 97, 97]].map fun l => V.str (S l))) p = some (.lst ([[97], [], [101], [97, 97, 97, 97, 97, 97, 97]].map fun l => V.str (S l))) := jah
   walk_at "goL"
   refine ⟨a, sc, 2, rfl, ((s1.trans s2).trans u1).seq hS, fun v2 => ?_⟩
   walk_at "goL"
   obtain ⟨x, ex, hx⟩ := jn0 v2
   refine jdE (SqL.of e1) ex ?_
   have hd3 := u1 _ _ hd2
   have hb3 := u1 _ _ hb2
   walk_at "goL"
   refine ⟨by decide, by decide, ?_⟩
   let Pv0 : Nat → L2.St → Hp → Prop := (fun i σ G => ∃ z : Option V, jap (upd H2 p (.lst ([[97], [], [101], [97, 97, 97, 97, 97, 97, 97]].map fun l => V.str (S l)))) G ∧ σ = [some (.ref a), some (.ref d), some (.ref b), some (.str (S x)), z])
   refine forR Pv0 ⟨none, jap.refl _, rfl⟩ ?_ ?_
   · rintro i σ G hi ⟨z, sG, rfl⟩
     walk_at "goL"
     refine ⟨_, _, rfl, .inl (SqL.of (sG _ _ hb3)), fun l1 m1 => ?_⟩
     have u2 := jai (o := .lst (ms.map V.int)) (jap.refl G) m1
     walk_at "goL"
     refine ⟨_, l1, ms, x, _, rfl, SqL.of jah, .inr ⟨rfl, hx, hbad⟩, fun H4 s4 => ?_⟩
     walk_at "goL"
     refine jkI ?_
     have u4 : jap G H4 := u2.trans s4
     walk_at "goL"
     refine ⟨_, _, rfl, .inl (SqL.of (u4 _ _ (sG _ _ hd3))), fun l2 m2 => ?_⟩
     have u5 := jai (o := .lst (dn.map V.int)) (jap.refl H4) m2
     walk_at "goL"
     refine ⟨_, l2, dn, [97], _, rfl, SqL.of jah, .inl ⟨rfl, rfl, hd⟩, fun H5 s5 => ?_⟩
     walk_at "goL"
     refine jkI ?_
     walk_at "goL"
     exact ⟨_, ((sG.trans u4).trans u5).trans s5, rfl⟩
   · rintro σ G ⟨z, sG, rfl⟩
     walk_at "goL"
     exact k _
end
theorem all_mk {l : PySem.W.OpenLaw} {w : World} {K : PySem.W.Frag} {h : Heap} {mg : Str → Option Value} {fa : Addr} (gt : l.prog.given.tree = none) (X : K.In h) (G : h.Ns mainGlobals mg) (hfa : mg "law" = some (.ref fa))
   {f0 : Addr} {od0 an0 : Option Addr} {sl0 : Array (Option Value)} {oc0 kV0 dc0 pm0 cd0 ct0 : Value}
   (a0 : PySem.W.nsIn K mainGlobals "_law_next" = some (some (.ref f0))) (l0 : K.lookup f0 = some ⟨oc0, od0, .func (PySem.W.fnOf "_law_next" "_law_next" (jao jcn) (jal jcn) (jad jcn) .none kV0 dc0 pm0 an0 cd0 ct0), sl0⟩) (c0 : PySem.W.codeIn K cd0 "_law_next" = true) (k0 : PySem.W.keepIn K (.ref f0) = true)
   {f1 : Addr} {od1 an1 : Option Addr} {sl1 : Array (Option Value)} {oc1 kV1 dc1 pm1 cd1 ct1 : Value}
   (a1 : PySem.W.nsIn K mainGlobals "_law_die" = some (some (.ref f1))) (l1 : K.lookup f1 = some ⟨oc1, od1, .func (PySem.W.fnOf "_law_die" "_law_die" (jao jb8) (jal jb8) (jad jb8) .none kV1 dc1 pm1 an1 cd1 ct1), sl1⟩) (c1 : PySem.W.codeIn K cd1 "_law_die" = true) (k1 : PySem.W.keepIn K (.ref f1) = true)
   {f2 : Addr} {od2 an2 : Option Addr} {sl2 : Array (Option Value)} {oc2 kV2 dc2 pm2 cd2 ct2 : Value}
   (a2 : PySem.W.nsIn K mainGlobals "_law_bad_die" = some (some (.ref f2))) (l2 : K.lookup f2 = some ⟨oc2, od2, .func (PySem.W.fnOf "_law_bad_die" "_law_bad_die" (jao jbp) (jal jbp) (jad jbp) .none kV2 dc2 pm2 an2 cd2 ct2), sl2⟩) (c2 : PySem.W.codeIn K cd2 "_law_bad_die" = true) (k2 : PySem.W.keepIn K (.ref f2) = true)
   {f3 : Addr} {od3 an3 : Option Addr} {sl3 : Array (Option Value)} {oc3 kV3 dc3 pm3 cd3 ct3 : Value}
   (a3 : PySem.W.nsIn K mainGlobals "_law_cell_at" = some (some (.ref f3))) (l3 : K.lookup f3 = some ⟨oc3, od3, .func (PySem.W.fnOf "_law_cell_at" "_law_cell_at" (jao jbr) (jal jbr) (jad jbr) .none kV3 dc3 pm3 an3 cd3 ct3), sl3⟩) (c3 : PySem.W.codeIn K cd3 "_law_cell_at" = true) (k3 : PySem.W.keepIn K (.ref f3) = true)
   {f4 : Addr} {od4 an4 : Option Addr} {sl4 : Array (Option Value)} {oc4 kV4 dc4 pm4 cd4 ct4 : Value}
   (a4 : PySem.W.nsIn K mainGlobals "check_die" = some (some (.ref f4))) (l4 : K.lookup f4 = some ⟨oc4, od4, .func (PySem.W.fnOf "check_die" "check_die" (jao jbF) (jal jbF) (jad jbF) .none kV4 dc4 pm4 an4 cd4 ct4), sl4⟩) (c4 : PySem.W.codeIn K cd4 "check_die" = true) (k4 : PySem.W.keepIn K (.ref f4) = true)
   {f5 : Addr} {od5 an5 : Option Addr} {sl5 : Array (Option Value)} {oc5 kV5 dc5 pm5 cd5 ct5 : Value}
   (a5 : PySem.W.nsIn K mainGlobals "signs_of" = some (some (.ref f5))) (l5 : K.lookup f5 = some ⟨oc5, od5, .func (PySem.W.fnOf "signs_of" "signs_of" (jao jcl) (jal jcl) (jad jcl) .none kV5 dc5 pm5 an5 cd5 ct5), sl5⟩) (c5 : PySem.W.codeIn K cd5 "signs_of" = true) (k5 : PySem.W.keepIn K (.ref f5) = true)
   {f6 : Addr} {od6 an6 : Option Addr} {sl6 : Array (Option Value)} {oc6 kV6 dc6 pm6 cd6 ct6 : Value}
   (a6 : PySem.W.nsIn K mainGlobals "is_thrown" = some (some (.ref f6))) (l6 : K.lookup f6 = some ⟨oc6, od6, .func (PySem.W.fnOf "is_thrown" "is_thrown" (jao jbD) (jal jbD) (jad jbD) .none kV6 dc6 pm6 an6 cd6 ct6), sl6⟩) (c6 : PySem.W.codeIn K cd6 "is_thrown" = true) (k6 : PySem.W.keepIn K (.ref f6) = true)
   {f7 : Addr} {od7 an7 : Option Addr} {sl7 : Array (Option Value)} {oc7 kV7 dc7 pm7 cd7 ct7 : Value}
   (a7 : PySem.W.nsIn K mainGlobals "check_word" = some (some (.ref f7))) (l7 : K.lookup f7 = some ⟨oc7, od7, .func (PySem.W.fnOf "check_word" "check_word" (jao jbM) (jal jbM) (jad jbM) .none kV7 dc7 pm7 an7 cd7 ct7), sl7⟩) (c7 : PySem.W.codeIn K cd7 "check_word" = true) (k7 : PySem.W.keepIn K (.ref f7) = true)
   {f8 : Addr} {od8 an8 : Option Addr} {sl8 : Array (Option Value)} {oc8 kV8 dc8 pm8 cd8 ct8 : Value}
   (a8 : PySem.W.nsIn K mainGlobals "stands_within_another" = some (some (.ref f8))) (l8 : K.lookup f8 = some ⟨oc8, od8, .func (PySem.W.fnOf "stands_within_another" "stands_within_another" (jao jat) (jal jat) (jad jat) .none kV8 dc8 pm8 an8 cd8 ct8), sl8⟩) (c8 : PySem.W.codeIn K cd8 "stands_within_another" = true) (k8 : PySem.W.keepIn K (.ref f8) = true)
   {f9 : Addr} {od9 an9 : Option Addr} {sl9 : Array (Option Value)} {oc9 kV9 dc9 pm9 cd9 ct9 : Value}
   (a9 : PySem.W.nsIn K mainGlobals "check_race" = some (some (.ref f9))) (l9 : K.lookup f9 = some ⟨oc9, od9, .func (PySem.W.fnOf "check_race" "check_race" (jao ja8) (jal ja8) (jad ja8) .none kV9 dc9 pm9 an9 cd9 ct9), sl9⟩) (c9 : PySem.W.codeIn K cd9 "check_race" = true) (k9 : PySem.W.keepIn K (.ref f9) = true)
   {f10 : Addr} {od10 an10 : Option Addr} {sl10 : Array (Option Value)} {oc10 kV10 dc10 pm10 cd10 ct10 : Value}
   (a10 : PySem.W.nsIn K mainGlobals "check_row" = some (some (.ref f10))) (l10 : K.lookup f10 = some ⟨oc10, od10, .func (PySem.W.fnOf "check_row" "check_row" (jao jb0) (jal jb0) (jad jb0) .none kV10 dc10 pm10 an10 cd10 ct10), sl10⟩) (c10 : PySem.W.codeIn K cd10 "check_row" = true) (k10 : PySem.W.keepIn K (.ref f10) = true)
   {f11 : Addr} {od11 an11 : Option Addr} {sl11 : Array (Option Value)} {oc11 kV11 dc11 pm11 cd11 ct11 : Value}
   (a11 : PySem.W.nsIn K mainGlobals "longest_at_end" = some (some (.ref f11))) (l11 : K.lookup f11 = some ⟨oc11, od11, .func (PySem.W.fnOf "longest_at_end" "longest_at_end" (jao jaJ) (jal jaJ) (jad jaJ) .none kV11 dc11 pm11 an11 cd11 ct11), sl11⟩) (c11 : PySem.W.codeIn K cd11 "longest_at_end" = true) (k11 : PySem.W.keepIn K (.ref f11) = true)
   {f12 : Addr} {od12 an12 : Option Addr} {sl12 : Array (Option Value)} {oc12 kV12 dc12 pm12 cd12 ct12 : Value}
   (a12 : PySem.W.nsIn K mainGlobals "beginnings_of" = some (some (.ref f12))) (l12 : K.lookup f12 = some ⟨oc12, od12, .func (PySem.W.fnOf "beginnings_of" "beginnings_of" (jao jaR) (jal jaR) (jad jaR) .none kV12 dc12 pm12 an12 cd12 ct12), sl12⟩) (c12 : PySem.W.codeIn K cd12 "beginnings_of" = true) (k12 : PySem.W.keepIn K (.ref f12) = true)
   {f13 : Addr} {od13 an13 : Option Addr} {sl13 : Array (Option Value)} {oc13 kV13 dc13 pm13 cd13 ct13 : Value}
   (a13 : PySem.W.nsIn K mainGlobals "state_of" = some (some (.ref f13))) (l13 : K.lookup f13 = some ⟨oc13, od13, .func (PySem.W.fnOf "state_of" "state_of" (jao jbY) (jal jbY) (jad jbY) .none kV13 dc13 pm13 an13 cd13 ct13), sl13⟩) (c13 : PySem.W.codeIn K cd13 "state_of" = true) (k13 : PySem.W.keepIn K (.ref f13) = true)
   {f14 : Addr} {od14 an14 : Option Addr} {sl14 : Array (Option Value)} {oc14 kV14 dc14 pm14 cd14 ct14 : Value}
   (a14 : PySem.W.nsIn K mainGlobals "ended" = some (some (.ref f14))) (l14 : K.lookup f14 = some ⟨oc14, od14, .func (PySem.W.fnOf "ended" "ended" (jao jdX) (jal jdX) (jad jdX) .none kV14 dc14 pm14 an14 cd14 ct14), sl14⟩) (c14 : PySem.W.codeIn K cd14 "ended" = true) (k14 : PySem.W.keepIn K (.ref f14) = true)
   {f15 : Addr} {od15 an15 : Option Addr} {sl15 : Array (Option Value)} {oc15 kV15 dc15 pm15 cd15 ct15 : Value}
   (a15 : PySem.W.nsIn K mainGlobals "state_of_open" = some (some (.ref f15))) (l15 : K.lookup f15 = some ⟨oc15, od15, .func (PySem.W.fnOf "state_of_open" "state_of_open" (jao jaQ) (jal jaQ) (jad jaQ) .none kV15 dc15 pm15 an15 cd15 ct15), sl15⟩) (c15 : PySem.W.codeIn K cd15 "state_of_open" = true) (k15 : PySem.W.keepIn K (.ref f15) = true)
   {f16 : Addr} {od16 an16 : Option Addr} {sl16 : Array (Option Value)} {oc16 kV16 dc16 pm16 cd16 ct16 : Value}
   (a16 : PySem.W.nsIn K mainGlobals "equation_of" = some (some (.ref f16))) (l16 : K.lookup f16 = some ⟨oc16, od16, .func (PySem.W.fnOf "equation_of" "equation_of" (jao ja9) (jal ja9) (jad ja9) .none kV16 dc16 pm16 an16 cd16 ct16), sl16⟩) (c16 : PySem.W.codeIn K cd16 "equation_of" = true) (k16 : PySem.W.keepIn K (.ref f16) = true)
   {f17 : Addr} {od17 an17 : Option Addr} {sl17 : Array (Option Value)} {oc17 kV17 dc17 pm17 cd17 ct17 : Value}
   (a17 : PySem.W.nsIn K mainGlobals "common_factor" = some (some (.ref f17))) (l17 : K.lookup f17 = some ⟨oc17, od17, .func (PySem.W.fnOf "common_factor" "common_factor" (jao ja1) (jal ja1) (jad ja1) .none kV17 dc17 pm17 an17 cd17 ct17), sl17⟩) (c17 : PySem.W.codeIn K cd17 "common_factor" = true) (k17 : PySem.W.keepIn K (.ref f17) = true)
   {f18 : Addr} {od18 an18 : Option Addr} {sl18 : Array (Option Value)} {oc18 kV18 dc18 pm18 cd18 ct18 : Value}
   (a18 : PySem.W.nsIn K mainGlobals "freed_of" = some (some (.ref f18))) (l18 : K.lookup f18 = some ⟨oc18, od18, .func (PySem.W.fnOf "freed_of" "freed_of" (jao jbP) (jal jbP) (jad jbP) .none kV18 dc18 pm18 an18 cd18 ct18), sl18⟩) (c18 : PySem.W.codeIn K cd18 "freed_of" = true) (k18 : PySem.W.keepIn K (.ref f18) = true)
   {f19 : Addr} {od19 an19 : Option Addr} {sl19 : Array (Option Value)} {oc19 kV19 dc19 pm19 cd19 ct19 : Value}
   (a19 : PySem.W.nsIn K mainGlobals "solved" = some (some (.ref f19))) (l19 : K.lookup f19 = some ⟨oc19, od19, .func (PySem.W.fnOf "solved" "solved" (jao jcj) (jal jcj) (jad jcj) .none kV19 dc19 pm19 an19 cd19 ct19), sl19⟩) (c19 : PySem.W.codeIn K cd19 "solved" = true) (k19 : PySem.W.keepIn K (.ref f19) = true)
   {f20 : Addr} {od20 an20 : Option Addr} {sl20 : Array (Option Value)} {oc20 kV20 dc20 pm20 cd20 ct20 : Value}
   (a20 : PySem.W.nsIn K mainGlobals "share_of" = some (some (.ref f20))) (l20 : K.lookup f20 = some ⟨oc20, od20, .func (PySem.W.fnOf "share_of" "share_of" (jao jcq) (jal jcq) (jad jcq) .none kV20 dc20 pm20 an20 cd20 ct20), sl20⟩) (c20 : PySem.W.codeIn K cd20 "share_of" = true) (k20 : PySem.W.keepIn K (.ref f20) = true)
   {f21 : Addr} {od21 an21 : Option Addr} {sl21 : Array (Option Value)} {oc21 kV21 dc21 pm21 cd21 ct21 : Value}
   (a21 : PySem.W.nsIn K mainGlobals "shares" = some (some (.ref f21))) (l21 : K.lookup f21 = some ⟨oc21, od21, .func (PySem.W.fnOf "shares" "shares" (jao jcC) (jal jcC) (jad jcC) .none kV21 dc21 pm21 an21 cd21 ct21), sl21⟩) (c21 : PySem.W.codeIn K cd21 "shares" = true) (k21 : PySem.W.keepIn K (.ref f21) = true)
   {f22 : Addr} {od22 an22 : Option Addr} {sl22 : Array (Option Value)} {oc22 kV22 dc22 pm22 cd22 ct22 : Value}
   (a22 : PySem.W.nsIn K mainGlobals "overlaps" = some (some (.ref f22))) (l22 : K.lookup f22 = some ⟨oc22, od22, .func (PySem.W.fnOf "overlaps" "overlaps" (jao jbL) (jal jbL) (jad jbL) .none kV22 dc22 pm22 an22 cd22 ct22), sl22⟩) (c22 : PySem.W.codeIn K cd22 "overlaps" = true) (k22 : PySem.W.keepIn K (.ref f22) = true)
   {f23 : Addr} {od23 an23 : Option Addr} {sl23 : Array (Option Value)} {oc23 kV23 dc23 pm23 cd23 ct23 : Value}
   (a23 : PySem.W.nsIn K mainGlobals "beginnings" = some (some (.ref f23))) (l23 : K.lookup f23 = some ⟨oc23, od23, .func (PySem.W.fnOf "beginnings" "beginnings" (jao jbl) (jal jbl) (jad jbl) .none kV23 dc23 pm23 an23 cd23 ct23), sl23⟩) (c23 : PySem.W.codeIn K cd23 "beginnings" = true) (k23 : PySem.W.keepIn K (.ref f23) = true)
   {f24 : Addr} {od24 an24 : Option Addr} {sl24 : Array (Option Value)} {oc24 kV24 dc24 pm24 cd24 ct24 : Value}
   (a24 : PySem.W.nsIn K mainGlobals "added" = some (some (.ref f24))) (l24 : K.lookup f24 = some ⟨oc24, od24, .func (PySem.W.fnOf "added" "added" (jao jet) (jal jet) (jad jet) .none kV24 dc24 pm24 an24 cd24 ct24), sl24⟩) (c24 : PySem.W.codeIn K cd24 "added" = true) (k24 : PySem.W.keepIn K (.ref f24) = true)
   {f25 : Addr} {od25 an25 : Option Addr} {sl25 : Array (Option Value)} {oc25 kV25 dc25 pm25 cd25 ct25 : Value}
   (a25 : PySem.W.nsIn K mainGlobals "worth" = some (some (.ref f25))) (l25 : K.lookup f25 = some ⟨oc25, od25, .func (PySem.W.fnOf "worth" "worth" (jao jel) (jal jel) (jad jel) .none kV25 dc25 pm25 an25 cd25 ct25), sl25⟩) (c25 : PySem.W.codeIn K cd25 "worth" = true) (k25 : PySem.W.keepIn K (.ref f25) = true)
   {f26 : Addr} {od26 an26 : Option Addr} {sl26 : Array (Option Value)} {oc26 kV26 dc26 pm26 cd26 ct26 : Value}
   (a26 : PySem.W.nsIn K mainGlobals "one_with_other" = some (some (.ref f26))) (l26 : K.lookup f26 = some ⟨oc26, od26, .func (PySem.W.fnOf "one_with_other" "one_with_other" (jao jaV) (jal jaV) (jad jaV) .none kV26 dc26 pm26 an26 cd26 ct26), sl26⟩) (c26 : PySem.W.codeIn K cd26 "one_with_other" = true) (k26 : PySem.W.keepIn K (.ref f26) = true)
   {f27 : Addr} {od27 an27 : Option Addr} {sl27 : Array (Option Value)} {oc27 kV27 dc27 pm27 cd27 ct27 : Value}
   (a27 : PySem.W.nsIn K mainGlobals "waiting" = some (some (.ref f27))) (l27 : K.lookup f27 = some ⟨oc27, od27, .func (PySem.W.fnOf "waiting" "waiting" (jao jcv) (jal jcv) (jad jcv) .none kV27 dc27 pm27 an27 cd27 ct27), sl27⟩) (c27 : PySem.W.codeIn K cd27 "waiting" = true) (k27 : PySem.W.keepIn K (.ref f27) = true)
   {f28 : Addr} {od28 an28 : Option Addr} {sl28 : Array (Option Value)} {oc28 kV28 dc28 pm28 cd28 ct28 : Value}
   (a28 : PySem.W.nsIn K mainGlobals "_law_first" = some (some (.ref f28))) (l28 : K.lookup f28 = some ⟨oc28, od28, .func (PySem.W.fnOf "_law_first" "_law_first" (jao jbG) (jal jbG) (jad jbG) .none kV28 dc28 pm28 an28 cd28 ct28), sl28⟩) (c28 : PySem.W.codeIn K cd28 "_law_first" = true) (k28 : PySem.W.keepIn K (.ref f28) = true)
   {f29 : Addr} {od29 an29 : Option Addr} {sl29 : Array (Option Value)} {oc29 kV29 dc29 pm29 cd29 ct29 : Value}
   (a29 : PySem.W.nsIn K mainGlobals "shown" = some (some (.ref f29))) (l29 : K.lookup f29 = some ⟨oc29, od29, .func (PySem.W.fnOf "shown" "shown" (jao jdu) (jal jdu) (jad jdu) .none kV29 dc29 pm29 an29 cd29 ct29), sl29⟩) (c29 : PySem.W.codeIn K cd29 "shown" = true) (k29 : PySem.W.keepIn K (.ref f29) = true)
   {f30 : Addr} {od30 an30 : Option Addr} {sl30 : Array (Option Value)} {oc30 kV30 dc30 pm30 cd30 ct30 : Value}
   (a30 : PySem.W.nsIn K mainGlobals "mean" = some (some (.ref f30))) (l30 : K.lookup f30 = some ⟨oc30, od30, .func (PySem.W.fnOf "mean" "mean" (jao jfc) (jal jfc) (jad jfc) .none kV30 dc30 pm30 an30 cd30 ct30), sl30⟩) (c30 : PySem.W.codeIn K cd30 "mean" = true) (k30 : PySem.W.keepIn K (.ref f30) = true)
   {f31 : Addr} {od31 an31 : Option Addr} {sl31 : Array (Option Value)} {oc31 kV31 dc31 pm31 cd31 ct31 : Value}
   (a31 : PySem.W.nsIn K mainGlobals "taken_away" = some (some (.ref f31))) (l31 : K.lookup f31 = some ⟨oc31, od31, .func (PySem.W.fnOf "taken_away" "taken_away" (jao jbI) (jal jbI) (jad jbI) .none kV31 dc31 pm31 an31 cd31 ct31), sl31⟩) (c31 : PySem.W.codeIn K cd31 "taken_away" = true) (k31 : PySem.W.keepIn K (.ref f31) = true)
   {f32 : Addr} {od32 an32 : Option Addr} {sl32 : Array (Option Value)} {oc32 kV32 dc32 pm32 cd32 ct32 : Value}
   (a32 : PySem.W.nsIn K mainGlobals "odds" = some (some (.ref f32))) (l32 : K.lookup f32 = some ⟨oc32, od32, .func (PySem.W.fnOf "odds" "odds" (jao jfB) (jal jfB) (jad jfB) .none kV32 dc32 pm32 an32 cd32 ct32), sl32⟩) (c32 : PySem.W.codeIn K cd32 "odds" = true) (k32 : PySem.W.keepIn K (.ref f32) = true)
   {f33 : Addr} {od33 an33 : Option Addr} {sl33 : Array (Option Value)} {oc33 kV33 dc33 pm33 cd33 ct33 : Value}
   (a33 : PySem.W.nsIn K mainGlobals "number_of_words" = some (some (.ref f33))) (l33 : K.lookup f33 = some ⟨oc33, od33, .func (PySem.W.fnOf "number_of_words" "number_of_words" (jao jaN) (jal jaN) (jad jaN) .none kV33 dc33 pm33 an33 cd33 ct33), sl33⟩) (c33 : PySem.W.codeIn K cd33 "number_of_words" = true) (k33 : PySem.W.keepIn K (.ref f33) = true)
   {f34 : Addr} {od34 an34 : Option Addr} {sl34 : Array (Option Value)} {oc34 kV34 dc34 pm34 cd34 ct34 : Value}
   (a34 : PySem.W.nsIn K mainGlobals "is_greater" = some (some (.ref f34))) (l34 : K.lookup f34 = some ⟨oc34, od34, .func (PySem.W.fnOf "is_greater" "is_greater" (jao jbJ) (jal jbJ) (jad jbJ) .none kV34 dc34 pm34 an34 cd34 ct34), sl34⟩) (c34 : PySem.W.codeIn K cd34 "is_greater" = true) (k34 : PySem.W.keepIn K (.ref f34) = true)
   {f35 : Addr} {od35 an35 : Option Addr} {sl35 : Array (Option Value)} {oc35 kV35 dc35 pm35 cd35 ct35 : Value}
   (a35 : PySem.W.nsIn K mainGlobals "all_words" = some (some (.ref f35))) (l35 : K.lookup f35 = some ⟨oc35, od35, .func (PySem.W.fnOf "all_words" "all_words" (jao jbC) (jal jbC) (jad jbC) .none kV35 dc35 pm35 an35 cd35 ct35), sl35⟩) (c35 : PySem.W.codeIn K cd35 "all_words" = true) (k35 : PySem.W.keepIn K (.ref f35) = true)
   {f36 : Addr} {od36 an36 : Option Addr} {sl36 : Array (Option Value)} {oc36 kV36 dc36 pm36 cd36 ct36 : Value}
   (a36 : PySem.W.nsIn K mainGlobals "answer" = some (some (.ref f36))) (l36 : K.lookup f36 = some ⟨oc36, od36, .func (PySem.W.fnOf "answer" "answer" (jao jcG) (jal jcG) (jad jcG) .none kV36 dc36 pm36 an36 cd36 ct36), sl36⟩) (c36 : PySem.W.codeIn K cd36 "answer" = true) (k36 : PySem.W.keepIn K (.ref f36) = true)
   {f37 : Addr} {od37 an37 : Option Addr} {sl37 : Array (Option Value)} {oc37 kV37 dc37 pm37 cd37 ct37 : Value}
   (a37 : PySem.W.nsIn K mainGlobals "check_many" = some (some (.ref f37))) (l37 : K.lookup f37 = some ⟨oc37, od37, .func (PySem.W.fnOf "check_many" "check_many" (jao jbQ) (jal jbQ) (jad jbQ) .none kV37 dc37 pm37 an37 cd37 ct37), sl37⟩) (c37 : PySem.W.codeIn K cd37 "check_many" = true) (k37 : PySem.W.keepIn K (.ref f37) = true)
   {f38 : Addr} {od38 an38 : Option Addr} {sl38 : Array (Option Value)} {oc38 kV38 dc38 pm38 cd38 ct38 : Value}
   (a38 : PySem.W.nsIn K mainGlobals "one_throw_more" = some (some (.ref f38))) (l38 : K.lookup f38 = some ⟨oc38, od38, .func (PySem.W.fnOf "one_throw_more" "one_throw_more" (jao jaW) (jal jaW) (jad jaW) .none kV38 dc38 pm38 an38 cd38 ct38), sl38⟩) (c38 : PySem.W.codeIn K cd38 "one_throw_more" = true) (k38 : PySem.W.keepIn K (.ref f38) = true)
   {f39 : Addr} {od39 an39 : Option Addr} {sl39 : Array (Option Value)} {oc39 kV39 dc39 pm39 cd39 ct39 : Value}
   (a39 : PySem.W.nsIn K mainGlobals "rows_by_state" = some (some (.ref f39))) (l39 : K.lookup f39 = some ⟨oc39, od39, .func (PySem.W.fnOf "rows_by_state" "rows_by_state" (jao ja5) (jal ja5) (jad ja5) .none kV39 dc39 pm39 an39 cd39 ct39), sl39⟩) (c39 : PySem.W.codeIn K cd39 "rows_by_state" = true) (k39 : PySem.W.keepIn K (.ref f39) = true)
   {f40 : Addr} {od40 an40 : Option Addr} {sl40 : Array (Option Value)} {oc40 kV40 dc40 pm40 cd40 ct40 : Value}
   (a40 : PySem.W.nsIn K mainGlobals "open_rows" = some (some (.ref f40))) (l40 : K.lookup f40 = some ⟨oc40, od40, .func (PySem.W.fnOf "open_rows" "open_rows" (jao jbh) (jal jbh) (jad jbh) .none kV40 dc40 pm40 an40 cd40 ct40), sl40⟩) (c40 : PySem.W.codeIn K cd40 "open_rows" = true) (k40 : PySem.W.keepIn K (.ref f40) = true)
   {f41 : Addr} {od41 an41 : Option Addr} {sl41 : Array (Option Value)} {oc41 kV41 dc41 pm41 cd41 ct41 : Value}
   (a41 : PySem.W.nsIn K mainGlobals "ended_rows" = some (some (.ref f41))) (l41 : K.lookup f41 = some ⟨oc41, od41, .func (PySem.W.fnOf "ended_rows" "ended_rows" (jao ja7) (jal ja7) (jad ja7) .none kV41 dc41 pm41 an41 cd41 ct41), sl41⟩) (c41 : PySem.W.codeIn K cd41 "ended_rows" = true) (k41 : PySem.W.keepIn K (.ref f41) = true)
   {f42 : Addr} {od42 an42 : Option Addr} {sl42 : Array (Option Value)} {oc42 kV42 dc42 pm42 cd42 ct42 : Value}
   (a42 : PySem.W.nsIn K mainGlobals "_law_second" = some (some (.ref f42))) (l42 : K.lookup f42 = some ⟨oc42, od42, .func (PySem.W.fnOf "_law_second" "_law_second" (jao jbn) (jal jbn) (jad jbn) .none kV42 dc42 pm42 an42 cd42 ct42), sl42⟩) (c42 : PySem.W.codeIn K cd42 "_law_second" = true) (k42 : PySem.W.keepIn K (.ref f42) = true)
   {f43 : Addr} {od43 an43 : Option Addr} {sl43 : Array (Option Value)} {oc43 kV43 dc43 pm43 cd43 ct43 : Value}
   (a43 : PySem.W.nsIn K mainGlobals "_law_kind" = some (some (.ref f43))) (l43 : K.lookup f43 = some ⟨oc43, od43, .func (PySem.W.fnOf "_law_kind" "_law_kind" (jao jcp) (jal jcp) (jad jcp) .none kV43 dc43 pm43 an43 cd43 ct43), sl43⟩) (c43 : PySem.W.codeIn K cd43 "_law_kind" = true) (k43 : PySem.W.keepIn K (.ref f43) = true)
   {f44 : Addr} {od44 an44 : Option Addr} {sl44 : Array (Option Value)} {oc44 kV44 dc44 pm44 cd44 ct44 : Value}
   (a44 : PySem.W.nsIn K mainGlobals "_law_tried" = some (some (.ref f44))) (l44 : K.lookup f44 = some ⟨oc44, od44, .func (PySem.W.fnOf "_law_tried" "_law_tried" (jao jb3) (jal jb3) (jad jb3) .none kV44 dc44 pm44 an44 cd44 ct44), sl44⟩) (c44 : PySem.W.codeIn K cd44 "_law_tried" = true) (k44 : PySem.W.keepIn K (.ref f44) = true)
   {f45 : Addr} {od45 an45 : Option Addr} {sl45 : Array (Option Value)} {oc45 kV45 dc45 pm45 cd45 ct45 : Value}
   (a45 : PySem.W.nsIn K mainGlobals "law" = some (some (.ref f45))) (l45 : K.lookup f45 = some ⟨oc45, od45, .func (PySem.W.fnOf "law" "law" (jao jhu) (jal jhu) (jad jhu) .none kV45 dc45 pm45 an45 cd45 ct45), sl45⟩) (c45 : PySem.W.codeIn K cd45 "law" = true) (k45 : PySem.W.keepIn K (.ref f45) = true)
   {x0 : Addr} {x1 : Addr} {x2 : Addr} {x3 : Addr} {x4 : Addr} {x5 : Addr} {x6 : Addr} {x7 : Addr}
   (y0 : PySem.W.nsIn K mainGlobals "NoDie" = some (some (.ref x0)))
   (y1 : PySem.W.nsIn K mainGlobals "NoWord" = some (some (.ref x1)))
   (y2 : PySem.W.nsIn K mainGlobals "NoRace" = some (some (.ref x2)))
   (y3 : PySem.W.nsIn K mainGlobals "NoRow" = some (some (.ref x3)))
   (y4 : PySem.W.nsIn K mainGlobals "Over" = some (some (.ref x4)))
   (y5 : PySem.W.nsIn K mainGlobals "TooMany" = some (some (.ref x5)))
   (y6 : PySem.W.nsIn K mainGlobals "NoNote" = some (some (.ref x6)))
   (y7 : PySem.W.nsIn K mainGlobals "RaceError" = some (some (.ref x7)))
   (yc : jqV K [x0, x1, x2, x3, x4, x5, x6] x7 = true)
   {t_SIGNS : Tok} (z_SIGNS : PySem.W.nsIn K mainGlobals "SIGNS" = some (some (.str (Str.ofString "abcd") t_SIGNS)))
   {t_LEAST_WEIGHTS : Tok} (z_LEAST_WEIGHTS : PySem.W.nsIn K mainGlobals "LEAST_WEIGHTS" = some (some (.int 2 t_LEAST_WEIGHTS)))
   {t_MOST_WEIGHTS : Tok} (z_MOST_WEIGHTS : PySem.W.nsIn K mainGlobals "MOST_WEIGHTS" = some (some (.int 4 t_MOST_WEIGHTS)))
   {t_LEAST_WEIGHT : Tok} (z_LEAST_WEIGHT : PySem.W.nsIn K mainGlobals "LEAST_WEIGHT" = some (some (.int 1 t_LEAST_WEIGHT)))
   {t_MOST_WEIGHT : Tok} (z_MOST_WEIGHT : PySem.W.nsIn K mainGlobals "MOST_WEIGHT" = some (some (.int 9 t_MOST_WEIGHT)))
   {t_MOST_SIGNS : Tok} (z_MOST_SIGNS : PySem.W.nsIn K mainGlobals "MOST_SIGNS" = some (some (.int 6 t_MOST_SIGNS)))
   {t_MOST_WORDS : Tok} (z_MOST_WORDS : PySem.W.nsIn K mainGlobals "MOST_WORDS" = some (some (.int 4 t_MOST_WORDS)))
   {t_MOST_THROWS : Tok} (z_MOST_THROWS : PySem.W.nsIn K mainGlobals "MOST_THROWS" = some (some (.int 60 t_MOST_THROWS)))
   {t_MOST_ANSWERS : Tok} (z_MOST_ANSWERS : PySem.W.nsIn K mainGlobals "MOST_ANSWERS" = some (some (.int 32 t_MOST_ANSWERS)))
   (b_len : PySem.W.nsIn K mainGlobals "len" = some none)
   (b_min : PySem.W.nsIn K mainGlobals "min" = some none)
   (b_max : PySem.W.nsIn K mainGlobals "max" = some none)
   (b_all : PySem.W.nsIn K mainGlobals "all" = some none)
   (b_any : PySem.W.nsIn K mainGlobals "any" = some none)
   (b_isinstance : PySem.W.nsIn K mainGlobals "isinstance" = some none)
   (b_sum : PySem.W.nsIn K mainGlobals "sum" = some none)
   (b_abs : PySem.W.nsIn K mainGlobals "abs" = some none)
   (b_list : PySem.W.nsIn K mainGlobals "list" = some none)
   (b_sorted : PySem.W.nsIn K mainGlobals "sorted" = some none)
   (b_str : PySem.W.nsIn K mainGlobals "str" = some none)
   (b_range : PySem.W.nsIn K mainGlobals "range" = some none)
   (b_enumerate : PySem.W.nsIn K mainGlobals "enumerate" = some none)
   (b_set : PySem.W.nsIn K mainGlobals "set" = some none)
   (b_zip : PySem.W.nsIn K mainGlobals "zip" = some none)
   (b_ValueError : PySem.W.nsIn K mainGlobals "ValueError" = some none)
   : ∃ fd : FuncData, (∀ (s : Shared) (v : Value), BindsTo s fd ⟨[v], []⟩ [("script", v)]) ∧ ∀ base : Heap, K.In base → base.Ns mainGlobals mg → jbf l.prog w K mg base CX0 46 fa fd ["script"] (jjE K) := by
 have e := hfa.symm.trans (PySem.W.mg_of X G a45)
 cases e
 have M : Bl mg := ⟨PySem.W.mg_none_of X G b_len, PySem.W.mg_none_of X G b_min, PySem.W.mg_none_of X G b_max, PySem.W.mg_none_of X G b_all, PySem.W.mg_none_of X G b_any, PySem.W.mg_none_of X G b_isinstance, PySem.W.mg_none_of X G b_sum, PySem.W.mg_none_of X G b_abs, PySem.W.mg_none_of X G b_list, PySem.W.mg_none_of X G b_sorted, PySem.W.mg_none_of X G b_str, PySem.W.mg_none_of X G b_range, PySem.W.mg_none_of X G b_enumerate, PySem.W.mg_none_of X G b_set, PySem.W.mg_none_of X G b_zip, PySem.W.mg_none_of X G b_ValueError⟩
 have T : Cs l.prog mg := ⟨gt, ⟨t_SIGNS, by rw [PySem.W.mg_of X G z_SIGNS, show (Str.ofString "abcd") = S [97, 98, 99, 100] from by decide +kernel]⟩, ⟨t_LEAST_WEIGHTS, PySem.W.mg_of X G z_LEAST_WEIGHTS⟩, ⟨t_MOST_WEIGHTS, PySem.W.mg_of X G z_MOST_WEIGHTS⟩, ⟨t_LEAST_WEIGHT, PySem.W.mg_of X G z_LEAST_WEIGHT⟩, ⟨t_MOST_WEIGHT, PySem.W.mg_of X G z_MOST_WEIGHT⟩, ⟨t_MOST_SIGNS, PySem.W.mg_of X G z_MOST_SIGNS⟩, ⟨t_MOST_WORDS, PySem.W.mg_of X G z_MOST_WORDS⟩, ⟨t_MOST_THROWS, PySem.W.mg_of X G z_MOST_THROWS⟩, ⟨t_MOST_ANSWERS, PySem.W.mg_of X G z_MOST_ANSWERS⟩⟩
 obtain ⟨c, Y⟩ := jqI (mg := mg) yc (PySem.W.mg_of X G y0) (PySem.W.mg_of X G y1) (PySem.W.mg_of X G y2) (PySem.W.mg_of X G y3) (PySem.W.mg_of X G y4) (PySem.W.mg_of X G y5) (PySem.W.mg_of X G y6) (PySem.W.mg_of X G y7)
 have F0 := jaA (st := jcn) l0 c0 k0
 have B0 := F0.binds (ps := ["seed"]) fun _ _ _ _ _ _ us hl => bz1 (fun _ => rfl) us hl
 have F1 := jaA (st := jb8) l1 c1 k1
 have B1 := F1.binds (ps := ["cell"]) fun _ _ _ _ _ _ us hl => bz1 (fun _ => rfl) us hl
 have F2 := jaA (st := jbp) l2 c2 k2
 have B2 := F2.binds (ps := ["die", "cell"]) fun _ _ _ _ _ _ us hl => bz2 (fun _ _ => rfl) us hl
 have F3 := jaA (st := jbr) l3 c3 k3
 have B3 := F3.binds (ps := ["script", "k"]) fun _ _ _ _ _ _ us hl => bz2 (fun _ _ => rfl) us hl
 have F4 := jaA (st := jbF) l4 c4 k4
 have B4 := F4.binds (ps := ["die"]) fun _ _ _ _ _ _ us hl => bz1 (fun _ => rfl) us hl
 have F5 := jaA (st := jcl) l5 c5 k5
 have B5 := F5.binds (ps := ["die"]) fun _ _ _ _ _ _ us hl => bz1 (fun _ => rfl) us hl
 have F6 := jaA (st := jbD) l6 c6 k6
 have B6 := F6.binds (ps := ["die", "text"]) fun _ _ _ _ _ _ us hl => bz2 (fun _ _ => rfl) us hl
 have F7 := jaA (st := jbM) l7 c7 k7
 have B7 := F7.binds (ps := ["die", "word"]) fun _ _ _ _ _ _ us hl => bz2 (fun _ _ => rfl) us hl
 have F8 := jaA (st := jat) l8 c8 k8
 have B8 := F8.binds (ps := ["words", "place"]) fun _ _ _ _ _ _ us hl => bz2 (fun _ _ => rfl) us hl
 have F9 := jaA (st := ja8) l9 c9 k9
 have B9 := F9.binds (ps := ["die", "words"]) fun _ _ _ _ _ _ us hl => bz2 (fun _ _ => rfl) us hl
 have F10 := jaA (st := jb0) l10 c10 k10
 have B10 := F10.binds (ps := ["die", "row"]) fun _ _ _ _ _ _ us hl => bz2 (fun _ _ => rfl) us hl
 have F11 := jaA (st := jaJ) l11 c11 k11
 have B11 := F11.binds (ps := ["begun", "text"]) fun _ _ _ _ _ _ us hl => bz2 (fun _ _ => rfl) us hl
 have F12 := jaA (st := jaR) l12 c12 k12
 have B12 := F12.binds (ps := ["words"]) fun _ _ _ _ _ _ us hl => bz1 (fun _ => rfl) us hl
 have F13 := jaA (st := jbY) l13 c13 k13
 have B13 := F13.binds (ps := ["die", "words", "row"]) fun _ _ _ _ _ _ us hl => bz3 (fun _ _ _ => rfl) us hl
 have F14 := jaA (st := jdX) l14 c14 k14
 have B14 := F14.binds (ps := ["die", "words", "row"]) fun _ _ _ _ _ _ us hl => bz3 (fun _ _ _ => rfl) us hl
 have F15 := jaA (st := jaQ) l15 c15 k15
 have B15 := F15.binds (ps := ["die", "words", "row"]) fun _ _ _ _ _ _ us hl => bz3 (fun _ _ _ => rfl) us hl
 have F16 := jaA (st := ja9) l16 c16 k16
 have B16 := F16.binds (ps := ["die", "begun", "state"]) fun _ _ _ _ _ _ us hl => bz3 (fun _ _ _ => rfl) us hl
 have F17 := jaA (st := ja1) l17 c17 k17
 have B17 := F17.binds (ps := ["numbers"]) fun _ _ _ _ _ _ us hl => bz1 (fun _ => rfl) us hl
 have F18 := jaA (st := jbP) l18 c18 k18
 have B18 := F18.binds (ps := ["place", "used", "equation"]) fun _ _ _ _ _ _ us hl => bz3 (fun _ _ _ => rfl) us hl
 have F19 := jaA (st := jcj) l19 c19 k19
 have B19 := F19.binds (ps := ["die", "words", "state"]) fun _ _ _ _ _ _ us hl => bz3 (fun _ _ _ => rfl) us hl
 have F20 := jaA (st := jcq) l20 c20 k20
 have B20 := F20.binds (ps := ["top", "bottom"]) fun _ _ _ _ _ _ us hl => bz2 (fun _ _ => rfl) us hl
 have F21 := jaA (st := jcC) l21 c21 k21
 have B21 := F21.binds (ps := ["die", "words", "row"]) fun _ _ _ _ _ _ us hl => bz3 (fun _ _ _ => rfl) us hl
 have F22 := jaA (st := jbL) l22 c22 k22
 have B22 := F22.binds (ps := ["die", "one", "other"]) fun _ _ _ _ _ _ us hl => bz3 (fun _ _ _ => rfl) us hl
 have F23 := jaA (st := jbl) l23 c23 k23
 have B23 := F23.binds (ps := ["die", "words"]) fun _ _ _ _ _ _ us hl => bz2 (fun _ _ => rfl) us hl
 have F24 := jaA (st := jet) l24 c24 k24
 have B24 := F24.binds (ps := ["one", "other"]) fun _ _ _ _ _ _ us hl => bz2 (fun _ _ => rfl) us hl
 have F25 := jaA (st := jel) l25 c25 k25
 have B25 := F25.binds (ps := ["die", "text"]) fun _ _ _ _ _ _ us hl => bz2 (fun _ _ => rfl) us hl
 have F26 := jaA (st := jaV) l26 c26 k26
 have B26 := F26.binds (ps := ["die", "one", "other"]) fun _ _ _ _ _ _ us hl => bz3 (fun _ _ _ => rfl) us hl
 have F27 := jaA (st := jcv) l27 c27 k27
 have B27 := F27.binds (ps := ["die", "word"]) fun _ _ _ _ _ _ us hl => bz2 (fun _ _ => rfl) us hl
 have F28 := jaA (st := jbG) l28 c28 k28
 have B28 := F28.binds (ps := ["turn", "die", "text"]) fun _ _ _ _ _ _ us hl => bz3 (fun _ _ _ => rfl) us hl
 have F29 := jaA (st := jdu) l29 c29 k29
 have B29 := F29.binds (ps := ["die", "words"]) fun _ _ _ _ _ _ us hl => bz2 (fun _ _ => rfl) us hl
 have F30 := jaA (st := jfc) l30 c30 k30
 have B30 := F30.binds (ps := ["die", "words", "row"]) fun _ _ _ _ _ _ us hl => bz3 (fun _ _ _ => rfl) us hl
 have F31 := jaA (st := jbI) l31 c31 k31
 have B31 := F31.binds (ps := ["one", "other"]) fun _ _ _ _ _ _ us hl => bz2 (fun _ _ => rfl) us hl
 have F32 := jaA (st := jfB) l32 c32 k32
 have B32 := F32.binds (ps := ["die", "one", "other"]) fun _ _ _ _ _ _ us hl => bz3 (fun _ _ _ => rfl) us hl
 have F33 := jaA (st := jaN) l33 c33 k33
 have B33 := F33.binds (ps := ["die", "length"]) fun _ _ _ _ _ _ us hl => bz2 (fun _ _ => rfl) us hl
 have F34 := jaA (st := jbJ) l34 c34 k34
 have B34 := F34.binds (ps := ["one", "other"]) fun _ _ _ _ _ _ us hl => bz2 (fun _ _ => rfl) us hl
 have F35 := jaA (st := jbC) l35 c35 k35
 have B35 := F35.binds (ps := ["die", "length"]) fun _ _ _ _ _ _ us hl => bz2 (fun _ _ => rfl) us hl
 have F36 := jaA (st := jcG) l36 c36 k36
 have B36 := F36.binds (ps := ["die", "word"]) fun _ _ _ _ _ _ us hl => bz2 (fun _ _ => rfl) us hl
 have F37 := jaA (st := jbQ) l37 c37 k37
 have B37 := F37.binds (ps := ["many"]) fun _ _ _ _ _ _ us hl => bz1 (fun _ => rfl) us hl
 have F38 := jaA (st := jaW) l38 c38 k38
 have B38 := F38.binds (ps := ["die", "words", "counted"]) fun _ _ _ _ _ _ us hl => bz3 (fun _ _ _ => rfl) us hl
 have F39 := jaA (st := ja5) l39 c39 k39
 have B39 := F39.binds (ps := ["die", "words", "many"]) fun _ _ _ _ _ _ us hl => bz3 (fun _ _ _ => rfl) us hl
 have F40 := jaA (st := jbh) l40 c40 k40
 have B40 := F40.binds (ps := ["die", "words", "many"]) fun _ _ _ _ _ _ us hl => bz3 (fun _ _ _ => rfl) us hl
 have F41 := jaA (st := ja7) l41 c41 k41
 have B41 := F41.binds (ps := ["die", "words", "many"]) fun _ _ _ _ _ _ us hl => bz3 (fun _ _ _ => rfl) us hl
 have F42 := jaA (st := jbn) l42 c42 k42
 have B42 := F42.binds (ps := ["turn", "die", "text"]) fun _ _ _ _ _ _ us hl => bz3 (fun _ _ _ => rfl) us hl
 have F43 := jaA (st := jcp) l43 c43 k43
 have B43 := F43.binds (ps := ["e"]) fun _ _ _ _ _ _ us hl => bz1 (fun _ => rfl) us hl
 have F44 := jaA (st := jb3) l44 c44 k44
 have B44 := F44.binds (ps := ["turn", "die", "text"]) fun _ _ _ _ _ _ us hl => bz3 (fun _ _ _ => rfl) us hl
 have F45 := jaA (st := jhu) l45 c45 k45
 refine ⟨PySem.W.fnOf "law" "law" (jao jhu) (jal jhu) (jad jhu) .none kV45 dc45 pm45 an45 cd45 ct45, fun s v => .of_eq rfl, fun base _ _ => ?_⟩
 have D0 : Df l.prog w K mg base "_law_next" 37 f0 _ _ (jdP K) := ⟨jjd F0 M T , PySem.W.mg_of X G a0, F0.kp, B0⟩
 have D1 : Df l.prog w K mg base "_law_die" 38 f1 _ _ (jen K) := ⟨jkk F1 M T D0, PySem.W.mg_of X G a1, F1.kp, B1⟩
 have D2 : Df l.prog w K mg base "_law_bad_die" 37 f2 _ _ (jcK K) := ⟨jgv F2 M T , PySem.W.mg_of X G a2, F2.kp, B2⟩
 have D3 : Df l.prog w K mg base "_law_cell_at" 37 f3 _ _ (jcI K) := ⟨jgo F3 M T , PySem.W.mg_of X G a3, F3.kp, B3⟩
 have D4 : Df l.prog w K mg base "check_die" 37 f4 _ _ (jbj K) := ⟨jib F4 M T , PySem.W.mg_of X G a4, F4.kp, B4⟩
 have R4 : DfX l.prog w K mg base "check_die" 37 f4 _ _ (jba K c) := ⟨jhz F4 M T Y , PySem.W.mg_of X G a4, F4.kp, B4⟩
 have D5 : Df l.prog w K mg base "signs_of" 37 f5 _ _ (jbE K) := ⟨jji F5 M T , PySem.W.mg_of X G a5, F5.kp, B5⟩
 have D6 : Df l.prog w K mg base "is_thrown" 38 f6 _ _ (jcA K) := ⟨jhW F6 M T D5, PySem.W.mg_of X G a6, F6.kp, B6⟩
 have D7 : Df l.prog w K mg base "check_word" 39 f7 _ _ (jbb K) := ⟨jhJ F7 M T D6, PySem.W.mg_of X G a7, F7.kp, B7⟩
 have D8 : Df l.prog w K mg base "stands_within_another" 37 f8 _ _ (ja0 K) := ⟨jcU F8 M T , PySem.W.mg_of X G a8, F8.kp, B8⟩
 have D9 : Df l.prog w K mg base "check_race" 40 f9 _ _ (jaX K) := ⟨jhn F9 M T D4 D7 D8, PySem.W.mg_of X G a9, F9.kp, B9⟩
 have R9 : DfX l.prog w K mg base "check_race" 40 f9 _ _ (jaM K c) := ⟨jgc F9 M T Y R4, PySem.W.mg_of X G a9, F9.kp, B9⟩
 have D10 : Df l.prog w K mg base "check_row" 39 f10 _ _ (jcF K) := ⟨jid F10 M T D6, PySem.W.mg_of X G a10, F10.kp, B10⟩
 have D11 : Df l.prog w K mg base "longest_at_end" 37 f11 _ _ (ja2 K) := ⟨jer F11 M T , PySem.W.mg_of X G a11, F11.kp, B11⟩
 have D12 : Df l.prog w K mg base "beginnings_of" 37 f12 _ _ (jaC K) := ⟨jeU F12 M T , PySem.W.mg_of X G a12, F12.kp, B12⟩
 have D13 : Df l.prog w K mg base "state_of" 41 f13 _ _ (jdg K) := ⟨ji9 F13 M T D9 D10 D11 D12, PySem.W.mg_of X G a13, F13.kp, B13⟩
 have R13 : DfX l.prog w K mg base "state_of" 41 f13 _ _ (jcB K c) := ⟨jh7 F13 M T Y R9, PySem.W.mg_of X G a13, F13.kp, B13⟩
 have D14 : Df l.prog w K mg base "ended" 41 f14 _ _ (je8 K) := ⟨jmF F14 M T D9 D10, PySem.W.mg_of X G a14, F14.kp, B14⟩
 have R14 : DfX l.prog w K mg base "ended" 41 f14 _ _ (jf2 K c) := ⟨jlD F14 M T Y R9, PySem.W.mg_of X G a14, F14.kp, B14⟩
 have D15 : Df l.prog w K mg base "state_of_open" 42 f15 _ _ (jbA K) := ⟨jeS F15 M T D13 D14, PySem.W.mg_of X G a15, F15.kp, B15⟩
 have R15 : DfX l.prog w K mg base "state_of_open" 42 f15 _ _ (jbq K c) := ⟨jeq F15 M T Y R13, PySem.W.mg_of X G a15, F15.kp, B15⟩
 have D16 : Df l.prog w K mg base "equation_of" 38 f16 _ _ (jcP K) := ⟨jgk F16 M T D5 D11, PySem.W.mg_of X G a16, F16.kp, B16⟩
 have D17 : Df l.prog w K mg base "common_factor" 37 f17 _ _ (jbz K) := ⟨jeW F17 M T , PySem.W.mg_of X G a17, F17.kp, B17⟩
 have D18 : Df l.prog w K mg base "freed_of" 38 f18 _ _ (jdV K) := ⟨ji7 F18 M T D17, PySem.W.mg_of X G a18, F18.kp, B18⟩
 have D19 : Df l.prog w K mg base "solved" 39 f19 _ _ (jeg K) := ⟨jmb F19 M T D12 D16 D18, PySem.W.mg_of X G a19, F19.kp, B19⟩
 have D20 : Df l.prog w K mg base "share_of" 38 f20 _ _ (jbi K) := ⟨jjn F20 M T D17, PySem.W.mg_of X G a20, F20.kp, B20⟩
 have D21 : Df l.prog w K mg base "shares" 43 f21 _ _ (jfH K) := ⟨jkL F21 M T D15 D12 D19 D20, PySem.W.mg_of X G a21, F21.kp, B21⟩
 have R21 : DfX l.prog w K mg base "shares" 43 f21 _ _ (jew K c) := ⟨jkx F21 M T Y R15, PySem.W.mg_of X G a21, F21.kp, B21⟩
 have D22 : Df l.prog w K mg base "overlaps" 40 f22 _ _ (jc9 K) := ⟨jjl F22 M T D4 D7, PySem.W.mg_of X G a22, F22.kp, B22⟩
 have R22 : DfX l.prog w K mg base "overlaps" 40 f22 _ _ (jdk K c) := ⟨jia F22 M T Y R4, PySem.W.mg_of X G a22, F22.kp, B22⟩
 have D23 : Df l.prog w K mg base "beginnings" 41 f23 _ _ (jc5 K) := ⟨jhx F23 M T D9 D12, PySem.W.mg_of X G a23, F23.kp, B23⟩
 have R23 : DfX l.prog w K mg base "beginnings" 41 f23 _ _ (jcL K c) := ⟨jgd F23 M T Y R9, PySem.W.mg_of X G a23, F23.kp, B23⟩
 have D24 : Df l.prog w K mg base "added" 39 f24 _ _ (jeZ K) := ⟨jmA F24 M T D20, PySem.W.mg_of X G a24, F24.kp, B24⟩
 have D25 : Df l.prog w K mg base "worth" 39 f25 _ _ (jhC K) := ⟨jmW F25 M T D20 D5, PySem.W.mg_of X G a25, F25.kp, B25⟩
 have D26 : Df l.prog w K mg base "one_with_other" 41 f26 _ _ (jbo K) := ⟨jeA F26 M T D22 D24 D25, PySem.W.mg_of X G a26, F26.kp, B26⟩
 have D27 : Df l.prog w K mg base "waiting" 42 f27 _ _ (jeu K) := ⟨jkF F27 M T D4 D7 D26, PySem.W.mg_of X G a27, F27.kp, B27⟩
 have R27 : DfX l.prog w K mg base "waiting" 42 f27 _ _ (jdW K c) := ⟨jjr F27 M T Y R4, PySem.W.mg_of X G a27, F27.kp, B27⟩
 have D28 : Df l.prog w K mg base "_law_first" 44 f28 _ _ (jdo K) := ⟨jic F28 M T D21 D22 D23 D13 D14 D27, PySem.W.mg_of X G a28, F28.kp, B28⟩
 have R28 : DfX l.prog w K mg base "_law_first" 44 f28 _ _ (jc1 K c) := ⟨jhj F28 M T Y R22 R23 R13 R14 R27 R21, PySem.W.mg_of X G a28, F28.kp, B28⟩
 have D29 : Df l.prog w K mg base "shown" 41 f29 _ _ (jhw K) := ⟨jmD F29 M T D9, PySem.W.mg_of X G a29, F29.kp, B29⟩
 have R29 : DfX l.prog w K mg base "shown" 41 f29 _ _ (jfr K c) := ⟨jk3 F29 M T Y R9, PySem.W.mg_of X G a29, F29.kp, B29⟩
 have D30 : Df l.prog w K mg base "mean" 43 f30 _ _ (jjp K) := ⟨joo F30 M T D15 D12 D19 D20, PySem.W.mg_of X G a30, F30.kp, B30⟩
 have R30 : DfX l.prog w K mg base "mean" 43 f30 _ _ (jhI K c) := ⟨jml F30 M T Y R15, PySem.W.mg_of X G a30, F30.kp, B30⟩
 have D31 : Df l.prog w K mg base "taken_away" 39 f31 _ _ (jc3 K) := ⟨jhf F31 M T D20, PySem.W.mg_of X G a31, F31.kp, B31⟩
 have D32 : Df l.prog w K mg base "odds" 42 f32 _ _ (jhs K) := ⟨jn4 F32 M T D4 D7 D31 D24 D20 D26, PySem.W.mg_of X G a32, F32.kp, B32⟩
 have R32 : DfX l.prog w K mg base "odds" 42 f32 _ _ (jhk K c) := ⟨jmO F32 M T Y R4, PySem.W.mg_of X G a32, F32.kp, B32⟩
 have D33 : Df l.prog w K mg base "number_of_words" 37 f33 _ _ (jbS K) := ⟨jed F33 M T , PySem.W.mg_of X G a33, F33.kp, B33⟩
 have D34 : Df l.prog w K mg base "is_greater" 37 f34 _ _ (jc2 K) := ⟨jhg F34 M T , PySem.W.mg_of X G a34, F34.kp, B34⟩
 have D35 : Df l.prog w K mg base "all_words" 38 f35 _ _ (jdm K) := ⟨jit F35 M T D5, PySem.W.mg_of X G a35, F35.kp, B35⟩
 have D36 : Df l.prog w K mg base "answer" 43 f36 _ _ (jfg K) := ⟨jlc F36 M T D4 D7 D33 D34 D35 D32, PySem.W.mg_of X G a36, F36.kp, B36⟩
 have R36 : DfX l.prog w K mg base "answer" 43 f36 _ _ (jeo K c) := ⟨jkn F36 M T Y R4, PySem.W.mg_of X G a36, F36.kp, B36⟩
 have D37 : Df l.prog w K mg base "check_many" 37 f37 _ _ (jcg K) := ⟨jhm F37 M T , PySem.W.mg_of X G a37, F37.kp, B37⟩
 have D38 : Df l.prog w K mg base "one_throw_more" 38 f38 _ _ (jb2 K) := ⟨jex F38 M T D12 D5 D11, PySem.W.mg_of X G a38, F38.kp, B38⟩
 have D39 : Df l.prog w K mg base "rows_by_state" 39 f39 _ _ (jbx K) := ⟨jeV F39 M T D38, PySem.W.mg_of X G a39, F39.kp, B39⟩
 have D40 : Df l.prog w K mg base "open_rows" 41 f40 _ _ (jdt K) := ⟨jhX F40 M T D9 D37 D39, PySem.W.mg_of X G a40, F40.kp, B40⟩
 have R40 : DfX l.prog w K mg base "open_rows" 41 f40 _ _ (jc8 K c) := ⟨jg7 F40 M T Y R9, PySem.W.mg_of X G a40, F40.kp, B40⟩
 have D41 : Df l.prog w K mg base "ended_rows" 41 f41 _ _ (jdb K) := ⟨jhL F41 M T D9 D37 D39, PySem.W.mg_of X G a41, F41.kp, B41⟩
 have R41 : DfX l.prog w K mg base "ended_rows" 41 f41 _ _ (jcM K c) := ⟨jgb F41 M T Y R9, PySem.W.mg_of X G a41, F41.kp, B41⟩
 have D42 : Df l.prog w K mg base "_law_second" 44 f42 _ _ (jc6 K) := ⟨jhP F42 M T D29 D30 D32 D36 D40 D41, PySem.W.mg_of X G a42, F42.kp, B42⟩
 have R42 : DfX l.prog w K mg base "_law_second" 44 f42 _ _ (jcJ K c) := ⟨jgp F42 M T Y R30 R32 R36 R40 R41 R29, PySem.W.mg_of X G a42, F42.kp, B42⟩
 have Q43 : DfM l.prog w K mg base "_law_kind" 37 f43 _ _ (jdT K c) := ⟨jiI F43 M T Y , PySem.W.mg_of X G a43, F43.kp, B43⟩
 have D44 : Df l.prog w K mg base "_law_tried" 45 f44 _ _ (jdp K c) := ⟨jhO F44 M T Y D28 R28 D42 R42 Q43, PySem.W.mg_of X G a44, F44.kp, B44⟩
 exact jqa F45 M T D1 D2 D3 D44
theorem walk {l : PySem.W.OpenLaw} {q : Program} {loose : List Str} {XP : (Str → Option Value) → Heap → Prop} {YP : World → Heap → Prop} {d : DefRec} {K : Params → PySem.W.Frag} (hi : PyProof.Rows.importsNone q = true) (hn : l.most = some 63) (hdf : d.params.defaults = [])
   (hY : ∀ (w : World) (h : Heap), YP w h → (K w.params).In h)
   (F : ∀ (w : World) (mg : Str → Option Value) (fa : Addr) (h : Heap), (K w.params).In h → h.Ns mainGlobals mg → mg d.name = some (.ref fa) →
     ∃ fd : FuncData, (∀ (s : Shared) (u : Value), BindsTo s fd ⟨[u], []⟩ [("script", u)]) ∧ ∀ base : Heap, (K w.params).In base → base.Ns mainGlobals mg → jbf l.prog w (K w.params) mg base CX0 46 fa fd ["script"] (jjE (K w.params))) :
   PySem.W.WalkO q loose XP YP l.row.toRowW d [] (fun f vs => PySem.call f vs) :=
 L2.walk_of (n := 63) (k := 46) (x := "script") (CX := fun _ => CX0) (sp := fun w => jjE (K w.params)) hi hn (by decide) hdf ⟨rfl, by decide, by decide⟩ hY F (fun _ _ a ns hl _ hS => ⟨a, ns, rfl, hS, hl, fun _ => rfl⟩) fun _ _ _ _ _ z => z
end My
open PySem PySem.W PyProof.Rows
set_option maxRecDepth 100000 in
set_option maxHeartbeats 0 in
theorem PySem.Challenge.cw_wordrace_k14_no_die_holds : PySem.Challenge.rw_wordrace_k14_no_die.Holds := by
 w_on; o_law; k_head; (case hw => w_witness2)
 k_fill
 refine My.walk (l := PySem.Challenge.rw_wordrace_k14_no_die) ?hi rfl rfl (fun w h Y => PySem.W.kIn_of Y) ?F
 case hi => decide +kernel
 case F =>
   intro w mg fa h KX G hmg
   refine' My.all_mk rfl KX G hmg ?a0 ?l0 ?c0 ?k0 ?a1 ?l1 ?c1 ?k1 ?a2 ?l2 ?c2 ?k2 ?a3 ?l3 ?c3 ?k3 ?a4 ?l4 ?c4 ?k4 ?a5 ?l5 ?c5 ?k5 ?a6 ?l6 ?c6 ?k6 ?a7 ?l7 ?c7 ?k7 ?a8 ?l8 ?c8 ?k8 ?a9 ?l9 ?c9 ?k9 ?a10 ?l10 ?c10 ?k10 ?a11 ?l11 ?c11 ?k11 ?a12 ?l12 ?c12 ?k12 ?a13 ?l13 ?c13 ?k13 ?a14 ?l14 ?c14 ?k14 ?a15 ?l15 ?c15 ?k15 ?a16 ?l16 ?c16 ?k16 ?a17 ?l17 ?c17 ?k17 ?a18 ?l18 ?c18 ?k18 ?a19 ?l19 ?c19 ?k19 ?a20 ?l20 ?c20 ?k20 ?a21 ?l21 ?c21 ?k21 ?a22 ?l22 ?c22 ?k22 ?a23 ?l23 ?c23 ?k23 ?a24 ?l24 ?c24 ?k24 ?a25 ?l25 ?c25 ?k25 ?a26 ?l26 ?c26 ?k26 ?a27 ?l27 ?c27 ?k27 ?a28 ?l28 ?c28 ?k28 ?a29 ?l29 ?c29 ?k29 ?a30 ?l30 ?c30 ?k30 ?a31 ?l31 ?c31 ?k31 ?a32 ?l32 ?c32 ?k32 ?a33 ?l33 ?c33 ?k33 ?a34 ?l34 ?c34 ?k34 ?a35 ?l35 ?c35 ?k35 ?a36 ?l36 ?c36 ?k36 ?a37 ?l37 ?c37 ?k37 ?a38 ?l38 ?c38 ?k38 ?a39 ?l39 ?c39 ?k39 ?a40 ?l40 ?c40 ?k40 ?a41 ?l41 ?c41 ?k41 ?a42 ?l42 ?c42 ?k42 ?a43 ?l43 ?c43 ?k43 ?a44 ?l44 ?c44 ?k44 ?a45 ?l45 ?c45 ?k45 ?y0 ?y1 ?y2 ?y3 ?y4 ?y5 ?y6 ?y7 ?yc ?z_SIGNS ?z_LEAST_WEIGHTS ?z_MOST_WEIGHTS ?z_LEAST_WEIGHT ?z_MOST_WEIGHT ?z_MOST_SIGNS ?z_MOST_WORDS ?z_MOST_THROWS ?z_MOST_ANSWERS ?b_len ?b_min ?b_max ?b_all ?b_any ?b_isinstance ?b_sum ?b_abs ?b_list ?b_sorted ?b_str ?b_range ?b_enumerate ?b_set ?b_zip ?b_ValueError
   (case a0 => k_is)
   (case l0 => k_is)
   (case c0 => k_is)
   (case k0 => k_is)
   (case a1 => k_is)
   (case l1 => k_is)
   (case c1 => k_is)
   (case k1 => k_is)
   (case a2 => k_is)
   (case l2 => k_is)
   (case c2 => k_is)
   (case k2 => k_is)
   (case a3 => k_is)
   (case l3 => k_is)
   (case c3 => k_is)
   (case k3 => k_is)
   (case a4 => k_is)
   (case l4 => k_is)
   (case c4 => k_is)
   (case k4 => k_is)
   (case a5 => k_is)
   (case l5 => k_is)
   (case c5 => k_is)
   (case k5 => k_is)
   (case a6 => k_is)
   (case l6 => k_is)
   (case c6 => k_is)
   (case k6 => k_is)
   (case a7 => k_is)
   (case l7 => k_is)
   (case c7 => k_is)
   (case k7 => k_is)
   (case a8 => k_is)
   (case l8 => k_is)
   (case c8 => k_is)
   (case k8 => k_is)
   (case a9 => k_is)
   (case l9 => k_is)
   (case c9 => k_is)
   (case k9 => k_is)
   (case a10 => k_is)
   (case l10 => k_is)
   (case c10 => k_is)
   (case k10 => k_is)
   (case a11 => k_is)
   (case l11 => k_is)
   (case c11 => k_is)
   (case k11 => k_is)
   (case a12 => k_is)
   (case l12 => k_is)
   (case c12 => k_is)
   (case k12 => k_is)
   (case a13 => k_is)
   (case l13 => k_is)
   (case c13 => k_is)
   (case k13 => k_is)
   (case a14 => k_is)
   (case l14 => k_is)
   (case c14 => k_is)
   (case k14 => k_is)
   (case a15 => k_is)
   (case l15 => k_is)
   (case c15 => k_is)
   (case k15 => k_is)
   (case a16 => k_is)
   (case l16 => k_is)
   (case c16 => k_is)
   (case k16 => k_is)
   (case a17 => k_is)
   (case l17 => k_is)
   (case c17 => k_is)
   (case k17 => k_is)
   (case a18 => k_is)
   (case l18 => k_is)
   (case c18 => k_is)
   (case k18 => k_is)
   (case a19 => k_is)
   (case l19 => k_is)
   (case c19 => k_is)
   (case k19 => k_is)
   (case a20 => k_is)
   (case l20 => k_is)
   (case c20 => k_is)
   (case k20 => k_is)
   (case a21 => k_is)
   (case l21 => k_is)
   (case c21 => k_is)
   (case k21 => k_is)
   (case a22 => k_is)
   (case l22 => k_is)
   (case c22 => k_is)
   (case k22 => k_is)
   (case a23 => k_is)
   (case l23 => k_is)
   (case c23 => k_is)
   (case k23 => k_is)
   (case a24 => k_is)
   (case l24 => k_is)
   (case c24 => k_is)
   (case k24 => k_is)
   (case a25 => k_is)
   (case l25 => k_is)
   (case c25 => k_is)
   (case k25 => k_is)
   (case a26 => k_is)
   (case l26 => k_is)
   (case c26 => k_is)
   (case k26 => k_is)
   (case a27 => k_is)
   (case l27 => k_is)
   (case c27 => k_is)
   (case k27 => k_is)
   (case a28 => k_is)
   (case l28 => k_is)
   (case c28 => k_is)
   (case k28 => k_is)
   (case a29 => k_is)
   (case l29 => k_is)
   (case c29 => k_is)
   (case k29 => k_is)
   (case a30 => k_is)
   (case l30 => k_is)
   (case c30 => k_is)
   (case k30 => k_is)
   (case a31 => k_is)
   (case l31 => k_is)
   (case c31 => k_is)
   (case k31 => k_is)
   (case a32 => k_is)
   (case l32 => k_is)
   (case c32 => k_is)
   (case k32 => k_is)
   (case a33 => k_is)
   (case l33 => k_is)
   (case c33 => k_is)
   (case k33 => k_is)
   (case a34 => k_is)
   (case l34 => k_is)
   (case c34 => k_is)
   (case k34 => k_is)
   (case a35 => k_is)
   (case l35 => k_is)
   (case c35 => k_is)
   (case k35 => k_is)
   (case a36 => k_is)
   (case l36 => k_is)
   (case c36 => k_is)
   (case k36 => k_is)
   (case a37 => k_is)
   (case l37 => k_is)
   (case c37 => k_is)
   (case k37 => k_is)
   (case a38 => k_is)
   (case l38 => k_is)
   (case c38 => k_is)
   (case k38 => k_is)
   (case a39 => k_is)
   (case l39 => k_is)
   (case c39 => k_is)
   (case k39 => k_is)
   (case a40 => k_is)
   (case l40 => k_is)
   (case c40 => k_is)
   (case k40 => k_is)
   (case a41 => k_is)
   (case l41 => k_is)
   (case c41 => k_is)
   (case k41 => k_is)
   (case a42 => k_is)
   (case l42 => k_is)
   (case c42 => k_is)
   (case k42 => k_is)
   (case a43 => k_is)
   (case l43 => k_is)
   (case c43 => k_is)
   (case k43 => k_is)
   (case a44 => k_is)
   (case l44 => k_is)
   (case c44 => k_is)
   (case k44 => k_is)
   (case a45 => k_is)
   (case l45 => k_is)
   (case c45 => k_is)
   (case k45 => k_is)
   (case y0 => k_is)
   (case y1 => k_is)
   (case y2 => k_is)
   (case y3 => k_is)
   (case y4 => k_is)
   (case y5 => k_is)
   (case y6 => k_is)
   (case y7 => k_is)
   (case yc => kernel_rfl)
   (case z_SIGNS => k_is)
   (case z_LEAST_WEIGHTS => k_is)
   (case z_MOST_WEIGHTS => k_is)
   (case z_LEAST_WEIGHT => k_is)
   (case z_MOST_WEIGHT => k_is)
   (case z_MOST_SIGNS => k_is)
   (case z_MOST_WORDS => k_is)
   (case z_MOST_THROWS => k_is)
   (case z_MOST_ANSWERS => k_is)
   (case b_len => k_is)
   (case b_min => k_is)
   (case b_max => k_is)
   (case b_all => k_is)
   (case b_any => k_is)
   (case b_isinstance => k_is)
   (case b_sum => k_is)
   (case b_abs => k_is)
   (case b_list => k_is)
   (case b_sorted => k_is)
   (case b_str => k_is)
   (case b_range => k_is)
   (case b_enumerate => k_is)
   (case b_set => k_is)
   (case b_zip => k_is)
   (case b_ValueError => k_is)
