import PyProof.Rows.All
import Wide.All
import OpenK.AllK
import Wide.FinOn
import Lean
import PyProof.EqAt
import PyProof.EqKinds
import PyProof.TupleCall
import PyProof.NeKinds
import PyProof.EnumMake
import PyProof.ConsumeWalk
import PyProof.StationsW
import KE.KTryMore
import PyProof.ExcArgsOwn
import KE.KIsAll
import PyProof.NsDelKeeps
import PyProof.Rows.FStr
import KE.IntBitsLaws
import PyProof.ZipIter
import PyProof.Rows.SumAny
import PyProof.ListRange
import PyProof.Rows.SortWalk
import PySem.Challenge.RW_ringbook_k08_why_there_is_none
-- CHANGE: your row's module here, as the last of these rows
set_option Elab.async false
set_option linter.all false
set_option maxRecDepth 100000
/-! THE HAND LAYER, for ints, bools, texts, own classes, LISTS and tuples (index, slices, in, append, pop ..), calls, loops. Paste it whole ahead of your own text; what your proof does not reach may be deleted. -/
namespace L2
open PySem PySem.Spec PyProof.Rows

/-- a key: an int or a str -/
abbrev Key := Sum Int Str
def keyIs : Key → Value → Bool
  | .inl k, v => Value.isInt k v
  | .inr x, v => Value.isStrOf x v
def keyH (w : World) : Key → Int
  | .inl k => hashInt k
  | .inr x => hashStr w x
theorem keyIs_shape : ∀ {k : Key} {v : Value}, keyIs k v = true → (∃ i t, k = Sum.inl i ∧ v = Value.int i t) ∨ (∃ x t, k = Sum.inr x ∧ v = Value.str x t)
  | .inl i, v, h => by
    obtain ⟨t, e⟩ := Value.isInt_shape (k := i) (v := v) h
    exact .inl ⟨i, t, rfl, e⟩
  | .inr x, v, h => by
    obtain ⟨t, e⟩ := Value.isStrOf_shape (x := x) (v := v) h
    exact .inr ⟨x, t, rfl, e⟩
theorem key_ll (a b : Int) : decide ((Sum.inl a : Key) = Sum.inl b) = (a == b) := by
  by_cases e : a = b
  · subst e; simp
  · have h : ¬ (Sum.inl a : Key) = Sum.inl b := fun q => e (Sum.inl.inj q)
    rw [decide_eq_false h]
    exact (beq_eq_false_iff_ne.mpr e).symm
theorem key_rr (a b : Str) : decide ((Sum.inr a : Key) = Sum.inr b) = decide (a = b) := by
  by_cases e : a = b
  · subst e; simp
  · have h : ¬ (Sum.inr a : Key) = Sum.inr b := fun q => e (Sum.inr.inj q)
    rw [decide_eq_false h, decide_eq_false e]
theorem key_lr (a : Int) (b : Str) : decide ((Sum.inl a : Key) = Sum.inr b) = false := decide_eq_false (fun q => nomatch q)
theorem key_rl (a : Str) (b : Int) : decide ((Sum.inr a : Key) = Sum.inl b) = false := decide_eq_false (fun q => nomatch q)

def mixKind (prog : Program) (w : World) : PySem.KeyKind prog w Key where
  is := keyIs
  hash := keyH w
  inj := fun v a b ha hb => by
    rcases keyIs_shape ha with ⟨i, t, rfl, rfl⟩ | ⟨x, t, rfl, rfl⟩
    · rcases keyIs_shape hb with ⟨j, u, rfl, e⟩ | ⟨y, u, rfl, e⟩
      · injection e with e1 _; rw [e1]
      · exact nomatch e
    · rcases keyIs_shape hb with ⟨j, u, rfl, e⟩ | ⟨y, u, rfl, e⟩
      · exact nomatch e
      · injection e with e1 _; rw [e1]
  byValue := fun k v h => by
    rcases keyIs_shape h with ⟨i, t, rfl, rfl⟩ | ⟨x, t, rfl, rfl⟩ <;> rfl
  pyHash := fun hv h => by
    rcases keyIs_shape hv with ⟨i, t, rfl, rfl⟩ | ⟨x, t, rfl, rfl⟩
    · exact wpAny_pyHash_int h
    · exact wpAny_pyHash_str h
  eqBool := fun hu hv h => by
    rcases keyIs_shape hu with ⟨i, t, rfl, rfl⟩ | ⟨x, t, rfl, rfl⟩
    · rcases keyIs_shape hv with ⟨j, u, rfl, rfl⟩ | ⟨y, u, rfl, rfl⟩
      · rw [key_ll] at h; exact wpAny_eqBool_int h
      · rw [key_lr] at h; exact SeqAt.EqAt.int_str i t y u _ _ _ _ h
    · rcases keyIs_shape hv with ⟨j, u, rfl, rfl⟩ | ⟨y, u, rfl, rfl⟩
      · rw [key_rl] at h; exact SeqAt.EqAt.str_int x t j u _ _ _ _ h
      · rw [key_rr] at h; exact wpAny_eqBool_str h
  «strs» := fun k x t v h => by
    rcases keyIs_shape h with ⟨i, u, rfl, e⟩ | ⟨y, u, rfl, e⟩
    · exact nomatch e
    · injection e with e1 _
      subst e1
      cases v <;> rfl

end L2

namespace L2
open PySem PySem.Spec PyProof.Rows

/-- a value, without the heap -/
inductive V where
  | non | bl (b : Bool) | int (i : Int) | str (x : Str) | byt (b : Array UInt8) | flt (b : UInt64) | ref (a : Addr) | ty (n : String)
  deriving DecidableEq

def RelV : V → Value → Prop
  | .non, u => u = Value.none
  | .bl b, u => u = Value.bool b
  | .int i, u => ∃ t, u = Value.int i t
  | .str x, u => ∃ t, u = Value.str x t
  | .byt b, u => ∃ t, u = Value.bytes b t
  | .flt b, u => ∃ t, u = Value.float b t
  | .ref a, u => u = Value.ref a
  | .ty n, u => u = Value.type n

abbrev Vals : List V → List Value → Prop := Paired RelV
theorem Vals.length {xs : List V} {us : List Value} (r : Vals xs us) : xs.length = us.length := Paired.length r
theorem Vals.get : ∀ {xs : List V} {us : List Value} {i : Nat} {x : V}, Vals xs us → xs[i]? = some x → ∃ u, us[i]? = some u ∧ RelV x u
  | _, _, _, _, .nil, e => by simp at e
  | _, _, 0, _, .cons r _, e => by simp at e; subst e; exact ⟨_, rfl, r⟩
  | _, _, i + 1, x, .cons _ t, e => by
    obtain ⟨u, h1, h2⟩ := Vals.get (i := i) (x := x) t (by simpa using e)
    exact ⟨u, by simpa using h1, h2⟩
theorem Vals.set {x : V} {u : Value} (r : RelV x u) : ∀ {xs : List V} {us : List Value} (i : Nat), Vals xs us → Vals (xs.set i x) (us.set i u)
  | _, _, _, .nil => .nil
  | _, _, 0, .cons _ t => .cons r t
  | _, _, i + 1, .cons q t => .cons q (Vals.set r i t)
theorem Vals.append : ∀ {xs ys : List V} {us ws : List Value}, Vals xs us → Vals ys ws → Vals (xs ++ ys) (us ++ ws)
  | _, _, _, _, .nil, s => s
  | _, _, _, _, .cons r t, s => .cons r (Vals.append t s)
theorem Vals.take : ∀ {xs : List V} {us : List Value} (n : Nat), Vals xs us → Vals (xs.take n) (us.take n)
  | _, _, 0, _ => .nil
  | _, _, _ + 1, .nil => .nil
  | _, _, n + 1, .cons r t => .cons r (Vals.take n t)
theorem Vals.drop : ∀ {xs : List V} {us : List Value} (n : Nat), Vals xs us → Vals (xs.drop n) (us.drop n)
  | _, _, 0, r => r
  | _, _, _ + 1, .nil => .nil
  | _, _, n + 1, .cons _ t => Vals.drop n t
theorem Vals.none_of : ∀ {xs : List V} {us : List Value} {i : Nat}, Vals xs us → xs[i]? = none → us[i]? = none := fun {xs us i} r e => by
  have h1 := r.length
  have h2 : xs.length ≤ i := List.getElem?_eq_none_iff.mp e
  exact List.getElem?_eq_none_iff.mpr (by omega)

def RelO : Option V → Option Value → Prop
  | some v, some u => RelV v u
  | none, none => True
  | _, _ => False
def KV {κ : Type} : List (κ × V) → List (κ × Value) → Prop := Paired fun (p : κ × V) (q : κ × Value) => p.1 = q.1 ∧ RelV p.2 q.2

/-- a key of a dict (00_mix): an int or a text -/
def kV : Key → V
  | .inl i => .int i
  | .inr x => .str x

/-- what stands at a tracked address -/
inductive HO where
  /-- a list -/
  | lst (xs : List V)
  /-- a tuple (never changes) -/
  | tup (xs : List V)
  /-- a dict whose keys are ints and texts; one whose keys are tuples of ints and texts (the empty one is both) -/
  | dK (kvs : List (Key × V)) | dT (kvs : List (List Key × V))
  /-- a set of ints: its members, its size -/
  | set (S : Int → Bool) (n : Nat)
  /-- an instance of the class at C, its dict at dx, its attributes -/
  | ins (C dx : Addr) (fs : List (Str × V))
  /-- the dict of the instance at x -/
  | own (x : Addr)
  /-- the dict of an exception -/
  | xd (fs : List (Str × V))
  /-- a bound method, f of x -/
  | met (f x : Addr)
  /-- a range object lo, lo + 1, .. below hi -/
  | rng (lo hi : Int)
  /-- a thing that is known to the object (the script; a dict while a loop walks it): read, never written while it is so -/
  | frz (o : Obj) (u : HO)
  /-- a code object's table -/
  | tbl (ps : Array Value)
  /-- any other thing, by what is true of its one object (a def of one's own: SetO a S n := HO.ext fun h => ..) -/
  | ext (φ : Heap → Prop)

abbrev Hp := Addr → Option HO
def upd (H : Hp) (a : Addr) (o : HO) : Hp := fun b => if b = a then some o else H b
theorem upd_same {H : Hp} {a : Addr} {o : HO} : upd H a o a = some o := by unfold upd; rw [if_pos rfl]
theorem upd_ne {H : Hp} {a b : Addr} {o : HO} (h : b ≠ a) : upd H a o b = H b := by unfold upd; rw [if_neg h]
/-- two objects of different content stand apart -/
theorem ne_of {H : Hp} {a b : Addr} {o u : HO} (h : H a = some o) (h' : H b = some u) (d : o ≠ u) : a ≠ b := by
  intro e; subst e; rw [h] at h'; exact d (Option.some.inj h')
theorem ne_of_none {H : Hp} {a b : Addr} {o : HO} (h : H a = some o) (h' : H b = none) : a ≠ b := by
  intro e; subst e; rw [h] at h'; cases h'

section
variable (P : Program) (w : World)
def ObjOk (H : Hp) (h : Heap) (a : Addr) : HO → Prop
  | .lst xs => xs.length ≤ sizeLine ∧ ∃ (its : List Value) (n : Nat), Vals xs its ∧ h.get? a = some { cls := .type "list", data := .seq its.toArray n }
  | .tup xs => xs.length ≤ sizeLine ∧ ∃ its : List Value, Vals xs its ∧ IsTup h a its.toArray
  | .dK kvs => kvs.length ≤ sizeLine ∧ (a == sysModules) = false ∧ ∃ vs, KV kvs vs ∧ h.DictOf (mixKind P w) a vs
  | .dT kvs => kvs.length ≤ sizeLine ∧ (a == sysModules) = false ∧ ∃ xs : List (List Key × Addr × Value),
      Paired (fun (p : List Key × V) (q : List Key × Addr × Value) => p.1 = q.1 ∧ H q.2.1 = some (.tup (p.1.map kV)) ∧ RelV p.2 q.2.2) kvs xs ∧
      ∃ o es ep, h.get? a = some o ∧ o.ExactDict ∧ o.data = .dict es ep ∧ es.toList = xs.map (entryOfKey (tupleKind (mixKind P w))) ∧ (xs.map (·.1)).Nodup
  | .set S n => h.SetOf (intKind P w) a S n
  | .ins C dx fs => H dx = some (.own a) ∧ fs.length ≤ 1000 ∧ dx ≠ a ∧ h.get? a = some (PySem.W.instObj C dx) ∧
      ∃ mA, h.Ns1 dx mA ∧ (∀ f, RelO (fs.lookup f) (mA f)) ∧ PySem.Within mA (fs.map (·.1))
  | .own _ => ∃ o, h.get? a = some o
  | .xd fs => ∃ mA, h.Ns1 a mA ∧ ∀ f, RelO (fs.lookup f) (mA f)
  | .rng lo hi => ∃ t u v, h.get? a = some { cls := .type "range", data := .fields #[.int lo t, .int hi u, .int 1 v] }
  | .frz o u => h.get? a = some o ∧ ObjOk H h a u
  | .tbl ps => h.get? a = some { cls := .none, data := .fields ps }
  | .met f x => h.get? a = some (PySem.W.methodObj (.ref f) (.ref x))
  | .ext φ => φ h ∧ (∃ o, h.get? a = some o) ∧ ∀ h1 h2 : Heap, φ h1 → (∀ o, h1.get? a = some o → h2.get? a = some o) → φ h2
/-- the abstract heap is held -/
def HOk (H : Hp) (h : Heap) : Prop := ∀ a o, H a = some o → ObjOk P w H h a o
end

section
variable {P : Program} {w : World} {H H' : Hp} {h h' : Heap} {a : Addr} {o : HO}
theorem ObjOk.lt (x : ObjOk P w H h a o) : a < h.objs.size := by
  cases o with
  | lst xs => obtain ⟨_, _, _, _, e⟩ := x; exact Heap.lt_size e
  | tup xs => obtain ⟨_, _, _, p⟩ := x; exact p.lt
  | dK kvs => obtain ⟨_, _, _, _, o, _, _, e, _⟩ := x; exact Heap.lt_size e
  | dT kvs => obtain ⟨_, _, _, _, o, _, _, e, _⟩ := x; exact Heap.lt_size e
  | set S n => obtain ⟨o, _, _, _, e, _⟩ := x; exact Heap.lt_size e
  | ins C dx fs => obtain ⟨_, _, _, e, _⟩ := x; exact Heap.lt_size e
  | own y => obtain ⟨_, e⟩ := x; exact Heap.lt_size e
  | xd fs => obtain ⟨_, ⟨_, _, _, e, _⟩, _⟩ := x; exact Heap.lt_size e
  | rng lo hi => obtain ⟨_, _, _, e⟩ := x; exact Heap.lt_size e
  | frz ob u => obtain ⟨e, _⟩ := x; exact Heap.lt_size e
  | tbl ps => exact Heap.lt_size (show h.get? a = some _ from x)
  | met f y => exact Heap.lt_size (show h.get? a = some _ from x)
  | ext φ => obtain ⟨_, ⟨_, e⟩, _⟩ := x; exact Heap.lt_size e
theorem Paired.mapP {α β : Type} {F G : α → β → Prop} : ∀ {l₁ : List α} {l₂ : List β}, Paired F l₁ l₂ → (∀ a b, F a b → G a b) → Paired G l₁ l₂
  | _, _, .nil, _ => .nil
  | _, _, .cons r t, f => .cons (f _ _ r) (Paired.mapP t f)
/-- what an object's description leans on: its own object, its own dict, the tuples -/
theorem ObjOk.stay (x : ObjOk P w H h a o) (k : ∀ b u, (b = a ∨ H b = some (.own a)) → h.get? b = some u → h'.get? b = some u)
    (ho : ∀ b, H b = some (.own a) → H' b = some (.own a)) (ht : ∀ b xs, H b = some (.tup xs) → H' b = some (.tup xs)) : ObjOk P w H' h' a o := by
  induction o with
  | lst xs => obtain ⟨z, its, n, r, e⟩ := x; exact ⟨z, its, n, r, k _ _ (.inl rfl) e⟩
  | tup xs => obtain ⟨z, its, r, ob, e, c⟩ := x; exact ⟨z, its, r, ob, k _ _ (.inl rfl) e, c⟩
  | dK kvs => obtain ⟨z, y, vs, r, ob, es, ep, e, c⟩ := x; exact ⟨z, y, vs, r, ob, es, ep, k _ _ (.inl rfl) e, c⟩
  | dT kvs =>
    obtain ⟨z, y, xs, r, ob, es, ep, e, c⟩ := x
    exact ⟨z, y, xs, Paired.mapP r fun p q z => ⟨z.1, ht _ _ z.2.1, z.2.2⟩, ob, es, ep, k _ _ (.inl rfl) e, c⟩
  | set S n => obtain ⟨ob, es, ep, t, e, c⟩ := x; exact ⟨ob, es, ep, t, k _ _ (.inl rfl) e, c⟩
  | ins C dx fs =>
    obtain ⟨d, z, ne, e, mA, ⟨od, es, ep, e2, c⟩, r⟩ := x
    exact ⟨ho _ d, z, ne, k _ _ (.inl rfl) e, mA, ⟨od, es, ep, k _ _ (.inr d) e2, c⟩, r⟩
  | own y => obtain ⟨ob, e⟩ := x; exact ⟨ob, k _ _ (.inl rfl) e⟩
  | xd fs => obtain ⟨mA, ⟨od, es, ep, e, c⟩, r⟩ := x; exact ⟨mA, ⟨od, es, ep, k _ _ (.inl rfl) e, c⟩, r⟩
  | rng lo hi => obtain ⟨t, u, v, e⟩ := x; exact ⟨t, u, v, k _ _ (.inl rfl) e⟩
  | frz ob u ih => obtain ⟨e, q⟩ := x; exact ⟨k _ _ (.inl rfl) e, ih q⟩
  | tbl ps =>
    have e : h.get? a = some { cls := .none, data := .fields ps } := x
    show h'.get? a = some { cls := .none, data := .fields ps }
    exact k a _ (.inl rfl) e
  | met f y =>
    have e : h.get? a = some (PySem.W.methodObj (.ref f) (.ref y)) := x
    show h'.get? a = some (PySem.W.methodObj (.ref f) (.ref y))
    exact k a _ (.inl rfl) e
  | ext φ => obtain ⟨p, ⟨o, e⟩, st⟩ := x; exact ⟨st _ _ p fun o q => k _ _ (.inl rfl) q, ⟨o, k _ _ (.inl rfl) e⟩, st⟩
theorem HOk.lt (x : HOk P w H h) (e : H a = some o) : a < h.objs.size := (x a o e).lt
theorem HOk.fresh (x : HOk P w H h) (e : h.objs.size ≤ a) : H a = none := by
  cases q : H a with
  | none => rfl
  | some u => exact absurd (Nat.lt_of_lt_of_le (x.lt q) e) (Nat.lt_irrefl _)
/-- every object of the heap is kept -/
theorem HOk.kept (x : HOk P w H h) (k : ∀ b u, h.get? b = some u → h'.get? b = some u) : HOk P w H h' := fun a o e =>
  (x a o e).stay (fun b u _ q => k b u q) (fun _ q => q) fun _ _ q => q
/-- a new object is laid and tracked -/
theorem HOk.laid (x : HOk P w H h) (k : ∀ b u, h.get? b = some u → h'.get? b = some u) (hp : h.objs.size ≤ a) (new : ObjOk P w (upd H a o) h' a o) : HOk P w (upd H a o) h' := fun b u e => by
  have hn := x.fresh hp
  by_cases hb : b = a
  · subst hb; rw [upd_same] at e; cases e; exact new
  · rw [upd_ne hb] at e
    exact (x b u e).stay (fun c v _ q => k c v q) (fun c q => by rw [upd_ne (ne_of_none q hn)]; exact q) fun c xs q => by rw [upd_ne (ne_of_none q hn)]; exact q
end

/-- what may be read as u: it is u, or a known u -/
def Rd (H : Hp) (a : Addr) (u : HO) : Prop := H a = some u ∨ ∃ o, H a = some (.frz o u)
theorem Rd.of {H : Hp} {a : Addr} {u : HO} (h : H a = some u) : Rd H a u := .inl h
theorem Rd.ok {P : Program} {w : World} {H : Hp} {h : Heap} {a : Addr} {u : HO} (r : Rd H a u) (x : HOk P w H h) : ObjOk P w H h a u := by
  rcases r with r | ⟨o, r⟩
  · exact x a u r
  · obtain ⟨_, q⟩ := x a _ r
    exact q
/-- what may be written -/
def Mut : Option HO → Prop
  | some (.lst _) => True
  | some (.dK _) => True
  | some (.dT _) => True
  | some (.set _ _) => True
  | some (.ins _ _ _) => True
  | some (.ext _) => True
  | _ => False
section
variable {P : Program} {w : World} {H : Hp} {h h' : Heap} {x e : Addr} {o' : HO}
/-- the object at e is changed: x itself, or the dict of the instance x -/
theorem HOk.write (ok : HOk P w H h) (mu : Mut (H x)) (he : e = x ∨ H e = some (.own x)) (k : ∀ b u, b ≠ e → h.get? b = some u → h'.get? b = some u) (heo : ∃ u, h'.get? e = some u)
    (new : ObjOk P w (upd H x o') h' x o') : HOk P w (upd H x o') h' := fun b u q => by
  have nown : ∀ c y, H c = some (.own y) → c ≠ x := fun c y r z => by subst z; rw [r] at mu; exact mu
  have ntup : ∀ c xs, H c = some (.tup xs) → c ≠ x := fun c xs r z => by subst z; rw [r] at mu; exact mu
  by_cases hb : b = x
  · subst hb; rw [upd_same] at q; cases q; exact new
  · rw [upd_ne hb] at q
    by_cases hbe : b = e
    · have q' : H b = some (.own x) := by
        rcases he with z | z
        · exact absurd (hbe.trans z) hb
        · rw [hbe]; exact z
      rw [q] at q'; cases q'
      obtain ⟨v, hv⟩ := heo
      exact ⟨v, by rw [hbe]; exact hv⟩
    · refine (ok b u q).stay (fun c v hc r => k c v ?_ r) (fun c r => by rw [upd_ne (nown c b r)]; exact r) fun c xs r => by rw [upd_ne (ntup c xs r)]; exact r
      rcases hc with rfl | hc
      · exact hbe
      · rintro rfl
        rcases he with z | z
        · exact nown c b hc z
        · rw [hc] at z; cases z; exact hb rfl
end

/-! ### kept unless tracked; of the frames at fs (the callers') the slots may change (an exception that passes writes there); of the records at ex (iterators) nothing is said -/
structure Un (fs ex : List Addr) (H H' : Hp) (h h' : Heap) : Prop where
  keep : ∀ b o, h.get? b = some o → H b = none → b ∉ fs → b ∉ ex → h'.get? b = some o
  slot : ∀ b o, h.get? b = some o → H b = none → b ∈ fs → b ∉ ex → ∃ sl, h'.get? b = some { o with slots := sl }
  free : ∀ b o, h.get? b = some o → H b = none → b ∉ ex → H' b = none
  there : ∀ b o, h.get? b = some o → b ∉ ex → ∃ o', h'.get? b = some o'
  tups : ∀ b xs, H b = some (.tup xs) → H' b = some (.tup xs)
  frzs : ∀ b o u, H b = some (.frz o u) → H' b = some (.frz o u)
  tbls : ∀ b ps, H b = some (.tbl ps) → ∃ more, H' b = some (.tbl (ps ++ more))
section
variable {fs fs' ex ex' : List Addr} {H H1 H2 : Hp} {h h1 h2 h' : Heap} {a x e : Addr} {o : HO}
theorem Un.any (u : Un fs ex H H1 h h1) {b : Addr} {ob : Obj} (q : h.get? b = some ob) (n : H b = none) (hx : b ∉ ex) : ∃ sl, h1.get? b = some { ob with slots := sl } := by
  by_cases hb : b ∈ fs
  · exact u.slot b ob q n hb hx
  · exact ⟨ob.slots, u.keep b ob q n hb hx⟩
theorem Un.trans (a : Un fs ex H H1 h h1) (b : Un fs ex H1 H2 h1 h2) : Un fs ex H H2 h h2 where
  keep := fun c ob q n hc hx => b.keep c ob (a.keep c ob q n hc hx) (a.free c ob q n hx) hc hx
  slot := fun c ob q n hc hx => by
    obtain ⟨sl, e1⟩ := a.slot c ob q n hc hx
    obtain ⟨sl', e2⟩ := b.slot c _ e1 (a.free c ob q n hx) hc hx
    exact ⟨sl', e2⟩
  free := fun c ob q n hx => by
    obtain ⟨o', e1⟩ := a.there c ob q hx
    exact b.free c o' e1 (a.free c ob q n hx) hx
  there := fun c ob q hx => by
    obtain ⟨o', e1⟩ := a.there c ob q hx
    exact b.there c o' e1 hx
  tups := fun c xs q => b.tups c xs (a.tups c xs q)
  frzs := fun c ob xs q => b.frzs c ob xs (a.frzs c ob xs q)
  tbls := fun c ps q => by
    obtain ⟨m1, e1⟩ := a.tbls c ps q
    obtain ⟨m2, e2⟩ := b.tbls c _ e1
    exact ⟨m1 ++ m2, by rw [e2, Array.append_assoc]⟩
theorem Un.kept (k : ∀ b u, h.get? b = some u → h'.get? b = some u) : Un fs ex H H h h' :=
  ⟨fun b ob q _ _ _ => k b ob q, fun b ob q _ _ _ => ⟨ob.slots, k b ob q⟩, fun _ _ _ n _ => n, fun b ob q _ => ⟨ob, k b ob q⟩, fun _ _ q => q, fun _ _ _ q => q, fun _ ps q => ⟨#[], by rw [q]; simp⟩⟩
theorem Un.refl : Un fs ex H H h h := Un.kept fun _ _ q => q
theorem Un.laid (k : ∀ b u, h.get? b = some u → h'.get? b = some u) (hp : h.objs.size ≤ a) (hn : H a = none) : Un fs ex H (upd H a o) h h' where
  keep := fun b u q _ _ _ => k b u q
  slot := fun b u q _ _ _ => ⟨u.slots, k b u q⟩
  free := fun b u q n _ => by rw [upd_ne (Nat.ne_of_lt (Nat.lt_of_lt_of_le (Heap.lt_size q) hp))]; exact n
  there := fun b u q _ => ⟨u, k b u q⟩
  tups := fun b xs q => by rw [upd_ne (ne_of_none q hn)]; exact q
  frzs := fun b u xs q => by rw [upd_ne (ne_of_none q hn)]; exact q
  tbls := fun b ps q => ⟨#[], by rw [upd_ne (ne_of_none q hn), q]; simp⟩
theorem Un.write (mu : Mut (H x)) (he : e = x ∨ H e = some (.own x)) (k : ∀ b u, b ≠ e → h.get? b = some u → h'.get? b = some u) (heo : ∃ u, h'.get? e = some u) : Un fs ex H (upd H x o) h h' := by
  have hx : ∀ b, H b = none → b ≠ x := fun b n z => by subst z; rw [n] at mu; exact mu
  have hb : ∀ b, H b = none → b ≠ e := fun b n z => by
    subst z
    rcases he with r | r
    · exact hx b n r
    · rw [n] at r; cases r
  have hm : ∀ b u, H b = some u → ¬ Mut (some u) → b ≠ x := fun b u q nm z => by subst z; rw [q] at mu; exact nm mu
  refine ⟨fun b u q n _ _ => k b u (hb b n) q, fun b u q n _ _ => ⟨u.slots, k b u (hb b n) q⟩, fun b u q n _ => by rw [upd_ne (hx b n)]; exact n, fun b u q _ => ?_,
    fun b xs q => by rw [upd_ne (hm b _ q fun z => z)]; exact q, fun b u xs q => by rw [upd_ne (hm b _ q fun z => z)]; exact q, fun b ps q => ⟨#[], by rw [upd_ne (hm b _ q fun z => z), q]; simp⟩⟩
  by_cases hbe : b = e
  · subst hbe; exact heo
  · exact ⟨u, k b u hbe q⟩
theorem Un.mono (u : Un fs ex H H1 h h1) (hs : ∀ b ∈ fs, b ∈ fs') (hx : ∀ b ∈ ex, b ∈ ex') : Un fs' ex' H H1 h h1 :=
  ⟨fun b ob q n hb he => u.keep b ob q n (fun z => hb (hs b z)) fun z => he (hx b z), fun _ _ q n _ he => u.any q n fun z => he (hx _ z), fun b ob q n he => u.free b ob q n fun z => he (hx b z), fun b ob q he => u.there b ob q fun z => he (hx b z), u.tups, u.frzs, u.tbls⟩
end

/-! ### the heap without what is tracked -/
def trk (h : Heap) (H : Hp) : List Addr := (List.range h.objs.size).filter fun a => (H a).isSome
def hidT (h : Heap) (H : Hp) : Heap := PySem.W.hideAll h (trk h H)
theorem hidT_size (h : Heap) (H : Hp) : (hidT h H).objs.size = h.objs.size := PySem.W.hideAll_size _ _
theorem hidT_get {h : Heap} {H : Hp} {b : Addr} {o : Obj} (e : h.get? b = some o) (n : H b = none) : (hidT h H).get? b = some o :=
  PySem.W.hideAll_get _ e fun hm => by
    have q : (H b).isSome = true := (List.mem_filter.mp hm).2
    rw [n] at q; simp at q
theorem of_hidT {h : Heap} {H : Hp} {b : Addr} {o : Obj} (e : (hidT h H).get? b = some o) : h.get? b = some o ∧ H b = none := by
  have e' : h.get? b = some o := PySem.W.of_hideAll (trk h H) e
  refine ⟨e', ?_⟩
  cases q : H b with
  | none => rfl
  | some x =>
    have hm : b ∈ trk h H := List.mem_filter.mpr ⟨List.mem_range.mpr (Heap.lt_size e'), by simp [q]⟩
    have z : (hidT h H).get? b = none := PySem.W.hideAll_none (trk h H) hm
    rw [z] at e; cases e

/-! ### OpenK's ledger, filled with every new object but one -/
def allNews (g h : Heap) (L : Addr) : List (Addr × Obj) := (List.range h.objs.size).filterMap fun a => if a = L ∨ (g.get? a).isSome = true then none else (h.get? a).map fun o => (a, o)
def rest (g h : Heap) (L d : Addr) : List (Addr × Obj) := (allNews g h L).filter fun p => decide (p.1 ≠ d)
end L2

namespace L2
open PySem PySem.Spec PyProof.Rows

/-- the module's facts, over the base: the heap at the law's entry without what is tracked there -/
structure Mod (K : PySem.W.Frag) (mg : Str → Option Value) (base : Heap) : Prop where
  kin : K.In base
  glob : base.Ns mainGlobals mg
  blt : ∃ mb, base.Ns builtinsNs mb ∧ ∀ x : Str, x ≠ "__name__" → mb x = bootBuiltins x
  nolimit : base.NoLimit

/-- the context: a def's body (or a comprehension's block) running. base: fixed through the whole law; s₀, H₀: the entry; outer: the frames whose slots others may change (a def's callers); stack: all frames that run;
   ex: iterators that were made ahead of the entry and are walked here (a comprehension's); fn: the names whose cells were made at the entry (a def: all; a comprehension's block: its own); calm: not within an except suite; pn: pins that every state bears; xe: what is wanted of an exception that leaves the code -/
structure Cx where
  prog : Program
  w : World
  K : PySem.W.Frag
  mg : Str → Option Value
  base : Heap
  A : Around
  N : List Str
  s₀ : Shared
  H₀ : Hp
  env : Env
  outer : List Env
  stack : List Env
  ex : List Addr
  fn : Str → Bool
  calm : Bool
  pn : List (Addr × Obj)
  xe : Value → Shared → Prop
/-- the callers' frames -/
def frs (l : List Env) : List Addr := l.filterMap (·.frame)
abbrev Cx.fs (X : Cx) : List Addr := frs X.outer

def Vis (sc : Scope) (x : Str) : Prop := sc.names.lookup x = some .local ∨ sc.names.lookup x = some .cell ∨ sc.names.lookup x = some .free
def Loc (sc : Scope) (x : Str) : Prop := sc.names.lookup x = some .local ∨ sc.names.lookup x = some .cell
def Look (env : Env) (h : Heap) (m : Str → Option Value) (x : Str) (u : Value) : Prop :=
  (env.kindOf x = some .local ∧ m x = some u) ∨ ((env.kindOf x = some .cell ∨ env.kindOf x = some .free) ∧ ∃ c, env.cells.lookup x = some c ∧ h.IsCell c (some u))

structure Cx.Ok (X : Cx) : Prop where
  mod : Mod X.K X.mg X.base
  kind : X.env.scope.kind = .function
  glob : X.env.globals = mainGlobals
  blt : X.env.builtins = builtinsNs
  above : X.s₀.heap.objs.size ≤ X.env.locals
  inj : ∀ x y c, X.env.cells.lookup x = some c → X.env.cells.lookup y = some c → x = y
  has : ∀ x, (X.env.kindOf x = some .cell ∨ X.env.kindOf x = some .free) → ∃ c, X.env.cells.lookup x = some c
  cab : ∀ x c, X.fn x = true → X.env.cells.lookup x = some c → X.s₀.heap.objs.size ≤ c
  hd : X.calm = true → X.A.handled = none
  frames : X.A.frames = some X.stack
  stk : X.stack = X.outer ∨ (X.stack = X.env :: X.outer ∧ X.env.frame = some X.env.locals)
  exf : ∀ b ∈ X.ex, b ≠ X.env.locals ∧ ∀ x c, X.env.cells.lookup x = some c → c ≠ b
  bs : ∀ b o, X.base.get? b = some o → X.s₀.heap.get? b = some o ∧ X.H₀ b = none
  bsz : X.base.objs.size ≤ X.s₀.heap.objs.size
  noex : ∀ b o, X.base.get? b = some o → b ∉ X.ex
  exfs : ∀ b ∈ X.ex, b ∉ X.fs
  funs : X.s₀.heap.FunFrames X.base X.outer
  frf : ∀ b ∈ X.fs, X.H₀ b = none

structure Inv (X : Cx) (pins : List (Addr × Obj)) (σ : List (Option V)) (H : Hp) (s : Shared) : Prop where
  ok : X.Ok
  os : s.os = X.s₀.os
  bare : AllBare s.gens
  base : Un X.fs X.ex X.H₀ H X.s₀.heap s.heap
  loc : ∃ m, s.heap.Ns X.env.locals m ∧ ∀ (i : Nat) (x : Str) (v : V), X.N[i]? = some x → σ[i]? = some (some v) → Vis X.env.scope x → ∃ u, RelV v u ∧ Look X.env s.heap m x u
  cell : ∀ x c, X.env.cells.lookup x = some c → ∃ v, s.heap.IsCell c v
  free : H X.env.locals = none
  freeC : ∀ x c, X.env.cells.lookup x = some c → H c = none
  pin : ∀ p ∈ X.pn ++ pins, s.heap.get? p.1 = some p.2 ∧ H p.1 = none ∧ p.1 ≠ X.env.locals ∧ p.1 ∉ X.fs ∧ ∀ v, p.2.data ≠ .cell v
  hok : HOk X.prog X.w H s.heap
  len : σ.length = X.N.length

section
variable {X : Cx} {pins : List (Addr × Obj)} {σ : List (Option V)} {H H' : Hp} {s : Shared} {h' : Heap}

theorem Cx.Ok.nofr (ok : X.Ok) {b : Addr} {o : Obj} (e : X.base.get? b = some o) : b ∉ X.fs := fun hb => by
  have := (ok.funs.mem hb).1
  rw [e] at this; cases this
theorem Inv.bs (I : Inv X pins σ H s) : ∀ b o, X.base.get? b = some o → s.heap.get? b = some o ∧ H b = none := fun b o e =>
  ⟨I.base.keep b o (I.ok.bs b o e).1 (I.ok.bs b o e).2 (I.ok.nofr e) (I.ok.noex b o e), I.base.free b o (I.ok.bs b o e).1 (I.ok.bs b o e).2 (I.ok.noex b o e)⟩
theorem Inv.bk (I : Inv X pins σ H s) : ∀ b o, X.base.get? b = some o → s.heap.get? b = some o := fun b o e => (I.bs b o e).1
theorem Inv.mod (I : Inv X pins σ H s) : Mod X.K X.mg X.base := I.ok.mod
theorem Inv.kIn (I : Inv X pins σ H s) : X.K.In s.heap := I.ok.mod.kin.keeps I.bk
theorem Inv.nolimit (I : Inv X pins σ H s) : s.heap.NoLimit := I.ok.mod.nolimit.keeps I.bk
/-- the frame over the base: for OpenK's rules (K.In X.base is I.mod.kin) -/
theorem Inv.fr (I : Inv X pins σ H s) : ∃ m, Fr X.base X.env.locals s.heap m :=
  let ⟨m, hn, _⟩ := I.loc
  ⟨m, hn, I.bk, Nat.le_trans I.ok.bsz I.ok.above⟩
theorem Inv.lt (I : Inv X pins σ H s) : X.env.locals < s.heap.objs.size := let ⟨_, hn, _⟩ := I.loc; hn.lt
theorem Inv.sz (I : Inv X pins σ H s) : X.s₀.heap.objs.size ≤ s.heap.objs.size := Nat.le_trans I.ok.above (Nat.le_of_lt I.lt)
theorem Inv.nofs (I : Inv X pins σ H s) {a : Addr} (h : s.heap.objs.size ≤ a) : a ∉ X.fs := fun hb => by
  obtain ⟨_, o, ho, _⟩ := I.ok.funs.mem hb
  exact absurd (Nat.lt_of_lt_of_le (Heap.lt_size ho) (Nat.le_trans I.sz h)) (Nat.lt_irrefl _)
theorem Inv.cne (I : Inv X pins σ H s) : ∀ x c, X.env.cells.lookup x = some c → c ≠ X.env.locals := fun x c e z => by
  obtain ⟨v, o, ho, hd⟩ := I.cell x c e
  obtain ⟨m, ⟨o', es, ep, ho', hd', _⟩, _⟩ := I.loc
  rw [z, ho'] at ho; cases ho; rw [hd'] at hd; cases hd
theorem Inv.funs (I : Inv X pins σ H s) : s.heap.FunFrames X.base X.outer := by
  have all : ∀ (l : List Env), (∀ b ∈ frs l, b ∈ X.fs) → X.s₀.heap.FunFrames X.base l → s.heap.FunFrames X.base l := by
    intro l
    induction l with
    | nil => intro _ _; trivial
    | cons env r ih =>
      intro hs hl
      obtain ⟨hk, ⟨L, o, hf, hn, ho, hd⟩, hr⟩ := hl
      have hL : L ∈ X.fs := hs L (by unfold frs; rw [List.filterMap_cons, hf]; exact List.mem_cons_self)
      obtain ⟨sl, e⟩ := I.base.slot L o ho (I.ok.frf L hL) hL fun z => I.ok.exfs L z hL
      exact ⟨hk, ⟨L, _, hf, hn, e, hd⟩, ih (fun b hb => hs b (by unfold frs; rw [List.filterMap_cons, hf]; exact List.mem_cons_of_mem _ hb)) hr⟩
  exact all X.outer (fun _ hb => hb) I.ok.funs

/-- the frames that run, for a call -/
theorem Inv.stack (I : Inv X pins σ H s) : s.heap.FunFrames X.base X.stack := by
  rcases I.ok.stk with e | ⟨e, hf⟩
  · rw [e]; exact I.funs
  · rw [e]
    obtain ⟨m, hn, _⟩ := I.loc
    refine .cons (by rw [I.ok.kind]; decide) hf hn ?_ I.funs
    exact Heap.get?_none_of_le (Nat.le_trans I.ok.bsz I.ok.above)
theorem Inv.stkSub (I : Inv X pins σ H s) : ∀ b ∈ frs X.stack, b ∈ X.env.locals :: X.fs := fun b hb => by
  rcases I.ok.stk with e | ⟨e, hf⟩
  · rw [e] at hb; exact List.mem_cons_of_mem _ hb
  · rw [e] at hb
    unfold frs at hb
    rw [List.filterMap_cons, hf] at hb
    exact hb
theorem Inv.stkFree (I : Inv X pins σ H s) : ∀ b ∈ frs X.stack, H b = none := fun b hb => by
  rcases List.mem_cons.mp (I.stkSub b hb) with e | hb
  · rw [e]; exact I.free
  · obtain ⟨_, o, ho, _⟩ := I.ok.funs.mem hb
    exact I.base.free b o ho (I.ok.frf b hb) fun z => I.ok.exfs b z hb

/-- THE STEP: the untracked objects but the frame and the records at ch are kept (the callers' frames up to slots), the frame's map is kept, the new abstract heap is held -/
theorem Inv.step {g' : Array GenState} {t' : Nat} {d' : Drawn} {ch : List Addr} (I : Inv X pins σ H s)
    (hch : ∀ b ∈ ch, (b ∈ X.ex ∨ X.s₀.heap.objs.size ≤ b) ∧ b ≠ X.env.locals ∧ (∀ x c, X.env.cells.lookup x = some c → c ≠ b) ∧ ∀ p ∈ X.pn ++ pins, p.1 ≠ b)
    (keep : ∀ b o, b ≠ X.env.locals → b ∉ X.fs → b ∉ ch → s.heap.get? b = some o → H b = none → h'.get? b = some o)
    (slot : ∀ b o, b ≠ X.env.locals → b ∈ X.fs → b ∉ ch → s.heap.get? b = some o → H b = none → ∃ sl, h'.get? b = some { o with slots := sl }) (free : ∀ b o, b ∉ ch → s.heap.get? b = some o → H b = none → H' b = none)
    (there : ∀ b o, b ∉ ch → s.heap.get? b = some o → ∃ o', h'.get? b = some o')
    (tups : ∀ b xs, H b = some (.tup xs) → H' b = some (.tup xs)) (frzs : ∀ b o u, H b = some (.frz o u) → H' b = some (.frz o u)) (tbls : ∀ b ps, H b = some (.tbl ps) → ∃ more, H' b = some (.tbl (ps ++ more)))
    (ns : ∀ m, s.heap.Ns X.env.locals m → h'.Ns X.env.locals m) (hok : HOk X.prog X.w H' h') (hg : AllBare g') :
    Inv X pins σ H' { s with heap := h', gens := g', drawn := d', toks := t' } := by
  have neL : ∀ b o, X.s₀.heap.get? b = some o → b ≠ X.env.locals := fun b o e => Nat.ne_of_lt (Nat.lt_of_lt_of_le (Heap.lt_size e) I.ok.above)
  have neC : ∀ b o, X.s₀.heap.get? b = some o → b ∉ X.ex → b ∉ ch := fun b o e hx hb => by
    rcases (hch b hb).1 with z | z
    · exact hx z
    · exact absurd (Nat.lt_of_lt_of_le (Heap.lt_size e) z) (Nat.lt_irrefl _)
  have cellK : ∀ x c, X.env.cells.lookup x = some c → ∀ v, s.heap.IsCell c v → h'.IsCell c v := fun x c e v ⟨o, ho, hd⟩ => by
    have nch : c ∉ ch := fun z => (hch c z).2.2.1 x c e rfl
    by_cases hc : c ∈ X.fs
    · obtain ⟨sl, q⟩ := slot c o (I.cne x c e) hc nch ho (I.freeC x c e)
      exact ⟨_, q, hd⟩
    · exact ⟨o, keep c o (I.cne x c e) hc nch ho (I.freeC x c e), hd⟩
  refine ⟨I.ok, I.os, hg, ⟨fun b o e n hb hx => ?_, fun b o e n hb hx => ?_, fun b o e n hx => ?_, fun b o e hx => ?_, fun b xs e => tups b xs (I.base.tups b xs e), fun b o xs e => frzs b o xs (I.base.frzs b o xs e), fun b ps e => ?_⟩, ?_, fun x c e => ?_, ?_, fun x c e => ?_, fun p hp => ?_, hok, I.len⟩
  · exact keep b o (neL b o e) hb (neC b o e hx) (I.base.keep b o e n hb hx) (I.base.free b o e n hx)
  · obtain ⟨sl, e1⟩ := I.base.slot b o e n hb hx
    obtain ⟨sl', e2⟩ := slot b _ (neL b o e) hb (neC b o e hx) e1 (I.base.free b o e n hx)
    exact ⟨sl', e2⟩
  · obtain ⟨o', e1⟩ := I.base.there b o e hx
    exact free b o' (neC b o e hx) e1 (I.base.free b o e n hx)
  · obtain ⟨o', e1⟩ := I.base.there b o e hx
    exact there b o' (neC b o e hx) e1
  · obtain ⟨m1, e1⟩ := I.base.tbls b ps e
    obtain ⟨m2, e2⟩ := tbls b _ e1
    exact ⟨m1 ++ m2, by rw [e2, Array.append_assoc]⟩
  · obtain ⟨m, hn, hl⟩ := I.loc
    refine ⟨m, ns m hn, fun i x v e1 e2 e3 => ?_⟩
    obtain ⟨u, r, l⟩ := hl i x v e1 e2 e3
    refine ⟨u, r, ?_⟩
    rcases l with l | ⟨k, c, e, z⟩
    · exact .inl l
    · exact .inr ⟨k, c, e, cellK x c e _ z⟩
  · obtain ⟨v, z⟩ := I.cell x c e
    exact ⟨v, cellK x c e v z⟩
  · obtain ⟨m, ⟨o, _, _, ho, _⟩, _⟩ := I.loc
    exact free _ o (fun z => (hch _ z).2.1 rfl) ho I.free
  · obtain ⟨v, o, ho, hd⟩ := I.cell x c e
    exact free c o (fun z => (hch c z).2.2.1 x c e rfl) ho (I.freeC x c e)
  · obtain ⟨e, n, ne, nf, d⟩ := I.pin p hp
    have nch : p.1 ∉ ch := fun z => (hch p.1 z).2.2.2 p hp rfl
    exact ⟨keep p.1 p.2 ne nf nch e n, free p.1 p.2 nch e n, ne, nf, d⟩
/-- .. where the frame's own object is kept too -/
theorem Inv.un {t' : Nat} (I : Inv X pins σ H s) (u : Un X.fs [] H H' s.heap h') (hok : HOk X.prog X.w H' h') : Inv X pins σ H' { s with heap := h', toks := t' } := by
  obtain ⟨m, ⟨o, es, ep, ho, r⟩, _⟩ := id I.loc
  obtain ⟨sl, hL⟩ := u.any ho I.free (by simp)
  exact I.step (g' := s.gens) (d' := s.drawn) (ch := []) (fun _ z => nomatch z) (fun b o _ hb _ e n => u.keep b o e n hb (by simp)) (fun b o _ hb _ e n => u.slot b o e n hb (by simp)) (fun b o _ e n => u.free b o e n (by simp)) (fun b o _ e => u.there b o e (by simp)) u.tups u.frzs u.tbls (fun m' hm => by
    obtain ⟨o', es', ep', ho', r'⟩ := hm
    rw [ho] at ho'; cases ho'
    exact ⟨_, es', ep', hL, r'⟩) hok I.bare
/-- behind a call (or a comprehension's block): the slots of this frame may have changed too, the records at ch may have turned -/
theorem Inv.call {g' : Array GenState} {t' : Nat} {d' : Drawn} {ch : List Addr} (I : Inv X pins σ H s) (u : Un (frs X.stack) ch H H' s.heap h') (hok : HOk X.prog X.w H' h') (hg : AllBare g')
    (hch : ∀ b ∈ ch, (b ∈ X.ex ∨ X.s₀.heap.objs.size ≤ b) ∧ b ≠ X.env.locals ∧ (∀ x c, X.env.cells.lookup x = some c → c ≠ b) ∧ ∀ p ∈ X.pn ++ pins, p.1 ≠ b) :
    Inv X pins σ H' { s with heap := h', gens := g', drawn := d', toks := t' } := by
  obtain ⟨m, ⟨o, es, ep, ho, r⟩, _⟩ := id I.loc
  obtain ⟨sl, hL⟩ := u.any ho I.free fun z => (hch _ z).2.1 rfl
  exact I.step (ch := ch) hch (fun b o hL hb hc e n => u.keep b o e n (fun z => (List.mem_cons.mp (I.stkSub b z)).elim hL hb) hc) (fun b o _ _ hc e n => u.any e n hc) (fun b o hc e n => u.free b o e n hc) (fun b o hc e => u.there b o e hc) u.tups u.frzs u.tbls (fun m' hm => by
    obtain ⟨o', es', ep', ho', r'⟩ := hm
    rw [ho] at ho'; cases ho'
    exact ⟨_, es', ep', hL, r'⟩) hok hg
/-- an untracked record of ours (an iterator) has turned -/
theorem Inv.turned {t' : Nat} {it : Addr} (I : Inv X pins σ H s) (k : ∀ b o, b ≠ it → s.heap.get? b = some o → h'.get? b = some o) (hn : H it = none) (hL : it ≠ X.env.locals)
    (h1 : it ∈ X.ex ∨ X.s₀.heap.objs.size ≤ it) (h2 : ∀ x c, X.env.cells.lookup x = some c → c ≠ it) (h3 : ∀ p ∈ X.pn ++ pins, p.1 ≠ it) : Inv X pins σ H { s with heap := h', toks := t' } := by
  have nit : ∀ b u, H b = some u → b ≠ it := fun b u e z => by rw [z, hn] at e; cases e
  refine I.step (g' := s.gens) (d' := s.drawn) (ch := [it]) (fun b hb => ?_) (fun b o _ _ hc e _ => k b o (fun z => hc (by simp [z])) e) (fun b o _ _ hc e _ => ⟨o.slots, k b o (fun z => hc (by simp [z])) e⟩) (fun _ _ _ _ n => n)
    (fun b o hc e => ⟨o, k b o (fun z => hc (by simp [z])) e⟩) (fun _ _ e => e) (fun _ _ _ e => e) (fun b ps e => ⟨#[], by rw [e]; simp⟩) (fun m hm => ?_) (fun b u e => ?_) I.bare
  · have e : b = it := by simpa using hb
    subst e
    exact ⟨h1, hL, h2, h3⟩
  · obtain ⟨o, es, ep, ho, r⟩ := hm
    exact ⟨o, es, ep, k _ o (Ne.symm hL) ho, r⟩
  · refine (I.hok b u e).stay (fun c v hc q => k c v ?_ q) (fun _ q => q) fun _ _ q => q
    rcases hc with z | z
    · rw [z]; exact nit b u e
    · exact nit c _ z
theorem Inv.tok (I : Inv X pins σ H s) (t : Nat) : Inv X pins σ H { s with toks := t } := I.un (h' := s.heap) (t' := t) Un.refl I.hok
/-- all objects kept -/
theorem Inv.kept {t' : Nat} (I : Inv X pins σ H s) (k : ∀ b u, s.heap.get? b = some u → h'.get? b = some u) : Inv X pins σ H { s with heap := h', toks := t' } := I.un (Un.kept k) (I.hok.kept k)
/-- a new object laid and tracked -/
theorem Inv.laid {a : Addr} {o : HO} {t' : Nat} (I : Inv X pins σ H s) (k : ∀ b u, s.heap.get? b = some u → h'.get? b = some u) (hp : s.heap.objs.size ≤ a) (new : ObjOk X.prog X.w (upd H a o) h' a o) :
    Inv X pins σ (upd H a o) { s with heap := h', toks := t' } := I.un (Un.laid k hp (I.hok.fresh hp)) (I.hok.laid k hp new)
/-- an object written -/
theorem Inv.write {x e : Addr} {o : HO} {t' : Nat} (I : Inv X pins σ H s) (mu : Mut (H x)) (he : e = x ∨ H e = some (.own x)) (k : ∀ b u, b ≠ e → s.heap.get? b = some u → h'.get? b = some u) (heo : ∃ u, h'.get? e = some u)
    (new : ObjOk X.prog X.w (upd H x o) h' x o) : Inv X pins σ (upd H x o) { s with heap := h', toks := t' } := I.un (Un.write mu he k heo) (I.hok.write mu he k heo new)
theorem Inv.pins_of {pins' : List (Addr × Obj)} (I : Inv X pins σ H s) (h : ∀ p ∈ pins', s.heap.get? p.1 = some p.2 ∧ H p.1 = none ∧ p.1 ≠ X.env.locals ∧ p.1 ∉ X.fs ∧ ∀ v, p.2.data ≠ .cell v) : Inv X pins' σ H s :=
  ⟨I.ok, I.os, I.bare, I.base, I.loc, I.cell, I.free, I.freeC, fun p hp => (List.mem_append.mp hp).elim (fun z => I.pin p (List.mem_append_left _ z)) (h p), I.hok, I.len⟩

theorem nodup_ix {N : List Str} (hN : N.Nodup) {i j : Nat} {x : Str} (a : N[i]? = some x) (b : N[j]? = some x) : i = j := by
  obtain ⟨h1, e1⟩ := List.getElem?_eq_some_iff.mp a
  obtain ⟨h2, e2⟩ := List.getElem?_eq_some_iff.mp b
  exact (List.getElem_inj hN).mp (e1.trans e2.symm)

/-- a name is stored; what changed -/
theorem store_ok2 {M : Model} {A : Around} {E : Value → Shared → Prop} {i : Nat} {x : Str} {v : V} {u : Value} {Q : Unit → Shared → Prop} (I : Inv X pins σ H s) (hN : X.N.Nodup) (hi : X.N[i]? = some x) (hx : Loc X.env.scope x) (r : RelV v u)
    (h : ∀ s', Inv X pins (σ.set i (some v)) H s' → (∃ a, Heap.SameBut a s.heap s'.heap ∧ (a = X.env.locals ∨ X.env.cells.lookup x = some a)) → Q () s') (hf : X.fn x = true ∨ X.env.scope.names.lookup x = some .local := by first | exact .inl rfl | exact .inr rfl | assumption) : wpAny M A (storeName X.env x u) Q E s := by
  obtain ⟨m, hn, hl⟩ := id I.loc
  have hcls : (X.env.scope.kind == .class || (X.env.scope.kind == .module && X.env.locals != X.env.globals)) = false := by rw [I.ok.kind]; rfl
  have hiσ : i < σ.length := by rw [I.len]; exact (List.getElem?_eq_some_iff.mp hi).1
  have cne := I.cne
  have tracked : ∀ {a : Addr} {h' : Heap}, (∃ o, s.heap.get? a = some o ∧ H a = none) → Heap.SameBut a s.heap h' → HOk X.prog X.w H h' := fun {a h'} ha hs b ob e => by
    obtain ⟨_, _, hfree⟩ := ha
    refine (I.hok b ob e).stay (fun c w' hc q => (hs.2 c ?_).trans q) (fun _ q => q) fun _ _ q => q
    rintro rfl
    rcases hc with rfl | hc
    · rw [hfree] at e; cases e
    · rw [hfree] at hc; cases hc
  rcases hx with hk | hk
  · refine wpAny_storeName_local hk hn (fun h' hn' hs => ?_) hcls
    obtain ⟨oL, _, _, hoL, _⟩ := id hn
    refine h _ ⟨I.ok, I.os, I.bare, ⟨fun b o e n hb hx => ?_, fun b o e n hb hx => ?_, I.base.free, fun b o e hx => ?_, I.base.tups, I.base.frzs, I.base.tbls⟩, ⟨_, hn', fun j y v' e1 e2 e3 => ?_⟩, fun y c e => ?_, I.free, I.freeC, fun p hp => ?_, tracked ⟨oL, hoL, I.free⟩ hs, by simpa using I.len⟩ ⟨_, hs, .inl rfl⟩
    · exact (hs.2 b (Nat.ne_of_lt (Nat.lt_of_lt_of_le (Heap.lt_size e) I.ok.above))).trans (I.base.keep b o e n hb hx)
    · obtain ⟨sl, e1⟩ := I.base.slot b o e n hb hx
      exact ⟨sl, (hs.2 b (Nat.ne_of_lt (Nat.lt_of_lt_of_le (Heap.lt_size e) I.ok.above))).trans e1⟩
    · obtain ⟨o', e1⟩ := I.base.there b o e hx
      exact ⟨o', (hs.2 b (Nat.ne_of_lt (Nat.lt_of_lt_of_le (Heap.lt_size e) I.ok.above))).trans e1⟩
    · by_cases hj : j = i
      · subst hj
        rw [hi] at e1; cases e1
        rw [List.getElem?_set_self hiσ] at e2
        cases e2
        exact ⟨u, r, .inl ⟨hk, by simp⟩⟩
      · rw [List.getElem?_set_ne (Ne.symm hj)] at e2
        obtain ⟨u', r', q⟩ := hl j y v' e1 e2 e3
        refine ⟨u', r', ?_⟩
        rcases q with ⟨k, e⟩ | ⟨k, c, e, z⟩
        · refine .inl ⟨k, ?_⟩
          have : y ≠ x := fun e => hj (nodup_ix hN e1 (e ▸ hi))
          simp [this, e]
        · exact .inr ⟨k, c, e, z.sameBut hs (cne y c e)⟩
    · obtain ⟨w', z⟩ := I.cell y c e
      exact ⟨w', z.sameBut hs (cne y c e)⟩
    · obtain ⟨e, n, ne, nf, d⟩ := I.pin p hp
      exact ⟨(hs.2 p.1 ne).trans e, n, ne, nf, d⟩
  · have hfn : X.fn x = true := by
      rcases hf with z | z
      · exact z
      · rw [z] at hk; cases hk
    obtain ⟨c, hc⟩ := I.ok.has x (.inl hk)
    obtain ⟨w', z⟩ := I.cell x c hc
    refine wpAny_storeName_cell I.ok.kind hk hc z (fun h' hc' hs => ?_)
    obtain ⟨oc, hoc, hocd⟩ := id z
    refine h { s with heap := h' } ⟨I.ok, I.os, I.bare, ⟨fun b o e n hb hx => ?_, fun b o e n hb hx => ?_, I.base.free, fun b o e hx => ?_, I.base.tups, I.base.frzs, I.base.tbls⟩, ⟨m, hn.sameBut hs (Ne.symm (cne x c hc)), fun j y v' e1 e2 e3 => ?_⟩, fun y c' e => ?_, I.free, I.freeC, fun p hp => ?_, tracked ⟨oc, hoc, I.freeC x c hc⟩ hs, by simpa using I.len⟩ ⟨c, hs, .inr hc⟩
    · exact (hs.2 b (Nat.ne_of_lt (Nat.lt_of_lt_of_le (Heap.lt_size e) (I.ok.cab x c hfn hc)))).trans (I.base.keep b o e n hb hx)
    · obtain ⟨sl, e1⟩ := I.base.slot b o e n hb hx
      exact ⟨sl, (hs.2 b (Nat.ne_of_lt (Nat.lt_of_lt_of_le (Heap.lt_size e) (I.ok.cab x c hfn hc)))).trans e1⟩
    · obtain ⟨o', e1⟩ := I.base.there b o e hx
      exact ⟨o', (hs.2 b (Nat.ne_of_lt (Nat.lt_of_lt_of_le (Heap.lt_size e) (I.ok.cab x c hfn hc)))).trans e1⟩
    · by_cases hj : j = i
      · subst hj
        rw [hi] at e1; cases e1
        rw [List.getElem?_set_self hiσ] at e2
        cases e2
        exact ⟨u, r, .inr ⟨.inl hk, c, hc, hc'⟩⟩
      · rw [List.getElem?_set_ne (Ne.symm hj)] at e2
        obtain ⟨u', r', q⟩ := hl j y v' e1 e2 e3
        refine ⟨u', r', ?_⟩
        rcases q with q | ⟨k, c', e, z'⟩
        · exact .inl q
        · refine .inr ⟨k, c', e, z'.sameBut hs ?_⟩
          rintro rfl
          exact hj (nodup_ix hN e1 (I.ok.inj _ _ _ e hc ▸ hi))
    · by_cases hcc : c' = c
      · subst hcc; exact ⟨_, hc'⟩
      · obtain ⟨w2, z2⟩ := I.cell y c' e
        exact ⟨w2, z2.sameBut hs hcc⟩
    · obtain ⟨e, n, ne, nf, d⟩ := I.pin p hp
      refine ⟨(hs.2 p.1 ?_).trans e, n, ne, nf, d⟩
      intro q
      rw [q, hoc] at e
      have q' : oc = p.2 := Option.some.inj e
      exact d w' (by rw [← q']; exact hocd)
theorem store_ok {M : Model} {A : Around} {E : Value → Shared → Prop} {i : Nat} {x : Str} {v : V} {u : Value} {Q : Unit → Shared → Prop} (I : Inv X pins σ H s) (hN : X.N.Nodup) (hi : X.N[i]? = some x) (hx : Loc X.env.scope x) (r : RelV v u)
    (h : ∀ s', Inv X pins (σ.set i (some v)) H s' → Q () s') (hf : X.fn x = true ∨ X.env.scope.names.lookup x = some .local := by first | exact .inl rfl | exact .inr rfl | assumption) : wpAny M A (storeName X.env x u) Q E s :=
  store_ok2 I hN hi hx r (fun s' I' _ => h s' I') hf
/-- behind a call or a block, the state as it is -/
theorem Inv.call' {s' : Shared} {ch : List Addr} (I : Inv X pins σ H s) (ho : s'.os = s.os) (u : Un (frs X.stack) ch H H' s.heap s'.heap) (hok : HOk X.prog X.w H' s'.heap) (hg : AllBare s'.gens)
    (hch : ∀ b ∈ ch, (b ∈ X.ex ∨ X.s₀.heap.objs.size ≤ b) ∧ b ≠ X.env.locals ∧ (∀ x c, X.env.cells.lookup x = some c → c ≠ b) ∧ ∀ p ∈ X.pn ++ pins, p.1 ≠ b) : Inv X pins σ H' s' := by
  obtain ⟨h', g', d', t', o'⟩ := s'
  have e : o' = s.os := ho
  subst e
  exact I.call (g' := g') (t' := t') (d' := d') u hok hg hch
end

/-! ### the judgements -/
/-- an exception: its class, its own dict's address (where it has one), the abstract heap behind it -/
abbrev XK := Value → Option Addr → Hp → Prop
abbrev St := List (Option V)
abbrev VK := V → Hp → Prop
/-- an expression's reading; a test's; an argument list's -/
abbrev TE := St → Hp → VK → Prop
abbrev TT := St → Hp → (Bool → Hp → Prop) → Prop
abbrev TA := St → Hp → (List V → Hp → Prop) → Prop
/-- what is wanted behind a statement -/
structure Ends where
  nx : St → Hp → Prop
  rt : VK
  bk : St → Hp → Prop := fun _ _ => False
  ct : St → Hp → Prop := fun _ _ => False
abbrev TS := Ends → St → Hp → Prop

def EP (X : Cx) (pins : List (Addr × Obj)) (σ : St) (Q : VK) (u : Value) (s' : Shared) : Prop := ∃ v H', Inv X pins σ H' s' ∧ RelV v u ∧ Q v H'
def TP (X : Cx) (pins : List (Addr × Obj)) (σ : St) (Q : Bool → Hp → Prop) (b : Bool) (s' : Shared) : Prop := ∃ H', Inv X pins σ H' s' ∧ Q b H'
def AP (X : Cx) (pins : List (Addr × Obj)) (σ : St) (Q : List V → Hp → Prop) (us : List Value) (s' : Shared) : Prop := ∃ vs H', Inv X pins σ H' s' ∧ Vals vs us ∧ Q vs H'
def SP (X : Cx) (pins : List (Addr × Obj)) (D : Ends) (f : Flow) (s' : Shared) : Prop :=
  match f with
  | .next => ∃ σ' H', Inv X pins σ' H' s' ∧ D.nx σ' H'
  | .brk => ∃ σ' H', Inv X pins σ' H' s' ∧ D.bk σ' H'
  | .cont => ∃ σ' H', Inv X pins σ' H' s' ∧ D.ct σ' H'
  | .ret u => ∃ v σ' H', Inv X pins σ' H' s' ∧ RelV v u ∧ D.rt v H'

def PE (X : Cx) (e : Expr) (t : TE) : Prop :=
  ∀ (pins : List (Addr × Obj)) (s : Shared) (σ : St) (H : Hp) (Q : VK), Inv X pins σ H s → t σ H Q → wpAny (model X.prog X.w) X.A (eval e X.env) (EP X pins σ Q) X.xe s
def PT (X : Cx) (e : Expr) (t : TT) : Prop :=
  ∀ (pins : List (Addr × Obj)) (s : Shared) (σ : St) (H : Hp) (Q : Bool → Hp → Prop), Inv X pins σ H s → t σ H Q → wpAny (model X.prog X.w) X.A (isTrue e X.env (eval e X.env)) (TP X pins σ Q) X.xe s
/-- a test whatever its 'whole' is (and, or) -/
def PW (X : Cx) (e : Expr) (t : TT) : Prop :=
  ∀ (whole : Sem Value) (pins : List (Addr × Obj)) (s : Shared) (σ : St) (H : Hp) (Q : Bool → Hp → Prop), Inv X pins σ H s → t σ H Q → wpAny (model X.prog X.w) X.A (isTrue e X.env whole) (TP X pins σ Q) X.xe s
theorem PW.pt {X : Cx} {e : Expr} {t : TT} (h : PW X e t) : PT X e t := h _
/-- an argument list (no star), from the left -/
def PA (X : Cx) (es : List Expr) (t : TA) : Prop :=
  ∀ (pos : Pos) (pins : List (Addr × Obj)) (s : Shared) (σ : St) (H : Hp) (Q : List V → Hp → Prop), Inv X pins σ H s → t σ H Q → wpAny (model X.prog X.w) X.A (spliced (backTo pos (starEach es X.env))) (AP X pins σ Q) X.xe s
def PS (X : Cx) (st : Stmt) (t : TS) : Prop :=
  ∀ (pins : List (Addr × Obj)) (s : Shared) (σ : St) (H : Hp) (D : Ends), Inv X pins σ H s → t D σ H → wpAny (model X.prog X.w) X.A (exec st X.env) (SP X pins D) X.xe s
def PSs (X : Cx) (st : List Stmt) (t : TS) : Prop :=
  ∀ (pins : List (Addr × Obj)) (s : Shared) (σ : St) (H : Hp) (D : Ends), Inv X pins σ H s → t D σ H → wpAny (model X.prog X.w) X.A (execs st X.env) (SP X pins D) X.xe s
/-- weaken the end -/
theorem thn {α : Type} {t : Sem α} {Q Q' : α → Shared → Prop} {M : Model} {A : Around} {E : Value → Shared → Prop} {s : Shared} (h : wpAny M A t Q E s) (hQ : ∀ a s, Q a s → Q' a s) : wpAny M A t Q' E s := wpAny_mono h hQ fun _ _ x => x
end L2

namespace L2
open PySem PySem.Spec PyProof.Rows
section
variable {X : Cx}

/-! ### names and constants -/
def tVar (i : Nat) : TE := fun σ H Q => ∃ v, σ[i]? = some (some v) ∧ Q v H
def tC (v : V) : TE := fun _ H Q => Q v H
theorem pe_var {i : Nat} {x : Str} {pos : Pos} (hN : X.N[i]? = some x) (hv : Vis X.env.scope x) (hd : (x == ("__debug__" : Str)) = false := by decide) (hcd : (x == ("__classdict__" : Str)) = false := by decide) : PE X (.Name x pos) (tVar i) := by
  intro pins s σ H Q I h
  obtain ⟨v, e, h⟩ := h
  obtain ⟨m, hn, hl⟩ := I.loc
  obtain ⟨u, r, l⟩ := hl i x v hN e hv
  have fin : EP X pins σ Q u s := ⟨v, H, I, r, h⟩
  rcases l with ⟨hk, hm⟩ | ⟨hk, c, hc, hcell⟩
  · exact wpAny_Name (wpAny_loadName_local I.ok.kind hk hn hm fin) hd
  · rcases hk with hk | hk
    · exact wpAny_Name (wpAny_loadName_cell I.ok.kind hk hc hcell fin) hd
    · exact wpAny_Name (wpAny_loadName_free I.ok.kind hk hc hcell fin hcd) hd
theorem pe_int {i j pos} : PE X (.Constant (.int i) j pos) (tC (.int i)) := fun _ _ _ H _ I h => wpAny_Constant_int ⟨.int i, H, I.tok _, ⟨_, rfl⟩, h⟩
theorem pe_bl {b j pos} : PE X (.Constant (.bool b) j pos) (tC (.bl b)) := fun _ _ _ H _ I h => Constant_bool ⟨.bl b, H, I, rfl, h⟩
theorem pe_non {j pos} : PE X (.Constant .none j pos) (tC .non) := fun _ _ _ H _ I h => Constant_none ⟨.non, H, I, rfl, h⟩
theorem pe_str {x j pos} : PE X (.Constant (.str x) j pos) (tC (.str x)) := fun _ _ _ H _ I h => Calls.Constant_str ⟨.str x, H, I.tok _, ⟨_, rfl⟩, h⟩

/-- a global name of the def -/
def Gl (X : Cx) (x : Str) : Prop := X.env.kindOf x = some .globalImplicit
theorem ld_glob {E : Value → Shared → Prop} {pins : List (Addr × Obj)} {s : Shared} {σ : St} {H : Hp} {x : Str} {u : Value} {pos : Pos} {Q : Value → Shared → Prop} (I : Inv X pins σ H s) (hg : Gl X x) (hm : X.mg x = some u) (h : Q u s)
    (hd : (x == ("__debug__" : Str)) = false := by decide) : wpAny (model X.prog X.w) X.A (eval (.Name x pos) X.env) Q E s :=
  Calls.Name_function_global I.ok.kind hg (Calls.loadGlobal_global (by rw [I.ok.glob]; exact I.mod.glob.keeps I.bk) hm h) hd
theorem ld_blt {E : Value → Shared → Prop} {pins : List (Addr × Obj)} {s : Shared} {σ : St} {H : Hp} {x : Str} {u : Value} {pos : Pos} {Q : Value → Shared → Prop} (I : Inv X pins σ H s) (hg : Gl X x) (hm : X.mg x = none) (hv : bootBuiltins x = some u) (h : Q u s)
    (hn : x ≠ "__name__" := by decide) (hd : (x == ("__debug__" : Str)) = false := by decide) : wpAny (model X.prog X.w) X.A (eval (.Name x pos) X.env) Q E s := by
  obtain ⟨mb, h1, h2⟩ := I.mod.blt
  exact Calls.Name_function_global I.ok.kind hg (Calls.loadGlobal_builtin (by rw [I.ok.glob]; exact I.mod.glob.keeps I.bk) hm (by rw [I.ok.blt]; exact h1.keeps I.bk) ((h2 x hn).trans hv) h) hd
/-- a module's constant, a class, a function, as a value -/
theorem pe_glob {x : Str} {v : V} {u : Value} {pos : Pos} (hg : Gl X x) (hm : X.mg x = some u) (r : RelV v u) (hd : (x == ("__debug__" : Str)) = false := by decide) : PE X (.Name x pos) (tC v) :=
  fun _ _ _ H _ I h => ld_glob I hg hm ⟨v, H, I, r, h⟩ hd
theorem pe_bltn {x : Str} {v : V} {u : Value} {pos : Pos} (hg : Gl X x) (hm : X.mg x = none) (hv : bootBuiltins x = some u) (r : RelV v u) (hn : x ≠ "__name__" := by decide) (hd : (x == ("__debug__" : Str)) = false := by decide) : PE X (.Name x pos) (tC v) :=
  fun _ _ _ H _ I h => ld_blt I hg hm hv ⟨v, H, I, r, h⟩ hn hd

/-! ### arithmetic -/
variable {a b : Expr} {ta tb : TE} {pos : Pos}
/-! ### comparisons -/
/-- a comparison as a value, as a test -/
def tB (t : TE) : TT := fun σ H Q => t σ H fun x H1 => ∃ c, x = .bl c ∧ Q c H1
/-- an expression whose value is a bool, as a test -/
theorem pt_val {e : Expr} {t : TE} (h : PE X e t) (he : ∀ whole, isTrue e X.env whole = (do let v ← whole; standAt e.pos; holding [v] (truthy v)) := by intro _; rfl) : PT X e (tB t) := by
  intro pins s σ H Q I hw
  refine isTrue_plain (thn (h pins s σ H _ I hw) fun v s1 ⟨x, H1, I1, r1, q1⟩ => ?_) (he _)
  obtain ⟨d, rfl, q⟩ := q1
  cases r1
  exact wpAny_truthy_bool ⟨H1, I1, q⟩

/-! ### and, or, not -/
variable {tA tB' : TT} {rest : List Expr}
def tAnd (t u : TT) : TT := fun σ H Q => t σ H fun c H1 => if c = true then u σ H1 Q else Q false H1
def tOr (t u : TT) : TT := fun σ H Q => t σ H fun c H1 => if c = true then Q true H1 else u σ H1 Q
def tNot (t : TT) : TT := fun σ H Q => t σ H fun c H1 => Q (!c) H1
theorem pw_or1 (ha : PT X a tA) : PW X (.BoolOp .Or [a] pos) tA := by
  intro wh pins s σ H Q I h
  refine isTrue_or (thn (ha pins s σ H Q I h) fun c s1 e => ?_)
  cases c with
  | false => exact isTrue_or_nil e
  | true => exact e
theorem pw_or (ha : PT X a tA) (hb : PW X (.BoolOp .Or (b :: rest) pos) tB') : PW X (.BoolOp .Or (a :: b :: rest) pos) (tOr tA tB') := by
  intro wh pins s σ H Q I h
  refine isTrue_or (thn (ha pins s σ H _ I h) fun c s1 ⟨H1, I1, q1⟩ => ?_)
  cases c with
  | true => exact ⟨H1, I1, q1⟩
  | false => exact hb wh pins s1 σ H1 Q I1 q1
theorem pt_not (ha : PT X a tA) : PT X (.UnaryOp .Not a pos) (tNot tA) := by
  intro pins s σ H Q I h
  exact isTrue_not (ha pins s σ H (fun c H1 => Q (!c) H1) I h)
/-- .. as values (bools) -/
def tAndV (ta tb : TE) : TE := fun σ H Q => ta σ H fun x H1 => ∃ c, x = .bl c ∧ if c = true then tb σ H1 Q else Q (.bl false) H1
def tOrV (ta tb : TE) : TE := fun σ H Q => ta σ H fun x H1 => ∃ c, x = .bl c ∧ if c = true then Q (.bl true) H1 else tb σ H1 Q
def tNotV (ta : TE) : TE := fun σ H Q => ta σ H fun x H1 => ∃ c, x = .bl c ∧ Q (.bl (!c)) H1
theorem pe_one {op} {t : TE} (h : PE X a t) : PE X (.BoolOp op [a] pos) t := fun pins s σ H Q I hw => BoolOp_one (h pins s σ H Q I hw)
theorem pe_and (ha : PE X a ta) (hb : PE X (.BoolOp .And (b :: rest) pos) tb) : PE X (.BoolOp .And (a :: b :: rest) pos) (tAndV ta tb) := by
  intro pins s σ H Q I h
  refine BoolOp_and (thn (ha pins s σ H _ I h) fun v s1 ⟨x, H1, I1, r1, q1⟩ => ?_)
  obtain ⟨c, rfl, q1⟩ := q1
  cases r1
  refine wpAny_truthy_bool ?_
  cases c with
  | true => exact hb pins s1 σ H1 Q I1 q1
  | false => exact ⟨.bl false, H1, I1, rfl, q1⟩
theorem pe_not (ha : PE X a ta) : PE X (.UnaryOp .Not a pos) (tNotV ta) := by
  intro pins s σ H Q I h
  refine UnaryOp_ (thn (ha pins s σ H _ I h) fun v s1 ⟨x, H1, I1, r1, q1⟩ => ?_)
  obtain ⟨c, rfl, q1⟩ := q1
  cases r1
  exact not_of (wpAny_truthy_bool ⟨.bl (!c), H1, I1, rfl, q1⟩)
/-- a if t else b -/
def tIf (t : TT) (ta tb : TE) : TE := fun σ H Q => t σ H fun c H1 => if c = true then ta σ H1 Q else tb σ H1 Q
theorem pe_ifExp {c : Expr} (hc : PT X c tA) (ha : PE X a ta) (hb : PE X b tb) : PE X (.IfExp c a b pos) (tIf tA ta tb) := by
  intro pins s σ H Q I h
  refine wpAny_IfExp (thn (hc pins s σ H _ I h) fun d s1 ⟨H1, I1, q1⟩ => ?_)
  cases d with
  | true => exact ha pins s1 σ H1 Q I1 q1
  | false => exact hb pins s1 σ H1 Q I1 q1
end
end L2

namespace L2
open PySem PySem.Spec PyProof.Rows

/-! ### a list, a tuple that is read: tracked, frozen, or an object of the module -/
def SqL (K : PySem.W.Frag) (H : Hp) (a : Addr) (xs : List V) : Prop :=
  Rd H a (.lst xs) ∨
    ∃ (o : Obj) (its : Array Value) (n : Nat), K.lookup a = some o ∧ o.cls = .type "list" ∧ o.dict = none ∧ o.data = .seq its n ∧ its.size ≤ sizeLine ∧ Vals xs its.toList
def SqT (K : PySem.W.Frag) (H : Hp) (a : Addr) (xs : List V) : Prop :=
  Rd H a (.tup xs) ∨
    ∃ (o : Obj) (its : Array Value) (n : Nat), K.lookup a = some o ∧ o.cls = .type "tuple" ∧ o.data = .seq its n ∧ its.size ≤ sizeLine ∧ Vals xs its.toList
def absV : Value → Option V
  | .none => some .non
  | .bool b => some (.bl b)
  | .int i _ => some (.int i)
  | .str x _ => some (.str x)
  | .bytes b _ => some (.byt b)
  | .float b _ => some (.flt b)
  | .ref a => some (.ref a)
  | .type n => some (.ty n)
  | _ => none
theorem RelV.abs {x : V} {u : Value} (r : RelV x u) : absV u = some x := by
  cases x with
  | non => cases r; rfl
  | bl _ => cases r; rfl
  | int _ => obtain ⟨t, rfl⟩ := r; rfl
  | str _ => obtain ⟨t, rfl⟩ := r; rfl
  | byt _ => obtain ⟨t, rfl⟩ := r; rfl
  | flt _ => obtain ⟨t, rfl⟩ := r; rfl
  | ref _ => cases r; rfl
  | ty _ => cases r; rfl
theorem RelV.inj {x y : V} {u : Value} (r : RelV x u) (q : RelV y u) : x = y := Option.some.inj (r.abs.symm.trans q.abs)
theorem Vals.inj : ∀ {xs ys : List V} {us : List Value}, Vals xs us → Vals ys us → xs = ys
  | _, _, _, .nil, .nil => rfl
  | _, _, _, .cons r t, .cons r' t' => by rw [r.inj r', Vals.inj t t']
section
variable {X : Cx} {pins : List (Addr × Obj)} {σ : St} {H : Hp} {s : Shared} {a : Addr} {xs ys : List V}
theorem SqL.of {K : PySem.W.Frag} (h : H a = some (.lst xs)) : SqL K H a xs := .inl (.inl h)
theorem SqT.of {K : PySem.W.Frag} (h : H a = some (.tup xs)) : SqT K H a xs := .inl (.inl h)
theorem Inv.list (I : Inv X pins σ H s) (h : SqL X.K H a xs) : ∃ its : List Value, Vals xs its ∧ PlainL s.heap a its.toArray ∧ xs.length ≤ sizeLine := by
  rcases h with h | ⟨o, its, n, hk, hc, hd, hs, hz, r⟩
  · obtain ⟨z, its, n, r, e⟩ := h.ok I.hok
    exact ⟨its, r, ⟨_, n, e, rfl, rfl, rfl⟩, z⟩
  · refine ⟨its.toList, r, ⟨o, n, I.kIn a o hk, hc, hd, by simpa using hs⟩, ?_⟩
    have e := r.length
    simp only [Array.length_toList] at e
    omega
theorem Inv.tuple (I : Inv X pins σ H s) (h : SqT X.K H a xs) : ∃ its : List Value, Vals xs its ∧ IsTup s.heap a its.toArray ∧ xs.length ≤ sizeLine := by
  rcases h with h | ⟨o, its, n, hk, hc, hs, hz, r⟩
  · obtain ⟨z, its, r, p⟩ := h.ok I.hok
    exact ⟨its, r, p, z⟩
  · refine ⟨its.toList, r, ⟨o, I.kIn a o hk, hc, n, by simpa using hs⟩, ?_⟩
    have e := r.length
    simp only [Array.length_toList] at e
    omega
theorem Inv.list_inj (I : Inv X pins σ H s) (h : SqL X.K H a xs) (h' : SqL X.K H a ys) : xs = ys := by
  obtain ⟨its, r, ⟨o, n, e, _, _, d⟩, _⟩ := I.list h
  obtain ⟨its', r', ⟨o', n', e', _, _, d'⟩, _⟩ := I.list h'
  rw [e] at e'; cases e'
  rw [d] at d'
  injection d' with d1 _
  have : its = its' := by simpa using congrArg Array.toList d1
  subst this
  exact r.inj r'
end

/-! ### another wish about exceptions -/
abbrev Cx.wish (X : Cx) (E : Value → Shared → Prop) : Cx := { X with xe := E }
/-- no exception leaves -/
abbrev Cx.nox (X : Cx) : Cx := X.wish fun _ _ => False
theorem Cx.Ok.wish {X : Cx} (ok : X.Ok) (E : Value → Shared → Prop) : (X.wish E).Ok :=
  ⟨ok.mod, ok.kind, ok.glob, ok.blt, ok.above, ok.inj, ok.has, ok.cab, ok.hd, ok.frames, ok.stk, ok.exf, ok.bs, ok.bsz, ok.noex, ok.exfs, ok.funs, ok.frf⟩
theorem Cx.Ok.unwish {X : Cx} {E : Value → Shared → Prop} (ok : (X.wish E).Ok) : X.Ok :=
  ⟨ok.mod, ok.kind, ok.glob, ok.blt, ok.above, ok.inj, ok.has, ok.cab, ok.hd, ok.frames, ok.stk, ok.exf, ok.bs, ok.bsz, ok.noex, ok.exfs, ok.funs, ok.frf⟩
section
variable {X : Cx} {pins : List (Addr × Obj)} {σ : St} {H : Hp} {s : Shared} {E : Value → Shared → Prop}
theorem Inv.wish (I : Inv X pins σ H s) (E : Value → Shared → Prop) : Inv (X.wish E) pins σ H s := ⟨I.ok.wish E, I.os, I.bare, I.base, I.loc, I.cell, I.free, I.freeC, I.pin, I.hok, I.len⟩
theorem Inv.unwish (I : Inv (X.wish E) pins σ H s) : Inv X pins σ H s := ⟨I.ok.unwish, I.os, I.bare, I.base, I.loc, I.cell, I.free, I.freeC, I.pin, I.hok, I.len⟩
theorem SP.unwish {D : Ends} {f : Flow} {s' : Shared} (h : SP (X.wish E) pins D f s') : SP X pins D f s' := by
  cases f with
  | next => obtain ⟨σ', H', I, q⟩ := h; exact ⟨σ', H', I.unwish, q⟩
  | brk => obtain ⟨σ', H', I, q⟩ := h; exact ⟨σ', H', I.unwish, q⟩
  | cont => obtain ⟨σ', H', I, q⟩ := h; exact ⟨σ', H', I.unwish, q⟩
  | ret u => obtain ⟨v, σ', H', I, r, q⟩ := h; exact ⟨v, σ', H', I.unwish, r, q⟩
theorem PE.nox {e : Expr} {t : TE} (h : PE X.nox e t) : PE X e t := fun pins s σ H Q I hw =>
  wpAny_mono (h pins s σ H Q (I.wish _) hw) (fun _ _ ⟨v, H', I', r, q⟩ => ⟨v, H', I'.unwish, r, q⟩) fun _ _ z => False.elim z
theorem PT.nox {e : Expr} {t : TT} (h : PT X.nox e t) : PT X e t := fun pins s σ H Q I hw =>
  wpAny_mono (h pins s σ H Q (I.wish _) hw) (fun _ _ ⟨H', I', q⟩ => ⟨H', I'.unwish, q⟩) fun _ _ z => False.elim z
theorem PSs.nox {st : List Stmt} {t : TS} (h : PSs X.nox st t) : PSs X st t := fun pins s σ H D I hw =>
  wpAny_mono (h pins s σ H D (I.wish _) hw) (fun _ _ q => q.unwish) fun _ _ z => False.elim z
end

/-! ### blocks and small statements -/
section
variable {X : Cx} {st : Stmt} {rest : List Stmt} {t u : TS} {e : Expr} {te : TE} {pos : Pos}
def tNext : TS := fun D σ H => D.nx σ H
def tSeq (t u : TS) : TS := fun D σ H => t { D with nx := u D } σ H
theorem pss_nil : PSs X [] tNext := fun _ _ σ H _ I h => wpAny_execs_nil ⟨σ, H, I, h⟩
theorem pss_cons (h1 : PS X st t) (h2 : PSs X rest u) : PSs X (st :: rest) (tSeq t u) := by
  intro pins s σ H D I h
  refine wpAny_execs_cons (thn (h1 pins s σ H { D with nx := u D } I h) fun f s1 q => ?_)
  cases f with
  | next =>
    obtain ⟨σ', H', I', q⟩ := q
    exact h2 pins s1 σ' H' D I' q
  | ret v => exact q
  | brk => exact q
  | cont => exact q
theorem pss_one (h1 : PS X st t) : PSs X [st] t := by
  intro pins s σ H D I h
  refine wpAny_execs_cons (thn (h1 pins s σ H D I h) fun f s1 q => ?_)
  cases f with
  | next => exact wpAny_execs_nil q
  | ret v => exact q
  | brk => exact q
  | cont => exact q
def tBreak : TS := fun D σ H => D.bk σ H
def tCont : TS := fun D σ H => D.ct σ H
/-- in a def's body nothing is shown -/
theorem Inv.quiet {pins : List (Addr × Obj)} {σ : St} {H : Hp} {s : Shared} (I : Inv X pins σ H s) : interactive X.env = false := by simp [interactive, I.ok.kind]
/-- an expression whose value is dropped -/
def tDrop (te : TE) : TS := fun D σ H => te σ H fun _ H1 => D.nx σ H1
theorem ps_expr (he : PE X e te) (hs : swapsWith e none pos.line X.env = pure false := by rfl) : PS X (.Expr e pos) (tDrop te) := by
  intro pins s σ H D I h
  exact wpAny_Expr_any (thn (he pins s σ H _ I h) fun v s1 ⟨x, H1, I1, r1, q1⟩ => ⟨σ, H1, I1, q1⟩) I.quiet hs
def tRet (te : TE) : TS := fun D σ H => te σ H D.rt
theorem ps_ret (he : PE X e te) : PS X (.Return (some e) pos) (tRet te) := by
  intro pins s σ H D I h
  exact wpAny_Return_some (thn (he pins s σ H _ I h) fun v s1 ⟨x, H1, I1, r1, q1⟩ => ⟨x, σ, H1, I1, r1, q1⟩)
def tRetN : TS := fun D _ H => D.rt .non H
def tIfS (c : TT) (t u : TS) : TS := fun D σ H => c σ H fun b H1 => if b = true then t D σ H1 else u D σ H1
theorem ps_if {c : Expr} {a b : List Stmt} {tc : TT} (hc : PT X c tc) (ha : PSs X a t) (hb : PSs X b u) : PS X (.If c a b pos) (tIfS tc t u) := by
  intro pins s σ H D I h
  refine wpAny_If (thn (hc pins s σ H _ I h) fun d s1 ⟨H1, I1, q1⟩ => ?_)
  cases d with
  | true => exact ha pins s1 σ H1 D I1 q1
  | false => exact hb pins s1 σ H1 D I1 q1
/-- code that the proof never comes to -/
def tNever : TS := fun _ _ _ => False
theorem ps_never : PS X st tNever := fun _ _ _ _ _ _ h => h.elim
end

/-! ### targets -/
abbrev TG := V → St → Hp → (St → Hp → Prop) → Prop
abbrev TGs := List V → St → Hp → (St → Hp → Prop) → Prop
def PG (X : Cx) (target : Expr) (t : TG) : Prop :=
  ∀ (pins : List (Addr × Obj)) (s : Shared) (σ : St) (H : Hp) (v : V) (u : Value) (Q : St → Hp → Prop), Inv X pins σ H s → RelV v u → t v σ H Q →
    wpAny (model X.prog X.w) X.A (assign target X.env u) (fun _ s' => ∃ σ' H', Inv X pins σ' H' s' ∧ Q σ' H') X.xe s
/-- several targets, one after another -/
def PGs (X : Cx) (ts : List Expr) (t : TGs) : Prop :=
  ∀ (pins : List (Addr × Obj)) (s : Shared) (σ : St) (H : Hp) (vs : List V) (us : List Value) (Q : St → Hp → Prop), Inv X pins σ H s → Vals vs us → t vs σ H Q →
    wpAny (model X.prog X.w) X.A (assignInOrder ((assignEach ts X.env).map (·.2)) us) (fun _ s' => ∃ σ' H', Inv X pins σ' H' s' ∧ Q σ' H') X.xe s
/-- o[i] = v, by values -/
abbrev TSet := V → V → V → Hp → (Hp → Prop) → Prop
def PSet (X : Cx) (t : TSet) : Prop :=
  ∀ (pins : List (Addr × Obj)) (s : Shared) (σ : St) (H : Hp) (o i v : V) (ov iv u : Value) (Q : Hp → Prop), Inv X pins σ H s → RelV o ov → RelV i iv → RelV v u → t o i v H Q →
    wpAny (model X.prog X.w) X.A (setItem ov iv u) (fun _ s' => ∃ H', Inv X pins σ H' s' ∧ Q H') X.xe s
/-- a op= b, by values -/
abbrev TIp := V → V → Hp → VK → Prop
def PIp (X : Cx) (op : Operator) (t : TIp) : Prop :=
  ∀ (pins : List (Addr × Obj)) (s : Shared) (σ : St) (H : Hp) (x y : V) (v u : Value) (Q : VK), Inv X pins σ H s → RelV x v → RelV y u → t x y H Q →
    wpAny (model X.prog X.w) X.A (inplaceOp op v u) (EP X pins σ Q) X.xe s
section
variable {X : Cx} {pos : Pos}
def gName (i : Nat) : TG := fun v σ H Q => Q (σ.set i (some v)) H
theorem pg_name {i : Nat} {x : Str} (hN : X.N.Nodup) (hi : X.N[i]? = some x) (hx : Loc X.env.scope x) (hf : X.fn x = true ∨ X.env.scope.names.lookup x = some .local := by first | exact .inl rfl | exact .inr rfl | assumption) : PG X (.Name x pos) (gName i) := by
  intro pins s σ H v u Q I r h
  exact wpAny_assign_Name (store_ok I hN hi hx r (fun s' I' => ⟨_, H, I', h⟩) hf)
def gNil : TGs := fun vs σ H Q => vs = [] ∧ Q σ H
def gCons (t : TG) (u : TGs) : TGs := fun vs σ H Q => ∃ v r, vs = v :: r ∧ t v σ H fun σ' H' => u r σ' H' Q
theorem pgs_nil : PGs X [] gNil := by
  intro pins s σ H vs us Q I r h
  obtain ⟨e, h⟩ := h
  subst e
  cases r
  exact assignInOrder_nil ⟨σ, H, I, h⟩
theorem pgs_cons {e : Expr} {es : List Expr} {t : TG} {u : TGs} (h1 : PG X e t) (h2 : PGs X es u)
    (hs : (assignEach (e :: es) X.env).map (·.2) = assign e X.env :: (assignEach es X.env).map (·.2) := by rfl) : PGs X (e :: es) (gCons t u) := by
  intro pins s σ H vs us Q I r h
  obtain ⟨v, vr, e1, h⟩ := h
  subst e1
  cases r with
  | cons r rr =>
    rw [hs]
    refine assignInOrder_cons (thn (h1 pins s σ H _ _ _ I r h) fun _ s1 ⟨σ1, H1, I1, q1⟩ => ?_)
    exact h2 pins s1 σ1 H1 _ _ Q I1 rr q1
/-- (a, b, ..) = a tuple of that length -/
def gTup (K : PySem.W.Frag) (n : Nat) (t : TGs) : TG := fun v σ H Q => ∃ a xs, v = .ref a ∧ SqT K H a xs ∧ xs.length = n ∧ t xs σ H Q
theorem pg_tup {es : List Expr} {k : Nat} {t : TGs} {n : Nat} (hc : X.calm = true) (h : PGs X es t)
    (hn : (assignEach es X.env).length = n := by rfl) (hst : (assignEach es X.env).findIdx? (·.1) = none := by rfl) : PG X (.Tuple es k pos) (gTup X.K n t) := by
  intro pins s σ H v u Q I r hw
  obtain ⟨a, xs, e1, hq, hl, hw⟩ := hw
  subst e1
  cases r
  obtain ⟨its, rv, ht, hz⟩ := I.tuple hq
  refine assign_Tuple_tuple (I.ok.hd hc) ht (by simp [hn, ← hl, rv.length]) hst fun h' hx => ?_
  have I1 : Inv X pins σ H { s with heap := h' } := I.kept (t' := s.toks) fun b o e => hx b o (Nat.ne_of_lt (Heap.lt_size e)) e
  exact h pins _ σ H xs _ Q I1 (by simpa using rv) hw
/-- o[i] = .. -/
def gSub (to ti : TE) (t : TSet) : TG := fun v σ H Q => to σ H fun o H1 => ti σ H1 fun i H2 => t o i v H2 fun H3 => Q σ H3
theorem pg_sub {o i : Expr} {to ti : TE} {t : TSet} (ho : PE X o to) (hi : PE X i ti) (hs : PSet X t)
    (ha : ∀ v, assign (.Subscript o i pos) X.env v = (do
      let ov ← holding [v] (eval o X.env)
      let iv ← holding [v, ov] (eval i X.env)
      standAt pos
      holding [v, ov, iv] (setItem ov iv v)
      release [v, ov, iv] []) := by intro _; rfl) : PG X (.Subscript o i pos) (gSub to ti t) := by
  intro pins s σ H v u Q I r h
  rw [ha]
  refine wpAny_bind (wpAny_holding (thn (ho pins s σ H _ I h) fun ov s1 ⟨x, H1, I1, r1, q1⟩ => ?_))
  refine wpAny_bind (wpAny_holding (thn (hi pins s1 σ H1 _ I1 q1) fun iv s2 ⟨y, H2, I2, r2, q2⟩ => ?_))
  refine wpAny_bind (wpAny_standAt (wpAny_bind (wpAny_holding (thn (hs pins s2 σ H2 x y v ov iv u _ I2 r1 r2 r q2) fun _ s3 ⟨H3, I3, q3⟩ => ?_))))
  exact wpAny_release ⟨σ, H3, I3, q3⟩
/-- target = value -/
def tAsg (te : TE) (g : TG) : TS := fun D σ H => te σ H fun x H1 => g x σ H1 D.nx
theorem ps_asg {tg e : Expr} {te : TE} {g : TG} (he : PE X e te) (hg : PG X tg g) (hs : swapsWithSole [tg] e pos.line X.env = pure false := by rfl) (hw : swappedStores [tg] e X.env = pure none := by rfl)
    (h1 : (assignEach [tg] X.env).map (·.2) = [assign tg X.env] := by rfl) : PS X (.Assign [tg] e pos) (tAsg te g) := by
  intro pins s σ H D I h
  refine wpAny_Assign_stores (thn (he pins s σ H _ I h) fun v s1 ⟨x, H1, I1, r1, q1⟩ => ?_) hs hw
  rw [h1]
  exact thn (hg pins s1 σ H1 x v _ I1 r1 q1) fun _ s2 q => q
/-- name = value -/
theorem ps_set {i : Nat} {x : Str} {e : Expr} {te : TE} {pos' : Pos} (hN : X.N.Nodup) (hi : X.N[i]? = some x) (hx : Loc X.env.scope x) (he : PE X e te) (hs : swapsWith e (some (.Name x pos')) pos.line X.env = pure false := by rfl) (hf : X.fn x = true ∨ X.env.scope.names.lookup x = some .local := by first | exact .inl rfl | exact .inr rfl | assumption) :
    PS X (.Assign [.Name x pos'] e pos) (tAsg te (gName i)) := by
  intro pins s σ H D I h
  refine wpAny_Assign_Name (thn (he pins s σ H _ I h) fun v s1 ⟨y, H1, I1, r1, q1⟩ => ?_) hs
  exact store_ok I1 hN hi hx r1 (fun s2 I2 => ⟨_, H1, I2, q1⟩) hf
/-- name op= e -/
def tAug (i : Nat) (te : TE) (ti : TIp) : TS := fun D σ H => ∃ x, σ[i]? = some (some x) ∧ te σ H fun y H1 => ti x y H1 fun z H2 => D.nx (σ.set i (some z)) H2
theorem ps_aug {i : Nat} {x : Str} {e : Expr} {te : TE} {op : Operator} {ti : TIp} {pos' : Pos} (hN : X.N.Nodup) (hi : X.N[i]? = some x) (hx : Loc X.env.scope x) (he : PE X e te) (ho : PIp X op ti) (hf : X.fn x = true ∨ X.env.scope.names.lookup x = some .local := by first | exact .inl rfl | exact .inr rfl | assumption) :
    PS X (.AugAssign (.Name x pos') op e pos) (tAug i te ti) := by
  intro pins s σ H D I h
  obtain ⟨v, e1, h⟩ := h
  obtain ⟨m, hn, hl⟩ := I.loc
  have vis : Vis X.env.scope x := by rcases hx with k | k; exact .inl k; exact .inr (.inl k)
  obtain ⟨u, r, l⟩ := hl i x v hi e1 vis
  refine wpAny_AugAssign_Name ?_
  have go : wpAny (model X.prog X.w) X.A (eval e X.env) (fun w s₂ => wpAny (model X.prog X.w) X.A (inplaceOp op u w) (fun r s₃ => wpAny (model X.prog X.w) X.A (storeName X.env x r) (fun _ => SP X pins D .next) X.xe s₃) X.xe s₂) X.xe s := by
    refine thn (he pins s σ H _ I h) fun w s1 ⟨y, H1, I1, r1, q1⟩ => ?_
    refine thn (ho pins s1 σ H1 v y u w _ I1 r r1 q1) fun z s2 ⟨zv, H2, I2, r2, q2⟩ => ?_
    exact store_ok I2 hN hi hx r2 (fun s3 I3 => ⟨_, H2, I3, q2⟩) hf
  rcases l with ⟨hk, hm⟩ | ⟨hk, c, hc, hcell⟩
  · exact wpAny_loadName_local I.ok.kind hk hn hm go
  · rcases hk with hk | hk
    · exact wpAny_loadName_cell I.ok.kind hk hc hcell go
    · rcases hx with k | k
      · have : X.env.scope.names.lookup x = some .free := hk
        rw [k] at this; cases this
      · have : X.env.scope.names.lookup x = some .free := hk
        rw [k] at this; cases this
end

/-! ### while -/
section
variable {X : Cx} {pos : Pos}
/-- the invariant W with its measure -/
def tWhile (c : TT) (tb : TS) : TS := fun D σ H => ∃ W : Nat → St → Hp → Prop, (∃ m, W m σ H) ∧ ∀ m σ H, W m σ H →
  c σ H fun b H1 => if b = true then ∃ N : St → Hp → Prop, (∀ σ' H', N σ' H' → ∃ m', m' < m ∧ W m' σ' H') ∧ tb { D with nx := N, ct := N, bk := D.nx } σ H1 else D.nx σ H1
theorem ps_while {c : Expr} {body : List Stmt} {tc : TT} {tb : TS} (hp : PassesOwn (model X.prog X.w) X.A X.env X.xe) (hc : PT X c tc) (hb : PSs X body tb) : PS X (.While c body [] pos) (tWhile tc tb) := by
  intro pins s σ H D I h
  obtain ⟨W, ⟨m0, w0⟩, turn⟩ := h
  refine wpAny_While (codeAny_whileLoop (fun n s' => ∃ σ' H', Inv X pins σ' H' s' ∧ W n σ' H') ?_ m0 ⟨σ, H, I, w0⟩)
  rintro n s1 ⟨σ1, H1, I1, w1⟩
  refine wpAny_passesOwn hp (thn (hc pins s1 σ1 H1 _ I1 (turn n σ1 H1 w1)) fun b s2 ⟨H2, I2, q2⟩ => ?_)
  cases b with
  | true =>
    obtain ⟨N, hN, q2⟩ := q2
    rw [if_pos rfl]
    refine wpAny_passesOwn hp (thn (hb pins s2 σ1 H2 _ I2 q2) fun f s3 q3 => ?_)
    cases f with
    | next =>
      obtain ⟨σ3, H3, I3, n3⟩ := q3
      obtain ⟨m', hm, w3⟩ := hN σ3 H3 n3
      exact ⟨m', hm, σ3, H3, I3, w3⟩
    | cont =>
      obtain ⟨σ3, H3, I3, n3⟩ := q3
      obtain ⟨m', hm, w3⟩ := hN σ3 H3 n3
      exact ⟨m', hm, σ3, H3, I3, w3⟩
    | brk => exact q3
    | ret v => exact q3
  | false =>
    rw [if_neg Bool.false_ne_true]
    exact wpAny_execs_nil ⟨σ1, H2, I2, q2⟩
end

/-! ### what a loop or a comprehension walks -/
/-- at turn i: it yields x (the heap may grow), or it stops -/
structure It where
  go : Nat → Hp → Prop
  yld : Nat → Hp → V → Hp → Prop
  stop : Nat → Hp → Prop
/-- the iterator's own objects may turn: they are not the frame's, not pinned, younger than the entry (or a comprehension's own) -/
def FpOk (X : Cx) (pins : List (Addr × Obj)) (H : Hp) (b : Addr) : Prop :=
  H b = none ∧ b ≠ X.env.locals ∧ b ∉ X.fs ∧ (b ∈ X.ex ∨ X.s₀.heap.objs.size ≤ b) ∧ (∀ x c, X.env.cells.lookup x = some c → c ≠ b) ∧ ∀ p ∈ X.pn ++ pins, p.1 ≠ b
theorem Inv.fpOk {X : Cx} {pins : List (Addr × Obj)} {σ : St} {H H' : Hp} {s : Shared} {b : Addr} (I : Inv X pins σ H s) (hb : s.heap.objs.size ≤ b) (hn : H' b = none) : FpOk X pins H' b := by
  refine ⟨hn, Nat.ne_of_gt (Nat.lt_of_lt_of_le I.lt hb), I.nofs hb, .inr (Nat.le_trans I.sz hb), fun x c e z => ?_, fun p hp z => ?_⟩
  · obtain ⟨v, q⟩ := I.cell x c e
    exact absurd (Nat.lt_of_lt_of_le q.lt (by rw [z]; exact hb)) (Nat.lt_irrefl _)
  · exact absurd (Nat.lt_of_lt_of_le (Heap.lt_size (I.pin p hp).1) (by rw [z]; exact hb)) (Nat.lt_irrefl _)
structure Turn (P : Program) (w : World) (K : PySem.W.Frag) (tg : Expr) (J : It) (fp : List Addr) (it : Addr) (tn : Nat → Heap → Prop) : Prop where
  mem : it ∈ fp
  obj : ∀ i h, tn i h → ∀ b ∈ fp, ∃ o, h.get? b = some o ∧ ∀ v, o.data ≠ .cell v
  keep : ∀ i h h', tn i h → (∀ b ∈ fp, ∀ o, h.get? b = some o → h'.get? b = some o) → tn i h'
  item : ∀ (X : Cx), X.prog = P → X.w = w → X.K = K → X.calm = true → ∀ (i : Nat) (pins : List (Addr × Obj)) (s : Shared) (σ : St) (H : Hp) (E : Value → Shared → Prop), Inv X pins σ H s → (∀ b ∈ fp, FpOk X pins H b) → tn i s.heap → J.go i H →
    wpAny (model P w) X.A (pyNext (.ref it)) (fun r s1 => ∃ u, r = some u ∧
      wpAny (model P w) X.A (letOwnedTupleGo tg (.ref it) u) (fun _ s2 => ∃ x H', Inv X pins σ H' s2 ∧ RelV x u ∧ J.yld i H x H' ∧ tn (i + 1) s2.heap ∧ ∀ b ∈ fp, H' b = none) E s1) E s
  done : ∀ (X : Cx), X.prog = P → X.w = w → X.K = K → X.calm = true → ∀ (i : Nat) (pins : List (Addr × Obj)) (s : Shared) (σ : St) (H : Hp) (E : Value → Shared → Prop), Inv X pins σ H s → (∀ b ∈ fp, FpOk X pins H b) → tn i s.heap → J.stop i H →
    wpAny (model P w) X.A (pyNext (.ref it)) (fun r s1 => r = none ∧ Inv X pins σ H s1) E s
  self : ∀ (A : Around) (i : Nat) (s : Shared) (Q : Value → Shared → Prop) (E : Value → Shared → Prop), tn i s.heap → Q (.ref it) s → wpAny (model P w) A (pyIter (.ref it)) Q E s
abbrev TI := St → Hp → (It → Hp → Prop) → Prop
/-- an iterator has come -/
def PIE (X : Cx) (pins : List (Addr × Obj)) (σ : St) (tg : Expr) (R : It → Hp → Prop) (itv : Value) (s2 : Shared) : Prop :=
  ∃ (it : Addr) (fp : List Addr) (tn : Nat → Heap → Prop) (J : It) (H' : Hp), itv = .ref it ∧ Inv X pins σ H' s2 ∧ Turn X.prog X.w X.K tg J fp it tn ∧ tn 0 s2.heap ∧ (∀ b ∈ fp, FpOk X pins H' b) ∧ R J H'
def PI (X : Cx) (tg iter : Expr) (wi : TI) : Prop :=
  ∀ (pins : List (Addr × Obj)) (s : Shared) (σ : St) (H : Hp) (R : It → Hp → Prop), Inv X pins σ H s → wi σ H R →
    wpAny (model X.prog X.w) X.A (eval iter X.env) (fun v s1 => wpAny (model X.prog X.w) X.A (pyIter v) (PIE X pins σ tg R) X.xe s1) X.xe s

/-- the step ahead of the store is nothing for an iterator that keeps no tuple -/
theorem go_of {M : Model} {A : Around} {E : Value → Shared → Prop} {s : Shared} {tg : Expr} {it : Addr} {u : Value} {o : Obj} {n : String} {vs : Array Value} {Q : Unit → Shared → Prop} (ho : s.heap.get? it = some o) (hc : o.cls = .type n) (hd : o.data = .fields vs)
    (hn : ["enumerate", "zip", "dict_itemiterator", "dict_reverseitemiterator", "odict_iterator", "itertools.zip_longest", "itertools.pairwise"].contains n = false) (hQ : Q () s) : wpAny M A (letOwnedTupleGo tg (.ref it) u) Q E s := by
  unfold letOwnedTupleGo
  cases tg <;> first
    | exact wpAny_pure hQ
    | (cases u <;> first
        | exact wpAny_pure hQ
        | (refine wpAny_bind (wpAny_load ho ?_)
           rw [hc, hd]
           show wpAny M A (if (["enumerate", "zip", "dict_itemiterator", "dict_reverseitemiterator", "odict_iterator", "itertools.zip_longest", "itertools.pairwise"].contains n && vs[0]? == some (rawInt _)) = true then _ else _) Q E s
           rw [if_neg (by intro h; rw [hn, Bool.false_and] at h; cases h)]
           exact wpAny_pure hQ))

/-- the list at a, as it stands at each turn (a loop may append to it) -/
def Itl (K : PySem.W.Frag) (a : Addr) : It :=
  ⟨fun i H => ∃ xs x, SqL K H a xs ∧ xs[i]? = some x, fun i H x H' => H' = H ∧ ∀ xs, SqL K H a xs → xs[i]? = some x, fun i H => ∃ xs, SqL K H a xs ∧ xs.length ≤ i⟩
def Itt (K : PySem.W.Frag) (a : Addr) : It :=
  ⟨fun i H => ∃ xs x, SqT K H a xs ∧ xs[i]? = some x, fun i H x H' => H' = H ∧ ∀ xs, SqT K H a xs → xs[i]? = some x, fun i H => ∃ xs, SqT K H a xs ∧ xs.length ≤ i⟩
/-- lo, lo + 1, .. (n of them) -/
def Itr (lo : Int) (n : Nat) : It := ⟨fun i _ => i < n, fun i H x H' => H' = H ∧ x = .int (lo + i), fun i _ => n ≤ i⟩
theorem turn_list {P : Program} {w : World} {K : PySem.W.Frag} {tg : Expr} (a it : Addr) : Turn P w K tg (Itl K a) [it] it (fun i h => h.IsListIter it a i) where
  mem := by simp
  obj := fun i h st b hb => by
    have e : b = it := by simpa using hb
    subst e
    obtain ⟨o, e, c, d⟩ := st
    exact ⟨o, e, fun v z => by rw [d] at z; cases z⟩
  keep := fun i h h' st k => st.at fun o e => k it (by simp) o e
  item := by
    intro X hP hw hK hc i pins s σ H E I hf st hg
    subst hP hw hK
    obtain ⟨xs, x, hq, hx⟩ := hg
    obtain ⟨its, rv, p, hz⟩ := I.list hq
    obtain ⟨u, hu, ru⟩ := rv.get hx
    obtain ⟨f0, f1, f2, f3, f4, f5⟩ := hf it (by simp)
    refine wpAny_pyNext_list_item st p.isList (x := u) (by simpa using hu) fun h' st' sb => ?_
    have I1 : Inv X pins σ H { s with heap := h' } := I.turned (t' := s.toks) (fun b o hb e => (sb.2 b hb).trans e) f0 f1 f3 f4 f5
    obtain ⟨o, e, c, d⟩ := id st'
    exact ⟨u, rfl, go_of (s := { s with heap := h' }) e c d (by decide) ⟨x, H, I1, ru, ⟨rfl, fun ys hy => by rw [I.list_inj hy hq]; exact hx⟩, st', fun b hb => (hf b hb).1⟩⟩
  done := by
    intro X hP hw hK hc i pins s σ H E I hf st hg
    subst hP hw hK
    obtain ⟨xs, hq, hx⟩ := hg
    obtain ⟨its, rv, p, hz⟩ := I.list hq
    obtain ⟨f0, f1, f2, f3, f4, f5⟩ := hf it (by simp)
    have hl := rv.length
    exact wpAny_pyNext_list_end (I.ok.hd hc) st p.isList (by simp; omega) fun h' eb => ⟨rfl, I.turned (t' := s.toks) (fun b o hb e => eb b o hb e) f0 f1 f3 f4 f5⟩
  self := fun _ _ _ _ _ st h => wpAny_pyIter_listiter st h
theorem turn_range {P : Program} {w : World} {K : PySem.W.Frag} {tg : Expr} (it : Addr) (lo : Int) (n : Nat) : Turn P w K tg (Itr lo n) [it] it (fun i h => IsRangeIter h it (lo + (i : Nat) * 1) ((n : Int) - (i : Nat)) 1) where
  mem := by simp
  obj := fun i h st b hb => by
    have e : b = it := by simpa using hb
    subst e
    exact ⟨_, st, fun v z => by
      have z' : Data.fields _ = Data.cell v := z
      cases z'⟩
  keep := fun i h h' st k => k it (by simp) _ st
  item := by
    intro X hP hw hK hc i pins s σ H E I hf st hg
    subst hP hw hK
    obtain ⟨f0, f1, f2, f3, f4, f5⟩ := hf it (by simp)
    have W := Walks.range (prog := X.prog) (w := X.w) (I.ok.hd hc) it lo 1 n
    refine W.item i s _ _ hg st fun v h' tk hv st' kk => ?_
    obtain ⟨t, rfl⟩ := hv
    have I1 : Inv X pins σ H { s with heap := h', toks := tk } := I.turned (fun b o hb e => kk b o (by simpa using hb) e) f0 f1 f3 f4 f5
    refine ⟨_, rfl, go_of (s := { s with heap := h', toks := tk }) (n := "range_iterator") st' rfl rfl (by decide) ⟨.int (lo + i), H, I1, ⟨t, ?_⟩, ⟨rfl, rfl⟩, st', fun b hb => (hf b hb).1⟩⟩
    rw [Int.mul_one]
  done := by
    intro X hP hw hK hc i pins s σ H E I hf st hg
    subst hP hw hK
    obtain ⟨f0, f1, f2, f3, f4, f5⟩ := hf it (by simp)
    exact wpAny_pyNext_range_end (I.ok.hd hc) st (by have : n ≤ i := hg; omega) fun h' eb => ⟨rfl, I.turned (t' := s.toks) (fun b o hb e => eb b o hb e) f0 f1 f3 f4 f5⟩
  self := fun _ _ _ _ _ st h => wpAny_pyIter_rangeiter st h
end L2

namespace L2
open PySem PySem.Spec PyProof.Rows
section
variable {X : Cx} {tg : Expr}
def iList (K : PySem.W.Frag) (tl : TE) : TI := fun σ H R => tl σ H fun x H1 => ∃ a, x = .ref a ∧ (∃ xs, SqL K H1 a xs) ∧ R (Itl K a) H1
def iTup (K : PySem.W.Frag) (tl : TE) : TI := fun σ H R => tl σ H fun x H1 => ∃ a, x = .ref a ∧ (∃ xs, SqT K H1 a xs) ∧ R (Itt K a) H1
theorem pi_list {l : Expr} {tl : TE} (hl : PE X l tl) : PI X tg l (iList X.K tl) := by
  intro pins s σ H R I h
  refine thn (hl pins s σ H _ I h) fun v s1 ⟨x, H1, I1, r1, q1⟩ => ?_
  obtain ⟨a, e, ⟨xs, hq⟩, q⟩ := q1
  subst e
  cases r1
  obtain ⟨its, rv, p, hz⟩ := I1.list hq
  refine wpAny_pyIter_list p.isList ?_
  refine ⟨s1.heap.objs.size, [s1.heap.objs.size], _, _, H1, rfl, I1.kept (t' := s1.toks) fun b o e => Heap.get?_push_of_some _ e, turn_list a _, ⟨_, Heap.get?_push_size _ rfl, rfl, rfl⟩, fun b hb => ?_, q⟩
  have e : b = s1.heap.objs.size := by simpa using hb
  subst e
  exact I1.fpOk (Nat.le_refl _) (I1.hok.fresh (Nat.le_refl _))
/-- a range object just made, walked -/
theorem range_it {pins : List (Addr × Obj)} {σ : St} {H : Hp} {s : Shared} {R : It → Hp → Prop} {E : Value → Shared → Prop} {lo hi : Int} {t u v : Tok} {tk : Nat} (I : Inv X pins σ H s) (h1 : -(2 ^ 62) ≤ lo) (h2 : lo < 2 ^ 62) (h3 : -(2 ^ 62) ≤ hi) (h4 : hi < 2 ^ 62)
    (q : R (Itr lo (hi - lo).toNat) H) : wpAny (model X.prog X.w) X.A (pyIter (.ref s.heap.objs.size)) (PIE X pins σ tg R) E { s with heap := s.heap.push { cls := .type "range", data := .fields #[.int lo t, .int hi u, .int 1 v] }, toks := tk } := by
  refine wpAny_pyIter_range (IsRange.new ..) (small_one h1 h2 h3 h4) ?_
  have I1 : Inv X pins σ H { s with heap := s.heap.push { cls := .type "range", data := .fields #[.int lo t, .int hi u, .int 1 v] }, toks := tk } := I.kept fun b o e => Heap.get?_push_of_some _ e
  refine ⟨(s.heap.push { cls := .type "range", data := .fields #[.int lo t, .int hi u, .int 1 v] }).objs.size, [(s.heap.push { cls := .type "range", data := .fields #[.int lo t, .int hi u, .int 1 v] }).objs.size], _, _, H, rfl,
    I1.kept (t' := tk) fun b o e => Heap.get?_push_of_some _ e, turn_range _ lo (hi - lo).toNat, ?_, fun b hb => ?_, q⟩
  · have e1 : lo + ((0 : Nat) : Int) * 1 = lo := by simp
    have e2 : (((hi - lo).toNat : Nat) : Int) - ((0 : Nat) : Int) = Builtin.Range.rangeSize lo hi 1 := by rw [rangeSize_one]; split <;> omega
    show IsRangeIter _ _ (lo + ((0 : Nat) : Int) * 1) ((((hi - lo).toNat : Nat) : Int) - ((0 : Nat) : Int)) 1
    rw [e1, e2]
    exact Heap.get?_push_size _ rfl
  · have e : b = (s.heap.push { cls := .type "range", data := .fields #[.int lo t, .int hi u, .int 1 v] }).objs.size := by simpa using hb
    subst e
    exact I1.fpOk (Nat.le_refl _) (I1.hok.fresh (Nat.le_refl _))
def iRng1 (ta : TA) : TI := fun σ H R => ta σ H fun vs H1 => ∃ j : Int, vs = [.int j] ∧ -(2 ^ 62) ≤ j ∧ j < 2 ^ 62 ∧ R (Itr 0 j.toNat) H1
def iRng2 (ta : TA) : TI := fun σ H R => ta σ H fun vs H1 => ∃ i j : Int, vs = [.int i, .int j] ∧ (-(2 ^ 62) ≤ i ∧ i < 2 ^ 62 ∧ -(2 ^ 62) ≤ j ∧ j < 2 ^ 62) ∧ R (Itr i (j - i).toNat) H1
theorem pi_range1 {a : Expr} {ta : TA} {p pos : Pos} (hg : Gl X "range") (hm : X.mg "range" = none) (ha : PA X [a] ta) (hs : starEach [a] X.env = [(false, eval a X.env)] := by rfl) : PI X tg (.Call (.Name "range" p) [a] [] pos) (iRng1 ta) := by
  intro pins s σ H R I h
  refine Call_ (ld_blt I hg hm boot_range (PyProof.Rows.callWith_type1 (thn (ha pos pins s σ H _ I h) fun us s1 ⟨vs, H1, I1, r1, q1⟩ => ?_) hs rfl))
  obtain ⟨j, e, q1, q2, q⟩ := q1
  subst e
  cases r1 with
  | cons r rr =>
    cases rr
    obtain ⟨t, rfl⟩ := r
    exact call_range_1 (range_it I1 (by omega) (by omega) q1 q2 (by simpa using q))
/-! ### for -/
/-- W: the invariant by the turn and a measure; N: what the body is to reach -/
def tFor (wi : TI) (g : TG) (tb : TS) : TS := fun D σ H => wi σ H fun J H1 => ∃ W : Nat → Nat → St → Hp → Prop, (∃ m, W 0 m σ H1) ∧ ∀ i m σ H, W i m σ H →
  (J.stop i H ∧ D.nx σ H) ∨ (J.go i H ∧ ∃ N : St → Hp → Prop, (∀ σ' H', N σ' H' → ∃ m', m' < m ∧ W (i + 1) m' σ' H') ∧ ∀ x H', J.yld i H x H' → g x σ H' fun σ2 H2 => tb { D with nx := N, ct := N, bk := D.nx } σ2 H2)
/-- the records at fp as they stand -/
def pinsAt (fp : List Addr) (h : Heap) : List (Addr × Obj) := fp.filterMap fun b => (h.get? b).map fun o => (b, o)
theorem mem_pinsAt {fp : List Addr} {h : Heap} {b : Addr} {o : Obj} (hb : b ∈ fp) (e : h.get? b = some o) : (b, o) ∈ pinsAt fp h := List.mem_filterMap.mpr ⟨b, hb, by rw [e]; rfl⟩
theorem of_pinsAt {fp : List Addr} {h : Heap} {p : Addr × Obj} (hp : p ∈ pinsAt fp h) : p.1 ∈ fp ∧ h.get? p.1 = some p.2 := by
  obtain ⟨b, hb, e⟩ := List.mem_filterMap.mp hp
  cases q : h.get? b with
  | none => rw [q] at e; cases e
  | some o =>
    rw [q] at e
    have e' : (b, o) = p := Option.some.inj e
    subst e'
    exact ⟨hb, q⟩
theorem Inv.pinned {pins : List (Addr × Obj)} {σ : St} {H : Hp} {s : Shared} {fp : List Addr} (I : Inv X pins σ H s) (hf : ∀ b ∈ fp, FpOk X pins H b) (ho : ∀ b ∈ fp, ∃ o, s.heap.get? b = some o ∧ ∀ v, o.data ≠ .cell v) : Inv X (pins ++ pinsAt fp s.heap) σ H s :=
  I.pins_of fun p hp => (List.mem_append.mp hp).elim (fun z => I.pin p (List.mem_append_right _ z)) fun z => by
    obtain ⟨hb, e⟩ := of_pinsAt z
    obtain ⟨f0, f1, f2, _⟩ := hf p.1 hb
    obtain ⟨o, e', d⟩ := ho p.1 hb
    rw [e] at e'; cases e'
    exact ⟨e, f0, f1, f2, d⟩
theorem Inv.unpinned {pins pl : List (Addr × Obj)} {σ : St} {H : Hp} {s : Shared} (I : Inv X (pins ++ pl) σ H s) : Inv X pins σ H s := I.pins_of fun p hp => I.pin p (List.mem_append_right _ (List.mem_append_left _ hp))
theorem ps_for {iter : Expr} {body : List Stmt} {wi : TI} {g : TG} {tb : TS} {pos : Pos} (hp : PassesOwn (model X.prog X.w) X.A X.env X.xe) (hc : X.calm = true) (hi : PI X tg iter wi) (hg : PG X tg g) (hb : PSs X body tb)
    (hs : ∀ x, foldedSetIterable iter X.env x = pure x := by intro _; rfl) : PS X (.For tg iter body [] pos) (tFor wi g tb) := by
  intro pins s σ H D I h
  refine wpAny_For (thn (hi pins s σ H _ I h) fun v s1 h1 => thn h1 fun itv s2 h2 => ?_) hs
  obtain ⟨it, fp, tn, J, H2, e, I2, T, st2, f2, W, ⟨m0, w0⟩, turn⟩ := h2
  subst e
  -- what stays true of the iterator's objects through the loop
  have stat : ∀ {H' : Hp}, (∀ b ∈ fp, H' b = none) → ∀ b ∈ fp, FpOk X pins H' b := fun hn b hb => ⟨hn b hb, (f2 b hb).2⟩
  refine codeAny_forLoop_any (fun n s' => ∃ i σ' H', Inv X pins σ' H' s' ∧ tn i s'.heap ∧ (∀ b ∈ fp, H' b = none) ∧ W i n σ' H') ?_ m0 ⟨0, σ, H2, I2, st2, fun b hb => (f2 b hb).1, w0⟩
  rintro n s3 ⟨i, σ3, H3, I3, st3, fr3, w3⟩
  rcases turn i n σ3 H3 w3 with ⟨stop, qn⟩ | ⟨go, N, hN, step⟩
  · refine wpAny_passesOwn hp (thn (T.done X rfl rfl rfl hc i pins s3 σ3 H3 X.xe I3 (stat fr3) st3 stop) fun r s4 ⟨hr, I4⟩ => ?_)
    subst hr
    exact wpAny_execs_nil ⟨σ3, H3, I4, qn⟩
  · refine wpAny_passesOwn hp (thn (T.item X rfl rfl rfl hc i pins s3 σ3 H3 X.xe I3 (stat fr3) st3 go) fun r s4 ⟨u, hr, h4⟩ => ?_)
    subst hr
    refine wpAny_passesOwn hp (thn h4 fun _ s5 ⟨x, H5, I5, r5, y5, st5, fr5⟩ => ?_)
    have I5' := I5.pinned (stat fr5) (T.obj _ _ st5)
    refine wpAny_passesOwn hp (thn (hg _ s5 σ3 H5 x u _ I5' r5 (step x H5 y5)) fun _ s6 ⟨σ6, H6, I6, q6⟩ => ?_)
    refine wpAny_passesOwn hp (thn (hb _ s6 σ6 H6 _ I6 q6) fun f s7 q7 => ?_)
    have again : ∀ {σ7 : St} {H7 : Hp}, Inv X (pins ++ pinsAt fp s5.heap) σ7 H7 s7 → N σ7 H7 → ∃ m, m < n ∧ ∃ i σ' H', Inv X pins σ' H' s7 ∧ tn i s7.heap ∧ (∀ b ∈ fp, H' b = none) ∧ W i m σ' H' := fun {σ7 H7} I7 n7 => by
      obtain ⟨m', hm, w7⟩ := hN σ7 H7 n7
      refine ⟨m', hm, i + 1, σ7, H7, I7.unpinned, T.keep _ _ _ st5 fun b hb o e => (I7.pin (b, o) (List.mem_append_right _ (List.mem_append_right _ (mem_pinsAt hb e)))).1, fun b hb => ?_, w7⟩
      obtain ⟨o, e, d⟩ := T.obj _ _ st5 b hb
      exact (I7.pin (b, o) (List.mem_append_right _ (List.mem_append_right _ (mem_pinsAt hb e)))).2.1
    cases f with
    | next => obtain ⟨σ7, H7, I7, n7⟩ := q7; exact again I7 n7
    | cont => obtain ⟨σ7, H7, I7, n7⟩ := q7; exact again I7 n7
    | brk => obtain ⟨σ7, H7, I7, q7⟩ := q7; exact ⟨σ7, H7, I7.unpinned, q7⟩
    | ret v => obtain ⟨x7, σ7, H7, I7, r7, q7⟩ := q7; exact ⟨x7, σ7, H7, I7.unpinned, r7, q7⟩
end

/-! ### the forms one uses -/
/-- over a list that the body leaves as it is -/
theorem for_list {K : PySem.W.Frag} {a : Addr} {xs : List V} {g : TG} {tb : TS} {D : Ends} {σ : St} {H : Hp} (Pv : Nat → St → Hp → Prop) (h0 : Pv 0 σ H) (hl : ∀ i σ H, i ≤ xs.length → Pv i σ H → SqL K H a xs)
    (hs : ∀ i x σ H, xs[i]? = some x → Pv i σ H → g x σ H fun σ2 H2 => tb { D with nx := Pv (i + 1), ct := Pv (i + 1), bk := D.nx } σ2 H2) (hd : ∀ σ H, Pv xs.length σ H → D.nx σ H) :
    ∃ W : Nat → Nat → St → Hp → Prop, (∃ m, W 0 m σ H) ∧ ∀ i m σ H, W i m σ H →
      ((Itl K a).stop i H ∧ D.nx σ H) ∨ ((Itl K a).go i H ∧ ∃ N : St → Hp → Prop, (∀ σ' H', N σ' H' → ∃ m', m' < m ∧ W (i + 1) m' σ' H') ∧ ∀ x H', (Itl K a).yld i H x H' → g x σ H' fun σ2 H2 => tb { D with nx := N, ct := N, bk := D.nx } σ2 H2) := by
  refine ⟨fun i m σ H => m = xs.length - i ∧ i ≤ xs.length ∧ Pv i σ H, ⟨xs.length, by simp, Nat.zero_le _, h0⟩, ?_⟩
  rintro i m σ H ⟨rfl, hi, p⟩
  have q := hl i σ H hi p
  by_cases hlt : i < xs.length
  · refine .inr ⟨⟨xs, xs[i], q, by simp [hlt]⟩, Pv (i + 1), fun σ' H' p' => ⟨xs.length - (i + 1), by omega, rfl, hlt, p'⟩, fun x H' y => ?_⟩
    obtain ⟨e, y⟩ := y
    subst e
    exact hs i x σ _ (y xs q) p
  · have e : i = xs.length := by omega
    subst e
    exact .inl ⟨⟨xs, q, Nat.le_refl _⟩, hd σ H p⟩
theorem for_range {lo : Int} {n : Nat} {g : TG} {tb : TS} {D : Ends} {σ : St} {H : Hp} (Pv : Nat → St → Hp → Prop) (h0 : Pv 0 σ H)
    (hs : ∀ i σ H, i < n → Pv i σ H → g (.int (lo + i)) σ H fun σ2 H2 => tb { D with nx := Pv (i + 1), ct := Pv (i + 1), bk := D.nx } σ2 H2) (hd : ∀ σ H, Pv n σ H → D.nx σ H) :
    ∃ W : Nat → Nat → St → Hp → Prop, (∃ m, W 0 m σ H) ∧ ∀ i m σ H, W i m σ H →
      ((Itr lo n).stop i H ∧ D.nx σ H) ∨ ((Itr lo n).go i H ∧ ∃ N : St → Hp → Prop, (∀ σ' H', N σ' H' → ∃ m', m' < m ∧ W (i + 1) m' σ' H') ∧ ∀ x H', (Itr lo n).yld i H x H' → g x σ H' fun σ2 H2 => tb { D with nx := N, ct := N, bk := D.nx } σ2 H2) := by
  refine ⟨fun i m σ H => m = n - i ∧ i ≤ n ∧ Pv i σ H, ⟨n, by simp, Nat.zero_le _, h0⟩, ?_⟩
  rintro i m σ H ⟨rfl, hi, p⟩
  by_cases hlt : i < n
  · refine .inr ⟨hlt, Pv (i + 1), fun σ' H' p' => ⟨n - (i + 1), by omega, rfl, hlt, p'⟩, fun x H' y => ?_⟩
    obtain ⟨e, y⟩ := y
    subst e y
    exact hs i σ _ hlt p
  · have e : i = n := by omega
    subst e
    exact .inl ⟨Nat.le_refl _, hd σ H p⟩
end L2

namespace L2
open PySem PySem.Spec PyProof.Rows

abbrev R2 := V → V → Hp → VK → Prop
/-- a two-place operation on values: f is binaryOp op, inplaceOp op or compareOp op -/
def OpR (X : Cx) (f : Value → Value → Sem Value) (r : R2) : Prop :=
  ∀ (pins : List (Addr × Obj)) (s : Shared) (σ : St) (H : Hp) (x y : V) (v u : Value) (Q : VK), Inv X pins σ H s → RelV x v → RelV y u → r x y H Q →
    wpAny (model X.prog X.w) X.A (f v u) (EP X pins σ Q) X.xe s
/-- a call of a value that is known (a builtin, a type) with values -/
def CallR (X : Cx) (f : Value) (r : List V → Hp → VK → Prop) : Prop :=
  ∀ (pins : List (Addr × Obj)) (s : Shared) (σ : St) (H : Hp) (xs : List V) (us : List Value) (Q : VK), Inv X pins σ H s → Vals xs us → r xs H Q →
    wpAny (model X.prog X.w) X.A (call f us) (EP X pins σ Q) X.xe s
/-- a value's truth -/
def TruR (X : Cx) (r : V → Hp → (Bool → Hp → Prop) → Prop) : Prop :=
  ∀ (pins : List (Addr × Obj)) (s : Shared) (σ : St) (H : Hp) (x : V) (v : Value) (Q : Bool → Hp → Prop), Inv X pins σ H s → RelV x v → r x H Q →
    wpAny (model X.prog X.w) X.A (truthy v) (TP X pins σ Q) X.xe s

def tOp (r : R2) (ta tb : TE) : TE := fun σ H Q => ta σ H fun x H1 => tb σ H1 fun y H2 => r x y H2 Q
def tUn (r : V → Hp → VK → Prop) (ta : TE) : TE := fun σ H Q => ta σ H fun x H1 => r x H1 Q
/-- ints in, under C, and a value out -/
def rI (C : Int → Int → Prop) (g : Int → Int → V) : R2 := fun x y H Q => ∃ i j, x = .int i ∧ y = .int j ∧ C i j ∧ Q (g i j) H
def rI0 (g : Int → Int → V) : R2 := fun x y H Q => ∃ i j, x = .int i ∧ y = .int j ∧ Q (g i j) H
def rU (g : Int → V) : V → Hp → VK → Prop := fun x H Q => ∃ i, x = .int i ∧ Q (g i) H

section
variable {X : Cx} {a b c : Expr} {ta tb tc : TE} {pos : Pos}

theorem binT (ha : PE X a ta) (hb : PE X b tb) {pins : List (Addr × Obj)} {s : Shared} {σ : St} {H : Hp} {R : V → V → Hp → Prop} (I : Inv X pins σ H s)
    (h : ta σ H fun x H1 => tb σ H1 fun y H2 => R x y H2) {Q : Value → Shared → Prop} {f : Value → Value → Sem Value}
    (hf : ∀ v u s2 x y H2, Inv X pins σ H2 s2 → RelV x v → RelV y u → R x y H2 → wpAny (model X.prog X.w) X.A (f v u) Q X.xe s2) :
    wpAny (model X.prog X.w) X.A (eval a X.env) (fun v s₁ => wpAny (model X.prog X.w) X.A (eval b X.env) (fun u s₂ => wpAny (model X.prog X.w) X.A (f v u) Q X.xe s₂) X.xe s₁) X.xe s := by
  refine thn (ha pins s σ H _ I h) fun v s1 ⟨x, H1, I1, r1, q1⟩ => ?_
  refine thn (hb pins s1 σ H1 _ I1 q1) fun u s2 ⟨y, H2, I2, r2, q2⟩ => ?_
  exact hf v u s2 x y H2 I2 r1 r2 q2

theorem pe_op {op : Operator} {r : R2} (ho : OpR X (binaryOp op) r) (ha : PE X a ta) (hb : PE X b tb) : PE X (.BinOp a op b pos) (tOp r ta tb) := by
  intro pins s σ H Q I h
  exact wpAny_BinOp (binT ha hb I h fun v u s2 x y H2 I2 rx ry q => ho pins s2 σ H2 x y v u Q I2 rx ry q)
/-! ### ints -/
theorem opI {f : Value → Value → Sem Value} {C : Int → Int → Prop} {g : Int → Int → Int}
    (rule : ∀ (i j : Int) (t u : Tok) (s : Shared) (Q : Value → Shared → Prop) (E : Value → Shared → Prop), C i j → Q (.int (g i j) s.toks) { s with toks := s.toks + 1 } → wpAny (model X.prog X.w) X.A (f (.int i t) (.int j u)) Q E s) :
    OpR X f (rI C fun i j => .int (g i j)) := by
  intro pins s σ H x y v u Q I rx ry h
  obtain ⟨i, j, rfl, rfl, hc, q⟩ := h
  obtain ⟨t, rfl⟩ := rx
  obtain ⟨t', rfl⟩ := ry
  exact rule i j t t' s _ _ hc ⟨.int (g i j), H, I.tok _, ⟨_, rfl⟩, q⟩
theorem opI0 {f : Value → Value → Sem Value} {g : Int → Int → Int}
    (rule : ∀ (i j : Int) (t u : Tok) (s : Shared) (Q : Value → Shared → Prop) (E : Value → Shared → Prop), Q (.int (g i j) s.toks) { s with toks := s.toks + 1 } → wpAny (model X.prog X.w) X.A (f (.int i t) (.int j u)) Q E s) :
    OpR X f (rI0 fun i j => .int (g i j)) := by
  intro pins s σ H x y v u Q I rx ry h
  obtain ⟨i, j, rfl, rfl, q⟩ := h
  obtain ⟨t, rfl⟩ := rx
  obtain ⟨t', rfl⟩ := ry
  exact rule i j t t' s _ _ ⟨.int (g i j), H, I.tok _, ⟨_, rfl⟩, q⟩
theorem opB0 {f : Value → Value → Sem Value} {g : Int → Int → Bool}
    (rule : ∀ (i j : Int) (t u : Tok) (s : Shared) (Q : Value → Shared → Prop) (E : Value → Shared → Prop), Q (.bool (g i j)) s → wpAny (model X.prog X.w) X.A (f (.int i t) (.int j u)) Q E s) :
    OpR X f (rI0 fun i j => .bl (g i j)) := by
  intro pins s σ H x y v u Q I rx ry h
  obtain ⟨i, j, rfl, rfl, q⟩ := h
  obtain ⟨t, rfl⟩ := rx
  obtain ⟨t', rfl⟩ := ry
  exact rule i j t t' s _ _ ⟨.bl (g i j), H, I, rfl, q⟩

def CDiv (i j : Int) : Prop := 0 < j ∧ j < 1073741824
def CMul (i j : Int) : Prop := (-(2 ^ 64) < i ∧ i < 2 ^ 64) ∨ (-(2 ^ 64) < j ∧ j < 2 ^ 64)
theorem CMul.ok {i j : Int} (h : CMul i j) : IntMulOk i j := by
  rcases h with ⟨h1, h2⟩ | ⟨h1, h2⟩
  · exact .of_left (intBits_le_64 h1 h2)
  · exact .of_right (intBits_le_64 h1 h2)
theorem op_add : OpR X (binaryOp .Add) (rI0 fun i j => .int (i + j)) := opI0 fun _ _ _ _ _ _ _ q => add_int q
theorem op_mul : OpR X (binaryOp .Mult) (rI CMul fun i j => .int (i * j)) := opI fun _ _ _ _ _ _ _ hc q => mul_int q hc.ok
/-- // by a positive divisor -/
theorem op_fdiv : OpR X (binaryOp .FloorDiv) (rI CDiv fun i j => .int (i / j)) := opI fun i j _ _ _ _ _ hc q => by
  have h1 : (0 : Int) < j := hc.1
  have h2 : j < 1073741824 := hc.2
  exact floordiv_int (by omega) (by rw [Int.fdiv_eq_ediv_of_nonneg i (by omega)]; exact q) (.inl (PyProof.noPylong_small (by omega)))
/-- % by a positive divisor of any size -/
theorem op_mod : OpR X (binaryOp .Mod) (rI (fun _ j => 0 < j) fun i j => .int (i % j)) := opI fun i j _ _ _ _ _ hc q => by
  have h1 : (0 : Int) < j := hc
  exact mod_int' (by omega) (by rw [Int.fmod_eq_emod_of_nonneg i (by omega)]; exact q)
theorem iop_add : OpR X (inplaceOp .Add) (rI0 fun i j => .int (i + j)) := opI0 fun _ _ _ _ _ _ _ q => iadd_int q
/-! ### bools among ints: n += (a < b) -/
end

/-! ### comparisons -/
/-- the scalars that == tells apart as data does -/
def scal : V → V → Bool
  | .non, .non => true | .non, .int _ => true | .int _, .non => true | .non, .bl _ => true | .bl _, .non => true | .non, .str _ => true | .str _, .non => true
  | .int _, .int _ => true | .bl _, .bl _ => true | .str _, .str _ => true | .byt _, .byt _ => true
  | .int _, .str _ => true | .str _, .int _ => true | .bl _, .str _ => true | .str _, .bl _ => true
  | _, _ => false
def rEq : R2 := fun x y H Q => scal x y = true ∧ Q (.bl (decide (x = y))) H
def rNe : R2 := fun x y H Q => scal x y = true ∧ Q (.bl (!decide (x = y))) H

theorem dec_int {i j : Int} : decide (V.int i = V.int j) = (i == j) := by
  rw [Bool.eq_iff_iff]
  simp
theorem dec_bl {i j : Bool} : decide (V.bl i = V.bl j) = (i == j) := by
  rw [Bool.eq_iff_iff]
  simp
theorem dec_str {i j : Str} : decide (V.str i = V.str j) = (i == j) := by
  rw [Bool.eq_iff_iff]
  simp
theorem dec_byt {i j : Array UInt8} : decide (V.byt i = V.byt j) = (i.toList == j.toList) := by
  rw [Bool.eq_iff_iff]
  cases i
  cases j
  simp

section
variable {X : Cx} {a b c : Expr} {ta tb tc : TE} {pos : Pos}
theorem fin_bl {pins : List (Addr × Obj)} {σ : St} {H : Hp} {s : Shared} {Q : VK} {k k' : Bool} (I : Inv X pins σ H s) (q : Q (.bl k) H) (e : k = k') : EP X pins σ Q (.bool k') s := by
  subst e
  exact ⟨.bl k, H, I, rfl, q⟩
theorem op_eq : OpR X (compareOp .Eq) rEq := by
  intro pins s σ H x y v u Q I rx ry h
  obtain ⟨hs, q⟩ := h
  cases x with
  | non =>
    cases rx
    cases y with
    | non => cases ry; exact PySem.EqNone.eq_none_none (fin_bl I q (by simp))
    | bl j => cases ry; exact PySem.EqNone.eq_none_bool (fin_bl I q (by simp))
    | int j => obtain ⟨t', rfl⟩ := ry; exact PySem.EqNone.eq_none_int (fin_bl I q (by simp))
    | str j => obtain ⟨t', rfl⟩ := ry; exact PySem.EqNone.eq_none_str (fin_bl I q (by simp))
    | _ => exact absurd (show false = true from hs) Bool.false_ne_true
  | bl i =>
    cases rx
    cases y with
    | non => cases ry; exact PySem.EqNone.eq_bool_none (fin_bl I q (by simp))
    | bl j => cases ry; exact eq_bool (fin_bl I q dec_bl)
    | str j => obtain ⟨t', rfl⟩ := ry; exact PySem.EqMixed.eq_bool_str (fin_bl I q (by simp))
    | _ => exact absurd (show false = true from hs) Bool.false_ne_true
  | int i =>
    obtain ⟨t, rfl⟩ := rx
    cases y with
    | non => cases ry; exact PySem.EqNone.eq_int_none (fin_bl I q (by simp))
    | int j => obtain ⟨t', rfl⟩ := ry; exact eq_int (fin_bl I q dec_int)
    | str j => obtain ⟨t', rfl⟩ := ry; exact PySem.EqMixed.eq_int_str (fin_bl I q (by simp))
    | _ => exact absurd (show false = true from hs) Bool.false_ne_true
  | str i =>
    obtain ⟨t, rfl⟩ := rx
    cases y with
    | non => cases ry; exact PySem.EqNone.eq_str_none (fin_bl I q (by simp))
    | bl j => cases ry; exact PySem.EqMixed.eq_str_bool (fin_bl I q (by simp))
    | int j => obtain ⟨t', rfl⟩ := ry; exact PySem.EqMixed.eq_str_int (fin_bl I q (by simp))
    | str j => obtain ⟨t', rfl⟩ := ry; exact eq_str (fin_bl I q dec_str)
    | _ => exact absurd (show false = true from hs) Bool.false_ne_true
  | byt i =>
    obtain ⟨t, rfl⟩ := rx
    cases y with
    | byt j => obtain ⟨t', rfl⟩ := ry; exact PySem.W.eq_bytes (fin_bl I q dec_byt)
    | _ => exact absurd (show false = true from hs) Bool.false_ne_true
  | _ => cases y <;> exact absurd (show false = true from hs) Bool.false_ne_true
theorem op_ne : OpR X (compareOp .NotEq) rNe := by
  intro pins s σ H x y v u Q I rx ry h
  obtain ⟨hs, q⟩ := h
  cases x with
  | non =>
    cases rx
    cases y with
    | non => cases ry; exact PySem.EqNone.ne_none_none (fin_bl I q (by simp))
    | bl j => cases ry; exact PySem.EqNone.ne_none_bool (fin_bl I q (by simp))
    | int j => obtain ⟨t', rfl⟩ := ry; exact PySem.EqNone.ne_none_int (fin_bl I q (by simp))
    | str j => obtain ⟨t', rfl⟩ := ry; exact PySem.EqNone.ne_none_str (fin_bl I q (by simp))
    | _ => exact absurd (show false = true from hs) Bool.false_ne_true
  | bl i =>
    cases rx
    cases y with
    | non => cases ry; exact PySem.EqNone.ne_bool_none (fin_bl I q (by simp))
    | bl j => cases ry; exact ne_bool (fin_bl I q (congrArg not dec_bl))
    | str j => obtain ⟨t', rfl⟩ := ry; exact PySem.EqMixed.ne_bool_str (fin_bl I q (by simp))
    | _ => exact absurd (show false = true from hs) Bool.false_ne_true
  | int i =>
    obtain ⟨t, rfl⟩ := rx
    cases y with
    | non => cases ry; exact PySem.EqNone.ne_int_none (fin_bl I q (by simp))
    | int j => obtain ⟨t', rfl⟩ := ry; exact ne_int (fin_bl I q (congrArg not dec_int))
    | str j => obtain ⟨t', rfl⟩ := ry; exact PySem.EqMixed.ne_int_str (fin_bl I q (by simp))
    | _ => exact absurd (show false = true from hs) Bool.false_ne_true
  | str i =>
    obtain ⟨t, rfl⟩ := rx
    cases y with
    | non => cases ry; exact PySem.EqNone.ne_str_none (fin_bl I q (by simp))
    | bl j => cases ry; exact PySem.EqMixed.ne_str_bool (fin_bl I q (by simp))
    | int j => obtain ⟨t', rfl⟩ := ry; exact PySem.EqMixed.ne_str_int (fin_bl I q (by simp))
    | str j => obtain ⟨t', rfl⟩ := ry; exact ne_str (fin_bl I q (congrArg not dec_str))
    | _ => exact absurd (show false = true from hs) Bool.false_ne_true
  | byt i =>
    obtain ⟨t, rfl⟩ := rx
    cases y with
    | byt j => obtain ⟨t', rfl⟩ := ry; exact PySem.W.ne_bytes (fin_bl I q (congrArg not dec_byt))
    | _ => exact absurd (show false = true from hs) Bool.false_ne_true
  | _ => cases y <;> exact absurd (show false = true from hs) Bool.false_ne_true

theorem op_lt : OpR X (compareOp .Lt) (rI0 fun i j => .bl (decide (i < j))) := opB0 fun _ _ _ _ _ _ _ q => lt_int q
theorem op_le : OpR X (compareOp .LtE) (rI0 fun i j => .bl (decide (i ≤ j))) := opB0 fun _ _ _ _ _ _ _ q => le_int q
theorem op_gt : OpR X (compareOp .Gt) (rI0 fun i j => .bl (decide (j < i))) := opB0 fun _ _ _ _ _ _ _ q => gt_int q
/-- is None, is not None: the right side a value none -/
theorem op_isN : OpR X (compareOp .Is) (fun x y H Q => y = .non ∧ Q (.bl (decide (x = .non))) H) := by
  intro pins s σ H x y v u Q I rx ry h
  obtain ⟨rfl, q⟩ := h
  cases ry
  refine is_none_gen (fin_bl I q ?_)
  cases x <;> first
    | (cases rx; rfl)
    | (obtain ⟨t, rfl⟩ := rx; rfl)
theorem op_notN : OpR X (compareOp .IsNot) (fun x y H Q => y = .non ∧ Q (.bl (!decide (x = .non))) H) := by
  intro pins s σ H x y v u Q I rx ry h
  obtain ⟨rfl, q⟩ := h
  cases ry
  refine isnot_none_gen (fin_bl I q ?_)
  cases x <;> first
    | (cases rx; rfl)
    | (obtain ⟨t, rfl⟩ := rx; rfl)

/-- two rules for one operation: by cases -/
theorem OpR.or {f : Value → Value → Sem Value} {r r' : R2} (h : OpR X f r) (h' : OpR X f r') : OpR X f (fun x y H Q => r x y H Q ∨ r' x y H Q) := by
  intro pins s σ H x y v u Q I rx ry q
  rcases q with q | q
  · exact h pins s σ H x y v u Q I rx ry q
  · exact h' pins s σ H x y v u Q I rx ry q

theorem nomark (b : Expr) {op : CmpOp} (h : op ≠ .In := by decide) (h2 : op ≠ .NotIn := by decide) : behindInMarks op b = false := by
  have e1 : (op == CmpOp.In) = false := by cases op <;> first | rfl | exact absurd rfl h
  have e2 : (op == CmpOp.NotIn) = false := by cases op <;> first | rfl | exact absurd rfl h2
  cases b <;> simp [behindInMarks, e1, e2]
/-- a comparison as a value; hm: nomark b, or (for in, not in) by with_unfolding_all rfl -/
theorem pe_cmpR {op : CmpOp} {r : R2} (ho : OpR X (compareOp op) r) (ha : PE X a ta) (hb : PE X b tb) (hm : behindInMarks op b = false) : PE X (.Compare a [op] [b] pos) (tOp r ta tb) := by
  intro pins s σ H Q I h
  exact wpAny_Compare1 (binT ha hb I h fun v u s2 x y H2 I2 rx ry q => ho pins s2 σ H2 x y v u Q I2 rx ry q) hm
/-- a reading of a value as a test -/
def tTest (t : TE) : TT := fun σ H Q => t σ H fun x H' => ∃ k, x = .bl k ∧ Q k H'
theorem pt_cmpR {op : CmpOp} {r : R2} (ho : OpR X (compareOp op) r) (ha : PE X a ta) (hb : PE X b tb) (hm : behindInMarks op b = false) : PT X (.Compare a [op] [b] pos) (tTest (tOp r ta tb)) := by
  intro pins s σ H Q I h
  refine wpAny_isTrue_Compare1 (thn (ha pins s σ H _ I h) fun v s1 ⟨x, H1, I1, r1, q1⟩ => thn (hb pins s1 σ H1 _ I1 q1) fun u s2 ⟨y, H2, I2, r2, q2⟩ =>
    thn (ho pins s2 σ H2 x y v u _ I2 r1 r2 q2) fun c s3 ⟨z, H3, I3, r3, k, e, q3⟩ => ?_) hm
  subst e
  cases r3
  exact wpAny_truthy_bool ⟨H3, I3, q3⟩
/-- a op1 b op2 c -/
def tChain (r r' : R2) (ta tb tc : TE) : TE := fun σ H Q => ta σ H fun x H1 => tb σ H1 fun y H2 => r x y H2 fun z H3 => ∃ k, z = .bl k ∧
  (if k = true then tc σ H3 fun w' H4 => r' y w' H4 Q else Q (.bl false) H3)
theorem pe_chain {op op' : CmpOp} {r r' : R2} (ho : OpR X (compareOp op) r) (ho' : OpR X (compareOp op') r') (ha : PE X a ta) (hb : PE X b tb) (hc : PE X c tc)
    (hm : lastMarks [op, op'] [b, c] = false := by with_unfolding_all rfl) : PE X (.Compare a [op, op'] [b, c] pos) (tChain r r' ta tb tc) := by
  intro pins s σ H Q I h
  refine Compare_chain (thn (ha pins s σ H _ I h) fun v s1 ⟨x, H1, I1, r1, q1⟩ => chain_link (thn (hb pins s1 σ H1 _ I1 q1) fun u s2 ⟨y, H2, I2, r2, q2⟩ =>
    thn (ho pins s2 σ H2 x y v u _ I2 r1 r2 q2) fun d s3 ⟨z, H3, I3, r3, k, e, q3⟩ => ?_)) hm
  subst e
  cases r3
  refine wpAny_truthy_bool ?_
  cases k with
  | false => exact ite_ff ⟨.bl false, H3, I3, rfl, q3⟩
  | true => exact ite_tt (chain_last (thn (hc pins s3 σ H3 _ I3 q3) fun w' s4 ⟨z', H4, I4, r4, q4⟩ => ho' pins s4 σ H4 y z' u w' Q I4 r2 r4 q4))
theorem pt_chain {op op' : CmpOp} {r r' : R2} (ho : OpR X (compareOp op) r) (ho' : OpR X (compareOp op') r') (ha : PE X a ta) (hb : PE X b tb) (hc : PE X c tc)
    (hm : lastMarks [op, op'] [b, c] = false := by with_unfolding_all rfl) : PT X (.Compare a [op, op'] [b, c] pos) (tTest (tChain r r' ta tb tc)) := by
  intro pins s σ H Q I h
  refine isTrue_chain (thn (ha pins s σ H _ I h) fun v s1 ⟨x, H1, I1, r1, q1⟩ => test_link (thn (hb pins s1 σ H1 _ I1 q1) fun u s2 ⟨y, H2, I2, r2, q2⟩ =>
    thn (ho pins s2 σ H2 x y v u _ I2 r1 r2 q2) fun d s3 ⟨z, H3, I3, r3, k, e, q3⟩ => ?_)) hm
  subst e
  cases r3
  refine wpAny_truthy_bool ?_
  cases k with
  | false =>
    obtain ⟨k', e', q'⟩ := q3
    cases e'
    exact ite_ff ⟨H3, I3, q'⟩
  | true =>
    refine ite_tt (test_last (thn (hc pins s3 σ H3 _ I3 q3) fun w' s4 ⟨z', H4, I4, r4, q4⟩ => thn (ho' pins s4 σ H4 y z' u w' _ I4 r2 r4 q4) fun d' s5 ⟨z2, H5, I5, r5, k2, e2, q5⟩ => ?_))
    subst e2
    cases r5
    exact wpAny_truthy_bool ⟨H5, I5, q5⟩

/-! ### truth -/
/-- a value's truth by the abstract heap -/
def TruV (K : PySem.W.Frag) (x : V) (H : Hp) (k : Bool) : Prop :=
  match x with
  | .non => k = false
  | .bl b => k = b
  | .int i => k = (i != 0)
  | .str y => y.length ≤ sizeLine ∧ k = ((y.length : Int) != 0)
  | .byt y => y.size ≤ sizeLine ∧ k = ((y.size : Int) != 0)
  | .ref p => (∃ xs, SqL K H p xs ∧ k = !xs.isEmpty) ∨ (∃ xs, SqT K H p xs ∧ k = !xs.isEmpty) ∨ ∃ kvs, H p = some (.dK kvs) ∧ k = !kvs.isEmpty
  | _ => False
theorem isEmpty_kv {κ : Type} {kvs : List (κ × V)} {vs : List (κ × Value)} (r : KV kvs vs) : (!vs.isEmpty) = !kvs.isEmpty := by
  cases r <;> rfl
theorem isEmpty_of {xs : List V} {its : List Value} (r : Vals xs its) : (!its.toArray.isEmpty) = !xs.isEmpty := by
  cases r <;> simp
theorem line63 : (sizeLine : Nat) < 2 ^ 63 := by rw [sizeLine_eq]; decide
theorem tru_ok : TruR X (fun x H Q => ∃ k, TruV X.K x H k ∧ Q k H) := by
  intro pins s σ H x v Q I rx h
  obtain ⟨k, e, q⟩ := h
  have hl := line63
  have hs : sizeLine = 16777216 := sizeLine_eq
  cases x with
  | non =>
    cases rx
    have e' : k = false := e
    subst e'
    exact truthy_none ⟨H, I, q⟩
  | bl b =>
    cases rx
    have e' : k = b := e
    subst e'
    exact wpAny_truthy_bool ⟨H, I, q⟩
  | int i =>
    obtain ⟨t, rfl⟩ := rx
    have e' : k = (i != 0) := e
    subst e'
    exact PySem.P.truthy_int ⟨H, I, q⟩
  | str y =>
    obtain ⟨t, rfl⟩ := rx
    obtain ⟨hy, e'⟩ : y.length ≤ sizeLine ∧ k = ((y.length : Int) != 0) := e
    subst e'
    exact PySem.P.truthy_str (by omega) ⟨H, I.tok _, q⟩
  | byt y =>
    obtain ⟨t, rfl⟩ := rx
    obtain ⟨hy, e'⟩ : y.size ≤ sizeLine ∧ k = ((y.size : Int) != 0) := e
    subst e'
    exact PySem.W.truthy_bytes (by omega) ⟨H, I.tok _, q⟩
  | ref p =>
    cases rx
    have e' : (∃ xs, SqL X.K H p xs ∧ k = !xs.isEmpty) ∨ (∃ xs, SqT X.K H p xs ∧ k = !xs.isEmpty) ∨ ∃ kvs, H p = some (.dK kvs) ∧ k = !kvs.isEmpty := e
    rcases e' with ⟨xs, hx, e'⟩ | ⟨xs, hx, e'⟩ | ⟨kvs, hx, e'⟩
    · subst e'
      obtain ⟨its, r, pl, hz⟩ := I.list hx
      have hlen := r.length
      exact wpAny_truthy_list pl.isList (by simp only [List.size_toArray]; omega) ⟨H, I.tok _, by rw [isEmpty_of r]; exact q⟩
    · subst e'
      obtain ⟨its, r, pl, hz⟩ := I.tuple hx
      have hlen := r.length
      exact truthy_tuple pl (by simp only [List.size_toArray]; omega) ⟨H, I.tok _, by rw [isEmpty_of r]; exact q⟩
    · subst e'
      obtain ⟨hz, hS, vs, r, m⟩ : kvs.length ≤ sizeLine ∧ (p == sysModules) = false ∧ ∃ vs, KV kvs vs ∧ s.heap.DictOf (mixKind X.prog X.w) p vs := I.hok p _ hx
      have hlen : kvs.length = vs.length := Paired.length r
      exact wpAny_truthy_dict hS m (by omega) ⟨H, I.tok _, by rw [isEmpty_kv r]; exact q⟩
  | _ => exact (show False from e).elim
/-- any expression whose test is its value's truth (a name, a call, a subscript, a field ..: he by fun _ => rfl) -/
theorem pt_truth (ha : PE X a ta) (he : ∀ whole, isTrue a X.env whole = (do let v ← whole; standAt a.pos; holding [v] (truthy v))) :
    PT X a (fun σ H Q => ta σ H fun x H' => ∃ k, TruV X.K x H' k ∧ Q k H') := by
  intro pins s σ H Q I h
  exact isTrue_plain (thn (ha pins s σ H _ I h) fun v s1 ⟨x, H1, I1, r1, q1⟩ => tru_ok pins s1 σ H1 x v Q I1 r1 q1) (he _)

/-! ### strs and bytes -/
/-! ### scalar builtins, by CallR -/
theorem vals1 {x : V} {us : List Value} (r : Vals [x] us) : ∃ u, us = [u] ∧ RelV x u := by
  cases r with
  | cons r1 r2 => cases r2; exact ⟨_, rfl, r1⟩
theorem vals2 {x y : V} {us : List Value} (r : Vals [x, y] us) : ∃ u w', us = [u, w'] ∧ RelV x u ∧ RelV y w' := by
  cases r with
  | cons r1 r2 =>
    cases r2 with
    | cons r3 r4 => cases r4; exact ⟨_, _, rfl, r1, r3⟩
/-- len of a str, a bytes, a list, a tuple -/
def LenV (K : PySem.W.Frag) (x : V) (H : Hp) (n : Nat) : Prop :=
  match x with
  | .str y => y.length ≤ sizeLine ∧ n = y.length
  | .byt y => y.size ≤ sizeLine ∧ n = y.size
  | .ref p => (∃ xs, SqL K H p xs ∧ n = xs.length) ∨ ∃ xs, SqT K H p xs ∧ n = xs.length
  | _ => False
theorem call_len : CallR X (.builtin "len") (fun xs H Q => ∃ x n, xs = [x] ∧ LenV X.K x H n ∧ Q (.int n) H) := by
  intro pins s σ H xs us Q I r h
  obtain ⟨x, n, rfl, e, q⟩ := h
  obtain ⟨u, rfl, rx⟩ := vals1 r
  have hl := line63
  have hs : sizeLine = 16777216 := sizeLine_eq
  cases x with
  | str y =>
    obtain ⟨t, rfl⟩ := rx
    obtain ⟨hy, e'⟩ : y.length ≤ sizeLine ∧ n = y.length := e
    subst e'
    exact len_str (by omega) ⟨.int _, H, I.tok _, ⟨_, rfl⟩, q⟩
  | byt y =>
    obtain ⟨t, rfl⟩ := rx
    obtain ⟨hy, e'⟩ : y.size ≤ sizeLine ∧ n = y.size := e
    subst e'
    exact PySem.W.len_bytes (by omega) ⟨.int _, H, I.tok _, ⟨_, rfl⟩, q⟩
  | ref p =>
    cases rx
    have e' : (∃ xs, SqL X.K H p xs ∧ n = xs.length) ∨ ∃ xs, SqT X.K H p xs ∧ n = xs.length := e
    rcases e' with ⟨xs, hx, e'⟩ | ⟨xs, hx, e'⟩
    · subst e'
      obtain ⟨its, r', pl, hz⟩ := I.list hx
      have hlen := r'.length
      exact Calls.call_len_list pl.isList (by simp only [List.size_toArray]; omega) ⟨.int xs.length, H, I.tok _, ⟨_, by simp only [List.size_toArray]; rw [hlen]⟩, q⟩
    · subst e'
      obtain ⟨its, r', pl, hz⟩ := I.tuple hx
      have hlen := r'.length
      exact len_tuple pl (by simp only [List.size_toArray]; omega) ⟨.int xs.length, H, I.tok _, ⟨_, by simp only [List.size_toArray]; rw [hlen]⟩, q⟩
  | _ => exact (show False from e).elim
end
end L2

namespace L2
open PySem PySem.Spec PyProof.Rows

/-! ### an instance, its attributes a map -/
structure ObjM (h : Heap) (x dx C : Addr) (mA : Str → Option Value) : Prop where
  obj : h.get? x = some (PySem.W.instObj C dx)
  ns : h.Ns1 dx mA
  ne : dx ≠ x

theorem lookIn_ns {h : Heap} {dx : Addr} {mA : Str → Option Value} (n : h.Ns1 dx mA) : ∃ od, h.get? dx = some od ∧ ∀ name, PySem.W.lookIn name od = some (mA name) := by
  obtain ⟨o, es, ep, ho, hd, hk, _, hm⟩ := n
  refine ⟨o, ho, fun name => ?_⟩
  have e := hm name
  unfold nsFind findBy at e
  rw [← Array.find?_toList] at e
  unfold PySem.W.lookIn
  rw [hd]
  dsimp only
  split
  · rename_i y q
    rw [q] at e
    exact congrArg some e
  · rename_i q
    rw [q] at e
    have a : es.toList.any (·.refKey) = false := by
      rw [List.any_eq_false]
      intro y hy
      obtain ⟨z, t, hkey⟩ := hk y (Array.mem_toList_iff.mp hy)
      simp [DictEntry.refKey, hkey]
    have a' : ¬ es.toList.any (·.refKey) = true := by rw [a]; exact Bool.false_ne_true
    rw [if_neg a']
    exact congrArg some e

theorem ObjM.look {h : Heap} {x dx C : Addr} {mA : Str → Option Value} (I : ObjM h x dx C mA) : ∃ od, PySem.W.InstAt h x (PySem.W.instObj C dx) C (some od) ∧ ∀ name, PySem.W.lookIn name od = some (mA name) :=
  let ⟨od, ho, hl⟩ := lookIn_ns I.ns
  ⟨od, ⟨I.obj, rfl, rfl, ho⟩, hl⟩

section
variable {prog : Program} {w : World} {A : Around} {E : Value → Shared → Prop} {s : Shared} {K : PySem.W.Frag} {x dx C f : Addr} {mA : Str → Option Value} {name : Str} {v : Value}

theorem get_map {expr : Bool} {Q : Value → Shared → Prop} (X : K.In s.heap) (I : ObjM s.heap x dx C mA) (hg : PySem.W.plainGet K C name = true) (hh : PySem.W.hasDictIn K C = true)
    (ha : PySem.W.findIn K (.ref C) name = some none) (hv : mA name = some v) (hv' : PySem.W.handedIn v = true) (h : Q v { s with toks := s.toks + 1 }) :
    wpAny (model prog w) A (getAttr (.ref x) name expr) Q E s := by
  obtain ⟨od, J, hl⟩ := I.look
  exact PySem.W.get_value X J (PySem.W.plainGet_of hg).1 (PySem.W.findObj_own hh ha rfl (by rw [hl, hv])) hv' h

theorem get_meth {pl : Sem Bool} {Q : Value × List Value → Shared → Prop} (X : K.In s.heap) (I : ObjM s.heap x dx C mA) (hg : PySem.W.plainGet K C name = true)
    (hf : PySem.W.findIn K (.ref C) name = some (some (.ref f))) (ht : PySem.W.isFn K (.ref f) = true) (hv : mA name = none) (h : Q (.ref f, [.ref x]) s) :
    wpAny (model prog w) A (getMethod (.ref x) name pl) Q E s := by
  obtain ⟨od, J, hl⟩ := I.look
  exact PySem.W.method_fn X J (PySem.W.plainGet_of hg).1 (PySem.W.plainGet_of hg).2 hf (beq_iff_eq.mp ht) (by show (PySem.W.lookIn name od).map (·.isSome) = some false; rw [hl, hv]; rfl) h

theorem set_map {ns : List Str} {Q : Unit → Shared → Prop} (X : K.In s.heap) (I : ObjM s.heap x dx C mA)
    (hs : PySem.W.findIn K (.ref C) "__setattr__" = some (some (.builtin "object.__setattr__"))) (hp : PySem.W.plainOver K C = true) (ht : PySem.W.takerIn K C name = some none) (hh : PySem.W.hasDictIn K C = true)
    (hw : PySem.Within mA ns) (hsz : ns.length ≤ sizeLine)
    (h : ∀ h', ObjM h' x dx C (fun y => if y = name then some v else mA y) → Heap.SameBut dx s.heap h' → Q () { s with heap := h', toks := s.toks + 2 }) :
    wpAny (model prog w) A (setAttr (.ref x) name v) Q E s := by
  obtain ⟨od, J, hl⟩ := I.look
  refine PySem.W.set_plain X J hs (PySem.W.osa_open (s := { s with toks := s.toks + 1 }) (r := none) X J hp ht fun b => ?_)
  obtain ⟨cd, hc, hd'⟩ := PySem.W.any_some hh
  have hx : s.heap.get? x = some ⟨.ref C, some dx, .plain, #[]⟩ := I.obj
  refine wpAny_bind (wpAny_pure (wpAny_bind (wpAny_bind (wpAny_loadPart hx (wpAny_bind (PySem.W.Looks.here (s := { s with toks := s.toks + 1 }) (PySem.W.looks_clsIn X hc) ?_))))))
  rw [hd']
  refine wpAny_pure (a := some dx) (wpAny_bind (wpAny_pure (wpAny_bind ?_)))
  refine wpAny_nsSet1 (s := { s with toks := s.toks + 1 }) I.ns fun h' hn2 hs2 => ?_
  obtain ⟨oD, esD, epD, hoD, hdD, hcD⟩ := hn2.count (PySem.Within.cons name v hw)
  refine wpAny_bind (wpAny_lookBehind hoD (by rw [hdD]; exact pastItsLine_dict (Nat.le_trans hcD (by rw [List.length_cons]; omega))) ?_)
  exact wpAny_pure (h _ ⟨(hs2.2 _ (Ne.symm I.ne)).trans I.obj, hn2, I.ne⟩ hs2)

/-- C(..): the dict at the heap's end, the instance behind it; then its __init__ -/
theorem make_map {R : Result → Shared → Prop} {vs : List Value} {kw : List (Str × Value)} (X : K.In s.heap) (hm : PySem.W.makesIn K C = true)
    (hi : PySem.W.findIn K (.ref C) "__init__" = some (some (.ref f))) (hf : PySem.W.typeIn K (.ref f) = some (.type "function"))
    (h : codeAny (model prog w) (A.under (.builtin "type.__call__" ⟨.ref C :: vs, kw⟩)) (.call (.ref f) ⟨.ref (s.heap.objs.size + 1) :: vs, kw⟩) (PySem.W.InitBack (s.heap.objs.size + 1) R)
      { s with heap := (s.heap.push PySem.W.emptyDict).push (PySem.W.instObj C s.heap.objs.size) }) :
    codeAny (model prog w) A (.call (.ref C) ⟨vs, kw⟩) R s := by
  obtain ⟨hh, g, d, t, os⟩ := s
  exact PySem.W.make_core (PySem.W.makes_of X hm) (PySem.W.looks_findIn X hi) (fun self => PySem.W.bind_fn X self hf) (.inl rfl) h
end

/-! ### the attributes as a list of pairs -/
def putF (f : Str) (v : V) : List (Str × V) → List (Str × V)
  | [] => [(f, v)]
  | (g, x) :: r => if g = f then (g, v) :: r else (g, x) :: putF f v r
theorem lookup_putF (f g : Str) (v : V) : ∀ fs : List (Str × V), (putF f v fs).lookup g = if g = f then some v else fs.lookup g
  | [] => by
    show List.lookup g [(f, v)] = _
    by_cases h : g = f
    · have hb : (g == f) = true := beq_iff_eq.mpr h
      simp only [List.lookup, hb, if_pos h]
    · have hb : (g == f) = false := beq_eq_false_iff_ne.mpr h
      simp only [List.lookup, hb, if_neg h]
  | (k, x) :: r => by
    have ih := lookup_putF f g v r
    rw [show putF f v ((k, x) :: r) = (if k = f then (k, v) :: r else (k, x) :: putF f v r) from rfl]
    by_cases hk : k = f
    · rw [if_pos hk]
      by_cases h : g = k
      · have hb : (g == k) = true := beq_iff_eq.mpr h
        simp only [List.lookup, hb, if_pos (h.trans hk)]
      · have hb : (g == k) = false := beq_eq_false_iff_ne.mpr h
        simp only [List.lookup, hb, if_neg (fun e : g = f => h (e.trans hk.symm))]
    · rw [if_neg hk]
      by_cases h : g = k
      · have hb : (g == k) = true := beq_iff_eq.mpr h
        simp only [List.lookup, hb, if_neg (fun e : g = f => hk (h.symm.trans e))]
      · have hb : (g == k) = false := beq_eq_false_iff_ne.mpr h
        simp only [List.lookup, hb]
        exact ih
theorem keys_putF (f : Str) (v : V) : ∀ fs : List (Str × V), f ∈ (putF f v fs).map (·.1) ∧ ∀ g, g ∈ fs.map (·.1) → g ∈ (putF f v fs).map (·.1)
  | [] => ⟨by simp [putF], fun g h => by simp at h⟩
  | (k, x) :: r => by
    obtain ⟨i1, i2⟩ := keys_putF f v r
    rw [show putF f v ((k, x) :: r) = (if k = f then (k, v) :: r else (k, x) :: putF f v r) from rfl]
    by_cases hk : k = f
    · rw [if_pos hk]
      subst hk
      exact ⟨by simp, fun g h => by simpa using h⟩
    · rw [if_neg hk]
      refine ⟨?_, fun g h => ?_⟩
      · rw [List.map_cons]
        exact List.mem_cons_of_mem _ i1
      · rw [List.map_cons] at h ⊢
        rcases List.mem_cons.mp h with e | e
        · exact List.mem_cons.mpr (.inl e)
        · exact List.mem_cons_of_mem _ (i2 g e)
theorem length_putF (f : Str) (v : V) : ∀ fs : List (Str × V), (putF f v fs).length ≤ fs.length + 1
  | [] => by simp [putF]
  | (k, x) :: r => by
    have ih := length_putF f v r
    rw [show putF f v ((k, x) :: r) = (if k = f then (k, v) :: r else (k, x) :: putF f v r) from rfl]
    by_cases hk : k = f
    · rw [if_pos hk, List.length_cons, List.length_cons]; omega
    · rw [if_neg hk, List.length_cons, List.length_cons]; omega

theorem RelO.some_of {v : V} {o : Option Value} (r : RelO (some v) o) : ∃ u, o = some u ∧ RelV v u := by
  cases o with
  | none => exact (show False from r).elim
  | some u => exact ⟨u, rfl, r⟩
theorem RelO.none_of {o : Option Value} (r : RelO none o) : o = none := by
  cases o with
  | none => rfl
  | some u => exact (show False from r).elim
theorem handed_of {v : V} {u : Value} (r : RelV v u) : PySem.W.handedIn u = true := by
  cases v with
  | non => cases (show u = Value.none from r); rfl
  | bl b => cases (show u = Value.bool b from r); rfl
  | int i => obtain ⟨t, e⟩ := (show ∃ t, u = Value.int i t from r); cases e; rfl
  | str x => obtain ⟨t, e⟩ := (show ∃ t, u = Value.str x t from r); cases e; rfl
  | byt b => obtain ⟨t, e⟩ := (show ∃ t, u = Value.bytes b t from r); cases e; rfl
  | flt b => obtain ⟨t, e⟩ := (show ∃ t, u = Value.float b t from r); cases e; rfl
  | ref a => cases (show u = Value.ref a from r); rfl
  | ty n => cases (show u = Value.type n from r); rfl

section
variable {P : Program} {w : World} {H H' : Hp} {h h' : Heap} {a C dx : Addr} {fs fs' : List (Str × V)}
theorem ins_get (hok : HOk P w H h) (e : H a = some (.ins C dx fs)) : ∃ mA, ObjM h a dx C mA ∧ (∀ f, RelO (fs.lookup f) (mA f)) ∧ PySem.Within mA (fs.map (·.1)) ∧ fs.length ≤ 1000 ∧ H dx = some (.own a) := by
  obtain ⟨d, z, ne, ob, mA, n, r, q⟩ := (show ObjOk P w H h a (.ins C dx fs) from hok a _ e)
  exact ⟨mA, ⟨ob, n, ne⟩, r, q, z, d⟩
end

/-! ### what of the text a class must have -/
structure Cls (K : PySem.W.Frag) (C : Addr) : Prop where
  pg : PySem.W.plainGet K C Str.empty = true
  hd : PySem.W.hasDictIn K C = true
  po : PySem.W.plainOver K C = true
  sa : PySem.W.findIn K (.ref C) "__setattr__" = some (some (.builtin "object.__setattr__"))
theorem Cls.get {K : PySem.W.Frag} {C : Addr} (c : Cls K C) (f : Str) : PySem.W.plainGet K C f = true := c.pg
/-- no class of it has the name -/
def NoAttr (K : PySem.W.Frag) (C : Addr) (f : Str) : Prop := PySem.W.findIn K (.ref C) f = some none
theorem NoAttr.taker {K : PySem.W.Frag} {C : Addr} {f : Str} (n : NoAttr K C f) : PySem.W.takerIn K C f = some none := by
  unfold PySem.W.takerIn
  rw [show PySem.W.findIn K (.ref C) f = some none from n]
  rfl
/-- a method: a plain def of the class or of one above it -/
structure Meth (K : PySem.W.Frag) (C : Addr) (m : Str) (f : Addr) : Prop where
  at_ : PySem.W.findIn K (.ref C) m = some (some (.ref f))
  fn : PySem.W.isFn K (.ref f) = true
  kp : PySem.W.keepIn K (.ref f) = true

section
variable {X : Cx} {pins : List (Addr × Obj)} {σ : St} {H : Hp} {s : Shared} {a C dx : Addr} {fs : List (Str × V)} {f : Str} {v : V} {A : Around} {E : Value → Shared → Prop}

theorem getattr_ok {b : Bool} {Q : Value → Shared → Prop} (I : Inv X pins σ H s) (e : H a = some (.ins C dx fs)) (c : Cls X.K C) (n : NoAttr X.K C f) (l : fs.lookup f = some v)
    (h : ∀ u s', Inv X pins σ H s' → RelV v u → Q u s') : wpAny (model X.prog X.w) A (getAttr (.ref a) f b) Q E s := by
  obtain ⟨mA, O, r, _, _, _⟩ := ins_get I.hok e
  obtain ⟨u, hu, ru⟩ := RelO.some_of (v := v) (o := mA f) (by rw [← l]; exact r f)
  exact get_map I.kIn O (c.get f) c.hd n hu (handed_of ru) (h u _ (I.tok _) ru)

theorem getmeth_ok {m : Str} {g : Addr} {pl : Sem Bool} {Q : Value × List Value → Shared → Prop} (I : Inv X pins σ H s) (e : H a = some (.ins C dx fs)) (c : Cls X.K C) (k : Meth X.K C m g) (l : fs.lookup m = none)
    (h : Q (.ref g, [.ref a]) s) : wpAny (model X.prog X.w) A (getMethod (.ref a) m pl) Q E s := by
  obtain ⟨mA, O, r, _, _, _⟩ := ins_get I.hok e
  have hn : mA m = none := RelO.none_of (by rw [← l]; exact r m)
  exact get_meth I.kIn O (c.get m) k.at_ k.fn hn h

theorem setattr_ok {y : V} {u : Value} {Q : Unit → Shared → Prop} (I : Inv X pins σ H s) (e : H a = some (.ins C dx fs)) (c : Cls X.K C) (n : NoAttr X.K C f) (hl : fs.length < 1000) (ry : RelV y u)
    (h : ∀ s', Inv X pins σ (upd H a (.ins C dx (putF f y fs))) s' → Q () s') : wpAny (model X.prog X.w) A (setAttr (.ref a) f u) Q E s := by
  obtain ⟨mA, O, r, wi, _, ho⟩ := ins_get I.hok e
  have hz : (fs.map (·.1)).length ≤ sizeLine := by rw [List.length_map, sizeLine_eq]; omega
  refine set_map I.kIn O c.sa c.po n.taker c.hd wi hz fun h' O' sb => h _ ?_
  have hd : ∃ o, h'.get? dx = some o := let ⟨o, _, _, e', _⟩ := O'.ns; ⟨o, e'⟩
  refine I.write (x := a) (e := dx) (by rw [e]; exact True.intro) (.inr ho) (fun b q hb z => (sb.2 b hb).trans z) hd ?_
  refine ⟨by rw [upd_ne O.ne]; exact ho, ?_, O.ne, O'.obj, _, O'.ns, fun g => ?_, fun g hg => ?_⟩
  · have := length_putF f y fs; omega
  · show RelO ((putF f y fs).lookup g) (if g = f then some u else mA g)
    rw [lookup_putF]
    by_cases q : g = f
    · rw [if_pos q, if_pos q]; exact ry
    · rw [if_neg q, if_neg q]; exact r g
  · by_cases q : g = f
    · rw [q]; exact (keys_putF f y fs).1
    · refine (keys_putF f y fs).2 g (wi g fun z => hg ?_)
      show (if g = f then some u else mA g) = none
      rw [if_neg q]; exact z

/-- a new instance, tracked, without attributes -/
theorem Inv.made (I : Inv X pins σ H s) : Inv X pins σ (upd (upd H s.heap.objs.size (.own (s.heap.objs.size + 1))) (s.heap.objs.size + 1) (.ins C s.heap.objs.size []))
    { s with heap := (s.heap.push PySem.W.emptyDict).push (PySem.W.instObj C s.heap.objs.size) } := by
  have e1 : (s.heap.push PySem.W.emptyDict).get? s.heap.objs.size = some PySem.W.emptyDict := Heap.get?_push_size s.heap rfl
  have e2 : ((s.heap.push PySem.W.emptyDict).push (PySem.W.instObj C s.heap.objs.size)).get? (s.heap.objs.size + 1) = some (PySem.W.instObj C s.heap.objs.size) := by
    have := Heap.get?_push_size (s.heap.push PySem.W.emptyDict) (o := PySem.W.instObj C s.heap.objs.size) rfl
    rwa [Heap.size_push] at this
  have e3 : (s.heap.push PySem.W.emptyDict).Ns s.heap.objs.size (fun _ => none) := ⟨PySem.W.emptyDict, #[], _, e1, rfl, (fun e he => absurd he (by simp)), fun _ => rfl⟩
  have I1 := I.laid (a := s.heap.objs.size) (o := .own (s.heap.objs.size + 1)) (h' := s.heap.push PySem.W.emptyDict) (t' := s.toks) (fun b u q => Heap.get?_push_of_some _ q) (Nat.le_refl _) ⟨_, e1⟩
  refine I1.laid (a := s.heap.objs.size + 1) (o := .ins C s.heap.objs.size []) (t' := s.toks) (fun b u q => Heap.get?_push_of_some _ q) (Nat.le_of_eq (Heap.size_push _ _)) ?_
  have ne : s.heap.objs.size ≠ s.heap.objs.size + 1 := Nat.ne_of_lt (Nat.lt_succ_self _)
  refine ⟨by rw [upd_ne ne, upd_same], Nat.zero_le _, ne, e2, fun _ => none, (Heap.Ns1.of_empty e3).at fun o q => Heap.get?_push_of_some _ q, fun _ => True.intro, fun y hy => absurd rfl hy⟩

/-- e.f where nothing but the object is asked: through attributeBase (super) and the last hold -/
theorem attr_of {prog : Program} {w : World} {env : Env} {e : Expr} {f : Str} {pos : Pos} {s : Shared} {Q : Value → Shared → Prop} (hb : attributeBase e f env (eval e env) = eval e env)
    (h : wpAny (model prog w) A (eval e env) (fun o s₁ => wpAny (model prog w) A (getAttr o f true) Q E s₁) E s) : wpAny (model prog w) A (eval (.Attribute e f pos) env) Q E s :=
  Attribute_any_ h (by rw [arm_eval_Attribute, hb])
end

/-! ### readings and rules -/
/-- e.f, an attribute of the instance -/
def tFld (K : PySem.W.Frag) (ta : TE) (f : Str) : TE := fun σ H Q => ta σ H fun x H1 => ∃ a C dx fs v, x = .ref a ∧ H1 a = some (.ins C dx fs) ∧ Cls K C ∧ NoAttr K C f ∧ fs.lookup f = some v ∧ Q v H1
/-- e.f = value -/
def sFld (K : PySem.W.Frag) (ta tv : TE) (f : Str) : TS := fun D σ H => tv σ H fun y H1 => ta σ H1 fun x H2 => ∃ a C dx fs, x = .ref a ∧ H2 a = some (.ins C dx fs) ∧ Cls K C ∧ NoAttr K C f ∧ fs.length < 1000 ∧
  D.nx σ (upd H2 a (.ins C dx (putF f y fs)))
section
variable {X : Cx} {o e value : Expr} {f : Str} {pos pos' tpos : Pos} {ta tv : TE}
theorem pe_fld (he : PE X e ta) (hb : attributeBase e f X.env (eval e X.env) = eval e X.env) : PE X (.Attribute e f pos) (tFld X.K ta f) := by
  intro pins s σ H Q I h
  refine attr_of hb (thn (he pins s σ H _ I h) fun u s1 ⟨x, H1, I1, rx, a, C, dx, fs, v, ex, ea, c, n, l, q⟩ => ?_)
  subst ex
  obtain rfl : u = Value.ref a := rx
  exact getattr_ok I1 ea c n l fun u' s2 I2 ru => ⟨v, H1, I2, ru, q⟩
theorem ps_fld (ha : PE X o ta) (hv : PE X value tv) (hs : swapsWith value (some (.Attribute o f pos')) pos.line X.env = pure false) : PS X (.Assign [.Attribute o f pos'] value pos) (sFld X.K ta tv f) := by
  intro pins s σ H D I h
  refine plainObj_wpAny_Assign_Attribute (thn (hv pins s σ H _ I h) fun u s1 ⟨y, H1, I1, ry, q⟩ => thn (ha pins s1 σ H1 _ I1 q) fun ov s2 ⟨x, H2, I2, rx, a, C, dx, fs, ex, ea, c, n, l, q2⟩ => ?_) hs
  subst ex
  obtain rfl : ov = Value.ref a := rx
  exact setattr_ok I2 ea c n l ry fun s3 I3 => ⟨σ, _, I3, q2⟩
end

/-! ### isinstance -/
section
variable {X : Cx} {pins : List (Addr × Obj)} {σ : St} {H : Hp} {s : Shared} {A : Around} {E : Value → Shared → Prop} {Q : Value → Shared → Prop} {c : Value} {b : Bool}
/-- the type of a value, as the fragment's deciders take it; for an instance its class -/
inductive TyOf (K : PySem.W.Frag) (H : Hp) : V → Value → Prop where
  | non : TyOf K H .non (.type "NoneType")
  | bl (x : Bool) : TyOf K H (.bl x) (.type "bool")
  | int (i : Int) : TyOf K H (.int i) (.type "int")
  | str (x : Str) : TyOf K H (.str x) (.type "str")
  | flt (x : UInt64) : TyOf K H (.flt x) (.type "float")
  | lst {a : Addr} {xs : List V} (e : H a = some (.lst xs)) : TyOf K H (.ref a) (.type "list")
  | frz {a : Addr} {o : Obj} {xs : List V} (e : H a = some (.frz o (.lst xs))) : TyOf K H (.ref a) (.type "list")
  | tup {a : Addr} {xs : List V} (e : H a = some (.tup xs)) : TyOf K H (.ref a) (.type "tuple")
  | dK {a : Addr} {kvs : List (Key × V)} (e : H a = some (.dK kvs)) : TyOf K H (.ref a) (.type "dict")
  | dT {a : Addr} {kvs : List (List Key × V)} (e : H a = some (.dT kvs)) : TyOf K H (.ref a) (.type "dict")
  | ins {a C dx : Addr} {fs : List (Str × V)} (e : H a = some (.ins C dx fs)) (cl : Cls K C) (ha : PySem.W.findIn K (.ref C) "__class__" = some (some (.builtin "object.__class__")))
      (hn : PySem.W.specialIn K (.builtin "object.__class__") "__get__" = some (some (.builtin "getset_descriptor.__get__"))) (htk : PySem.W.takesIn K (.builtin "object.__class__") = some true)
      (hm : PySem.W.mroIn K C (.type "object") = some true) : TyOf K H (.ref a) (.ref C)
/-- isinstance(x, c) for one class c, a built-in or an own one: kitOne's answer -/
theorem isinst_ok {x : V} {u t : Value} (I : Inv X pins σ H s) (rx : RelV x u) (ty : TyOf X.K H x t) (e : PySem.W.kitOne X.K t c = some b) (h : ∀ tk, Q (.bool b) { s with toks := tk }) :
    wpAny (model X.prog X.w) A (call (.builtin "isinstance") [u, c]) Q E s := by
  cases ty with
  | non => cases (show u = Value.none from rx); exact PySem.W.kia_one PySem.W.kitx_none I.kIn True.intro e (fun z => nomatch z) h
  | bl y => cases (show u = Value.bool y from rx); exact PySem.W.kia_one PySem.W.kitx_bool I.kIn True.intro e (fun z => nomatch z) h
  | int i => obtain ⟨t, q⟩ := (show ∃ t, u = Value.int i t from rx); cases q; exact PySem.W.kia_one PySem.W.kitx_int I.kIn True.intro e (fun z => nomatch z) h
  | str y => obtain ⟨t, q⟩ := (show ∃ t, u = Value.str y t from rx); cases q; exact PySem.W.kia_one PySem.W.kitx_str I.kIn True.intro e (fun z => nomatch z) h
  | flt y => obtain ⟨t, q⟩ := (show ∃ t, u = Value.float y t from rx); cases q; exact PySem.W.kia_one PySem.W.kitx_float I.kIn True.intro e (fun z => nomatch z) h
  | @lst a xs ea =>
    cases (show u = Value.ref a from rx)
    obtain ⟨_, _, n, _, h1⟩ := (show ObjOk X.prog X.w H s.heap a (.lst xs) from I.hok a _ ea)
    exact PySem.W.kia_one PySem.W.kitx_list I.kIn ⟨_, h1, rfl⟩ e (fun z => nomatch z) h
  | @frz a ob xs ea =>
    cases (show u = Value.ref a from rx)
    obtain ⟨_, _, _, n, _, h1⟩ := (show ObjOk X.prog X.w H s.heap a (.frz ob (.lst xs)) from I.hok a _ ea)
    exact PySem.W.kia_one PySem.W.kitx_list I.kIn ⟨_, h1, rfl⟩ e (fun z => nomatch z) h
  | @tup a xs ea =>
    cases (show u = Value.ref a from rx)
    obtain ⟨_, _, _, p⟩ := (show ObjOk X.prog X.w H s.heap a (.tup xs) from I.hok a _ ea)
    obtain ⟨o, h1, h2, _⟩ := p
    exact PySem.W.kia_one PySem.W.kitx_tuple I.kIn ⟨o, h1, h2⟩ e (fun z => nomatch z) h
  | @dK a kvs ea =>
    cases (show u = Value.ref a from rx)
    obtain ⟨_, _, vs, _, p⟩ := (show ObjOk X.prog X.w H s.heap a (.dK kvs) from I.hok a _ ea)
    obtain ⟨o, es, ep, h1, h2, _⟩ := p
    exact PySem.W.kia_one PySem.W.kitx_dict I.kIn ⟨o, h1, h2.1⟩ e (fun z => nomatch z) h
  | @dT a kvs ea =>
    cases (show u = Value.ref a from rx)
    obtain ⟨_, _, xs, _, o, es, ep, h1, h2, _⟩ := (show ObjOk X.prog X.w H s.heap a (.dT kvs) from I.hok a _ ea)
    exact PySem.W.kia_one PySem.W.kitx_dict I.kIn ⟨o, h1, h2.1⟩ e (fun z => nomatch z) h
  | @ins a C dx fs ea cl ha hn htk hm =>
    cases (show u = Value.ref a from rx)
    obtain ⟨mA, O, _⟩ := ins_get I.hok ea
    obtain ⟨od, J, _⟩ := O.look
    exact PySem.W.kia_one (PySem.W.kitx_own (cl.get _) cl.hd ha hn htk hm) I.kIn J e (fun z => nomatch z) h
end
end L2

namespace L2
open PySem PySem.Spec PyProof.Rows

/-! ### room -/
structure Room (k : Nat) (A : Around) : Prop where
  hd : A.handled = none
  dp : A.depth + 3 * k + 5 < recursionLimit
  un : A.units + 16 * k + 200 < cLine
theorem Room.mono {j k : Nat} {A : Around} (r : Room k A) (h : j ≤ k) : Room j A := ⟨r.hd, by have := r.dp; omega, by have := r.un; omega⟩
theorem Room.deeper {k : Nat} {A : Around} (r : Room (k + 1) A) (env : Env) : Room k (A.deeper env) :=
  ⟨r.hd, by have := r.dp; show A.depth + 1 + 3 * k + 5 < _; omega, by have := r.un; show A.units + 3 + 16 * k + 200 < _; omega⟩
theorem Room.in1 {k : Nat} {A : Around} (r : Room (k + 1) A) : Room k A.in1 :=
  ⟨r.hd, by have := r.dp; show A.depth + 3 * k + 5 < _; omega, by have := r.un; show A.units + 1 + 16 * k + 200 < _; omega⟩
theorem make_depth {A : Around} {C : Addr} {us : List Value} {kw : List (Str × Value)} : (A.under (.builtin "type.__call__" ⟨.ref C :: us, kw⟩)).depth = A.depth + 1 := by
  first | rfl | simp [Around.under, Code.weight, Code.isCreation, Code.isGuard, Code.isCaller, Code.frames, Code.isFrame, guardIds]
theorem make_units {A : Around} {C : Addr} {us : List Value} {kw : List (Str × Value)} : (A.under (.builtin "type.__call__" ⟨.ref C :: us, kw⟩)).units = A.units + 1 := by
  first | rfl | simp [Around.under, Code.cUnits, Code.frames, Code.isFrame]
theorem Room.make {k : Nat} {A : Around} (r : Room (k + 1) A) (C : Addr) (us : List Value) (kw : List (Str × Value)) : Room k (A.under (.builtin "type.__call__" ⟨.ref C :: us, kw⟩)) :=
  ⟨r.hd, by have := r.dp; rw [make_depth]; omega, by have := r.un; rw [make_units]; omega⟩
theorem Room.depth {k : Nat} {A : Around} (r : Room k A) : A.depth < recursionLimit := by have := r.dp; omega
theorem Room.units {k : Nat} {A : Around} (r : Room k A) : A.units + 64 < cLine := by have := r.un; omega
theorem Room.units0 {k : Nat} {A : Around} (r : Room k A) : A.units < cLine := by have := r.un; omega

/-! ### argument lists and displays -/
def tNil : TA := fun _ H Q => Q [] H
def tCons (ta : TE) (tr : TA) : TA := fun σ H Q => ta σ H fun x H1 => tr σ H1 fun xs H2 => Q (x :: xs) H2
section
variable {X : Cx} {e : Expr} {es : List Expr} {te : TE} {t : TA} {pos : Pos}
theorem pa_nil : PA X [] tNil := fun _ _ _ _ H Q I h => Calls.spliced_nil ⟨[], H, I, .nil, h⟩
theorem pa_cons (ha : PE X e te) (hr : PA X es t) (hs : starEach (e :: es) X.env = (false, eval e X.env) :: starEach es X.env := by rfl) : PA X (e :: es) (tCons te t) := by
  intro pos pins s σ H Q I h
  rw [hs]
  show wpAny _ _ (spliced ((false, eval e X.env) :: backTo pos (starEach es X.env))) _ _ s
  refine Calls.spliced_cons (thn (ha pins s σ H _ I h) fun u s1 ⟨x, H1, I1, r1, q1⟩ => ?_)
  exact thn (hr pos pins s1 σ H1 _ I1 q1) fun us s2 ⟨xs, H2, I2, r2, q2⟩ => ⟨x :: xs, H2, I2, .cons r1 r2, q2⟩

/-- a tuple, a list of written items -/
def tTup (t : TA) : TE := fun σ H Q => t σ H fun xs H1 => xs.length ≤ sizeLine ∧ ∀ p, H1 p = none → Q (.ref p) (upd H1 p (.tup xs))
def tLst (t : TA) : TE := fun σ H Q => t σ H fun xs H1 => xs.length ≤ sizeLine ∧ ∀ p, H1 p = none → Q (.ref p) (upd H1 p (.lst xs))
theorem pe_tup {x1} (h : PA X es t) : PE X (.Tuple es x1 pos) (tTup t) := by
  intro pins s σ H Q I hq
  refine wpAny_Tuple_spliced (thn (h pos pins s σ H _ I hq) fun us s1 ⟨xs, H1, I1, r, z, q⟩ => ⟨by rw [← r.length]; exact z, ?_⟩)
  have hf : H1 s1.heap.objs.size = none := I1.hok.fresh (Nat.le_refl _)
  refine ⟨.ref s1.heap.objs.size, upd H1 s1.heap.objs.size (.tup xs), I1.laid (t' := s1.toks) (fun b u e => Heap.get?_push_of_some _ e) (Nat.le_refl _) ?_, rfl, q _ hf⟩
  exact ⟨z, us, r, ⟨_, Heap.get?_push_size _ rfl, rfl, _, rfl⟩⟩
theorem pe_lst (h : PA X es t) : PE X (.List es pos) (tLst t) := by
  intro pins s σ H Q I hq
  refine wpAny_List_spliced (thn (h pos pins s σ H _ I hq) fun us s1 ⟨xs, H1, I1, r, z, q⟩ => ⟨by rw [← r.length]; exact z, ?_⟩)
  have hf : H1 s1.heap.objs.size = none := I1.hok.fresh (Nat.le_refl _)
  refine ⟨.ref s1.heap.objs.size, upd H1 s1.heap.objs.size (.lst xs), I1.laid (t' := s1.toks) (fun b u e => Heap.get?_push_of_some _ e) (Nat.le_refl _) ?_, rfl, q _ hf⟩
  exact ⟨z, us, 0, r, Heap.get?_push_size _ rfl⟩
end

/-! ### what a def promises -/
/-- a def's promise: the bound arguments in the parameters' order, the heap, the wanted end, the wanted exception -/
abbrev Sp := List V → Hp → VK → XK → Prop
/-- how an exception lies behind a call (file 08 gives it): the callers' frames, abstract heap and state ahead of the call, the wish, the exception, the state -/
abbrev CXT := List Env → Hp → Shared → XK → Value → Shared → Prop

/-- the state at a call -/
structure Env0 (P : Program) (w : World) (K : PySem.W.Frag) (mg : Str → Option Value) (base : Heap) (A : Around) (outer : List Env) (s : Shared) (H : Hp) : Prop where
  frames : A.frames = some outer
  mod : Mod K mg base
  bs : ∀ b o, base.get? b = some o → s.heap.get? b = some o ∧ H b = none
  bsz : base.objs.size ≤ s.heap.objs.size
  funs : s.heap.FunFrames base outer
  frf : ∀ b ∈ frs outer, H b = none
  hok : HOk P w H s.heap
  bare : AllBare s.gens
/-- a call's end -/
def CE (outer : List Env) (P : Program) (w : World) (H : Hp) (s : Shared) (Q : VK) (u : Value) (s' : Shared) : Prop :=
  ∃ v H', s'.os = s.os ∧ AllBare s'.gens ∧ Un (frs outer) [] H H' s.heap s'.heap ∧ HOk P w H' s'.heap ∧ RelV v u ∧ Q v H'
def CR (CX : CXT) (outer : List Env) (P : Program) (w : World) (H : Hp) (s : Shared) (Q : VK) (E : XK) (r : Result) (s' : Shared) : Prop :=
  match r with
  | .ok (.ret u) => CE outer P w H s Q u s'
  | .ok _ => False
  | .error e => CX outer H s E e s'
structure FnOk (P : Program) (w : World) (K : PySem.W.Frag) (mg : Str → Option Value) (base : Heap) (CX : CXT) (k : Nat) (f : Addr) (fd : FuncData) (ps : List Str) (sp : Sp) : Prop where
  len : ∀ vs H Q E, sp vs H Q E → vs.length = ps.length
  run : ∀ (A : Around) (outer : List Env) (s : Shared) (H : Hp) (args : Args) (us : List Value) (vs : List V) (Q : VK) (E : XK), Room k A → Env0 P w K mg base A outer s H → BindsTo s fd args (ps.zip us) → Vals vs us → sp vs H Q E →
    codeAny (model P w) A (.call (.ref f) args) (CR CX outer P w H s Q E) s
theorem FnOk.mono {P : Program} {w : World} {K : PySem.W.Frag} {mg : Str → Option Value} {base : Heap} {CX : CXT} {j k : Nat} {f : Addr} {fd : FuncData} {ps : List Str} {sp : Sp} (F : FnOk P w K mg base CX j f fd ps sp) (h : j ≤ k) :
    FnOk P w K mg base CX k f fd ps sp := ⟨F.len, fun A outer s H args us vs Q E hr => F.run A outer s H args us vs Q E (hr.mono h)⟩
/-- a weaker promise -/
theorem FnOk.imp {P : Program} {w : World} {K : PySem.W.Frag} {mg : Str → Option Value} {base : Heap} {CX : CXT} {k : Nat} {f : Addr} {fd : FuncData} {ps : List Str} {sp sp' : Sp} (F : FnOk P w K mg base CX k f fd ps sp)
    (h : ∀ vs H Q E, sp' vs H Q E → sp vs H Q E) : FnOk P w K mg base CX k f fd ps sp' :=
  ⟨fun vs H Q E q => F.len vs H Q E (h _ _ _ _ q), fun A outer s H args us vs Q E hr he hb hv hs => F.run A outer s H args us vs Q E hr he hb hv (h _ _ _ _ hs)⟩

theorem Env0.make {P : Program} {w : World} {K : PySem.W.Frag} {mg : Str → Option Value} {base : Heap} {A : Around} {outer : List Env} {s : Shared} {H : Hp} (e : Env0 P w K mg base A outer s H) (C : Addr) (us : List Value) (kw : List (Str × Value)) :
    Env0 P w K mg base (A.under (.builtin "type.__call__" ⟨.ref C :: us, kw⟩)) outer s H := ⟨by first | exact e.frames | (simpa [Around.under, Code.envs, Code.isFrame, pushEnvs] using e.frames), e.mod, e.bs, e.bsz, e.funs, e.frf, e.hok, e.bare⟩
theorem Env0.in1 {P : Program} {w : World} {K : PySem.W.Frag} {mg : Str → Option Value} {base : Heap} {A : Around} {outer : List Env} {s : Shared} {H : Hp} (e : Env0 P w K mg base A outer s H) :
    Env0 P w K mg base A.in1 outer s H := ⟨e.frames, e.mod, e.bs, e.bsz, e.funs, e.frf, e.hok, e.bare⟩

section
variable {X : Cx} {pins : List (Addr × Obj)} {σ : St} {H : Hp} {s s' : Shared}
/-- from a body: what a callee wants -/
theorem Inv.env0 (I : Inv X pins σ H s) : Env0 X.prog X.w X.K X.mg X.base X.A X.stack s H :=
  ⟨I.ok.frames, I.ok.mod, I.bs, Nat.le_trans I.ok.bsz I.sz, I.stack, I.stkFree, I.hok, I.bare⟩
/-- behind a call -/
theorem Inv.after {Q : VK} {u : Value} (I : Inv X pins σ H s) (h : CE X.stack X.prog X.w H s Q u s') : EP X pins σ Q u s' := by
  obtain ⟨v, H', os, bare, un, hok, r, q⟩ := h
  obtain ⟨hh, g, d, t, os'⟩ := s'
  obtain rfl : os' = s.os := os
  exact ⟨v, H', I.call (h' := hh) (g' := g) (d' := d) (t' := t) (ch := []) un hok bare (fun b z => absurd z (by simp)), r, q⟩
end

/-! ### calls -/
/-- f(..): the written arguments, then the defaults dvs; E: what is wanted of an exception -/
def tCall (sp : Sp) (dvs : List V) (E : XK) (t : TA) : TE := fun σ H Q => t σ H fun vs H1 => sp (vs ++ dvs) H1 Q E
/-- o.m(..) of an instance of the class at C -/
def tMeth (C : Addr) (m : Str) (sp : Sp) (dvs : List V) (E : XK) (ta : TE) (t : TA) : TE := fun σ H Q => ta σ H fun x H1 => ∃ a dx fs, x = .ref a ∧ H1 a = some (.ins C dx fs) ∧ fs.lookup m = none ∧
  t σ H1 fun vs H2 => sp (x :: (vs ++ dvs)) H2 Q E
/-- C(..): a new instance and its dict, then __init__ -/
def tMake (C : Addr) (sp : Sp) (dvs : List V) (E : XK) (t : TA) : TE := fun σ H Q => t σ H fun vs H1 => ∀ x dx, H1 x = none → H1 dx = none → dx ≠ x →
  sp (.ref x :: (vs ++ dvs)) (upd (upd H1 dx (.own x)) x (.ins C dx [])) (fun v H2 => v = .non ∧ Q (.ref x) H2) E

/-- how the parameters are bound: us the positional arguments, kw the keywords' values by name, ds the defaults that fill up -/
def Binds (K : PySem.W.Frag) (fd : FuncData) (ps : List Str) (ds : List Value) : Prop :=
  ∀ (s : Shared) (us : List Value), K.In s.heap → (us ++ ds).length = ps.length → BindsTo s fd ⟨us, []⟩ (ps.zip (us ++ ds))
/-- every parameter is given -/
theorem Binds.all {K : PySem.W.Frag} {fd : FuncData} {ps : List Str} (h : ∀ us : List Value, us.length = ps.length → bindArgs fd ⟨us, []⟩ = pure (ps.zip us)) : Binds K fd ps [] := fun s us _ hl => by
  rw [List.append_nil] at hl ⊢
  exact .of_eq (h us hl)

/-- an exception of a callee reaches what this body wants of exceptions -/
def Passes (CX : CXT) (X : Cx) (E : XK) : Prop := ∀ (pins : List (Addr × Obj)) (σ : St) (H : Hp) (s : Shared) (e : Value) (s' : Shared), Inv X pins σ H s → CX X.stack H s E e s' → X.xe e s'

section
variable {X : Cx} {CX : CXT} {k : Nat} {f C : Addr} {fd : FuncData} {ps : List Str} {sp : Sp} {dvs : List V} {ds : List Value} {E : XK} {x m : Str} {p pos apos : Pos} {e o : Expr} {es : List Expr} {ta : TE} {t : TA}

/-- the callee runs -/
theorem run_fn {pins : List (Addr × Obj)} {σ : St} {H : Hp} {s : Shared} {Q : VK} {us : List Value} {vs : List V} (F : FnOk X.prog X.w X.K X.mg X.base CX k f fd ps sp) (hr : Room k X.A) (hb : Binds X.K fd ps ds) (hd : Vals dvs ds) (hx : Passes CX X E)
    (I : Inv X pins σ H s) (r : Vals vs us) (h : sp (vs ++ dvs) H Q E) : wpAny (model X.prog X.w) X.A (call (.ref f) us) (EP X pins σ Q) X.xe s := by
  have r2 : Vals (vs ++ dvs) (us ++ ds) := r.append hd
  have hl : (us ++ ds).length = ps.length := by rw [← r2.length]; exact F.len _ _ _ _ h
  refine wpAny_call (codeAny_mono (F.run X.A X.stack s H ⟨us, []⟩ (us ++ ds) (vs ++ dvs) Q E hr I.env0 (hb s us I.kIn hl) r2 h) fun r s' hq => ?_)
  cases r with
  | error e => exact hx pins σ H s e s' I hq
  | ok fl =>
    cases fl with
    | ret u => exact I.after hq
    | next => exact False.elim hq
    | brk => exact False.elim hq
    | cont => exact False.elim hq

theorem pe_call (F : FnOk X.prog X.w X.K X.mg X.base CX k f fd ps sp) (hr : Room k X.A) (hg : Gl X x) (hm : X.mg x = some (.ref f)) (hk : PySem.W.keepIn X.K (.ref f) = true) (hb : Binds X.K fd ps ds) (hd : Vals dvs ds) (hx : Passes CX X E)
    (ha : PA X (e :: es) t) (hdb : (x == ("__debug__" : Str)) = false := by decide) (he : starEach (e :: es) X.env = (false, eval e X.env) :: starEach es X.env := by rfl) (hpl : (backTo pos (starEach es X.env)).any (·.1) = false := by rfl) :
    PE X (.Call (.Name x p) (e :: es) [] pos) (tCall sp dvs E t) := by
  intro pins s σ H Q I h
  refine wpAny_Call_Name_kw (ld_glob I hg hm ?_ hdb)
  refine PySem.W.callWith_K (h₀ := X.base) I.ok.mod.kin hk (thn (ha pos pins s σ H _ I h) fun us s1 ⟨vs, H1, I1, r, q⟩ => ⟨I1.kIn, ?_⟩) he hpl
  exact run_fn F hr hb hd hx I1 r q
/-- o.m(e, ..) -/
theorem pe_meth {pl : Sem Bool} (he : PE X o ta) (c : Cls X.K C) (hm : Meth X.K C m f) (F : FnOk X.prog X.w X.K X.mg X.base CX k f fd ps sp) (hr : Room k X.A) (hb : Binds X.K fd ps ds) (hd : Vals dvs ds) (hx : Passes CX X E) (ha : PA X (e :: es) t)
    (hst : starEach (e :: es) X.env = (false, eval e X.env) :: starEach es X.env := by rfl) (hpl : (backTo pos (starEach es X.env)).any (·.1) = false := by rfl)
    (ht : eval (.Call (.Attribute o m apos) (e :: es) [] pos) X.env = (do
      let ov ← eval o X.env
      standAt apos.atName
      let (f, first) ← holding [ov] (getMethod ov m pl)
      callWith pos f first (backTo pos (starEach (e :: es) X.env)) (backToKw pos (keywordEach [] X.env))) := by rfl) :
    PE X (.Call (.Attribute o m apos) (e :: es) [] pos) (tMeth C m sp dvs E ta t) := by
  intro pins s σ H Q I h
  refine PySem.W.methodCall_KW (pl := pl) (thn (he pins s σ H _ I h) fun u s1 ⟨x, H1, I1, rx, a, dx, fs, ex, ea, l, q⟩ => ?_) ht
  subst ex
  obtain rfl : u = Value.ref a := rx
  refine getmeth_ok I1 ea c hm l ?_
  refine PySem.W.callWith_K (first := [.ref a]) (h₀ := X.base) I.ok.mod.kin hm.kp (thn (ha pos pins s1 σ H1 _ I1 q) fun us s2 ⟨vs, H2, I2, r, q2⟩ => ⟨I2.kIn, ?_⟩) hst hpl
  exact run_fn (us := .ref a :: us) (vs := .ref a :: vs) F hr hb hd hx I2 (.cons rfl r) q2
/-- o.m() -/
theorem pe_meth0 {pl : Sem Bool} (he : PE X o ta) (c : Cls X.K C) (hm : Meth X.K C m f) (F : FnOk X.prog X.w X.K X.mg X.base CX k f fd ps sp) (hr : Room k X.A) (hb : Binds X.K fd ps ds) (hd : Vals dvs ds) (hx : Passes CX X E)
    (ht : eval (.Call (.Attribute o m apos) [] [] pos) X.env = (do
      let ov ← eval o X.env
      standAt apos.atName
      let (f, first) ← holding [ov] (getMethod ov m pl)
      callWith pos f first (backTo pos (starEach [] X.env)) (backToKw pos (keywordEach [] X.env))) := by rfl) :
    PE X (.Call (.Attribute o m apos) [] [] pos) (tMeth C m sp dvs E ta tNil) := by
  intro pins s σ H Q I h
  refine PySem.W.methodCall_KW (pl := pl) (thn (he pins s σ H _ I h) fun u s1 ⟨x, H1, I1, rx, a, dx, fs, ex, ea, l, q⟩ => ?_) ht
  subst ex
  obtain rfl : u = Value.ref a := rx
  refine getmeth_ok I1 ea c hm l ?_
  exact PySem.W.callWith_K0 (first := [.ref a]) I1.kIn hm.kp (run_fn (us := [.ref a]) (vs := [.ref a]) F hr hb hd hx I1 (.cons rfl .nil) q)

/-- what a class must have to be made -/
structure Mk (K : PySem.W.Frag) (C f : Addr) : Prop where
  makes : PySem.W.makesIn K C = true
  init : PySem.W.findIn K (.ref C) "__init__" = some (some (.ref f))
  fn : PySem.W.isFn K (.ref f) = true
  kp : PySem.W.keepIn K (.ref C) = true

theorem run_make {pins : List (Addr × Obj)} {σ : St} {H : Hp} {s : Shared} {Q : VK} {us : List Value} {vs : List V} (M : Mk X.K C f) (F : FnOk X.prog X.w X.K X.mg X.base CX k f fd ps sp) (hr : Room (k + 1) X.A) (hb : Binds X.K fd ps ds) (hd : Vals dvs ds)
    (hx : Passes CX X E) (I : Inv X pins σ H s) (r : Vals vs us)
    (h : ∀ x dx, H x = none → H dx = none → dx ≠ x → sp (.ref x :: (vs ++ dvs)) (upd (upd H dx (.own x)) x (.ins C dx [])) (fun v H2 => v = .non ∧ Q (.ref x) H2) E) :
    wpAny (model X.prog X.w) X.A (call (.ref C) us) (EP X pins σ Q) X.xe s := by
  have hq := h (s.heap.objs.size + 1) s.heap.objs.size (I.hok.fresh (Nat.le_succ _)) (I.hok.fresh (Nat.le_refl _)) (Nat.ne_of_lt (Nat.lt_succ_self _))
  have I2 := Inv.made (C := C) I
  have r2 : Vals (V.ref (s.heap.objs.size + 1) :: (vs ++ dvs)) (Value.ref (s.heap.objs.size + 1) :: (us ++ ds)) := .cons rfl (r.append hd)
  have hl : (Value.ref (s.heap.objs.size + 1) :: us ++ ds).length = ps.length := by
    have e := r2.length
    rw [F.len _ _ _ _ hq] at e
    exact e.symm
  refine wpAny_call (make_map (f := f) I.kIn M.makes M.init (beq_iff_eq.mp M.fn) (codeAny_mono (F.run _ X.stack _ _ ⟨Value.ref (s.heap.objs.size + 1) :: us, []⟩ (Value.ref (s.heap.objs.size + 1) :: (us ++ ds)) _ _ E (hr.make C us [])
    (I2.env0.make C us []) (hb _ (Value.ref (s.heap.objs.size + 1) :: us) I2.kIn hl) r2 hq) fun r s' hq' => ?_))
  cases r with
  | error e => exact hx pins σ _ _ e s' I2 hq'
  | ok fl =>
    cases fl with
    | ret u =>
      obtain ⟨v, H', I3, rv, ev, q3⟩ := I2.after hq'
      subst ev
      exact ⟨rv, ⟨V.ref (s.heap.objs.size + 1), H', I3, rfl, q3⟩⟩
    | next => exact False.elim hq'
    | brk => exact False.elim hq'
    | cont => exact False.elim hq'
theorem pe_make (M : Mk X.K C f) (F : FnOk X.prog X.w X.K X.mg X.base CX k f fd ps sp) (hr : Room (k + 1) X.A) (hg : Gl X x) (hm : X.mg x = some (.ref C)) (hb : Binds X.K fd ps ds) (hd : Vals dvs ds) (hx : Passes CX X E)
    (ha : PA X (e :: es) t) (hdb : (x == ("__debug__" : Str)) = false := by decide) (he : starEach (e :: es) X.env = (false, eval e X.env) :: starEach es X.env := by rfl) (hpl : (backTo pos (starEach es X.env)).any (·.1) = false := by rfl) :
    PE X (.Call (.Name x p) (e :: es) [] pos) (tMake C sp dvs E t) := by
  intro pins s σ H Q I h
  refine wpAny_Call_Name_kw (ld_glob I hg hm ?_ hdb)
  refine PySem.W.callWith_K (h₀ := X.base) I.ok.mod.kin M.kp (thn (ha pos pins s σ H _ I h) fun us s1 ⟨vs, H1, I1, r, q⟩ => ⟨I1.kIn, ?_⟩) he hpl
  exact run_make M F hr hb hd hx I1 r q
end

/-! ### keywords -/
section
variable {X : Cx} {CX : CXT} {k : Nat} {f C : Addr} {fd : FuncData} {ps ks : List Str} {sp : Sp} {E : XK} {x m : Str} {p pos apos kpos : Pos} {e o : Expr} {es : List Expr} {kws : List Keyword} {te ta : TE} {t tk : TA} {nm : Option Str}
variable {g : List Value → List Value → List Value} {gV : List V → List V → List V}
end

/-! ### a def's body keeps its promise -/
/-- names: the parameters first -/
structure FnScope (N P : List Str) (sc : Scope) : Prop where
  kind : sc.kind = .function
  co : sc.isCoroutine = false
  gen : sc.isGenerator = false
  nd : N.Nodup
  pre : N.take P.length = P
  par : ∀ x ∈ P, sc.names.lookup x = some .local ∨ sc.names.lookup x = some .cell
  nofree : ∀ y ∈ sc.names, y.2 ≠ .free

theorem bindL_out {kindOf : Str → Option NameKind} {x : Str} : ∀ {binds : List (Str × Value)} {m : Str → Option Value}, (∀ v, (x, v) ∉ binds) → bindL kindOf binds m x = m x
  | [], _, _ => rfl
  | (n, v) :: r, m, h => by
    unfold bindL
    rw [bindL_out fun w hw => h w (List.mem_cons_of_mem _ hw)]
    split
    · have : x ≠ n := by rintro rfl; exact h v List.mem_cons_self
      simp [this]
    · rfl
theorem bindC_out {kindOf : Str → Option NameKind} {x : Str} : ∀ {binds : List (Str × Value)} {m : Str → Option Value}, (∀ v, (x, v) ∉ binds) → bindC kindOf binds m x = m x
  | [], _, _ => rfl
  | (n, v) :: r, m, h => by
    unfold bindC
    rw [bindC_out fun w hw => h w (List.mem_cons_of_mem _ hw)]
    split
    · rfl
    · have : x ≠ n := by rintro rfl; exact h v List.mem_cons_self
      simp [this]
theorem bindL_get {kindOf : Str → Option NameKind} {x : Str} {v : Value} : ∀ {P : List Str} {vs : List Value} {i : Nat} {m : Str → Option Value}, P.Nodup → P[i]? = some x → vs[i]? = some v → kindOf x = some .local →
    bindL kindOf (P.zip vs) m x = some v
  | [], _, _, _, _, h, _, _ => by simp at h
  | _ :: _, [], _, _, _, _, h, _ => by simp at h
  | p :: P, w :: vs, 0, m, nd, h1, h2, hk => by
    simp at h1 h2; subst h1; subst h2
    show bindL kindOf ((p, w) :: P.zip vs) m p = _
    unfold bindL
    rw [bindL_out fun v hv => (List.nodup_cons.mp nd).1 (List.of_mem_zip hv).1, if_pos hk]
    simp
  | p :: P, w :: vs, i + 1, m, nd, h1, h2, hk => by
    show bindL kindOf ((p, w) :: P.zip vs) m x = _
    unfold bindL
    exact bindL_get (i := i) (List.nodup_cons.mp nd).2 (by simpa using h1) (by simpa using h2) hk
theorem bindC_get {kindOf : Str → Option NameKind} {x : Str} {v : Value} : ∀ {P : List Str} {vs : List Value} {i : Nat} {m : Str → Option Value}, P.Nodup → P[i]? = some x → vs[i]? = some v → kindOf x ≠ some .local →
    bindC kindOf (P.zip vs) m x = some v
  | [], _, _, _, _, h, _, _ => by simp at h
  | _ :: _, [], _, _, _, _, h, _ => by simp at h
  | p :: P, w :: vs, 0, m, nd, h1, h2, hk => by
    simp at h1 h2; subst h1; subst h2
    show bindC kindOf ((p, w) :: P.zip vs) m p = _
    unfold bindC
    rw [bindC_out fun v hv => (List.nodup_cons.mp nd).1 (List.of_mem_zip hv).1, if_neg hk]
    simp
  | p :: P, w :: vs, i + 1, m, nd, h1, h2, hk => by
    show bindC kindOf ((p, w) :: P.zip vs) m x = _
    unfold bindC
    exact bindC_get (i := i) (List.nodup_cons.mp nd).2 (by simpa using h1) (by simpa using h2) hk

/-- the names' values at the entry -/
def start (N : List Str) (vs : List V) : St := vs.map some ++ List.replicate (N.length - vs.length) none

/-- the context of a def's body, at its entry; an exception leaves the frame, then lies as CX says -/
def cxOf (CX : CXT) (P : Program) (w : World) (K : PySem.W.Frag) (mg : Str → Option Value) (base : Heap) (N : List Str) (qual : Str) (scope : Scope) (f : Addr) (cd : Value) (A : Around) (outer : List Env) (s : Shared) (H : Hp) (E : XK) : Cx where
  prog := P
  w := w
  K := K
  mg := mg
  base := base
  A := A.deeper (envOfC qual scope s.heap.objs.size f cd)
  N := N
  s₀ := s
  H₀ := H
  env := envOfC qual scope s.heap.objs.size f cd
  outer := outer
  stack := envOfC qual scope s.heap.objs.size f cd :: outer
  ex := []
  calm := true
  fn := fun _ => true
  pn := []
  xe := fun e s' => wpAny (model P w) (A.deeper (envOfC qual scope s.heap.objs.size f cd)) (leaving (envOfC qual scope s.heap.objs.size f cd) e) (fun _ s'' => CX outer H s E e s'') (fun e' s'' => CX outer H s E e' s'') s'

theorem cell_has {sc : Scope} {n : Nat} {x : Str} (h : sc.names.lookup x = some .cell) : ∃ c, (cellsFrom n sc.names []).lookup x = some c := by
  have q := PySem.W.cellsFrom_some sc.names n [] (.inl h)
  exact Option.isSome_iff_exists.mp q

theorem inv_start {CX : CXT} {P : Program} {w : World} {K : PySem.W.Frag} {mg : Str → Option Value} {base : Heap} {N ps : List Str} {qual : Str} {scope : Scope} {f : Addr} {cd : Value} {A : Around} {outer : List Env} {s s1 : Shared} {H : Hp} {E : XK} {us : List Value} {vs : List V}
    (S : FnScope N ps scope) (hd : A.handled = none) (e0 : Env0 P w K mg base A outer s H) (hl : vs.length = ps.length) (r : Vals vs us)
    (x : InCallC s s.heap.objs.size (bindL (envOfC qual scope s.heap.objs.size f cd).kindOf (ps.zip us) fun _ => none) (cellsFrom (s.heap.objs.size + 1) scope.names []) (bindC (envOfC qual scope s.heap.objs.size f cd).kindOf (ps.zip us) fun _ => none) s1) :
    Inv (cxOf CX P w K mg base N qual scope f cd A outer s H E) [] (start N vs) H s1 := by
  have hpl : ps.length ≤ N.length := by have := congrArg List.length S.pre; rw [List.length_take] at this; omega
  obtain ⟨h1, tk, rfl, hk⟩ := x.done
  have noA : ∀ b : Addr, b ∉ (cxOf CX P w K mg base N qual scope f cd A outer s H E).ex := fun b z => absurd (show b ∈ ([] : List Addr) from z) (by simp)
  refine ⟨⟨e0.mod, S.kind, rfl, rfl, Nat.le_refl _, fun y z c h1 h2 => ?_, fun y hy => ?_, fun y c _ h => ?_, fun _ => hd, Around.frames_deeper e0.frames, .inr ⟨rfl, rfl⟩, fun b z => absurd z (noA b), e0.bs, e0.bsz, fun b _ _ => noA b, fun b z => absurd z (noA b), e0.funs, e0.frf⟩,
    rfl, e0.bare, Un.kept hk, ⟨_, x.toInCall.ns, fun i y v h1 h2 h3 => ?_⟩, fun y c h => ⟨_, x.cell y c h⟩, e0.hok.fresh (Nat.le_refl _), fun y c h => ?_, fun p hp => absurd (show p ∈ ([] : List (Addr × Obj)) from hp) (by simp), e0.hok.kept hk, ?_⟩
  · exact name_of_addr x.apart (PySem.mem_of_lookup h1) (PySem.mem_of_lookup h2)
  · have hy : scope.names.lookup y = some .cell ∨ scope.names.lookup y = some .free := hy
    rcases hy with hy | hy
    · exact cell_has hy
    · exact absurd rfl (S.nofree _ (PySem.mem_of_lookup hy))
  · exact Nat.le_of_lt (x.above y c (PySem.mem_of_lookup h))
  · have hi : i < vs.length := by
      unfold start at h2
      by_cases hi : i < vs.length
      · exact hi
      · rw [List.getElem?_append_right (by simpa using hi)] at h2
        rw [List.getElem?_replicate] at h2
        split at h2 <;> cases h2
    have ha : vs[i]? = some v := by
      unfold start at h2
      rw [List.getElem?_append_left (by simpa using hi), List.getElem?_map] at h2
      cases e : vs[i]? with
      | none => rw [e] at h2; cases h2
      | some a => rw [e] at h2; cases h2; rfl
    obtain ⟨u, hu, rv⟩ := r.get ha
    have hp : ps[i]? = some y := by
      rw [← S.pre, List.getElem?_take_of_lt (by omega)]; exact h1
    have ndP : ps.Nodup := by rw [← S.pre]; exact S.nd.sublist (List.take_sublist _ _)
    refine ⟨u, rv, ?_⟩
    rcases S.par y (List.mem_of_getElem? hp) with k | k
    · exact .inl ⟨k, bindL_get ndP hp hu k⟩
    · obtain ⟨c, e⟩ := cell_has (n := s.heap.objs.size + 1) k
      refine .inr ⟨.inl k, c, e, ?_⟩
      have q := x.cell y c e
      rw [bindC_get ndP hp hu (by show scope.names.lookup y ≠ _; rw [k]; decide)] at q
      exact q
  · exact e0.hok.fresh (Nat.le_of_lt (x.above y c (PySem.mem_of_lookup h)))
  · unfold start
    show _ = N.length
    rw [List.length_append, List.length_map, List.length_replicate]
    omega

/-- THE RULE: a def (or a method) of the text, by its body. The body's reading t is chosen for each entry; it is run at the parameters' values -/
theorem fn_of {CX : CXT} {P : Program} {w : World} {K : PySem.W.Frag} {mg : Str → Option Value} {base : Heap} {k : Nat} {f : Addr} {name qual : Str} {params : Arguments} {body : List Stmt} {scope : Scope} {dV kV doc pm cdv ct oc : Value} {an od : Option Addr}
    {osl : Array (Option Value)} {N ps : List Str} {sp : Sp} (lk : K.lookup f = some ⟨oc, od, .func (PySem.W.fnOf name qual params body scope dV kV doc pm an cdv ct), osl⟩) (hcd : PySem.W.codeIn K cdv qual = true) (S : FnScope N ps scope)
    (len : ∀ vs H Q E, sp vs H Q E → vs.length = ps.length)
    (hbody : ∀ (A : Around) (outer : List Env) (s : Shared) (H : Hp) (vs : List V) (Q : VK) (E : XK), Room k (A.deeper (envOfC qual scope s.heap.objs.size f cdv)) → sp vs H Q E →
      ∃ t, PSs (cxOf CX P w K mg base N qual scope f cdv A outer s H E) body t ∧ t { nx := fun _ H' => Q .non H', rt := Q } (start N vs) H) :
    FnOk P w K mg base CX (k + 1) f (PySem.W.fnOf name qual params body scope dV kV doc pm an cdv ct) ps sp := by
  refine ⟨len, fun A outer s H args us vs Q E hr e0 hb r hsp => ?_⟩
  have hl := len _ _ _ _ hsp
  have KX : K.In s.heap := e0.mod.kin.keeps fun b o e => (e0.bs b o e).1
  have lim : s.heap.NoLimit := e0.mod.nolimit.keeps fun b o e => (e0.bs b o e).1
  have hkind : ∀ y ∈ ps.zip us, scope.names.lookup y.1 = some .local ∨ (scope.names.lookup y.1 = some .cell ∧ ((cellsFrom (s.heap.objs.size + 1) scope.names []).lookup y.1).isSome = true) := fun ⟨n, v⟩ hy => by
    rcases S.par n (List.of_mem_zip hy).1 with q | q
    · exact .inl q
    · exact .inr ⟨q, PySem.W.cellsFrom_some _ _ _ (.inl q)⟩
  refine codeAny_call_function hr.depth (KX _ _ lk) rfl S.co S.gen rfl (PySem.W.codeRec_of KX hcd) (hb _ _ _ _ ?_)
  refine wpAny_newFunctionEnv_cells S.kind hkind fun env he s1 x => ?_
  subst he
  refine ⟨lim.keeps x.toInCall.keep, codeAny_func ?_⟩
  obtain ⟨t, ht, hq⟩ := hbody A outer s H vs Q E (hr.deeper _) hsp
  have I : Inv (cxOf CX P w K mg base N qual scope f cdv A outer s H E) [] (start N vs) H s1 := inv_start S hr.hd e0 hl r x
  refine wpAny_mono (ht [] s1 (start N vs) H _ I hq) (fun fl s' hs => ?_) fun e s' hs => hs
  have fin : ∀ {σ' : St} {H' : Hp} {v : V} {u : Value}, Inv (cxOf CX P w K mg base N qual scope f cdv A outer s H E) [] σ' H' s' → RelV v u → Q v H' → CE outer P w H s Q u s' :=
    fun {σ' H' v u} J rv q => ⟨v, H', J.os, J.bare, J.base, J.hok, rv, q⟩
  cases fl with
  | ret u =>
    obtain ⟨v, σ', H', J, rv, q⟩ := hs
    exact fin J rv q
  | next =>
    obtain ⟨σ', H', J, q⟩ := hs
    exact fin (v := V.non) (u := Value.none) J rfl q
  | brk =>
    obtain ⟨_, _, _, q⟩ := hs
    exact False.elim q
  | cont =>
    obtain ⟨_, _, _, q⟩ := hs
    exact False.elim q
end L2

namespace L2
open PySem PySem.Spec PyProof.Rows
section
variable {X : Cx} {x : Str} {p pos : Pos} {e : Expr} {es : List Expr} {t : TA} {id T : String} {r : List V → Hp → VK → Prop}

def tCB (r : List V → Hp → VK → Prop) (t : TA) : TE := fun σ H Q => t σ H fun vs H1 => r vs H1 Q
/-- f(e, ..), f a built-in function -/
theorem pe_callB (hc : CallR X (.builtin id) r) (hg : Gl X x) (hm : X.mg x = none) (hv : bootBuiltins x = some (.builtin id)) (ha : PA X (e :: es) t) (hn : x ≠ "__name__" := by decide) (hdb : (x == ("__debug__" : Str)) = false := by decide)
    (he : starEach (e :: es) X.env = (false, eval e X.env) :: starEach es X.env := by rfl) (hpl : (backTo pos (starEach es X.env)).any (·.1) = false := by rfl) : PE X (.Call (.Name x p) (e :: es) [] pos) (tCB r t) := by
  intro pins s σ H Q I h
  refine wpAny_Call_Name_kw (ld_blt I hg hm hv ?_ hn hdb)
  exact PyProof.Rows.callWith_builtin1 (thn (ha pos pins s σ H _ I h) fun us s1 ⟨vs, H1, I1, r1, q1⟩ => hc pins s1 σ H1 vs us Q I1 r1 q1) he hpl
/-- T(e, ..), T a built-in type -/
theorem pe_callTy (hc : CallR X (.type T) r) (hg : Gl X x) (hm : X.mg x = none) (hv : bootBuiltins x = some (.type T)) (ha : PA X (e :: es) t) (hn : x ≠ "__name__" := by decide) (hdb : (x == ("__debug__" : Str)) = false := by decide)
    (he : starEach (e :: es) X.env = (false, eval e X.env) :: starEach es X.env := by rfl) (hpl : (backTo pos (starEach es X.env)).any (·.1) = false := by rfl) : PE X (.Call (.Name x p) (e :: es) [] pos) (tCB r t) := by
  intro pins s σ H Q I h
  refine wpAny_Call_Name_kw (ld_blt I hg hm hv ?_ hn hdb)
  exact PyProof.Rows.callWith_type1 (thn (ha pos pins s σ H _ I h) fun us s1 ⟨vs, H1, I1, r1, q1⟩ => hc pins s1 σ H1 vs us Q I1 r1 q1) he hpl
end
end L2

namespace HT
open PySem PyProof.Rows

section
open PySem.SeqAt
open PySem.AutoSeq1 (wpAny_loadPart')
open PySem.MeetsSeq PySem.MeetsSeq2 PySem.MeetsSeq3

end

section
variable {prog : Program} {w : World} {A : Around} {E : Value → Shared → Prop} {s : Shared}

/-! ### t[a:b], not the whole -/
/-- a slice's bound as a place among n (d where it is left out) -/
def sIx (n d : Nat) : Option Int → Nat
  | none => d
  | some v => if v < 0 then (v + (n : Int)).toNat else min v.toNat n
theorem sIx_none (n d : Nat) : sIx n d none = d := rfl
theorem sIx_nat (n d k : Nat) : sIx n d (some (k : Int)) = min k n := by
  show (if (k : Int) < 0 then ((k : Int) + (n : Int)).toNat else min (k : Int).toNat n) = min k n
  rw [if_neg (by omega), Int.toNat_natCast]
end
end HT

namespace L2
open PySem PySem.Spec PyProof.Rows

/-! ### the parts of a slice -/
abbrev TO := St → Hp → (Option Int → Hp → Prop) → Prop
/-- a slice's part (left out, or an int) -/
def PO (X : Cx) (e : Option Expr) (t : TO) : Prop :=
  ∀ (pins : List (Addr × Obj)) (s : Shared) (σ : St) (H : Hp) (Q : Option Int → Hp → Prop), Inv X pins σ H s → t σ H Q →
    wpAny (model X.prog X.w) X.A (evalPart e X.env) (fun u s' => ∃ o H', Inv X pins σ H' s' ∧ IsPart u o ∧ Q o H') X.xe s
def tNoPart : TO := fun _ H Q => Q none H
def tPart (t : TE) : TO := fun σ H Q => t σ H fun x H1 => ∃ i, x = .int i ∧ Q (some i) H1

section
variable {X : Cx} {e : Expr} {te : TE} {lo hi : Option Expr} {tl th : TO} {pos p2 : Pos}

theorem po_none : PO X none tNoPart := by
  intro pins s σ H Q I h
  rw [evalPart_none]
  exact wpAny_pure ⟨none, H, I, .none, h⟩
theorem po_some (h : PE X e te) : PO X (some e) (tPart te) := by
  intro pins s σ H Q I hw
  rw [evalPart_some]
  refine thn (h pins s σ H _ I hw) fun u s1 ⟨x, H1, I1, r1, q1⟩ => ?_
  obtain ⟨i, rfl, q⟩ := q1
  obtain ⟨t, rfl⟩ := r1
  exact ⟨some i, H1, I1, .int i t, q⟩

/-- what a slice of a value is, by values: the slice object stands at sl -/
def SlR (X : Cx) (r : V → Option Int → Option Int → Hp → VK → Prop) : Prop :=
  ∀ (pins : List (Addr × Obj)) (s : Shared) (σ : St) (H : Hp) (x : V) (v vl vu : Value) (lo hi : Option Int) (sl : Addr) (Q : VK), Inv X pins σ H s → RelV x v → s.heap.IsSliceOf sl vl vu .none → IsPart vl lo → IsPart vu hi → r x lo hi H Q →
    ∃ T id, typeLookup (.type T) "__getitem__" = pure (some (.builtin id)) ∧ s.TypeIs v T ∧ wpAny (model X.prog X.w) X.A (getItem v (.ref sl)) (EP X pins σ Q) X.xe s
theorem SlR.or {r r' : V → Option Int → Option Int → Hp → VK → Prop} (h : SlR X r) (h' : SlR X r') : SlR X (fun x lo hi H Q => r x lo hi H Q ∨ r' x lo hi H Q) := by
  intro pins s σ H x v vl vu lo hi sl Q I rx hs pl pu q
  rcases q with q | q
  · exact h pins s σ H x v vl vu lo hi sl Q I rx hs pl pu q
  · exact h' pins s σ H x v vl vu lo hi sl Q I rx hs pl pu q
def tSl (r : V → Option Int → Option Int → Hp → VK → Prop) (te : TE) (tl th : TO) : TE := fun σ H Q => te σ H fun x H1 => tl σ H1 fun l H2 => th σ H2 fun u H3 => r x l u H3 Q
/-- a[lo:hi], any a -/
theorem pe_slice {r : V → Option Int → Option Int → Hp → VK → Prop} (hr : SlR X r) (he : PE X e te) (hl : PO X lo tl) (hu : PO X hi th) : PE X (.Subscript e (.Slice lo hi none p2) pos) (tSl r te tl th) := by
  intro pins s σ H Q I h
  refine Subscript_ (thn (he pins s σ H _ I h) fun v s1 ⟨x, H1, I1, r1, q1⟩ => ?_)
  refine wpAny_Slice (thn (hl pins s1 σ H1 _ I1 q1) fun vl s2 ⟨l, H2, I2, pl, q2⟩ => thn (hu pins s2 σ H2 _ I2 q2) fun vu s3 ⟨u, H3, I3, pu, q3⟩ => ?_)
  rw [evalPart_none]
  refine wpAny_pure ?_
  have I4 : Inv X pins σ H3 { s3 with heap := s3.heap.push { cls := .type "slice", data := .fields #[vl, vu, .none] } } := I3.kept (t' := s3.toks) fun b ob q => Heap.get?_push_of_some _ q
  obtain ⟨T, id, hT, ht, hg⟩ := hr pins { s3 with heap := s3.heap.push { cls := .type "slice", data := .fields #[vl, vu, .none] } } σ H3 x v vl vu l u s3.heap.objs.size Q I4 r1 (Heap.IsSliceOf.new ..) pl pu q3
  show wpAny (model X.prog X.w) X.A (subscriptTail e (.Slice lo hi none p2) v (.ref s3.heap.objs.size)) (EP X pins σ Q) X.xe { s3 with heap := s3.heap.push { cls := .type "slice", data := .fields #[vl, vu, .none] } }
  exact tail_any (ops := [.ref s3.heap.objs.size, v]) ht hT hg (by with_unfolding_all rfl)

/-- the items of xs[lo:hi] -/
def cutV (xs : List V) (lo hi : Option Int) : List V := (xs.drop (HT.sIx xs.length 0 lo)).take (HT.sIx xs.length xs.length hi - HT.sIx xs.length 0 lo)
theorem cutV_length (xs : List V) (lo hi : Option Int) : (cutV xs lo hi).length ≤ xs.length := by
  unfold cutV
  rw [List.length_take, List.length_drop]
  omega
/-! ### t < u, t + u -/
end
end L2

namespace L2
open PySem PySem.Spec PyProof.Rows

/-! ### places -/
/-- the place that an index of any sign means -/
def ixN (n : Nat) (i : Int) : Option Nat := if 0 ≤ i then (if i < n then some i.toNat else none) else if -(n : Int) ≤ i then some (i + n).toNat else none
def atI {α : Type} (xs : List α) (i : Int) : Option α := (ixN xs.length i).bind fun j => xs[j]?
theorem ixN_seq {n : Nat} {i : Int} {j : Nat} (h : ixN n i = some j) : seqIndex? i n = some j ∧ j < n ∧ -(n : Int) ≤ i ∧ i < n := by
  unfold ixN at h
  by_cases h0 : 0 ≤ i
  · rw [if_pos h0] at h
    by_cases h1 : i < n
    · rw [if_pos h1] at h
      have e : i.toNat = j := Option.some.inj h
      exact ⟨by rw [seqIndex_of h0 h1, e], by omega, by omega, h1⟩
    · rw [if_neg h1] at h; cases h
  · rw [if_neg h0] at h
    by_cases h1 : -(n : Int) ≤ i
    · rw [if_pos h1] at h
      have e : (i + n).toNat = j := Option.some.inj h
      exact ⟨by rw [seqIndex_neg (by omega) h1, e], by omega, h1, by omega⟩
    · rw [if_neg h1] at h; cases h
theorem atI_get {α : Type} {xs : List α} {i : Int} {v : α} (h : atI xs i = some v) : ∃ j, seqIndex? i xs.length = some j ∧ xs[j]? = some v ∧ j < xs.length ∧ -(xs.length : Int) ≤ i ∧ i < xs.length := by
  unfold atI at h
  cases e : ixN xs.length i with
  | none => rw [e] at h; cases h
  | some j =>
    rw [e] at h
    obtain ⟨h1, h2, h3, h4⟩ := ixN_seq e
    exact ⟨j, h1, h, h2, h3, h4⟩
theorem atI_nat {α : Type} {xs : List α} {j : Nat} {v : α} (h : xs[j]? = some v) : atI xs (j : Int) = some v := by
  have hj : j < xs.length := (List.getElem?_eq_some_iff.mp h).1
  have e : ixN xs.length (j : Int) = some j := by
    unfold ixN
    rw [if_pos (by omega), if_pos (by omega)]; simp
  unfold atI; rw [e]; exact h
/-! ### what may be subscripted -/
/-- what stands as an index of a plain subscript -/
def PlainIx (b : Expr) : Prop := ∀ o i, subscripted b false o i = operate [o, i] (getItem o i)
/-- a subscript by values -/
def IxR (X : Cx) (r : R2) : Prop :=
  ∀ (value slice : Expr) (pins : List (Addr × Obj)) (s : Shared) (σ : St) (H : Hp) (x y : V) (v u : Value) (Q : VK), Inv X pins σ H s → RelV x v → RelV y u → r x y H Q →
    subscripted slice false v u = operate [v, u] (getItem v u) → wpAny (model X.prog X.w) X.A (subscriptTail value slice v u) (EP X pins σ Q) X.xe s
/-- a call of a builtin's method by values: the receiver, the arguments -/
def MtR (X : Cx) (id : String) (r : V → List V → Hp → VK → Prop) : Prop :=
  ∀ (pins : List (Addr × Obj)) (s : Shared) (σ : St) (H : Hp) (x : V) (xs : List V) (v : Value) (us : List Value) (Q : VK), Inv X pins σ H s → RelV x v → Vals xs us → r x xs H Q →
    wpAny (model X.prog X.w) X.A (call (.builtin id) (v :: us)) (EP X pins σ Q) X.xe s
section
variable {X : Cx} {a b : Expr} {ta tb : TE} {pos : Pos}
theorem IxR.or {r r' : R2} (h : IxR X r) (h' : IxR X r') : IxR X (fun x y H Q => r x y H Q ∨ r' x y H Q) := by
  intro value slice pins s σ H x y v u Q I rx ry q hs
  rcases q with q | q
  · exact h value slice pins s σ H x y v u Q I rx ry q hs
  · exact h' value slice pins s σ H x y v u Q I rx ry q hs
theorem MtR.or {id : String} {r r' : V → List V → Hp → VK → Prop} (h : MtR X id r) (h' : MtR X id r') : MtR X id (fun x xs H Q => r x xs H Q ∨ r' x xs H Q) := by
  intro pins s σ H x xs v us Q I rx rs q
  rcases q with q | q
  · exact h pins s σ H x xs v us Q I rx rs q
  · exact h' pins s σ H x xs v us Q I rx rs q
/-- a[b] -/
theorem pe_ix {r : R2} (hr : IxR X r) (ha : PE X a ta) (hb : PE X b tb) (hs : PlainIx b) : PE X (.Subscript a b pos) (tOp r ta tb) := by
  intro pins s σ H Q I h
  exact Subscript_ (binT ha hb I h fun v u s2 x y H2 I2 rx ry q => hr a b pins s2 σ H2 x y v u Q I2 rx ry q (hs _ _))

def rIxL (K : PySem.W.Frag) : R2 := fun x y H Q => ∃ p xs i v, x = .ref p ∧ y = .int i ∧ SqL K H p xs ∧ atI xs i = some v ∧ Q v H
def rIxT (K : PySem.W.Frag) : R2 := fun x y H Q => ∃ p xs i v, x = .ref p ∧ y = .int i ∧ SqT K H p xs ∧ atI xs i = some v ∧ Q v H
theorem ix_list : IxR X (rIxL X.K) := by
  intro value slice pins s σ H x y v u Q I rx ry h hs
  obtain ⟨p, xs, i, z, rfl, rfl, hq, he, q⟩ := h
  cases rx
  obtain ⟨t, rfl⟩ := ry
  obtain ⟨its, r, pl, hz⟩ := I.list hq
  obtain ⟨j, h1, h2, h3, h4, h5⟩ := atI_get he
  obtain ⟨w, ew, rw'⟩ := r.get h2
  have hl := r.length
  have hn := line63
  have fin : EP X pins σ Q w s := ⟨z, H, I, rw', q⟩
  by_cases h0 : 0 ≤ i
  · have hj : i.toNat = j := by
      rw [seqIndex_of h0 h5] at h1
      exact Option.some.inj h1
    exact item_listR pl.isList h0 (by omega) (by rw [hj]; simpa using ew) fin hs
  · have hj : (i + (its.toArray.size : Int)).toNat = j := by
      rw [seqIndex_neg (by omega) h4] at h1
      rw [List.size_toArray, ← hl]
      exact Option.some.inj h1
    exact subscriptTail_builtinR (x := w) pl.isList.typeIs slot_list_getitem.lookup
      (wpAny_getItem_list_neg (Q := fun r s' => r = w ∧ EP X pins σ Q r s') pl.isList (by omega) (by rw [List.size_toArray] <;> omega) (by omega) (by rw [hj]; simpa using ew) ⟨rfl, fin⟩) hs
theorem ix_tup : IxR X (rIxT X.K) := by
  intro value slice pins s σ H x y v u Q I rx ry h hs
  obtain ⟨p, xs, i, z, rfl, rfl, hq, he, q⟩ := h
  cases rx
  obtain ⟨t, rfl⟩ := ry
  obtain ⟨its, r, pl, hz⟩ := I.tuple hq
  obtain ⟨j, h1, h2, h3, h4, h5⟩ := atI_get he
  obtain ⟨w, ew, rw'⟩ := r.get h2
  have hl := r.length
  have hn := line63
  have fin : EP X pins σ Q w s := ⟨z, H, I, rw', q⟩
  exact subscriptTail_builtinR (x := w) pl.typeIs slot_tuple_getitem.lookup
    (getItem_tuple (j := j) (Q := fun r s' => r = w ∧ EP X pins σ Q r s') pl (by omega) (by omega) (by rw [List.size_toArray, ← hl]; exact h1) (by simpa using ew) ⟨rfl, fin⟩) hs
/-! ### xs[i] = v, any sign -/
/-- the list's object behind a store -/
theorem mapSeq_set (its : List Value) (n j : Nat) (u : Value) : Obj.mapSeq (·.setIfInBounds j u) { cls := .type "list", data := .seq its.toArray n } = { cls := .type "list", data := .seq (its.set j u).toArray n } := by
  simp [Obj.mapSeq]
theorem Inv.lst {pins : List (Addr × Obj)} {σ : St} {H : Hp} {s : Shared} {p : Addr} {xs : List V} (I : Inv X pins σ H s) (h : H p = some (.lst xs)) :
    ∃ (its : List Value) (n : Nat), Vals xs its ∧ s.heap.get? p = some { cls := .type "list", data := .seq its.toArray n } ∧ xs.length ≤ sizeLine := by
  obtain ⟨z, its, n, r, e⟩ := I.hok p _ h
  exact ⟨its, n, r, e, z⟩
/-- the list at p is written by an update of its object -/
theorem Inv.lstUpd {pins : List (Addr × Obj)} {σ : St} {H : Hp} {s : Shared} {p : Addr} {xs ys : List V} {its its' : List Value} {n n' : Nat} {f : Obj → Obj} (I : Inv X pins σ H s) (h : H p = some (.lst xs))
    (ho : s.heap.get? p = some { cls := .type "list", data := .seq its.toArray n }) (hf : f { cls := .type "list", data := .seq its.toArray n } = { cls := .type "list", data := .seq its'.toArray n' }) (r : Vals ys its') (hz : ys.length ≤ sizeLine) (t : Nat) :
    Inv X pins σ (upd H p (.lst ys)) { s with heap := s.heap.update p f, toks := t } := by
  have e : (s.heap.update p f).get? p = some { cls := .type "list", data := .seq its'.toArray n' } := by
    rw [Heap.get?_update_self f ho (by rw [hf] <;> rfl), hf]
  refine I.write (x := p) (e := p) (by rw [h]; trivial) (.inl rfl) (fun b u hb q => (Heap.get?_update_other _ _ (Ne.symm hb)).trans q) ⟨_, e⟩ ?_
  exact ⟨hz, its', n', r, e⟩
def rSetL : V → V → V → Hp → (Hp → Prop) → Prop := fun o i v H Q => ∃ p xs k j, o = .ref p ∧ i = .int k ∧ H p = some (.lst xs) ∧ ixN xs.length k = some j ∧ Q (upd H p (.lst (xs.set j v)))
theorem set_list : PSet X rSetL := by
  intro pins s σ H o i v ov iv u Q I ro ri rv h
  obtain ⟨p, xs, k, j, rfl, rfl, hp, hj, q⟩ := h
  cases ro
  obtain ⟨t, rfl⟩ := ri
  obtain ⟨its, n, r, ho, hz⟩ := I.lst hp
  obtain ⟨h1, h2, h3, h4⟩ := ixN_seq hj
  have hl := r.length
  have hn := line63
  have I' : Inv X pins σ (upd H p (.lst (xs.set j v))) { s with heap := s.heap.update p (Obj.mapSeq (·.setIfInBounds j u)) } :=
    I.lstUpd hp ho (mapSeq_set its n j u) (r.set rv j) (by rw [List.length_set]; exact hz) s.toks
  by_cases h0 : 0 ≤ k
  · have hk : k.toNat = j := by
      rw [seqIndex_of h0 h4] at h1
      exact Option.some.inj h1
    exact PySem.W.ki_setAt ho h0 (by omega) (by rw [List.size_toArray, ← hl]; exact h4) (by rw [hk]; exact ⟨_, I', q⟩)
  · have hk : (k + (its.toArray.size : Int)).toNat = j := by
      rw [seqIndex_neg (by omega) h3] at h1
      rw [List.size_toArray, ← hl]
      exact Option.some.inj h1
    exact PySem.W.ki_setBack ho (by omega) (by rw [List.size_toArray, ← hl]; exact h3) (by omega) (by rw [hk]; exact ⟨_, I', q⟩)

/-! ### slices -/
theorem slice_bounds (lo hi : Option Int) (n : Nat) : (sliceBounds lo hi none n).1 = ((HT.sIx n 0 lo : Nat) : Int) ∧ (sliceBounds lo hi none n).2.1 = ((HT.sIx n n hi : Nat) : Int) ∧ (sliceBounds lo hi none n).2.2 = 1 := by
  refine ⟨?_, ?_, rfl⟩
  · cases lo with
    | none => simp [sliceBounds, HT.sIx]
    | some i =>
      simp only [sliceBounds, HT.sIx, Option.getD_none, show (1 : Int) > 0 by decide, if_true]
      by_cases h : i < 0
      · simp only [h, if_true] <;> omega
      · simp only [h, if_false] <;> omega
  · cases hi with
    | none => simp [sliceBounds, HT.sIx]
    | some i =>
      simp only [sliceBounds, HT.sIx, Option.getD_none, show (1 : Int) > 0 by decide, if_true]
      by_cases h : i < 0
      · simp only [h, if_true] <;> omega
      · simp only [h, if_false] <;> omega
theorem slicePick_cut (its : List Value) (lo hi : Option Int) : slicePick its.toArray lo hi none = ((its.drop (HT.sIx its.length 0 lo)).take (HT.sIx its.length its.length hi - HT.sIx its.length 0 lo)).toArray := by
  obtain ⟨h1, h2, h3⟩ := slice_bounds lo hi its.toArray.size
  unfold slicePick
  rw [h1, h2, h3]
  simp only [sliceRange_one, pick_run, List.size_toArray] <;> rfl
/-- xs[lo:hi] of a list: a new list -/
def rSlL (K : PySem.W.Frag) : V → Option Int → Option Int → Hp → VK → Prop := fun x lo hi H Q => ∃ a xs, x = .ref a ∧ SqL K H a xs ∧ ∀ p, H p = none → Q (.ref p) (upd H p (.lst (cutV xs lo hi)))
theorem sl_list : SlR X (rSlL X.K) := by
  intro pins s σ H x v vl vu lo hi sl Q I rx hs pl pu h
  obtain ⟨a, xs, rfl, hx, q⟩ := h
  cases rx
  obtain ⟨its, r, ht, hz⟩ := I.list hx
  have hlen := r.length
  refine ⟨"list", _, slot_list_getitem.lookup, ht.isList.typeIs, ?_⟩
  refine wpAny_getItem_list_slice ht.isList hs pl pu .none (by simp) ?_ (by rw [List.size_toArray] <;> omega)
  rw [slicePick_cut, ← hlen]
  refine ⟨.ref s.heap.objs.size, _, I.laid (t' := s.toks) (o := .lst (cutV xs lo hi)) (fun b ob q => Heap.get?_push_of_some _ q) (Nat.le_refl _) ?_, rfl, q _ (I.hok.fresh (Nat.le_refl _))⟩
  exact ⟨Nat.le_trans (cutV_length xs lo hi) hz, _, 0, (r.drop (HT.sIx xs.length 0 lo)).take (HT.sIx xs.length xs.length hi - HT.sIx xs.length 0 lo), Heap.get?_push_size _ rfl⟩

/-! ### in, not in: flat items -/
def flatV : V → Bool
  | .non => true
  | .bl _ => true
  | .int _ => true
  | .str _ => true
  | _ => false
/-- == of flat values -/
def eqV : V → V → Bool
  | .non, .non => true
  | .bl a, .bl b => a == b
  | .bl a, .int b => (if a then 1 else 0) == b
  | .int a, .bl b => a == (if b then 1 else 0)
  | .int a, .int b => a == b
  | .str a, .str b => a == b
  | _, _ => false
theorem eqAt_V {A : Around} {s : Shared} {y x : V} {u v : Value} (ry : RelV y u) (rx : RelV x v) (fy : flatV y = true) (fx : flatV x = true) : SeqAt.EqAt A s u v (eqV y x) := by
  cases y with
  | non =>
    cases ry
    cases x with
    | non => cases rx; exact SeqAt.EqAt.same _
    | bl b => cases rx; exact SeqAt.EqAt.none_bool b
    | int b => obtain ⟨t, rfl⟩ := rx; exact SeqAt.EqAt.none_int b t
    | str b => obtain ⟨t, rfl⟩ := rx; exact SeqAt.EqAt.none_str b t
    | _ => exact absurd (show false = true from fx) Bool.false_ne_true
  | bl a =>
    cases ry
    cases x with
    | non => cases rx; exact SeqAt.EqAt.bool_none a
    | bl b => cases rx; exact SeqAt.EqAt.bool_bool a b
    | int b => obtain ⟨t, rfl⟩ := rx; exact SeqAt.EqAt.bool_int a b t
    | str b => obtain ⟨t, rfl⟩ := rx; exact SeqAt.EqAt.bool_str a b t
    | _ => exact absurd (show false = true from fx) Bool.false_ne_true
  | int a =>
    obtain ⟨t', rfl⟩ := ry
    cases x with
    | non => cases rx; exact SeqAt.EqAt.int_none a t'
    | bl b => cases rx; exact SeqAt.EqAt.int_bool a t' b
    | int b => obtain ⟨t, rfl⟩ := rx; exact SeqAt.EqAt.int_int a t' b t
    | str b => obtain ⟨t, rfl⟩ := rx; exact SeqAt.EqAt.int_str a t' b t
    | _ => exact absurd (show false = true from fx) Bool.false_ne_true
  | str a =>
    obtain ⟨t', rfl⟩ := ry
    cases x with
    | non => cases rx; exact SeqAt.EqAt.str_none a t'
    | bl b => cases rx; exact SeqAt.EqAt.str_bool a t' b
    | int b => obtain ⟨t, rfl⟩ := rx; exact SeqAt.EqAt.str_int a t' b t
    | str b => obtain ⟨t, rfl⟩ := rx; exact SeqAt.EqAt.str_str a t' b t
    | _ => exact absurd (show false = true from fx) Bool.false_ne_true
  | _ => exact absurd (show false = true from fy) Bool.false_ne_true
/-- the items' answers, read off the values (a value's own answer does not lean on its token) -/
def eqU (x : V) (u : Value) : Bool := match u with
  | .none => eqV .non x
  | .bool b => eqV (.bl b) x
  | .int i _ => eqV (.int i) x
  | .str z _ => eqV (.str z) x
  | _ => false
theorem eqU_of {x y : V} {u : Value} (r : RelV y u) (f : flatV y = true) : eqU x u = eqV y x := by
  cases y with
  | non => cases r; rfl
  | bl b => cases r; rfl
  | int i => obtain ⟨t, rfl⟩ := r; rfl
  | str z => obtain ⟨t, rfl⟩ := r; rfl
  | _ => exact absurd (show false = true from f) Bool.false_ne_true
theorem any_eqU {x : V} : ∀ {xs : List V} {us : List Value}, Vals xs us → xs.all flatV = true → us.any (eqU x) = xs.any fun y => eqV y x
  | _, _, .nil, _ => rfl
  | y :: xs, u :: us, .cons r t, f => by
    rw [List.all_cons, Bool.and_eq_true] at f
    rw [List.any_cons, List.any_cons, eqU_of r f.1, any_eqU t f.2]
theorem mem_eqAt {A : Around} {s : Shared} {x : V} {v : Value} (rx : RelV x v) (fx : flatV x = true) : ∀ {xs : List V} {us : List Value}, Vals xs us → xs.all flatV = true → ∀ u ∈ us, SeqAt.EqAt A s u v (eqU x u)
  | _, _, .nil, _ => fun u hu => by cases hu
  | y :: xs, u :: us, .cons r t, f => fun u' hu => by
    rw [List.all_cons, Bool.and_eq_true] at f
    rcases List.mem_cons.mp hu with rfl | hu
    · rw [eqU_of r f.1]; exact eqAt_V r rx f.1 fx
    · exact mem_eqAt rx fx t f.2 u' hu
def inV (x : V) (xs : List V) : Bool := xs.any fun y => eqV y x
/-- x in a list or tuple of flat items -/
def rIn (K : PySem.W.Frag) (neg : Bool) : R2 := fun x y H Q => ∃ p xs, y = .ref p ∧ (SqL K H p xs ∨ SqT K H p xs) ∧ flatV x = true ∧ xs.all flatV = true ∧ Q (.bl (if neg then !inV x xs else inV x xs)) H
theorem op_in_seq : OpR X (compareOp .In) (rIn X.K false) := by
  intro pins s σ H x y v u Q I rx ry h
  obtain ⟨p, xs, rfl, hq, fx, fs, q⟩ := h
  cases ry
  rcases hq with hq | hq
  · obtain ⟨its, r, pl, hz⟩ := I.list hq
    refine SeqAt.in_listAt (eqU x) pl.isList (fun w hw => mem_eqAt rx fx r fs w (by simpa using hw)) ⟨.bl _, H, I, rfl, ?_⟩
    rw [show its.toArray.any (eqU x) = its.any (eqU x) by simp, any_eqU r fs]
    exact q
  · obtain ⟨its, r, pl, hz⟩ := I.tuple hq
    refine SeqAt.in_tupleAt (eqU x) pl (fun w hw => mem_eqAt rx fx r fs w (by simpa using hw)) ⟨.bl _, H, I, rfl, ?_⟩
    rw [show its.toArray.any (eqU x) = its.any (eqU x) by simp, any_eqU r fs]
    exact q
theorem op_notIn_seq : OpR X (compareOp .NotIn) (rIn X.K true) := by
  intro pins s σ H x y v u Q I rx ry h
  obtain ⟨p, xs, rfl, hq, fx, fs, q⟩ := h
  cases ry
  rcases hq with hq | hq
  · obtain ⟨its, r, pl, hz⟩ := I.list hq
    refine SeqAt.notIn_listAt (eqU x) pl.isList (fun w hw => mem_eqAt rx fx r fs w (by simpa using hw)) ⟨.bl _, H, I, rfl, ?_⟩
    rw [show its.toArray.any (eqU x) = its.any (eqU x) by simp, any_eqU r fs]
    exact q
  · obtain ⟨its, r, pl, hz⟩ := I.tuple hq
    refine SeqAt.notIn_tupleAt (eqU x) pl (fun w hw => mem_eqAt rx fx r fs w (by simpa using hw)) ⟨.bl _, H, I, rfl, ?_⟩
    rw [show its.toArray.any (eqU x) = its.any (eqU x) by simp, any_eqU r fs]
    exact q
/-! ### len, list(x), tuple(x) of any list or tuple that is read -/
theorem CallR.or {f : Value} {r r' : List V → Hp → VK → Prop} (h : CallR X f r) (h' : CallR X f r') : CallR X f (fun xs H Q => r xs H Q ∨ r' xs H Q) := by
  intro pins s σ H xs us Q I rs q
  rcases q with q | q
  · exact h pins s σ H xs us Q I rs q
  · exact h' pins s σ H xs us Q I rs q
theorem call_list_of : CallR X (.type "list") (fun xs H Q => ∃ p ys, xs = [.ref p] ∧ (SqL X.K H p ys ∨ SqT X.K H p ys) ∧ ∀ l, H l = none → Q (.ref l) (upd H l (.lst ys))) := by
  intro pins s σ H xs us Q I r h
  obtain ⟨p, ys, rfl, hq, q⟩ := h
  obtain ⟨u, rfl, rx⟩ := vals1 r
  cases rx
  have fin : ∀ (its : List Value), Vals ys its → ys.length ≤ sizeLine → ∀ (h' : Heap) (c' : Nat), (∀ b o', s.heap.get? b = some o' → h'.get? b = some o') →
      h'.get? s.heap.objs.size = some { cls := .type "list", dict := none, data := .seq its.toArray c', slots := #[] } → EP X pins σ Q (.ref s.heap.objs.size) { s with heap := h' } := fun its r' hz h' c' kp e =>
    ⟨.ref s.heap.objs.size, _, I.laid (t' := s.toks) kp (Nat.le_refl _) (show ObjOk X.prog X.w _ h' _ (.lst ys) from ⟨hz, its, c', r', e⟩), rfl, q _ (I.hok.fresh (Nat.le_refl _))⟩
  rcases hq with hq | hq
  · obtain ⟨its, r', pl, hz⟩ := I.list hq
    have hlen := r'.length
    obtain ⟨o, ho, hc, n, hd⟩ := pl.isList
    exact call_list_seq p (.inl rfl) ho hc hd (fun h' c' kp e => fin its r' hz h' c' kp e) (by simp only [List.size_toArray] <;> omega)
  · obtain ⟨its, r', pl, hz⟩ := I.tuple hq
    have hlen := r'.length
    obtain ⟨o, ho, hc, n, hd⟩ := pl
    exact call_list_seq p (.inr rfl) ho hc hd (fun h' c' kp e => fin its r' hz h' c' kp e) (by simp only [List.size_toArray] <;> omega)
/-! ### the call of a builtin's method: o.m(..) -/
/-- the value is of that builtin type -/
def tyV (K : PySem.W.Frag) (T : String) (x : V) (H : Hp) : Prop := match x with
  | .str _ => T = "str"
  | .int _ => T = "int"
  | .ref p => (T = "list" ∧ ∃ xs, SqL K H p xs) ∨ (T = "tuple" ∧ ∃ o, K.lookup p = some o ∧ o.cls = .type "tuple" ∧ o.dict = none) ∨
      (T = "dict" ∧ ((∃ kvs, H p = some (.dK kvs)) ∨ ∃ kvs, H p = some (.dT kvs))) ∨ (T = "set" ∧ ∃ S n, H p = some (.set S n))
  | _ => False
theorem tyV_is {pins : List (Addr × Obj)} {σ : St} {H : Hp} {s : Shared} {T : String} {x : V} {v : Value} (I : Inv X pins σ H s) (r : RelV x v) (ty : tyV X.K T x H) :
    s.TypeIs v T ∧ ∀ a, v = .ref a → ∃ ob, s.heap.get? a = some ob ∧ ob.dict = none := by
  cases x with
  | str z =>
    obtain ⟨t, rfl⟩ := r
    cases (show T = "str" from ty)
    exact ⟨typeIs_str s z t, fun _ e => nomatch e⟩
  | int i =>
    obtain ⟨t, rfl⟩ := r
    cases (show T = "int" from ty)
    exact ⟨typeIs_int s i t, fun _ e => nomatch e⟩
  | ref p =>
    cases r
    rcases ty with ⟨rfl, xs, hq⟩ | ⟨rfl, o, hk, hc, hd⟩ | ⟨rfl, hk⟩ | ⟨rfl, S, n, hk⟩
    · obtain ⟨its, _, pl, _⟩ := I.list hq
      refine ⟨pl.isList.typeIs, fun a e => ?_⟩
      cases e
      obtain ⟨o, n, e, c, hd, _⟩ := pl
      exact ⟨o, e, hd⟩
    · refine ⟨⟨o, I.kIn p o hk, hc⟩, fun a e => ?_⟩
      cases e
      exact ⟨o, I.kIn _ o hk, hd⟩
    · have z : ∃ o, s.heap.get? p = some o ∧ o.ExactDict := by
        rcases hk with ⟨kvs, hk⟩ | ⟨kvs, hk⟩
        · obtain ⟨_, _, _, _, o, _, _, e, ex, _⟩ := I.hok p _ hk
          exact ⟨o, e, ex⟩
        · obtain ⟨_, _, _, _, o, _, _, e, ex, _⟩ := I.hok p _ hk
          exact ⟨o, e, ex⟩
      obtain ⟨o, e, ex⟩ := z
      refine ⟨⟨o, e, ex.1⟩, fun a e2 => ?_⟩
      cases e2
      exact ⟨o, e, ex.2.1⟩
    · obtain ⟨o, _, _, _, e, ex, _⟩ := I.hok p _ hk
      refine ⟨⟨o, e, ex.1⟩, fun a e2 => ?_⟩
      cases e2
      exact ⟨o, e, ex.2.1⟩
  | _ => exact False.elim ty
def tBM0 (K : PySem.W.Frag) (T : String) (r : V → List V → Hp → VK → Prop) (to : TE) : TE := fun σ H Q => to σ H fun x H1 => tyV K T x H1 ∧ r x [] H1 Q
def tBM (K : PySem.W.Frag) (T : String) (r : V → List V → Hp → VK → Prop) (to : TE) (t : TA) : TE := fun σ H Q => to σ H fun x H1 => tyV K T x H1 ∧ t σ H1 fun xs H2 => r x xs H2 Q
variable {o e : Expr} {es : List Expr} {to : TE} {t : TA} {name : Str} {apos cpos : Pos} {T id : String} {r : V → List V → Hp → VK → Prop}
theorem pe_bm0 (pa : PlainAttrs T) (slot : Slot T name id) (hty : typeOf (.builtin id) = pure (.type "method_descriptor")) (hm : MtR X id r) (ho : PE X o to)
    (hbase : attributeBase o name X.env (eval o X.env) = eval o X.env := by rfl) (hline : (apos.endLine == cpos.line) = true := by rfl) : PE X (.Call (.Attribute o name apos) [] [] cpos) (tBM0 X.K T r to) := by
  intro pins s σ H Q I h
  refine wpAny_Call_method0_late hbase hline (thn (ho pins s σ H _ I h) fun v s1 ⟨x, H1, I1, r1, ty, q1⟩ => ?_)
  obtain ⟨h1, h2⟩ := tyV_is I1 r1 ty
  exact ⟨T, id, pa, slot, hty, h1, h2, Calls.callWith_builtin rfl (PySem.evalArgs_none (hm pins s1 σ H1 x [] v [] Q I1 r1 .nil q1))⟩
theorem pe_bm (pa : PlainAttrs T) (slot : Slot T name id) (hty : typeOf (.builtin id) = pure (.type "method_descriptor")) (hm : MtR X id r) (ho : PE X o to) (ha : PA X (e :: es) t)
    (hbase : attributeBase o name X.env (eval o X.env) = eval o X.env := by rfl)
    (hfew : ((backTo cpos (starEach (e :: es) X.env)).all (fun x => !x.1) && (backToKw cpos (keywordEach [] X.env)).all (fun x => x.1.isSome)
      && decide ((e :: es).length + ([] : List Keyword).length + (if ([] : List Keyword).isEmpty then 0 else 1) < 30)) = true := by rfl)
    (hline : (apos.endLine == cpos.line) = true := by rfl) (hs : starEach (e :: es) X.env = (false, eval e X.env) :: starEach es X.env := by rfl) (hplain : (backTo cpos (starEach es X.env)).any (·.1) = false := by rfl) :
    PE X (.Call (.Attribute o name apos) (e :: es) [] cpos) (tBM X.K T r to t) := by
  intro pins s σ H Q I h
  refine wpAny_Call_method_late hbase hfew hline rfl (thn (ho pins s σ H _ I h) fun v s1 ⟨x, H1, I1, r1, ty, q1⟩ => ?_)
  obtain ⟨h1, h2⟩ := tyV_is I1 r1 ty
  refine ⟨T, id, pa, slot, hty, h1, h2, ?_⟩
  have hA := ha cpos pins s1 σ H1 _ I1 q1
  rw [hs] at hA ⊢
  refine Calls.callWith_builtin (by show (false || (backTo cpos (starEach es X.env)).any (·.1)) = false; rw [hplain] <;> rfl) (Calls.evalArgs_plain ?_)
  exact thn hA fun us s2 ⟨vs, H2, I2, r2, q2⟩ => hm pins s2 σ H2 x vs v us Q I2 r1 r2 q2
/- xs.append(e), list.index on a module's tuple .. are MtR facts of 06m -/
end
end L2

namespace L2
open PySem PySem.Spec PyProof.Rows

def MtM (X : Cx) (id : String) (r : V → List V → Hp → VK → Prop) : Prop :=
  ∀ (pins : List (Addr × Obj)) (s : Shared) (σ : St) (H : Hp) (x : V) (xs : List V) (v : Value) (us : List Value) (Q : VK), Inv X pins σ H s → RelV x v → Vals xs us → r x xs H Q →
    wpAny (model X.prog X.w) X.A (call (.builtin id) (v :: us)) (EP X pins σ Q) X.xe s

/-! ### lists of values -/
theorem Vals.one : ∀ {x : V} {us : List Value}, Vals [x] us → ∃ u, us = [u] ∧ RelV x u
  | _, _, .cons r .nil => ⟨_, rfl, r⟩
theorem Vals.two : ∀ {x y : V} {us : List Value}, Vals [x, y] us → ∃ u v, us = [u, v] ∧ RelV x u ∧ RelV y v
  | _, _, _, .cons r (.cons q .nil) => ⟨_, _, rfl, r, q⟩
theorem Vals.zero : ∀ {us : List Value}, Vals [] us → us = []
  | _, .nil => rfl
section
variable {X : Cx} {pins : List (Addr × Obj)} {σ : St} {H : Hp} {s : Shared} {l b : Addr} {xs ys zs : List V}

/-! ### the two steps: a tracked list is rewritten, a new list is laid -/
theorem Inv.lset {its its' : List Value} {n : Nat} {f : Array Value → Array Value} {t' : Nat} (I : Inv X pins σ H s) (hH : H l = some (.lst xs))
    (e : s.heap.get? l = some { cls := .type "list", data := .seq its.toArray n }) (hf : f its.toArray = its'.toArray) (hv : Vals ys its') (hz : ys.length ≤ sizeLine) :
    Inv X pins σ (upd H l (.lst ys)) { s with heap := s.heap.update l (Obj.mapSeq f), toks := t' } := by
  have q := PySem.IsL.update e f
  rw [hf] at q
  refine I.write (x := l) (e := l) (by rw [hH]; exact trivial) (.inl rfl) (fun b' u hb hu => (Heap.get?_update_other s.heap (Obj.mapSeq f) (Ne.symm hb)).trans hu) ⟨_, q⟩ ?_
  exact ⟨hz, its', _, hv, q⟩
theorem Inv.lnew {its : List Value} {t' : Nat} (I : Inv X pins σ H s) (hv : Vals ys its) (hz : ys.length ≤ sizeLine) :
    Inv X pins σ (upd H s.heap.objs.size (.lst ys)) { s with heap := s.heap.push { cls := .type "list", data := .seq its.toArray }, toks := t' } :=
  I.laid (fun _ _ q => Heap.get?_push_of_some _ q) (Nat.le_refl _) ⟨hz, its, 0, hv, Heap.get?_push_size _ rfl⟩
theorem Inv.fresh (I : Inv X pins σ H s) : H s.heap.objs.size = none := I.hok.fresh (Nat.le_refl _)
theorem Inv.lstM (I : Inv X pins σ H s) (hH : H l = some (.lst xs)) : xs.length ≤ sizeLine ∧ ∃ (its : List Value) (n : Nat), Vals xs its ∧ xs.length = its.length ∧ s.heap.get? l = some { cls := .type "list", data := .seq its.toArray n } := by
  obtain ⟨z, its, n, r, e⟩ := I.hok l _ hH
  exact ⟨z, its, n, r, r.length, e⟩

end

section
variable {X : Cx}

/-! ### methods -/
def rAppend : V → List V → Hp → VK → Prop := fun x vs H Q => ∃ l xs y, x = .ref l ∧ vs = [y] ∧ H l = some (.lst xs) ∧ xs.length < sizeLine ∧ Q .non (upd H l (.lst (xs ++ [y])))
theorem mt_append : MtM X "list.append" rAppend := by
  intro pins s σ H x vs v us Q I rx rv h
  obtain ⟨l, xs, y, rfl, rfl, hH, hz, q⟩ := h
  cases rx
  obtain ⟨u, rfl, ru⟩ := rv.one
  obtain ⟨z, its, n, r, hl, e⟩ := I.lstM hH
  refine call_meets F.slot_list_append ⟨_, e, rfl⟩ F.entry_list_append (F.args_list_append_2 _ _) (PySem.list_append l its.toArray n u (by rw [List.size_toArray]; omega)) ⟨e, ?_⟩
  refine ⟨.non, _, I.lset (its' := its ++ [u]) hH e (by simp) (r.append (.cons ru .nil)) ?_, rfl, q⟩
  rw [List.length_append, List.length_singleton]
  omega

def rClear : V → List V → Hp → VK → Prop := fun x vs H Q => ∃ l xs, x = .ref l ∧ vs = [] ∧ H l = some (.lst xs) ∧ Q .non (upd H l (.lst []))
theorem mt_clear : MtM X "list.clear" rClear := by
  intro pins s σ H x vs v us Q I rx rv h
  obtain ⟨l, xs, rfl, rfl, hH, q⟩ := h
  cases rx
  have hus := rv.zero
  subst hus
  obtain ⟨z, its, n, r, hl, e⟩ := I.lstM hH
  refine call_meets F.slot_list_clear ⟨_, e, rfl⟩ F.entry_list_clear (F.args_list_clear_1 _) (AutoSeq1.list_clear_list_0 l its.toArray n (by rw [List.size_toArray]; omega)) ⟨e, ?_⟩
  exact ⟨.non, _, I.lset (its' := []) (ys := []) hH e rfl .nil (Nat.zero_le _), rfl, q⟩

/-! ### list + list, list += list, list * int -/
def rCat : R2 := fun x y H Q => ∃ l b xs zs, x = .ref l ∧ y = .ref b ∧ H l = some (.lst xs) ∧ H b = some (.lst zs) ∧ xs.length + zs.length ≤ sizeLine ∧ ∀ p, H p = none → Q (.ref p) (upd H p (.lst (xs ++ zs)))
theorem op_cat : OpR X (binaryOp .Add) rCat := by
  intro pins s σ H x y v u Q I rx ry h
  obtain ⟨l, b, xs, zs, rfl, rfl, hH, hB, hz, q⟩ := h
  cases rx
  cases ry
  obtain ⟨z, its, n, r, hl, e⟩ := I.lstM hH
  obtain ⟨z2, its2, n2, r2, hl2, e2⟩ := I.lstM hB
  refine PySem.P.add_list e e2 ?_ (by rw [List.size_toArray, List.size_toArray]; omega)
  have ea : its.toArray ++ its2.toArray = (its ++ its2).toArray := by simp
  rw [ea]
  exact ⟨.ref _, _, I.lnew (t' := s.toks) (r.append r2) (by rw [List.length_append]; omega), rfl, q _ I.fresh⟩
/-! ### del xs[i] -/
end

/-! ### xs[a:b] = ys -/
section
variable {prog : Program} {w : World} {A : Around} {E : Value → Shared → Prop} {s : Shared}
end

section
variable {X : Cx}
end
end L2

namespace Att
open PySem PySem.W PySem.Calls PyProof.Rows

/-! ### the script -/
theorem ints_of_wellAll {P : Params} {h : Heap} : ∀ (ns : List Int) (vs : List Value), WellAll P h vs (ns.map WData.int) → IntsAre vs ns := by
  intro ns
  induction ns with
  | nil =>
    intro vs w
    rw [List.map_nil] at w
    cases w
    exact .nil
  | cons n ns ih =>
    intro vs w
    rw [List.map_cons] at w
    cases w with
    | cons a b =>
      cases a
      exact .cons _ _ (ih _ b)

theorem script_of {l : OpenLaw} {n : Nat} (hn : l.most = some n) {P : Params} {h : Heap} {args : List WData} {vals : List Value}
    (hpre : l.row.toRowW.claim.pre args = true) (hwl : WellAll P h vals args) :
    ∃ a vs ns, vals = [Value.ref a] ∧ args = [WData.list (ns.map WData.int)] ∧ h.get? a = some { cls := .type "list", data := .seq vs.toArray } ∧ IntsAre vs ns ∧ ns.length ≤ n := by
  have hsh : WShape.hasAll [] args [.list .int] = true := (pre_splitW hpre).1
  have hc : l.pre.holds [] { args := args } = true := (pre_splitW hpre).2
  obtain ⟨d, r, rfl, h1, h2⟩ := hasAllW_cons hsh
  obtain rfl := hasAllW_nil h2
  obtain ⟨xs, rfl, h3⟩ := hasW_list h1
  obtain ⟨ns, rfl⟩ := items_int h3
  have hlen : ns.length ≤ n := by
    unfold OpenLaw.pre at hc
    have h4 : (WTm.not (.lt (.lit (.int (n : Int))) (.len (.arg 0)))).holds [] { args := [.list (ns.map .int)] } = true := by
      have h4 := (holds_andW hc).1
      rw [hn] at h4
      exact h4
    have h5 := condW_of h4 (w_not (w_lt w_lit (w_len_list (w_arg rfl))))
    rw [List.length_map] at h5
    refine Nat.le_of_not_lt fun q => ?_
    have q' : (n : Int) < ((ns.length : Nat) : Int) := by omega
    first
      | (rw [decide_eq_true q'] at h5; exact absurd h5 (by decide))
      | (simp at h5; omega)
  cases hwl with
  | cons w1 w2 =>
    cases w2
    cases w1 with
    | list ho hall => exact ⟨_, _, ns, rfl, rfl, ho, ints_of_wellAll ns _ hall, hlen⟩

theorem post_true (l : OpenLaw) (args : List WData) : l.row.toRowW.claim.post args (.bool true) args = true :=
  postW_of (r := l.row.toRowW) (X := (true == true))
    (show WShape.has [] (.bool true) .bool = true by first | rfl | decide | simp [WShape.has, WShape.arms, WShape.armsAll])
    (show (WTm.eq .res (.lit (.bool true))).value [] { args := args, res := some (.bool true), after := args } = some (.bool (true == true)) from w_eq_bool (w_res rfl) w_lit) rfl

/-! ### the attachment: holds_open's last premise (the goal 'hc' behind k_head) from a wpAny of the law's body -/
/-- the same from a codeAny of the CALL (for a layer whose function contracts speak of calls) -/
theorem attach_call {l : OpenLaw} {n : Nat} {q : Program} {loose : List Str} {XP : (Str → Option Value) → Heap → Prop} {YP : World → Heap → Prop} {d : DefRec}
    (hn : l.most = some n) (hdf : d.params.defaults = [])
    (call : ∀ (w : World) (s₀ s₁ : Shared) (mg mb : Str → Option Value) (fa : Addr) (o : Obj) (pm cd doc : Value) (a : Addr) (vs : List Value) (ns : List Int),
      Ground q loose [] XP w s₀ mg mb s₁.heap → YP w s₁.heap →
      s₁.heap.get? fa = some o → o.data = .func (docDef d.name d.params d.body d.scope pm cd doc) → s₁.heap.CodeRec cd d.name → mg d.name = some (.ref fa) →
      s₁.heap.get? a = some { cls := .type "list", data := .seq vs.toArray } → IntsAre vs ns → ns.length ≤ n → s₁.gens = #[] →
      codeAny (model l.prog w) callerA (.call (.ref fa) ⟨[.ref a], []⟩) (fun r s' => r = .ok (.ret (.bool true)) ∧ OldK s₁.heap s'.heap ∧ s'.os = s₁.os ∧ AllBare s'.gens) s₁) :
    WalkO q loose XP YP l.row.toRowW d [] (fun f vs => PySem.call f vs) := by
  intro w s₀ s₁ mg mb G Y fa o pm cd doc dV kV ho hd hcd hD hmg hg args vals as hpre hlay hrd hwl hlo
  obtain rfl : dV = .none := Dflts.none hD hdf
  obtain rfl : kV = .none := Dflts.noKw hD
  obtain ⟨a, vs, ns, rfl, rfl, hobj, hints, hlen⟩ := script_of hn hpre hwl
  refine enter_call (codeAny_mono (call w s₀ s₁ mg mb fa o pm cd doc a vs ns G Y ho (fd_plain hd) hcd hmg hobj hints hlen hg) fun r s' hq => ?_)
  obtain ⟨rfl, h2, h3, h4⟩ := hq
  exact ⟨.inl ⟨.bool true, .bool true, [], rfl, fun _ => rfl, .bool true, post_true l _, fun _ => ⟨List.Pairwise.nil, fun _ hm => (nomatch hm)⟩⟩, h2, h3, h4⟩

/-! ### rules over ANY heap (no ledger) from facts about the written part K: the library's own take a ledger (News) for what they write -/
section
variable {prog : Program} {w : World} {A : Around} {E : Value → Shared → Prop} {s : Shared} {K : Frag}

/-! the whole heap as the ledger: makes every rule that writes through a ledger a rule over any heap -/
def ledger (h : Heap) (L d : Addr) : List (Addr × Obj) := (List.range h.objs.size).filterMap fun a => if a = L ∨ a = d then none else (h.get? a).map fun o => (a, o)
end
end Att

namespace L2
open PySem PySem.Spec PyProof.Rows

theorem vals_ints : ∀ {vs : List Value} {ns : List Int}, IntsAre vs ns → Vals (ns.map V.int) vs
  | _, _, .nil => .nil
  | _, _, .cons n t h => .cons ⟨t, rfl⟩ (vals_ints h)

/-- nothing is tracked but the script, known to the object (or it is an object of the module) -/
def Only (H : Hp) : Prop := ∀ b, H b = none ∨ ∃ o xs, H b = some (.frz o (.lst xs))

/-- THE HEAD: the law's promise, at the heap behind the top. F, the promise of the law's def, may use that base is part of the heap (so K.In base, base.Ns mainGlobals mg stand in Mod) -/
theorem law_call {P : Program} {w : World} {K : PySem.W.Frag} {mg mb : Str → Option Value} {CX : CXT} {k : Nat} {fa a : Addr} {fd : FuncData} {x : Str} {sp : Sp} {s₁ : Shared} {vs : List Value} {ns : List Int}
    (KX : K.In s₁.heap) (hns : s₁.heap.Ns mainGlobals mg) (hb : s₁.heap.Ns builtinsNs mb) (hbb : ∀ x : Str, x ≠ "__name__" → mb x = bootBuiltins x) (hlim : s₁.heap.NoLimit) (hg : s₁.gens = #[])
    (ha : s₁.heap.get? a = some { cls := .type "list", data := .seq vs.toArray }) (hi : IntsAre vs ns) (hl : ns.length ≤ sizeLine) (hr : Room k callerA)
    (F : ∀ base : Heap, K.In base → base.Ns mainGlobals mg → FnOk P w K mg base CX k fa fd [x] sp) (hbind : ∀ (s : Shared) (u : Value), BindsTo s fd ⟨[u], []⟩ [(x, u)])
    (hsp : ∀ H : Hp, Only H → SqL K H a (ns.map V.int) → sp [.ref a] H (fun v _ => v = .bl true) fun _ _ _ => False)
    (hCX : ∀ H e s', CX [] H s₁ (fun _ _ _ => False) e s' → False) :
    codeAny (model P w) callerA (.call (.ref fa) ⟨[.ref a], []⟩) (fun r s' => r = .ok (.ret (.bool true)) ∧ OldK s₁.heap s'.heap ∧ s'.os = s₁.os ∧ AllBare s'.gens) s₁ := by
  have rv := vals_ints hi
  have lenV := hi.length
  -- from an abstract heap in which nothing but the script may be tracked
  have core : ∀ H : Hp, Only H → SqL K H a (ns.map V.int) → HOk P w H s₁.heap → (∀ b, H b ≠ none → b = a) → (H a ≠ none → K.lookup a = none) →
      codeAny (model P w) callerA (.call (.ref fa) ⟨[.ref a], []⟩) (fun r s' => r = .ok (.ret (.bool true)) ∧ OldK s₁.heap s'.heap ∧ s'.os = s₁.os ∧ AllBare s'.gens) s₁ := by
    intro H hO hS hok hA hK
    have base_of : ∀ {b : Addr} {o : Obj}, s₁.heap.get? b = some o → H b = none → (hidT s₁.heap H).get? b = some o := fun e n => hidT_get e n
    have noA : ∀ {b : Addr} {o : Obj} {es : Array DictEntry} {ep : Nat}, s₁.heap.get? b = some o → o.data = .dict es ep → H b = none := fun {b o es ep} e d => by
      cases q : H b with
      | none => rfl
      | some u =>
        have e' : b = a := hA b (by rw [q]; simp)
        subst e'
        rw [ha] at e; cases e
        have d' : Data.seq vs.toArray _ = Data.dict es ep := d
        cases d'
    have nsK : ∀ {b : Addr} {m : Str → Option Value}, s₁.heap.Ns b m → (hidT s₁.heap H).Ns b m := fun {b m} ⟨o, es, ep, e, d, r⟩ => ⟨o, es, ep, base_of e (noA e d), d, r⟩
    have hKb : K.In (hidT s₁.heap H) := fun b o e => base_of (KX b o e) (by
      cases q : H b with
      | none => rfl
      | some u =>
        have e' : b = a := hA b (by rw [q]; simp)
        subst e'
        rw [hK (by rw [q]; simp)] at e; cases e)
    have hM : Mod K mg (hidT s₁.heap H) := ⟨hKb, nsK hns, ⟨mb, nsK hb, hbb⟩, let ⟨mc, h1, h2⟩ := hlim; ⟨mc, nsK h1, h2⟩⟩
    have e0 : Env0 P w K mg (hidT s₁.heap H) callerA [] s₁ H := ⟨rfl, hM, fun b o e => of_hidT e, Nat.le_of_eq (hidT_size _ _), trivial, fun b hb => absurd (show b ∈ ([] : List Addr) from hb) (by simp), hok, .of_eq hg⟩
    refine codeAny_mono ((F _ hKb (nsK hns)).run callerA [] s₁ H ⟨[.ref a], []⟩ [.ref a] [.ref a] _ _ hr e0 (hbind s₁ (.ref a)) (.cons rfl .nil) (hsp H hO hS)) fun r s' h => ?_
    cases r with
    | error e => exact (hCX H e s' h).elim
    | ok fl =>
      cases fl with
      | next => exact False.elim h
      | brk => exact False.elim h
      | cont => exact False.elim h
      | ret u =>
        obtain ⟨v, H', os, bare, un, hok', r', q⟩ := h
        have q' : v = .bl true := q
        subst q'
        obtain rfl : u = Value.bool true := r'
        refine ⟨rfl, OldK.of_keep fun b o e => ?_, os, bare⟩
        cases q : H b with
        | none => exact un.keep b o e q (by intro z; exact absurd (show b ∈ ([] : List Addr) from z) (by simp)) (by simp)
        | some u =>
          rcases hO b with z | ⟨ob, xs, z⟩
          · rw [q] at z; cases z
          · have z2 := un.frzs b ob _ z
            obtain ⟨e1, _⟩ := hok b _ z
            obtain ⟨e2, _⟩ := hok' b _ z2
            rw [e] at e1; cases e1
            exact e2
  cases hk : K.lookup a with
  | some o =>
    -- the script is one of the module's own objects
    have e := KX a o hk
    rw [ha] at e
    cases e
    refine core (fun _ => none) (fun _ => .inl rfl) (.inr ⟨_, vs.toArray, _, hk, rfl, rfl, rfl, by rw [List.size_toArray, lenV]; exact hl, by simpa using rv⟩) (fun b u z => by have z' : (none : Option HO) = some u := z; cases z') (fun b z => absurd rfl z) fun z => absurd rfl z
  | none =>
    refine core (fun b => if b = a then some (.frz { cls := .type "list", data := .seq vs.toArray } (.lst (ns.map V.int))) else none) (fun b => ?_) (.inl (.inr ⟨{ cls := .type "list", data := .seq vs.toArray }, if_pos rfl⟩)) (fun b u z => ?_) (fun b z => ?_) fun _ => hk
    · by_cases hb : b = a
      · exact .inr ⟨_, _, if_pos hb⟩
      · exact .inl (if_neg hb)
    · by_cases hb : b = a
      · have z' := (if_pos hb).symm.trans z
        cases z'
        subst hb
        exact ⟨ha, by rw [List.length_map]; exact hl, vs, _, rv, ha⟩
      · have z' := (if_neg hb).symm.trans z
        cases z'
    · by_cases hb : b = a
      · exact hb
      · exact absurd (if_neg hb) z
end L2

namespace L2
open PySem PySem.Spec PyProof.Rows

abbrev KOf {K : PySem.W.Frag} {h : Heap} (_ : K.In h) : PySem.W.Frag := K

/-- the goal that k_head leaves (case hc), from the law's promise. F gives the function object fd (K's own) once, then the promise over every base -/
theorem walk_of {l : PySem.W.OpenLaw} {n k : Nat} {q : Program} {loose : List Str} {XP : (Str → Option Value) → Heap → Prop} {YP : World → Heap → Prop} {d : DefRec} {K : Params → PySem.W.Frag} {CX : World → CXT} {sp : World → Sp} {x : Str}
    (hn : l.most = some n) (hn2 : n ≤ sizeLine) (hdf : d.params.defaults = []) (hr : Room k callerA)
    (hY : ∀ (w : World) (h : Heap), YP w h → (K w.params).In h)
    (F : ∀ (w : World) (mg : Str → Option Value) (fa : Addr) (h : Heap), (K w.params).In h → h.Ns mainGlobals mg → mg d.name = some (.ref fa) →
      ∃ fd : FuncData, (∀ (s : Shared) (u : Value), BindsTo s fd ⟨[u], []⟩ [(x, u)]) ∧
        ∀ base : Heap, (K w.params).In base → base.Ns mainGlobals mg → FnOk l.prog w (K w.params) mg base (CX w) k fa fd [x] (sp w))
    (hsp : ∀ (w : World) (H : Hp) (a : Addr) (ns : List Int), ns.length ≤ n → Only H → SqL (K w.params) H a (ns.map V.int) → sp w [.ref a] H (fun v _ => v = .bl true) fun _ _ _ => False)
    (hCX : ∀ (w : World) (H : Hp) (s : Shared) (e : Value) (s' : Shared), CX w [] H s (fun _ _ _ => False) e s' → False) :
    PySem.W.WalkO q loose XP YP l.row.toRowW d [] (fun f vs => PySem.call f vs) := by
  refine Att.attach_call hn hdf fun w s₀ s₁ mg mb fa o pm cd doc a vs ns G Y ho hd hcd hmg hobj hints hlen hg => ?_
  have KX := hY w _ Y
  obtain ⟨fd, hb, hF⟩ := F w mg fa _ KX G.T.g hmg
  exact law_call KX G.T.g G.T.b G.T.builtins G.T.nolimit hg hobj hints (Nat.le_trans hlen hn2) hr hF hb (fun H hO hS => hsp w H a ns hlen hO hS) fun H e s' => hCX w H s₁ e s'
end L2

/- THE LAST THEOREM (shape; LID, My.* are yours):
   My.Adr: a structure of the addresses that your layer names (classes, functions); My.Txt K t: a structure (Prop) of the equations over K;
   My.txt_mk : {K} {implicit addresses ..} (e1 : nsIn K mainGlobals "law" = some (some (.ref f))) (e2 : K.lookup f = some ⟨oc, od, .func (fnOf "law" "law" params body scope dV kV doc pm an cdv ct), sl⟩) (e3 : codeIn K cdv "law" = true) .. : ∃ t, My.Txt K t

set_option maxRecDepth 100000 in
set_option maxHeartbeats 0 in
theorem PySem.Challenge.cw_LID_holds : PySem.Challenge.rw_LID.Holds := by
  w_on; o_law; k_head; (case hw => w_witness2)
  k_fill
  refine L2.walk_of (l := PySem.Challenge.rw_LID) (n := 63) (k := 40) (x := "script") (CX := fun w => ..) (sp := fun _ => My.sp_law) rfl (by decide) rfl ⟨rfl, by decide, by decide⟩ (fun w h Y => PySem.W.kIn_of Y) ?F ?S ?C
  case F =>
    intro w mg fa h KX G hmg
    have T : ∃ t, My.Txt (L2.KOf KX) t := by
      dsimp only [L2.KOf]                          -- K must stand as «<heap const> w.params» for k_is
      refine' My.txt_mk ?e1 ?e2 ?e3 ..
      (case e1 => PySem.W.k_is)                    -- in the order: a name -> its address -> its object -> its parts
      (case e2 => PySem.W.k_is)
      ..
    obtain ⟨t, T⟩ := T
    have e0 := hmg.symm.trans (PySem.W.mg_of KX G T.law)
    cases e0                                       -- fa is the law's own address
    exact ⟨_, fun s u => .of_eq rfl, fun base kb nb => My.law_fn T kb nb⟩     -- if «.of_eq rfl» comes too early: refine' ⟨_, ?b, fun base kb nb => My.law_fn T kb nb⟩; exact fun s u => .of_eq rfl
  case S => exact fun w H a ns hl hO hS => ..
  case C => exact ..
(the tactic k_is has no namespace: write k_is) -/

/-! SHORT WORDS over the layer: a def of the text, its body, what a loop and a test want. -/
namespace L2
open PySem PySem.Spec PyProof.Rows

/-! ### the text by places -/
/-- the j-th statement of a class's body -/
def inClass (s : Stmt) (j : Nat) : Stmt := match s with
  | .ClassDef _ _ _ body _ _ _ _ _ _ _ => body.getD j (.Pass ⟨0, 0, 0, 0⟩)
  | _ => .Pass ⟨0, 0, 0, 0⟩
def defArgs (s : Stmt) : Arguments := match s with
  | .FunctionDef _ a _ _ _ _ _ _ _ _ => a
  | _ => { posonlyargs := [], args := [], vararg := none, kwonlyargs := [], kw_defaults := [], kwarg := none, defaults := [] }
def defBody (s : Stmt) : List Stmt := match s with
  | .FunctionDef _ _ b _ _ _ _ _ _ _ => b
  | _ => []
def defScope (s : Stmt) : Scope := match s with
  | .FunctionDef _ _ _ _ _ _ sc _ _ _ => sc
  | _ => { kind := .function, names := [], isGenerator := false, isCoroutine := false }

/-! ### no exception leaves a def -/
abbrev CX0 : CXT := fun _ _ _ _ _ _ => False
abbrev E0 : XK := fun _ _ _ => False
/-! ### a def (or method) of the text as it stands behind the top -/
structure Fun (K : PySem.W.Frag) (x qual : Str) (st : Stmt) (f : Addr) (fd : FuncData) : Prop where
  ex : ∃ (oc : Value) (od : Option Addr) (kV doc pm : Value) (an : Option Addr) (cdv ct : Value) (osl : Array (Option Value)),
    fd = PySem.W.fnOf x qual (defArgs st) (defBody st) (defScope st) .none kV doc pm an cdv ct ∧ K.lookup f = some ⟨oc, od, .func fd, osl⟩ ∧ PySem.W.codeIn K cdv qual = true
  kp : PySem.W.keepIn K (.ref f) = true
section
variable {P : Program} {w : World} {K : PySem.W.Frag} {mg : Str → Option Value} {base : Heap}
/-- THE RULE for a def: its body as a term of rules, and the reading of that term -/
theorem Fun.ok {x qual : Str} {st : Stmt} {f : Addr} {fd : FuncData} {N ps : List Str} {k : Nat} {sp : Sp} (F : Fun K x qual st f fd) (S : FnScope N ps (defScope st)) (len : ∀ vs H Q E, sp vs H Q E → vs.length = ps.length)
    (hbody : ∀ (cdv : Value) (A : Around) (outer : List Env) (s : Shared) (H : Hp) (vs : List V) (Q : VK) (E : XK), Room k (A.deeper (envOfC qual (defScope st) s.heap.objs.size f cdv)) → sp vs H Q E →
      ∃ t, PSs (cxOf CX0 P w K mg base N qual (defScope st) f cdv A outer s H E).nox (defBody st) t ∧ t { nx := fun _ H' => Q .non H', rt := Q } (start N vs) H) : FnOk P w K mg base CX0 (k + 1) f fd ps sp := by
  obtain ⟨oc, od, kV, doc, pm, an, cdv, ct, osl, rfl, lk, hcd⟩ := F.ex
  refine fn_of lk hcd S len fun A outer s H vs Q E hr hsp => ?_
  obtain ⟨t, h, q⟩ := hbody cdv A outer s H vs Q E hr hsp
  exact ⟨t, h.nox, q⟩
/-- how its arguments bind (no defaults): h is «fun _ _ _ _ _ _ us hl => match us, hl with | [_, _], _ => rfl», one _ a parameter -/
theorem Fun.binds {x qual : Str} {st : Stmt} {f : Addr} {fd : FuncData} {ps : List Str} (F : Fun K x qual st f fd)
    (h : ∀ (kV doc pm : Value) (an : Option Addr) (cdv ct : Value) (us : List Value), us.length = ps.length → bindArgs (PySem.W.fnOf x qual (defArgs st) (defBody st) (defScope st) .none kV doc pm an cdv ct) ⟨us, []⟩ = pure (ps.zip us)) : Binds K fd ps [] := by
  obtain ⟨oc, od, kV, doc, pm, an, cdv, ct, osl, rfl, lk, hcd⟩ := F.ex
  exact .all (h kV doc pm an cdv ct)
theorem fun_mk {x qual : Str} {st : Stmt} {f : Addr} {oc : Value} {od an : Option Addr} {osl : Array (Option Value)} {kV doc pm cdv ct : Value} (l : K.lookup f = some ⟨oc, od, .func (PySem.W.fnOf x qual (defArgs st) (defBody st) (defScope st) .none kV doc pm an cdv ct), osl⟩)
    (c : PySem.W.codeIn K cdv qual = true) (k : PySem.W.keepIn K (.ref f) = true) : Fun K x qual st f (PySem.W.fnOf x qual (defArgs st) (defBody st) (defScope st) .none kV doc pm an cdv ct) := ⟨⟨oc, od, kV, doc, pm, an, cdv, ct, osl, rfl, l, c⟩, k⟩
end
theorem small1000 {n : Nat} (h : n ≤ 1000) : n < sizeLine := Nat.lt_of_le_of_lt h (by decide)

/-! ### expressions in short: the name that stands in the i-th slot -/
section
variable {X : Cx}
theorem pv (i : Nat) {x : Str} {pos : Pos} (hN : X.N[i]? = some x := by rfl) (hv : Vis X.env.scope x := by first | exact Or.inl rfl | exact Or.inr (Or.inl rfl) | exact Or.inr (Or.inr rfl)) (hd : (x == ("__debug__" : Str)) = false := by decide)
    (hcd : (x == ("__classdict__" : Str)) = false := by decide) : PE X (.Name x pos) (tVar i) := pe_var hN hv hd hcd
end

/-! ### tests -/
theorem iteF {A B : Prop} (h : B) : if false = true then A else B := by
  rw [if_neg Bool.false_ne_true]
  exact h
theorem iteT {A B : Prop} (h : A) : if true = true then A else B := by
  rw [if_pos rfl]
  exact h
/-! ### heaps -/
/-- all that was tracked is as it was -/
def Same (H H' : Hp) : Prop := ∀ b o, H b = some o → H' b = some o
theorem Same.refl (H : Hp) : Same H H := fun _ _ h => h
theorem Same.trans {H H1 H2 : Hp} (a : Same H H1) (b : Same H1 H2) : Same H H2 := fun c o h => b c o (a c o h)
theorem Same.free {H H' : Hp} (e : Same H H') {l : Addr} (h : H' l = Option.none) : H l = Option.none := by
  cases q : H l with
  | none => rfl
  | some o =>
    rw [e l o q] at h
    cases h
theorem Same.seq {K : PySem.W.Frag} {H H' : Hp} {a : Addr} {xs : List V} (e : Same H H') (h : SqL K H a xs) : SqL K H' a xs := by
  rcases h with (h | ⟨o, h⟩) | h
  · exact .inl (.inl (e _ _ h))
  · exact .inl (.inr ⟨o, e _ _ h⟩)
  · exact .inr h

end L2

set_option Elab.async false
set_option linter.all false
set_option maxRecDepth 100000
set_option maxHeartbeats 4000000
namespace L2
open PySem PySem.Spec PyProof.Rows

/-! ### comprehensions -/
theorem HOk.track {P : Program} {w : World} {H : Hp} {h : Heap} {a : Addr} {o : HO} (x : HOk P w H h) (hn : H a = none) (new : ObjOk P w (upd H a o) h a o) : HOk P w (upd H a o) h := fun b u e => by
  by_cases hb : b = a
  · subst hb; rw [upd_same] at e; cases e; exact new
  · rw [upd_ne hb] at e
    exact (x b u e).stay (fun c v _ q => q) (fun c q => by rw [upd_ne (ne_of_none q hn)]; exact q) fun c xs q => by rw [upd_ne (ne_of_none q hn)]; exact q
theorem HOk.but {P : Program} {w : World} {H : Hp} {h h' : Heap} {a : Addr} (x : HOk P w H h) (hn : H a = none) (hs : Heap.SameBut a h h') : HOk P w H h' := fun b ob e => by
  refine (x b ob e).stay (fun c w' hc q => (hs.2 c ?_).trans q) (fun _ q => q) fun _ _ q => q
  rintro rfl
  rcases hc with rfl | hc
  · rw [hn] at e; cases e
  · rw [hn] at hc; cases hc

/-- the cells of the free names -/
def closL (cs : List (Str × Addr)) : List (Str × NameKind) → List (Str × Addr) → List (Str × Addr)
  | [], acc => acc
  | (n, k) :: r, acc => if k == .free then (match cs.lookup n with | some c => closL cs r ((n, c) :: acc) | none => closL cs r acc) else closL cs r acc
theorem closureFor_eq {env : Env} : ∀ (names : List (Str × NameKind)) (acc : List (Str × Addr)), (∀ n, (n, NameKind.free) ∈ names → (env.cells.lookup n).isSome = true) →
    (forIn names acc fun (x : Str × NameKind) (r : List (Str × Addr)) => if x.2 == NameKind.free then (do let a ← cellOf env x.1; pure (ForInStep.yield ((x.1, a) :: r))) else pure (ForInStep.yield r) : Sem (List (Str × Addr))) = pure (closL env.cells names acc)
  | [], acc, _ => by rw [List.forIn_nil]; rfl
  | (n, k) :: r, acc, h => by
    rw [List.forIn_cons]
    unfold closL
    have hr : ∀ m, (m, NameKind.free) ∈ r → (env.cells.lookup m).isSome = true := fun m hm => h m (List.mem_cons_of_mem _ hm)
    cases hk : k == NameKind.free with
    | false =>
      simp only [hk, Bool.false_eq_true, if_false, pure_bind]
      exact closureFor_eq r acc hr
    | true =>
      have ek : k = NameKind.free := by simpa using hk
      subst ek
      have hc := h n List.mem_cons_self
      cases q : env.cells.lookup n with
      | none => rw [q] at hc; cases hc
      | some c =>
        simp only [beq_self_eq_true, if_true, cellOf, q, pure_bind]
        exact closureFor_eq r _ hr
theorem closureFor_closL {scope : Scope} {env : Env} (h : ∀ n, (n, NameKind.free) ∈ scope.names → (env.cells.lookup n).isSome = true) : closureFor scope env = pure (closL env.cells scope.names []) := by
  have e := closureFor_eq (env := env) scope.names [] h
  unfold closureFor
  simp only [bind_pure]
  exact e
theorem closL_mem {cs : List (Str × Addr)} : ∀ (names : List (Str × NameKind)) (acc : List (Str × Addr)) {x : Str} {c : Addr}, (x, c) ∈ closL cs names acc → (x, c) ∈ acc ∨ cs.lookup x = some c
  | [], acc, x, c, h => .inl h
  | (n, k) :: r, acc, x, c, h => by
    unfold closL at h
    split at h
    · split at h
      · rename_i c' q
        rcases closL_mem r _ h with h | h
        · rcases List.mem_cons.mp h with e | h
          · cases e; exact .inr q
          · exact .inl h
        · exact .inr h
      · exact closL_mem r _ h
    · exact closL_mem r _ h
theorem lookup_some_of_mem {α : Type} : ∀ {l : List (Str × α)} {x : Str}, (∃ c, (x, c) ∈ l) → ∃ c, l.lookup x = some c
  | [], x, ⟨c, h⟩ => by cases h
  | (n, v) :: r, x, ⟨c, h⟩ => by
    rw [List.lookup_cons]
    cases hb : x == n with
    | true => exact ⟨v, rfl⟩
    | false =>
      rcases List.mem_cons.mp h with e | h
      · cases e; simp at hb
      · exact lookup_some_of_mem ⟨c, h⟩
theorem closL_has {cs : List (Str × Addr)} : ∀ (names : List (Str × NameKind)) (acc : List (Str × Addr)) {x : Str}, ((∃ c, (x, c) ∈ acc) ∨ ((x, NameKind.free) ∈ names ∧ (cs.lookup x).isSome = true)) → ∃ c, (x, c) ∈ closL cs names acc
  | [], acc, x, h => by
    rcases h with h | ⟨h, _⟩
    · exact h
    · cases h
  | (n, k) :: r, acc, x, h => by
    unfold closL
    split
    · split
      · rename_i c' q
        refine closL_has r _ ?_
        rcases h with ⟨c, h⟩ | ⟨h, hs⟩
        · exact .inl ⟨c, List.mem_cons_of_mem _ h⟩
        · rcases List.mem_cons.mp h with e | h
          · cases e; exact .inl ⟨c', List.mem_cons_self⟩
          · exact .inr ⟨h, hs⟩
      · rename_i q
        refine closL_has r _ ?_
        rcases h with h | ⟨h, hs⟩
        · exact .inl h
        · rcases List.mem_cons.mp h with e | h
          · cases e; rw [q] at hs; cases hs
          · exact .inr ⟨h, hs⟩
    · rename_i hk
      refine closL_has r _ ?_
      rcases h with h | ⟨h, hs⟩
      · exact .inl h
      · rcases List.mem_cons.mp h with e | h
        · cases e; simp at hk
        · exact .inr ⟨h, hs⟩
/-- what cellsFrom adds -/
theorem cellsFrom_mem : ∀ (names : List (Str × NameKind)) (h : Heap) (acc : List (Str × Addr)) {x : Str} {c : Addr}, (x, c) ∈ cellsFrom h.objs.size names acc → (x, c) ∈ acc ∨ (h.objs.size ≤ c ∧ (x, NameKind.cell) ∈ names ∧ (pushCells h names).IsCell c none)
  | [], h, acc, x, c, hm => .inl hm
  | (n, k) :: r, h, acc, x, c, hm => by
    unfold cellsFrom at hm
    unfold pushCells
    split at hm
    · rename_i hk
      have ek : k = NameKind.cell := by simpa using hk
      subst ek
      rw [if_pos hk]
      have hz : (h.push { cls := .type "cell", data := .cell none }).objs.size = h.objs.size + 1 := Heap.size_push ..
      rw [← hz] at hm
      rcases cellsFrom_mem r _ _ hm with hm | ⟨h1, h2, h3⟩
      · rcases List.mem_cons.mp hm with e | hm
        · cases e
          refine .inr ⟨Nat.le_refl _, List.mem_cons_self, ?_⟩
          exact ⟨_, pushCells_keeps _ _ _ _ (Heap.get?_push_size _ rfl), rfl⟩
        · exact .inl hm
      · exact .inr ⟨by omega, List.mem_cons_of_mem _ h2, h3⟩
    · rename_i hk
      rw [if_neg hk]
      rcases cellsFrom_mem r h acc hm with hm | ⟨h1, h2, h3⟩
      · exact .inl hm
      · exact .inr ⟨h1, List.mem_cons_of_mem _ h2, h3⟩
theorem cellsFrom_sub : ∀ (names : List (Str × NameKind)) (n : Nat) (acc : List (Str × Addr)) {p : Str × Addr}, p ∈ acc → p ∈ cellsFrom n names acc
  | [], _, _, _, h => h
  | (m, k) :: r, n, acc, p, h => by
    unfold cellsFrom
    split
    · exact cellsFrom_sub r _ _ (List.mem_cons_of_mem _ h)
    · exact cellsFrom_sub r _ _ h
theorem cellsFrom_own : ∀ (names : List (Str × NameKind)) (n : Nat) (acc : List (Str × Addr)) {x : Str}, (x, NameKind.cell) ∈ names → ∃ c, (x, c) ∈ cellsFrom n names acc
  | [], _, _, _, h => by cases h
  | (m, k) :: r, n, acc, x, h => by
    unfold cellsFrom
    split
    · rcases List.mem_cons.mp h with e | h
      · cases e; exact ⟨n, cellsFrom_sub r _ _ List.mem_cons_self⟩
      · exact cellsFrom_own r _ _ h
    · rename_i hk
      rcases List.mem_cons.mp h with e | h
      · cases e; simp at hk
      · exact cellsFrom_own r _ _ h
theorem cellsFrom_apart : ∀ (names : List (Str × NameKind)) (n : Nat) (acc : List (Str × Addr)), (∀ p ∈ acc, p.2 < n) → (∀ x y c, (x, c) ∈ acc → (y, c) ∈ acc → x = y) → ∀ x y c, (x, c) ∈ cellsFrom n names acc → (y, c) ∈ cellsFrom n names acc → x = y
  | [], _, _, _, h, x, y, c, a, b => h x y c a b
  | (m, k) :: r, n, acc, hl, h, x, y, c, a, b => by
    unfold cellsFrom at a b
    split at a
    · rename_i hk
      rw [if_pos hk] at b
      refine cellsFrom_apart r (n + 1) ((m, n) :: acc) (fun p hp => ?_) (fun x y c a b => ?_) x y c a b
      · rcases List.mem_cons.mp hp with e | hp
        · subst e; exact Nat.lt_succ_self _
        · exact Nat.lt_succ_of_lt (hl p hp)
      · rcases List.mem_cons.mp a with e | a <;> rcases List.mem_cons.mp b with e' | b
        · cases e; cases e'; rfl
        · cases e; exact absurd (hl _ b) (Nat.lt_irrefl _)
        · cases e'; exact absurd (hl _ a) (Nat.lt_irrefl _)
        · exact h x y c a b
    · rename_i hk
      rw [if_neg hk] at b
      exact cellsFrom_apart r n acc hl h x y c a b

/-- a comprehension's block is entered: its own map, its own cells -/
def blockEnv (scope : Scope) (cs : List (Str × Addr)) (C : Addr) (env : Env) : Env :=
  { scope := scope, locals := C, globals := env.globals, cells := cs, qual := env.qual, func := none, code := env.code, frame := env.frame, builtins := env.builtins }
theorem wpAny_blockEnv {M : Model} {A : Around} {E : Value → Shared → Prop} {s : Shared} {scope : Scope} {cl : List (Str × Addr)} {env : Env} {Q : Env → Shared → Prop}
    (h : Q (blockEnv scope (cellsFrom (s.heap.objs.size + 1) scope.names cl) s.heap.objs.size env) { s with heap := pushCells (s.heap.push { cls := .type "dict", data := .dict #[] }) scope.names }) :
    wpAny M A (newFunctionEnv scope env.globals cl [] env.qual none .none (some env)) Q E s := by
  simp only [newFunctionEnv, Option.isSome_some, if_true]
  refine wpAny_bind (wpAny_alloc ?_)
  refine wpAny_bind (wpAny_layCells _ (fun name kind cells => by cases hkc : kind == NameKind.cell <;> simp [hkc]) _ _ _ _ ?_)
  rw [show ({ s with heap := s.heap.push { cls := .type "dict", data := .dict #[] } } : Shared).heap.objs.size = s.heap.objs.size + 1 from Heap.size_push ..]
  exact wpAny_bind (wpAny_pure (wpAny_pure h))

section
variable {prog : Program} {w : World} {A : Around} {E : Value → Shared → Prop} {R : Result → Shared → Prop} {s : Shared}
theorem codeAny_compLoop_any {elt target iter : Expr} {ifs : List Expr} {scope : Scope} {pos : Pos} {it acc : Value} {env : Env} (I : Nat → Shared → Prop)
    (turn : ∀ n s, I n s → wpAny (model prog w) A (pyNext it) (fun r s₁ => match r with
      | none => R (.ok .next) s₁
      | some v => wpAny (model prog w) A (letOwnedTupleGo target it v) (fun _ s₁' => wpAny (model prog w) A (assign target env v) (fun _ s₂ =>
          wpAny (model prog w) A (forIn ifs true fun c r => if r = true then do let ok ← isTrue c env (eval c env); pure (ForInStep.yield ok) else pure (ForInStep.yield r)) (fun ok s₃ =>
            if ok = true then wpAny (model prog w) A (eval elt env) (fun x s₄ =>
              wpAny (model prog w) A (call (.builtin "list.append") [acc, x]) (fun _ s₅ => ∃ m, m < n ∧ I m s₅) (notedBy (model prog w) A env fun e s' => R (.error e) s') s₄) (notedBy (model prog w) A env fun e s' => R (.error e) s') s₃
            else ∃ m, m < n ∧ I m s₃) (notedBy (model prog w) A env fun e s' => R (.error e) s') s₂) (notedBy (model prog w) A env fun e s' => R (.error e) s') s₁') (notedBy (model prog w) A env fun e s' => R (.error e) s') s₁) (notedBy (model prog w) A env fun e s' => R (.error e) s') s)
    (n : Nat) (h : I n s) :
    codeAny (model prog w) A (.compLoop (.ListComp elt [⟨target, iter, ifs, 0⟩] scope pos) 0 it acc env) R s := by
  refine codeAny_loop rfl I (fun n s hI => ?_) n h
  show wpAny _ A ((compTurn (.ListComp elt [⟨target, iter, ifs, 0⟩] scope pos) 0 it acc env).onRaise (fun x => do noteFrame x env; theTreesLotGoes x)) _ _ s
  refine wpAny_noted ?_
  rw [compTurn_list]
  refine wpAny_bind (wpAny_standAt (wpAny_bind (wpAny_mono (turn n s hI) (fun r s₁ h₁ => ?_) fun _ _ h' => h')))
  cases r with
  | none => exact wpAny_pure h₁
  | some v =>
    refine wpAny_bind (wpAny_mono h₁ (fun _ s₁' h₁' => ?_) fun _ _ h' => h')
    refine wpAny_bind (wpAny_mono h₁' (fun _ s₂ h₂ => wpAny_bind (wpAny_mono h₂ (fun ok s₃ h₃ => ?_) fun _ _ h' => h')) fun _ _ h' => h')
    cases ok with
    | false => exact wpAny_pure ⟨rfl, h₃⟩
    | true =>
      exact wpAny_bind (wpAny_bind (wpAny_mono h₃ (fun x s₄ h₄ => wpAny_bind (wpAny_mono h₄ (fun _ s₅ h₅ => wpAny_pure (wpAny_pure ⟨rfl, h₅⟩)) fun _ _ h' => h')) fun _ _ h' => h'))
end
end L2

set_option Elab.async false
set_option linter.all false
set_option maxRecDepth 100000
set_option maxHeartbeats 4000000
namespace L2
open PySem PySem.Spec PyProof.Rows

/-- a comprehension's block as it is entered -/
structure Blk where
  cs : List (Str × Addr)
  C : Addr
  s₃ : Shared
  H₃ : Hp
  fp : List Addr
  pins : List (Addr × Obj)
  σ : St

/-- what is wanted of an exception within the block -/
def blkXe (X : Cx) (C : Addr) (env : Env) : Value → Shared → Prop :=
  notedBy (model X.prog X.w) X.A env fun x s' => ∃ m, s'.heap.Ns C m ∧ ∀ h', Heap.SameBut C s'.heap h' → ∀ cenv : Env, cenv.locals = C →
    wpAny (model X.prog X.w) X.A (passOn "comprehension.variables-let-go" x cenv : Sem Value) (fun _ _ => False) X.xe { s' with heap := h' }

def Cx.block (X : Cx) (N : List Str) (scope : Scope) (b : Blk) : Cx :=
  { X with N := N, s₀ := b.s₃, H₀ := b.H₃, env := blockEnv (relabel scope X.env) b.cs b.C X.env, outer := X.stack, stack := X.stack, ex := b.fp,
           fn := fun x => scope.names.lookup x == some .cell, pn := X.pn ++ b.pins, xe := blkXe X b.C (blockEnv (relabel scope X.env) b.cs b.C X.env) }

theorem block_K {X : Cx} {N : List Str} {scope : Scope} {b : Blk} : (X.block N scope b).K = X.K := rfl
theorem nox_K {X : Cx} : X.nox.K = X.K := rfl
theorem wish_K {X : Cx} {E : Value → Shared → Prop} : (X.wish E).K = X.K := rfl
theorem cxOf_K {CX : CXT} {P : Program} {w : World} {K : PySem.W.Frag} {mg : Str → Option Value} {base : Heap} {N : List Str} {qual : Str} {scope : Scope} {f : Addr} {cd : Value} {A : Around} {outer : List Env} {s : Shared} {H : Hp} {E : XK} :
    (cxOf CX P w K mg base N qual scope f cd A outer s H E).K = K := rfl
/-- the slots at the block's entry: its own names, then the free ones -/
def blkStart (own : Nat) (ix : List Nat) (σ : St) : St := List.replicate own none ++ ix.map fun i => (σ[i]?).join

/-- what is asked of a comprehension's block over the iterator J -/
def BlkBody (own : Nat) (ix : List Nat) (g : Blk → TG) (tt : Blk → TT) (te : Blk → TE) (σ : St) (Q : VK) (J : It) (H1 : Hp) : Prop := ∀ bk : Blk, ∃ W : Nat → Nat → List V → St → Hp → Prop, (∃ m, W 0 m [] (blkStart own ix σ) H1) ∧ ∀ i m ys σc H, W i m ys σc H →
  (J.stop i H ∧ ∀ D, H D = none → Q (.ref D) (upd H D (.lst ys))) ∨ (J.go i H ∧ ys.length < sizeLine ∧ ∃ N : List V → St → Hp → Prop, (∀ ys' σ' H', N ys' σ' H' → ∃ m', m' < m ∧ W (i + 1) m' ys' σ' H') ∧
    ∀ x H', J.yld i H x H' → g bk x σc H' fun σ2 H2 => tt bk σ2 H2 fun c H3 => if c = true then te bk σ2 H3 fun y H4 => N (ys ++ [y]) σ2 H4 else N ys σ2 H3)
def tBlk (own : Nat) (ix : List Nat) (wi : TI) (g : Blk → TG) (tt : Blk → TT) (te : Blk → TE) : TE := fun σ H Q => wi σ H (BlkBody own ix g tt te σ Q)

/-- the tests of a comprehension (none, or one) -/
def PTs (X : Cx) (ifs : List Expr) (t : TT) : Prop :=
  ∀ (pins : List (Addr × Obj)) (s : Shared) (σ : St) (H : Hp) (Q : Bool → Hp → Prop), Inv X pins σ H s → t σ H Q →
    wpAny (model X.prog X.w) X.A (forIn ifs true fun c r => if r = true then do let ok ← isTrue c X.env (eval c X.env); pure (ForInStep.yield ok) else pure (ForInStep.yield r)) (TP X pins σ Q) X.xe s
def tYes : TT := fun _ H Q => Q true H
theorem pts_nil {X : Cx} : PTs X [] tYes := fun pins s σ H Q I h => wpAny_tests_nil ⟨H, I, h⟩
theorem pts_one {X : Cx} {c : Expr} {t : TT} (h : PT X c t) : PTs X [c] t := fun pins s σ H Q I hq => wpAny_tests_one (h pins s σ H Q I hq)

theorem nodup_lookup {α : Type} : ∀ {l : List (Str × α)} {x : Str} {k : α}, (l.map (·.1)).Nodup → (x, k) ∈ l → l.lookup x = some k
  | (n, v) :: r, x, k, hn, h => by
    rw [List.map_cons, List.nodup_cons] at hn
    rw [List.lookup_cons]
    rcases List.mem_cons.mp h with e | h
    · cases e; simp
    · have : x ≠ n := fun e => hn.1 (e ▸ List.mem_map.mpr ⟨(x, k), h, rfl⟩)
      have hb : (x == n) = false := by simpa using this
      rw [hb]
      exact nodup_lookup hn.2 h
theorem relabel_kind {scope : Scope} {env : Env} {x : Str} {k : NameKind} (h : (relabel scope env).names.lookup x = some k) (hk : k = .cell ∨ k = .free) : (x, NameKind.cell) ∈ scope.names ∨ (x, NameKind.free) ∈ scope.names := by
  have hm := mem_of_lookup h
  unfold relabel at hm
  obtain ⟨⟨n, k'⟩, hp, e⟩ := List.mem_map.mp hm
  dsimp only at e
  split at e
  · rename_i hc
    cases e
    have : k' = .free := by
      cases k' <;> simp_all
    subst this
    exact .inr hp
  · cases e
    rcases hk with rfl | rfl
    · exact .inl hp
    · exact .inr hp

/-- what is known of a block that is entered -/
structure BOk (X : Cx) (b : Blk) : Prop where
  inv : Inv X b.pins b.σ b.H₃ b.s₃
  fresh : b.s₃.heap.objs.size ≤ b.C
  fpo : ∀ c ∈ b.fp, FpOk X b.pins b.H₃ c

structure BlkScope (X : Cx) (own fr : List Str) (ix : List Nat) (scope : Scope) : Prop where
  kind : scope.kind = .function
  nd : (scope.names.map (·.1)).Nodup
  cap : (scope.names.all fun p => p.2 != .free || (X.env.kindOf p.1 == some .cell || X.env.kindOf p.1 == some .free)) = true
  fre : (fr.all fun x => scope.names.lookup x == some .free) = true
  ixs : ix.map (fun i => X.N[i]?) = fr.map some

section
variable {X : Cx} {pins : List (Addr × Obj)} {σ : St} {H : Hp} {s : Shared} {own fr : List Str} {ix : List Nat} {scope : Scope} {fp : List Addr}

theorem BlkScope.capOf (B : BlkScope X own fr ix scope) {n : Str} (h : (n, NameKind.free) ∈ scope.names) : X.env.kindOf n = some .cell ∨ X.env.kindOf n = some .free := by
  have := List.all_eq_true.mp B.cap _ h
  simpa using this

/-- the block's entry: s is the state with the new list, s' the one behind the entry -/
theorem Inv.enter {s0 : Shared} (I0 : Inv X pins σ H s0) (I : Inv X pins σ H s) (k0 : ∀ b o, s0.heap.get? b = some o → s.heap.get? b = some o) (z0 : s0.heap.objs.size ≤ s.heap.objs.size) (hos : s.os = s0.os) (B : BlkScope X own fr ix scope) (hf : ∀ b ∈ fp, FpOk X pins H b) (ho : ∀ b ∈ fp, ∃ o, s.heap.get? b = some o) :
    Inv (X.block (own ++ fr) scope ⟨cellsFrom (s.heap.objs.size + 1) scope.names (closL X.env.cells scope.names []), s.heap.objs.size, s0, H, fp, pins, σ⟩) [] (blkStart own.length ix σ) H
      { s with heap := pushCells (s.heap.push { cls := .type "dict", data := .dict #[] }) scope.names } := by
  have hz : (s.heap.push { cls := .type "dict", data := .dict #[] }).objs.size = s.heap.objs.size + 1 := Heap.size_push ..
  have keep : ∀ b o, s.heap.get? b = some o → (pushCells (s.heap.push { cls := .type "dict", data := .dict #[] }) scope.names).get? b = some o := fun b o e => pushCells_keeps _ _ _ _ (Heap.get?_push_of_some _ e)
  have cm : ∀ x c, (x, c) ∈ cellsFrom (s.heap.objs.size + 1) scope.names (closL X.env.cells scope.names []) → X.env.cells.lookup x = some c ∨ (s.heap.objs.size < c ∧ (x, NameKind.cell) ∈ scope.names ∧ (pushCells (s.heap.push { cls := .type "dict", data := .dict #[] }) scope.names).IsCell c none) := fun x c h => by
    rw [← hz] at h
    rcases cellsFrom_mem _ _ _ h with h | ⟨h1, h2, h3⟩
    · rcases closL_mem _ _ h with h | h
      · cases h
      · exact .inl h
    · rw [hz] at h1; exact .inr ⟨h1, h2, h3⟩
  have cl : ∀ x c, (cellsFrom (s.heap.objs.size + 1) scope.names (closL X.env.cells scope.names [])).lookup x = some c → X.env.cells.lookup x = some c ∨ (s.heap.objs.size < c ∧ (x, NameKind.cell) ∈ scope.names ∧ (pushCells (s.heap.push { cls := .type "dict", data := .dict #[] }) scope.names).IsCell c none) := fun x c h => cm x c (mem_of_lookup h)
  have oldlt : ∀ x c, X.env.cells.lookup x = some c → c < s.heap.objs.size := fun x c e => (I.cell x c e).elim fun v q => q.lt
  have hasOld : ∀ n, (n, NameKind.free) ∈ scope.names → (X.env.cells.lookup n).isSome = true := fun n h => by
    obtain ⟨c, e⟩ := I.ok.has n (B.capOf h)
    rw [e]; rfl
  refine ⟨⟨I.ok.mod, B.kind, I.ok.glob, I.ok.blt, z0, ?inj, ?has, ?cab, I.ok.hd, I.ok.frames, .inl rfl, ?exf, I0.bs, Nat.le_trans I0.ok.bsz I0.sz, ?noex, ?exfs, I0.stack, I.stkFree⟩, hos, I.bare, Un.kept (fun b o e => keep b o (k0 b o e)), ?loc, ?cell, I.hok.fresh (Nat.le_refl _), ?freeC, ?pin, I.hok.kept keep, ?len⟩
  case inj =>
    intro x y c h1 h2
    refine cellsFrom_apart scope.names (s.heap.objs.size + 1) (closL X.env.cells scope.names []) (fun p hp => ?_) (fun x y c a b => ?_) x y c (mem_of_lookup h1) (mem_of_lookup h2)
    · rcases closL_mem _ _ (x := p.1) (c := p.2) hp with h | h
      · cases h
      · exact Nat.lt_succ_of_lt (oldlt _ _ h)
    · rcases closL_mem _ _ a with a | a
      · cases a
      · rcases closL_mem _ _ b with b | b
        · cases b
        · exact I.ok.inj x y c a b
  case has =>
    intro x h
    have hm : (x, NameKind.cell) ∈ scope.names ∨ (x, NameKind.free) ∈ scope.names := by
      rcases h with h | h
      · exact relabel_kind h (.inl rfl)
      · exact relabel_kind h (.inr rfl)
    refine lookup_some_of_mem ?_
    rcases hm with hm | hm
    · exact cellsFrom_own _ _ _ hm
    · obtain ⟨c, hc⟩ := closL_has (cs := X.env.cells) scope.names [] (.inr ⟨hm, hasOld x hm⟩)
      exact ⟨c, cellsFrom_sub _ _ _ hc⟩
  case cab =>
    intro x c hx h
    rcases cl x c h with e | ⟨e, _, _⟩
    · have hx : scope.names.lookup x = some .cell := by
        have hx : (scope.names.lookup x == some .cell) = true := hx
        simpa using hx
      have hm := mem_of_lookup h
      have h' : (x, c) ∈ cellsFrom (s.heap.push { cls := .type "dict", data := .dict #[] }).objs.size scope.names (closL X.env.cells scope.names []) := by rw [hz]; exact hm
      -- x is own: it is not among the free ones, and every entry of its name is a new one
      rcases cellsFrom_mem _ _ _ h' with h' | ⟨h1, _, _⟩
      · exfalso
        have : ∀ (names : List (Str × NameKind)) (acc : List (Str × Addr)), (x, c) ∈ closL X.env.cells names acc → (x, c) ∈ acc ∨ (x, NameKind.free) ∈ names := by
          intro names
          induction names with
          | nil => intro acc h; exact .inl h
          | cons p r ih =>
            obtain ⟨n, k⟩ := p
            intro acc h
            unfold closL at h
            split at h
            · rename_i hk
              have ek : k = NameKind.free := by simpa using hk
              subst ek
              split at h
              · rcases ih _ h with h | h
                · rcases List.mem_cons.mp h with e | h
                  · cases e; exact .inr List.mem_cons_self
                  · exact .inl h
                · exact .inr (List.mem_cons_of_mem _ h)
              · rcases ih _ h with h | h
                · exact .inl h
                · exact .inr (List.mem_cons_of_mem _ h)
            · rcases ih _ h with h | h
              · exact .inl h
              · exact .inr (List.mem_cons_of_mem _ h)
        rcases this _ _ h' with h' | h'
        · cases h'
        · have := nodup_lookup B.nd h'
          rw [hx] at this; cases this
      · rw [hz] at h1; exact Nat.le_trans z0 (Nat.le_of_lt h1)
    · exact Nat.le_trans z0 (Nat.le_of_lt e)
  case exf =>
    intro b hb
    obtain ⟨o, e⟩ := ho b hb
    have hlt := Heap.lt_size e
    refine ⟨Nat.ne_of_lt hlt, fun x c h z => ?_⟩
    rcases cl x c h with q | ⟨q, _, _⟩
    · exact (hf b hb).2.2.2.2.1 x c q z
    · rw [z] at q; exact absurd (Nat.lt_trans hlt q) (Nat.lt_irrefl _)
  case noex =>
    intro b o e hb
    rcases (hf b hb).2.2.2.1 with h | h
    · exact I.ok.noex b o e h
    · exact absurd (Nat.lt_of_lt_of_le (Heap.lt_size e) (Nat.le_trans I.ok.bsz h)) (Nat.lt_irrefl _)
  case exfs =>
    intro b hb hm
    rcases List.mem_cons.mp (I.stkSub b hm) with e | e
    · exact (hf b hb).2.1 e
    · exact (hf b hb).2.2.1 e
  case loc =>
    refine ⟨_, (Heap.Ns.new s.heap (.type "dict")).keeps (pushCells_keeps _ _), fun i x v h1 h2 h3 => ?_⟩
    have hi : own.length ≤ i := by
      by_cases hi : i < own.length
      · unfold blkStart at h2
        rw [List.getElem?_append_left (by simpa using hi), List.getElem?_replicate] at h2
        split at h2 <;> cases h2
      · omega
    unfold blkStart at h2
    have h1' : (own ++ fr)[i]? = some x := h1
    rw [List.getElem?_append_right (by simpa using hi), List.length_replicate, List.getElem?_map] at h2
    rw [List.getElem?_append_right hi] at h1'
    cases ej : ix[i - own.length]? with
    | none => rw [ej] at h2; cases h2
    | some j =>
      rw [ej] at h2
      have h2 : (σ[j]?).join = some v := Option.some.inj h2
      have hs : σ[j]? = some (some v) := by
        cases q : σ[j]? with
        | none => rw [q] at h2; cases h2
        | some o => rw [q] at h2; exact congrArg some h2
      have hN : X.N[j]? = some x := by
        have := congrArg (fun l => l[i - own.length]?) B.ixs
        simp only [List.getElem?_map, ej, h1', Option.map_some] at this
        exact Option.some.inj this
      have hfree : scope.names.lookup x = some .free := by
        have := List.all_eq_true.mp B.fre x (List.mem_of_getElem? h1')
        simpa using this
      have hmf := mem_of_lookup hfree
      have hk := B.capOf hmf
      obtain ⟨m, _, hl⟩ := I.loc
      obtain ⟨u, ru, lk⟩ := hl j x v hN hs (by
        rcases hk with hk | hk
        · exact .inr (.inl hk)
        · exact .inr (.inr hk))
      refine ⟨u, ru, .inr ⟨?_, ?_⟩⟩
      · rcases h3 with h3 | h3 | h3
        · exfalso
          have hm := mem_of_lookup (show (relabel scope X.env).names.lookup x = some .local from h3)
          unfold relabel at hm
          obtain ⟨⟨n, k'⟩, hp, e⟩ := List.mem_map.mp hm
          dsimp only at e
          split at e
          · cases e
          · cases e
            have := nodup_lookup B.nd hp
            rw [hfree] at this; cases this
        · exact .inl h3
        · exact .inr h3
      · rcases lk with ⟨k, _⟩ | ⟨_, c, ec, hc⟩
        · rcases hk with hk | hk <;> (rw [hk] at k; cases k)
        · obtain ⟨c', hc'⟩ := closL_has (cs := X.env.cells) scope.names [] (.inr ⟨hmf, hasOld x hmf⟩)
          obtain ⟨c2, h2⟩ := lookup_some_of_mem ⟨c', cellsFrom_sub scope.names (s.heap.objs.size + 1) _ hc'⟩
          refine ⟨c2, h2, ?_⟩
          rcases cl x c2 h2 with q | ⟨_, q, _⟩
          · rw [ec] at q; cases q
            exact hc.keeps keep
          · have := nodup_lookup B.nd q
            rw [hfree] at this; cases this
  case cell =>
    intro x c h
    rcases cl x c h with q | ⟨_, _, q⟩
    · obtain ⟨v, z⟩ := I.cell x c q
      exact ⟨v, z.keeps keep⟩
    · exact ⟨none, q⟩
  case freeC =>
    intro x c h
    rcases cl x c h with q | ⟨q, _, _⟩
    · exact I.freeC x c q
    · exact I.hok.fresh (Nat.le_of_lt q)
  case pin =>
    intro p hp
    have hp : p ∈ X.pn ++ pins := by
      have : p ∈ (X.pn ++ pins) ++ [] := hp
      simpa using this
    obtain ⟨e, n, ne, nf, d⟩ := I.pin p hp
    refine ⟨keep _ _ e, n, Nat.ne_of_lt (Heap.lt_size e), fun hb => ?_, d⟩
    rcases List.mem_cons.mp (I.stkSub _ hb) with z | z
    · exact ne z
    · exact nf z
  case len =>
    have := congrArg List.length B.ixs
    simp only [List.length_map] at this
    show (blkStart own.length ix σ).length = (own ++ fr).length
    unfold blkStart
    simp [this]
end
end L2

set_option Elab.async false
set_option linter.all false
set_option maxRecDepth 100000
set_option maxHeartbeats 4000000
namespace L2
open PySem PySem.Spec PyProof.Rows

/-- the whole run of a comprehension: R of the new list behind the loop, the block's map still there -/
theorem comp_run {X : Cx} {own fr : List Str} {ix : List Nat} {scope : Scope} {elt tg iter : Expr} {ifs : List Expr} {pos p : Pos} {wi : TI} {g : Blk → TG} {tt : Blk → TT} {te : Blk → TE} {use : Option (Value → Sem Unit)} {QV : Value → Shared → Prop}
    (hc : X.calm = true) (B : BlkScope X own fr ix scope) (hi : PI X tg iter wi) (hg : ∀ b, PG (X.block (own ++ fr) scope b) tg (g b)) (ht : ∀ b, BOk X b → PTs (X.block (own ++ fr) scope b) ifs (tt b)) (he : ∀ b, BOk X b → PE (X.block (own ++ fr) scope b) elt (te b))
    (hs : ∀ x, foldedSetIterable iter X.env x = pure x) {pins : List (Addr × Obj)} {s : Shared} {σ : St} {H : Hp} {Q : VK} (I : Inv X pins σ H s) (h : tBlk own.length ix wi g tt te σ H Q)
    (fin : ∀ (D C : Addr) (H' : Hp) (s' : Shared) (m : Str → Option Value), Inv X pins σ H' s' → Q (.ref D) H' → s'.heap.Ns C m → H' C = none → C ≠ X.env.locals → (C ∈ X.ex ∨ X.s₀.heap.objs.size ≤ C) → (∀ x c, X.env.cells.lookup x = some c → c ≠ C) → (∀ p ∈ X.pn ++ pins, p.1 ≠ C) →
      compPost (model X.prog X.w) X.A X.xe use QV (.ref D) C (.ok .next) s') :
    wpAny (model X.prog X.w) X.A (comprehension (.ListComp elt [⟨tg, iter, ifs, 0⟩] scope pos) scope X.env p (newList []) false (eval iter X.env) use) QV X.xe s := by
  have hasOld : ∀ n, (n, NameKind.free) ∈ scope.names → (X.env.cells.lookup n).isSome = true := fun n h => by
    obtain ⟨c, e⟩ := I.ok.has n (B.capOf h)
    rw [e]; rfl
  refine wpAny_comprehension_free rfl hs (closureFor_closL hasOld) B.kind (fun x hx hl => by
    obtain ⟨n, k⟩ := x
    have hl : k = .local := hl
    subst hl
    exact nodup_lookup B.nd hx) (thn (hi pins s σ H _ I h) fun v s1 h1 => thn h1 fun itv s2 h2 => ?_)
  obtain ⟨it, fp, tn, J, H2, e, I2, T, st2, f2, hW⟩ := h2
  subst e
  -- the new list
  refine wpAny_newObj_type ?_
  refine wpAny_blockEnv ?_
  let D := s2.heap.objs.size
  let lo : Obj := { cls := .type "list", dict := none, data := .seq ([] : List Value).toArray }
  let s3 : Shared := { s2 with heap := s2.heap.push lo }
  have hD3 : s3.heap.get? D = some lo := Heap.get?_push_size _ rfl
  have k3 : ∀ b o, s2.heap.get? b = some o → s3.heap.get? b = some o := fun b o q => Heap.get?_push_of_some _ q
  have I3 : Inv X pins σ H2 s3 := I2.kept (t' := s2.toks) k3
  have st3 : tn 0 s3.heap := T.keep _ _ _ st2 fun b _ o q => k3 b o q
  have z3 : s3.heap.objs.size = s2.heap.objs.size + 1 := Heap.size_push ..
  have o3 : ∀ b ∈ fp, ∃ o, s3.heap.get? b = some o := fun b hb => by
    obtain ⟨o, q, _⟩ := T.obj _ _ st3 b hb
    exact ⟨o, q⟩
  have H2D : H2 D = none := I2.hok.fresh (Nat.le_refl _)
  have nDfp : D ∉ fp := fun hb => by
    obtain ⟨o, q, _⟩ := T.obj _ _ st2 D hb
    exact absurd (Heap.lt_size q) (Nat.lt_irrefl _)
  let bk : Blk := ⟨cellsFrom (s3.heap.objs.size + 1) scope.names (closL X.env.cells scope.names []), s3.heap.objs.size, s2, H2, fp, pins, σ⟩
  let Y : Cx := X.block (own ++ fr) scope bk
  have hBk : BOk X bk := ⟨I2, by show s2.heap.objs.size ≤ s3.heap.objs.size; rw [z3]; omega, f2⟩
  obtain ⟨W, ⟨m0, w0⟩, turn⟩ := hW bk
  have I4 : Inv Y [] (blkStart own.length ix σ) H2 { s3 with heap := pushCells (s3.heap.push { cls := .type "dict", data := .dict #[] }) scope.names } := I2.enter (s0 := s2) I3 k3 (by rw [z3]; omega) rfl (fp := fp) B f2 o3
  have k4 : ∀ b o, s3.heap.get? b = some o → (pushCells (s3.heap.push { cls := .type "dict", data := .dict #[] }) scope.names).get? b = some o := fun b o e => pushCells_keeps _ _ _ _ (Heap.get?_push_of_some _ e)
  have hDC : D ≠ bk.C := Nat.ne_of_lt (Heap.lt_size hD3)
  have hDs : D ∉ Y.fs := fun hb => by
    rcases List.mem_cons.mp (I2.stkSub _ hb) with z | z
    · exact absurd (Eq.symm z) (Nat.ne_of_lt I2.lt)
    · exact I2.nofs (Nat.le_refl _) z
  have Yxe : Y.xe = blkXe X bk.C Y.env := rfl
  have ypn : ∀ {p : Addr × Obj} {l : List (Addr × Obj)}, p ∈ Y.pn ++ l ↔ (p ∈ X.pn ++ pins ∨ p ∈ l) := fun {p l} => by
    show p ∈ (X.pn ++ pins) ++ l ↔ _
    rw [List.mem_append]
  -- the loop
  have loop : ∀ s4 : Shared, s4 = { s3 with heap := pushCells (s3.heap.push { cls := .type "dict", data := .dict #[] }) scope.names } →
      codeAny (model X.prog X.w) X.A (.compLoop (.ListComp elt [⟨tg, iter, ifs, 0⟩] scope pos) 0 (.ref it) (.ref D) Y.env) (compPost (model X.prog X.w) X.A X.xe use QV (.ref D) bk.C) s4 := by
    rintro s4 rfl
    have err : ∀ e s', Y.xe e s' → notedBy (model X.prog X.w) X.A Y.env (fun e s' => compPost (model X.prog X.w) X.A X.xe use QV (.ref D) bk.C (.error e) s') e s' := fun e s' q => by
      have q' : notedBy (model X.prog X.w) X.A Y.env (fun x s' => ∃ m, s'.heap.Ns bk.C m ∧ ∀ h', Heap.SameBut bk.C s'.heap h' → ∀ cenv : Env, cenv.locals = bk.C →
        wpAny (model X.prog X.w) X.A (passOn "comprehension.variables-let-go" x cenv : Sem Value) (fun _ _ => False) X.xe { s' with heap := h' }) e s' := q
      have conv : ∀ (x : Value) (t : Shared), (∃ m, t.heap.Ns bk.C m ∧ ∀ h', Heap.SameBut bk.C t.heap h' → ∀ cenv : Env, cenv.locals = bk.C →
        wpAny (model X.prog X.w) X.A (passOn "comprehension.variables-let-go" x cenv : Sem Value) (fun _ _ => False) X.xe { t with heap := h' }) → compPost (model X.prog X.w) X.A X.xe use QV (.ref D) bk.C (.error x) t := fun x t z => by
        cases use <;> exact z
      exact wpAny_mono q' (fun _ t z => conv _ t z) fun x t z => conv x t z
    refine codeAny_compLoop_any (fun n s' => ∃ i ys its nn σ' H', Inv Y [] σ' H' s' ∧ tn i s'.heap ∧ (∀ b ∈ fp, H' b = none) ∧ H' D = none ∧ ys.length ≤ sizeLine ∧ Vals ys its ∧ s'.heap.get? D = some { cls := .type "list", data := .seq its.toArray nn } ∧ W i n ys σ' H') ?_ m0
      ⟨0, [], [], 0, _, H2, I4, T.keep _ _ _ st3 fun b _ o q => k4 b o q, fun b hb => (f2 b hb).1, H2D, Nat.zero_le _, .nil, k4 _ _ hD3, w0⟩
    rintro n s5 ⟨i, ys, its, nn, σ5, H5, I5, st5, fr5, D5, hz5, v5, l5, w5⟩
    let pinD : List (Addr × Obj) := [(D, { cls := .type "list", data := .seq its.toArray nn })]
    have I5p : Inv Y pinD σ5 H5 s5 := I5.pins_of fun p hp => by
      have e : p = (D, { cls := .type "list", data := .seq its.toArray nn }) := by simpa [pinD] using hp
      subst e
      exact ⟨l5, D5, hDC, hDs, fun v z => by cases z⟩
    have stat : ∀ {H' : Hp}, (∀ b ∈ fp, H' b = none) → ∀ b ∈ fp, FpOk Y pinD H' b := fun {H'} hn b hb => by
      refine ⟨hn b hb, (I4.ok.exf b hb).1, I4.ok.exfs b hb, .inl hb, fun x c q z => (I4.ok.exf b hb).2 x c q z, fun p hp z => ?_⟩
      rcases ypn.mp hp with hp | hp
      · exact (f2 b hb).2.2.2.2.2 p hp z
      · have e : p = (D, { cls := .type "list", data := .seq its.toArray nn }) := by simpa [pinD] using hp
        subst e
        have z : D = b := z
        exact nDfp (by rw [z]; exact hb)
    have pD : ∀ {l : List (Addr × Obj)} {σ' : St} {H' : Hp} {s' : Shared}, Inv Y (pinD ++ l) σ' H' s' → s'.heap.get? D = some { cls := .type "list", data := .seq its.toArray nn } ∧ H' D = none := fun {l σ' H' s'} J => by
      have := J.pin (D, { cls := .type "list", data := .seq its.toArray nn }) (ypn.mpr (.inr (List.mem_append_left _ (by simp [pinD]))))
      exact ⟨this.1, this.2.1⟩
    rcases turn i n ys σ5 H5 w5 with ⟨stop, qn⟩ | ⟨go, hz, N, hN, step⟩
    · refine wpAny_mono (T.done Y rfl rfl rfl hc i pinD s5 σ5 H5 Y.xe I5p (stat fr5) st5 stop) (fun r s6 ⟨hr, I6⟩ => ?_) err
      subst hr
      obtain ⟨l6, D6⟩ := pD (l := []) (by simpa using I6)
      obtain ⟨m6, n6, _⟩ := id I6.loc
      have C6 : H5 bk.C = none := I6.free
      have hk : HOk X.prog X.w (upd H5 D (.lst ys)) s6.heap := I6.hok.track D6 ⟨hz5, its, nn, v5, l6⟩
      have u6 : Un (frs X.stack) fp H2 (upd H5 D (.lst ys)) s2.heap s6.heap := by
        have u : Un (frs X.stack) fp H2 H5 s2.heap s6.heap := I6.base
        have nD : ∀ b o, s2.heap.get? b = some o → b ≠ D := fun b o q => Nat.ne_of_lt (Heap.lt_size q)
        exact ⟨u.keep, u.slot, fun b o q n hx => by rw [upd_ne (nD b o q)]; exact u.free b o q n hx, u.there, fun b xs q => by rw [upd_ne (ne_of_none q H2D)]; exact u.tups b xs q,
          fun b o v q => by rw [upd_ne (ne_of_none q H2D)]; exact u.frzs b o v q, fun b ps q => by rw [upd_ne (ne_of_none q H2D)]; exact u.tbls b ps q⟩
      have I7 : Inv X pins σ (upd H5 D (.lst ys)) s6 := I2.call' (ch := fp) I6.os u6 hk I6.bare fun b hb => ⟨(f2 b hb).2.2.2.1, (f2 b hb).2.1, (f2 b hb).2.2.2.2.1, (f2 b hb).2.2.2.2.2⟩
      have hC2 : s2.heap.objs.size ≤ bk.C := by show s2.heap.objs.size ≤ s3.heap.objs.size; rw [z3]; omega
      refine fin D bk.C _ s6 m6 I7 (qn D D6) n6 (by rw [upd_ne hDC.symm]; exact C6) (Nat.ne_of_gt (Nat.lt_of_lt_of_le I2.lt hC2)) (.inr (Nat.le_trans I2.sz hC2)) (fun x c q z => ?_) fun p hp z => ?_
      · obtain ⟨v, q⟩ := I2.cell x c q
        have := q.lt
        rw [z] at this
        exact absurd (Nat.lt_of_lt_of_le this hC2) (Nat.lt_irrefl _)
      · have := Heap.lt_size (I2.pin p hp).1
        rw [z] at this
        exact absurd (Nat.lt_of_lt_of_le this hC2) (Nat.lt_irrefl _)
    · refine wpAny_mono (T.item Y rfl rfl rfl hc i pinD s5 σ5 H5 Y.xe I5p (stat fr5) st5 go) (fun r s6 ⟨u, hr, h6⟩ => ?_) err
      subst hr
      refine wpAny_mono h6 (fun _ s7 ⟨x, H7, I7, r7, y7, st7, fr7⟩ => ?_) err
      have I7' := I7.pinned (fp := fp) (stat fr7) (T.obj _ _ st7)
      have again : ∀ {σ8 : St} {H8 : Hp} {s8 : Shared}, Inv Y (pinD ++ pinsAt fp s7.heap) σ8 H8 s8 → tn (i + 1) s8.heap ∧ ∀ b ∈ fp, H8 b = none := fun {σ8 H8 s8} J => by
        refine ⟨T.keep _ _ _ st7 fun b hb o e => (J.pin (b, o) (ypn.mpr (.inr (List.mem_append_right _ (mem_pinsAt hb e))))).1, fun b hb => ?_⟩
        obtain ⟨o, e, d⟩ := T.obj _ _ st7 b hb
        exact (J.pin (b, o) (ypn.mpr (.inr (List.mem_append_right _ (mem_pinsAt hb e))))).2.1
      refine wpAny_mono (hg bk _ s7 σ5 H7 x u _ I7' r7 (step x H7 y7)) (fun _ s8 ⟨σ8, H8, I8, q8⟩ => ?_) err
      refine wpAny_mono (ht bk hBk _ s8 σ8 H8 _ I8 q8) (fun c s9 ⟨H9, I9, q9⟩ => ?_) err
      cases c with
      | false =>
        obtain ⟨m', hm, w'⟩ := hN ys σ8 H9 q9
        obtain ⟨a1, a2⟩ := again I9
        obtain ⟨b1, b2⟩ := pD I9
        exact ⟨m', hm, i + 1, ys, its, nn, σ8, H9, I9.pins_of (fun p hp => (nomatch hp)), a1, a2, b2, hz5, v5, b1, w'⟩
      | true =>
        refine wpAny_mono (he bk hBk _ s9 σ8 H9 _ I9 q9) (fun y s10 ⟨yv, H10, I10, r10, q10⟩ => ?_) err
        obtain ⟨m', hm, w'⟩ := hN (ys ++ [yv]) σ8 H10 q10
        obtain ⟨a1, a2⟩ := again I10
        obtain ⟨b1, b2⟩ := pD I10
        have hl := v5.length
        refine call_meets F.slot_list_append ⟨_, b1, rfl⟩ F.entry_list_append (F.args_list_append_2 _ _) (PySem.list_append D its.toArray nn y (by rw [List.size_toArray]; omega)) ⟨b1, ?_⟩
        have q := PySem.IsL.update b1 (fun z => z.push y)
        have ko : ∀ b o, b ≠ D → s10.heap.get? b = some o → (s10.heap.update D (Obj.mapSeq fun z => z.push y)).get? b = some o := fun b o hb hu => (Heap.get?_update_other s10.heap _ (Ne.symm hb)).trans hu
        have I10' : Inv Y [] σ8 H10 s10 := I10.pins_of (fun p hp => (nomatch hp))
        have I11 : Inv Y [] σ8 H10 { s10 with heap := s10.heap.update D (Obj.mapSeq fun z => z.push y), toks := s10.toks } := I10'.turned (it := D) ko b2 hDC (.inr (Nat.le_refl _)) (fun x c e z => by
          have h4 := I4.freeC x c e
          have h5 := I4.cell x c e
          obtain ⟨v, o, ho, hd⟩ := h5
          rw [z] at ho
          have := k4 _ _ hD3
          have ho : (pushCells (s3.heap.push { cls := .type "dict", data := .dict #[] }) scope.names).get? D = some o := ho
          rw [this] at ho
          cases ho
          cases hd) (fun p hp z => by
          rcases ypn.mp hp with hp | hp
          · have := Heap.lt_size (I2.pin p hp).1
            rw [z] at this
            exact Nat.lt_irrefl _ this
          · cases hp)
        refine ⟨m', hm, i + 1, ys ++ [yv], its ++ [y], (if ((its.toArray.push y).size == its.toArray.size) = true then nn else nn + 1), σ8, H10, I11, T.keep _ _ _ a1 fun b hb o e => ko b o (fun z => nDfp (z ▸ hb)) e, a2, b2, by simp; omega, v5.append (.cons r10 .nil), ?_, w'⟩
        have e : its.toArray.push y = (its ++ [y]).toArray := by simp
        rw [← e]
        exact q
  exact codeAny_compStart_list (loop _ rfl) (T.self X.A 0 _ _ _ (T.keep _ _ _ st3 fun b _ o q => k4 b o q) (loop _ rfl))

section
variable {X : Cx} {own fr : List Str} {ix : List Nat} {scope : Scope} {elt tg iter : Expr} {ifs : List Expr} {pos : Pos} {wi : TI} {g : Blk → TG} {tt : Blk → TT} {te : Blk → TE}
/-- [elt for tg in iter if ..] as a value -/
theorem pe_comp (hc : X.calm = true) (B : BlkScope X own fr ix scope) (hi : PI X tg iter wi) (hg : ∀ b, PG (X.block (own ++ fr) scope b) tg (g b)) (ht : ∀ b, BOk X b → PTs (X.block (own ++ fr) scope b) ifs (tt b)) (he : ∀ b, BOk X b → PE (X.block (own ++ fr) scope b) elt (te b))
    (hs : ∀ x, foldedSetIterable iter X.env x = pure x := by intro _; rfl) : PE X (.ListComp elt [⟨tg, iter, ifs, 0⟩] scope pos) (tBlk own.length ix wi g tt te) := by
  intro pins s σ H Q I h
  rw [eval_ListComp]
  refine comp_run (use := none) hc B hi hg ht he hs I h fun D C H' s' m J q n c1 c2 c3 c4 c5 => ?_
  refine ⟨m, n, fun h' sb => ⟨.ref D, H', ?_, rfl, q⟩⟩
  exact J.turned (it := C) (t' := s'.toks) (fun b o hb e => (sb.2 b hb).trans e) c1 c2 c3 c4 c5
/-- name = [elt for ..] -/
theorem ps_comp {i : Nat} {x : Str} {pos' spos : Pos} (hN : X.N.Nodup) (hx1 : X.N[i]? = some x) (hx : Loc X.env.scope x) (hc : X.calm = true) (B : BlkScope X own fr ix scope) (hi : PI X tg iter wi) (hg : ∀ b, PG (X.block (own ++ fr) scope b) tg (g b)) (ht : ∀ b, BOk X b → PTs (X.block (own ++ fr) scope b) ifs (tt b))
    (he : ∀ b, BOk X b → PE (X.block (own ++ fr) scope b) elt (te b)) (hsw : swapsWith (.ListComp elt [⟨tg, iter, ifs, 0⟩] scope pos) (some (.Name x pos')) spos.line X.env = pure true := by rfl) (hf : X.fn x = true ∨ X.env.scope.names.lookup x = some .local := by first | exact .inl rfl | exact .inr rfl | assumption)
    (hs : ∀ x, foldedSetIterable iter X.env x = pure x := by intro _; rfl) : PS X (.Assign [.Name x pos'] (.ListComp elt [⟨tg, iter, ifs, 0⟩] scope pos) spos) (tAsg (tBlk own.length ix wi g tt te) (gName i)) := by
  intro pins s σ H D I h
  rw [exec_Assign_Name_used _ _ _ _ hsw]
  refine wpAny_bind (wpAny_standAt (wpAny_bind ?_))
  show wpAny _ X.A (do let _ ← comprehension (.ListComp elt [⟨tg, iter, ifs, 0⟩] scope pos) scope X.env _ (newList []) false (eval iter X.env) (some (assign (.Name x pos') X.env))) _ _ s
  refine wpAny_bind (wpAny_mono (comp_run (use := some (assign (.Name x pos') X.env)) (QV := fun _ s' => SP X pins D .next s') hc B hi hg ht he hs I h fun d C H' s' m J q n c1 c2 c3 c4 c5 => ?_) (fun _ s' hq => wpAny_pure (wpAny_pure hq)) fun _ _ e => e)
  show wpAny _ X.A (assign (.Name x pos') X.env (.ref d)) _ _ _
  refine wpAny_assign_Name (store_ok2 (v := .ref d) J hN hx1 hx rfl (fun s2 J2 ⟨a, sb, ha⟩ => ?_) hf)
  have ne : C ≠ a := by
    rcases ha with z | z
    · rw [z]; exact c2
    · exact fun e => c4 x a z e.symm
  have n2 : s2.heap.Ns C m := by
    obtain ⟨o, es, ep, ho, r⟩ := n
    exact ⟨o, es, ep, (sb.2 C ne).trans ho, r⟩
  exact ⟨m, n2, fun h' sb' => ⟨_, H', J2.turned (it := C) (t' := s2.toks) (fun b o hb e => (sb'.2 b hb).trans e) c1 c2 c3 c4 c5, q⟩⟩
end
end L2

set_option Elab.async false
set_option linter.all false
set_option maxRecDepth 100000
set_option maxHeartbeats 4000000
namespace L2
open PySem PySem.Spec PyProof.Rows

/-- untracked records of ours have turned -/
theorem Inv.turnedL {X : Cx} {pins : List (Addr × Obj)} {σ : St} {H : Hp} {s : Shared} {h' : Heap} {t' : Nat} {ch : List Addr} (I : Inv X pins σ H s) (hf : ∀ b ∈ ch, FpOk X pins H b) (k : ∀ b o, b ∉ ch → s.heap.get? b = some o → h'.get? b = some o) (th : ∀ b ∈ ch, ∃ o, h'.get? b = some o) :
    Inv X pins σ H { s with heap := h', toks := t' } := by
  have nit : ∀ b u, H b = some u → b ∉ ch := fun b u e z => by rw [(hf b z).1] at e; cases e
  refine I.step (g' := s.gens) (d' := s.drawn) (ch := ch) (fun b hb => ⟨(hf b hb).2.2.2.1, (hf b hb).2.1, (hf b hb).2.2.2.2.1, (hf b hb).2.2.2.2.2⟩) (fun b o _ _ hc e _ => k b o hc e) (fun b o _ _ hc e _ => ⟨o.slots, k b o hc e⟩) (fun _ _ _ _ n => n)
    (fun b o hc e => ⟨o, k b o hc e⟩) (fun _ _ e => e) (fun _ _ _ e => e) (fun b ps e => ⟨#[], by rw [e]; simp⟩) (fun m hm => ?_) (fun b u e => ?_) I.bare
  · obtain ⟨o, es, ep, ho, r⟩ := hm
    exact ⟨o, es, ep, k _ o (fun z => (hf _ z).2.1 rfl) ho, r⟩
  · refine (I.hok b u e).stay (fun c v hc q => k c v ?_ q) (fun _ q => q) fun _ _ q => q
    rcases hc with z | z
    · rw [z]; exact nit b u e
    · exact nit c _ z

/-! ### enumerate over a list -/
def Ite (K : PySem.W.Frag) (a : Addr) : It :=
  ⟨fun i H => ∃ xs x, SqL K H a xs ∧ xs[i]? = some x, fun i H x H' => ∃ p v, H p = none ∧ x = .ref p ∧ H' = upd H p (.tup [.int i, v]) ∧ ∀ xs, SqL K H a xs → xs[i]? = some v, fun i H => ∃ xs, SqL K H a xs ∧ xs.length ≤ i⟩
theorem turn_enum {P : Program} {w : World} {K : PySem.W.Frag} {elts : List Expr} {x1} {tpos : Pos} (a e it : Addr) (hne : e ≠ it) : Turn P w K (.Tuple elts x1 tpos) (Ite K a) [e, it] e (fun i h => ∃ old, IsEnum h e it ((i : Nat) : Int) old ∧ h.IsListIter it a i) where
  mem := by simp
  obj := fun i h ⟨old, he, hi⟩ b hb => by
    have eb : b = e ∨ b = it := by simpa using hb
    rcases eb with rfl | rfl
    · exact ⟨_, he, fun v z => by cases z⟩
    · obtain ⟨o, e, c, d⟩ := hi
      exact ⟨o, e, fun v z => by rw [d] at z; cases z⟩
  keep := fun i h h' ⟨old, he, hi⟩ k => ⟨old, k e (by simp) _ he, hi.at fun o q => k it (by simp) o q⟩
  item := by
    intro X hP hw hK hc i pins s σ H E I hf st hg
    subst hP hw hK
    obtain ⟨old, he, hit⟩ := st
    obtain ⟨xs, x, hq, hx⟩ := hg
    obtain ⟨its, rv, p, hz⟩ := I.list hq
    obtain ⟨u, hu, ru⟩ := rv.get hx
    refine wpAny_pyNext_enum_item he hit p.isList (x := u) (by simpa using hu) hne fun h1 heo hit1 ht1 hz1 hk1 => ?_
    have hsz := Heap.lt_size he
    obtain ⟨oi, hoi, _⟩ := id hit
    have hszi := Heap.lt_size hoi
    refine ⟨_, rfl, wpAny_letOwnedTupleGo_enum heo fun h2 he2 hs2 => ?_⟩
    have hs2 : Heap.SameBut e h1 h2 := hs2
    have k2 : ∀ b o, b ∉ [e, it] → s.heap.get? b = some o → h2.get? b = some o := fun b o hb q => by
      have hb : ¬ (b = e ∨ b = it) := by simpa using hb
      exact (hs2.2 b (fun z => hb (.inl z))).trans (hk1 b o (fun z => hb (.inl z)) (fun z => hb (.inr z)) q)
    have I2 : Inv X pins σ H { s with heap := h2, toks := s.toks + 1 } := I.turnedL (ch := [e, it]) hf k2 fun b hb => by
      have eb : b = e ∨ b = it := by simpa using hb
      rcases eb with rfl | rfl
      · exact ⟨_, he2⟩
      · obtain ⟨o, q, _⟩ := hit1
        exact ⟨o, (hs2.2 b (Ne.symm hne)).trans q⟩
    have hp : H s.heap.objs.size = none := I.hok.fresh (Nat.le_refl _)
    have ht2 : h2.get? s.heap.objs.size = some { cls := .type "tuple", data := .seq #[.int i s.toks, u] } := (hs2.2 _ (Nat.ne_of_gt hsz)).trans ht1
    -- the new tuple is tracked
    have I3 : Inv X pins σ (upd H s.heap.objs.size (.tup [.int i, x])) { s with heap := h2, toks := s.toks + 1 } := by
      have ok3 : HOk X.prog X.w (upd H s.heap.objs.size (.tup [.int i, x])) h2 := I2.hok.track hp ⟨by show 2 ≤ sizeLine; decide, [.int i s.toks, u], .cons ⟨_, rfl⟩ (.cons ru .nil), ⟨_, ht2, rfl, _, rfl⟩⟩
      refine I.step (g' := s.gens) (d' := s.drawn) (ch := [e, it]) (fun b hb => ⟨(hf b hb).2.2.2.1, (hf b hb).2.1, (hf b hb).2.2.2.2.1, (hf b hb).2.2.2.2.2⟩) (fun b o _ _ hc q _ => k2 b o hc q) (fun b o _ _ hc q _ => ⟨o.slots, k2 b o hc q⟩)
        (fun b o _ q n => by rw [upd_ne (Nat.ne_of_lt (Heap.lt_size q))]; exact n) (fun b o hc q => ⟨o, k2 b o hc q⟩) (fun b ys q => by rw [upd_ne (ne_of_none q hp)]; exact q) (fun b o v q => by rw [upd_ne (ne_of_none q hp)]; exact q)
        (fun b ps q => ⟨#[], by rw [upd_ne (ne_of_none q hp), q]; simp⟩) (fun m hm => ?_) ok3 I.bare
      obtain ⟨o, es, ep, ho, r⟩ := hm
      exact ⟨o, es, ep, k2 _ o (fun z => (hf _ z).2.1 rfl) ho, r⟩
    have ei : ((i : Nat) : Int) + 1 = ((i + 1 : Nat) : Int) := by push_cast; rfl
    rw [ei] at he2
    refine ⟨.ref s.heap.objs.size, _, I3, rfl, ⟨_, x, hp, rfl, rfl, fun ys hy => by rw [I.list_inj hy hq]; exact hx⟩, ⟨u, he2, hit1.at fun o q => (hs2.2 it (Ne.symm hne)).trans q⟩, fun b hb => ?_⟩
    have eb : b = e ∨ b = it := by simpa using hb
    have hb2 : b < s.heap.objs.size := by
      rcases eb with rfl | rfl
      · exact hsz
      · exact hszi
    rw [upd_ne (Nat.ne_of_lt hb2)]
    exact (hf b hb).1
  done := by
    intro X hP hw hK hc i pins s σ H E I hf st hg
    subst hP hw hK
    obtain ⟨old, he, hit⟩ := st
    obtain ⟨xs, hq, hx⟩ := hg
    obtain ⟨its, rv, p, hz⟩ := I.list hq
    have hl := rv.length
    obtain ⟨f0, f1, f2, f3, f4, f5⟩ := hf it (by simp)
    exact wpAny_pyNext_enum_end (I.ok.hd hc) he hit p.isList (by simp; omega) fun h' eb => ⟨rfl, I.turned (t' := s.toks) (fun b o hb q => eb b o hb q) f0 f1 f3 f4 f5⟩
  self := fun _ _ _ _ _ ⟨_, he, _⟩ h => wpAny_pyIter_enum he h
def iEnum (K : PySem.W.Frag) (ta : TA) : TI := fun σ H R => ta σ H fun vs H1 => ∃ a, vs = [.ref a] ∧ (∃ xs, SqL K H1 a xs) ∧ R (Ite K a) H1
section
variable {X : Cx}
theorem pi_enum {a : Expr} {ta : TA} {p pos : Pos} {elts : List Expr} {x1} {tpos : Pos} (hg : Gl X "enumerate") (hm : X.mg "enumerate" = none) (ha : PA X [a] ta) (hs : starEach [a] X.env = [(false, eval a X.env)] := by rfl) :
    PI X (.Tuple elts x1 tpos) (.Call (.Name "enumerate" p) [a] [] pos) (iEnum X.K ta) := by
  intro pins s σ H R I h
  refine Call_ (ld_blt I hg hm boot_enumerate (PyProof.Rows.callWith_type1 (thn (ha pos pins s σ H _ I h) fun us s1 ⟨vs, H1, I1, r1, q1⟩ => ?_) hs rfl))
  obtain ⟨b, e, ⟨xs, hq⟩, q⟩ := q1
  subst e
  cases r1 with
  | cons r rr =>
    cases rr
    cases r
    obtain ⟨its, rv, pl, hz⟩ := I1.list hq
    refine call_enumerate_list pl.isList fun h' he hit hsz hk => ?_
    have I2 : Inv X pins σ H1 { s1 with heap := h' } := I1.kept (t' := s1.toks) hk
    refine wpAny_pyIter_enum he ⟨s1.heap.objs.size + 1, [s1.heap.objs.size + 1, s1.heap.objs.size], _, _, H1, rfl, I2, turn_enum b _ _ (Nat.succ_ne_self _), ⟨_, he, hit⟩, fun c hc => ?_, q⟩
    have ec : c = s1.heap.objs.size + 1 ∨ c = s1.heap.objs.size := by simpa using hc
    rcases ec with rfl | rfl
    · exact I1.fpOk (Nat.le_succ _) (I1.hok.fresh (Nat.le_succ _))
    · exact I1.fpOk (Nat.le_refl _) (I1.hok.fresh (Nat.le_refl _))

/-! ### all, any of a list of bools -/
theorem Vals.bls : ∀ {bs : List Bool} {us : List Value}, Vals (bs.map V.bl) us → us = bs.map Value.bool
  | [], _, .nil => rfl
  | _ :: _, _, .cons r t => by
    cases r
    rw [List.map_cons, Vals.bls t]
theorem all_range {bs : List Bool} : ((List.range bs.length).all fun i => bs.getD i false) = bs.all id := by
  induction bs with
  | nil => rfl
  | cons b r ih =>
    rw [List.length_cons, List.range_succ_eq_map, List.all_cons, List.all_map, List.all_cons]
    rw [← ih]
    rfl
theorem call_all (hc : X.calm = true) : CallR X (.builtin "all") (fun xs H Q => ∃ (p : Addr) (bs : List Bool), xs = [.ref p] ∧ SqL X.K H p (bs.map V.bl) ∧ Q (.bl (bs.all id)) H) := by
  intro pins s σ H xs us Q I r h
  obtain ⟨p, bs, rfl, hq, q⟩ := h
  obtain ⟨u, rfl, ru⟩ := vals1 r
  cases ru
  obtain ⟨its, rv, pl, hz⟩ := I.list hq
  have eb := rv.bls
  subst eb
  refine call_all_walk ?_
  refine wpAny_pyIter_list pl.isList ?_
  have pm : p ≠ s.heap.objs.size := by
    obtain ⟨o, n, ho, _⟩ := pl
    exact Nat.ne_of_lt (Heap.lt_size ho)
  have I1 : Inv X pins σ H { s with heap := s.heap.push { cls := .type "list_iterator", data := .fields #[.ref p, .int 0 0] } } := I.kept (t' := s.toks) fun b o e => Heap.get?_push_of_some _ e
  refine ⟨s.heap.objs.size, [s.heap.objs.size, p], [s.heap.objs.size], _, _, _, fun i => bs.getD i false, rfl, Walks.list (A := X.A.in1) (by show X.A.handled = none; exact I.ok.hd hc) s.heap.objs.size p pm (bs.map Value.bool).toArray, ⟨⟨_, Heap.get?_push_size _ rfl, rfl, rfl⟩, pl.isList.at fun o e => Heap.get?_push_of_some _ e⟩, fun i v s' Q' E' hv hq' => ?_, fun h' tk hk => ?_⟩
  · have hv : (bs.map Value.bool)[i]? = some v := by simpa using hv
    rw [List.getElem?_map] at hv
    cases e : bs[i]? with
    | none => rw [e] at hv; cases hv
    | some b =>
      rw [e] at hv
      cases hv
      have : bs.getD i false = b := by rw [List.getD_eq_getElem?_getD, e]; rfl
      have hq' : Q' (bs.getD i false) s' := hq'
      rw [this] at hq'
      exact wpAny_truthy_bool hq'
  · have e : (bs.map Value.bool).toArray.size = bs.length := by simp
    rw [e, all_range]
    obtain ⟨f0, f1, f2, f3, f4, f5⟩ := I.fpOk (Nat.le_refl s.heap.objs.size) (I.hok.fresh (Nat.le_refl _))
    exact ⟨.bl (bs.all id), H, I1.turned (it := s.heap.objs.size) (fun b o hb q => hk b o (by simpa using hb) q) f0 f1 f3 f4 f5, rfl, q⟩
/-! ### isinstance -/
def isiOk (K : PySem.W.Frag) (t : Value) (c : V) (b : Bool) : Prop := match c with
  | .ty n => PySem.W.kitOne K t (.type n) = some b
  | .ref a => PySem.W.kitOne K t (.ref a) = some b
  | _ => False
theorem call_isi : CallR X (.builtin "isinstance") (fun xs H Q => ∃ x c t b, xs = [x, c] ∧ TyOf X.K H x t ∧ isiOk X.K t c b ∧ Q (.bl b) H) := by
  intro pins s σ H xs us Q I r h
  obtain ⟨x, c, t, b, rfl, ty, ok, q⟩ := h
  obtain ⟨u, v, rfl, ru, rv⟩ := vals2 r
  cases c with
  | ty n =>
    obtain rfl : v = Value.type n := rv
    exact isinst_ok I ru ty ok fun tk => ⟨.bl b, H, I.tok tk, rfl, q⟩
  | ref a =>
    obtain rfl : v = Value.ref a := rv
    exact isinst_ok I ru ty ok fun tk => ⟨.bl b, H, I.tok tk, rfl, q⟩
  | _ => exact False.elim ok

/-! ### == and != of lists, tuples with flat items -/
def eqVs : List V → List V → Bool
  | [], [] => true
  | x :: xs, y :: ys => eqV x y && eqVs xs ys
  | _, _ => false
theorem eqVs_len : ∀ {xs ys : List V}, xs.length ≠ ys.length → eqVs xs ys = false
  | [], [], h => absurd rfl h
  | [], _ :: _, _ => rfl
  | _ :: _, [], _ => rfl
  | x :: xs, y :: ys, h => by
    unfold eqVs
    rw [eqVs_len (xs := xs) (ys := ys) (fun e => h (by simp [e]))]
    simp
theorem eqVs_range : ∀ (xs ys : List V), xs.length = ys.length → ((List.range xs.length).all fun j => eqV (xs.getD j .non) (ys.getD j .non)) = eqVs xs ys
  | [], [], _ => rfl
  | x :: xs, y :: ys, h => by
    unfold eqVs
    rw [List.length_cons, List.range_succ_eq_map, List.all_cons, List.all_map, ← eqVs_range xs ys (by simpa using h)]
    rfl
theorem eqVs_min : ∀ (xs ys : List V), ((List.range (min xs.length ys.length)).all (fun j => eqV (xs.getD j .non) (ys.getD j .non)) && xs.length == ys.length) = eqVs xs ys := fun xs ys => by
  by_cases h : xs.length = ys.length
  · rw [← eqVs_range xs ys h, ← h, Nat.min_self]; simp
  · rw [eqVs_len h]
    have : (xs.length == ys.length) = false := by simpa using h
    rw [this, Bool.and_false]
theorem eqAt_items {A : Around} {s : Shared} {xs ys : List V} {us ws : List Value} (r : Vals xs us) (q : Vals ys ws) (fx : xs.all flatV = true) (fy : ys.all flatV = true) :
    ∀ j (h1 : j < us.toArray.size) (h2 : j < ws.toArray.size), SeqAt.EqAt A s us.toArray[j] ws.toArray[j] (eqV (xs.getD j .non) (ys.getD j .non)) := fun j h1 h2 => by
  have l1 := r.length
  have l2 := q.length
  have h1' : j < xs.length := by simpa [l1] using h1
  have h2' : j < ys.length := by simpa [l2] using h2
  obtain ⟨u, e1, ru⟩ := r.get (i := j) (x := xs[j]) (by simp [h1'])
  obtain ⟨w, e2, rw'⟩ := q.get (i := j) (x := ys[j]) (by simp [h2'])
  have g1 : us.toArray[j] = u := by
    have := List.getElem?_eq_some_iff.mp e1
    obtain ⟨_, e⟩ := this
    simpa using e
  have g2 : ws.toArray[j] = w := by
    have := List.getElem?_eq_some_iff.mp e2
    obtain ⟨_, e⟩ := this
    simpa using e
  rw [g1, g2]
  have d1 : xs.getD j .non = xs[j] := by rw [List.getD_eq_getElem?_getD]; simp [h1']
  have d2 : ys.getD j .non = ys[j] := by rw [List.getD_eq_getElem?_getD]; simp [h2']
  rw [d1, d2]
  exact eqAt_V ru rw' (List.all_eq_true.mp fx _ (List.getElem_mem h1')) (List.all_eq_true.mp fy _ (List.getElem_mem h2'))
/-- both lists, or both tuples -/
def rEqS (K : PySem.W.Frag) (neg : Bool) : R2 := fun x y H Q => ∃ a b xs ys, x = .ref a ∧ y = .ref b ∧ ((SqL K H a xs ∧ SqL K H b ys) ∨ (SqT K H a xs ∧ SqT K H b ys)) ∧ xs.all flatV = true ∧ ys.all flatV = true ∧ Q (.bl (if neg then !eqVs xs ys else eqVs xs ys)) H
theorem op_eqS (hu : X.A.units < cLine) : OpR X (compareOp .Eq) (rEqS X.K false) := by
  intro pins s σ H x y v u Q I rx ry h
  obtain ⟨a, b, xs, ys, rfl, rfl, hh, fx, fy, q⟩ := h
  cases rx
  cases ry
  rcases hh with ⟨h1, h2⟩ | ⟨h1, h2⟩
  · obtain ⟨us, rv, p1, z1⟩ := I.list h1
    obtain ⟨ws, rw', p2, z2⟩ := I.list h2
    have l1 := rv.length
    have l2 := rw'.length
    by_cases hl : xs.length = ys.length
    · refine SeqAt.eq_listAt p1.isList p2.isList (by simp; omega) hu (eqAt_items rv rw' fx fy) ?_
      have e : (us.toArray.size) = xs.length := by simp [l1]
      rw [e, eqVs_range xs ys hl]
      exact ⟨.bl _, H, I, rfl, q⟩
    · refine SeqAt.eq_list_lengthsAt p1.isList p2.isList (by simp; omega) hu ?_
      rw [← eqVs_len hl]
      exact ⟨.bl _, H, I, rfl, q⟩
  · obtain ⟨us, rv, p1, z1⟩ := I.tuple h1
    obtain ⟨ws, rw', p2, z2⟩ := I.tuple h2
    have l1 := rv.length
    have l2 := rw'.length
    refine SeqAt.eq_tupleAt (show s.heap.IsTuple a us.toArray from p1) (show s.heap.IsTuple b ws.toArray from p2) hu (eqAt_items rv rw' fx fy) ?_
    have e : (us.toArray.size) = xs.length := by simp [l1]
    have e' : (ws.toArray.size) = ys.length := by simp [l2]
    rw [e, e', eqVs_min xs ys]
    exact ⟨.bl _, H, I, rfl, q⟩
theorem op_neS (hu : X.A.units < cLine) : OpR X (compareOp .NotEq) (rEqS X.K true) := by
  intro pins s σ H x y v u Q I rx ry h
  obtain ⟨a, b, xs, ys, rfl, rfl, hh, fx, fy, q⟩ := h
  cases rx
  cases ry
  rcases hh with ⟨h1, h2⟩ | ⟨h1, h2⟩
  · obtain ⟨us, rv, p1, z1⟩ := I.list h1
    obtain ⟨ws, rw', p2, z2⟩ := I.list h2
    have l1 := rv.length
    have l2 := rw'.length
    by_cases hl : xs.length = ys.length
    · refine SeqAt.RcNeAt.lists p1.isList p2.isList (by simp; omega) hu (eqAt_items rv rw' fx fy) _ _ _ _ ?_
      have e : (us.toArray.size) = xs.length := by simp [l1]
      rw [e, eqVs_range xs ys hl]
      exact ⟨.bl _, H, I, rfl, q⟩
    · refine SeqAt.RcNeAt.lists_lengths p1.isList p2.isList (by simp; omega) hu _ _ _ _ ?_
      have q' : Q (.bl (!eqVs xs ys)) H := q
      rw [eqVs_len hl] at q'
      exact ⟨.bl _, H, I, rfl, q'⟩
  · obtain ⟨us, rv, p1, z1⟩ := I.tuple h1
    obtain ⟨ws, rw', p2, z2⟩ := I.tuple h2
    have l1 := rv.length
    have l2 := rw'.length
    refine SeqAt.RcNeAt.tuples (show s.heap.IsTuple a us.toArray from p1) (show s.heap.IsTuple b ws.toArray from p2) hu (eqAt_items rv rw' fx fy) _ _ _ _ ?_
    have e : (us.toArray.size) = xs.length := by simp [l1]
    have e' : (ws.toArray.size) = ys.length := by simp [l2]
    rw [e, e', eqVs_min xs ys]
    exact ⟨.bl _, H, I, rfl, q⟩
end
end L2

set_option Elab.async false
set_option linter.all false
set_option maxRecDepth 100000
set_option maxHeartbeats 4000000
namespace L2
open PySem PySem.Spec PyProof.Rows

/-- no exception is wanted, none comes -/
def NoX (CX : CXT) : Prop := ∀ o H s e s', CX o H s E0 e s' → False
theorem pass1 {CX : CXT} {X : Cx} (c0 : NoX CX) : Passes CX X E0 := fun _ _ _ _ _ _ _ h => (c0 _ _ _ _ _ h).elim
theorem hu0 {A : Around} {k : Nat} (hr : Room k A) : A.units < cLine := hr.units0
section
variable {P : Program} {w : World} {K : PySem.W.Frag} {mg : Str → Option Value} {base : Heap}
/-- a def from which no exception comes -/
theorem Fun.okX {CX : CXT} {x qual : Str} {st : Stmt} {f : Addr} {fd : FuncData} {N ps : List Str} {k : Nat} {sp : Sp} (F : Fun K x qual st f fd) (S : FnScope N ps (defScope st)) (len : ∀ vs H Q E, sp vs H Q E → vs.length = ps.length)
    (hbody : ∀ (cdv : Value) (A : Around) (outer : List Env) (s : Shared) (H : Hp) (vs : List V) (Q : VK) (E : XK), Room k (A.deeper (envOfC qual (defScope st) s.heap.objs.size f cdv)) → sp vs H Q E →
      ∃ t, PSs (cxOf CX P w K mg base N qual (defScope st) f cdv A outer s H E).nox (defBody st) t ∧ t { nx := fun _ H' => Q .non H', rt := Q } (start N vs) H) : FnOk P w K mg base CX (k + 1) f fd ps sp := by
  obtain ⟨oc, od, kV, doc, pm, an, cdv, ct, osl, rfl, lk, hcd⟩ := F.ex
  refine fn_of lk hcd S len fun A outer s H vs Q E hr hsp => ?_
  obtain ⟨t, h, q⟩ := hbody cdv A outer s H vs Q E hr hsp
  exact ⟨t, h.nox, q⟩
end

/-! ### comprehensions: the forms one uses -/
theorem blk_list {K : PySem.W.Frag} {a : Addr} {xs : List V} {own : Nat} {ix : List Nat} {g : Blk → TG} {tt : Blk → TT} {te : Blk → TE} {σ0 : St} {H0 : Hp} {Q : VK} (Pv : Nat → List V → St → Hp → Prop) (hz : xs.length ≤ sizeLine) (h0 : Pv 0 [] (blkStart own ix σ0) H0) (hl : ∀ i ys σ H, i ≤ xs.length → Pv i ys σ H → SqL K H a xs ∧ ys.length ≤ i)
    (hs : ∀ bk i x ys σ H, xs[i]? = some x → Pv i ys σ H → g bk x σ H fun σ2 H2 => tt bk σ2 H2 fun c H3 => if c = true then te bk σ2 H3 fun y H4 => Pv (i + 1) (ys ++ [y]) σ2 H4 else Pv (i + 1) ys σ2 H3)
    (hd : ∀ ys σ H D, Pv xs.length ys σ H → H D = none → Q (.ref D) (upd H D (.lst ys))) :
    BlkBody own ix g tt te σ0 Q (Itl K a) H0 := by
  intro bk
  refine ⟨fun i m ys σ H => m = xs.length - i ∧ i ≤ xs.length ∧ Pv i ys σ H, ⟨xs.length, by simp, Nat.zero_le _, h0⟩, ?_⟩
  rintro i m ys σ H ⟨rfl, hi, p⟩
  obtain ⟨q, hy⟩ := hl i ys σ H hi p
  by_cases hlt : i < xs.length
  · refine .inr ⟨⟨xs, xs[i], q, by simp [hlt]⟩, by omega, Pv (i + 1), fun ys' σ' H' p' => ⟨xs.length - (i + 1), by omega, rfl, hlt, p'⟩, fun x H' y => ?_⟩
    obtain ⟨e, y⟩ := y
    subst e
    exact hs bk i x ys σ _ (y xs q) p
  · have e : i = xs.length := by omega
    subst e
    exact .inl ⟨⟨xs, q, Nat.le_refl _⟩, fun D hD => hd ys σ H D p hD⟩
theorem blk_range {lo : Int} {n : Nat} {own : Nat} {ix : List Nat} {g : Blk → TG} {tt : Blk → TT} {te : Blk → TE} {σ0 : St} {H0 : Hp} {Q : VK} (Pv : Nat → List V → St → Hp → Prop) (hz : n ≤ sizeLine) (h0 : Pv 0 [] (blkStart own ix σ0) H0) (hl : ∀ i ys σ H, i ≤ n → Pv i ys σ H → ys.length ≤ i)
    (hs : ∀ bk i ys σ H, i < n → Pv i ys σ H → g bk (.int (lo + i)) σ H fun σ2 H2 => tt bk σ2 H2 fun c H3 => if c = true then te bk σ2 H3 fun y H4 => Pv (i + 1) (ys ++ [y]) σ2 H4 else Pv (i + 1) ys σ2 H3)
    (hd : ∀ ys σ H D, Pv n ys σ H → H D = none → Q (.ref D) (upd H D (.lst ys))) :
    BlkBody own ix g tt te σ0 Q (Itr lo n) H0 := by
  intro bk
  refine ⟨fun i m ys σ H => m = n - i ∧ i ≤ n ∧ Pv i ys σ H, ⟨n, by simp, Nat.zero_le _, h0⟩, ?_⟩
  rintro i m ys σ H ⟨rfl, hi, p⟩
  have hy := hl i ys σ H hi p
  by_cases hlt : i < n
  · refine .inr ⟨hlt, by omega, Pv (i + 1), fun ys' σ' H' p' => ⟨n - (i + 1), by omega, rfl, hlt, p'⟩, fun x H' y => ?_⟩
    obtain ⟨e, y⟩ := y
    subst e y
    exact hs bk i ys σ _ hlt p
  · have e : i = n := by omega
    subst e
    exact .inl ⟨Nat.le_refl _, fun D hD => hd ys σ H D p hD⟩
theorem blk_enum {K : PySem.W.Frag} {a : Addr} {xs : List V} {own : Nat} {ix : List Nat} {g : Blk → TG} {tt : Blk → TT} {te : Blk → TE} {σ0 : St} {H0 : Hp} {Q : VK} (Pv : Nat → List V → St → Hp → Prop) (hz : xs.length ≤ sizeLine) (h0 : Pv 0 [] (blkStart own ix σ0) H0) (hl : ∀ i ys σ H, i ≤ xs.length → Pv i ys σ H → SqL K H a xs ∧ ys.length ≤ i)
    (hs : ∀ bk i x ys σ H p, xs[i]? = some x → Pv i ys σ H → H p = none → g bk (.ref p) σ (upd H p (.tup [.int i, x])) fun σ2 H2 => tt bk σ2 H2 fun c H3 => if c = true then te bk σ2 H3 fun y H4 => Pv (i + 1) (ys ++ [y]) σ2 H4 else Pv (i + 1) ys σ2 H3)
    (hd : ∀ ys σ H D, Pv xs.length ys σ H → H D = none → Q (.ref D) (upd H D (.lst ys))) :
    BlkBody own ix g tt te σ0 Q (Ite K a) H0 := by
  intro bk
  refine ⟨fun i m ys σ H => m = xs.length - i ∧ i ≤ xs.length ∧ Pv i ys σ H, ⟨xs.length, by simp, Nat.zero_le _, h0⟩, ?_⟩
  rintro i m ys σ H ⟨rfl, hi, p⟩
  obtain ⟨q, hy⟩ := hl i ys σ H hi p
  by_cases hlt : i < xs.length
  · refine .inr ⟨⟨xs, xs[i], q, by simp [hlt]⟩, by omega, Pv (i + 1), fun ys' σ' H' p' => ⟨xs.length - (i + 1), by omega, rfl, hlt, p'⟩, fun x H' y => ?_⟩
    obtain ⟨b, v, hb, e1, e2, y⟩ := y
    subst e1 e2
    exact hs bk i v ys σ H b (y xs q) p hb
  · have e : i = xs.length := by omega
    subst e
    exact .inl ⟨⟨xs, q, Nat.le_refl _⟩, fun D hD => hd ys σ H D p hD⟩

/-! ### loops -/
def ForBody (g : TG) (tb : TS) (D : Ends) (σ : St) (J : It) (H1 : Hp) : Prop := ∃ W : Nat → Nat → St → Hp → Prop, (∃ m, W 0 m σ H1) ∧ ∀ i m σ H, W i m σ H →
  (J.stop i H ∧ D.nx σ H) ∨ (J.go i H ∧ ∃ N : St → Hp → Prop, (∀ σ' H', N σ' H' → ∃ m', m' < m ∧ W (i + 1) m' σ' H') ∧ ∀ x H', J.yld i H x H' → g x σ H' fun σ2 H2 => tb { D with nx := N, ct := N, bk := D.nx } σ2 H2)
theorem tFor_eq {wi : TI} {g : TG} {tb : TS} {D : Ends} {σ : St} {H : Hp} : tFor wi g tb D σ H = wi σ H (ForBody g tb D σ) := rfl
theorem forb_list {K : PySem.W.Frag} {a : Addr} {xs : List V} {g : TG} {tb : TS} {D : Ends} {σ : St} {H : Hp} (Pv : Nat → St → Hp → Prop) (h0 : Pv 0 σ H) (hl : ∀ i σ H, i ≤ xs.length → Pv i σ H → SqL K H a xs)
    (hs : ∀ i x σ H, xs[i]? = some x → Pv i σ H → g x σ H fun σ2 H2 => tb { D with nx := Pv (i + 1), ct := Pv (i + 1), bk := D.nx } σ2 H2) (hd : ∀ σ H, Pv xs.length σ H → D.nx σ H) : ForBody g tb D σ (Itl K a) H := for_list Pv h0 hl hs hd
theorem forb_range {lo : Int} {n : Nat} {g : TG} {tb : TS} {D : Ends} {σ : St} {H : Hp} (Pv : Nat → St → Hp → Prop) (h0 : Pv 0 σ H)
    (hs : ∀ i σ H, i < n → Pv i σ H → g (.int (lo + i)) σ H fun σ2 H2 => tb { D with nx := Pv (i + 1), ct := Pv (i + 1), bk := D.nx } σ2 H2) (hd : ∀ σ H, Pv n σ H → D.nx σ H) : ForBody g tb D σ (Itr lo n) H := for_range Pv h0 hs hd

/-! ### heaps -/
theorem Same.new {H : Hp} {p : Addr} {o : HO} (h : H p = none) : Same H (upd H p o) := fun b u e => by rw [upd_ne (ne_of_none e h)]; exact e
theorem Same.upd' {H H' : Hp} {p : Addr} {o : HO} (s : Same H H') (h : H' p = none) : Same H (upd H' p o) := s.trans (Same.new h)
theorem Same.tup {K : PySem.W.Frag} {H H' : Hp} {a : Addr} {xs : List V} (e : Same H H') (h : SqT K H a xs) : SqT K H' a xs := by
  rcases h with (h | ⟨o, h⟩) | h
  · exact .inl (.inl (e _ _ h))
  · exact .inl (.inr ⟨o, e _ _ h⟩)
  · exact .inr h

/-! ### lists of pairs -/
abbrev Pr := Int × Int
def pairO (q : Pr) : HO := .tup [.int q.1, .int q.2]
inductive TupsAt (H : Hp) : List Addr → List Pr → Prop
  | nil : TupsAt H [] []
  | cons {a : Addr} {q : Pr} {as : List Addr} {ps : List Pr} : H a = some (pairO q) → TupsAt H as ps → TupsAt H (a :: as) (q :: ps)
theorem TupsAt.len {H : Hp} : ∀ {as : List Addr} {ps : List Pr}, TupsAt H as ps → as.length = ps.length
  | _, _, .nil => rfl
  | _, _, .cons _ t => by rw [List.length_cons, List.length_cons, t.len]
theorem TupsAt.mono {H H' : Hp} (k : ∀ a q, H a = some (pairO q) → H' a = some (pairO q)) : ∀ {as : List Addr} {ps : List Pr}, TupsAt H as ps → TupsAt H' as ps
  | _, _, .nil => .nil
  | _, _, .cons h t => .cons (k _ _ h) (t.mono k)
theorem TupsAt.same {H H' : Hp} (s : Same H H') {as : List Addr} {ps : List Pr} (t : TupsAt H as ps) : TupsAt H' as ps := t.mono fun a q h => s a _ h
/-- a list (or an instance) is written -/
theorem TupsAt.upd {H : Hp} {p : Addr} {o u : HO} (hp : H p = some u) (hu : ∀ xs, u ≠ .tup xs) {as : List Addr} {ps : List Pr} (t : TupsAt H as ps) : TupsAt (upd H p o) as ps := t.mono fun a q h => by
  rw [upd_ne (ne_of h hp fun e => hu _ e.symm)]; exact h
theorem TupsAt.get {H : Hp} : ∀ {as : List Addr} {ps : List Pr} {i : Nat} {a : Addr}, TupsAt H as ps → as[i]? = some a → ∃ q, ps[i]? = some q ∧ H a = some (pairO q)
  | _, _, 0, a, .cons h t, e => by
    have e : some _ = some a := e
    cases e
    exact ⟨_, rfl, h⟩
  | _, _, i + 1, a, .cons h t, e => t.get (i := i) (by simpa using e)
  | _, _, _, _, .nil, e => by simp at e
theorem TupsAt.get' {H : Hp} : ∀ {as : List Addr} {ps : List Pr} {i : Nat} {q : Pr}, TupsAt H as ps → ps[i]? = some q → ∃ a, as[i]? = some a ∧ H a = some (pairO q)
  | _, _, 0, a, .cons h t, e => by
    have e : some _ = some a := e
    cases e
    exact ⟨_, rfl, h⟩
  | _, _, i + 1, a, .cons h t, e => t.get' (i := i) (by simpa using e)
  | _, _, _, _, .nil, e => by simp at e
theorem TupsAt.append {H : Hp} : ∀ {as bs : List Addr} {ps qs : List Pr}, TupsAt H as ps → TupsAt H bs qs → TupsAt H (as ++ bs) (ps ++ qs)
  | _, _, _, _, .nil, s => s
  | _, _, _, _, .cons h t, s => .cons h (t.append s)
theorem TupsAt.drop {H : Hp} : ∀ {as : List Addr} {ps : List Pr} (n : Nat), TupsAt H as ps → TupsAt H (as.drop n) (ps.drop n)
  | _, _, 0, t => t
  | _, _, _ + 1, .nil => .nil
  | _, _, n + 1, .cons _ t => t.drop n
theorem TupsAt.take {H : Hp} : ∀ {as : List Addr} {ps : List Pr} (n : Nat), TupsAt H as ps → TupsAt H (as.take n) (ps.take n)
  | _, _, 0, _ => .nil
  | _, _, _ + 1, .nil => .nil
  | _, _, n + 1, .cons h t => .cons h (t.take n)
def PairsAt (K : PySem.W.Frag) (H : Hp) (p : Addr) (ps : List Pr) : Prop := ∃ as : List Addr, SqL K H p (as.map V.ref) ∧ TupsAt H as ps
theorem PairsAt.same {K : PySem.W.Frag} {H H' : Hp} (s : Same H H') {p : Addr} {ps : List Pr} (t : PairsAt K H p ps) : PairsAt K H' p ps := let ⟨as, a, b⟩ := t; ⟨as, s.seq a, b.same s⟩

def within (a b : Int) : Bool := decide (0 ≤ a) && decide (a < b)
theorem within_iff {a b : Int} : within a b = true ↔ 0 ≤ a ∧ a < b := by simp [within]
/-- is it a net -/
def endsOk (n : Int) (ps : List Pr) : Bool := ps.all fun q => within q.1 n && within q.2 n
def exitsOk (n : Int) (ps : List Pr) : Bool := (List.range n.toNat).all fun k => ps.any fun q => q.1 == (k : Int)
def netOk (n : Int) (ps : List Pr) : Bool := (decide (1 ≤ n) && decide (n ≤ 32)) && (decide (1 ≤ ps.length) && decide (ps.length ≤ 64)) && endsOk n ps && exitsOk n ps
end L2
namespace L2
open PySem PySem.Spec PyProof.Rows
theorem lenL {K : PySem.W.Frag} {H : Hp} {p : Addr} {xs : List V} (h : SqL K H p xs) : LenV K (.ref p) H xs.length := Or.inl ⟨_, h, rfl⟩
theorem lenT {K : PySem.W.Frag} {H : Hp} {p : Addr} {xs : List V} (h : SqT K H p xs) : LenV K (.ref p) H xs.length := Or.inr ⟨_, h, rfl⟩
theorem gtup2 {K : PySem.W.Frag} {g1 g2 : TG} {a : Addr} {x y : V} {σ : St} {H : Hp} {Q : St → Hp → Prop} (h : SqT K H a [x, y]) (q : g1 x σ H fun σ' H' => g2 y σ' H' Q) : gTup K 2 (gCons g1 (gCons g2 gNil)) (.ref a) σ H Q := by
  refine ⟨a, [x, y], rfl, h, rfl, x, [y], rfl, ?_⟩
  have e : (fun σ' H' => gCons g2 gNil [y] σ' H' Q) = fun σ' H' => ∃ v r, [y] = v :: r ∧ g2 v σ' H' fun σ'' H'' => gNil r σ'' H'' Q := rfl
  rw [e]
  have e2 : (fun (σ' : St) (H' : Hp) => ∃ v r, [y] = v :: r ∧ g2 v σ' H' fun σ'' H'' => gNil r σ'' H'' Q) = fun σ' H' => g2 y σ' H' Q := by
    funext σ' H'
    refine propext ⟨?_, fun z => ⟨y, [], rfl, ?_⟩⟩
    · rintro ⟨v, r, e, z⟩
      cases e
      have : (fun (σ'' : St) (H'' : Hp) => gNil [] σ'' H'' Q) = Q := by funext _ _; exact propext ⟨fun z => z.2, fun z => ⟨rfl, z⟩⟩
      rw [this] at z
      exact z
    · have : (fun (σ'' : St) (H'' : Hp) => gNil [] σ'' H'' Q) = Q := by funext _ _; exact propext ⟨fun z => z.2, fun z => ⟨rfl, z⟩⟩
      rw [this]
      exact z
  rw [e2]
  exact q
theorem map_ref {as : List Addr} {i : Nat} {x : V} (h : (as.map V.ref)[i]? = some x) : ∃ a, x = .ref a ∧ as[i]? = some a := by
  rw [List.getElem?_map] at h
  cases e : as[i]? with
  | none => rw [e] at h; cases h
  | some a => rw [e] at h; exact ⟨a, (Option.some.inj h).symm, rfl⟩
theorem take_map_succ {α β : Type} (f : α → β) {l : List α} {i : Nat} {q : α} (h : l[i]? = some q) : (l.take (i + 1)).map f = (l.take i).map f ++ [f q] := by
  rw [List.take_add_one, h]; simp
theorem small_le {n : Nat} (h : n ≤ 1000) : n ≤ sizeLine := Nat.le_of_lt (small1000 h)
/-- the exits of a place, by the pairs -/
def exitsUp (ps : List Pr) (k : Int) (i : Nat) : List Nat := (List.range i).filter fun j => (ps.getD j (0, 0)).1 == k
def exitsOf (ps : List Pr) (k : Int) : List Nat := exitsUp ps k ps.length
theorem exitsUp_succ (ps : List Pr) (k : Int) (i : Nat) : exitsUp ps k (i + 1) = exitsUp ps k i ++ (if (ps.getD i (0, 0)).1 == k then [i] else []) := by
  unfold exitsUp
  rw [List.range_succ, List.filter_append, List.filter_cons]
  rfl
theorem exitsUp_len (ps : List Pr) (k : Int) (i : Nat) : (exitsUp ps k i).length ≤ i := by
  unfold exitsUp
  exact Nat.le_trans (List.length_filter_le _ _) (by simp)
def nats (l : List Nat) : List V := l.map fun (i : Nat) => V.int (i : Int)
theorem nats_append (a b : List Nat) : nats (a ++ b) = nats a ++ nats b := by simp [nats]
theorem upd_old {H : Hp} {p a : Addr} {o u : HO} (h : H a = some u) (hp : H p = none) : upd H p o a = some u := by rw [upd_ne (ne_of_none h hp)]; exact h
end L2
namespace L2
open PySem PySem.Spec PyProof.Rows
def kitTT (a b : String) : Option Bool := if ((Value.type a) == (Value.type b)) = true then some true else if PySem.W.kitMeta b = true then (fastBuiltinMro a).map (·.contains (.type b)) else none
theorem isi_tt {K : PySem.W.Frag} {a b : String} {r : Bool} (h : kitTT a b = some r) : isiOk K (.type a) (.ty b) r := h
theorem tt_int_int : kitTT "int" "int" = some true := by decide +kernel
theorem tt_int_bool : kitTT "int" "bool" = some false := by decide +kernel
theorem tt_list_list : kitTT "list" "list" = some true := by decide +kernel
theorem tt_tuple_tuple : kitTT "tuple" "tuple" = some true := by decide +kernel
theorem eqVs_ints : ∀ xs : List Int, eqVs (xs.map V.int) (xs.map V.int) = true
  | [] => rfl
  | x :: xs => by
    show (eqV (.int x) (.int x) && eqVs (xs.map V.int) (xs.map V.int)) = true
    rw [eqVs_ints xs]
    simp [eqV]
theorem flat_ints (xs : List Int) : (xs.map V.int).all flatV = true := by simp [flatV]
theorem nats_int (l : List Nat) : nats l = (l.map fun (i : Nat) => (i : Int)).map V.int := by simp [nats]
theorem cutV_drop (xs : List V) (k : Nat) (h : k ≤ xs.length) : cutV xs (some (k : Int)) none = xs.drop k := by
  unfold cutV
  rw [HT.sIx_nat, HT.sIx_none, Nat.min_eq_left h]
  rw [List.take_of_length_le (by simp)]
theorem cutV_take (xs : List V) (k : Nat) (h : k ≤ xs.length) : cutV xs none (some (k : Int)) = xs.take k := by
  unfold cutV
  rw [HT.sIx_nat, HT.sIx_none, Nat.min_eq_left h]
  simp
end L2

set_option Elab.async false
set_option linter.all false
set_option maxRecDepth 100000
set_option maxHeartbeats 4000000
namespace L2
open PySem PySem.Spec PyProof.Rows

/-- what stood ahead, but the frames at fs, stands in B -/
structure UnB (fs : List Addr) (H H' : Hp) (h B : Heap) : Prop where
  keep : ∀ b o, h.get? b = some o → H b = none → b ∉ fs → B.get? b = some o
  free : ∀ b o, h.get? b = some o → H b = none → H' b = none
  there : ∀ b o, h.get? b = some o → b ∉ fs → ∃ o', B.get? b = some o'
  tups : ∀ b xs, H b = some (.tup xs) → H' b = some (.tup xs)
  frzs : ∀ b o u, H b = some (.frz o u) → H' b = some (.frz o u)
  tbls : ∀ b ps, H b = some (.tbl ps) → ∃ more, H' b = some (.tbl (ps ++ more))

/-- an exception at e, the first entry of its traceback, that entry's flight; o = none: nothing is its context -/
def Tr (h base : Heap) (e : Addr) (cls a0 fl : Value) (o : Option Addr) : Prop :=
  ∃ ox xs tb ob ys, h.get? e = some ox ∧ ox.cls = cls ∧ ox.data = .fields xs ∧ xs[0]? = some a0 ∧ xs[1]? = some (.ref tb) ∧ (o = none → xs[2]? = some .none) ∧ base.get? tb = none ∧ tb ≠ e ∧ h.get? tb = some ob ∧ ob.data = .fields ys ∧ ys[3]? = some fl
/-- it flies over base -/
def Fly (base : Heap) (l : List Env) (e : Addr) (cls a0 : Value) (o : Option Addr) (h : Heap) : Prop := base.StaysIn h ∧ base.get? e = none ∧ h.FunFrames base l ∧ ∃ fl, Tr h base e cls a0 fl o
theorem Fly.there {base h : Heap} {l : List Env} {e : Addr} {cls a0 : Value} {o : Option Addr} (x : Fly base l e cls a0 o h) : ∃ ob, h.get? e = some ob ∧ ob.cls = cls := by
  obtain ⟨_, _, _, _, ox, _, _, _, _, g, c, _⟩ := x
  exact ⟨ox, g, c⟩
theorem Fly.tail {base h : Heap} {env : Env} {l : List Env} {e : Addr} {cls a0 : Value} {o : Option Addr} (x : Fly base (env :: l) e cls a0 o h) : Fly base l e cls a0 o h := by
  obtain ⟨k1, k2, ⟨_, _, k3⟩, k4⟩ := x
  exact ⟨k1, k2, k3, k4⟩
section
variable {M : Model} {A : Around} {E : Value → Shared → Prop} {s : Shared} {base : Heap} {env : Env} {outer : List Env} {L e : Addr} {cls a0 : Value} {o : Option Addr} {Q : Unit → Shared → Prop}
/-- a new entry is laid and set -/
theorem entryT {ox : Obj} {xs : Array Value} {head : Value} {had : Bool} (hfr : A.frames = some (env :: outer)) (hl : s.heap.FunFrames base (env :: outer)) (hf : env.frame = some L) (gx : s.heap.get? e = some ox) (hkb : base.StaysIn s.heap)
    (hen : base.get? e = none) (gd : ox.data = .fields xs) (hsz : 1 < xs.size) (g0 : xs[0]? = some a0) (g2 : o = none → xs[2]? = some .none)
    (hQ : ∀ h', base.StaysIn h' → h'.FunFrames base (env :: outer) → Tr h' base e ox.cls a0 (rawInt L) o → s.heap.UpToSlots h' → Q () { s with heap := h' }) :
    wpAny M A (do let a ← frameOf env; let pl ← entryPlaceOf L had; let b ← EntryCells.newEntry head a .none (rawInt L) .none pl; setField (.ref e) 1 b) Q E s := by
  have nfr : e ∉ (env :: outer).filterMap (·.frame) := fun hm => by
    obtain ⟨_, u, hu, hn⟩ := hl.mem hm
    rw [gx] at hu
    cases hu
    exact hn xs gd
  refine wpAny_bind (wpAny_frameOf_fun hfr hl hf fun h1 so => wpAny_bind (wpAny_entryPlaceOf fun pl hpl => ?_))
  unfold EntryCells.newEntry newFields
  refine wpAny_bind (wpAny_newObj_type ?_ (hpl.sizeOk5 _ _ _ _ _))
  have gx1 : h1.get? e = some ox := (so.2.1 e nfr).trans gx
  have st1 : base.StaysIn h1 := fun c u hc => (so.2.1 c fun hm => by
    rw [(hl.mem hm).1] at hc
    cases hc).trans (hkb c u hc)
  let tbo : Obj := { cls := .type "traceback", dict := none, data := .fields ([head, .ref L, .none, rawInt L, .none] ++ (if pl.isEmpty then List.replicate 6 Value.none else pl)).toArray }
  have gx2 : (h1.push tbo).get? e = some ox := Heap.get?_push_of_some _ gx1
  refine wpAny_setField gx2 gd hsz (hQ _ ?_ ?_ ?_ ?_)
  all_goals
    have ne : h1.objs.size ≠ e := Nat.ne_of_gt (Heap.lt_size gx1)
    have ot : ∀ c u, c ≠ e → h1.get? c = some u → ((h1.push tbo).update e (Obj.mapFields (·.setIfInBounds 1 (Value.ref h1.objs.size)))).get? c = some u := fun c u hc hu => by
      rw [Heap.get?_update_other _ _ (Ne.symm hc)]
      exact Heap.get?_push_of_some _ hu
    have nr : ∀ c u, s.heap.get? c = some u → (∀ vs, u.data ≠ .fields vs) → c ≠ e := fun c u hu hn z => by
      rw [z, gx] at hu
      cases hu
      exact hn xs gd
  · exact fun c u hc => ot c u (fun z => by rw [z, hen] at hc; cases hc) (st1 c u hc)
  · refine hl.of_keeps fun c u hu hn => ?_
    obtain ⟨sl, g⟩ := so.2.2 c u hu
    exact ⟨_, ot c _ (nr c u hu hn) g, rfl⟩
  · have gd3 := Obj.data_mapFields gd (·.setIfInBounds 1 (Value.ref h1.objs.size))
    have gx3 := Heap.get?_update_self (Obj.mapFields (·.setIfInBounds 1 (Value.ref h1.objs.size))) gx2 (Obj.isFreed_of_fields gd3)
    have gt3 := (Heap.get?_update_other (h1.push tbo) (Obj.mapFields (·.setIfInBounds 1 (Value.ref h1.objs.size))) (Ne.symm ne)).trans (Heap.get?_push_size h1 rfl)
    refine ⟨_, _, h1.objs.size, _, _, gx3, Obj.cls_mapFields _ _, gd3, ?_, by simp [hsz], fun z => ?_, st1.fresh, ne, gt3, rfl, ?_⟩
    · rw [Array.getElem?_setIfInBounds_ne (by decide)]
      exact g0
    · rw [Array.getElem?_setIfInBounds_ne (by decide)]
      exact g2 z
    · first | (simp; done) | (rcases hpl with rfl | ⟨_, _, _, _, _, _, _, rfl⟩ <;> simp)
  · refine fun c u hu hn => ?_
    obtain ⟨sl, g⟩ := so.2.2 c u hu
    exact ⟨sl, ot c _ (nr c u hu hn) g⟩
/-- the frame is noted -/
theorem noteT (hfr : A.frames = some (env :: outer)) (hf : env.frame = some L) (hfl : Fly base (env :: outer) e cls a0 o s.heap)
    (hQ : ∀ h', Fly base (env :: outer) e cls a0 o h' → Tr h' base e cls a0 (rawInt L) o → s.heap.UpToSlots h' → Q () { s with heap := h' }) : wpAny M A (noteFrame (.ref e) env) Q E s := by
  obtain ⟨f1, f2, f3, fl, f4⟩ := id hfl
  obtain ⟨ox, xs, tb, ob, ys, gx, gc, gd, g0, g1, g2, gn, gne, gt, gtd, g3⟩ := id f4
  subst gc
  unfold noteFrame
  simp only [hf]
  refine wpAny_bind (wpAny_field gx gd g1 ?_)
  rw [if_pos (by simp : (Value.ref tb != Value.none) = true)]
  refine wpAny_bind (wpAny_field gt gtd g3 ?_)
  by_cases hfl' : (fl == rawInt L) = true
  · have e1 : fl = rawInt L := by simpa using hfl'
    subst e1
    rw [if_pos hfl']
    exact wpAny_pure (hQ s.heap hfl f4 (Heap.UpToSlots.refl _))
  · rw [if_neg hfl']
    refine wpAny_bind (wpAny_setField gt gtd (Array.getElem?_eq_some_iff.mp g3).1 ?_)
    have oth : ∀ c, c ≠ tb → (s.heap.update tb (Obj.mapFields (·.setIfInBounds 3 Value.none))).get? c = s.heap.get? c := fun c hc => Heap.get?_update_other _ _ (Ne.symm hc)
    have nr : ∀ c u, s.heap.get? c = some u → (∀ vs, u.data ≠ .fields vs) → c ≠ tb := fun c u hu hn z => by
      rw [z, gt] at hu
      cases hu
      exact hn ys gtd
    have stay : base.StaysIn (s.heap.update tb (Obj.mapFields (·.setIfInBounds 3 Value.none))) := fun c u hc => (oth c fun z => by rw [z, gn] at hc; cases hc).trans (f1 c u hc)
    refine entryT hfr (f3.of_keeps fun c u hu hn => ⟨u, (oth c (nr c u hu hn)).trans hu, rfl⟩) hf ((oth e (Ne.symm gne)).trans gx) stay f2 gd (Array.getElem?_eq_some_iff.mp g1).1 g0 g2 fun h' k1 k2 k3 k4 => ?_
    exact hQ h' ⟨k1, f2, k2, _, k3⟩ k3 fun c u hu hn => k4 c u ((oth c (nr c u hu hn)).trans hu) hn
/-- its flight is set -/
theorem flightT {l : List Env} (fr : Option Addr) (hfl : Fly base l e cls a0 o s.heap)
    (hQ : ∀ h', Fly base l e cls a0 o h' → s.heap.UpToSlots h' → (∀ c u, s.heap.get? c = some u → base.get? c = none ∨ h'.get? c = some u) → Q () { s with heap := h' }) : wpAny M A (setFlight (.ref e) fr) Q E s := by
  obtain ⟨f1, f2, f3, fl, ox, xs, tb, ob, ys, gx, gc, gd, g0, g1, g2, gn, gne, gt, gtd, g3⟩ := hfl
  have h3 : 3 < ys.size := (Array.getElem?_eq_some_iff.mp g3).1
  unfold setFlight
  refine wpAny_bind (wpAny_field gx gd g1 ?_)
  rw [if_pos (by simp : (Value.ref tb != Value.none) = true)]
  have oth : ∀ c, c ≠ tb → (s.heap.update tb (Obj.mapFields (·.setIfInBounds 3 (fr.elim Value.none fun f => rawInt f)))).get? c = s.heap.get? c := fun c hc => Heap.get?_update_other _ _ (Ne.symm hc)
  have nr : ∀ c u, s.heap.get? c = some u → (∀ vs, u.data ≠ .fields vs) → c ≠ tb := fun c u hu hn z => by
    rw [z, gt] at hu
    cases hu
    exact hn ys gtd
  refine wpAny_setField gt gtd h3 (hQ _ ⟨fun c u hc => (oth c fun z => by rw [z, gn] at hc; cases hc).trans (f1 c u hc), f2, f3.of_keeps fun c u hu hn => ⟨u, (oth c (nr c u hu hn)).trans hu, rfl⟩, fr.elim Value.none (fun f => rawInt f), ?_⟩ (fun c u hu hn => ⟨u.slots, (oth c (nr c u hu hn)).trans hu⟩) fun c u hu => ?_)
  · exact ⟨ox, xs, tb, _, _, (oth e (Ne.symm gne)).trans gx, gc, gd, g0, g1, g2, gn, gne, Heap.get?_update_self _ gt (Obj.isFreed_of_fields (Obj.data_mapFields gtd _)), Obj.data_mapFields gtd _, by simp [h3]⟩
  · by_cases hc : c = tb
    · subst hc; exact .inl gn
    · exact .inr ((oth c hc).trans hu)
/-- a fresh one (no entry yet) is noted -/
theorem firstT {ox : Obj} {xs : Array Value} (hfr : A.frames = some (env :: outer)) (hf : env.frame = some L) (hl : s.heap.FunFrames base (env :: outer)) (hkb : base.StaysIn s.heap) (hen : base.get? e = none)
    (gx : s.heap.get? e = some ox) (gd : ox.data = .fields xs) (g0 : xs[0]? = some a0) (g1 : xs[1]? = some .none) (g2 : o = none → xs[2]? = some .none)
    (hQ : ∀ h', Fly base (env :: outer) e ox.cls a0 o h' → s.heap.UpToSlots h' → Q () { s with heap := h' }) : wpAny M A (noteFrame (.ref e) env) Q E s := by
  unfold noteFrame
  simp only [hf]
  refine wpAny_bind (wpAny_field gx gd g1 ?_)
  rw [if_neg (by simp)]
  exact entryT hfr hl hf gx hkb hen gd (Array.getElem?_eq_some_iff.mp g1).1 g0 g2 fun h' k1 k2 k3 k4 => hQ h' ⟨k1, hen, k2, _, k3⟩ k4
end

/-- how an exception lies behind a call: it flies over B, which holds all that was there but the frames -/
def CX1 (P : Program) (w : World) : CXT := fun outer H s E e s' => ∃ (x : Addr) (cls a0 : Value) (o : Option Addr) (B : Heap) (H' : Hp), e = .ref x ∧ s'.os = s.os ∧ AllBare s'.gens ∧ Fly B outer x cls a0 o s'.heap ∧
  UnB (frs outer) H H' s.heap B ∧ HOk P w H' B ∧ (∀ b ∈ frs outer, ∀ o, s.heap.get? b = some o → ∃ sl, s'.heap.get? b = some { o with slots := sl }) ∧ E cls o H'
theorem nox1 {P : Program} {w : World} : NoX (CX1 P w) := fun o H s e s' h => by
  obtain ⟨_, _, _, _, _, _, _, _, _, _, _, _, _, h⟩ := h
  exact h

theorem UnB.un {fs : List Addr} {H H' : Hp} {h B h' : Heap} (u : UnB fs H H' h B) (st : B.StaysIn h') (sl : ∀ b ∈ fs, ∀ o, h.get? b = some o → ∃ sl, h'.get? b = some { o with slots := sl }) : Un fs [] H H' h h' where
  keep := fun b o q n hb _ => st _ _ (u.keep b o q n hb)
  slot := fun b o q n hb _ => sl b hb o q
  free := fun b o q n _ => u.free b o q n
  there := fun b o q _ => by
    by_cases hb : b ∈ fs
    · obtain ⟨sl, e⟩ := sl b hb o q
      exact ⟨_, e⟩
    · obtain ⟨o', e⟩ := u.there b o q hb
      exact ⟨o', st _ _ e⟩
  tups := u.tups
  frzs := u.frzs
  tbls := u.tbls

section
variable {X : Cx} {pins : List (Addr × Obj)} {σ : St} {H : Hp} {s : Shared}
/-- the heap without the frames -/
def noFr (h : Heap) (l : List Env) : Heap := PySem.W.hideAll h (frs l)
theorem noFr_get {h : Heap} {l : List Env} {b : Addr} {o : Obj} (e : h.get? b = some o) (n : b ∉ frs l) : (noFr h l).get? b = some o := PySem.W.hideAll_get _ e n
theorem of_noFr {h : Heap} {l : List Env} {b : Addr} {o : Obj} (e : (noFr h l).get? b = some o) : h.get? b = some o := PySem.W.of_hideAll _ e
theorem Inv.hokB (I : Inv X pins σ H s) : HOk X.prog X.w H (noFr s.heap X.stack) := fun a o e => by
  refine (I.hok a o e).stay (fun b u hb q => noFr_get q fun z => ?_) (fun _ q => q) fun _ _ q => q
  have n := I.stkFree b z
  rcases hb with hb | hb
  · rw [hb, e] at n; cases n
  · rw [hb] at n; cases n
/-- ahead of a body, as it stands within it -/
theorem Inv.unB (I : Inv X pins σ H s) (hx : X.ex = []) {fs : List Addr} (hfs : ∀ b o, X.s₀.heap.get? b = some o → b ∉ fs → b ∉ frs X.stack) (hsub : ∀ b ∈ X.fs, b ∈ fs) : UnB fs X.H₀ H X.s₀.heap (noFr s.heap X.stack) where
  keep := fun b o q n hb => noFr_get (I.base.keep b o q n (fun z => hb (hsub b z)) (by rw [hx]; simp)) (hfs b o q hb)
  free := fun b o q n => I.base.free b o q n (by rw [hx]; simp)
  there := fun b o q hb => by
    obtain ⟨o', e⟩ := I.base.there b o q (by rw [hx]; simp)
    exact ⟨o', noFr_get e (hfs b o q hb)⟩
  tups := I.base.tups
  frzs := I.base.frzs
  tbls := I.base.tbls
end

/-- a fresh exception reaches what is wanted -/
def RaiseOk (X : Cx) (E : XK) : Prop := ∀ (pins : List (Addr × Obj)) (σ : St) (H : Hp) (s : Shared) (x : Addr) (cls : Value) (args : List Value) (h' : Heap), Inv X pins σ H s → Heap.MadeExcOf s.heap h' x cls args → E cls none H → X.xe (.ref x) { s with heap := h' }
theorem PySem_mem_funFrames {h base : Heap} {l : List Env} (hl : h.FunFrames base l) {b : Addr} (hb : b ∈ frs l) : base.get? b = none ∧ ∃ o, h.get? b = some o ∧ ∀ vs, o.data ≠ .fields vs := hl.mem hb

section
variable {P : Program} {w : World} {K : PySem.W.Frag} {mg : Str → Option Value} {base : Heap} {N : List Str} {qual : Str} {scope : Scope} {f : Addr} {cd : Value} {A : Around} {outer : List Env} {s0 : Shared} {H0 : Hp} {E : XK}
theorem notFr (s0 : Shared) (outer : List Env) {l : Env} (hl : l.frame = some s0.heap.objs.size) : ∀ b o, s0.heap.get? b = some o → b ∉ frs outer → b ∉ frs (l :: outer) := fun b o q hb z => by
  unfold frs at z
  rw [List.filterMap_cons, hl] at z
  rcases List.mem_cons.mp z with e | z
  · exact absurd (Heap.lt_size q) (by rw [e]; exact Nat.lt_irrefl _)
  · exact hb z
/-- a def's body: a fresh exception leaves it -/
theorem raise_def : RaiseOk (cxOf (CX1 P w) P w K mg base N qual scope f cd A outer s0 H0 E) E := fun pins σ H s x cls args h' I hm he => by
  have hstk : (cxOf (CX1 P w) P w K mg base N qual scope f cd A outer s0 H0 E).stack = envOfC qual scope s0.heap.objs.size f cd :: outer := rfl
  have hin : ∀ env ∈ (envOfC qual scope s0.heap.objs.size f cd :: outer), ∀ a, env.frame = some a → a ∈ frs (envOfC qual scope s0.heap.objs.size f cd :: outer) := fun env he a hf => List.mem_filterMap.mpr ⟨env, he, hf⟩
  have hl : s.heap.FunFrames (noFr s.heap (envOfC qual scope s0.heap.objs.size f cd :: outer)) (envOfC qual scope s0.heap.objs.size f cd :: outer) := PySem.W.funFrames_hide I.stack hin
  have hU : UnB (frs outer) H0 H s0.heap (noFr s.heap (envOfC qual scope s0.heap.objs.size f cd :: outer)) := I.unB rfl (notFr s0 outer rfl) fun _ z => z
  show wpAny _ _ (leaving _ _) _ _ _
  obtain ⟨ta, gx, _, _⟩ := hm.there
  have fresh : (noFr s.heap (envOfC qual scope s0.heap.objs.size f cd :: outer)).get? x = none := by
    cases hq : (noFr s.heap (envOfC qual scope s0.heap.objs.size f cd :: outer)).get? x with
    | none => rfl
    | some o' =>
      have := of_noFr hq
      rw [hm.new] at this
      cases this
  unfold leaving
  refine wpAny_bind (firstT (L := s0.heap.objs.size) (o := none) (s := { s with heap := h' }) I.ok.frames rfl (hl.of_keeps fun b o hb _ => ⟨o, hm.keeps b o hb, rfl⟩) (fun b o q => hm.keeps b o (of_noFr q)) fresh gx rfl rfl rfl (fun _ => rfl) fun h1 k1 u1 => flightT (s := { s with heap := h1 }) none k1 fun h2 k2 u2 _ => ?_)
  have f4 : h'.UpToSlots h2 := u1.trans u2
  refine ⟨x, cls, _, none, _, H, rfl, I.os, I.bare, k2.tail, hU, I.hokB, fun b hb o q => ?_, he⟩
  obtain ⟨sl, e1⟩ := I.base.slot b o q (I.ok.frf b hb) hb (by intro z; exact nomatch z)
  obtain ⟨_, o', ho', hd⟩ := PySem_mem_funFrames I.ok.funs (b := b) hb
  have ho' : s0.heap.get? b = some o' := ho'
  rw [q] at ho'
  cases ho'
  obtain ⟨sl2, e2⟩ := f4 b _ (hm.keeps _ _ e1) (by intro vs z; exact hd vs z)
  exact ⟨sl2, e2⟩
end

section
variable {P : Program} {w : World} {K : PySem.W.Frag} {mg : Str → Option Value} {base : Heap}
/-- a def that may raise -/
theorem Fun.okE {x qual : Str} {st : Stmt} {f : Addr} {fd : FuncData} {N ps : List Str} {k : Nat} {sp : Sp} (F : Fun K x qual st f fd) (S : FnScope N ps (defScope st)) (len : ∀ vs H Q E, sp vs H Q E → vs.length = ps.length)
    (hbody : ∀ (cdv : Value) (A : Around) (outer : List Env) (s : Shared) (H : Hp) (vs : List V) (Q : VK) (E : XK), Room k (A.deeper (envOfC qual (defScope st) s.heap.objs.size f cdv)) → sp vs H Q E →
      ∃ t, PSs (cxOf (CX1 P w) P w K mg base N qual (defScope st) f cdv A outer s H E) (defBody st) t ∧ t { nx := fun _ H' => Q .non H', rt := Q } (start N vs) H) : FnOk P w K mg base (CX1 P w) (k + 1) f fd ps sp := by
  obtain ⟨oc, od, kV, doc, pm, an, cdv, ct, osl, rfl, lk, hcd⟩ := F.ex
  refine fn_of lk hcd S len fun A outer s H vs Q E hr hsp => ?_
  exact hbody cdv A outer s H vs Q E hr hsp
end

/-! ### raise C(..), C an own class under a built-in one -/
theorem ownObj_of_in {K : PySem.W.Frag} {h : Heap} {C : Addr} {bmB : List Value} {newId : String} (X : K.In h) (q : PySem.W.excIn K C bmB newId = true) :
    ∃ bm N nm q bs hdct sn sub ab col dd k0 k1 k2 k3 k5 mN, h.get? C = some (excClassObj nm q C N bs bm hdct sn sub ab col dd k0 k1 k2 k3 k5 newId) ∧ h.Ns N mN ∧ mN "__init__" = none ∧ OwnTail h bmB bm := by
  unfold PySem.W.excIn at q
  split at q
  · rename_i dd cd sl ho
    split at q
    · rename_i C' bm k0 k1 k2 k3 n k5 hm hs
      simp only [Bool.and_eq_true, beq_iff_eq, Bool.not_eq_true'] at q
      obtain ⟨⟨⟨⟨⟨rfl, rfl⟩, hdel⟩, ht⟩, hok⟩, hni⟩ := q
      obtain ⟨nm, bs, mro, ns, qn, hd, sn, sub, ab, col, del⟩ := cd
      dsimp only at hm hdel hok hni
      subst hm hdel
      have hsl : sl = #[k0, k1, k2, k3, some (.builtin n), k5] := by
        obtain ⟨l⟩ := sl
        simp only at hs
        rw [hs]
      subst hsl
      exact ⟨bm, ns, nm, qn, bs, hd, sn, sub, ab, col, dd, k0, k1, k2, k3, k5, _, X _ _ ho, .of_isNs (PySem.W.isNs_of_in X hok), PySem.W.nsMap_none_of_in X hok hni, PySem.W.tail_of_in X ht⟩
    · cases q
  · cases q
abbrev veB : List Value := [.type "ValueError", .type "Exception", .type "BaseException", .type "object"]
/-- an own error class under ValueError -/
def ErrCls (K : PySem.W.Frag) (C : Addr) : Prop := PySem.W.excIn K C veB "ValueError.__new__" = true
end L2

set_option Elab.async false
set_option linter.all false
set_option maxRecDepth 100000
set_option maxHeartbeats 4000000
namespace PySem.W
open PySem PySem.Spec PySem.Calls PyProof.Rows Builtin Builtin.ObjectAttr Builtin.Getset_descriptor
section
variable {prog : Program} {w : World} {A : Around} {E : Value → Shared → Prop} {K : Frag} {x D : Addr} {ox : Obj} {vs : Array Value} {h : Heap} {g : Array GenState} {d : Drawn} {t : Nat} {os : OsState}
theorem exc_type {M : Model} (hx : h.get? x = some ox) (hc : ox.cls = .ref D) : Looks M h (typeOf (.ref x)) (.ref D) := hc ▸ (Looks.ld hx).andThen .now
theorem exc_cls_get {R : Result → Shared → Prop} (X : K.In h) (hx : h.get? x = some ox) (hc : ox.cls = .ref D) (hm : mroIn K D (.type "object") = some true) (hq : R (.ok (.ret (.ref D))) ⟨h, g, d, t, os⟩) :
    codeAny (model prog w) A (.call (.builtin "getset_descriptor.__get__") ⟨[.builtin "object.__class__", .ref x, .ref D], []⟩) R ⟨h, g, d, t, os⟩ := by
  have L0 : Looks (model prog w) h (typeOf (.ref x)) (.ref D) := exc_type hx hc
  have L1 := looks_mroIn (M := model prog w) X hm
  refine codeAny_call_builtin KF.slot_gs.plain KF.entry_gs (KF.slot_gs.check _ _ _ _ _ _ _ _ KF.type_class (KF.args_gs _ _ _) ?_)
  unfold Builtin.«getset_descriptor.__get__» descrGet
  rw [dga_obj]
  refine wpAny_bind (wpAny_pure ?_)
  unfold descrGetter descrCheckInstance descrNameAndClass isInstance
  simp only [KF.owner_class]
  repeat lk
  refine ⟨Code.quiet_builtin _ (by decide +kernel), codeAny_builtin KF.entry_class ?_⟩
  unfold Builtin.«object.__class__» shownTypeOf
  repeat lk
  exact hq
theorem exc_find {M : Model} (X : K.In h) (ha : findIn K (.ref D) "__class__" = some (some (.builtin "object.__class__"))) (hn : specialIn K (.builtin "object.__class__") "__get__" = some (some (.builtin "getset_descriptor.__get__"))) (htk : takesIn K (.builtin "object.__class__") = some true) :
    Looks M h (find (.ref x) (.ref D) "__class__") (.bind (.builtin "getset_descriptor.__get__") (.builtin "object.__class__")) := by
  have L1 := looks_findIn (M := M) X ha
  have L2 : Looks M h (getOf (some (.builtin "object.__class__"))) (some (.builtin "getset_descriptor.__get__")) := looks_specialIn X hn
  have L3 := looks_takesIn (M := M) X htk
  exact L1.andThen (L2.andThen ((show Looks M h (dataDescriptor? (some (.builtin "object.__class__")) (some (.builtin "getset_descriptor.__get__"))) (some (.builtin "getset_descriptor.__get__", .builtin "object.__class__")) from L3.andThen .now).andThen (Looks.tag .now)))
theorem exc_entry {tk : Tok} {Q : Fin → Shared → Prop} (X : K.In h) (hx : h.get? x = some ox) (hc : ox.cls = .ref D) (hm : mroIn K D (.type "object") = some true)
    (ha : findIn K (.ref D) "__class__" = some (some (.builtin "object.__class__"))) (hn : specialIn K (.builtin "object.__class__") "__get__" = some (some (.builtin "getset_descriptor.__get__"))) (htk : takesIn K (.builtin "object.__class__") = some true)
    (hq : Q (.done (.ret (.ref D))) ⟨h, g, d, t, os⟩) :
    wpAny (model prog w) A (Builtin.«object.__getattribute__» ⟨[.ref x, .str "__class__" tk], []⟩) Q E ⟨h, g, d, t, os⟩ := by
  have L0 : Looks (model prog w) h (typeOf (.ref x)) (.ref D) := exc_type hx hc
  have L1 := exc_find (M := model prog w) (x := x) X ha hn htk
  repeat (any_goals (first | assumption | with_reducible refine Looks.at L0 ?_ | with_reducible refine Looks.at L1 ?_ | wp_step))
  refine exc_cls_get X hx hc hm ?_
  repeat (any_goals (first | assumption | wp_step))
theorem exc_check {M : Model} {nameV : Value} {Q : Unit → Shared → Prop} (X : K.In h) (hx : h.get? x = some ox) (hc : ox.cls = .ref D) (hb : mroIn K D (.type "BaseException") = some true) (hq : Q () ⟨h, g, d, t, os⟩) :
    wpAny M A (checkBuiltinCall "BaseException.__getattribute__" ⟨[.ref x, nameV], []⟩) Q E ⟨h, g, d, t, os⟩ := by
  have hk : builtinKind "BaseException.__getattribute__" = some .slot := by decide +kernel
  have hsplit : splitId "BaseException.__getattribute__" = some ("BaseException", "__getattribute__") := by decide +kernel
  have L0 : Looks M h (typeOf (.ref x)) (.ref D) := exc_type hx hc
  have L1 := looks_mroIn (M := M) X hb
  have ha := F.args_bexc_ga (.ref x) nameV
  simp only [checkBuiltinCall, hk, hsplit]
  refine wpAny_bind ?_
  · unfold isInstance
    repeat (first | with_reducible refine Looks.at L0 ?_ | with_reducible refine Looks.at L1 ?_ | wp_step)
    exact hq
structure ExcLook (K : Frag) (D : Addr) : Prop where
  ga : findIn K (.ref D) "__getattribute__" = some (some (.builtin "BaseException.__getattribute__"))
  gt : findIn K (.ref D) "__getattr__" = some none
  cl : findIn K (.ref D) "__class__" = some (some (.builtin "object.__class__"))
  ge : specialIn K (.builtin "object.__class__") "__get__" = some (some (.builtin "getset_descriptor.__get__"))
  tk : takesIn K (.builtin "object.__class__") = some true
  ob : mroIn K D (.type "object") = some true
  be : mroIn K D (.type "BaseException") = some true
theorem exc_by {tk : Tok} {Q : Value → Shared → Prop} (X : K.In h) (hx : h.get? x = some ox) (hc : ox.cls = .ref D) (L : ExcLook K D) (hq : Q (.ref D) ⟨h, g, d, t, os⟩) :
    wpAny (model prog w) A (getAttrBy (.ref x) (.str "__class__" tk) false) Q E ⟨h, g, d, t, os⟩ := by
  have f3 := (F.excBase_ValueError).toExcCallFacts
  have f4 := (show ExcAttrFacts "ValueError" from F.excAttr_ValueError).ga.bind (.ref x)
  have L0 : Looks (model prog w) h (typeOf (.ref x)) (.ref D) := exc_type hx hc
  have L1 := looks_findIn (M := model prog w) X L.ga
  have L2 := looks_findIn (M := model prog w) X L.gt
  have hx2 : (Value.builtin "BaseException.__getattribute__" == Value.builtin "object.__getattribute__") = false := by decide +kernel
  have hx1 : (onTheHeap (Value.ref D) && Value.builtin "BaseException.__getattribute__" == Value.builtin "object.__getattribute__") = false := by rw [hx2]; rfl
  have hx0 : (false && onTheHeap (Value.builtin "BaseException.__getattribute__")) = false := rfl
  repeat (any_goals (first | assumption | with_reducible refine Looks.at L0 ?_ | with_reducible refine Looks.at L1 ?_ | with_reducible refine Looks.at L2 ?_ | wp_step))
  refine codeAny_call_builtin (show ExcAttrFacts "ValueError" from F.excAttr_ValueError).ga.plain F.entry_bexc_ga (exc_check X hx hc L.be (exc_entry X hx hc L.ob L.cl L.ge L.tk ?_))
  repeat (any_goals (first | assumption | wp_step))
theorem exc_class {Q : Option Value → Shared → Prop} (X : K.In h) (hx : h.get? x = some ox) (hc : ox.cls = .ref D) (L : ExcLook K D) (hq : Q (some (.ref D)) ⟨h, g, d, t + 1, os⟩) :
    wpAny (model prog w) A (getAttr? (.ref x) "__class__") Q E ⟨h, g, d, t, os⟩ := by
  unfold getAttr? getAttrBy?
  repeat (any_goals (first | assumption | with_reducible apply exc_by X hx hc L | wp_step))
def ExcAt (x : Addr) (cls : Value) (h : Heap) : Prop := ∃ o, h.get? x = some o ∧ o.cls = cls
theorem kitx_exc {cd : ClassData} (hcd : clsIn K D = some cd) (L : ExcLook K D) : KitX K (.ref x) (.ref D) (ExcAt x (.ref D)) where
  ty := fun _ _ _ ⟨_, hx, hc⟩ => exc_type hx hc
  it := fun _ _ X _ => by
    unfold clsIn at hcd
    split at hcd
    · rename_i c' d' cd' sl' ho
      intro A' Q' E' s' k q
      unfold isType loadHead
      exact wpAny_bind (wpAny_loadPart (k _ _ (X _ _ ho)) (wpAny_pure q))
    · cases hcd
  ne := fun h tp dd its n sl X htp => by
    refine Bool.eq_false_iff.mpr fun q => ?_
    have e : D = tp := Value.ref.inj (beq_iff_eq.mp q)
    subst e
    unfold clsIn at hcd
    split at hcd
    · rename_i c' d' cd' sl' ho
      have z := (X _ _ ho).symm.trans htp
      cases z
    · cases hcd
  ca := fun {_ _ _ _ _ s} X ⟨_, hx, hc⟩ k => by
    obtain ⟨h, g, d, t, os⟩ := s
    exact exc_class X hx hc L k
end
end PySem.W

namespace L2
open PySem PySem.Spec PyProof.Rows
/-- a tracked exception -/
def excO (x : Addr) (cls : Value) : HO := .ext (PySem.W.ExcAt x cls)
structure ErrLook (K : PySem.W.Frag) (D : Addr) : Prop where
  lk : PySem.W.ExcLook K D
  cd : (PySem.W.clsIn K D).isSome = true
theorem call_isiE {X : Cx} : CallR X (.builtin "isinstance") (fun xs H Q => ∃ x c D b, xs = [.ref x, c] ∧ H x = some (excO x (.ref D)) ∧ ErrLook X.K D ∧ isiOk X.K (.ref D) c b ∧ Q (.bl b) H) := by
  intro pins s σ H xs us Q I r h
  obtain ⟨x, c, D, b, rfl, hx, L, ok, q⟩ := h
  obtain ⟨u, v, rfl, ru, rv⟩ := vals2 r
  obtain rfl : u = Value.ref x := ru
  obtain ⟨p, _, _⟩ := (show ObjOk X.prog X.w H s.heap x (.ext (PySem.W.ExcAt x (.ref D))) from I.hok x _ hx)
  obtain ⟨cd, hcd⟩ := Option.isSome_iff_exists.mp L.cd
  cases c with
  | ty n =>
    obtain rfl : v = Value.type n := rv
    exact PySem.W.kia_one (PySem.W.kitx_exc hcd L.lk) I.kIn p ok (fun z => nomatch z) fun tk => ⟨.bl b, H, I.tok tk, rfl, q⟩
  | ref a =>
    obtain rfl : v = Value.ref a := rv
    exact PySem.W.kia_one (PySem.W.kitx_exc hcd L.lk) I.kIn p ok (fun z => nomatch z) fun tk => ⟨.bl b, H, I.tok tk, rfl, q⟩
  | _ => exact False.elim ok
end L2

set_option Elab.async false
set_option linter.all false
set_option maxRecDepth 100000
set_option maxHeartbeats 4000000
namespace L2
open PySem PySem.Spec PyProof.Rows

/-! ### exceptions by the state in which they come -/
abbrev XS := St → XK
def RaiseOkS (X : Cx) (E : XS) : Prop := ∀ (pins : List (Addr × Obj)) (σ : St) (H : Hp) (s : Shared) (x : Addr) (cls : Value) (args : List Value) (h' : Heap), Inv X pins σ H s → Heap.MadeExcOf s.heap h' x cls args → E σ cls none H → X.xe (.ref x) { s with heap := h' }
def PassesS (CX : CXT) (X : Cx) (E : XS) : Prop := ∀ (pins : List (Addr × Obj)) (σ : St) (H : Hp) (s : Shared) (e : Value) (s' : Shared), Inv X pins σ H s → CX X.stack H s (E σ) e s' → X.xe e s'
theorem RaiseOk.s {X : Cx} {E : XK} (h : RaiseOk X E) : RaiseOkS X fun _ => E := fun pins σ H s x cls args h' I m e => h pins σ H s x cls args h' I m e
def tRaiseS (C : Addr) (XE : XS) (t : TA) : TS := fun _ σ H => t σ H fun vs H1 => vs.length ≤ sizeLine ∧ XE σ (.ref C) none H1
theorem ps_raiseS {X : Cx} {XE : XS} {C : Addr} {x : Str} {e : Expr} {es : List Expr} {np cpos pos : Pos} {t : TA} (hc : X.calm = true) (hx : RaiseOkS X XE) (hC : ErrCls X.K C) (hg : Gl X x) (hm : X.mg x = some (.ref C)) (ha : PA X (e :: es) t)
    (hdb : (x == ("__debug__" : Str)) = false := by decide) (he : starEach (e :: es) X.env = (false, eval e X.env) :: starEach es X.env := by rfl) (hpl : (backTo cpos (starEach es X.env)).any (·.1) = false := by rfl) :
    PS X (.Raise (some (.Call (.Name x np) (e :: es) [] cpos)) none pos) (tRaiseS C XE t) := by
  intro pins s σ H D I h
  obtain ⟨tl, Na, nm, q, bs, hdct, sn, sub, ab, col, dd, k0, k1, k2, k3, k5, mN, hCo, hN, hni, T⟩ := ownObj_of_in I.ok.mod.kin hC
  refine wpAny_Raise_call_subT (C := C) (nm := nm) (q := q) (N := Na) (bs := bs) (bm := tl) (hdct := hdct) (sn := sn) (sub := sub) (ab := ab) (col := col) (dd := dd) (k0 := k0) (k1 := k1) (k2 := k2) (k3 := k3) (k5 := k5)
    PySem.F.excBase_ValueError (mN := mN) (T.hasType PySem.F.excBase_ValueError.hasBase) (I.ok.hd hc) (by rw [he]; show (false || (backTo cpos (starEach es X.env)).any (·.1)) = false; rw [hpl]; rfl) hni (ld_glob I hg hm ⟨rfl, ?_⟩ hdb)
  have hA := ha cpos pins s σ H _ I h
  rw [he] at hA ⊢
  refine Calls.evalArgs_plain (thn hA fun us s1 ⟨vs, H1, I1, r1, hl, q1⟩ => ?_)
  have kb := I1.bk
  exact ⟨rfl, by rw [← r1.length]; exact hl, kb _ _ hCo, hN.keeps kb, T.keeps kb, fun h' x' m => hx pins σ H1 s1 x' _ us h' I1 m q1⟩

section
variable {X : Cx} {CX : CXT} {k : Nat} {f C : Addr} {fd : FuncData} {ps : List Str} {sp : Sp} {E : XS} {x m : Str} {p pos apos : Pos} {e o : Expr} {es : List Expr} {ta : TE} {t : TA}
def tCallS (sp : Sp) (E : XS) (t : TA) : TE := fun σ H Q => t σ H fun vs H1 => sp vs H1 Q (E σ)
def tMethS (C : Addr) (m : Str) (sp : Sp) (E : XS) (ta : TE) (t : TA) : TE := fun σ H Q => ta σ H fun x H1 => ∃ a dx fs, x = .ref a ∧ H1 a = some (.ins C dx fs) ∧ fs.lookup m = none ∧ t σ H1 fun vs H2 => sp (x :: vs) H2 Q (E σ)
def tMakeS (C : Addr) (sp : Sp) (E : XS) (t : TA) : TE := fun σ H Q => t σ H fun vs H1 => ∀ x dx, H1 x = none → H1 dx = none → dx ≠ x →
  sp (.ref x :: vs) (upd (upd H1 dx (.own x)) x (.ins C dx [])) (fun v H2 => v = .non ∧ Q (.ref x) H2) (E σ)
theorem run_fnS {pins : List (Addr × Obj)} {σ : St} {H : Hp} {s : Shared} {Q : VK} {us : List Value} {vs : List V} (F : FnOk X.prog X.w X.K X.mg X.base CX k f fd ps sp) (hr : Room k X.A) (hb : Binds X.K fd ps []) (hx : PassesS CX X E)
    (I : Inv X pins σ H s) (r : Vals vs us) (h : sp vs H Q (E σ)) : wpAny (model X.prog X.w) X.A (call (.ref f) us) (EP X pins σ Q) X.xe s := by
  have hl : (us ++ []).length = ps.length := by rw [List.append_nil, ← r.length]; exact F.len _ _ _ _ h
  have hbb := hb s us I.kIn hl
  rw [List.append_nil] at hbb
  refine wpAny_call (codeAny_mono (F.run X.A X.stack s H ⟨us, []⟩ us vs Q (E σ) hr I.env0 hbb r h) fun r s' hq => ?_)
  cases r with
  | error e => exact hx pins σ H s e s' I hq
  | ok fl =>
    cases fl with
    | ret u => exact I.after hq
    | next => exact False.elim hq
    | brk => exact False.elim hq
    | cont => exact False.elim hq
theorem pe_callS (F : FnOk X.prog X.w X.K X.mg X.base CX k f fd ps sp) (hr : Room k X.A) (hg : Gl X x) (hm : X.mg x = some (.ref f)) (hk : PySem.W.keepIn X.K (.ref f) = true) (hb : Binds X.K fd ps []) (hx : PassesS CX X E)
    (ha : PA X (e :: es) t) (hdb : (x == ("__debug__" : Str)) = false := by decide) (he : starEach (e :: es) X.env = (false, eval e X.env) :: starEach es X.env := by rfl) (hpl : (backTo pos (starEach es X.env)).any (·.1) = false := by rfl) :
    PE X (.Call (.Name x p) (e :: es) [] pos) (tCallS sp E t) := by
  intro pins s σ H Q I h
  refine wpAny_Call_Name_kw (ld_glob I hg hm ?_ hdb)
  refine PySem.W.callWith_K (h₀ := X.base) I.ok.mod.kin hk (thn (ha pos pins s σ H _ I h) fun us s1 ⟨vs, H1, I1, r, q⟩ => ⟨I1.kIn, ?_⟩) he hpl
  exact run_fnS F hr hb hx I1 r q
end

theorem ObjOk.isThere {P : Program} {w : World} {H : Hp} {h : Heap} {a : Addr} {o : HO} (x : ObjOk P w H h a o) : ∃ u, h.get? a = some u := by
  cases o with
  | lst xs => obtain ⟨_, _, _, _, e⟩ := x; exact ⟨_, e⟩
  | tup xs => obtain ⟨_, _, _, ob, e, _⟩ := x; exact ⟨_, e⟩
  | dK kvs => obtain ⟨_, _, _, _, o, _, _, e, _⟩ := x; exact ⟨_, e⟩
  | dT kvs => obtain ⟨_, _, _, _, o, _, _, e, _⟩ := x; exact ⟨_, e⟩
  | set S n => obtain ⟨o, _, _, _, e, _⟩ := x; exact ⟨_, e⟩
  | ins C dx fs => obtain ⟨_, _, _, e, _⟩ := x; exact ⟨_, e⟩
  | own y => exact x
  | xd fs => obtain ⟨_, ⟨_, _, _, e, _⟩, _⟩ := x; exact ⟨_, e⟩
  | rng lo hi => obtain ⟨_, _, _, e⟩ := x; exact ⟨_, e⟩
  | frz ob u => obtain ⟨e, _⟩ := x; exact ⟨_, e⟩
  | tbl ps => exact ⟨_, (show h.get? a = some _ from x)⟩
  | met f y => exact ⟨_, (show h.get? a = some _ from x)⟩
  | ext φ => obtain ⟨_, e, _⟩ := x; exact e

/-! ### try: .. except C as n: .. -/
structure TryB where
  pins : List (Addr × Obj)
  E : Value → Shared → Prop
/-- the context of a try's body: what was pinned stays pinned -/
def Cx.tryIn (X : Cx) (b : TryB) : Cx := { X with pn := X.pn ++ b.pins, xe := b.E }
theorem tryIn_K {X : Cx} {b : TryB} : (X.tryIn b).K = X.K := rfl
/-- the context of a handler's suite (no exception leaves it) -/
def Cx.suite (X : Cx) (x : Addr) : Cx := { X with A := X.A.mark (some (.ref x)), calm := false, xe := fun _ _ => False }
theorem suite_K {X : Cx} {x : Addr} : (X.suite x).K = X.K := rfl
section
variable {X : Cx} {pins : List (Addr × Obj)} {σ : St} {H : Hp} {s : Shared}
theorem Cx.Ok.tryIn (ok : X.Ok) (b : TryB) : (X.tryIn b).Ok := ⟨ok.mod, ok.kind, ok.glob, ok.blt, ok.above, ok.inj, ok.has, ok.cab, ok.hd, ok.frames, ok.stk, ok.exf, ok.bs, ok.bsz, ok.noex, ok.exfs, ok.funs, ok.frf⟩
theorem Inv.tryIn (I : Inv X pins σ H s) (E : Value → Shared → Prop) : Inv (X.tryIn ⟨pins, E⟩) [] σ H s :=
  ⟨I.ok.tryIn _, I.os, I.bare, I.base, I.loc, I.cell, I.free, I.freeC, fun p hp => I.pin p (by
    have hp : p ∈ (X.pn ++ pins) ++ [] := hp
    simpa using hp), I.hok, I.len⟩
theorem Inv.untry {b : TryB} {pins' : List (Addr × Obj)} (ok : X.Ok) (I : Inv (X.tryIn b) pins' σ H s) : Inv X b.pins σ H s :=
  ⟨ok, I.os, I.bare, I.base, I.loc, I.cell, I.free, I.freeC, fun p hp => I.pin p (by
    show p ∈ (X.pn ++ b.pins) ++ pins'
    exact List.mem_append_left _ hp), I.hok, I.len⟩
theorem Cx.Ok.suite (ok : X.Ok) (x : Addr) : (X.suite x).Ok := ⟨ok.mod, ok.kind, ok.glob, ok.blt, ok.above, ok.inj, ok.has, ok.cab, (fun h => nomatch h), ok.frames, ok.stk, ok.exf, ok.bs, ok.bsz, ok.noex, ok.exfs, ok.funs, ok.frf⟩
theorem Inv.suite (I : Inv X pins σ H s) (x : Addr) : Inv (X.suite x) pins σ H s := ⟨I.ok.suite x, I.os, I.bare, I.base, I.loc, I.cell, I.free, I.freeC, I.pin, I.hok, I.len⟩
theorem Inv.unsuite {x : Addr} (ok : X.Ok) (I : Inv (X.suite x) pins σ H s) : Inv X pins σ H s := ⟨ok, I.os, I.bare, I.base, I.loc, I.cell, I.free, I.freeC, I.pin, I.hok, I.len⟩
/-- a name is forgotten, the frame's map turned at it alone -/
theorem Inv.dropName {i : Nat} {n : Str} {v : Option Value} {h' : Heap} {m : Str → Option Value} {t' : Nat} (I : Inv X pins σ H s) (hN : X.N.Nodup) (hi : X.N[i]? = some n) (hm : s.heap.Ns X.env.locals m)
    (hl : ∀ (j : Nat) (x : Str) (v : V), X.N[j]? = some x → σ[j]? = some (some v) → Vis X.env.scope x → ∃ u, RelV v u ∧ Look X.env s.heap m x u)
    (hn : h'.Ns X.env.locals (fun x => if x = n then v else m x)) (hs : Heap.SameBut X.env.locals s.heap h') : Inv X pins (σ.set i none) H { s with heap := h', toks := t' } := by
  have ne0 : ∀ b o, X.s₀.heap.get? b = some o → b ≠ X.env.locals := fun b o e => Nat.ne_of_lt (Nat.lt_of_lt_of_le (Heap.lt_size e) I.ok.above)
  obtain ⟨m', hm', _⟩ := id I.loc
  obtain ⟨oL, _, _, hoL, _⟩ := id hm
  refine ⟨I.ok, I.os, I.bare, ⟨fun b o e n hb hx => (hs.2 b (ne0 b o e)).trans (I.base.keep b o e n hb hx), fun b o e n hb hx => ?_, I.base.free, fun b o e hx => ?_, I.base.tups, I.base.frzs, I.base.tbls⟩, ⟨_, hn, fun j y v' e1 e2 e3 => ?_⟩, fun y c e => ?_, I.free, I.freeC, fun p hp => ?_, I.hok.but I.free hs, by simpa using I.len⟩
  · obtain ⟨sl, e1⟩ := I.base.slot b o e n hb hx
    exact ⟨sl, (hs.2 b (ne0 b o e)).trans e1⟩
  · obtain ⟨o', e1⟩ := I.base.there b o e hx
    exact ⟨o', (hs.2 b (ne0 b o e)).trans e1⟩
  · by_cases hj : j = i
    · subst hj
      have hlt : j < σ.length := by rw [I.len]; exact (List.getElem?_eq_some_iff.mp hi).1
      rw [List.getElem?_set_self hlt] at e2
      cases e2
    · rw [List.getElem?_set_ne (Ne.symm hj)] at e2
      obtain ⟨u', r', q⟩ := hl j y v' e1 e2 e3
      refine ⟨u', r', ?_⟩
      rcases q with ⟨k, e⟩ | ⟨k, c, e, z⟩
      · refine .inl ⟨k, ?_⟩
        have : y ≠ n := fun e => hj (nodup_ix hN e1 (e ▸ hi))
        simp [this, e]
      · exact .inr ⟨k, c, e, z.sameBut hs (I.cne y c e)⟩
  · obtain ⟨w', z⟩ := I.cell y c e
    exact ⟨w', z.sameBut hs (I.cne y c e)⟩
  · obtain ⟨e, n, ne, nf, d⟩ := I.pin p hp
    exact ⟨(hs.2 p.1 ne).trans e, n, ne, nf, d⟩
end
end L2
namespace L2
open PySem PySem.Spec PyProof.Rows
/-- where an exception has landed in a frame: the state is as it was ahead of the call, the heap grown; the exception stands at x -/
theorem land {X : Cx} {pins : List (Addr × Obj)} {σ : St} {H H' : Hp} {s s' : Shared} {x : Addr} {cls a0 : Value} {oc : Option Addr} {B : Heap} {h6 : Heap} (I : Inv X pins σ H s) (ho : s'.os = s.os) (hb : AllBare s'.gens) (fl : Fly B X.stack x cls a0 oc h6)
    (u : UnB (frs X.stack) H H' s.heap B) (ok : HOk X.prog X.w H' B) (sl : ∀ b ∈ frs X.stack, ∀ o, s.heap.get? b = some o → ∃ sl, h6.get? b = some { o with slots := sl }) :
    H' x = none ∧ Inv X pins σ (upd H' x (excO x cls)) { s' with heap := h6 } ∧ Inv X pins σ H' { s' with heap := h6 } := by
  obtain ⟨f1, f2, f3, f4⟩ := id fl
  obtain ⟨_, oe, vs, T, oT, ts, hoe, hcls, hoed, _⟩ := id f4
  have hx' : H' x = none := by
    cases q : H' x with
    | none => rfl
    | some o =>
      obtain ⟨u, e⟩ := (ok x o q).isThere
      rw [f2] at e; cases e
  have ok6 : HOk X.prog X.w H' h6 := ok.kept fun b u e => f1 b u e
  have nx : ∀ b o, s.heap.get? b = some o → b ≠ x := fun b o e z => by
    subst z
    by_cases hm : b ∈ frs X.stack
    · obtain ⟨_, o', e', hd⟩ := f3.mem hm
      rw [hoe] at e'; cases e'
      exact hd _ hoed
    · obtain ⟨o', e'⟩ := u.there b o e hm
      rw [f2] at e'; cases e'
  have un := u.un f1 sl
  have un2 : Un (frs X.stack) [] H (upd H' x (excO x cls)) s.heap h6 :=
    ⟨un.keep, un.slot, fun b o e n hx => by rw [upd_ne (nx b o e)]; exact un.free b o e n hx, un.there,
      fun b xs e => by rw [upd_ne (ne_of_none (u.tups b xs e) hx')]; exact u.tups b xs e, fun b o v e => by rw [upd_ne (ne_of_none (u.frzs b o v e) hx')]; exact u.frzs b o v e,
      fun b ps e => by
        obtain ⟨more, q⟩ := u.tbls b ps e
        exact ⟨more, by rw [upd_ne (ne_of_none q hx')]; exact q⟩⟩
  refine ⟨hx', ?_, ?_⟩
  · refine I.call' (s' := { s' with heap := h6 }) (ch := []) ho un2 (ok6.track hx' ⟨⟨oe, hoe, hcls⟩, ⟨oe, hoe⟩, fun h1 h2 ⟨o, e, c⟩ k => ⟨o, k o e, c⟩⟩) hb (fun b z => nomatch z)
  · exact I.call' (s' := { s' with heap := h6 }) (ch := []) ho un ok6 hb (fun b z => nomatch z)

def suiteEnds (i : Nat) (D : Ends) : Ends := { nx := fun σ H => D.nx (σ.set i none) H, rt := D.rt, bk := fun σ H => D.bk (σ.set i none) H, ct := fun σ H => D.ct (σ.set i none) H }
/-- body; C, its class; i, the name's slot; th, the suite -/
def tTryAs (K : PySem.W.Frag) (C : Addr) (i : Nat) (tb : TryB → XS → TS) (th : Addr → TS) : TS := fun D σ H => ∀ b : TryB,
  tb b (fun σ' cls _ H' => PySem.W.exmOne K cls (.ref C) = some true ∧ ∀ x, H' x = none → th x (suiteEnds i D) (σ'.set i (some (.ref x))) (upd H' x (excO x cls))) D σ H
theorem ps_tryAs {X : Cx} {body suite : List Stmt} {b₀ : Stmt} {cn n : Str} {np hpos pos : Pos} {C : Addr} {i : Nat} {tb : TryB → XS → TS} {th : Addr → TS} (hst : X.stack = X.env :: X.outer) (hfr : X.env.frame = some X.env.locals) (hN : X.N.Nodup) (hi : X.N[i]? = some n)
    (hb : ∀ b XE, PassesS (CX1 X.prog X.w) (X.tryIn b) XE → PSs (X.tryIn b) body (tb b XE)) (hth : ∀ x, PSs (X.suite x) (b₀ :: suite) (th x)) (hg : Gl X cn) (hm : X.mg cn = some (.ref C))
    (hn : X.env.scope.names.lookup n = some .local := by rfl) (hex : X.ex = [] := by rfl) (hdb : (cn == ("__debug__" : Str)) = false := by decide) :
    PS X (.Try body [.ExceptHandler (some (.Name cn np)) (some n) (b₀ :: suite) hpos] [] [] pos) (tTryAs X.K C i tb th) := by
  intro pins s σ H D I h
  refine wpAny_Try_except ?_
  let E' : Value → Shared → Prop := fun e s₁ => wpAny (model X.prog X.w) X.A (noteFrame e X.env) (fun _ s₂ => wpAny (model X.prog X.w) X.A (setFlight e none) (fun _ s₃ =>
    wpAny (model X.prog X.w) X.A (handleBy e X.env [.ExceptHandler (some (.Name cn np)) (some n) (b₀ :: suite) hpos]) (SP X pins D) X.xe s₃) X.xe s₂) X.xe s₁
  let XE : XS := fun σ' cls _ H' => PySem.W.exmOne X.K cls (.ref C) = some true ∧ ∀ x, H' x = none → th x (suiteEnds i D) (σ'.set i (some (.ref x))) (upd H' x (excO x cls))
  -- what the handler does
  have caught : ∀ {σ' : St} {H1 H' : Hp} {s1 s' : Shared} {x : Addr} {cls a0 : Value} {oc : Option Addr} {B : Heap}, Inv X pins σ' H1 s1 → s'.os = s1.os → AllBare s'.gens → Fly B X.stack x cls a0 oc s'.heap → UnB (frs X.stack) H1 H' s1.heap B → HOk X.prog X.w H' B →
      (∀ b ∈ frs X.stack, ∀ o, s1.heap.get? b = some o → ∃ sl, s'.heap.get? b = some { o with slots := sl }) → XE σ' cls oc H' → wpAny (model X.prog X.w) X.A (handleBy (.ref x) X.env [.ExceptHandler (some (.Name cn np)) (some n) (b₀ :: suite) hpos]) (SP X pins D) X.xe s' := by
    intro σ' H1 H' s1 s' x cls a0 oc B I1 ho hbr fl u ok sl he
    obtain ⟨hx', J, J0⟩ := land (s' := s') I1 ho hbr fl u ok sl
    obtain ⟨hmt, hq⟩ := he
    refine wpAny_handleBy_cons (codeAny_handlers_test ?_) (by intro q; cases q)
    refine ld_glob (X := X.suite x) (J0.suite x) hg hm ?_ hdb
    obtain ⟨ob, hob, hobc⟩ := fl.there
    have LT : PySem.W.Looks (model X.prog X.w) s'.heap (typeOf (.ref x)) cls := hobc ▸ (PySem.W.Looks.ld hob).andThen .now
    refine (PySem.W.exm_one (M := model X.prog X.w) J0.kIn LT hmt).here ?_
    rw [if_pos rfl]
    refine codeAny_handlers_suite_as ?_
    refine flightT none fl fun h6 fl6 sm _ => ?_
    have sl6 : ∀ b ∈ frs X.stack, ∀ o, s1.heap.get? b = some o → ∃ sl, h6.get? b = some { o with slots := sl } := fun b hb o q => by
      obtain ⟨s2, e2⟩ := sl b hb o q
      obtain ⟨_, o', e', hd⟩ := fl.2.2.1.mem hb
      rw [e2] at e'; cases e'
      obtain ⟨s3, e3⟩ := sm b _ e2 (by intro vs z; exact hd vs z)
      exact ⟨s3, e3⟩
    obtain ⟨_, J6, _⟩ := land (s' := s') I1 ho hbr fl6 u ok sl6
    refine store_ok (X := X.suite x) (v := .ref x) (J6.suite x) hN hi (Or.inl hn) rfl (fun s7 J7 => ?_) (Or.inr hn)
    refine wpAny_mono (hth x pins s7 _ _ (suiteEnds i D) J7 (hq x hx')) (fun f s8 q8 => ?_) fun _ _ z => z.elim
    have go : ∀ {σ8 : St} {H8 : Hp} {Qf : Prop}, Inv (X.suite x) pins σ8 H8 s8 → (∀ h9 : Heap, Inv X pins (σ8.set i none) H8 { s8 with heap := h9, toks := s8.toks + 1 } → SP X pins D f { s8 with heap := h9, toks := s8.toks + 1 }) →
        wpAny (model X.prog X.w) X.A (do bindName X.env n .none; unbindBehindTheSuite X.env n hpos) (fun _ s₅ => SP X pins D f s₅) X.xe s8 := fun {σ8 H8 Qf} J8 k => by
      have J8' := J8.unsuite I.ok
      obtain ⟨m8, n8, l8⟩ := J8'.loc
      refine wpAny_nameGoes_keeps hn n8 (by rw [I.ok.kind]; rfl) fun h9 v hn9 hs9 => k h9 (J8'.dropName hN hi n8 l8 hn9 hs9)
    show wpAny (model X.prog X.w) X.A (do bindName X.env n .none; unbindBehindTheSuite X.env n hpos) (fun _ s₅ => SP X pins D f s₅) X.xe s8
    cases f with
    | next => obtain ⟨σ8, H8, J8, q⟩ := q8; exact go (Qf := True) J8 fun h9 J9 => ⟨_, _, J9, q⟩
    | brk => obtain ⟨σ8, H8, J8, q⟩ := q8; exact go (Qf := True) J8 fun h9 J9 => ⟨_, _, J9, q⟩
    | cont => obtain ⟨σ8, H8, J8, q⟩ := q8; exact go (Qf := True) J8 fun h9 J9 => ⟨_, _, J9, q⟩
    | ret u => obtain ⟨v, σ8, H8, J8, rv, q⟩ := q8; exact go (Qf := True) J8 fun h9 J9 => ⟨v, _, _, J9, rv, q⟩
  have hP : PassesS (CX1 X.prog X.w) (X.tryIn ⟨pins, E'⟩) XE := fun pins' σ' H1 s1 e s' I1 q => by
    obtain ⟨x, cls, a0, oc, B, H', rfl, ho, hbr, fl, u, ok, sl, he⟩ := q
    have I1' : Inv X pins σ' H1 s1 := I1.untry I.ok
    have fl' : Fly B (X.env :: X.outer) x cls a0 oc s'.heap := by rw [← hst]; exact fl
    show wpAny (model X.prog X.w) X.A (noteFrame (.ref x) X.env) _ _ _
    refine noteT (by rw [I.ok.frames, hst]) hfr fl' fun h4 hh4 _ sm4 => flightT (s := { s' with heap := h4 }) none hh4 fun h5 fl5 sm5 _ => ?_
    refine caught (s' := { s' with heap := h5 }) (a0 := a0) (B := B) I1' ho hbr (by rw [hst]; exact fl5) u ok (fun b hb o q => ?_) he
    obtain ⟨s2, e2⟩ := sl b hb o q
    obtain ⟨_, o', e', hd⟩ := fl.2.2.1.mem hb
    rw [e2] at e'; cases e'
    obtain ⟨s3, e3⟩ := (sm4.trans sm5) b _ e2 (by intro vs z; exact hd vs z)
    exact ⟨s3, e3⟩
  refine wpAny_mono (hb ⟨pins, E'⟩ XE hP [] s σ H D (I.tryIn E') (h ⟨pins, E'⟩)) (fun f s8 q8 => ?_) fun _ _ z => z
  cases f with
  | next => obtain ⟨σ8, H8, J8, q⟩ := q8; exact wpAny_execs_nil ⟨σ8, H8, J8.untry I.ok, q⟩
  | brk => obtain ⟨σ8, H8, J8, q⟩ := q8; exact ⟨σ8, H8, J8.untry I.ok, q⟩
  | cont => obtain ⟨σ8, H8, J8, q⟩ := q8; exact ⟨σ8, H8, J8.untry I.ok, q⟩
  | ret u => obtain ⟨v, σ8, H8, J8, rv, q⟩ := q8; exact ⟨v, σ8, H8, J8.untry I.ok, rv, q⟩
end L2

set_option Elab.async false
set_option linter.all false
set_option maxRecDepth 100000
set_option maxHeartbeats 4000000
namespace L2
open PySem PySem.Spec PyProof.Rows

/-! ### f-strings -/
abbrev TJ := Str → St → Hp → VK → Prop
def jNil : TJ := fun out _ H Q => out.length ≤ sizeLine ∧ Q (.str out) H
def jCons (te : TE) (tr : TJ) : TJ := fun out σ H Q => te σ H fun x H1 => ∃ y, x = .str y ∧ (out ++ y).length ≤ sizeLine ∧ tr (out ++ y) σ H1 Q
def tFstr (t : TJ) : TE := fun σ H Q => t Str.empty σ H Q
def tFmt (te : TE) : TE := fun σ H Q => te σ H fun x H1 => (∃ i : Int, x = .int i ∧ i.natAbs.log2 < 1920 ∧ Q (.str (toString i)) H1) ∨ (∃ y : Str, x = .str y ∧ y.length ≤ sizeLine ∧ Q (.str y) H1)
section
variable {X : Cx} {e : Expr} {es : List Expr} {te : TE} {t : TJ} {pos : Pos}
end

/-! ### == of nested sequences -/
inductive DEq (K : PySem.W.Frag) (H : Hp) : Nat → V → V → Bool → Prop
  | flat {d : Nat} {x y : V} : flatV x = true → flatV y = true → DEq K H d x y (eqV x y)
  | same {d : Nat} {a : Addr} : DEq K H d (.ref a) (.ref a) true
  | lsts {d : Nat} {a b : Addr} {xs ys : List V} {e : Nat → Bool} : a ≠ b → SqL K H a xs → SqL K H b ys → xs.length = ys.length → (∀ j x y, xs[j]? = some x → ys[j]? = some y → DEq K H d x y (e j)) → DEq K H (d + 1) (.ref a) (.ref b) ((List.range xs.length).all e)
  | tups {d : Nat} {a b : Addr} {xs ys : List V} {e : Nat → Bool} : a ≠ b → SqT K H a xs → SqT K H b ys → (∀ j x y, xs[j]? = some x → ys[j]? = some y → DEq K H d x y (e j)) → DEq K H (d + 1) (.ref a) (.ref b) ((List.range (min xs.length ys.length)).all e && xs.length == ys.length)
/-! ### cuts -/
theorem seq_cut {t u : TS} {D : Ends} {σ : St} {H : Hp} (Mid : St → Hp → Prop) (h1 : ∀ N : St → Hp → Prop, (∀ σ' H', Mid σ' H' → N σ' H') → t { D with nx := N } σ H) (h2 : ∀ σ' H', Mid σ' H' → u D σ' H') : tSeq t u D σ H := h1 (u D) h2
/-- pairs compared -/
theorem DEq.pair {K : PySem.W.Frag} {H : Hp} {a b : Addr} {q : Pr} {d : Nat} (ha : H a = some (pairO q)) (hb : H b = some (pairO q)) : DEq K H (d + 1) (.ref a) (.ref b) true := by
  by_cases e : a = b
  · subst e; exact .same
  · have h := DEq.tups (K := K) (d := d) (e := fun _ => true) e (SqT.of ha) (SqT.of hb) (fun j x y hx hy => by
      have : x = y := by rw [hx] at hy; exact Option.some.inj hy
      subst this
      have fl : flatV x = true ∧ eqV x x = true := by
        match j, hx with
        | 0, hx => cases hx; simp [flatV, eqV]
        | 1, hx => cases hx; simp [flatV, eqV]
        | j + 2, hx => simp at hx
      have z := DEq.flat (K := K) (H := H) (d := d) fl.1 fl.1
      rw [fl.2] at z
      exact z)
    exact h
theorem DEq.pairs {K : PySem.W.Frag} {H : Hp} {a b : Addr} {as bs : List Addr} {ps : List Pr} {d : Nat} (ne : a ≠ b) (ha : SqL K H a (as.map V.ref)) (hb : SqL K H b (bs.map V.ref)) (ta : TupsAt H as ps) (tb : TupsAt H bs ps) : DEq K H (d + 2) (.ref a) (.ref b) true := by
  have la := ta.len
  have lb := tb.len
  have h := DEq.lsts (K := K) (d := d + 1) (e := fun _ => true) ne ha hb (by simp [la, lb]) (fun j x y hx hy => by
    obtain ⟨a1, rfl, e1⟩ := map_ref hx
    obtain ⟨b1, rfl, e2⟩ := map_ref hy
    obtain ⟨q, h1, h2⟩ := ta.get e1
    obtain ⟨q', h3, h4⟩ := tb.get e2
    rw [h1] at h3; cases h3
    exact DEq.pair h2 h4)
  have e : ((List.range (as.map V.ref).length).all fun _ => true) = true := by simp
  rw [e] at h
  exact h
end L2

set_option Elab.async false
set_option linter.all false
set_option maxRecDepth 100000
set_option maxHeartbeats 4000000
namespace L2
open PySem PySem.Spec PyProof.Rows
open PySem.Builtin PySem.Builtin.Str

/-! ### cuts of a row of statements -/
section
variable {s1 s2 s3 s4 s5 u : TS} {D : Ends} {σ : St} {H : Hp}
theorem seq_cut3 (Mid : St → Hp → Prop) (h1 : ∀ N : St → Hp → Prop, (∀ σ' H', Mid σ' H' → N σ' H') → tSeq s1 (tSeq s2 s3) { D with nx := N } σ H) (h2 : ∀ σ' H', Mid σ' H' → u D σ' H') : tSeq s1 (tSeq s2 (tSeq s3 u)) D σ H := h1 (u D) h2
/-- a test that is known -/
def Is (c : TT) (b : Bool) (σ : St) (H : Hp) : Prop := ∀ Q : Bool → Hp → Prop, Q b H → c σ H Q
theorem Is.of {c : TT} {b b' : Bool} (h : Is c b σ H) (e : b = b') : Is c b' σ H := e ▸ h
end

section
variable {X : Cx}
/-! ### texts -/
end
/-- the law's promise, exceptions by the world -/
theorem walk_ofW {l : PySem.W.OpenLaw} {n k : Nat} {q : Program} {loose : List Str} {XP : (Str → Option Value) → Heap → Prop} {YP : World → Heap → Prop} {d : DefRec} {K : Params → PySem.W.Frag} {sp : PySem.W.Frag → Sp} {x : Str}
    (hn : l.most = some n) (hn2 : n ≤ sizeLine) (hdf : d.params.defaults = []) (hr : Room k callerA)
    (hY : ∀ (w : World) (h : Heap), YP w h → (K w.params).In h)
    (F : ∀ (w : World) (mg : Str → Option Value) (fa : Addr) (h : Heap), (K w.params).In h → h.Ns mainGlobals mg → mg d.name = some (.ref fa) →
      ∃ fd : FuncData, (∀ (s : Shared) (u : Value), BindsTo s fd ⟨[u], []⟩ [(x, u)]) ∧ ∀ base : Heap, (K w.params).In base → base.Ns mainGlobals mg → FnOk l.prog w (K w.params) mg base (CX1 l.prog w) k fa fd [x] (sp (K w.params)))
    (hsp : ∀ (K : PySem.W.Frag) (H : Hp) (a : Addr) (ns : List Int), ns.length ≤ n → Only H → SqL K H a (ns.map V.int) → sp K [.ref a] H (fun v _ => v = .bl true) fun _ _ _ => False) :
    PySem.W.WalkO q loose XP YP l.row.toRowW d [] (fun f vs => PySem.call f vs) :=
  walk_of (K := K) (CX := fun w => CX1 l.prog w) (sp := fun w => sp (K w.params)) hn hn2 hdf hr hY F (fun w H a ns h1 h2 h3 => hsp (K w.params) H a ns h1 h2 h3) fun w H s e s' z => nox1 [] H s e s' z
end L2

set_option Elab.async false
set_option linter.all false
set_option maxRecDepth 100000
set_option maxHeartbeats 4000000
namespace L2
open PySem PySem.Spec PyProof.Rows
section
variable {X : Cx}
/-- numbers of up to some 1200 figures -/
def Big (i : Int) : Prop := i.natAbs < 2 ^ 4000
theorem Big.log2 {j : Int} (h : Big j) : j.natAbs.log2 < 9000 := by
  by_cases e : j.natAbs = 0
  · rw [e]; decide
  · exact Nat.lt_of_lt_of_le ((Nat.log2_lt e).mpr h) (by decide)
end
end L2

set_option Elab.async false
set_option linter.all false
set_option maxRecDepth 100000
set_option maxHeartbeats 4000000
namespace L2
open PySem PySem.Spec PyProof.Rows
/-! ### sum of a list of whole numbers -/
theorem Vals.ints : ∀ {ns : List Int} {us : List Value}, Vals (ns.map V.int) us → ∃ xs : List (Int × Tok), us = xs.map (fun p => Value.int p.1 p.2) ∧ xs.map (·.1) = ns
  | [], _, .nil => ⟨[], rfl, rfl⟩
  | n :: _, _, .cons r t => by
    obtain ⟨k, rfl⟩ := r
    obtain ⟨xs, rfl, e⟩ := Vals.ints t
    exact ⟨(n, k) :: xs, rfl, by simp [e]⟩
section
variable {X : Cx}
end
/-! ### zip of two lists -/
def Itz (K : PySem.W.Frag) (a b : Addr) : It :=
  ⟨fun i H => ∃ xs x ys y, SqL K H a xs ∧ xs[i]? = some x ∧ SqL K H b ys ∧ ys[i]? = some y, fun i H x H' => ∃ p u v, H p = none ∧ x = .ref p ∧ H' = upd H p (.tup [u, v]) ∧ (∀ xs, SqL K H a xs → xs[i]? = some u) ∧ ∀ ys, SqL K H b ys → ys[i]? = some v, fun i H => ∃ xs ys, SqL K H a xs ∧ SqL K H b ys ∧ (xs.length ≤ i ∨ ys.length ≤ i)⟩
def iZip (K : PySem.W.Frag) (ta : TA) : TI := fun σ H R => ta σ H fun vs H1 => ∃ a b, vs = [.ref a, .ref b] ∧ (∃ xs, SqL K H1 a xs) ∧ (∃ ys, SqL K H1 b ys) ∧ R (Itz K a b) H1
end L2

set_option Elab.async false
set_option linter.all false
set_option maxRecDepth 100000
set_option maxHeartbeats 4000000
namespace L2
open PySem PySem.Spec PyProof.Rows
theorem Vals.intsAre : ∀ {ns : List Int} {us : List Value}, Vals (ns.map V.int) us → IntsAre us ns
  | [], _, .nil => .nil
  | n :: _, _, .cons r t => by
    obtain ⟨k, rfl⟩ := r
    exact .cons n k (Vals.intsAre t)
theorem ints_vals : ∀ {us : List Value} {ns : List Int}, IntsAre us ns → Vals (ns.map V.int) us
  | _, _, .nil => .nil
  | _, _, .cons n t h => .cons ⟨t, rfl⟩ (ints_vals h)
section
variable {X : Cx}
/-! ### sorted of a list of whole numbers -/
theorem call_sorted : CallR X (.builtin "sorted") (fun xs H Q => ∃ (p : Addr) (ns : List Int), xs = [.ref p] ∧ SqL X.K H p (ns.map V.int) ∧ ns.length < 64 ∧ ∀ (l : Addr) (ns' : List Int), H l = none → ns'.Perm ns → ns'.Pairwise (· ≤ ·) → Q (.ref l) (upd H l (.lst (ns'.map V.int)))) := by
  intro pins s σ H xs us Q I r h
  obtain ⟨p, ns, rfl, hq, h64, q⟩ := h
  obtain ⟨u, rfl, ru⟩ := vals1 r
  cases ru
  obtain ⟨its, rv, pl, hz⟩ := I.list hq
  have hl := rv.length
  rw [List.length_map] at hl
  refine sorted_ints pl.isList rv.intsAre (by omega) fun out ns' a1 a2 a3 => ?_
  obtain ⟨e, he⟩ := sortedAll_at s.heap its out
  have l2 := a2.length_eq
  have hle : s.heap.objs.size ≤ s.heap.objs.size + 1 := Nat.le_succ _
  refine ⟨.ref (s.heap.objs.size + 1), _, I.laid (t' := s.toks) (o := .lst (ns'.map V.int)) (fun b o => sortedAll_old) hle ⟨by rw [List.length_map]; exact small_le (by omega), out.toList, e, ints_vals a1, ?_⟩, rfl, q _ ns' (I.hok.fresh hle) a2 a3⟩
  rw [Array.toArray_toList]
  exact he
/-! ### list(range(n)) -/
def tLRng (ta : TA) : TE := fun σ H Q => ta σ H fun vs H1 => ∃ n : Nat, vs = [.int n] ∧ n ≤ 1000 ∧ ∀ l, H1 l = none → Q (.ref l) (upd H1 l (.lst ((List.range n).map fun (i : Nat) => V.int (i : Int))))
theorem vals_of_items : ∀ {n : Nat} {us : List Value}, us.length = n → (∀ j v, us[j]? = some v → ∃ t, v = Value.int ((j : Nat) : Int) t) → Vals ((List.range n).map fun (i : Nat) => V.int (i : Int)) us := by
  intro n
  induction n with
  | zero =>
    intro us hl _
    rw [List.length_eq_zero_iff.mp hl]
    exact .nil
  | succ n ih =>
    intro us hl h
    have e : us = us.take n ++ [us[n]'(by omega)] := by
      rw [List.take_append_getElem (by omega)]
      rw [List.take_of_length_le (by omega)]
    obtain ⟨t, ht⟩ := h n (us[n]'(by omega)) (by simp)
    rw [e, List.range_succ, List.map_append]
    refine Vals.append (ih (by simp; omega) fun j v hj => ?_) (.cons ⟨t, ht⟩ .nil)
    rw [List.getElem?_take] at hj
    split at hj
    · exact h j v hj
    · cases hj
theorem pe_lrng {a : Expr} {ta : TA} {p p2 pos pos2 : Pos} (hc : X.calm = true) (hgl : Gl X "list") (hml : X.mg "list" = none) (hg : Gl X "range") (hm : X.mg "range" = none) (ha : PA X [a] ta)
    (hsl : starEach [Expr.Call (.Name "range" p2) [a] [] pos2] X.env = [(false, eval (.Call (.Name "range" p2) [a] [] pos2) X.env)] := by rfl)
    (hs : starEach [a] X.env = [(false, eval a X.env)] := by rfl) :
    PE X (.Call (.Name "list" p) [.Call (.Name "range" p2) [a] [] pos2] [] pos) (tLRng ta) := by
  intro pins s σ H Q I h
  refine wpAny_Call_Name_kw (ld_blt I hgl hml (by decide +kernel : bootBuiltins "list" = some (.type "list")) ?_ (by decide) (by decide))
  refine PyProof.Rows.callWith_type1 ?_ hsl rfl
  rw [hsl]
  show wpAny _ _ (spliced ((false, eval (.Call (.Name "range" p2) [a] [] pos2) X.env) :: [])) _ _ s
  refine Calls.spliced_cons ?_
  refine Call_ (ld_blt I hg hm boot_range (PyProof.Rows.callWith_type1 (thn (ha pos2 pins s σ H _ I h) fun us s1 ⟨vs, H1, I1, r1, q1⟩ => ?_) hs rfl))
  obtain ⟨n, e, hn, q⟩ := q1
  subst e
  obtain ⟨u, rfl, t, rfl⟩ := vals1 r1
  refine call_range_1 ?_
  refine Calls.spliced_nil ?_
  have I2 : Inv X pins σ H1 { s1 with heap := s1.heap.push { cls := .type "range", data := .fields #[.int 0 s1.toks, .int n t, .int 1 (s1.toks + 1)] }, toks := s1.toks + 1 + 1 } := I1.kept fun b o e => Heap.get?_push_of_some _ e
  refine call_list_range (n := n) (I2.ok.hd hc) (IsRange.new ..) (small_one (by omega) (by omega) (by omega) (by omega)) (by rw [rangeSize_one]; split <;> omega) (by omega) fun h' tk acc' c' hk hS hacc => ?_
  have hfr : H1 (s1.heap.push { cls := .type "range", data := .fields #[.int 0 s1.toks, .int n t, .int 1 (s1.toks + 1)] }).objs.size = none := I2.hok.fresh (Nat.le_refl _)
  refine ⟨.ref _, _, I2.laid (t' := tk) (o := .lst ((List.range n).map fun (i : Nat) => V.int (i : Int))) hk (Nat.le_refl _) ⟨by simp; exact small_le hn, acc'.toList, c', vals_of_items (by rw [Array.length_toList]; exact hacc.1) (fun j v hj => ?_), by rw [Array.toArray_toList]; exact hS⟩, rfl, q _ hfr⟩
  obtain ⟨t', e'⟩ := hacc.2 j v (by rw [← Array.getElem?_toList]; exact hj)
  exact ⟨t', by rw [e']; simp⟩
/-! ### list.count, list.index of whole numbers -/
theorem eqU_int {k i : Int} {t : Tok} : eqU (.int k) (.int i t) = (i == k) := by
  show eqV (.int i) (.int k) = _
  simp [eqV]
theorem count_eqU {k : Int} : ∀ {ns : List Int} {us : List Value}, Vals (ns.map V.int) us → us.countP (eqU (.int k)) = ns.count k
  | [], _, .nil => rfl
  | n :: ns, _, .cons r t => by
    obtain ⟨tk, rfl⟩ := r
    rw [List.countP_cons, count_eqU t, List.count_cons, eqU_int]
def rCount (K : PySem.W.Frag) : V → List V → Hp → VK → Prop := fun x vs H Q => ∃ (l : Addr) (ns : List Int) (k : Int), x = .ref l ∧ vs = [.int k] ∧ H l = some (.lst (ns.map V.int)) ∧ Q (.int (ns.count k : Nat)) H
theorem mt_count : MtM X "list.count" (rCount X.K) := by
  intro pins s σ H x vs v us Q I rx rv h
  obtain ⟨l, ns, k, rfl, rfl, hH, q⟩ := h
  cases rx
  obtain ⟨u, rfl, ru⟩ := rv.one
  obtain ⟨z, its, n, r, hl, e⟩ := I.lstM hH
  refine call_meets F.slot_list_count ⟨_, e, rfl⟩ F.entry_list_count (F.args_list_count_2 _ _) (SeqAt.list_countAt l its.toArray n none #[] u (eqU (.int k))) ⟨e, fun y hy => mem_eqAt ru rfl r (flat_ints ns) y (by simpa using hy), ?_⟩
  rw [show its.toArray.toList = its from rfl, count_eqU r]
  exact ⟨.int _, H, I.tok _, ⟨_, rfl⟩, q⟩
/-! ### o[i] += v -/
end
end L2

set_option Elab.async false
set_option linter.all false
namespace L2
open PySem PySem.Spec PyProof.Rows
end L2

/-! Determinants of whole-number matrices, as functions of two numbers: linear in each row, nought where two rows are alike. -/
namespace Mx
def sum : Nat → (Nat → Int) → Int
  | 0, _ => 0
  | n + 1, f => sum n f + f n
theorem sum_congr {n : Nat} {f g : Nat → Int} (h : ∀ i, i < n → f i = g i) : sum n f = sum n g := by
  induction n with
  | zero => rfl
  | succ n ih =>
    show sum n f + f n = sum n g + g n
    rw [ih fun i hi => h i (by omega), h n (by omega)]
theorem sum_lin (c d : Int) (n : Nat) (f g : Nat → Int) : sum n (fun i => c * f i + d * g i) = c * sum n f + d * sum n g := by
  induction n with
  | zero => simp [sum]
  | succ n ih =>
    show sum n _ + (c * f n + d * g n) = c * (sum n f + f n) + d * (sum n g + g n)
    rw [ih, Int.mul_add, Int.mul_add]
    omega
theorem sum_zero {n : Nat} {f : Nat → Int} (h : ∀ i, i < n → f i = 0) : sum n f = 0 := by
  induction n with
  | zero => rfl
  | succ n ih =>
    show sum n f + f n = 0
    rw [ih fun i hi => h i (by omega), h n (by omega)]
    rfl
theorem sum_one {n k : Nat} {f : Nat → Int} (hk : k < n) (h : ∀ i, i < n → i ≠ k → f i = 0) : sum n f = f k := by
  induction n with
  | zero => omega
  | succ n ih =>
    show sum n f + f n = f k
    by_cases e : k = n
    · subst e
      rw [sum_zero fun i hi => h i (by omega) (by omega)]
      omega
    · rw [ih (by omega) fun i hi => h i (by omega), h n (by omega) (by omega)]
      omega
theorem sum_two {n k : Nat} {f : Nat → Int} (hk : k + 1 < n) (h : ∀ i, i < n → i ≠ k → i ≠ k + 1 → f i = 0) : sum n f = f k + f (k + 1) := by
  induction n with
  | zero => omega
  | succ n ih =>
    show sum n f + f n = _
    by_cases e : k + 1 = n
    · subst e
      rw [sum_one (k := k) (by omega) fun i hi hne => h i (by omega) hne (by omega)]
    · rw [ih (by omega) fun i hi => h i (by omega), h n (by omega) (by omega) (by omega)]
      omega
abbrev Mat := Nat → Nat → Int
def sg (i : Nat) : Int := if i % 2 = 0 then 1 else -1
def skip (i a : Nat) : Nat := if a < i then a else a + 1
def back (i k : Nat) : Nat := if k < i then k else k - 1
def minor (i : Nat) (A : Mat) : Mat := fun a b => A (skip i a) (b + 1)
def det : Nat → Mat → Int
  | 0, _ => 1
  | n + 1, A => sum (n + 1) fun i => sg i * A i 0 * det n (minor i A)
def setR (A : Mat) (k : Nat) (r : Nat → Int) : Mat := fun i j => if i = k then r j else A i j
theorem sg_succ (i : Nat) : sg (i + 1) = - sg i := by
  unfold sg
  split <;> split <;> omega
theorem skip_lt {n i a : Nat} (ha : a < n) : skip i a < n + 1 := by
  unfold skip
  split <;> omega
theorem det_congr : ∀ {n : Nat} {A B : Mat}, (∀ i j, i < n → j < n → A i j = B i j) → det n A = det n B
  | 0, _, _, _ => rfl
  | n + 1, A, B, h => by
    refine sum_congr fun i hi => ?_
    rw [h i 0 hi (by omega), det_congr (A := minor i A) (B := minor i B) fun a b ha hb => h _ _ (skip_lt ha) (by omega)]
theorem minor_same (A : Mat) (k : Nat) (r : Nat → Int) : minor k (setR A k r) = minor k A := by
  funext a b
  have : skip k a ≠ k := by unfold skip; split <;> omega
  simp [minor, setR, this]
theorem minor_ne (A : Mat) {i k : Nat} (h : i ≠ k) (r : Nat → Int) : minor i (setR A k r) = setR (minor i A) (back i k) fun b => r (b + 1) := by
  funext a b
  have : skip i a = k ↔ a = back i k := by unfold skip back; split <;> split <;> omega
  simp [minor, setR, this]
theorem back_lt {n i k : Nat} (h : i ≠ k) (hi : i < n + 1) (hk : k < n + 1) : back i k < n := by
  unfold back
  split <;> omega
theorem skip_back {i k : Nat} (h : i ≠ k) : skip i (back i k) = k := by
  unfold skip back
  by_cases h1 : k < i
  · simp [h1]
  · rw [if_neg h1, if_neg (by omega)]
    omega
/-- linear in each row -/
theorem det_lin : ∀ {n k : Nat} (A : Mat) (c d : Int) (r s : Nat → Int), k < n → det n (setR A k fun j => c * r j + d * s j) = c * det n (setR A k r) + d * det n (setR A k s)
  | 0, _, _, _, _, _, _, h => absurd h (by omega)
  | n + 1, k, A, c, d, r, s, h => by
    show sum (n + 1) _ = c * sum (n + 1) _ + d * sum (n + 1) _
    rw [← sum_lin]
    refine sum_congr fun i hi => ?_
    by_cases e : i = k
    · subst e
      rw [minor_same, minor_same, minor_same]
      simp only [setR, if_true]
      rw [Int.mul_add, Int.add_mul]
      congr 1
      · simp only [Int.mul_assoc, Int.mul_left_comm, Int.mul_comm]
      · simp only [Int.mul_assoc, Int.mul_left_comm, Int.mul_comm]
    · rw [minor_ne A e, minor_ne A e, minor_ne A e, det_lin _ c d _ _ (back_lt e hi h)]
      have e1 : ∀ v : Nat → Int, setR A k v i 0 = A i 0 := fun v => by simp [setR, e]
      rw [e1, e1, e1, Int.mul_add]
      congr 1 <;> simp only [Int.mul_assoc, Int.mul_left_comm, Int.mul_comm]
theorem setR_self (A : Mat) (k : Nat) : setR A k (A k) = A := by
  funext i j
  simp only [setR]
  split
  · rename_i e; rw [e]
  · rfl
theorem setR_set (A : Mat) (k : Nat) (r s : Nat → Int) : setR (setR A k r) k s = setR A k s := by
  funext i j
  simp only [setR]
  split <;> simp_all
theorem setR_comm (A : Mat) {k l : Nat} (h : k ≠ l) (r s : Nat → Int) : setR (setR A k r) l s = setR (setR A l s) k r := by
  funext i j
  simp only [setR]
  split <;> split <;> simp_all
theorem setR_at (A : Mat) (k : Nat) (r : Nat → Int) : setR A k r k = r := by
  funext j
  simp [setR]
theorem setR_off (A : Mat) {k l : Nat} (h : l ≠ k) (r : Nat → Int) : setR A k r l = A l := by
  funext j
  simp [setR, h]
/-- two rows beside each other alike: nought -/
theorem det_adj : ∀ {n k : Nat} {A : Mat}, k + 1 < n → A k = A (k + 1) → det n A = 0
  | 0, _, _, h, _ => absurd h (by omega)
  | n + 1, k, A, h, e => by
    show sum (n + 1) _ = 0
    rw [sum_two h]
    · have em : minor k A = minor (k + 1) A := by
        funext a b
        simp only [minor]
        by_cases ha : a = k
        · subst ha
          have e1 : skip a a = a + 1 := by simp [skip]
          have e2 : skip (a + 1) a = a := by simp [skip]
          rw [e1, e2, e]
        · have : skip k a = skip (k + 1) a := by unfold skip; split <;> split <;> omega
          rw [this]
      rw [em, sg_succ, e, Int.neg_mul, Int.neg_mul]
      omega
    · intro i hi h1 h2
      have hb : back i (k + 1) = back i k + 1 := by unfold back; split <;> split <;> omega
      have hz : det n (minor i A) = 0 := det_adj (k := back i k) (by rw [← hb]; exact back_lt (by omega) hi h) (by
        funext b
        have s1 : skip i (back i k) = k := skip_back h1
        have s2 : skip i (back i k + 1) = k + 1 := by rw [← hb]; exact skip_back h2
        simp only [minor]
        rw [s1, s2, e])
      rw [hz, Int.mul_zero]
theorem det_add {n k : Nat} (A : Mat) (r s : Nat → Int) (h : k < n) : det n (setR A k fun j => r j + s j) = det n (setR A k r) + det n (setR A k s) := by
  have := det_lin A 1 1 r s h
  simpa using this
/-- two rows beside each other changed: the other sign -/
theorem det_swap_adj {n k : Nat} (A : Mat) (u v : Nat → Int) (h : k + 1 < n) : det n (setR (setR A k u) (k + 1) v) = - det n (setR (setR A k v) (k + 1) u) := by
  have hk : k < n := by omega
  have ne : k ≠ k + 1 := by omega
  have z : ∀ w : Nat → Int, det n (setR (setR A k w) (k + 1) w) = 0 := fun w => det_adj h (by rw [setR_at, setR_off _ (by omega), setR_at])
  have a1 := z fun j => u j + v j
  rw [det_add _ _ _ h, setR_comm A ne, det_add _ _ _ hk, setR_comm A ne, det_add _ _ _ hk, ← setR_comm A ne, ← setR_comm A ne, ← setR_comm A ne, ← setR_comm A ne, z u, z v] at a1
  omega
/-- any two rows alike: nought -/
theorem det_same : ∀ (d : Nat) {n k : Nat} {A : Mat}, k + d + 1 < n → A k = A (k + d + 1) → det n A = 0
  | 0, _, _, _, h, e => det_adj h e
  | d + 1, n, k, A, h, e => by
    -- change the last with the one ahead of it
    have h1 := det_swap_adj A (A (k + d + 1)) (A (k + d + 1 + 1)) (k := k + d + 1) h
    rw [setR_self, setR_self] at h1
    rw [h1, det_same d (k := k) (by omega)]
    · rfl
    · rw [setR_off _ (by omega), setR_off _ (by omega), setR_off _ (by omega), setR_at, e]
      rfl
theorem det_alike {n k l : Nat} {A : Mat} (hk : k < n) (hl : l < n) (ne : k ≠ l) (e : A k = A l) : det n A = 0 := by
  by_cases h : k < l
  · obtain ⟨d, rfl⟩ : ∃ d, l = k + d + 1 := ⟨l - k - 1, by omega⟩
    exact det_same d hl e
  · obtain ⟨d, rfl⟩ : ∃ d, k = l + d + 1 := ⟨k - l - 1, by omega⟩
    exact det_same d hk e.symm
/-- a row's many times put to another one -/
theorem det_rowop {n k l : Nat} (A : Mat) (c : Int) (hk : k < n) (hl : l < n) (ne : l ≠ k) : det n (setR A k fun j => A k j + c * A l j) = det n A := by
  have h := det_lin A 1 c (A k) (A l) hk
  rw [setR_self] at h
  have z : det n (setR A k (A l)) = 0 := det_alike hk hl (fun e => ne e.symm) (by rw [setR_at, setR_off _ ne])
  rw [z] at h
  simpa using h
theorem det_nil {n k : Nat} {A : Mat} (hk : k < n) (h : ∀ j, A k j = 0) : det n A = 0 := by
  have e := det_lin A 0 0 (A k) (A k) hk
  have : setR A k (fun j => 0 * A k j + 0 * A k j) = A := by
    conv => rhs; rw [← setR_self A k]
    congr 1
    funext j
    simp [h j]
  rw [this] at e
  simpa using e
def one : Mat := fun i j => if i = j then 1 else 0
end Mx

/-! A row for each place, an exit chosen at each place but one: the determinant is one where all lead there, else nought; and so a determinant counts the trees. -/
namespace Mx
def iter (f : Nat → Nat) : Nat → Nat → Nat
  | 0, i => i
  | k + 1, i => iter f k (f i)
theorem iter_succ (f : Nat → Nat) : ∀ k i, iter f (k + 1) i = f (iter f k i)
  | 0, _ => rfl
  | k + 1, i => iter_succ f k (f i)
theorem iter_add (f : Nat → Nat) (a : Nat) : ∀ b i, iter f (a + b) i = iter f a (iter f b i)
  | 0, _ => rfl
  | b + 1, i => iter_add f a b (f i)
theorem iter_lt {f : Nat → Nat} {n : Nat} (h : ∀ i, i < n → f i < n) : ∀ k i, i < n → iter f k i < n
  | 0, _, hi => hi
  | k + 1, i, hi => iter_lt h k (f i) (h i hi)
/-- n + 1 numbers below n: two alike -/
theorem two_alike : ∀ (n : Nat) (g : Nat → Nat), (∀ t, t ≤ n → g t < n) → ∃ a b, a < b ∧ b ≤ n ∧ g a = g b
  | 0, g, h => absurd (h 0 (Nat.le_refl _)) (by omega)
  | n + 1, g, h => by
    by_cases e : ∃ a, a < n + 1 ∧ g a = g (n + 1)
    · obtain ⟨a, ha, ea⟩ := e
      exact ⟨a, n + 1, ha, Nat.le_refl _, ea⟩
    · -- put n in the place of the last one's value
      have hne : ∀ a, a < n + 1 → g a ≠ g (n + 1) := fun a ha ea => e ⟨a, ha, ea⟩
      obtain ⟨a, b, h1, h2, h3⟩ := two_alike n (fun t => if g t = n then g (n + 1) else g t) fun t ht => by
        have q1 := h t (by omega)
        have q2 := h (n + 1) (by omega)
        have q3 := hne t (by omega)
        show (if g t = n then g (n + 1) else g t) < n
        split <;> omega
      refine ⟨a, b, h1, by omega, ?_⟩
      have q1 := hne a (by omega)
      have q2 := hne b (by omega)
      have h3' : (if g a = n then g (n + 1) else g a) = (if g b = n then g (n + 1) else g b) := h3
      split at h3' <;> split at h3' <;> omega
/-- the rows of a choice -/
def fun1 (r : Nat) (f : Nat → Nat) : Mat := fun i j => if i = r then one r j else one i j - one (f i) j
theorem fun1_turn {n r c : Nat} {f : Nat → Nat} (hf : ∀ i, i < n → f i < n) (hc : c < n) (hr : ∀ k, iter f k c ≠ r) : ∀ k, (∀ t, 0 < t → t ≤ k → iter f t c ≠ c) → det n (setR (fun1 r f) c fun j => one c j - one (iter f (k + 1) c) j) = det n (fun1 r f)
  | 0, _ => by
    congr 1
    conv => rhs; rw [← setR_self (fun1 r f) c]
    congr 1
    funext j
    have : c ≠ r := hr 0
    simp [fun1, this, iter]
  | k + 1, h => by
    have ih := fun1_turn hf hc hr k fun t h0 h1 => h t h0 (by omega)
    rw [← ih]
    have hne := h (k + 1) (by omega) (Nat.le_refl _)
    have hrn := hr (k + 1)
    rw [← det_rowop (setR (fun1 r f) c fun j => one c j - one (iter f (k + 1) c) j) 1 hc (iter_lt hf (k + 1) c hc) hne]
    rw [setR_set, setR_at, setR_off _ hne]
    congr 2
    funext j
    rw [iter_succ f (k + 1) c]
    simp only [fun1, if_neg hrn]
    omega
/-- one that never comes there: nought -/
theorem fun1_not {n r i : Nat} {f : Nat → Nat} (hf : ∀ i, i < n → f i < n) (hi : i < n) (hr : ∀ k, iter f k i ≠ r) : det n (fun1 r f) = 0 := by
  obtain ⟨a, b, hab, _, e⟩ := two_alike n (fun t => iter f t i) fun t _ => iter_lt hf t i hi
  have hc := iter_lt hf a i hi
  have hb : iter f (b - a) (iter f a i) = iter f a i := by
    rw [← iter_add, Nat.sub_add_cancel (by omega)]
    exact e.symm
  have hr' : ∀ k, iter f k (iter f a i) ≠ r := fun k => by rw [← iter_add]; exact hr _
  generalize iter f a i = c at *
  have least : ∀ m, (∃ t, t ≤ m ∧ 0 < t ∧ iter f t c = c) → ∃ k, iter f (k + 1) c = c ∧ ∀ t, 0 < t → t ≤ k → iter f t c ≠ c := by
    intro m
    induction m with
    | zero => rintro ⟨t, h1, h2, _⟩; omega
    | succ m ih =>
      rintro ⟨t, h1, h2, h3⟩
      by_cases hm : ∃ t, t ≤ m ∧ 0 < t ∧ iter f t c = c
      · exact ih hm
      · have ht : t = m + 1 := Classical.byContradiction fun z => hm ⟨t, by omega, h2, h3⟩
        subst ht
        exact ⟨m, h3, fun u u0 u1 ue => hm ⟨u, u1, u0, ue⟩⟩
  obtain ⟨k, h1, h2⟩ := least (b - a) ⟨b - a, Nat.le_refl _, by omega, hb⟩
  rw [← fun1_turn hf hc hr' k h2, h1]
  refine det_nil hc fun j => ?_
  rw [setR_at]
  omega
/-- sums over lists -/
def lsum : List Int → Int
  | [] => 0
  | x :: xs => x + lsum xs
def rowOf (xs : List Nat) (en : Nat → Nat) (p : Nat) : Nat → Int := fun j => lsum (xs.map fun x => one p j - one (en x) j)
theorem det_rows {n k : Nat} (A : Mat) (en : Nat → Nat) (p : Nat) (hk : k < n) : ∀ xs : List Nat, det n (setR A k (rowOf xs en p)) = lsum (xs.map fun x => det n (setR A k fun j => one p j - one (en x) j))
  | [] => det_nil hk fun j => by rw [setR_at]; rfl
  | x :: xs => by
    have h := det_add A (fun j => one p j - one (en x) j) (rowOf xs en p) hk
    rw [det_rows A en p hk xs] at h
    exact h
/-- the places below k by a choice, the others by all their exits -/
def pre (r k : Nat) (ex : Nat → List Nat) (en g : Nat → Nat) : Mat := fun i => if i = r then one r else if i < k then fun j => one i j - one (en (g i)) j else rowOf (ex i) en i
def put (g : Nat → Nat) (k x : Nat) : Nat → Nat := fun i => if i = k then x else g i
theorem pre_step {n r k : Nat} {ex : Nat → List Nat} {en g : Nat → Nat} (hk : k < n) (hr : k ≠ r) : det n (pre r k ex en g) = lsum ((ex k).map fun x => det n (pre r (k + 1) ex en (put g k x))) := by
  have e0 : pre r k ex en g = setR (pre r k ex en g) k (rowOf (ex k) en k) := by
    conv => lhs; rw [← setR_self (pre r k ex en g) k]
    congr 1
    simp [pre, hr]
  rw [e0, det_rows _ en k hk]
  congr 1
  refine List.map_congr_left fun x _ => ?_
  congr 1
  funext i j
  simp only [setR, pre, put]
  by_cases e : i = k
  · subst e
    simp [hr]
  · by_cases h1 : i = r
    · subst h1
      simp [e]
    · by_cases h2 : i < k
      · simp [e, h1, h2, show i < k + 1 by omega]
      · simp [e, h1, h2, show ¬ i < k + 1 by omega]
/-- where a choice leads -/
def leads (n r : Nat) (en g : Nat → Nat) : Prop := ∀ i, i < n → ∃ k, iter (fun i => if i = r then r else en (g i)) k i = r
open Classical in
/-- how many choices from place k on lead there -/
noncomputable def many (n r : Nat) (ex : Nat → List Nat) (en : Nat → Nat) : Nat → Nat → (Nat → Nat) → Int
  | 0, _, g => if leads n r en g then 1 else 0
  | m + 1, k, g => if k = r then many n r ex en m (k + 1) g else lsum ((ex k).map fun x => many n r ex en m (k + 1) (put g k x))
end Mx

/-! A net from each of whose places as many roads go as lead to it has as many trees into each place. -/
namespace Mx
theorem det_swap {n k l : Nat} (A : Mat) (u v : Nat → Int) (hk : k < n) (hl : l < n) (ne : k ≠ l) : det n (setR (setR A k u) l v) = - det n (setR (setR A k v) l u) := by
  have z : ∀ w : Nat → Int, det n (setR (setR A k w) l w) = 0 := fun w => det_alike hk hl ne (by rw [setR_at, setR_off _ ne, setR_at])
  have a1 := z fun j => u j + v j
  rw [det_add _ _ _ hl, setR_comm A ne, det_add _ _ _ hk, setR_comm A ne, det_add _ _ _ hk, ← setR_comm A ne, ← setR_comm A ne, ← setR_comm A ne, ← setR_comm A ne, z u, z v] at a1
  omega
theorem det_addsum {n k l : Nat} (A : Mat) (v : Nat → Int) (hk : k < n) : ∀ m, m ≤ n → det n (setR A k fun j => v j + sum m fun p => if p = k ∨ p = l then 0 else A p j) = det n (setR A k v)
  | 0, _ => by
    congr 2
    funext j
    show v j + 0 = v j
    omega
  | m + 1, h => by
    by_cases e : m = k ∨ m = l
    · rw [← det_addsum A v hk m (by omega)]
      congr 2
      funext j
      show v j + (sum m _ + (if m = k ∨ m = l then 0 else A m j)) = _
      rw [if_pos e, Int.add_zero]
    · have h1 := det_add A (fun j => v j + sum m fun p => if p = k ∨ p = l then 0 else A p j) (A m) hk
      have z : det n (setR A k (A m)) = 0 := det_alike hk (show m < n by omega) (fun z => e (.inl z.symm)) (by rw [setR_at, setR_off _ fun z => e (.inl z)])
      rw [z, Int.add_zero, det_addsum A v hk m (by omega)] at h1
      rw [← h1]
      congr 2
      funext j
      show v j + (sum m _ + (if m = k ∨ m = l then 0 else A m j)) = _
      rw [if_neg e]
      omega
theorem sum_drop {n k : Nat} {f : Nat → Int} (hk : k < n) : sum n f = f k + sum n fun p => if p = k then 0 else f p := by
  induction n with
  | zero => omega
  | succ n ih =>
    show sum n f + f n = f k + (sum n _ + (if n = k then 0 else f n))
    by_cases e : n = k
    · subst e
      rw [if_pos rfl, sum_congr (g := fun p => if p = n then 0 else f p) fun i hi => by
        show f i = if i = n then 0 else f i
        rw [if_neg (by omega)]]
      omega
    · rw [if_neg e, ih (by omega)]
      omega
theorem rowOf_id (xs : List Nat) (en : Nat → Nat) (p : Nat) : rowOf (xs.map en) id p = rowOf xs en p := by
  funext j
  unfold rowOf
  rw [List.map_map]
  rfl
/-- no place is left out: nought -/
theorem no_root {n : Nat} {ex : Nat → List Nat} {en : Nat → Nat} (hx : ∀ i x, i < n → x ∈ ex i → en x < n) : ∀ (m k : Nat) (g : Nat → Nat), k + m = n → (∀ i, i < k → en (g i) < n) → 0 < n → det n (pre n k ex en g) = 0
  | 0, k, g, e, hg, h0 => by
    have e' : k = n := by omega
    subst e'
    have e2 : det k (pre k k ex en g) = det k (fun1 k fun i => en (g i)) := by
      refine det_congr fun i j hi hj => ?_
      simp only [pre, fun1]
      rw [if_neg (by omega), if_pos hi, if_neg (by omega)]
    rw [e2]
    exact fun1_not (i := 0) hg h0 fun t ht => by
      have := iter_lt hg t 0 h0
      omega
  | m + 1, k, g, e, hg, h0 => by
    rw [pre_step (by omega) (by omega)]
    have z : (ex k).map (fun x => det n (pre n (k + 1) ex en (put g k x))) = (ex k).map fun _ => (0 : Int) := by
      refine List.map_congr_left fun x hx' => no_root hx m (k + 1) (put g k x) (by omega) (fun i hi => ?_) h0
      simp only [put]
      split
      · exact hx k x (by omega) hx'
      · exact hg i (by omega)
    rw [z]
    generalize ex k = l
    induction l with
    | nil => rfl
    | cons a l ih =>
      show (0 : Int) + lsum _ = 0
      rw [ih]
      rfl
theorem trees_alike {n r r' : Nat} {ex : Nat → List Nat} {en : Nat → Nat} (hr : r < n) (hr' : r' < n) (hx : ∀ i x, i < n → x ∈ ex i → en x < n) (hb : ∀ j, j < n → sum n (fun p => rowOf (ex p) en p j) = 0) (g : Nat → Nat) : det n (pre r 0 ex en g) = det n (pre r' 0 ex en g) := by
  by_cases ne : r = r'
  · rw [ne]
  have R0 : ∀ i, pre n 0 ex en g i = if i = n then one n else rowOf (ex i) en i := fun i => by simp [pre]
  -- all rows as they are
  let L : Mat := fun i => rowOf (ex i) en i
  have eA : ∀ q, pre q 0 ex en g = setR L q (one q) := fun q => by
    funext i j
    simp only [pre, setR, L]
    split
    · rfl
    · simp
  rw [eA, eA]
  have s1 : setR L r (one r) = setR (setR L r (one r)) r' (rowOf (ex r') en r') := by
    conv => lhs; rw [← setR_self (setR L r (one r)) r']
    rw [setR_off _ fun z => ne z.symm]
  have h1 := det_addsum (l := r) (setR L r (one r)) (rowOf (ex r') en r') hr' n (Nat.le_refl _)
  rw [s1, ← h1]
  have h2 : det n (setR (setR L r (one r)) r' fun j => rowOf (ex r') en r' j + sum n fun p => if p = r' ∨ p = r then 0 else setR L r (one r) p j) = det n (setR (setR L r (one r)) r' fun j => -1 * rowOf (ex r) en r j + 0 * rowOf (ex r) en r j) := by
    refine det_congr fun i j hi hj => ?_
    simp only [setR]
    split
    · have c := hb j hj
      rw [sum_drop hr', sum_drop hr] at c
      have e3 : (sum n fun p => if p = r' ∨ p = r then (0 : Int) else if p = r then one r j else L p j) = sum n fun p => if p = r then 0 else if p = r' then 0 else rowOf (ex p) en p j := by
        refine sum_congr fun p hp => ?_
        by_cases a : p = r' <;> by_cases b : p = r <;> simp [a, b, L]
      rw [e3]
      have : (if r = r' then (0 : Int) else rowOf (ex r) en r j) = rowOf (ex r) en r j := if_neg ne
      rw [this] at c
      omega
    · rfl
  rw [h2, det_lin _ _ _ _ _ hr', det_swap L _ _ hr hr' ne]
  have e4 : setR L r (rowOf (ex r) en r) = L := setR_self L r
  rw [e4]
  -- the row of r in the place of the row of r': as that of r' itself
  have h5 := det_lin L 1 (-1) (one r') (one r) hr'
  have h6 : det n (setR L r' fun j => 1 * one r' j + -1 * one r j) = 0 := by
    have hz := no_root (n := n) (ex := fun p => if p = r' then [r] else (ex p).map en) (en := id) (fun i x hi hx' => by
      by_cases e : i = r'
      · rw [if_pos e] at hx'
        have : x = r := by simpa using hx'
        subst this
        exact hr
      · rw [if_neg e] at hx'
        obtain ⟨y, hy, rfl⟩ := List.mem_map.mp hx'
        exact hx i y hi hy) n 0 g (by omega) (fun i hi => absurd hi (by omega)) (by omega)
    rw [← hz]
    refine det_congr fun i j hi hj => ?_
    simp only [setR, pre]
    rw [if_neg (show ¬ i = n by omega), if_neg (show ¬ i < 0 by omega)]
    by_cases e : i = r'
    · subst e
      rw [if_pos rfl, if_pos rfl]
      simp only [rowOf, List.map_cons, List.map_nil, lsum, id]
      omega
    · rw [if_neg e, if_neg e, rowOf_id]
  omega
end Mx

/-! A row with a single one: the determinant without that row and column. -/
namespace Mx
end Mx

/-! Numbering by counts: the i-th of a row of rows. -/
namespace Mx
def ahead {α : Type} (c : α → Nat) : List α → Nat
  | [] => 0
  | x :: xs => c x + ahead c xs
/-- all ends of a row of choices, in their order -/
def ends {α : Type} (next : α → List α) (leaf : α → Bool) : Nat → α → List α
  | 0, s => if leaf s then [s] else []
  | m + 1, s => (next s).flatMap (ends next leaf m)
end Mx

/-! Cofactors: a determinant's transposition, Cramer's rule, two rows changed at once; bounds. -/
namespace Mx
def tr (A : Mat) : Mat := fun i j => A j i
end Mx

/-! The tally: a row for each place, the roads that it has; what a change of a row does; how many choices lead out. -/
namespace Mx
def Rows (en : Nat → Nat) (gv : Nat → List Nat) : Mat := fun i => rowOf (gv i) en i
end Mx

/-! Trees in their order: the choices that lead out, by the first place that is still open. -/
namespace Mx
/-! ### the order -/
end Mx

/-! Trees by the roads' list: in any order, and with the places numbered from the last one on. -/
namespace Mx
/-- the ends of the roads from a place -/
def endsOf (ps : List (Nat × Nat)) (i : Nat) : List Nat := (ps.filter fun q => q.1 == i).map (·.2)
def treeM (ps : List (Nat × Nat)) (r : Nat) : Mat := fun i => if i = r then one r else rowOf (endsOf ps i) id i
/-- as many roads from each place as to it -/
def even (n : Nat) (ps : List (Nat × Nat)) : Prop := ∀ p, p < n → ps.countP (fun q => q.1 == p) = ps.countP (fun q => q.2 == p)
theorem row_count (ps : List (Nat × Nat)) (n : Nat) (h : ∀ q ∈ ps, q.1 < n) (j : Nat) (hj : j < n) : (sum n fun p => rowOf (endsOf ps p) id p j) = (ps.countP (fun q => q.1 == j) : Int) - (ps.countP (fun q => q.2 == j) : Int) := by
  induction ps with
  | nil =>
    have : (sum n fun p => rowOf (endsOf [] p) id p j) = 0 := sum_zero fun i _ => rfl
    rw [this]
    rfl
  | cons q ps ih =>
    have ih := ih fun x hx => h x (List.mem_cons_of_mem _ hx)
    have hq := h q List.mem_cons_self
    have e : (sum n fun p => rowOf (endsOf (q :: ps) p) id p j) = sum n fun p => 1 * rowOf (endsOf ps p) id p j + 1 * (if p = q.1 then one p j - one q.2 j else 0) := sum_congr fun p _ => by
      unfold endsOf
      rw [List.filter_cons]
      by_cases e : q.1 = p
      · subst e
        simp only [beq_self_eq_true, if_true, List.map_cons, Int.one_mul]
        show (one q.1 j - one q.2 j) + _ = _
        unfold rowOf
        simp only [id]
        omega
      · have e' : (q.1 == p) = false := by simpa using e
        rw [e', if_neg (by simp), if_neg (fun z => e z.symm)]
        simp
    rw [e, sum_lin, ih, sum_one hq fun i _ hne => by rw [if_neg hne], if_pos rfl, List.countP_cons, List.countP_cons]
    unfold one
    by_cases h1 : q.1 = j <;> by_cases h2 : q.2 = j <;> simp [h1, h2] <;> omega
theorem trees_even {n r r' : Nat} {ps : List (Nat × Nat)} (hr : r < n) (hr' : r' < n) (h : ∀ q ∈ ps, q.1 < n ∧ q.2 < n) (he : even n ps) : det n (treeM ps r) = det n (treeM ps r') := by
  have hx : ∀ i x, i < n → x ∈ endsOf ps i → id x < n := fun i x _ hx => by
    obtain ⟨q, hq, rfl⟩ := List.mem_map.mp hx
    exact (h q (List.mem_filter.mp hq).1).2
  have := trees_alike (ex := endsOf ps) (en := id) hr hr' hx (fun j hj => by rw [row_count ps n (fun q hq => (h q hq).1) j hj, he j hj]; omega) fun _ => 0
  have e : ∀ r, pre r 0 (endsOf ps) id (fun _ => 0) = treeM ps r := fun r => by
    funext i
    simp [pre, treeM]
  rw [e, e] at this
  exact this
end Mx

/-! Walking a tree in few steps; trees into a place and choices that lead out. -/
namespace Mx
end Mx

/-! Trees by one road more; places with one exit each. -/
namespace Mx
end Mx

/-! Which places can be come to: passes over all roads, and a list that grows. -/
namespace Mx
inductive Reach (st en : Nat → Nat) (m s : Nat) : Nat → Prop
  | base : Reach st en m s s
  | step {j : Nat} : j < m → Reach st en m s (st j) → Reach st en m s (en j)
theorem reach_iff {st en : Nat → Nat} {m s : Nat} {S : Nat → Prop} (h0 : S s) (hc : ∀ j, j < m → S (st j) → S (en j)) (hs : ∀ p, S p → Reach st en m s p) (p : Nat) : S p ↔ Reach st en m s p := by
  refine ⟨hs p, fun h => ?_⟩
  induction h with
  | base => exact h0
  | step hj _ ih => exact hc _ hj ih
/-! ### passes -/
def trues (M : List Bool) : Nat := M.countP id
def mle (M N : List Bool) : Prop := M.length = N.length ∧ ∀ i : Nat, M[i]? = some true → N[i]? = some true
theorem mle_refl (M : List Bool) : mle M M := ⟨rfl, fun _ h => h⟩
theorem mle_trans {M N O : List Bool} (a : mle M N) (b : mle N O) : mle M O := ⟨a.1.trans b.1, fun i h => b.2 i (a.2 i h)⟩
theorem mle_trues : ∀ {M N : List Bool}, mle M N → trues M ≤ trues N ∧ (trues M = trues N → M = N)
  | [], [], _ => ⟨Nat.le_refl _, fun _ => rfl⟩
  | [], _ :: _, h => by have := h.1; simp at this
  | _ :: _, [], h => by have := h.1; simp at this
  | x :: M, y :: N, h => by
    obtain ⟨h1, h2⟩ := mle_trues (M := M) (N := N) ⟨by have := h.1; simpa using this, fun i hi => by simpa using h.2 (i + 1) (by simpa using hi)⟩
    have h3 : x = true → y = true := fun e => by
      have := h.2 0 (by simp [e])
      simpa using this
    unfold trues at *
    rw [List.countP_cons, List.countP_cons]
    cases x <;> cases y
    · exact ⟨by simpa using h1, fun e => by rw [h2 (by simpa using e)]⟩
    · refine ⟨by simp; omega, fun e => ?_⟩
      simp at e
      omega
    · exact absurd (h3 rfl) (by decide)
    · exact ⟨by simpa using h1, fun e => by rw [h2 (by simpa using e)]⟩
theorem trues_le (M : List Bool) : trues M ≤ M.length := List.countP_le_length
def iterL (f : List Bool → List Bool) : Nat → List Bool → List Bool
  | 0, M => M
  | t + 1, M => f (iterL f t M)
theorem iter_stable {f : List Bool → List Bool} (hm : ∀ M, mle M (f M)) (M : List Bool) : ∀ t, f (iterL f t M) = iterL f t M ∨ t < trues (iterL f t M) + 1
  | 0 => .inr (Nat.succ_pos _)
  | t + 1 => by
    rcases iter_stable hm M t with h | h
    · exact .inl (by show f (f (iterL f t M)) = f (iterL f t M); rw [h, h])
    · obtain ⟨a, b⟩ := mle_trues (hm (iterL f t M))
      by_cases e : trues (iterL f t M) = trues (f (iterL f t M))
      · have := b e
        exact .inl (by show f (f (iterL f t M)) = f (iterL f t M); rw [← this, ← this])
      · exact .inr (by show t + 1 < trues (f (iterL f t M)) + 1; omega)
theorem iterL_mle {f : List Bool → List Bool} (hm : ∀ M, mle M (f M)) (M : List Bool) : ∀ t, mle M (iterL f t M)
  | 0 => mle_refl M
  | t + 1 => mle_trans (iterL_mle hm M t) (hm _)
theorem iter_closed {f : List Bool → List Bool} (hm : ∀ M, mle M (f M)) (M : List Bool) : f (iterL f M.length M) = iterL f M.length M := by
  rcases iter_stable hm M M.length with h | h
  · exact h
  · have l := (iterL_mle hm M M.length).1
    have t1 := trues_le (iterL f M.length M)
    obtain ⟨a, b⟩ := mle_trues (hm (iterL f M.length M))
    have l2 := (hm (iterL f M.length M)).1
    have t2 := trues_le (f (iterL f M.length M))
    exact (b (by omega)).symm
/-- a pass over the roads -/
def mark (M : List Bool) (q : Nat × Nat) : List Bool := if M.getD q.1 false then M.set q.2 true else M
def pass (rs : List (Nat × Nat)) (M : List Bool) : List Bool := rs.foldl mark M
theorem mark_mle (M : List Bool) (q : Nat × Nat) : mle M (mark M q) := by
  unfold mark
  split
  · refine ⟨by simp, fun i h => ?_⟩
    rw [List.getElem?_set]
    split
    · rename_i e
      subst e
      obtain ⟨hl, _⟩ := List.getElem?_eq_some_iff.mp h
      simp [hl]
    · exact h
  · exact mle_refl M
theorem pass_mle : ∀ (rs : List (Nat × Nat)) (M : List Bool), mle M (pass rs M)
  | [], M => mle_refl M
  | q :: rs, M => mle_trans (mark_mle M q) (pass_mle rs (mark M q))
theorem getD_true {M : List Bool} {i : Nat} : M.getD i false = true ↔ M[i]? = some true := by
  rw [List.getD_eq_getElem?_getD]
  cases h : M[i]? with
  | none => simp
  | some b => simp
theorem pass_does : ∀ (rs : List (Nat × Nat)) (M : List Bool) (q : Nat × Nat), q ∈ rs → q.2 < M.length → M[q.1]? = some true → (pass rs M)[q.2]? = some true
  | [], _, _, h, _, _ => by cases h
  | r :: rs, M, q, h, hl, ht => by
    show (pass rs (mark M r))[q.2]? = some true
    rcases List.mem_cons.mp h with e | h
    · subst e
      refine (pass_mle rs _).2 _ ?_
      unfold mark
      rw [if_pos (getD_true.mpr ht), List.getElem?_set]
      simp [hl]
    · exact pass_does rs (mark M r) q h (by rw [← (mark_mle M r).1]; exact hl) ((mark_mle M r).2 _ ht)
theorem pass_sound {S : Nat → Prop} : ∀ (rs : List (Nat × Nat)) (M : List Bool), (∀ q ∈ rs, S q.1 → S q.2) → (∀ i, M[i]? = some true → S i) → ∀ i, (pass rs M)[i]? = some true → S i
  | [], _, _, h, i, hi => h i hi
  | q :: rs, M, hq, h, i, hi => by
    refine pass_sound rs (mark M q) (fun r hr => hq r (List.mem_cons_of_mem _ hr)) (fun j hj => ?_) i hi
    unfold mark at hj
    split at hj
    · rename_i ht
      rw [List.getElem?_set] at hj
      split at hj
      · rename_i e
        subst e
        exact hq q List.mem_cons_self (h _ (getD_true.mp ht))
      · exact h j hj
    · exact h j hj
theorem iter_sound {S : Nat → Prop} {rs : List (Nat × Nat)} (hq : ∀ q ∈ rs, S q.1 → S q.2) {M : List Bool} (h : ∀ i, M[i]? = some true → S i) : ∀ t i, (iterL (pass rs) t M)[i]? = some true → S i
  | 0, i, hi => h i hi
  | t + 1, i, hi => pass_sound rs _ hq (iter_sound hq h t) i hi
/-- as many passes as places: just what can be come to -/
theorem passes_reach {st en : Nat → Nat} {m n s : Nat} (hs : s < n) (he : ∀ j, j < m → en j < n) :
    ∀ p, (iterL (pass ((List.range m).map fun j => (st j, en j))) n ((List.range n).map fun p => decide (p = s)))[p]? = some true ↔ Reach st en m s p := by
  refine reach_iff ?_ (fun j hj h => ?_) (fun p hp => ?_)
  · refine (iterL_mle (pass_mle _) _ n).2 s ?_
    simp [hs]
  · have l0 : ((List.range n).map fun p => decide (p = s)).length = n := by simp
    have c := iter_closed (pass_mle ((List.range m).map fun j => (st j, en j))) ((List.range n).map fun p => decide (p = s))
    rw [l0] at c
    rw [← c]
    refine pass_does _ _ (st j, en j) (List.mem_map.mpr ⟨j, List.mem_range.mpr hj, rfl⟩) ?_ h
    rw [← (iterL_mle (pass_mle _) _ n).1, l0]
    exact he j hj
  · refine iter_sound (S := Reach st en m s) (fun q hq h => ?_) (fun i hi => ?_) n p hp
    · obtain ⟨j, hj, rfl⟩ := List.mem_map.mp hq
      exact .step (List.mem_range.mp hj) h
    · rw [List.getElem?_map] at hi
      cases e : (List.range n)[i]? with
      | none => rw [e] at hi; cases hi
      | some k =>
        rw [e] at hi
        have hi : decide (k = s) = true := by simpa using hi
        obtain ⟨h1, h2⟩ := List.getElem?_eq_some_iff.mp e
        have h2 : i = k := by simpa using h2
        have h3 : k = s := of_decide_eq_true hi
        rw [h2, h3]
        exact .base
/-! ### the row of all roads, rising, as a ring -/
theorem round_count {α : Type} [DecidableEq α] {ss es : List α} (h : es = ss.drop 1 ++ ss.take 1) (p : α) : ss.count p = es.count p := by
  rw [h, List.count_append, Nat.add_comm, ← List.count_append, List.take_append_drop]
theorem round_reach {st en : Nat → Nat} {m : Nat} (h : ∀ j, j + 1 < m → en j = st (j + 1)) : ∀ j, j < m → Reach st en m (st 0) (st j)
  | 0, _ => .base
  | j + 1, hj => by
    rw [← h j hj]
    exact .step (by omega) (round_reach h j (by omega))
end Mx

/-! Walks by orders of exits: where as many roads go from each place as lead to it, and the last exits lead to the start, all roads are gone over; and a ring is the walk by the orders in which it takes the exits. -/
namespace Mx
def flat (n : Nat) (rem : Nat → List Nat) : List Nat := (List.range n).flatMap rem
def putL (rem : Nat → List Nat) (p : Nat) (xs : List Nat) : Nat → List Nat := fun q => if q = p then xs else rem q
/-- what is left: at each place as many exits as roads that lead there, but the start and where one is -/
def key (n s p : Nat) (en : Nat → Nat) (rem : Nat → List Nat) : Prop := ∀ q, q < n → (rem q).length + (if q = s then 1 else 0) = (flat n rem).countP (fun x => en x == q) + (if q = p then 1 else 0)
def walk (en : Nat → Nat) : Nat → Nat → (Nat → List Nat) → List Nat
  | 0, _, _ => []
  | k + 1, p, rem => match rem p with
    | [] => []
    | x :: xs => x :: walk en k (en x) (putL rem p xs)
def path (st en : Nat → Nat) : Nat → List Nat → Nat → Prop
  | p, [], e => p = e
  | p, x :: W, e => st x = p ∧ path st en (en x) W e
/-- the last exits that a path takes lead to its end -/
inductive Comes (st en : Nat → Nat) (s : Nat) (W : List Nat) : Nat → Prop
  | here : Comes st en s W s
  | on {x : Nat} (W1 W2 : List Nat) : W = W1 ++ x :: W2 → (∀ y ∈ W2, st y ≠ st x) → Comes st en s W (en x) → Comes st en s W (st x)
theorem Comes.cons {st en : Nat → Nat} {s : Nat} {W : List Nat} {v : Nat} (z : Nat) (h : Comes st en s W v) : Comes st en s (z :: W) v := by
  induction h with
  | here => exact .here
  | on W1 W2 e hn _ ih => exact .on (z :: W1) W2 (by rw [e]; rfl) hn ih
end Mx

/-! Orders of a list, by a number. -/
namespace Mx
/-! ### numbers of several digits -/
end Mx

/-! Rings: a tree and an order of the other exits at each place; there and back. -/
namespace Mx
/-! ### digits -/
/-! ### nets by numbers -/
section
variable {n m : Nat} {st en : Nat → Nat}
end
end Mx

set_option Elab.async false
set_option linter.all false
set_option maxRecDepth 100000
set_option maxHeartbeats 4000000
/-! The tally on the heap. -/
namespace L2
open PySem PySem.Spec PyProof.Rows Mx
def rowV (n : Nat) (f : Nat → Int) : List V := (List.range n).map fun p => V.int (f p)
theorem rowV_congr {n : Nat} {f g : Nat → Int} (h : ∀ p, p < n → f p = g p) : rowV n f = rowV n g := List.map_congr_left fun p hp => by rw [h p (List.mem_range.mp hp)]
theorem nats_get {l : List Nat} {i : Nat} {z : V} (hz : (nats l)[i]? = some z) : ∃ y : Nat, l[i]? = some y ∧ z = .int ((y : Nat) : Int) := by
  unfold nats at hz
  rw [List.getElem?_map] at hz
  cases h : l[i]? with
  | none => rw [h] at hz; cases hz
  | some y => rw [h] at hz; exact ⟨y, rfl, (Option.some.inj hz).symm⟩
theorem nats_len (l : List Nat) : (nats l).length = l.length := by unfold nats; rw [List.length_map]
def tfl (L : Addr) (m : Int) : List (Str × V) := putF "stopped" (.ref L) (putF "many" (.int m) [])
/-- a Tally stands at x -/
structure TallyAt (C : Addr) (H : Hp) (x L : Addr) (rs : List Addr) (n : Nat) (m : Int) (R : Nat → Nat → Int) : Prop where
  ob : ∃ dx, H x = some (.ins C dx (tfl L m))
  ls : H L = some (.lst (rs.map V.ref))
  ln : rs.length = n
  rw : ∀ (s : Nat) (a : Addr), rs[s]? = some a → H a = some (.lst (rowV n (R s)))
theorem TallyAt.same {C : Addr} {H H' : Hp} {x L : Addr} {rs : List Addr} {n : Nat} {m : Int} {R : Nat → Nat → Int} (T : TallyAt C H x L rs n m R) (s : Same H H') : TallyAt C H' x L rs n m R :=
  ⟨let ⟨dx, e⟩ := T.ob; ⟨dx, s _ _ e⟩, s _ _ T.ls, T.ln, fun i a h => s _ _ (T.rw i a h)⟩
theorem TallyAt.congr {C : Addr} {H : Hp} {x L : Addr} {rs : List Addr} {n : Nat} {m : Int} {R R' : Nat → Nat → Int} (T : TallyAt C H x L rs n m R) (h : ∀ s p, s < n → p < n → R s p = R' s p) : TallyAt C H x L rs n m R' :=
  ⟨T.ob, T.ls, T.ln, fun i a hi => by
    have hl : i < n := by
      obtain ⟨b, _⟩ := List.getElem?_eq_some_iff.mp hi
      rw [T.ln] at b
      exact b
    rw [T.rw i a hi, rowV_congr fun p hp => h i p hl hp]⟩
theorem TallyAt.get {C : Addr} {H : Hp} {x L : Addr} {rs : List Addr} {n s : Nat} {m : Int} {R : Nat → Nat → Int} (T : TallyAt C H x L rs n m R) (h : s < n) : ∃ a, rs[s]? = some a ∧ atI (rs.map V.ref) ((s : Nat) : Int) = some (.ref a) ∧ H a = some (.lst (rowV n (R s))) := by
  have hl : s < rs.length := by rw [T.ln]; exact h
  refine ⟨rs[s], by simp [hl], atI_nat (by simp [hl]), T.rw s _ (by simp [hl])⟩
/-! ### a net by numbers -/
def enR (n : Nat) (ps : List Pr) (j : Nat) : Nat := (ps[j]?.map fun q => q.2.toNat).getD n
def gvL (ps : List Pr) (l : List Nat) (i : Nat) : List Nat := if i ∈ l then exitsOf ps i else [ps.length]
def others (n r : Nat) : List Nat := (List.range n).filter fun p => p != r
theorem others_mem {n r p : Nat} : p ∈ others n r ↔ p < n ∧ p ≠ r := by simp [others]
theorem exits_lt {ps : List Pr} {k : Int} {j : Nat} (h : j ∈ exitsOf ps k) : j < ps.length ∧ (ps.getD j (0, 0)).1 = k := by
  unfold exitsOf exitsUp at h
  rw [List.mem_filter, List.mem_range] at h
  exact ⟨h.1, by simpa using h.2⟩
theorem enR_out (n : Nat) (ps : List Pr) : enR n ps ps.length = n := by simp [enR]
theorem enR_in {n j : Nat} {ps : List Pr} (h : j < ps.length) : enR n ps j = (ps.getD j (0, 0)).2.toNat := by
  simp [enR, List.getD_eq_getElem?_getD, h]
theorem ends_in {n : Nat} {ps : List Pr} (h : endsOk n ps = true) {q : Pr} (hq : q ∈ ps) : (0 ≤ q.1 ∧ q.1 < n) ∧ 0 ≤ q.2 ∧ q.2 < n := by
  unfold endsOk at h
  have := List.all_eq_true.mp h q hq
  rw [Bool.and_eq_true, within_iff, within_iff] at this
  exact this
theorem enR_lt {n j : Nat} {ps : List Pr} (h : endsOk n ps = true) (hj : j < ps.length) : enR n ps j < n := by
  rw [enR_in hj]
  have hm : ps.getD j (0, 0) ∈ ps := by
    rw [List.getD_eq_getElem?_getD]
    simp [hj]
  have := ends_in h hm
  omega
/-- how many trees -/
def cntT (n : Nat) (ps : List Pr) (r : Nat) : Int := det n (Rows (enR n ps) (gvL ps (others n r)))
/-- by the list of the roads' ends -/
def psN (ps : List Pr) : List (Nat × Nat) := ps.map fun q => (q.1.toNat, q.2.toNat)
theorem exits_up (ps : List Pr) (n i : Nat) (h : ∀ q ∈ ps, 0 ≤ q.1) : ∀ k, k ≤ ps.length → (exitsUp ps i k).map (enR n ps) = ((psN (ps.take k)).filter fun q => q.1 == i).map (·.2)
  | 0, _ => rfl
  | k + 1, hk => by
    rw [exitsUp_succ, List.map_append, exits_up ps n i h k (by omega)]
    have e : ps.take (k + 1) = ps.take k ++ [ps[k]] := by rw [List.take_add_one]; simp [show k < ps.length by omega]
    rw [e]
    unfold psN
    rw [List.map_append, List.filter_append, List.map_append]
    congr 1
    have g : ps.getD k (0, 0) = ps[k] := by rw [List.getD_eq_getElem?_getD]; simp [show k < ps.length by omega]
    rw [g]
    have h0 := h ps[k] (List.getElem_mem _)
    by_cases c : ps[k].1 = (i : Int)
    · have c2 : ps[k].1.toNat = i := by omega
      have er : enR n ps k = ps[k].2.toNat := by rw [enR_in (by omega), g]
      simp [c, er]
    · have c2 : ¬ ps[k].1.toNat = i := by omega
      have b1 : (ps[k].1 == (i : Int)) = false := by simpa using c
      have b2 : (ps[k].1.toNat == i) = false := by simpa using c2
      simp [b1, b2]
theorem exits_ends (ps : List Pr) (n i : Nat) (h : ∀ q ∈ ps, 0 ≤ q.1) : (exitsOf ps i).map (enR n ps) = endsOf (psN ps) i := by
  unfold exitsOf
  rw [exits_up ps n i h ps.length (Nat.le_refl _), List.take_length]
  rfl
theorem cnt_tree {n r : Nat} {ps : List Pr} (h : ∀ q ∈ ps, 0 ≤ q.1) (hr : r < n) : cntT n ps r = det n (treeM (psN ps) r) := by
  unfold cntT
  refine det_congr fun i j hi hj => ?_
  unfold Rows treeM gvL
  by_cases e : i = r
  · rw [if_pos e, if_neg (by rw [others_mem]; omega), e]
    simp [rowOf, lsum, one, enR_out, show n ≠ j by omega]
  · rw [if_neg e, if_pos (others_mem.mpr ⟨hi, e⟩), ← rowOf_id, exits_ends ps n i h]
end L2

set_option Elab.async false
set_option linter.all false
set_option maxRecDepth 100000
set_option maxHeartbeats 4000000
/-! Some of the roads of a net. -/
namespace L2
open PySem PySem.Spec PyProof.Rows Mx
def stR (ps : List Pr) (j : Nat) : Nat := (ps.getD j (0, 0)).1.toNat
theorem getD_mem {ps : List Pr} {k : Nat} (h : k < ps.length) : ps.getD k (0, 0) ∈ ps := by
  rw [List.getD_eq_getElem?_getD]
  simp [h]
theorem exits_filter {ps : List Pr} (h : ∀ q ∈ ps, 0 ≤ q.1) (i : Nat) : exitsOf ps i = (List.range ps.length).filter fun k => stR ps k == i := by
  unfold exitsOf exitsUp
  refine List.filter_congr fun k hk => ?_
  have := h _ (getD_mem (List.mem_range.mp hk))
  unfold stR
  by_cases e : (ps.getD k (0, 0)).1 = (i : Int)
  · have e2 : (ps.getD k (0, 0)).1.toNat = i := by omega
    rw [beq_iff_eq.mpr e, beq_iff_eq.mpr e2]
  · have e2 : ¬ (ps.getD k (0, 0)).1.toNat = i := by omega
    rw [beq_eq_false_iff_ne.mpr e, beq_eq_false_iff_ne.mpr e2]
theorem ends_nonneg {n : Nat} {ps : List Pr} (h : endsOk n ps = true) : ∀ q ∈ ps, 0 ≤ q.1 := fun q hq => (ends_in h hq).1.1
theorem stR_cast {n k : Nat} {ps : List Pr} (h : endsOk n ps = true) (hk : k < ps.length) : ((stR ps k : Nat) : Int) = (ps.getD k (0, 0)).1 ∧ stR ps k < n := by
  have := ends_in h (getD_mem hk)
  unfold stR
  omega
end L2

set_option Elab.async false
set_option linter.all false
set_option maxRecDepth 100000
set_option maxHeartbeats 4000000
/-! Trees of a net in their order. -/
namespace L2
open PySem PySem.Spec PyProof.Rows Mx
end L2

set_option Elab.async false
set_option linter.all false
set_option maxRecDepth 100000
set_option maxHeartbeats 4000000
/-! Why there is no ring. -/
namespace L2
open PySem PySem.Spec PyProof.Rows Mx
def unlikeOf (n : Nat) (ps : List Pr) : List Nat := (List.range n).filter fun p => (ps.map (·.1)).count (p : Int) != (ps.map (·.2)).count (p : Int)
abbrev ReachP (n : Nat) (ps : List Pr) (p : Nat) : Prop := Reach (stR ps) (enR n ps) ps.length (stR ps 0) p
open Classical in
noncomputable def apartUp (n : Nat) (ps : List Pr) (i : Nat) : List Nat := (List.range i).filter fun p => !decide (ReachP n ps p)
noncomputable abbrev apartOf (n : Nat) (ps : List Pr) : List Nat := apartUp n ps n
open Classical in
theorem apartUp_succ (n : Nat) (ps : List Pr) (i : Nat) : apartUp n ps (i + 1) = apartUp n ps i ++ if ReachP n ps i then [] else [i] := by
  unfold apartUp
  rw [List.range_succ, List.filter_append, List.filter_cons]
  by_cases c : ReachP n ps i
  · rw [if_pos c, if_neg (by simp [c])]
    rfl
  · rw [if_neg c, if_pos (by simp [c])]
    rfl
theorem in_nats {x : Nat} {rs : List Nat} : inV (V.int (x : Nat)) (nats rs) = decide (x ∈ rs) := by
  unfold inV nats
  rw [List.any_map]
  refine Bool.eq_iff_iff.mpr ?_
  rw [List.any_eq_true, decide_eq_true_eq]
  constructor
  · rintro ⟨y, hy, e⟩
    have e' : ((y : Nat) : Int) = ((x : Nat) : Int) := by simpa [eqV] using e
    have : y = x := by omega
    rw [← this]; exact hy
  · intro hm
    exact ⟨_, hm, by simp [eqV]⟩
theorem nodup_len {rs : List Nat} {n : Nat} (hn : rs.Nodup) (h : ∀ p ∈ rs, p < n) : rs.length ≤ n := by
  refine Classical.byContradiction fun z => ?_
  obtain ⟨a, b, hab, hb, e⟩ := two_alike n (fun t => rs.getD t 0) fun t ht => h _ (by rw [List.getD_eq_getElem?_getD]; simp [show t < rs.length by omega])
  rw [List.Nodup, List.pairwise_iff_getElem] at hn
  refine hn a b (by omega) (by omega) hab ?_
  have e : rs.getD a 0 = rs.getD b 0 := e
  rw [List.getD_eq_getElem?_getD, List.getD_eq_getElem?_getD] at e
  simpa [show a < rs.length by omega, show b < rs.length by omega] using e
theorem exits_iff {n k p : Nat} {ps : List Pr} (he : endsOk n ps = true) : k ∈ exitsOf ps p ↔ k < ps.length ∧ stR ps k = p := by
  rw [exits_filter (ends_nonneg he), List.mem_filter, List.mem_range]
  simp
/-- the list as it grows -/
structure Grown (n : Nat) (ps : List Pr) (rs : List Nat) (done : Nat) : Prop where
  nd : rs.Nodup
  lt : ∀ p ∈ rs, p < n
  re : ∀ p ∈ rs, ReachP n ps p
  st : stR ps 0 ∈ rs
  dn : done ≤ rs.length
  cl : ∀ i p, i < done → rs[i]? = some p → ∀ k, k < ps.length → stR ps k = p → enR n ps k ∈ rs
theorem Grown.all {n : Nat} {ps : List Pr} {rs : List Nat} (G : Grown n ps rs rs.length) (p : Nat) : p ∈ rs ↔ ReachP n ps p :=
  reach_iff (S := fun p => p ∈ rs) G.st (fun j hj h => by
    obtain ⟨i, hi, e⟩ := List.getElem_of_mem h
    exact G.cl i _ hi (by rw [List.getElem?_eq_getElem hi, e]) j hj rfl) G.re p
/-- the list within a turn -/
structure Grows (n : Nat) (ps : List Pr) (rs : List Nat) (done p i : Nat) (rs' : List Nat) : Prop where
  nd : rs'.Nodup
  lt : ∀ p ∈ rs', p < n
  re : ∀ p ∈ rs', ReachP n ps p
  pre : ∃ r, rs' = rs ++ r
  got : ∀ j k, j < i → (exitsOf ps p)[j]? = some k → enR n ps k ∈ rs'
theorem Grows.start {n : Nat} {ps : List Pr} {rs : List Nat} {done p : Nat} (G : Grown n ps rs done) : Grows n ps rs done p 0 rs :=
  ⟨G.nd, G.lt, G.re, ⟨[], by simp⟩, fun j k h => absurd h (by omega)⟩
theorem Grows.stay {n : Nat} {ps : List Pr} {rs rs' : List Nat} {done p i k : Nat} (G : Grows n ps rs done p i rs') (hk : (exitsOf ps p)[i]? = some k) (h : enR n ps k ∈ rs') : Grows n ps rs done p (i + 1) rs' :=
  ⟨G.nd, G.lt, G.re, G.pre, fun j k' hj e => by
    by_cases c : j = i
    · subst c
      rw [hk] at e
      cases e
      exact h
    · exact G.got j k' (by omega) e⟩
theorem Grows.more {n : Nat} {ps : List Pr} {rs rs' : List Nat} {done p i k : Nat} (he : endsOk n ps = true) (hp : ReachP n ps p) (G : Grows n ps rs done p i rs') (hk : (exitsOf ps p)[i]? = some k) (h : enR n ps k ∉ rs') : Grows n ps rs done p (i + 1) (rs' ++ [enR n ps k]) := by
  obtain ⟨k1, k2⟩ := (exits_iff he).mp (List.mem_of_getElem? hk)
  refine ⟨?_, ?_, ?_, ?_, ?_⟩
  · rw [List.nodup_append]
    refine ⟨G.nd, by simp, fun a ha b hb e => ?_⟩
    have : b = enR n ps k := by simpa using hb
    rw [e, this] at ha
    exact h ha
  · intro q hq
    rcases List.mem_append.mp hq with hq | hq
    · exact G.lt q hq
    · have : q = enR n ps k := by simpa using hq
      rw [this]
      exact enR_lt he k1
  · intro q hq
    rcases List.mem_append.mp hq with hq | hq
    · exact G.re q hq
    · have : q = enR n ps k := by simpa using hq
      rw [this]
      exact .step k1 (by rw [k2]; exact hp)
  · obtain ⟨r, e⟩ := G.pre
    exact ⟨r ++ [enR n ps k], by rw [e, List.append_assoc]⟩
  · intro j k' hj e
    by_cases c : j = i
    · subst c
      rw [hk] at e
      cases e
      simp
    · exact List.mem_append_left _ (G.got j k' (by omega) e)
theorem Grows.done {n : Nat} {ps : List Pr} {rs rs' : List Nat} {done p : Nat} (he : endsOk n ps = true) (G0 : Grown n ps rs done) (hp : rs[done]? = some p) (G : Grows n ps rs done p (exitsOf ps p).length rs') : Grown n ps rs' (done + 1) := by
  obtain ⟨r, e⟩ := G.pre
  have hl : done < rs.length := (List.getElem?_eq_some_iff.mp hp).1
  refine ⟨G.nd, G.lt, G.re, by rw [e]; exact List.mem_append_left _ G0.st, by rw [e, List.length_append]; omega, fun i q hi hq k hk1 hk2 => ?_⟩
  by_cases c : i = done
  · subst c
    have hq' : rs'[i]? = some p := by rw [e, List.getElem?_append_left hl]; exact hp
    rw [hq'] at hq
    cases hq
    obtain ⟨j, hj, ej⟩ := List.getElem_of_mem ((exits_iff he).mpr ⟨hk1, hk2⟩)
    exact G.got j k hj (by rw [List.getElem?_eq_getElem hj, ej])
  · have hq' : rs[i]? = some q := by
      rw [e, List.getElem?_append_left (by omega)] at hq
      exact hq
    rw [e]
    exact List.mem_append_left _ (G0.cl i q (by omega) hq' k hk1 hk2)
theorem Grown.first {n : Nat} {ps : List Pr} (he : endsOk n ps = true) (h1 : 1 ≤ ps.length) : Grown n ps [stR ps 0] 0 :=
  ⟨by simp, fun p hp => by have : p = stR ps 0 := by simpa using hp
                           rw [this]; exact (stR_cast he (by omega)).2, fun p hp => by have : p = stR ps 0 := by simpa using hp
                                                                                       rw [this]; exact .base, by simp, by simp, fun i p hi => absurd hi (by omega)⟩
end L2

set_option Elab.async false
set_option linter.all false
set_option maxRecDepth 100000
set_option maxHeartbeats 4000000
/-! Orders of exits; nets with as many roads from each place as to it. -/
namespace L2
open PySem PySem.Spec PyProof.Rows Mx
/-! ### as many from each place as to it -/
structure EvenLike (n : Nat) (ps : List Pr) : Prop where
  n1 : 1 ≤ n
  ne : 1 ≤ ps.length
  en : ∀ q ∈ ps, (0 ≤ q.1 ∧ q.1 < n) ∧ 0 ≤ q.2 ∧ q.2 < n
  ev : ∀ p : Nat, (ps.map (·.1)).count (p : Int) = (ps.map (·.2)).count (p : Int)
  cy : ∀ k, k < n → ((k : Int), (((k + 1) % n : Nat) : Int)) ∈ ps
theorem EvenLike.ok {n : Nat} {ps : List Pr} (E : EvenLike n ps) (h1 : n ≤ 32) (h2 : ps.length ≤ 64) : netOk n ps = true := by
  have e1 : endsOk n ps = true := by
    unfold endsOk
    rw [List.all_eq_true]
    intro q hq
    obtain ⟨⟨x, y⟩, z, w⟩ := E.en q hq
    simp [within, x, y, z, w]
  have e2 : exitsOk n ps = true := by
    unfold exitsOk
    rw [List.all_eq_true]
    intro k hk
    rw [List.mem_range] at hk
    rw [List.any_eq_true]
    exact ⟨_, E.cy k (by omega), by simp⟩
  have a := E.n1
  have b := E.ne
  unfold netOk
  rw [e1, e2]
  simp
  omega
theorem EvenLike.unlike {n : Nat} {ps : List Pr} (E : EvenLike n ps) : unlikeOf n ps = [] := by
  unfold unlikeOf
  rw [List.filter_eq_nil_iff]
  intro p _
  simp [E.ev p]
theorem EvenLike.reach {n : Nat} {ps : List Pr} (E : EvenLike n ps) (he : endsOk n ps = true) : ∀ p, p < n → ReachP n ps p := fun p hp => by
  have hs : stR ps 0 < n := (stR_cast he (by have := E.ne; omega)).2
  have step : ∀ k, k < n → ReachP n ps k → ReachP n ps ((k + 1) % n) := fun k hk h => by
    obtain ⟨j, hj, e⟩ := List.getElem_of_mem (E.cy k hk)
    have g : ps.getD j (0, 0) = ((k : Int), (((k + 1) % n : Nat) : Int)) := by rw [List.getD_eq_getElem?_getD]; simp [hj, e]
    have e1 : stR ps j = k := by unfold stR; rw [g]; simp
    have e2 : enR n ps j = (k + 1) % n := by
      rw [enR_in hj, g]
      exact Int.toNat_natCast _
    rw [← e2]
    exact .step hj (by rw [e1]; exact h)
  have all : ∀ t, ReachP n ps ((stR ps 0 + t) % n) := by
    intro t
    induction t with
    | zero =>
      rw [Nat.add_zero, Nat.mod_eq_of_lt hs]
      exact .base
    | succ t ih =>
      have := step _ (Nat.mod_lt _ (by omega)) ih
      rw [Nat.mod_add_mod, Nat.add_assoc] at this
      exact this
  have := all (p + n - stR ps 0)
  rw [show stR ps 0 + (p + n - stR ps 0) = p + n by omega, Nat.add_mod_right, Nat.mod_eq_of_lt hp] at this
  exact this
theorem EvenLike.apart {n : Nat} {ps : List Pr} (E : EvenLike n ps) (he : endsOk n ps = true) : apartOf n ps = [] := by
  unfold apartOf apartUp
  rw [List.filter_eq_nil_iff]
  intro p hp
  have := E.reach he p (List.mem_range.mp hp)
  simp [this]
theorem EvenLike.perm {n : Nat} {ps qs : List Pr} (E : EvenLike n ps) (h : qs.Perm ps) : EvenLike n qs :=
  ⟨E.n1, by rw [h.length_eq]; exact E.ne, fun q hq => E.en q (h.subset hq), fun p => by rw [(h.map (·.1)).count_eq, (h.map (·.2)).count_eq]; exact E.ev p, fun k hk => h.symm.subset (E.cy k hk)⟩
theorem count_N {n : Nat} {ps : List Pr} (h : ∀ q ∈ ps, (0 ≤ q.1 ∧ q.1 < n) ∧ 0 ≤ q.2 ∧ q.2 < n) (p : Nat) : (psN ps).countP (fun q => q.1 == p) = (ps.map (·.1)).count (p : Int) ∧ (psN ps).countP (fun q => q.2 == p) = (ps.map (·.2)).count (p : Int) := by
  unfold psN
  rw [List.countP_map, List.countP_map]
  unfold List.count
  rw [List.countP_map, List.countP_map]
  constructor
  · refine List.countP_congr fun q hq => ?_
    have := h q hq
    simp only [Function.comp_apply, beq_iff_eq]
    omega
  · refine List.countP_congr fun q hq => ?_
    have := h q hq
    simp only [Function.comp_apply, beq_iff_eq]
    omega
theorem EvenLike.even {n : Nat} {ps : List Pr} (E : EvenLike n ps) : Mx.even n (psN ps) := fun p _ => by
  obtain ⟨a, b⟩ := count_N E.en p
  rw [a, b]
  exact E.ev p
theorem psN_lt {n : Nat} {ps : List Pr} (h : ∀ q ∈ ps, (0 ≤ q.1 ∧ q.1 < n) ∧ 0 ≤ q.2 ∧ q.2 < n) : ∀ q ∈ psN ps, q.1 < n ∧ q.2 < n := fun q hq => by
  obtain ⟨r, hr, rfl⟩ := List.mem_map.mp hq
  have := h r hr
  show r.1.toNat < n ∧ r.2.toNat < n
  omega
/-- as many trees into each place -/
theorem EvenLike.trees {n r r' : Nat} {ps : List Pr} (E : EvenLike n ps) (hr : r < n) (hr' : r' < n) : cntT n ps r = cntT n ps r' := by
  have h0 : ∀ q ∈ ps, 0 ≤ q.1 := fun q hq => (E.en q hq).1.1
  rw [cnt_tree h0 hr, cnt_tree h0 hr']
  exact trees_even hr hr' (psN_lt E.en) E.even
end L2

set_option Elab.async false
set_option linter.all false
set_option maxRecDepth 100000
set_option maxHeartbeats 4000000
namespace Rb
open PySem L2
/-! the text by places -/
def top (i : Nat) : Stmt := PySem.Challenge.pw_ringbook_k08_why_there_is_none.main.body.getD i (.Pass ⟨0, 0, 0, 0⟩)
abbrev s_lies_within : Stmt := top 10
abbrev s_ends_lie_within : Stmt := top 11
abbrev s_each_place_has_exit : Stmt := top 12
abbrev s_check_net : Stmt := top 13
abbrev s_check_place : Stmt := top 14
abbrev s_Net____init__ : Stmt := inClass (top 15) 0
abbrev s_Net__places : Stmt := inClass (top 15) 1
abbrev s_Net__roads : Stmt := inClass (top 15) 2
abbrev s_Net__exits : Stmt := inClass (top 15) 3
abbrev s_first_place : Stmt := top 29
abbrev s_unlike_places : Stmt := top 30
abbrev s_reached_places : Stmt := top 31
abbrev s_apart_places : Stmt := top 32
abbrev s_why : Stmt := top 33
abbrev s_is_ring : Stmt := top 34
abbrev s_many_rings : Stmt := top 39
abbrev s_ring_at : Stmt := top 42
abbrev s_ring_number : Stmt := top 43
abbrev s_x_law_cell_at : Stmt := top 45
abbrev s_x_law_whole : Stmt := top 46
abbrev s_x_law_draw : Stmt := top 47
abbrev s_x_law_numbers : Stmt := top 48
abbrev s_x_law_net : Stmt := top 49
abbrev s_x_law_even : Stmt := top 50
abbrev s_x_law_due : Stmt := top 51
abbrev s_x_law_refused : Stmt := top 52
abbrev s_x_law_no_ring : Stmt := top 53
abbrev s_law : Stmt := top 54
structure Adr where
  f_lies_within : Addr
  d_lies_within : FuncData
  f_ends_lie_within : Addr
  d_ends_lie_within : FuncData
  f_each_place_has_exit : Addr
  d_each_place_has_exit : FuncData
  f_check_net : Addr
  d_check_net : FuncData
  f_check_place : Addr
  d_check_place : FuncData
  f_Net____init__ : Addr
  d_Net____init__ : FuncData
  f_Net__places : Addr
  d_Net__places : FuncData
  f_Net__roads : Addr
  d_Net__roads : FuncData
  f_Net__exits : Addr
  d_Net__exits : FuncData
  f_first_place : Addr
  d_first_place : FuncData
  f_unlike_places : Addr
  d_unlike_places : FuncData
  f_reached_places : Addr
  d_reached_places : FuncData
  f_apart_places : Addr
  d_apart_places : FuncData
  f_why : Addr
  d_why : FuncData
  f_is_ring : Addr
  d_is_ring : FuncData
  f_many_rings : Addr
  d_many_rings : FuncData
  f_ring_at : Addr
  d_ring_at : FuncData
  f_ring_number : Addr
  d_ring_number : FuncData
  f_x_law_cell_at : Addr
  d_x_law_cell_at : FuncData
  f_x_law_whole : Addr
  d_x_law_whole : FuncData
  f_x_law_draw : Addr
  d_x_law_draw : FuncData
  f_x_law_numbers : Addr
  d_x_law_numbers : FuncData
  f_x_law_net : Addr
  d_x_law_net : FuncData
  f_x_law_even : Addr
  d_x_law_even : FuncData
  f_x_law_due : Addr
  d_x_law_due : FuncData
  f_x_law_refused : Addr
  d_x_law_refused : FuncData
  f_x_law_no_ring : Addr
  d_x_law_no_ring : FuncData
  f_law : Addr
  d_law : FuncData
  C_BookError : Addr
  C_NoNet : Addr
  C_NoPlace : Addr
  C_NoTree : Addr
  C_NoRing : Addr
  C_NoNumber : Addr
  C_Net : Addr
  C_Tally : Addr
  k_MOST_PLACES : Value
  k_MOST_ROADS : Value
structure Txt (K : PySem.W.Frag) (mg : Str → Option Value) (t : Adr) : Prop where
  F_lies_within : Fun K "lies_within" "lies_within" s_lies_within t.f_lies_within t.d_lies_within
  b_lies_within : Binds K t.d_lies_within ["place", "places"] []
  m_lies_within : mg "lies_within" = some (.ref t.f_lies_within)
  F_ends_lie_within : Fun K "ends_lie_within" "ends_lie_within" s_ends_lie_within t.f_ends_lie_within t.d_ends_lie_within
  b_ends_lie_within : Binds K t.d_ends_lie_within ["roads", "places"] []
  m_ends_lie_within : mg "ends_lie_within" = some (.ref t.f_ends_lie_within)
  F_each_place_has_exit : Fun K "each_place_has_exit" "each_place_has_exit" s_each_place_has_exit t.f_each_place_has_exit t.d_each_place_has_exit
  b_each_place_has_exit : Binds K t.d_each_place_has_exit ["roads", "places"] []
  m_each_place_has_exit : mg "each_place_has_exit" = some (.ref t.f_each_place_has_exit)
  F_check_net : Fun K "check_net" "check_net" s_check_net t.f_check_net t.d_check_net
  b_check_net : Binds K t.d_check_net ["places", "roads"] []
  m_check_net : mg "check_net" = some (.ref t.f_check_net)
  F_check_place : Fun K "check_place" "check_place" s_check_place t.f_check_place t.d_check_place
  b_check_place : Binds K t.d_check_place ["place", "places"] []
  m_check_place : mg "check_place" = some (.ref t.f_check_place)
  F_Net____init__ : Fun K "__init__" "Net.__init__" s_Net____init__ t.f_Net____init__ t.d_Net____init__
  b_Net____init__ : Binds K t.d_Net____init__ ["self", "places", "roads"] []
  F_Net__places : Fun K "places" "Net.places" s_Net__places t.f_Net__places t.d_Net__places
  b_Net__places : Binds K t.d_Net__places ["self"] []
  M_Net__places : Meth K t.C_Net "places" t.f_Net__places
  F_Net__roads : Fun K "roads" "Net.roads" s_Net__roads t.f_Net__roads t.d_Net__roads
  b_Net__roads : Binds K t.d_Net__roads ["self"] []
  M_Net__roads : Meth K t.C_Net "roads" t.f_Net__roads
  F_Net__exits : Fun K "exits" "Net.exits" s_Net__exits t.f_Net__exits t.d_Net__exits
  b_Net__exits : Binds K t.d_Net__exits ["self", "place"] []
  M_Net__exits : Meth K t.C_Net "exits" t.f_Net__exits
  F_first_place : Fun K "first_place" "first_place" s_first_place t.f_first_place t.d_first_place
  b_first_place : Binds K t.d_first_place ["net"] []
  m_first_place : mg "first_place" = some (.ref t.f_first_place)
  F_unlike_places : Fun K "unlike_places" "unlike_places" s_unlike_places t.f_unlike_places t.d_unlike_places
  b_unlike_places : Binds K t.d_unlike_places ["net"] []
  m_unlike_places : mg "unlike_places" = some (.ref t.f_unlike_places)
  F_reached_places : Fun K "reached_places" "reached_places" s_reached_places t.f_reached_places t.d_reached_places
  b_reached_places : Binds K t.d_reached_places ["net"] []
  m_reached_places : mg "reached_places" = some (.ref t.f_reached_places)
  F_apart_places : Fun K "apart_places" "apart_places" s_apart_places t.f_apart_places t.d_apart_places
  b_apart_places : Binds K t.d_apart_places ["net"] []
  m_apart_places : mg "apart_places" = some (.ref t.f_apart_places)
  F_why : Fun K "why" "why" s_why t.f_why t.d_why
  b_why : Binds K t.d_why ["net"] []
  m_why : mg "why" = some (.ref t.f_why)
  F_is_ring : Fun K "is_ring" "is_ring" s_is_ring t.f_is_ring t.d_is_ring
  b_is_ring : Binds K t.d_is_ring ["net", "ring"] []
  m_is_ring : mg "is_ring" = some (.ref t.f_is_ring)
  F_many_rings : Fun K "many_rings" "many_rings" s_many_rings t.f_many_rings t.d_many_rings
  b_many_rings : Binds K t.d_many_rings ["net"] []
  m_many_rings : mg "many_rings" = some (.ref t.f_many_rings)
  F_ring_at : Fun K "ring_at" "ring_at" s_ring_at t.f_ring_at t.d_ring_at
  b_ring_at : Binds K t.d_ring_at ["net", "number"] []
  m_ring_at : mg "ring_at" = some (.ref t.f_ring_at)
  F_ring_number : Fun K "ring_number" "ring_number" s_ring_number t.f_ring_number t.d_ring_number
  b_ring_number : Binds K t.d_ring_number ["net", "ring"] []
  m_ring_number : mg "ring_number" = some (.ref t.f_ring_number)
  F_x_law_cell_at : Fun K "_law_cell_at" "_law_cell_at" s_x_law_cell_at t.f_x_law_cell_at t.d_x_law_cell_at
  b_x_law_cell_at : Binds K t.d_x_law_cell_at ["script", "k"] []
  m_x_law_cell_at : mg "_law_cell_at" = some (.ref t.f_x_law_cell_at)
  F_x_law_whole : Fun K "_law_whole" "_law_whole" s_x_law_whole t.f_x_law_whole t.d_x_law_whole
  b_x_law_whole : Binds K t.d_x_law_whole ["found"] []
  m_x_law_whole : mg "_law_whole" = some (.ref t.f_x_law_whole)
  F_x_law_draw : Fun K "_law_draw" "_law_draw" s_x_law_draw t.f_x_law_draw t.d_x_law_draw
  b_x_law_draw : Binds K t.d_x_law_draw ["cell", "k", "bound"] []
  m_x_law_draw : mg "_law_draw" = some (.ref t.f_x_law_draw)
  F_x_law_numbers : Fun K "_law_numbers" "_law_numbers" s_x_law_numbers t.f_x_law_numbers t.d_x_law_numbers
  b_x_law_numbers : Binds K t.d_x_law_numbers ["found", "due"] []
  m_x_law_numbers : mg "_law_numbers" = some (.ref t.f_x_law_numbers)
  F_x_law_net : Fun K "_law_net" "_law_net" s_x_law_net t.f_x_law_net t.d_x_law_net
  b_x_law_net : Binds K t.d_x_law_net ["script", "at", "most", "extra"] []
  m_x_law_net : mg "_law_net" = some (.ref t.f_x_law_net)
  F_x_law_even : Fun K "_law_even" "_law_even" s_x_law_even t.f_x_law_even t.d_x_law_even
  b_x_law_even : Binds K t.d_x_law_even ["script", "at", "most", "extra"] []
  m_x_law_even : mg "_law_even" = some (.ref t.f_x_law_even)
  F_x_law_due : Fun K "_law_due" "_law_due" s_x_law_due t.f_x_law_due t.d_x_law_due
  b_x_law_due : Binds K t.d_x_law_due ["many", "pairs"] []
  m_x_law_due : mg "_law_due" = some (.ref t.f_x_law_due)
  F_x_law_refused : Fun K "_law_refused" "_law_refused" s_x_law_refused t.f_x_law_refused t.d_x_law_refused
  b_x_law_refused : Binds K t.d_x_law_refused ["net"] []
  m_x_law_refused : mg "_law_refused" = some (.ref t.f_x_law_refused)
  F_x_law_no_ring : Fun K "_law_no_ring" "_law_no_ring" s_x_law_no_ring t.f_x_law_no_ring t.d_x_law_no_ring
  b_x_law_no_ring : Binds K t.d_x_law_no_ring ["net", "ring"] []
  m_x_law_no_ring : mg "_law_no_ring" = some (.ref t.f_x_law_no_ring)
  F_law : Fun K "law" "law" s_law t.f_law t.d_law
  b_law : Binds K t.d_law ["script"] []
  m_law : mg "law" = some (.ref t.f_law)
  m_BookError : mg "BookError" = some (.ref t.C_BookError)
  m_NoNet : mg "NoNet" = some (.ref t.C_NoNet)
  m_NoPlace : mg "NoPlace" = some (.ref t.C_NoPlace)
  m_NoTree : mg "NoTree" = some (.ref t.C_NoTree)
  m_NoRing : mg "NoRing" = some (.ref t.C_NoRing)
  m_NoNumber : mg "NoNumber" = some (.ref t.C_NoNumber)
  m_Net : mg "Net" = some (.ref t.C_Net)
  m_Tally : mg "Tally" = some (.ref t.C_Tally)
  cl_Net : Cls K t.C_Net
  mk_Net : Mk K t.C_Net t.f_Net____init__
  na_Net_place_count : NoAttr K t.C_Net "place_count"
  na_Net_road_pairs : NoAttr K t.C_Net "road_pairs"
  m_MOST_PLACES : mg "MOST_PLACES" = some t.k_MOST_PLACES
  r_MOST_PLACES : RelV (.int 32) t.k_MOST_PLACES
  m_MOST_ROADS : mg "MOST_ROADS" = some t.k_MOST_ROADS
  r_MOST_ROADS : RelV (.int 64) t.k_MOST_ROADS
  n_len : mg "len" = none
  n_range : mg "range" = none
  n_all : mg "all" = none
  n_enumerate : mg "enumerate" = none
  n_isinstance : mg "isinstance" = none
  n_list : mg "list" = none
  n_int : mg "int" = none
  n_bool : mg "bool" = none
  n_tuple : mg "tuple" = none
  n_sorted : mg "sorted" = none
  n_ValueError : mg "ValueError" = none
  e_NoNumber : ErrCls K t.C_NoNumber
  el_NoNumber : ErrLook K t.C_NoNumber
  e_NoRing : ErrCls K t.C_NoRing
  el_NoRing : ErrLook K t.C_NoRing
  xn : PySem.W.exmOne K (.ref t.C_NoNumber) (.ref t.C_BookError) = some true
  xn1 : PySem.W.kitOne K (.ref t.C_NoNumber) (.ref t.C_NoNumber) = some true
  xn2 : PySem.W.kitOne K (.ref t.C_NoNumber) (.type "ValueError") = some true
  xn3 : PySem.W.kitOne K (.ref t.C_NoNumber) (.ref t.C_NoRing) = some false
  xr : PySem.W.exmOne K (.ref t.C_NoRing) (.ref t.C_BookError) = some true
  xr1 : PySem.W.kitOne K (.ref t.C_NoRing) (.ref t.C_NoRing) = some true
  xr2 : PySem.W.kitOne K (.ref t.C_NoRing) (.type "ValueError") = some true
  xr3 : PySem.W.kitOne K (.ref t.C_NoRing) (.ref t.C_NoNumber) = some false
theorem sc_lies_within : FnScope ["place", "places"] ["place", "places"] (defScope s_lies_within) := ⟨rfl, rfl, rfl, by decide +kernel, rfl, by decide +kernel, by decide +kernel⟩
theorem sc_ends_lie_within : FnScope ["roads", "places"] ["roads", "places"] (defScope s_ends_lie_within) := ⟨rfl, rfl, rfl, by decide +kernel, rfl, by decide +kernel, by decide +kernel⟩
theorem sc_each_place_has_exit : FnScope ["roads", "places", "starts"] ["roads", "places"] (defScope s_each_place_has_exit) := ⟨rfl, rfl, rfl, by decide +kernel, rfl, by decide +kernel, by decide +kernel⟩
theorem sc_check_net : FnScope ["places", "roads"] ["places", "roads"] (defScope s_check_net) := ⟨rfl, rfl, rfl, by decide +kernel, rfl, by decide +kernel, by decide +kernel⟩
theorem sc_check_place : FnScope ["place", "places"] ["place", "places"] (defScope s_check_place) := ⟨rfl, rfl, rfl, by decide +kernel, rfl, by decide +kernel, by decide +kernel⟩
theorem sc_Net____init__ : FnScope ["self", "places", "roads"] ["self", "places", "roads"] (defScope s_Net____init__) := ⟨rfl, rfl, rfl, by decide +kernel, rfl, by decide +kernel, by decide +kernel⟩
theorem sc_Net__places : FnScope ["self"] ["self"] (defScope s_Net__places) := ⟨rfl, rfl, rfl, by decide +kernel, rfl, by decide +kernel, by decide +kernel⟩
theorem sc_Net__roads : FnScope ["self"] ["self"] (defScope s_Net__roads) := ⟨rfl, rfl, rfl, by decide +kernel, rfl, by decide +kernel, by decide +kernel⟩
theorem sc_Net__exits : FnScope ["self", "place"] ["self", "place"] (defScope s_Net__exits) := ⟨rfl, rfl, rfl, by decide +kernel, rfl, by decide +kernel, by decide +kernel⟩
theorem sc_first_place : FnScope ["net"] ["net"] (defScope s_first_place) := ⟨rfl, rfl, rfl, by decide +kernel, rfl, by decide +kernel, by decide +kernel⟩
theorem sc_unlike_places : FnScope ["net", "starts", "ends"] ["net"] (defScope s_unlike_places) := ⟨rfl, rfl, rfl, by decide +kernel, rfl, by decide +kernel, by decide +kernel⟩
theorem sc_reached_places : FnScope ["net", "roads", "reached", "done", "road"] ["net"] (defScope s_reached_places) := ⟨rfl, rfl, rfl, by decide +kernel, rfl, by decide +kernel, by decide +kernel⟩
theorem sc_apart_places : FnScope ["net", "reached"] ["net"] (defScope s_apart_places) := ⟨rfl, rfl, rfl, by decide +kernel, rfl, by decide +kernel, by decide +kernel⟩
theorem sc_why : FnScope ["net", "unlike", "apart"] ["net"] (defScope s_why) := ⟨rfl, rfl, rfl, by decide +kernel, rfl, by decide +kernel, by decide +kernel⟩
theorem sc_is_ring : FnScope ["net", "ring", "roads", "starts", "ends"] ["net", "ring"] (defScope s_is_ring) := ⟨rfl, rfl, rfl, by decide +kernel, rfl, by decide +kernel, by decide +kernel⟩
theorem sc_many_rings : FnScope ["net"] ["net"] (defScope s_many_rings) := ⟨rfl, rfl, rfl, by decide +kernel, rfl, by decide +kernel, by decide +kernel⟩
theorem sc_ring_at : FnScope ["net", "number", "many", "tree", "orders", "place"] ["net", "number"] (defScope s_ring_at) := ⟨rfl, rfl, rfl, by decide +kernel, rfl, by decide +kernel, by decide +kernel⟩
theorem sc_ring_number : FnScope ["net", "ring", "roads", "first", "tree", "number", "many", "place", "order", "free"] ["net", "ring"] (defScope s_ring_number) := ⟨rfl, rfl, rfl, by decide +kernel, rfl, by decide +kernel, by decide +kernel⟩
theorem sc_x_law_cell_at : FnScope ["script", "k"] ["script", "k"] (defScope s_x_law_cell_at) := ⟨rfl, rfl, rfl, by decide +kernel, rfl, by decide +kernel, by decide +kernel⟩
theorem sc_x_law_whole : FnScope ["found"] ["found"] (defScope s_x_law_whole) := ⟨rfl, rfl, rfl, by decide +kernel, rfl, by decide +kernel, by decide +kernel⟩
theorem sc_x_law_draw : FnScope ["cell", "k", "bound", "one", "two"] ["cell", "k", "bound"] (defScope s_x_law_draw) := ⟨rfl, rfl, rfl, by decide +kernel, rfl, by decide +kernel, by decide +kernel⟩
theorem sc_x_law_numbers : FnScope ["found", "due", "x"] ["found", "due"] (defScope s_x_law_numbers) := ⟨rfl, rfl, rfl, by decide +kernel, rfl, by decide +kernel, by decide +kernel⟩
theorem sc_x_law_net : FnScope ["script", "at", "most", "extra", "many", "more", "cell", "pairs", "k", "start", "turn"] ["script", "at", "most", "extra"] (defScope s_x_law_net) := ⟨rfl, rfl, rfl, by decide +kernel, rfl, by decide +kernel, by decide +kernel⟩
theorem sc_x_law_even : FnScope ["script", "at", "most", "extra", "many", "more", "cell", "pairs", "k", "here", "start", "there", "step"] ["script", "at", "most", "extra"] (defScope s_x_law_even) := ⟨rfl, rfl, rfl, by decide +kernel, rfl, by decide +kernel, by decide +kernel⟩
theorem sc_x_law_due : FnScope ["many", "pairs", "unlike", "place", "out", "pair", "met", "step", "apart"] ["many", "pairs"] (defScope s_x_law_due) := ⟨rfl, rfl, rfl, by decide +kernel, rfl, by decide +kernel, by decide +kernel⟩
theorem sc_x_law_refused : FnScope ["net", "told", "e"] ["net"] (defScope s_x_law_refused) := ⟨rfl, rfl, rfl, by decide +kernel, rfl, by decide +kernel, by decide +kernel⟩
theorem sc_x_law_no_ring : FnScope ["net", "ring", "told", "e"] ["net", "ring"] (defScope s_x_law_no_ring) := ⟨rfl, rfl, rfl, by decide +kernel, rfl, by decide +kernel, by decide +kernel⟩
theorem sc_law : FnScope ["script", "drawn", "way", "other", "beside", "both", "net", "due", "turn", "found", "many"] ["script"] (defScope s_law) := ⟨rfl, rfl, rfl, by decide +kernel, rfl, by decide +kernel, by decide +kernel⟩
section
variable {CX : CXT} {P : Program} {w : World} {K : PySem.W.Frag} {mg : Str → Option Value} {base : Heap} {t : Adr}
def sp_lies_within : Sp := fun vs H Q _ => ∃ a b : Int, vs = [.int a, .int b] ∧ Q (.bl (within a b)) H
theorem ok_lies_within (c0 : NoX CX) (T : Txt K mg t) : FnOk P w K mg base CX 1 t.f_lies_within t.d_lies_within ["place", "places"] sp_lies_within := by
  refine T.F_lies_within.okX sc_lies_within (fun vs H Q E h => ?_) (fun cdv A outer s H vs Q E hr h => ?_)
  · obtain ⟨a, b, rfl, _⟩ := h
    rfl
  · obtain ⟨a, b, rfl, q⟩ := h
    refine ⟨_, (pss_one (ps_ret (pe_chain op_le op_lt pe_int (pv 0) (pv 1)))), ?_⟩
    simp only [tSeq, tRet, tRetN, tAsg, tIfS, tDrop, tNext, tChain, tC, tVar, tOp, tUn, tTest, tB, tAnd, tOr, tNot, tAndV, tOrV, tNotV, tIf, tCall, tCons, tNil, tCB, tTup, tLst, tFld, sFld, tMeth, tMake, tBM, tBM0, tSl, tPart, tNoPart, tYes, tNever, tBreak, tCont, gName, gCons, gNil, gTup, rI0, rI, rU, rEq, rNe, iList, iTup, iRng1, iRng2, iEnum, iZip, tBlk, tFor_eq, tRaiseS, tCallS, tMethS, tMakeS, tFstr, jCons, jNil, tFmt, tryIn_K, suite_K, cxOf_K, nox_K, wish_K, block_K, L2.start, blkStart, V.int.injEq, V.bl.injEq, V.ref.injEq, V.str.injEq, V.ty.injEq, Option.some.injEq, Option.join_some, Option.join_none, List.cons.injEq, exists_eq_left', exists_eq_left, exists_and_left, exists_and_right, exists_eq', exists_eq, and_true, true_and, and_assoc, List.map_cons, List.map_nil, List.length_cons, List.length_nil, Nat.reduceAdd, Nat.reduceSub, Nat.sub_self, List.replicate_zero, List.replicate_succ, List.cons_append, List.nil_append, List.append_nil, List.getElem?_cons_zero, List.getElem?_cons_succ, List.set_cons_zero, List.set_cons_succ, Bool.not_eq_true, Bool.false_eq_true, if_true, if_false]
    by_cases h : 0 ≤ a
    · rw [if_pos (decide_eq_true h)]
      have e : within a b = decide (a < b) := by simp [within, h]
      rw [← e]; exact q
    · rw [if_neg (by simp [h])]
      have e : within a b = false := by simp [within, h]
      rw [← e]; exact q
def sp_ends_lie_within (K : PySem.W.Frag) : Sp := fun vs H Q _ => ∃ (p : Addr) (ps : List Pr) (n : Int), vs = [.ref p, .int n] ∧ PairsAt K H p ps ∧ ps.length ≤ 1000 ∧ ∀ H', Same H H' → Q (.bl (endsOk n ps)) H'
theorem ok_ends_lie_within (c0 : NoX CX) (T : Txt K mg t) : FnOk P w K mg base CX 2 t.f_ends_lie_within t.d_ends_lie_within ["roads", "places"] (sp_ends_lie_within K) := by
  refine T.F_ends_lie_within.okX sc_ends_lie_within (fun vs H Q E h => ?_) (fun cdv A outer s H vs Q E hr h => ?_)
  · obtain ⟨a, b, n, rfl, _⟩ := h
    rfl
  · obtain ⟨p, ps, n, rfl, ⟨as, hs, ht⟩, hl, q⟩ := h
    have la := ht.len
    refine ⟨_, (pss_one (ps_ret (pe_callB (call_all (by rfl)) (by rfl) T.n_all (by decide +kernel : bootBuiltins "all" = some (.builtin "all")) (pa_cons (pe_comp (own := (["start", "end"] : List Str)) (fr := (["places"] : List Str)) (ix := ([1] : List Nat)) (by rfl) ⟨by rfl, by decide +kernel, by rfl, by rfl, by rfl⟩ (pi_list (pv 0)) (fun _ => (pg_tup (n := 2) (by rfl) (pgs_cons (pg_name (i := 0) (show List.Nodup (["start", "end", "places"] : List Str) by decide +kernel) (by rfl) (Or.inl rfl)) (pgs_cons (pg_name (i := 1) (show List.Nodup (["start", "end", "places"] : List Str) by decide +kernel) (by rfl) (Or.inl rfl)) pgs_nil)))) (fun _ hB => pts_nil) (fun _ hB => (pe_and (pe_call (ok_lies_within c0 T) (hr.mono (by decide)) (by rfl) T.m_lies_within T.F_lies_within.kp T.b_lies_within .nil (pass1 c0) (pa_cons (pv 0) (pa_cons (pv 2) pa_nil))) (pe_one (pe_call (ok_lies_within c0 T) (hr.mono (by decide)) (by rfl) T.m_lies_within T.F_lies_within.kp T.b_lies_within .nil (pass1 c0) (pa_cons (pv 1) (pa_cons (pv 2) pa_nil))))))) pa_nil)))), ?_⟩
    simp only [tSeq, tRet, tRetN, tAsg, tIfS, tDrop, tNext, tChain, tC, tVar, tOp, tUn, tTest, tB, tAnd, tOr, tNot, tAndV, tOrV, tNotV, tIf, tCall, tCons, tNil, tCB, tTup, tLst, tFld, sFld, tMeth, tMake, tBM, tBM0, tSl, tPart, tNoPart, tYes, tNever, tBreak, tCont, gName, gCons, gNil, gTup, rI0, rI, rU, rEq, rNe, iList, iTup, iRng1, iRng2, iEnum, iZip, tBlk, tFor_eq, tRaiseS, tCallS, tMethS, tMakeS, tFstr, jCons, jNil, tFmt, tryIn_K, suite_K, cxOf_K, nox_K, wish_K, block_K, L2.start, blkStart, V.int.injEq, V.bl.injEq, V.ref.injEq, V.str.injEq, V.ty.injEq, Option.some.injEq, Option.join_some, Option.join_none, List.cons.injEq, exists_eq_left', exists_eq_left, exists_and_left, exists_and_right, exists_eq', exists_eq, and_true, true_and, and_assoc, List.map_cons, List.map_nil, List.length_cons, List.length_nil, Nat.reduceAdd, Nat.reduceSub, Nat.sub_self, List.replicate_zero, List.replicate_succ, List.cons_append, List.nil_append, List.append_nil, List.getElem?_cons_zero, List.getElem?_cons_succ, List.set_cons_zero, List.set_cons_succ, Bool.not_eq_true, Bool.false_eq_true, if_true, if_false]
    refine ⟨⟨_, hs⟩, blk_list (xs := as.map V.ref) (fun i ys σ H' => ∃ u v, σ = [u, v, some (.int n)] ∧ Same H H' ∧ ys = ((ps.take i).map fun q => V.bl (within q.1 n && within q.2 n))) (by rw [List.length_map, la]; exact small_le hl) ⟨none, none, rfl, Same.refl _, rfl⟩ ?_ ?_ ?_⟩
    · rintro i ys σ H1 hi ⟨u, v, rfl, s1, rfl⟩
      exact ⟨s1.seq hs, by simp; omega⟩
    · rintro bk i x ys σ H1 hx ⟨u, v, rfl, s1, rfl⟩
      obtain ⟨a, rfl, ha⟩ := map_ref hx
      obtain ⟨q, hq, hH⟩ := ht.get ha
      refine gtup2 (SqT.of (s1 _ _ hH)) ?_
      simp only [tSeq, tRet, tRetN, tAsg, tIfS, tDrop, tNext, tChain, tC, tVar, tOp, tUn, tTest, tB, tAnd, tOr, tNot, tAndV, tOrV, tNotV, tIf, tCall, tCons, tNil, tCB, tTup, tLst, tFld, sFld, tMeth, tMake, tBM, tBM0, tSl, tPart, tNoPart, tYes, tNever, tBreak, tCont, gName, gCons, gNil, gTup, rI0, rI, rU, rEq, rNe, iList, iTup, iRng1, iRng2, iEnum, iZip, tBlk, tFor_eq, tRaiseS, tCallS, tMethS, tMakeS, tFstr, jCons, jNil, tFmt, tryIn_K, suite_K, cxOf_K, nox_K, wish_K, block_K, L2.start, blkStart, V.int.injEq, V.bl.injEq, V.ref.injEq, V.str.injEq, V.ty.injEq, Option.some.injEq, Option.join_some, Option.join_none, List.cons.injEq, exists_eq_left', exists_eq_left, exists_and_left, exists_and_right, exists_eq', exists_eq, and_true, true_and, and_assoc, List.map_cons, List.map_nil, List.length_cons, List.length_nil, Nat.reduceAdd, Nat.reduceSub, Nat.sub_self, List.replicate_zero, List.replicate_succ, List.cons_append, List.nil_append, List.append_nil, List.getElem?_cons_zero, List.getElem?_cons_succ, List.set_cons_zero, List.set_cons_succ, Bool.not_eq_true, Bool.false_eq_true, if_true, if_false, sp_lies_within]
      rw [take_map_succ _ hq]
      cases e : within q.1 n <;> simp [e, s1]
    · rintro ys σ H1 D ⟨u, v, rfl, s1, rfl⟩ hD
      refine ⟨_, rfl, ps.map fun q => within q.1 n && within q.2 n, ?_, ?_⟩
      · rw [List.length_map, la, List.take_length, List.map_map]
        exact SqL.of upd_same
      · have e : endsOk n ps = (ps.map fun q => within q.1 n && within q.2 n).all id := by simp [endsOk]
        rw [← e]
        exact q _ (s1.upd' hD)
def sp_each_place_has_exit (K : PySem.W.Frag) : Sp := fun vs H Q _ => ∃ (p : Addr) (ps : List Pr) (n : Int), vs = [.ref p, .int n] ∧ PairsAt K H p ps ∧ ps.length ≤ 1000 ∧ n ≤ 1000 ∧ -1000 ≤ n ∧ ∀ H', Same H H' → Q (.bl (exitsOk n ps)) H'
theorem ok_each_place_has_exit (c0 : NoX CX) (T : Txt K mg t) : FnOk P w K mg base CX 1 t.f_each_place_has_exit t.d_each_place_has_exit ["roads", "places"] (sp_each_place_has_exit K) := by
  refine T.F_each_place_has_exit.okX sc_each_place_has_exit (fun vs H Q E h => ?_) (fun cdv A outer s H vs Q E hr h => ?_)
  · obtain ⟨a, b, n, rfl, _⟩ := h
    rfl
  · obtain ⟨p, ps, n, rfl, ⟨as, hs, ht⟩, hl, hn1, hn2, q⟩ := h
    have la := ht.len
    refine ⟨_, (pss_cons (ps_set (i := 2) sc_each_place_has_exit.nd (by rfl) (Or.inr rfl) (pe_comp (own := (["start", "end"] : List Str)) (fr := ([] : List Str)) (ix := ([] : List Nat)) (by rfl) ⟨by rfl, by decide +kernel, by rfl, by rfl, by rfl⟩ (pi_list (pv 0)) (fun _ => (pg_tup (n := 2) (by rfl) (pgs_cons (pg_name (i := 0) (show List.Nodup (["start", "end"] : List Str) by decide +kernel) (by rfl) (Or.inl rfl)) (pgs_cons (pg_name (i := 1) (show List.Nodup (["start", "end"] : List Str) by decide +kernel) (by rfl) (Or.inl rfl)) pgs_nil)))) (fun _ hB => pts_nil) (fun _ hB => (pv 0))))
  (pss_one (ps_ret (pe_callB (call_all (by rfl)) (by rfl) T.n_all (by decide +kernel : bootBuiltins "all" = some (.builtin "all")) (pa_cons (pe_comp (own := (["place"] : List Str)) (fr := (["starts"] : List Str)) (ix := ([2] : List Nat)) (by rfl) ⟨by rfl, by decide +kernel, by rfl, by rfl, by rfl⟩ (pi_range1 (by rfl) T.n_range (pa_cons (pv 1) pa_nil)) (fun _ => (pg_name (i := 0) (show List.Nodup (["place", "starts"] : List Str) by decide +kernel) (by rfl) (Or.inl rfl))) (fun _ hB => pts_nil) (fun _ hB => (pe_cmpR op_in_seq (pv 0) (pv 1) (by with_unfolding_all rfl)))) pa_nil))))), ?_⟩
    simp only [tSeq, tRet, tRetN, tAsg, tIfS, tDrop, tNext, tChain, tC, tVar, tOp, tUn, tTest, tB, tAnd, tOr, tNot, tAndV, tOrV, tNotV, tIf, tCall, tCons, tNil, tCB, tTup, tLst, tFld, sFld, tMeth, tMake, tBM, tBM0, tSl, tPart, tNoPart, tYes, tNever, tBreak, tCont, gName, gCons, gNil, gTup, rI0, rI, rU, rEq, rNe, iList, iTup, iRng1, iRng2, iEnum, iZip, tBlk, tFor_eq, tRaiseS, tCallS, tMethS, tMakeS, tFstr, jCons, jNil, tFmt, tryIn_K, suite_K, cxOf_K, nox_K, wish_K, block_K, L2.start, blkStart, V.int.injEq, V.bl.injEq, V.ref.injEq, V.str.injEq, V.ty.injEq, Option.some.injEq, Option.join_some, Option.join_none, List.cons.injEq, exists_eq_left', exists_eq_left, exists_and_left, exists_and_right, exists_eq', exists_eq, and_true, true_and, and_assoc, List.map_cons, List.map_nil, List.length_cons, List.length_nil, Nat.reduceAdd, Nat.reduceSub, Nat.sub_self, List.replicate_zero, List.replicate_succ, List.cons_append, List.nil_append, List.append_nil, List.getElem?_cons_zero, List.getElem?_cons_succ, List.set_cons_zero, List.set_cons_succ, Bool.not_eq_true, Bool.false_eq_true, if_true, if_false]
    refine ⟨⟨_, hs⟩, blk_list (xs := as.map V.ref) (fun i ys σ H' => ∃ u v, σ = [u, v] ∧ Same H H' ∧ ys = ((ps.take i).map fun q => V.int q.1)) (by rw [List.length_map, la]; exact small_le hl) ⟨none, none, rfl, Same.refl _, rfl⟩ ?_ ?_ ?_⟩
    · rintro i ys σ H1 hi ⟨u, v, rfl, s1, rfl⟩
      exact ⟨s1.seq hs, by simp; omega⟩
    · rintro bk i x ys σ H1 hx ⟨u, v, rfl, s1, rfl⟩
      obtain ⟨a, rfl, ha⟩ := map_ref hx
      obtain ⟨q, hq, hH⟩ := ht.get ha
      refine gtup2 (SqT.of (s1 _ _ hH)) ?_
      simp only [tSeq, tRet, tRetN, tAsg, tIfS, tDrop, tNext, tChain, tC, tVar, tOp, tUn, tTest, tB, tAnd, tOr, tNot, tAndV, tOrV, tNotV, tIf, tCall, tCons, tNil, tCB, tTup, tLst, tFld, sFld, tMeth, tMake, tBM, tBM0, tSl, tPart, tNoPart, tYes, tNever, tBreak, tCont, gName, gCons, gNil, gTup, rI0, rI, rU, rEq, rNe, iList, iTup, iRng1, iRng2, iEnum, iZip, tBlk, tFor_eq, tRaiseS, tCallS, tMethS, tMakeS, tFstr, jCons, jNil, tFmt, tryIn_K, suite_K, cxOf_K, nox_K, wish_K, block_K, L2.start, blkStart, V.int.injEq, V.bl.injEq, V.ref.injEq, V.str.injEq, V.ty.injEq, Option.some.injEq, Option.join_some, Option.join_none, List.cons.injEq, exists_eq_left', exists_eq_left, exists_and_left, exists_and_right, exists_eq', exists_eq, and_true, true_and, and_assoc, List.map_cons, List.map_nil, List.length_cons, List.length_nil, Nat.reduceAdd, Nat.reduceSub, Nat.sub_self, List.replicate_zero, List.replicate_succ, List.cons_append, List.nil_append, List.append_nil, List.getElem?_cons_zero, List.getElem?_cons_succ, List.set_cons_zero, List.set_cons_succ, Bool.not_eq_true, Bool.false_eq_true, if_true, if_false]
      rw [take_map_succ _ hq]
      exact ⟨s1, rfl⟩
    · rintro ys σ H1 D ⟨u, v, rfl, s1, rfl⟩ hD
      rw [List.length_map, la, List.take_length]
      refine ⟨by omega, by omega, blk_range (fun i ys σ H' => ∃ u, σ = [u, some (.ref D)] ∧ Same (upd H1 D (.lst (ps.map fun q => V.int q.1))) H' ∧ ys = ((List.range i).map fun (k : Nat) => V.bl (ps.any fun q => q.1 == (k : Int)))) (small_le (by omega)) ⟨none, rfl, Same.refl _, rfl⟩ ?_ ?_ ?_⟩
      · rintro i ys σ H2 hi ⟨u, rfl, s2, rfl⟩
        simp
      · rintro bk i ys σ H2 hi ⟨u, rfl, s2, rfl⟩
        simp only [tSeq, tRet, tRetN, tAsg, tIfS, tDrop, tNext, tChain, tC, tVar, tOp, tUn, tTest, tB, tAnd, tOr, tNot, tAndV, tOrV, tNotV, tIf, tCall, tCons, tNil, tCB, tTup, tLst, tFld, sFld, tMeth, tMake, tBM, tBM0, tSl, tPart, tNoPart, tYes, tNever, tBreak, tCont, gName, gCons, gNil, gTup, rI0, rI, rU, rEq, rNe, iList, iTup, iRng1, iRng2, iEnum, iZip, tBlk, tFor_eq, tRaiseS, tCallS, tMethS, tMakeS, tFstr, jCons, jNil, tFmt, tryIn_K, suite_K, cxOf_K, nox_K, wish_K, block_K, L2.start, blkStart, V.int.injEq, V.bl.injEq, V.ref.injEq, V.str.injEq, V.ty.injEq, Option.some.injEq, Option.join_some, Option.join_none, List.cons.injEq, exists_eq_left', exists_eq_left, exists_and_left, exists_and_right, exists_eq', exists_eq, and_true, true_and, and_assoc, List.map_cons, List.map_nil, List.length_cons, List.length_nil, Nat.reduceAdd, Nat.reduceSub, Nat.sub_self, List.replicate_zero, List.replicate_succ, List.cons_append, List.nil_append, List.append_nil, List.getElem?_cons_zero, List.getElem?_cons_succ, List.set_cons_zero, List.set_cons_succ, Bool.not_eq_true, Bool.false_eq_true, if_true, if_false, rIn]
        refine ⟨_, Or.inl (SqL.of (s2 _ _ upd_same)), rfl, ?_, ?_⟩
        · simp [flatV]
        · refine ⟨s2, ?_⟩
          rw [List.range_succ, List.map_append]
          simp [inV, eqV, List.any_map, Function.comp_def]
      · rintro ys σ H2 D2 ⟨u, rfl, s2, rfl⟩ hD2
        refine ⟨_, rfl, (List.range n.toNat).map fun (k : Nat) => ps.any fun q => q.1 == (k : Int), ?_, ?_⟩
        · rw [List.map_map]
          exact SqL.of upd_same
        · have e : exitsOk n ps = ((List.range n.toNat).map fun (k : Nat) => ps.any fun q => q.1 == (k : Int)).all id := by simp [exitsOk, List.all_map, Function.comp_def]
          rw [← e]
          exact q _ ((s1.upd' hD).trans (s2.upd' hD2))
theorem netOk_parts {n : Int} {ps : List Pr} (h : netOk n ps = true) : (1 ≤ n ∧ n ≤ 32) ∧ (1 ≤ ps.length ∧ ps.length ≤ 64) ∧ endsOk n ps = true ∧ exitsOk n ps = true := by
  simp only [netOk, Bool.and_eq_true, decide_eq_true_eq] at h
  obtain ⟨⟨⟨a, b⟩, c⟩, d⟩ := h
  exact ⟨a, b, c, d⟩
def sp_check_net (K : PySem.W.Frag) : Sp := fun vs H Q _ => ∃ (p : Addr) (ps : List Pr) (n : Int), vs = [.int n, .ref p] ∧ PairsAt K H p ps ∧ netOk n ps = true ∧ ∀ H', Same H H' → Q .non H'
theorem ok_check_net (c0 : NoX CX) (T : Txt K mg t) : FnOk P w K mg base CX 3 t.f_check_net t.d_check_net ["places", "roads"] (sp_check_net K) := by
  refine T.F_check_net.okX sc_check_net (fun vs H Q E h => ?_) (fun cdv A outer s H vs Q E hr h => ?_)
  · obtain ⟨a, b, n, rfl, _⟩ := h
    rfl
  · obtain ⟨p, ps, n, rfl, hp, hn, q⟩ := h
    obtain ⟨⟨n1, n2⟩, ⟨l1, l2⟩, he, hx⟩ := netOk_parts hn
    obtain ⟨as, hs, ht⟩ := id hp
    have la := ht.len
    refine ⟨_, (pss_cons (ps_if (pt_not (pt_chain op_le op_le pe_int (pv 0) (pe_glob (by rfl) T.m_MOST_PLACES T.r_MOST_PLACES)))
  (pss_one ps_never)
  pss_nil)
  (pss_cons (ps_if (pt_not (pt_chain op_le op_le pe_int (pe_callB call_len (by rfl) T.n_len (by decide +kernel : bootBuiltins "len" = some (.builtin "len")) (pa_cons (pv 1) pa_nil)) (pe_glob (by rfl) T.m_MOST_ROADS T.r_MOST_ROADS)))
  (pss_one ps_never)
  pss_nil)
  (pss_cons (ps_if (pt_not (pt_val (pe_call (ok_ends_lie_within c0 T) (hr.mono (by decide)) (by rfl) T.m_ends_lie_within T.F_ends_lie_within.kp T.b_ends_lie_within .nil (pass1 c0) (pa_cons (pv 1) (pa_cons (pv 0) pa_nil)))))
  (pss_one ps_never)
  pss_nil)
  (pss_one (ps_if (pt_not (pt_val (pe_call (ok_each_place_has_exit c0 T) (hr.mono (by decide)) (by rfl) T.m_each_place_has_exit T.F_each_place_has_exit.kp T.b_each_place_has_exit .nil (pass1 c0) (pa_cons (pv 1) (pa_cons (pv 0) pa_nil)))))
  (pss_one ps_never)
  pss_nil))))), ?_⟩
    simp only [tSeq, tRet, tRetN, tAsg, tIfS, tDrop, tNext, tChain, tC, tVar, tOp, tUn, tTest, tB, tAnd, tOr, tNot, tAndV, tOrV, tNotV, tIf, tCall, tCons, tNil, tCB, tTup, tLst, tFld, sFld, tMeth, tMake, tBM, tBM0, tSl, tPart, tNoPart, tYes, tNever, tBreak, tCont, gName, gCons, gNil, gTup, rI0, rI, rU, rEq, rNe, iList, iTup, iRng1, iRng2, iEnum, iZip, tBlk, tFor_eq, tRaiseS, tCallS, tMethS, tMakeS, tFstr, jCons, jNil, tFmt, tryIn_K, suite_K, cxOf_K, nox_K, wish_K, block_K, L2.start, blkStart, V.int.injEq, V.bl.injEq, V.ref.injEq, V.str.injEq, V.ty.injEq, Option.some.injEq, Option.join_some, Option.join_none, List.cons.injEq, exists_eq_left', exists_eq_left, exists_and_left, exists_and_right, exists_eq', exists_eq, and_true, true_and, and_assoc, List.map_cons, List.map_nil, List.length_cons, List.length_nil, Nat.reduceAdd, Nat.reduceSub, Nat.sub_self, List.replicate_zero, List.replicate_succ, List.cons_append, List.nil_append, List.append_nil, List.getElem?_cons_zero, List.getElem?_cons_succ, List.set_cons_zero, List.set_cons_succ, Bool.not_eq_true, Bool.false_eq_true, if_true, if_false]
    rw [if_pos (decide_eq_true n1), if_neg (by simp [n2])]
    refine ⟨_, lenL hs, ?_⟩
    rw [List.length_map, la, if_pos (decide_eq_true (by omega)), if_neg (by rw [decide_eq_true (by omega)]; simp)]
    refine ⟨p, ps, n, rfl, hp, by omega, fun H1 s1 => ?_⟩
    rw [he]
    refine ⟨_, rfl, iteF ?_⟩
    refine ⟨p, ps, n, rfl, hp.same s1, by omega, by omega, by omega, fun H2 s2 => ?_⟩
    rw [hx]
    exact ⟨_, rfl, iteF (q H2 (s1.trans s2))⟩
theorem kc : ¬ (("place_count" : Str) = "road_pairs") := by decide +kernel
def nfl (l : Addr) (n : Int) : List (Str × V) := putF "road_pairs" (.ref l) (putF "place_count" (.int n) [])
theorem nfl_count (l : Addr) (n : Int) : (nfl l n).lookup ("place_count" : Str) = some (.int n) := by
  unfold nfl
  rw [lookup_putF, if_neg kc, lookup_putF, if_pos rfl]
theorem nfl_pairs (l : Addr) (n : Int) : (nfl l n).lookup ("road_pairs" : Str) = some (.ref l) := by
  unfold nfl
  rw [lookup_putF, if_pos rfl]
theorem nfl_no (l : Addr) (n : Int) {m : Str} (h1 : ¬ m = "place_count") (h2 : ¬ m = "road_pairs") : (nfl l n).lookup m = none := by
  unfold nfl
  rw [lookup_putF, if_neg h2, lookup_putF, if_neg h1]
  all_goals rfl
/-- a Net stands at x -/
structure NetAt (C : Addr) (H : Hp) (x : Addr) (l : Addr) (as : List Addr) (n : Int) (ps : List Pr) : Prop where
  ob : ∃ dx, H x = some (.ins C dx (nfl l n))
  ls : H l = some (.lst (as.map V.ref))
  ts : TupsAt H as ps
  ok : netOk n ps = true
theorem NetAt.same {C : Addr} {H H' : Hp} {x l : Addr} {as : List Addr} {n : Int} {ps : List Pr} (N : NetAt C H x l as n ps) (s : Same H H') : NetAt C H' x l as n ps :=
  ⟨let ⟨dx, e⟩ := N.ob; ⟨dx, s _ _ e⟩, s _ _ N.ls, N.ts.same s, N.ok⟩
def sp_init (K : PySem.W.Frag) (C : Addr) : Sp := fun vs H Q _ => ∃ (x dx p : Addr) (ps : List Pr) (n : Int), vs = [.ref x, .int n, .ref p] ∧ H x = some (.ins C dx []) ∧ PairsAt K H p ps ∧ netOk n ps = true ∧
  ∀ (l : Addr) (as : List Addr) (H' : Hp), H l = none → (∀ b o, H b = some o → b ≠ x → H' b = some o) → NetAt C H' x l as n ps → Q .non H'
theorem ok_Net____init__ (c0 : NoX CX) (T : Txt K mg t) : FnOk P w K mg base CX 4 t.f_Net____init__ t.d_Net____init__ ["self", "places", "roads"] (sp_init K t.C_Net) := by
  refine T.F_Net____init__.okX sc_Net____init__ (fun vs H Q E h => ?_) (fun cdv A outer s H vs Q E hr h => ?_)
  · obtain ⟨x, dx, p, ps, n, rfl, _⟩ := h
    rfl
  · obtain ⟨x, dx, p, ps, n, rfl, hx, hp, hn, q⟩ := h
    obtain ⟨⟨n1, n2⟩, ⟨l1, l2⟩, _, _⟩ := netOk_parts hn
    obtain ⟨as, hs, ht⟩ := id hp
    have la := ht.len
    refine ⟨_, (pss_cons (ps_expr (pe_call (ok_check_net c0 T) (hr.mono (by decide)) (by rfl) T.m_check_net T.F_check_net.kp T.b_check_net .nil (pass1 c0) (pa_cons (pv 1) (pa_cons (pv 2) pa_nil))))
  (pss_cons (ps_fld (pv 0) (pv 1) (by rfl))
  (pss_one (ps_fld (pv 0) (pe_comp (own := (["start", "end"] : List Str)) (fr := ([] : List Str)) (ix := ([] : List Nat)) (by rfl) ⟨by rfl, by decide +kernel, by rfl, by rfl, by rfl⟩ (pi_list (pv 2)) (fun _ => (pg_tup (n := 2) (by rfl) (pgs_cons (pg_name (i := 0) (show List.Nodup (["start", "end"] : List Str) by decide +kernel) (by rfl) (Or.inl rfl)) (pgs_cons (pg_name (i := 1) (show List.Nodup (["start", "end"] : List Str) by decide +kernel) (by rfl) (Or.inl rfl)) pgs_nil)))) (fun _ hB => pts_nil) (fun _ hB => (pe_tup (pa_cons (pv 0) (pa_cons (pv 1) pa_nil))))) (by rfl))))), ?_⟩
    simp only [tSeq, tRet, tRetN, tAsg, tIfS, tDrop, tNext, tChain, tC, tVar, tOp, tUn, tTest, tB, tAnd, tOr, tNot, tAndV, tOrV, tNotV, tIf, tCall, tCons, tNil, tCB, tTup, tLst, tFld, sFld, tMeth, tMake, tBM, tBM0, tSl, tPart, tNoPart, tYes, tNever, tBreak, tCont, gName, gCons, gNil, gTup, rI0, rI, rU, rEq, rNe, iList, iTup, iRng1, iRng2, iEnum, iZip, tBlk, tFor_eq, tRaiseS, tCallS, tMethS, tMakeS, tFstr, jCons, jNil, tFmt, tryIn_K, suite_K, cxOf_K, nox_K, wish_K, block_K, L2.start, blkStart, V.int.injEq, V.bl.injEq, V.ref.injEq, V.str.injEq, V.ty.injEq, Option.some.injEq, Option.join_some, Option.join_none, List.cons.injEq, exists_eq_left', exists_eq_left, exists_and_left, exists_and_right, exists_eq', exists_eq, and_true, true_and, and_assoc, List.map_cons, List.map_nil, List.length_cons, List.length_nil, Nat.reduceAdd, Nat.reduceSub, Nat.sub_self, List.replicate_zero, List.replicate_succ, List.cons_append, List.nil_append, List.append_nil, List.getElem?_cons_zero, List.getElem?_cons_succ, List.set_cons_zero, List.set_cons_succ, Bool.not_eq_true, Bool.false_eq_true, if_true, if_false]
    refine ⟨p, ps, n, rfl, hp, hn, fun H1 s1 => ?_⟩
    have hx1 := s1 _ _ hx
    have c1 : ∀ b o, H b = some o → b ≠ x → upd H1 x (.ins t.C_Net dx (putF "place_count" (.int n) [])) b = some o := fun b o e hb => by rw [upd_ne hb]; exact s1 _ _ e
    have npx : ∀ xs, SqL K H1 p xs → SqL K (upd H1 x (.ins t.C_Net dx (putF "place_count" (.int n) []))) p xs := fun xs h => by
      rcases h with (h | ⟨o, h⟩) | h
      · exact .inl (.inl (by rw [upd_ne (ne_of h hx1 (by intro z; cases z))]; exact h))
      · exact .inl (.inr ⟨o, by rw [upd_ne (ne_of h hx1 (by intro z; cases z))]; exact h⟩)
      · exact .inr h
    have hs1 := npx _ (s1.seq hs)
    have ht1 : TupsAt (upd H1 x (.ins t.C_Net dx (putF "place_count" (.int n) []))) as ps := (ht.same s1).upd hx1 (by intro xs z; cases z)
    refine ⟨t.C_Net, dx, [], hx1, T.cl_Net, T.na_Net_place_count, by show 0 < 1000; decide, ⟨_, hs1⟩, blk_list (xs := as.map V.ref) (fun i ys σ H' => ∃ u v bs, σ = [u, v] ∧ Same (upd H1 x (.ins t.C_Net dx (putF "place_count" (.int n) []))) H' ∧ ys = bs.map V.ref ∧ TupsAt H' bs (ps.take i))
      (by rw [List.length_map, la]; exact small_le (by omega)) ⟨none, none, [], rfl, Same.refl _, rfl, .nil⟩ ?_ ?_ ?_⟩
    · rintro i ys σ H2 hi ⟨u, v, bs, rfl, s2, rfl, tb⟩
      exact ⟨s2.seq hs1, by rw [List.length_map, tb.len]; simp; omega⟩
    · rintro bk i y ys σ H2 hy ⟨u, v, bs, rfl, s2, rfl, tb⟩
      obtain ⟨a, rfl, ha⟩ := map_ref hy
      obtain ⟨q', hq, hH⟩ := ht1.get ha
      refine gtup2 (SqT.of (s2 _ _ hH)) ?_
      simp only [tSeq, tRet, tRetN, tAsg, tIfS, tDrop, tNext, tChain, tC, tVar, tOp, tUn, tTest, tB, tAnd, tOr, tNot, tAndV, tOrV, tNotV, tIf, tCall, tCons, tNil, tCB, tTup, tLst, tFld, sFld, tMeth, tMake, tBM, tBM0, tSl, tPart, tNoPart, tYes, tNever, tBreak, tCont, gName, gCons, gNil, gTup, rI0, rI, rU, rEq, rNe, iList, iTup, iRng1, iRng2, iEnum, iZip, tBlk, tFor_eq, tRaiseS, tCallS, tMethS, tMakeS, tFstr, jCons, jNil, tFmt, tryIn_K, suite_K, cxOf_K, nox_K, wish_K, block_K, L2.start, blkStart, V.int.injEq, V.bl.injEq, V.ref.injEq, V.str.injEq, V.ty.injEq, Option.some.injEq, Option.join_some, Option.join_none, List.cons.injEq, exists_eq_left', exists_eq_left, exists_and_left, exists_and_right, exists_eq', exists_eq, and_true, true_and, and_assoc, List.map_cons, List.map_nil, List.length_cons, List.length_nil, Nat.reduceAdd, Nat.reduceSub, Nat.sub_self, List.replicate_zero, List.replicate_succ, List.cons_append, List.nil_append, List.append_nil, List.getElem?_cons_zero, List.getElem?_cons_succ, List.set_cons_zero, List.set_cons_succ, Bool.not_eq_true, Bool.false_eq_true, if_true, if_false]
      refine ⟨by decide, fun d hd => ⟨s2.upd' hd, bs ++ [d], by simp, ?_⟩⟩
      rw [List.take_add_one, hq]
      exact (tb.same (Same.new hd)).append (.cons upd_same .nil)
    · rintro ys σ H2 D ⟨u, v, bs, rfl, s2, rfl, tb⟩ hD
      rw [List.length_map, la, List.take_length] at tb
      have hx2 : upd H2 D (.lst (bs.map V.ref)) x = some (.ins t.C_Net dx (putF "place_count" (.int n) [])) := upd_old (s2 _ _ upd_same) hD
      refine ⟨t.C_Net, dx, _, hx2, T.cl_Net, T.na_Net_road_pairs, by show 1 < 1000; decide, ?_⟩
      have nDx : D ≠ x := fun z => by rw [← z, upd_same] at hx2; cases hx2
      refine q D bs _ ?_ (fun b o e hb => ?_) ⟨⟨dx, upd_same⟩, by rw [upd_ne nDx, upd_same], ?_, hn⟩
      · cases e : H D with
        | none => rfl
        | some o => rw [s2 _ _ (c1 D o e nDx)] at hD; cases hD
      · rw [upd_ne hb]
        exact upd_old (s2 _ _ (c1 b o e hb)) hD
      · exact (tb.same (Same.new hD)).upd hx2 (by intro xs z; cases z)
def sp_places (C : Addr) : Sp := fun vs H Q _ => ∃ (x l : Addr) (as : List Addr) (n : Int) (ps : List Pr), vs = [.ref x] ∧ NetAt C H x l as n ps ∧ Q (.int n) H
theorem ok_Net__places (c0 : NoX CX) (T : Txt K mg t) : FnOk P w K mg base CX 1 t.f_Net__places t.d_Net__places ["self"] (sp_places t.C_Net) := by
  refine T.F_Net__places.okX sc_Net__places (fun vs H Q E h => ?_) (fun cdv A outer s H vs Q E hr h => ?_)
  · obtain ⟨x, l, as, n, ps, rfl, _⟩ := h
    rfl
  · obtain ⟨x, l, as, n, ps, rfl, N, q⟩ := h
    obtain ⟨dx, ex⟩ := N.ob
    refine ⟨_, (pss_one (ps_ret (pe_fld (pv 0) (by rfl)))), ?_⟩
    simp only [tSeq, tRet, tRetN, tAsg, tIfS, tDrop, tNext, tChain, tC, tVar, tOp, tUn, tTest, tB, tAnd, tOr, tNot, tAndV, tOrV, tNotV, tIf, tCall, tCons, tNil, tCB, tTup, tLst, tFld, sFld, tMeth, tMake, tBM, tBM0, tSl, tPart, tNoPart, tYes, tNever, tBreak, tCont, gName, gCons, gNil, gTup, rI0, rI, rU, rEq, rNe, iList, iTup, iRng1, iRng2, iEnum, iZip, tBlk, tFor_eq, tRaiseS, tCallS, tMethS, tMakeS, tFstr, jCons, jNil, tFmt, tryIn_K, suite_K, cxOf_K, nox_K, wish_K, block_K, L2.start, blkStart, V.int.injEq, V.bl.injEq, V.ref.injEq, V.str.injEq, V.ty.injEq, Option.some.injEq, Option.join_some, Option.join_none, List.cons.injEq, exists_eq_left', exists_eq_left, exists_and_left, exists_and_right, exists_eq', exists_eq, and_true, true_and, and_assoc, List.map_cons, List.map_nil, List.length_cons, List.length_nil, Nat.reduceAdd, Nat.reduceSub, Nat.sub_self, List.replicate_zero, List.replicate_succ, List.cons_append, List.nil_append, List.append_nil, List.getElem?_cons_zero, List.getElem?_cons_succ, List.set_cons_zero, List.set_cons_succ, Bool.not_eq_true, Bool.false_eq_true, if_true, if_false]
    exact ⟨_, _, _, ex, T.cl_Net, T.na_Net_place_count, _, nfl_count _ _, q⟩
def sp_roads (C : Addr) : Sp := fun vs H Q _ => ∃ (x l : Addr) (as : List Addr) (n : Int) (ps : List Pr), vs = [.ref x] ∧ NetAt C H x l as n ps ∧ ∀ d, H d = none → Q (.ref d) (upd H d (.lst (as.map V.ref)))
theorem ok_Net__roads (c0 : NoX CX) (T : Txt K mg t) : FnOk P w K mg base CX 1 t.f_Net__roads t.d_Net__roads ["self"] (sp_roads t.C_Net) := by
  refine T.F_Net__roads.okX sc_Net__roads (fun vs H Q E h => ?_) (fun cdv A outer s H vs Q E hr h => ?_)
  · obtain ⟨x, l, as, n, ps, rfl, _⟩ := h
    rfl
  · obtain ⟨x, l, as, n, ps, rfl, N, q⟩ := h
    obtain ⟨dx, ex⟩ := N.ob
    refine ⟨_, (pss_one (ps_ret (pe_callTy call_list_of (by rfl) T.n_list (by decide +kernel : bootBuiltins "list" = some (.type "list")) (pa_cons (pe_fld (pv 0) (by rfl)) pa_nil)))), ?_⟩
    simp only [tSeq, tRet, tRetN, tAsg, tIfS, tDrop, tNext, tChain, tC, tVar, tOp, tUn, tTest, tB, tAnd, tOr, tNot, tAndV, tOrV, tNotV, tIf, tCall, tCons, tNil, tCB, tTup, tLst, tFld, sFld, tMeth, tMake, tBM, tBM0, tSl, tPart, tNoPart, tYes, tNever, tBreak, tCont, gName, gCons, gNil, gTup, rI0, rI, rU, rEq, rNe, iList, iTup, iRng1, iRng2, iEnum, iZip, tBlk, tFor_eq, tRaiseS, tCallS, tMethS, tMakeS, tFstr, jCons, jNil, tFmt, tryIn_K, suite_K, cxOf_K, nox_K, wish_K, block_K, L2.start, blkStart, V.int.injEq, V.bl.injEq, V.ref.injEq, V.str.injEq, V.ty.injEq, Option.some.injEq, Option.join_some, Option.join_none, List.cons.injEq, exists_eq_left', exists_eq_left, exists_and_left, exists_and_right, exists_eq', exists_eq, and_true, true_and, and_assoc, List.map_cons, List.map_nil, List.length_cons, List.length_nil, Nat.reduceAdd, Nat.reduceSub, Nat.sub_self, List.replicate_zero, List.replicate_succ, List.cons_append, List.nil_append, List.append_nil, List.getElem?_cons_zero, List.getElem?_cons_succ, List.set_cons_zero, List.set_cons_succ, Bool.not_eq_true, Bool.false_eq_true, if_true, if_false]
    exact ⟨_, _, _, ex, T.cl_Net, T.na_Net_road_pairs, _, nfl_pairs _ _, _, rfl, _, Or.inl (SqL.of N.ls), q⟩
def sp_check_place : Sp := fun vs H Q _ => ∃ a b : Int, vs = [.int a, .int b] ∧ within a b = true ∧ Q .non H
theorem ok_check_place (c0 : NoX CX) (T : Txt K mg t) : FnOk P w K mg base CX 2 t.f_check_place t.d_check_place ["place", "places"] sp_check_place := by
  refine T.F_check_place.okX sc_check_place (fun vs H Q E h => ?_) (fun cdv A outer s H vs Q E hr h => ?_)
  · obtain ⟨a, b, rfl, _⟩ := h
    rfl
  · obtain ⟨a, b, rfl, hw, q⟩ := h
    refine ⟨_, (pss_one (ps_if (pt_not (pt_val (pe_call (ok_lies_within c0 T) (hr.mono (by decide)) (by rfl) T.m_lies_within T.F_lies_within.kp T.b_lies_within .nil (pass1 c0) (pa_cons (pv 0) (pa_cons (pv 1) pa_nil)))))
  (pss_one ps_never)
  pss_nil)), ?_⟩
    simp only [tSeq, tRet, tRetN, tAsg, tIfS, tDrop, tNext, tChain, tC, tVar, tOp, tUn, tTest, tB, tAnd, tOr, tNot, tAndV, tOrV, tNotV, tIf, tCall, tCons, tNil, tCB, tTup, tLst, tFld, sFld, tMeth, tMake, tBM, tBM0, tSl, tPart, tNoPart, tYes, tNever, tBreak, tCont, gName, gCons, gNil, gTup, rI0, rI, rU, rEq, rNe, iList, iTup, iRng1, iRng2, iEnum, iZip, tBlk, tFor_eq, tRaiseS, tCallS, tMethS, tMakeS, tFstr, jCons, jNil, tFmt, tryIn_K, suite_K, cxOf_K, nox_K, wish_K, block_K, L2.start, blkStart, V.int.injEq, V.bl.injEq, V.ref.injEq, V.str.injEq, V.ty.injEq, Option.some.injEq, Option.join_some, Option.join_none, List.cons.injEq, exists_eq_left', exists_eq_left, exists_and_left, exists_and_right, exists_eq', exists_eq, and_true, true_and, and_assoc, List.map_cons, List.map_nil, List.length_cons, List.length_nil, Nat.reduceAdd, Nat.reduceSub, Nat.sub_self, List.replicate_zero, List.replicate_succ, List.cons_append, List.nil_append, List.append_nil, List.getElem?_cons_zero, List.getElem?_cons_succ, List.set_cons_zero, List.set_cons_succ, Bool.not_eq_true, Bool.false_eq_true, if_true, if_false]
    refine ⟨a, b, rfl, ?_⟩
    rw [hw]
    exact ⟨_, rfl, iteF q⟩
def sp_exits (C : Addr) : Sp := fun vs H Q _ => ∃ (x l : Addr) (as : List Addr) (n : Int) (ps : List Pr) (k : Int), vs = [.ref x, .int k] ∧ NetAt C H x l as n ps ∧ within k n = true ∧
  ∀ d H', Same H H' → H d = none → H' d = some (.lst (nats (exitsOf ps k))) → Q (.ref d) H'
theorem ok_Net__exits (c0 : NoX CX) (T : Txt K mg t) : FnOk P w K mg base CX 3 t.f_Net__exits t.d_Net__exits ["self", "place"] (sp_exits t.C_Net) := by
  refine T.F_Net__exits.okX sc_Net__exits (fun vs H Q E h => ?_) (fun cdv A outer s H vs Q E hr h => ?_)
  · obtain ⟨x, l, as, n, ps, k, rfl, _⟩ := h
    rfl
  · obtain ⟨x, l, as, n, ps, k, rfl, N, hk, q⟩ := h
    obtain ⟨dx, ex⟩ := N.ob
    obtain ⟨_, ⟨l1, l2⟩, _, _⟩ := netOk_parts N.ok
    have la := N.ts.len
    refine ⟨_, (pss_cons (ps_expr (pe_call (ok_check_place c0 T) (hr.mono (by decide)) (by rfl) T.m_check_place T.F_check_place.kp T.b_check_place .nil (pass1 c0) (pa_cons (pv 1) (pa_cons (pe_fld (pv 0) (by rfl)) pa_nil))))
  (pss_one (ps_ret (pe_comp (own := (["number", "road"] : List Str)) (fr := (["place"] : List Str)) (ix := ([1] : List Nat)) (by rfl) ⟨by rfl, by decide +kernel, by rfl, by rfl, by rfl⟩ (pi_enum (by rfl) T.n_enumerate (pa_cons (pe_fld (pv 0) (by rfl)) pa_nil)) (fun _ => (pg_tup (n := 2) (by rfl) (pgs_cons (pg_name (i := 0) (show List.Nodup (["number", "road", "place"] : List Str) by decide +kernel) (by rfl) (Or.inl rfl)) (pgs_cons (pg_name (i := 1) (show List.Nodup (["number", "road", "place"] : List Str) by decide +kernel) (by rfl) (Or.inl rfl)) pgs_nil)))) (fun _ hB => (pts_one (pt_cmpR op_eq (pe_ix ix_tup (pv 1) pe_int (fun _ _ => rfl)) (pv 2) (nomark _)))) (fun _ hB => (pv 0)))))), ?_⟩
    simp only [tSeq, tRet, tRetN, tAsg, tIfS, tDrop, tNext, tChain, tC, tVar, tOp, tUn, tTest, tB, tAnd, tOr, tNot, tAndV, tOrV, tNotV, tIf, tCall, tCons, tNil, tCB, tTup, tLst, tFld, sFld, tMeth, tMake, tBM, tBM0, tSl, tPart, tNoPart, tYes, tNever, tBreak, tCont, gName, gCons, gNil, gTup, rI0, rI, rU, rEq, rNe, iList, iTup, iRng1, iRng2, iEnum, iZip, tBlk, tFor_eq, tRaiseS, tCallS, tMethS, tMakeS, tFstr, jCons, jNil, tFmt, tryIn_K, suite_K, cxOf_K, nox_K, wish_K, block_K, L2.start, blkStart, V.int.injEq, V.bl.injEq, V.ref.injEq, V.str.injEq, V.ty.injEq, Option.some.injEq, Option.join_some, Option.join_none, List.cons.injEq, exists_eq_left', exists_eq_left, exists_and_left, exists_and_right, exists_eq', exists_eq, and_true, true_and, and_assoc, List.map_cons, List.map_nil, List.length_cons, List.length_nil, Nat.reduceAdd, Nat.reduceSub, Nat.sub_self, List.replicate_zero, List.replicate_succ, List.cons_append, List.nil_append, List.append_nil, List.getElem?_cons_zero, List.getElem?_cons_succ, List.set_cons_zero, List.set_cons_succ, Bool.not_eq_true, Bool.false_eq_true, if_true, if_false]
    refine ⟨_, _, _, ex, T.cl_Net, T.na_Net_place_count, _, nfl_count _ _, k, n, rfl, hk, ?_⟩
    refine ⟨_, _, _, ex, T.cl_Net, T.na_Net_road_pairs, _, nfl_pairs _ _, l, rfl, ⟨_, SqL.of N.ls⟩, blk_enum (xs := as.map V.ref) (fun i ys σ H' => ∃ u v, σ = [u, v, some (.int k)] ∧ Same H H' ∧ ys = nats (exitsUp ps k i))
      (by rw [List.length_map, la]; exact small_le (by omega)) ⟨none, none, rfl, Same.refl _, rfl⟩ ?_ ?_ ?_⟩
    · rintro i ys σ H2 hi ⟨u, v, rfl, s2, rfl⟩
      exact ⟨SqL.of (s2 _ _ N.ls), by unfold nats; rw [List.length_map]; exact exitsUp_len _ _ _⟩
    · rintro bk i y ys σ H2 d hy ⟨u, v, rfl, s2, rfl⟩ hd
      obtain ⟨a, rfl, ha⟩ := map_ref hy
      obtain ⟨q', hq, hH⟩ := N.ts.get ha
      refine gtup2 (SqT.of upd_same) ?_
      simp only [tSeq, tRet, tRetN, tAsg, tIfS, tDrop, tNext, tChain, tC, tVar, tOp, tUn, tTest, tB, tAnd, tOr, tNot, tAndV, tOrV, tNotV, tIf, tCall, tCons, tNil, tCB, tTup, tLst, tFld, sFld, tMeth, tMake, tBM, tBM0, tSl, tPart, tNoPart, tYes, tNever, tBreak, tCont, gName, gCons, gNil, gTup, rI0, rI, rU, rEq, rNe, iList, iTup, iRng1, iRng2, iEnum, iZip, tBlk, tFor_eq, tRaiseS, tCallS, tMethS, tMakeS, tFstr, jCons, jNil, tFmt, tryIn_K, suite_K, cxOf_K, nox_K, wish_K, block_K, L2.start, blkStart, V.int.injEq, V.bl.injEq, V.ref.injEq, V.str.injEq, V.ty.injEq, Option.some.injEq, Option.join_some, Option.join_none, List.cons.injEq, exists_eq_left', exists_eq_left, exists_and_left, exists_and_right, exists_eq', exists_eq, and_true, true_and, and_assoc, List.map_cons, List.map_nil, List.length_cons, List.length_nil, Nat.reduceAdd, Nat.reduceSub, Nat.sub_self, List.replicate_zero, List.replicate_succ, List.cons_append, List.nil_append, List.append_nil, List.getElem?_cons_zero, List.getElem?_cons_succ, List.set_cons_zero, List.set_cons_succ, Bool.not_eq_true, Bool.false_eq_true, if_true, if_false, rIxT]
      refine ⟨[.int q'.1, .int q'.2], SqT.of (upd_old (s2 _ _ hH) hd), _, atI_nat (j := 0) rfl, rfl, ?_⟩
      have e : (ps.getD i (0, 0)).1 = q'.1 := by rw [List.getD_eq_getElem?_getD, hq]; rfl
      rw [exitsUp_succ, e, nats_append]
      by_cases h : q'.1 = k
      · simp [h, nats, s2.upd' hd]
      · simp [h, nats, s2.upd' hd]
    · rintro ys σ H2 D ⟨u, v, rfl, s2, rfl⟩ hD
      refine q D _ (s2.upd' hD) (s2.free hD) ?_
      rw [upd_same, List.length_map, la]
      rfl
def sp_first_place (C : Addr) : Sp := fun vs H Q _ => ∃ (x l : Addr) (as : List Addr) (n : Nat) (ps : List Pr), vs = [.ref x] ∧ NetAt C H x l as n ps ∧ ∀ H', Same H H' → Q (.int (stR ps 0)) H'
theorem ok_first_place (c0 : NoX CX) (T : Txt K mg t) : FnOk P w K mg base CX 2 t.f_first_place t.d_first_place ["net"] (sp_first_place t.C_Net) := by
  refine T.F_first_place.okX sc_first_place (fun vs H Q E h => ?_) (fun cdv A outer s H vs Q E hr h => ?_)
  · obtain ⟨x, l, as, n, ps, rfl, _⟩ := h
    rfl
  · obtain ⟨x, l, as, n, ps, rfl, N, q⟩ := h
    obtain ⟨dx, ex⟩ := N.ob
    obtain ⟨⟨n1, n2⟩, ⟨l1, l2⟩, hends, _⟩ := netOk_parts N.ok
    obtain ⟨a, ha, hH⟩ := N.ts.get' (i := 0) (q := ps[0]) (by simp)
    have er : ps[0].1 = ((stR ps 0 : Nat) : Int) := by
      rw [(stR_cast hends (by omega)).1, List.getD_eq_getElem?_getD]
      simp [show 0 < ps.length by omega]
    refine ⟨_, (pss_one (ps_ret (pe_ix ix_tup (pe_ix ix_list (pe_meth0 (pv 0) T.cl_Net T.M_Net__roads (ok_Net__roads c0 T) (hr.mono (by decide)) T.b_Net__roads .nil (pass1 c0)) pe_int (fun _ _ => rfl)) pe_int (fun _ _ => rfl)))), ?_⟩
    simp only [tSeq, tRet, tRetN, tAsg, tIfS, tDrop, tNext, tChain, tC, tVar, tOp, tUn, tTest, tB, tAnd, tOr, tNot, tAndV, tOrV, tNotV, tIf, tCall, tCons, tNil, tCB, tTup, tLst, tFld, sFld, tMeth, tMake, tBM, tBM0, tSl, tPart, tNoPart, tYes, tNever, tBreak, tCont, gName, gCons, gNil, gTup, rI0, rI, rU, rEq, rNe, iList, iTup, iRng1, iRng2, iEnum, iZip, tBlk, tFor_eq, tRaiseS, tCallS, tMethS, tMakeS, tFstr, jCons, jNil, tFmt, tryIn_K, suite_K, cxOf_K, nox_K, wish_K, block_K, L2.start, blkStart, V.int.injEq, V.bl.injEq, V.ref.injEq, V.str.injEq, V.ty.injEq, Option.some.injEq, Option.join_some, Option.join_none, List.cons.injEq, exists_eq_left', exists_eq_left, exists_and_left, exists_and_right, exists_eq', exists_eq, and_true, true_and, and_assoc, List.map_cons, List.map_nil, List.length_cons, List.length_nil, Nat.reduceAdd, Nat.reduceSub, Nat.sub_self, List.replicate_zero, List.replicate_succ, List.cons_append, List.nil_append, List.append_nil, List.getElem?_cons_zero, List.getElem?_cons_succ, List.set_cons_zero, List.set_cons_succ, Bool.not_eq_true, Bool.false_eq_true, if_true, if_false, rIxL, rIxT]
    refine ⟨_, _, ex, nfl_no _ _ (by decide +kernel) (by decide +kernel), x, l, as, n, ps, rfl, N, fun d1 fd1 => ⟨d1, rfl, _, SqL.of upd_same, _, atI_nat (j := 0) (v := .ref a) (by rw [List.getElem?_map, ha]; rfl), a, rfl, _, SqT.of (upd_old hH fd1), _, atI_nat (j := 0) rfl, ?_⟩⟩
    rw [er]
    exact q _ (Same.new fd1)
def sp_unlike (C : Addr) : Sp := fun vs H Q _ => ∃ (x l : Addr) (as : List Addr) (n : Nat) (ps : List Pr), vs = [.ref x] ∧ NetAt C H x l as n ps ∧ ∀ (d : Addr) (H' : Hp), Same H H' → H d = none → H' d = some (.lst (nats (unlikeOf n ps))) → Q (.ref d) H'
theorem ok_unlike_places (c0 : NoX CX) (T : Txt K mg t) : FnOk P w K mg base CX 2 t.f_unlike_places t.d_unlike_places ["net"] (sp_unlike t.C_Net) := by
  refine T.F_unlike_places.okX sc_unlike_places (fun vs H Q E h => ?_) (fun cdv A outer s H vs Q E hr h => ?_)
  · obtain ⟨x, l, as, n, ps, rfl, _⟩ := h
    rfl
  · obtain ⟨x, l, as, n, ps, rfl, N, q⟩ := h
    obtain ⟨dx, ex⟩ := N.ob
    obtain ⟨⟨n1, n2⟩, ⟨l1, l2⟩, hends, _⟩ := netOk_parts N.ok
    have la := N.ts.len
    refine ⟨_, (pss_cons (ps_set (i := 1) sc_unlike_places.nd (by rfl) (Or.inr rfl) (pe_comp (own := (["start", "end"] : List Str)) (fr := ([] : List Str)) (ix := ([] : List Nat)) (by rfl) ⟨by rfl, by decide +kernel, by rfl, by rfl, by rfl⟩ (pi_list (pe_meth0 (pv 0) T.cl_Net T.M_Net__roads (ok_Net__roads c0 T) (hr.mono (by decide)) T.b_Net__roads .nil (pass1 c0))) (fun _ => (pg_tup (n := 2) (by rfl) (pgs_cons (pg_name (i := 0) (show List.Nodup (["start", "end"] : List Str) by decide +kernel) (by rfl) (Or.inl rfl)) (pgs_cons (pg_name (i := 1) (show List.Nodup (["start", "end"] : List Str) by decide +kernel) (by rfl) (Or.inl rfl)) pgs_nil)))) (fun _ hB => pts_nil) (fun _ hB => (pv 0))))
  (pss_cons (ps_set (i := 2) sc_unlike_places.nd (by rfl) (Or.inr rfl) (pe_comp (own := (["start", "end"] : List Str)) (fr := ([] : List Str)) (ix := ([] : List Nat)) (by rfl) ⟨by rfl, by decide +kernel, by rfl, by rfl, by rfl⟩ (pi_list (pe_meth0 (pv 0) T.cl_Net T.M_Net__roads (ok_Net__roads c0 T) (hr.mono (by decide)) T.b_Net__roads .nil (pass1 c0))) (fun _ => (pg_tup (n := 2) (by rfl) (pgs_cons (pg_name (i := 0) (show List.Nodup (["start", "end"] : List Str) by decide +kernel) (by rfl) (Or.inl rfl)) (pgs_cons (pg_name (i := 1) (show List.Nodup (["start", "end"] : List Str) by decide +kernel) (by rfl) (Or.inl rfl)) pgs_nil)))) (fun _ hB => pts_nil) (fun _ hB => (pv 1))))
  (pss_one (ps_ret (pe_comp (own := (["place"] : List Str)) (fr := (["starts", "ends"] : List Str)) (ix := ([1, 2] : List Nat)) (by rfl) ⟨by rfl, by decide +kernel, by rfl, by rfl, by rfl⟩ (pi_range1 (by rfl) T.n_range (pa_cons (pe_meth0 (pv 0) T.cl_Net T.M_Net__places (ok_Net__places c0 T) (hr.mono (by decide)) T.b_Net__places .nil (pass1 c0)) pa_nil)) (fun _ => (pg_name (i := 0) (show List.Nodup (["place", "starts", "ends"] : List Str) by decide +kernel) (by rfl) (Or.inl rfl))) (fun _ hB => (pts_one (pt_cmpR op_ne (pe_bm PySem.F.plainAttrs_list PySem.F.slot_list_count PySem.F.type_list_count mt_count (pv 1) (pa_cons (pv 0) pa_nil)) (pe_bm PySem.F.plainAttrs_list PySem.F.slot_list_count PySem.F.type_list_count mt_count (pv 2) (pa_cons (pv 0) pa_nil)) (nomark _)))) (fun _ hB => (pv 0))))))), ?_⟩
    simp only [tSeq, tRet, tRetN, tAsg, tIfS, tDrop, tNext, tChain, tC, tVar, tOp, tUn, tTest, tB, tAnd, tOr, tNot, tAndV, tOrV, tNotV, tIf, tCall, tCons, tNil, tCB, tTup, tLst, tFld, sFld, tMeth, tMake, tBM, tBM0, tSl, tPart, tNoPart, tYes, tNever, tBreak, tCont, gName, gCons, gNil, gTup, rI0, rI, rU, rEq, rNe, iList, iTup, iRng1, iRng2, iEnum, iZip, tBlk, tFor_eq, tRaiseS, tCallS, tMethS, tMakeS, tFstr, jCons, jNil, tFmt, tryIn_K, suite_K, cxOf_K, nox_K, wish_K, block_K, L2.start, blkStart, V.int.injEq, V.bl.injEq, V.ref.injEq, V.str.injEq, V.ty.injEq, Option.some.injEq, Option.join_some, Option.join_none, List.cons.injEq, exists_eq_left', exists_eq_left, exists_and_left, exists_and_right, exists_eq', exists_eq, and_true, true_and, and_assoc, List.map_cons, List.map_nil, List.length_cons, List.length_nil, Nat.reduceAdd, Nat.reduceSub, Nat.sub_self, List.replicate_zero, List.replicate_succ, List.cons_append, List.nil_append, List.append_nil, List.getElem?_cons_zero, List.getElem?_cons_succ, List.set_cons_zero, List.set_cons_succ, Bool.not_eq_true, Bool.false_eq_true, if_true, if_false]
    refine ⟨_, _, ex, nfl_no _ _ (by decide +kernel) (by decide +kernel), x, l, as, n, ps, rfl, N, fun d1 fd1 => ⟨d1, rfl, ⟨_, SqL.of upd_same⟩, ?_⟩⟩
    have s1 : Same H (upd H d1 (.lst (as.map V.ref))) := Same.new fd1
    have hd1 : upd H d1 (.lst (as.map V.ref)) d1 = some (.lst (as.map V.ref)) := upd_same
    generalize upd H d1 (.lst (as.map V.ref)) = H1 at *
    have ht1 := N.ts.same s1
    refine blk_list (xs := as.map V.ref) (fun i ys σ H' => ∃ u v, σ = [u, v] ∧ H' = H1 ∧ ys = ((ps.take i).map (·.1)).map V.int) (by rw [List.length_map, la]; exact small_le (by omega)) ⟨none, none, rfl, rfl, rfl⟩ ?_ ?_ ?_
    · rintro i ys σ H2 hi ⟨u, v, rfl, rfl, rfl⟩
      exact ⟨SqL.of hd1, by simp; omega⟩
    · rintro bk i v ys σ H2 hv ⟨u, v', rfl, rfl, rfl⟩
      obtain ⟨a, rfl, ha⟩ := map_ref hv
      obtain ⟨q', hq, hH⟩ := ht1.get ha
      refine gtup2 (SqT.of hH) ?_
      simp only [tSeq, tRet, tRetN, tAsg, tIfS, tDrop, tNext, tChain, tC, tVar, tOp, tUn, tTest, tB, tAnd, tOr, tNot, tAndV, tOrV, tNotV, tIf, tCall, tCons, tNil, tCB, tTup, tLst, tFld, sFld, tMeth, tMake, tBM, tBM0, tSl, tPart, tNoPart, tYes, tNever, tBreak, tCont, gName, gCons, gNil, gTup, rI0, rI, rU, rEq, rNe, iList, iTup, iRng1, iRng2, iEnum, iZip, tBlk, tFor_eq, tRaiseS, tCallS, tMethS, tMakeS, tFstr, jCons, jNil, tFmt, tryIn_K, suite_K, cxOf_K, nox_K, wish_K, block_K, L2.start, blkStart, V.int.injEq, V.bl.injEq, V.ref.injEq, V.str.injEq, V.ty.injEq, Option.some.injEq, Option.join_some, Option.join_none, List.cons.injEq, exists_eq_left', exists_eq_left, exists_and_left, exists_and_right, exists_eq', exists_eq, and_true, true_and, and_assoc, List.map_cons, List.map_nil, List.length_cons, List.length_nil, Nat.reduceAdd, Nat.reduceSub, Nat.sub_self, List.replicate_zero, List.replicate_succ, List.cons_append, List.nil_append, List.append_nil, List.getElem?_cons_zero, List.getElem?_cons_succ, List.set_cons_zero, List.set_cons_succ, Bool.not_eq_true, Bool.false_eq_true, if_true, if_false]
      rw [List.take_add_one, hq]
      simp
    · rintro ys σ H2 D ⟨u, v, rfl, rfl, rfl⟩ hD
      rw [List.length_map, la, List.take_length]
      have s2 : Same H (upd H2 D (.lst ((ps.map (·.1)).map V.int))) := s1.upd' hD
      have hD1 : upd H2 D (.lst ((ps.map (·.1)).map V.int)) D = some (.lst ((ps.map (·.1)).map V.int)) := upd_same
      generalize upd H2 D (.lst ((ps.map (·.1)).map V.int)) = H3 at *
      refine ⟨_, _, s2 _ _ ex, nfl_no _ _ (by decide +kernel) (by decide +kernel), x, l, as, n, ps, rfl, N.same s2, fun d4 fd4 => ⟨d4, rfl, ⟨_, SqL.of upd_same⟩, ?_⟩⟩
      have s4 : Same H3 (upd H3 d4 (.lst (as.map V.ref))) := Same.new fd4
      have hd4 : upd H3 d4 (.lst (as.map V.ref)) d4 = some (.lst (as.map V.ref)) := upd_same
      generalize upd H3 d4 (.lst (as.map V.ref)) = H4 at *
      have ht4 := (N.ts.same s2).same s4
      refine blk_list (xs := as.map V.ref) (fun i ys σ H' => ∃ u v, σ = [u, v] ∧ H' = H4 ∧ ys = ((ps.take i).map (·.2)).map V.int) (by rw [List.length_map, la]; exact small_le (by omega)) ⟨none, none, rfl, rfl, rfl⟩ ?_ ?_ ?_
      · rintro i ys σ H5 hi ⟨u, v, rfl, rfl, rfl⟩
        exact ⟨SqL.of hd4, by simp; omega⟩
      · rintro bk i v ys σ H5 hv ⟨u, v', rfl, rfl, rfl⟩
        obtain ⟨a, rfl, ha⟩ := map_ref hv
        obtain ⟨q', hq, hH⟩ := ht4.get ha
        refine gtup2 (SqT.of hH) ?_
        simp only [tSeq, tRet, tRetN, tAsg, tIfS, tDrop, tNext, tChain, tC, tVar, tOp, tUn, tTest, tB, tAnd, tOr, tNot, tAndV, tOrV, tNotV, tIf, tCall, tCons, tNil, tCB, tTup, tLst, tFld, sFld, tMeth, tMake, tBM, tBM0, tSl, tPart, tNoPart, tYes, tNever, tBreak, tCont, gName, gCons, gNil, gTup, rI0, rI, rU, rEq, rNe, iList, iTup, iRng1, iRng2, iEnum, iZip, tBlk, tFor_eq, tRaiseS, tCallS, tMethS, tMakeS, tFstr, jCons, jNil, tFmt, tryIn_K, suite_K, cxOf_K, nox_K, wish_K, block_K, L2.start, blkStart, V.int.injEq, V.bl.injEq, V.ref.injEq, V.str.injEq, V.ty.injEq, Option.some.injEq, Option.join_some, Option.join_none, List.cons.injEq, exists_eq_left', exists_eq_left, exists_and_left, exists_and_right, exists_eq', exists_eq, and_true, true_and, and_assoc, List.map_cons, List.map_nil, List.length_cons, List.length_nil, Nat.reduceAdd, Nat.reduceSub, Nat.sub_self, List.replicate_zero, List.replicate_succ, List.cons_append, List.nil_append, List.append_nil, List.getElem?_cons_zero, List.getElem?_cons_succ, List.set_cons_zero, List.set_cons_succ, Bool.not_eq_true, Bool.false_eq_true, if_true, if_false]
        rw [List.take_add_one, hq]
        simp
      · rintro ys σ H5 D2 ⟨u, v, rfl, rfl, rfl⟩ hD2
        rw [List.length_map, la, List.take_length]
        have s5 : Same H (upd H5 D2 (.lst ((ps.map (·.2)).map V.int))) := (s2.trans s4).upd' hD2
        have hD2' : upd H5 D2 (.lst ((ps.map (·.2)).map V.int)) D2 = some (.lst ((ps.map (·.2)).map V.int)) := upd_same
        have hD1' : upd H5 D2 (.lst ((ps.map (·.2)).map V.int)) D = some (.lst ((ps.map (·.1)).map V.int)) := upd_old (s4 _ _ hD1) hD2
        generalize upd H5 D2 (.lst ((ps.map (·.2)).map V.int)) = H6 at *
        refine ⟨_, _, s5 _ _ ex, nfl_no _ _ (by decide +kernel) (by decide +kernel), x, l, as, n, ps, rfl, N.same s5, _, rfl, by omega, by omega, blk_range (fun i ys σ H' => ∃ u, σ = [u, some (.ref D), some (.ref D2)] ∧ H' = H6 ∧ ys = nats (unlikeOf i ps)) (by rw [Int.toNat_natCast]; exact small_le (by omega)) ⟨none, rfl, rfl, rfl⟩ ?_ ?_ ?_⟩
        · rintro i ys σ H7 hi ⟨u, rfl, rfl, rfl⟩
          rw [nats_len]
          exact Nat.le_trans (List.length_filter_le _ _) (by simp)
        · rintro bk i ys σ H7 hi ⟨u, rfl, rfl, rfl⟩
          simp only [tSeq, tRet, tRetN, tAsg, tIfS, tDrop, tNext, tChain, tC, tVar, tOp, tUn, tTest, tB, tAnd, tOr, tNot, tAndV, tOrV, tNotV, tIf, tCall, tCons, tNil, tCB, tTup, tLst, tFld, sFld, tMeth, tMake, tBM, tBM0, tSl, tPart, tNoPart, tYes, tNever, tBreak, tCont, gName, gCons, gNil, gTup, rI0, rI, rU, rEq, rNe, iList, iTup, iRng1, iRng2, iEnum, iZip, tBlk, tFor_eq, tRaiseS, tCallS, tMethS, tMakeS, tFstr, jCons, jNil, tFmt, tryIn_K, suite_K, cxOf_K, nox_K, wish_K, block_K, L2.start, blkStart, V.int.injEq, V.bl.injEq, V.ref.injEq, V.str.injEq, V.ty.injEq, Option.some.injEq, Option.join_some, Option.join_none, List.cons.injEq, exists_eq_left', exists_eq_left, exists_and_left, exists_and_right, exists_eq', exists_eq, and_true, true_and, and_assoc, List.map_cons, List.map_nil, List.length_cons, List.length_nil, Nat.reduceAdd, Nat.reduceSub, Nat.sub_self, List.replicate_zero, List.replicate_succ, List.cons_append, List.nil_append, List.append_nil, List.getElem?_cons_zero, List.getElem?_cons_succ, List.set_cons_zero, List.set_cons_succ, Bool.not_eq_true, Bool.false_eq_true, if_true, if_false, Int.zero_add, rCount]
          refine ⟨Or.inl ⟨rfl, _, SqL.of hD1'⟩, _, hD1', Or.inl ⟨rfl, _, SqL.of hD2'⟩, _, hD2', rfl, ?_⟩
          have e : unlikeOf (i + 1) ps = unlikeOf i ps ++ if (ps.map (·.1)).count (i : Int) = (ps.map (·.2)).count (i : Int) then [] else [i] := by
            unfold unlikeOf
            rw [List.range_succ, List.filter_append, List.filter_cons]
            by_cases c : (ps.map (·.1)).count (i : Int) = (ps.map (·.2)).count (i : Int) <;> simp [c]
          rw [e, nats_append]
          by_cases c : (ps.map (·.1)).count (i : Int) = (ps.map (·.2)).count (i : Int)
          · simp [c, nats]
          · have c' : ¬ (((ps.map (·.1)).count (i : Int) : Nat) : Int) = (((ps.map (·.2)).count (i : Int) : Nat) : Int) := by omega
            simp [c, c', nats]
        · rintro ys σ H7 D3 ⟨u, rfl, rfl, rfl⟩ hD3
          rw [Int.toNat_natCast]
          exact q D3 _ (s5.upd' hD3) (s5.free hD3) upd_same
def PvRW (HB : Hp) (x d1 dr : Addr) (n : Nat) (ps : List Pr) (k : Nat) (σ : St) (H' : Hp) : Prop := ∃ (rs : List Nat) (done : Nat) (v : Option V), σ = [some (.ref x), some (.ref d1), some (.ref dr), some (.int done), v] ∧ (∀ b o, HB b = some o → b ≠ dr → H' b = some o) ∧ H' dr = some (.lst (nats rs)) ∧ Grown n ps rs done ∧ k = 33 - done
def PvRF (HB : Hp) (x d1 dr : Addr) (n : Nat) (ps : List Pr) (rs : List Nat) (done p : Nat) (d3 : Addr) (i : Nat) (σ : St) (H' : Hp) : Prop := ∃ (rs' : List Nat) (v : Option V), σ = [some (.ref x), some (.ref d1), some (.ref dr), some (.int done), v] ∧ (∀ b o, HB b = some o → b ≠ dr → H' b = some o) ∧ H' dr = some (.lst (nats rs')) ∧ H' d3 = some (.lst (nats (exitsOf ps p))) ∧ d3 ≠ dr ∧ Grows n ps rs done p i rs'
def sp_reached (C : Addr) : Sp := fun vs H Q _ => ∃ (x l : Addr) (as : List Addr) (n : Nat) (ps : List Pr), vs = [.ref x] ∧ NetAt C H x l as n ps ∧ ∀ (d : Addr) (H' : Hp) (rs : List Nat), Same H H' → H d = none → H' d = some (.lst (nats rs)) → (∀ p, p ∈ rs ↔ ReachP n ps p) → rs.length ≤ 32 → Q (.ref d) H'
theorem ok_reached_places (c0 : NoX CX) (T : Txt K mg t) : FnOk P w K mg base CX 4 t.f_reached_places t.d_reached_places ["net"] (sp_reached t.C_Net) := by
  refine T.F_reached_places.okX sc_reached_places (fun vs H Q E h => ?_) (fun cdv A outer s H vs Q E hr h => ?_)
  · obtain ⟨x, l, as, n, ps, rfl, _⟩ := h
    rfl
  · obtain ⟨x, l, as, n, ps, rfl, N, q⟩ := h
    obtain ⟨dx, ex⟩ := N.ob
    obtain ⟨⟨n1, n2⟩, ⟨l1, l2⟩, hends, _⟩ := netOk_parts N.ok
    have la := N.ts.len
    refine ⟨_, (pss_cons (ps_set (i := 1) sc_reached_places.nd (by rfl) (Or.inl rfl) (pe_meth0 (pv 0) T.cl_Net T.M_Net__roads (ok_Net__roads c0 T) (hr.mono (by decide)) T.b_Net__roads .nil (pass1 c0)))
  (pss_cons (ps_set (i := 2) sc_reached_places.nd (by rfl) (Or.inl rfl) (pe_lst (pa_cons (pe_call (ok_first_place c0 T) (hr.mono (by decide)) (by rfl) T.m_first_place T.F_first_place.kp T.b_first_place .nil (pass1 c0) (pa_cons (pv 0) pa_nil)) pa_nil)))
  (pss_cons (ps_set (i := 3) sc_reached_places.nd (by rfl) (Or.inl rfl) pe_int)
  (pss_cons (ps_while PassesOwn.never (pt_cmpR op_lt (pv 3) (pe_callB call_len (by rfl) T.n_len (by decide +kernel : bootBuiltins "len" = some (.builtin "len")) (pa_cons (pv 2) pa_nil)) (nomark _))
  (pss_cons (ps_for PassesOwn.never (by rfl) (pi_list (pe_meth (pv 0) T.cl_Net T.M_Net__exits (ok_Net__exits c0 T) (hr.mono (by decide)) T.b_Net__exits .nil (pass1 c0) (pa_cons (pe_ix ix_list (pv 2) (pv 3) (fun _ _ => rfl)) pa_nil))) (pg_name (i := 4) sc_reached_places.nd (by rfl) (Or.inl rfl))
  (pss_one (ps_if (pt_cmpR op_notIn_seq (pe_ix ix_tup (pe_ix ix_list (pv 1) (pv 4) (fun _ _ => rfl)) pe_int (fun _ _ => rfl)) (pv 2) (by with_unfolding_all rfl))
  (pss_one (ps_expr (pe_bm PySem.F.plainAttrs_list PySem.F.slot_list_append PySem.F.type_list_append mt_append (pv 2) (pa_cons (pe_ix ix_tup (pe_ix ix_list (pv 1) (pv 4) (fun _ _ => rfl)) pe_int (fun _ _ => rfl)) pa_nil))))
  pss_nil)))
  (pss_one (ps_aug (i := 3) sc_reached_places.nd (by rfl) (Or.inl rfl) pe_int iop_add))))
  (pss_one (ps_ret (pv 2))))))), ?_⟩
    simp only [tSeq, tRet, tRetN, tAsg, tIfS, tDrop, tNext, tChain, tC, tVar, tOp, tUn, tTest, tB, tAnd, tOr, tNot, tAndV, tOrV, tNotV, tIf, tCall, tCons, tNil, tCB, tTup, tLst, tFld, sFld, tMeth, tMake, tBM, tBM0, tSl, tPart, tNoPart, tYes, tNever, tBreak, tCont, gName, gCons, gNil, gTup, rI0, rI, rU, rEq, rNe, iList, iTup, iRng1, iRng2, iEnum, iZip, tBlk, tFor_eq, tRaiseS, tCallS, tMethS, tMakeS, tFstr, jCons, jNil, tFmt, tryIn_K, suite_K, cxOf_K, nox_K, wish_K, block_K, L2.start, blkStart, V.int.injEq, V.bl.injEq, V.ref.injEq, V.str.injEq, V.ty.injEq, Option.some.injEq, Option.join_some, Option.join_none, List.cons.injEq, exists_eq_left', exists_eq_left, exists_and_left, exists_and_right, exists_eq', exists_eq, and_true, true_and, and_assoc, List.map_cons, List.map_nil, List.length_cons, List.length_nil, Nat.reduceAdd, Nat.reduceSub, Nat.sub_self, List.replicate_zero, List.replicate_succ, List.cons_append, List.nil_append, List.append_nil, List.getElem?_cons_zero, List.getElem?_cons_succ, List.set_cons_zero, List.set_cons_succ, Bool.not_eq_true, Bool.false_eq_true, if_true, if_false]
    refine ⟨_, _, ex, nfl_no _ _ (by decide +kernel) (by decide +kernel), x, l, as, n, ps, rfl, N, fun d1 fd1 => ?_⟩
    have s1 : Same H (upd H d1 (.lst (as.map V.ref))) := Same.new fd1
    have hd1 : upd H d1 (.lst (as.map V.ref)) d1 = some (.lst (as.map V.ref)) := upd_same
    generalize upd H d1 (.lst (as.map V.ref)) = H1 at *
    refine ⟨x, l, as, n, ps, rfl, N.same s1, fun H2 s2 => ⟨by decide, fun dr fdr => ?_⟩⟩
    have s12 := s1.trans s2
    have e0 : [V.int ((stR ps 0 : Nat) : Int)] = nats [stR ps 0] := rfl
    rw [e0]
    have ndr : ∀ b o, H2 b = some o → b ≠ dr := fun b o e => ne_of_none e fdr
    refine ⟨PvRW H2 x d1 dr n ps, ⟨33, [stR ps 0], 0, none, rfl, fun b o e hb => by rw [upd_ne hb]; exact e, upd_same, Grown.first hends (by omega), rfl⟩, ?_⟩
    rintro k σ H3 ⟨rs, done, v, rfl, k3, h3, G, rfl⟩
    have rl := nodup_len G.nd G.lt
    have k03 : ∀ b o, H b = some o → H3 b = some o := fun b o e => k3 b o (s12 _ _ e) (ndr b o (s12 _ _ e))
    have N3 : NetAt t.C_Net H3 x l as n ps := ⟨⟨_, k03 _ _ ex⟩, k03 _ _ N.ls, N.ts.mono fun b o e => k03 _ _ e, N.ok⟩
    simp only [tSeq, tRet, tRetN, tAsg, tIfS, tDrop, tNext, tChain, tC, tVar, tOp, tUn, tTest, tB, tAnd, tOr, tNot, tAndV, tOrV, tNotV, tIf, tCall, tCons, tNil, tCB, tTup, tLst, tFld, sFld, tMeth, tMake, tBM, tBM0, tSl, tPart, tNoPart, tYes, tNever, tBreak, tCont, gName, gCons, gNil, gTup, rI0, rI, rU, rEq, rNe, iList, iTup, iRng1, iRng2, iEnum, iZip, tBlk, tFor_eq, tRaiseS, tCallS, tMethS, tMakeS, tFstr, jCons, jNil, tFmt, tryIn_K, suite_K, cxOf_K, nox_K, wish_K, block_K, L2.start, blkStart, V.int.injEq, V.bl.injEq, V.ref.injEq, V.str.injEq, V.ty.injEq, Option.some.injEq, Option.join_some, Option.join_none, List.cons.injEq, exists_eq_left', exists_eq_left, exists_and_left, exists_and_right, exists_eq', exists_eq, and_true, true_and, and_assoc, List.map_cons, List.map_nil, List.length_cons, List.length_nil, Nat.reduceAdd, Nat.reduceSub, Nat.sub_self, List.replicate_zero, List.replicate_succ, List.cons_append, List.nil_append, List.append_nil, List.getElem?_cons_zero, List.getElem?_cons_succ, List.set_cons_zero, List.set_cons_succ, Bool.not_eq_true, Bool.false_eq_true, if_true, if_false]
    refine ⟨_, lenL (SqL.of h3), ?_⟩
    rw [nats_len]
    by_cases c : done < rs.length
    · rw [if_pos (decide_eq_true (by omega))]
      obtain ⟨p, hp⟩ : ∃ p, rs[done]? = some p := ⟨rs[done], by simp [c]⟩
      have hpm := List.mem_of_getElem? hp
      have hpn := G.lt p hpm
      have hpr := G.re p hpm
      have ip : atI (nats rs) ((done : Nat) : Int) = some (.int (p : Nat)) := atI_nat (by unfold nats; rw [List.getElem?_map, hp]; rfl)
      refine ⟨fun σ' H' => PvRW H2 x d1 dr n ps (33 - (done + 1)) σ' H', fun σ' H' z => ⟨33 - (done + 1), by omega, z⟩, ?_⟩
      simp only [tSeq, tRet, tRetN, tAsg, tIfS, tDrop, tNext, tChain, tC, tVar, tOp, tUn, tTest, tB, tAnd, tOr, tNot, tAndV, tOrV, tNotV, tIf, tCall, tCons, tNil, tCB, tTup, tLst, tFld, sFld, tMeth, tMake, tBM, tBM0, tSl, tPart, tNoPart, tYes, tNever, tBreak, tCont, gName, gCons, gNil, gTup, rI0, rI, rU, rEq, rNe, iList, iTup, iRng1, iRng2, iEnum, iZip, tBlk, tFor_eq, tRaiseS, tCallS, tMethS, tMakeS, tFstr, jCons, jNil, tFmt, tryIn_K, suite_K, cxOf_K, nox_K, wish_K, block_K, L2.start, blkStart, V.int.injEq, V.bl.injEq, V.ref.injEq, V.str.injEq, V.ty.injEq, Option.some.injEq, Option.join_some, Option.join_none, List.cons.injEq, exists_eq_left', exists_eq_left, exists_and_left, exists_and_right, exists_eq', exists_eq, and_true, true_and, and_assoc, List.map_cons, List.map_nil, List.length_cons, List.length_nil, Nat.reduceAdd, Nat.reduceSub, Nat.sub_self, List.replicate_zero, List.replicate_succ, List.cons_append, List.nil_append, List.append_nil, List.getElem?_cons_zero, List.getElem?_cons_succ, List.set_cons_zero, List.set_cons_succ, Bool.not_eq_true, Bool.false_eq_true, if_true, if_false, rIxL]
      refine ⟨_, _, k03 _ _ ex, nfl_no _ _ (by decide +kernel) (by decide +kernel), _, SqL.of h3, _, ip, x, l, as, n, ps, p, rfl, N3, by rw [within_iff]; omega, fun d3 H4 s4 fd3 hd3 => ⟨d3, rfl, ⟨_, SqL.of hd3⟩, ?_⟩⟩
      have nd3 : d3 ≠ dr := fun z => by rw [z, h3] at fd3; cases fd3
      refine forb_list (xs := nats (exitsOf ps p)) (PvRF H2 x d1 dr n ps rs done p d3) ⟨rs, v, rfl, fun b o e hb => s4 _ _ (k3 b o e hb), s4 _ _ h3, hd3, nd3, Grows.start G⟩ ?_ ?_ ?_
      · rintro i σ' H5 hi ⟨rs', v', rfl, k5, h5, h5d, _, G5⟩
        exact SqL.of h5d
      · rintro i z σ' H5 hz ⟨rs', v', rfl, k5, h5, h5d, _, G5⟩
        obtain ⟨r, hr0, rfl⟩ := nats_get hz
        obtain ⟨hrl, _⟩ := exits_lt (List.mem_of_getElem? hr0)
        obtain ⟨a, ha, hH⟩ := N.ts.get' (i := r) (q := ps[r]) (by simp [hrl])
        have er : ps[r].2 = ((enR n ps r : Nat) : Int) := by
          rw [enR_in hrl]
          have gg : ps.getD r (0, 0) = ps[r] := by rw [List.getD_eq_getElem?_getD]; simp [hrl]
          rw [gg]
          have := ends_in hends (List.getElem_mem hrl)
          omega
        have h1d : H5 d1 = some (.lst (as.map V.ref)) := k5 _ _ (s2 _ _ hd1) (ndr _ _ (s2 _ _ hd1))
        have hHa : H5 a = some (pairO ps[r]) := k5 _ _ (s12 _ _ hH) (ndr _ _ (s12 _ _ hH))
        have ia : atI (as.map V.ref) ((r : Nat) : Int) = some (.ref a) := atI_nat (by rw [List.getElem?_map, ha]; rfl)
        simp only [tSeq, tRet, tRetN, tAsg, tIfS, tDrop, tNext, tChain, tC, tVar, tOp, tUn, tTest, tB, tAnd, tOr, tNot, tAndV, tOrV, tNotV, tIf, tCall, tCons, tNil, tCB, tTup, tLst, tFld, sFld, tMeth, tMake, tBM, tBM0, tSl, tPart, tNoPart, tYes, tNever, tBreak, tCont, gName, gCons, gNil, gTup, rI0, rI, rU, rEq, rNe, iList, iTup, iRng1, iRng2, iEnum, iZip, tBlk, tFor_eq, tRaiseS, tCallS, tMethS, tMakeS, tFstr, jCons, jNil, tFmt, tryIn_K, suite_K, cxOf_K, nox_K, wish_K, block_K, L2.start, blkStart, V.int.injEq, V.bl.injEq, V.ref.injEq, V.str.injEq, V.ty.injEq, Option.some.injEq, Option.join_some, Option.join_none, List.cons.injEq, exists_eq_left', exists_eq_left, exists_and_left, exists_and_right, exists_eq', exists_eq, and_true, true_and, and_assoc, List.map_cons, List.map_nil, List.length_cons, List.length_nil, Nat.reduceAdd, Nat.reduceSub, Nat.sub_self, List.replicate_zero, List.replicate_succ, List.cons_append, List.nil_append, List.append_nil, List.getElem?_cons_zero, List.getElem?_cons_succ, List.set_cons_zero, List.set_cons_succ, Bool.not_eq_true, Bool.false_eq_true, if_true, if_false, rIxL, rIxT, rIn]
        refine ⟨_, SqL.of h1d, _, ia, a, rfl, _, SqT.of hHa, _, atI_nat (j := 1) rfl, _, Or.inl (SqL.of h5), rfl, by simp [nats, flatV], ?_⟩
        have hin : inV (V.int ps[r].2) (nats rs') = decide (enR n ps r ∈ rs') := by rw [er]; exact in_nats
        rw [hin]
        by_cases cm : enR n ps r ∈ rs'
        · rw [if_neg (by simp [cm])]
          exact ⟨rs', _, rfl, k5, h5, h5d, nd3, G5.stay hr0 cm⟩
        · rw [if_pos (by simp [cm])]
          have rl' := nodup_len G5.nd G5.lt
          refine ⟨Or.inl ⟨rfl, _, SqL.of h5⟩, _, SqL.of h1d, _, ia, a, rfl, _, SqT.of hHa, _, atI_nat (j := 1) rfl, dr, _, _, rfl, rfl, h5, by rw [nats_len]; exact small1000 (by omega), rs' ++ [enR n ps r], _, rfl, fun b o e hb => by rw [upd_ne hb]; exact k5 b o e hb, ?_, by rw [upd_ne nd3]; exact h5d, nd3, G5.more hends hpr hr0 cm⟩
          rw [upd_same, nats_append, er]
          rfl
      · rintro σ' H5 ⟨rs', v', rfl, k5, h5, h5d, _, G5⟩
        rw [nats_len] at G5
        simp only [tSeq, tRet, tRetN, tAsg, tIfS, tDrop, tNext, tChain, tC, tVar, tOp, tUn, tTest, tB, tAnd, tOr, tNot, tAndV, tOrV, tNotV, tIf, tCall, tCons, tNil, tCB, tTup, tLst, tFld, sFld, tMeth, tMake, tBM, tBM0, tSl, tPart, tNoPart, tYes, tNever, tBreak, tCont, gName, gCons, gNil, gTup, rI0, rI, rU, rEq, rNe, iList, iTup, iRng1, iRng2, iEnum, iZip, tBlk, tFor_eq, tRaiseS, tCallS, tMethS, tMakeS, tFstr, jCons, jNil, tFmt, tryIn_K, suite_K, cxOf_K, nox_K, wish_K, block_K, L2.start, blkStart, V.int.injEq, V.bl.injEq, V.ref.injEq, V.str.injEq, V.ty.injEq, Option.some.injEq, Option.join_some, Option.join_none, List.cons.injEq, exists_eq_left', exists_eq_left, exists_and_left, exists_and_right, exists_eq', exists_eq, and_true, true_and, and_assoc, List.map_cons, List.map_nil, List.length_cons, List.length_nil, Nat.reduceAdd, Nat.reduceSub, Nat.sub_self, List.replicate_zero, List.replicate_succ, List.cons_append, List.nil_append, List.append_nil, List.getElem?_cons_zero, List.getElem?_cons_succ, List.set_cons_zero, List.set_cons_succ, Bool.not_eq_true, Bool.false_eq_true, if_true, if_false, tAug]
        have e1 : ((done : Nat) : Int) + 1 = ((done + 1 : Nat) : Int) := by omega
        rw [e1]
        exact ⟨rs', done + 1, _, rfl, k5, h5, G5.done hends G hp, rfl⟩
    · rw [if_neg (by simp; omega)]
      have e1 : done = rs.length := by have := G.dn; omega
      exact q dr H3 rs k03 (s12.free fdr) h3 (e1 ▸ G).all (by omega)
def sp_apart (C : Addr) : Sp := fun vs H Q _ => ∃ (x l : Addr) (as : List Addr) (n : Nat) (ps : List Pr), vs = [.ref x] ∧ NetAt C H x l as n ps ∧ ∀ (d : Addr) (H' : Hp), Same H H' → H d = none → H' d = some (.lst (nats (apartOf n ps))) → Q (.ref d) H'
theorem ok_apart_places (c0 : NoX CX) (T : Txt K mg t) : FnOk P w K mg base CX 5 t.f_apart_places t.d_apart_places ["net"] (sp_apart t.C_Net) := by
  refine T.F_apart_places.okX sc_apart_places (fun vs H Q E h => ?_) (fun cdv A outer s H vs Q E hr h => ?_)
  · obtain ⟨x, l, as, n, ps, rfl, _⟩ := h
    rfl
  · obtain ⟨x, l, as, n, ps, rfl, N, q⟩ := h
    obtain ⟨dx, ex⟩ := N.ob
    obtain ⟨⟨n1, n2⟩, _, _, _⟩ := netOk_parts N.ok
    refine ⟨_, (pss_cons (ps_set (i := 1) sc_apart_places.nd (by rfl) (Or.inr rfl) (pe_call (ok_reached_places c0 T) (hr.mono (by decide)) (by rfl) T.m_reached_places T.F_reached_places.kp T.b_reached_places .nil (pass1 c0) (pa_cons (pv 0) pa_nil)))
  (pss_one (ps_ret (pe_comp (own := (["place"] : List Str)) (fr := (["reached"] : List Str)) (ix := ([1] : List Nat)) (by rfl) ⟨by rfl, by decide +kernel, by rfl, by rfl, by rfl⟩ (pi_range1 (by rfl) T.n_range (pa_cons (pe_meth0 (pv 0) T.cl_Net T.M_Net__places (ok_Net__places c0 T) (hr.mono (by decide)) T.b_Net__places .nil (pass1 c0)) pa_nil)) (fun _ => (pg_name (i := 0) (show List.Nodup (["place", "reached"] : List Str) by decide +kernel) (by rfl) (Or.inl rfl))) (fun _ hB => (pts_one (pt_cmpR op_notIn_seq (pv 0) (pv 1) (by with_unfolding_all rfl)))) (fun _ hB => (pv 0)))))), ?_⟩
    simp only [tSeq, tRet, tRetN, tAsg, tIfS, tDrop, tNext, tChain, tC, tVar, tOp, tUn, tTest, tB, tAnd, tOr, tNot, tAndV, tOrV, tNotV, tIf, tCall, tCons, tNil, tCB, tTup, tLst, tFld, sFld, tMeth, tMake, tBM, tBM0, tSl, tPart, tNoPart, tYes, tNever, tBreak, tCont, gName, gCons, gNil, gTup, rI0, rI, rU, rEq, rNe, iList, iTup, iRng1, iRng2, iEnum, iZip, tBlk, tFor_eq, tRaiseS, tCallS, tMethS, tMakeS, tFstr, jCons, jNil, tFmt, tryIn_K, suite_K, cxOf_K, nox_K, wish_K, block_K, L2.start, blkStart, V.int.injEq, V.bl.injEq, V.ref.injEq, V.str.injEq, V.ty.injEq, Option.some.injEq, Option.join_some, Option.join_none, List.cons.injEq, exists_eq_left', exists_eq_left, exists_and_left, exists_and_right, exists_eq', exists_eq, and_true, true_and, and_assoc, List.map_cons, List.map_nil, List.length_cons, List.length_nil, Nat.reduceAdd, Nat.reduceSub, Nat.sub_self, List.replicate_zero, List.replicate_succ, List.cons_append, List.nil_append, List.append_nil, List.getElem?_cons_zero, List.getElem?_cons_succ, List.set_cons_zero, List.set_cons_succ, Bool.not_eq_true, Bool.false_eq_true, if_true, if_false]
    refine ⟨x, l, as, n, ps, rfl, N, fun d H1 rs s1 fd hd hR hl => ?_⟩
    refine ⟨_, _, s1 _ _ ex, nfl_no _ _ (by decide +kernel) (by decide +kernel), x, l, as, n, ps, rfl, N.same s1, _, rfl, by omega, by omega, blk_range (fun i ys σ H' => ∃ u, σ = [u, some (.ref d)] ∧ H' = H1 ∧ ys = nats (apartUp n ps i)) (by rw [Int.toNat_natCast]; exact small_le (by omega)) ⟨none, rfl, rfl, rfl⟩ ?_ ?_ ?_⟩
    · rintro i ys σ H2 hi ⟨u, rfl, rfl, rfl⟩
      rw [nats_len]
      exact Nat.le_trans (List.length_filter_le _ _) (by simp)
    · rintro bk i ys σ H2 hi ⟨u, rfl, rfl, rfl⟩
      simp only [tSeq, tRet, tRetN, tAsg, tIfS, tDrop, tNext, tChain, tC, tVar, tOp, tUn, tTest, tB, tAnd, tOr, tNot, tAndV, tOrV, tNotV, tIf, tCall, tCons, tNil, tCB, tTup, tLst, tFld, sFld, tMeth, tMake, tBM, tBM0, tSl, tPart, tNoPart, tYes, tNever, tBreak, tCont, gName, gCons, gNil, gTup, rI0, rI, rU, rEq, rNe, iList, iTup, iRng1, iRng2, iEnum, iZip, tBlk, tFor_eq, tRaiseS, tCallS, tMethS, tMakeS, tFstr, jCons, jNil, tFmt, tryIn_K, suite_K, cxOf_K, nox_K, wish_K, block_K, L2.start, blkStart, V.int.injEq, V.bl.injEq, V.ref.injEq, V.str.injEq, V.ty.injEq, Option.some.injEq, Option.join_some, Option.join_none, List.cons.injEq, exists_eq_left', exists_eq_left, exists_and_left, exists_and_right, exists_eq', exists_eq, and_true, true_and, and_assoc, List.map_cons, List.map_nil, List.length_cons, List.length_nil, Nat.reduceAdd, Nat.reduceSub, Nat.sub_self, List.replicate_zero, List.replicate_succ, List.cons_append, List.nil_append, List.append_nil, List.getElem?_cons_zero, List.getElem?_cons_succ, List.set_cons_zero, List.set_cons_succ, Bool.not_eq_true, Bool.false_eq_true, if_true, if_false, Int.zero_add, rIn]
      refine ⟨_, Or.inl (SqL.of hd), rfl, by simp [nats, flatV], ?_⟩
      rw [in_nats, apartUp_succ, nats_append]
      by_cases c : ReachP n ps i
      · have cm := (hR i).mpr c
        rw [if_neg (by simp [cm]), if_pos c]
        simp [nats]
      · have cm : ¬ i ∈ rs := fun z => c ((hR i).mp z)
        rw [if_pos (by simp [cm]), if_neg c]
        simp [nats]
    · rintro ys σ H2 D ⟨u, rfl, rfl, rfl⟩ hD
      rw [Int.toNat_natCast]
      exact q D _ (s1.upd' hD) (s1.free hD) upd_same
/-- the answer of why -/
inductive WhyV (n : Nat) (ps : List Pr) (H0 H' : Hp) : V → Prop
  | unlike {tp d : Addr} : unlikeOf n ps ≠ [] → H0 tp = none → H0 d = none → H' tp = some (.tup [.str "unlike", .ref d]) → H' d = some (.lst (nats (unlikeOf n ps))) → WhyV n ps H0 H' (.ref tp)
  | apart {tp d : Addr} : unlikeOf n ps = [] → apartOf n ps ≠ [] → H0 tp = none → H0 d = none → H' tp = some (.tup [.str "apart", .ref d]) → H' d = some (.lst (nats (apartOf n ps))) → WhyV n ps H0 H' (.ref tp)
  | none : unlikeOf n ps = [] → apartOf n ps = [] → WhyV n ps H0 H' .non
def sp_why (C : Addr) : Sp := fun vs H Q _ => ∃ (x l : Addr) (as : List Addr) (n : Nat) (ps : List Pr), vs = [.ref x] ∧ NetAt C H x l as n ps ∧ ∀ (v : V) (H' : Hp), Same H H' → WhyV n ps H H' v → Q v H'
theorem nats_empty (l : List Nat) : (!(nats l).isEmpty) = decide (l ≠ []) := by
  cases l <;> simp [nats]
theorem ok_why (c0 : NoX CX) (T : Txt K mg t) : FnOk P w K mg base CX 6 t.f_why t.d_why ["net"] (sp_why t.C_Net) := by
  refine T.F_why.okX sc_why (fun vs H Q E h => ?_) (fun cdv A outer s H vs Q E hr h => ?_)
  · obtain ⟨x, l, as, n, ps, rfl, _⟩ := h
    rfl
  · obtain ⟨x, l, as, n, ps, rfl, N, q⟩ := h
    refine ⟨_, (pss_cons (ps_set (i := 1) sc_why.nd (by rfl) (Or.inl rfl) (pe_call (ok_unlike_places c0 T) (hr.mono (by decide)) (by rfl) T.m_unlike_places T.F_unlike_places.kp T.b_unlike_places .nil (pass1 c0) (pa_cons (pv 0) pa_nil)))
  (pss_cons (ps_if (pt_truth (pv 1) (fun _ => rfl))
  (pss_one (ps_ret (pe_tup (pa_cons pe_str (pa_cons (pv 1) pa_nil)))))
  pss_nil)
  (pss_cons (ps_set (i := 2) sc_why.nd (by rfl) (Or.inl rfl) (pe_call (ok_apart_places c0 T) (hr.mono (by decide)) (by rfl) T.m_apart_places T.F_apart_places.kp T.b_apart_places .nil (pass1 c0) (pa_cons (pv 0) pa_nil)))
  (pss_cons (ps_if (pt_truth (pv 2) (fun _ => rfl))
  (pss_one (ps_ret (pe_tup (pa_cons pe_str (pa_cons (pv 2) pa_nil)))))
  pss_nil)
  (pss_one (ps_ret pe_non)))))), ?_⟩
    simp only [tSeq, tRet, tRetN, tAsg, tIfS, tDrop, tNext, tChain, tC, tVar, tOp, tUn, tTest, tB, tAnd, tOr, tNot, tAndV, tOrV, tNotV, tIf, tCall, tCons, tNil, tCB, tTup, tLst, tFld, sFld, tMeth, tMake, tBM, tBM0, tSl, tPart, tNoPart, tYes, tNever, tBreak, tCont, gName, gCons, gNil, gTup, rI0, rI, rU, rEq, rNe, iList, iTup, iRng1, iRng2, iEnum, iZip, tBlk, tFor_eq, tRaiseS, tCallS, tMethS, tMakeS, tFstr, jCons, jNil, tFmt, tryIn_K, suite_K, cxOf_K, nox_K, wish_K, block_K, L2.start, blkStart, V.int.injEq, V.bl.injEq, V.ref.injEq, V.str.injEq, V.ty.injEq, Option.some.injEq, Option.join_some, Option.join_none, List.cons.injEq, exists_eq_left', exists_eq_left, exists_and_left, exists_and_right, exists_eq', exists_eq, and_true, true_and, and_assoc, List.map_cons, List.map_nil, List.length_cons, List.length_nil, Nat.reduceAdd, Nat.reduceSub, Nat.sub_self, List.replicate_zero, List.replicate_succ, List.cons_append, List.nil_append, List.append_nil, List.getElem?_cons_zero, List.getElem?_cons_succ, List.set_cons_zero, List.set_cons_succ, Bool.not_eq_true, Bool.false_eq_true, if_true, if_false]
    refine ⟨x, l, as, n, ps, rfl, N, fun d1 H1 s1 fd1 hd1 => ⟨_, Or.inl ⟨_, SqL.of hd1, rfl⟩, ?_⟩⟩
    rw [nats_empty]
    by_cases c1 : unlikeOf n ps = []
    · rw [if_neg (by simp [c1])]
      refine ⟨x, l, as, n, ps, rfl, N.same s1, fun d2 H2 s2 fd2 hd2 => ⟨_, Or.inl ⟨_, SqL.of hd2, rfl⟩, ?_⟩⟩
      rw [nats_empty]
      by_cases c2 : apartOf n ps = []
      · rw [if_neg (by simp [c2])]
        exact q _ _ (s1.trans s2) (.none c1 c2)
      · rw [if_pos (by simp [c2])]
        exact ⟨by decide, fun tp ftp => q _ _ ((s1.trans s2).upd' ftp) (.apart c1 c2 ((s1.trans s2).free ftp) (s1.free fd2) upd_same (upd_old hd2 ftp))⟩
    · rw [if_pos (by simp [c1])]
      exact ⟨by decide, fun tp ftp => q _ _ (s1.upd' ftp) (.unlike c1 (s1.free ftp) fd1 upd_same (upd_old hd1 ftp))⟩
end
end Rb

set_option Elab.async false
set_option linter.all false
set_option maxRecDepth 100000
set_option maxHeartbeats 4000000
namespace Rb
open PySem L2
section
variable {CX : CXT} {P : Program} {w : World} {K : PySem.W.Frag} {mg : Str → Option Value} {base : Heap} {t : Adr}
theorem eqVs_int_iff : ∀ (a b : List Int), eqVs (a.map V.int) (b.map V.int) = decide (a = b)
  | [], [] => by simp [eqVs]
  | [], _ :: _ => by simp [eqVs]
  | _ :: _, [] => by simp [eqVs]
  | x :: a, y :: b => by
    show (eqV (.int x) (.int y) && eqVs (a.map V.int) (b.map V.int)) = _
    rw [eqVs_int_iff a b]
    by_cases h : x = y <;> by_cases h2 : a = b <;> simp [eqV, h, h2]
/-- the list is a ring -/
def RingP (n : Nat) (ps : List Pr) (ring : List Int) : Prop := ∃ rn : List Nat, ring = rn.map (fun (k : Nat) => (k : Int)) ∧ rn.Perm (List.range ps.length) ∧ rn.head? = some 0 ∧ rn.map (enR n ps) = (rn.map (stR ps)).drop 1 ++ (rn.map (stR ps)).take 1
def sp_is_ring (C : Addr) : Sp := fun vs H Q _ => ∃ (x l r : Addr) (as : List Addr) (n : Nat) (ps : List Pr) (ring : List Int), vs = [.ref x, .ref r] ∧ NetAt C H x l as n ps ∧ H r = some (.lst (ring.map V.int)) ∧ ring.length < 64 ∧ ∀ (b : Bool) (H' : Hp), Same H H' → (b = true ↔ RingP n ps ring) → Q (.bl b) H'
theorem ok_is_ring (c0 : NoX CX) (T : Txt K mg t) : FnOk P w K mg base CX 2 t.f_is_ring t.d_is_ring ["net", "ring"] (sp_is_ring t.C_Net) := by
  refine T.F_is_ring.okX sc_is_ring (fun vs H Q E h => ?_) (fun cdv A outer s H vs Q E hr h => ?_)
  · obtain ⟨x, l, r, as, n, ps, ring, rfl, _⟩ := h
    rfl
  · obtain ⟨x, l, r, as, n, ps, ring, rfl, N, hr0, h64, q⟩ := h
    obtain ⟨dx, ex⟩ := N.ob
    obtain ⟨⟨n1, n2⟩, ⟨l1, l2⟩, hends, hex⟩ := netOk_parts N.ok
    have la := N.ts.len
    have lm : (as.map V.ref).length = ps.length := by rw [List.length_map, la]
    refine ⟨_, (pss_cons (ps_set (i := 2) sc_is_ring.nd (by rfl) (Or.inr rfl) (pe_meth0 (pv 0) T.cl_Net T.M_Net__roads (ok_Net__roads c0 T) (hr.mono (by decide)) T.b_Net__roads .nil (pass1 c0)))
  (pss_cons (ps_if (PW.pt (pw_or (pt_cmpR (op_neS (hu0 hr)) (pe_callB call_sorted (by rfl) T.n_sorted (by decide +kernel : bootBuiltins "sorted" = some (.builtin "sorted")) (pa_cons (pv 1) pa_nil)) (pe_lrng (by rfl) (by rfl) T.n_list (by rfl) T.n_range (pa_cons (pe_callB call_len (by rfl) T.n_len (by decide +kernel : bootBuiltins "len" = some (.builtin "len")) (pa_cons (pv 2) pa_nil)) pa_nil)) (nomark _)) (pw_or1 (pt_cmpR op_ne (pe_ix ix_list (pv 1) pe_int (fun _ _ => rfl)) pe_int (nomark _)))))
  (pss_one (ps_ret pe_bl))
  pss_nil)
  (pss_cons (ps_comp (i := 3) sc_is_ring.nd (by rfl) (Or.inl rfl) (own := (["road"] : List Str)) (fr := (["roads"] : List Str)) (ix := ([2] : List Nat)) (by rfl) ⟨by rfl, by decide +kernel, by rfl, by rfl, by rfl⟩ (pi_list (pv 1)) (fun _ => (pg_name (i := 0) (show List.Nodup (["road", "roads"] : List Str) by decide +kernel) (by rfl) (Or.inl rfl))) (fun _ hB => pts_nil) (fun _ hB => (pe_ix ix_tup (pe_ix ix_list (pv 1) (pv 0) (fun _ _ => rfl)) pe_int (fun _ _ => rfl))))
  (pss_cons (ps_comp (i := 4) sc_is_ring.nd (by rfl) (Or.inl rfl) (own := (["road"] : List Str)) (fr := (["roads"] : List Str)) (ix := ([2] : List Nat)) (by rfl) ⟨by rfl, by decide +kernel, by rfl, by rfl, by rfl⟩ (pi_list (pv 1)) (fun _ => (pg_name (i := 0) (show List.Nodup (["road", "roads"] : List Str) by decide +kernel) (by rfl) (Or.inl rfl))) (fun _ hB => pts_nil) (fun _ hB => (pe_ix ix_tup (pe_ix ix_list (pv 1) (pv 0) (fun _ _ => rfl)) pe_int (fun _ _ => rfl))))
  (pss_one (ps_ret (pe_cmpR (op_eqS (hu0 hr)) (pv 4) (pe_op op_cat (pe_slice sl_list (pv 3) (po_some pe_int) po_none) (pe_slice sl_list (pv 3) po_none (po_some pe_int))) (nomark _)))))))), ?_⟩
    simp only [tSeq, tRet, tRetN, tAsg, tIfS, tDrop, tNext, tChain, tC, tVar, tOp, tUn, tTest, tB, tAnd, tOr, tNot, tAndV, tOrV, tNotV, tIf, tCall, tCons, tNil, tCB, tTup, tLst, tFld, sFld, tMeth, tMake, tBM, tBM0, tSl, tPart, tNoPart, tYes, tNever, tBreak, tCont, gName, gCons, gNil, gTup, rI0, rI, rU, rEq, rNe, iList, iTup, iRng1, iRng2, iEnum, iZip, tBlk, tFor_eq, tRaiseS, tCallS, tMethS, tMakeS, tFstr, jCons, jNil, tFmt, tryIn_K, suite_K, cxOf_K, nox_K, wish_K, block_K, L2.start, blkStart, V.int.injEq, V.bl.injEq, V.ref.injEq, V.str.injEq, V.ty.injEq, Option.some.injEq, Option.join_some, Option.join_none, List.cons.injEq, exists_eq_left', exists_eq_left, exists_and_left, exists_and_right, exists_eq', exists_eq, and_true, true_and, and_assoc, List.map_cons, List.map_nil, List.length_cons, List.length_nil, Nat.reduceAdd, Nat.reduceSub, Nat.sub_self, List.replicate_zero, List.replicate_succ, List.cons_append, List.nil_append, List.append_nil, List.getElem?_cons_zero, List.getElem?_cons_succ, List.set_cons_zero, List.set_cons_succ, Bool.not_eq_true, Bool.false_eq_true, if_true, if_false, tLRng]
    refine ⟨_, _, ex, nfl_no _ _ (by decide +kernel) (by decide +kernel), x, l, as, n, ps, rfl, N, fun d1 fd1 => ?_⟩
    have s1 : Same H (upd H d1 (.lst (as.map V.ref))) := Same.new fd1
    have hd1 : upd H d1 (.lst (as.map V.ref)) d1 = some (.lst (as.map V.ref)) := upd_same
    generalize upd H d1 (.lst (as.map V.ref)) = H1 at *
    have hr1 := s1 _ _ hr0
    refine ⟨ring, SqL.of hr1, h64, fun d2 ns' fd2 hp hs => ?_⟩
    have s2 : Same H1 (upd H1 d2 (.lst (ns'.map V.int))) := Same.new fd2
    have hd2 : upd H1 d2 (.lst (ns'.map V.int)) d2 = some (.lst (ns'.map V.int)) := upd_same
    generalize upd H1 d2 (.lst (ns'.map V.int)) = H2 at *
    refine ⟨_, lenL (SqL.of (s2 _ _ hd1)), ps.length, by rw [lm], by omega, fun d3 fd3 => ?_⟩
    have s3 : Same H2 (upd H2 d3 (.lst ((List.range ps.length).map fun (i : Nat) => V.int (i : Int)))) := Same.new fd3
    have hd3 : upd H2 d3 (.lst ((List.range ps.length).map fun (i : Nat) => V.int (i : Int))) d3 = some (.lst ((List.range ps.length).map fun (i : Nat) => V.int (i : Int))) := upd_same
    generalize upd H2 d3 (.lst ((List.range ps.length).map fun (i : Nat) => V.int (i : Int))) = H3 at *
    have s13 : Same H H3 := (s1.trans s2).trans s3
    have em : ((List.range ps.length).map fun (i : Nat) => V.int (i : Int)) = ((List.range ps.length).map fun (i : Nat) => (i : Int)).map V.int := by simp
    rw [em] at hd3
    refine ⟨d2, d3, _, _, rfl, rfl, Or.inl ⟨SqL.of (s3 _ _ hd2), SqL.of hd3⟩, flat_ints _, flat_ints _, _, rfl, ?_⟩
    have srt : ((List.range ps.length).map fun (i : Nat) => (i : Int)).Pairwise (· ≤ ·) := by
      rw [List.pairwise_map]
      exact List.pairwise_lt_range.imp fun h => by omega
    have key : ns' = ((List.range ps.length).map fun (i : Nat) => (i : Int)) ↔ ring.Perm ((List.range ps.length).map fun (i : Nat) => (i : Int)) := by
      constructor
      · intro e
        rw [← e]
        exact hp.symm
      · intro h
        exact PySem.W.lks_uniq (hp.trans h) hs srt
    by_cases c1 : ns' = ((List.range ps.length).map fun (i : Nat) => (i : Int))
    · rw [if_pos rfl, eqVs_int_iff, decide_eq_true c1, if_neg (by simp)]
      have hperm := key.mp c1
      obtain ⟨rn, rfl, hrn⟩ : ∃ rn : List Nat, ring = rn.map (fun (k : Nat) => (k : Int)) ∧ rn.Perm (List.range ps.length) := by
        refine ⟨ring.map Int.toNat, ?_, ?_⟩
        · rw [List.map_map]
          conv => lhs; rw [← List.map_id ring]
          refine List.map_congr_left fun z hz => ?_
          obtain ⟨k, _, rfl⟩ := List.mem_map.mp (hperm.subset hz)
          rfl
        · have := hperm.map Int.toNat
          rw [List.map_map] at this
          have e : ((List.range ps.length).map (Int.toNat ∘ fun (i : Nat) => (i : Int))) = List.range ps.length := by
            conv => rhs; rw [← List.map_id (List.range ps.length)]
            exact List.map_congr_left fun k _ => rfl
          rw [e] at this
          exact this
      have lr : rn.length = ps.length := by rw [hrn.length_eq]; simp
      have rlt : ∀ k ∈ rn, k < ps.length := fun k hk => List.mem_range.mp (hrn.subset hk)
      have hr3 : H3 r = some (.lst (nats rn)) := by
        rw [nats_int]
        exact s13 _ _ hr0
      obtain ⟨k0, rn', ec⟩ : ∃ k0 rn', rn = k0 :: rn' := by
        cases rn with
        | nil => simp at lr; omega
        | cons k0 rn' => exact ⟨k0, rn', rfl⟩
      refine ⟨r, _, _, V.int (k0 : Nat), rfl, rfl, SqL.of hr3, atI_nat (j := 0) (by rw [ec]; rfl), rfl, ?_⟩
      by_cases c2 : k0 = 0
      · rw [if_neg (by simp [c2])]
        have h3d1 : H3 d1 = some (.lst (as.map V.ref)) := s3 _ _ (s2 _ _ hd1)
        have road : ∀ k, k ∈ rn → ∃ a, atI (as.map V.ref) ((k : Nat) : Int) = some (.ref a) ∧ H3 a = some (.tup [.int (stR ps k : Nat), .int (enR n ps k : Nat)]) := fun k hk => by
          have hkl := rlt k hk
          obtain ⟨a, ha, hH⟩ := N.ts.get' (i := k) (q := ps[k]) (by simp [hkl])
          refine ⟨a, atI_nat (by rw [List.getElem?_map, ha]; rfl), ?_⟩
          have g : ps.getD k (0, 0) = ps[k] := by rw [List.getD_eq_getElem?_getD]; simp [hkl]
          have e1 : ps[k].1 = ((stR ps k : Nat) : Int) := by rw [(stR_cast hends hkl).1, g]
          have e2 : ps[k].2 = ((enR n ps k : Nat) : Int) := by
            rw [enR_in hkl, g]
            have := ends_in hends (List.getElem_mem hkl)
            omega
          have := s13 _ _ hH
          unfold pairO at this
          rw [e1, e2] at this
          exact this
        refine ⟨⟨_, SqL.of hr3⟩, blk_list (xs := nats rn) (fun i ys σ H' => ∃ u, σ = [u, some (.ref d1)] ∧ H' = H3 ∧ ys = nats ((rn.take i).map (stR ps))) (by rw [nats_len]; exact small_le (by omega)) ⟨none, rfl, rfl, rfl⟩ ?_ ?_ ?_⟩
        · rintro i ys σ H4 hi ⟨u, rfl, rfl, rfl⟩
          exact ⟨SqL.of hr3, by rw [nats_len]; simp; omega⟩
        · rintro bk i y ys σ H4 hy ⟨u, rfl, rfl, rfl⟩
          obtain ⟨k, hk, rfl⟩ := nats_get hy
          obtain ⟨a, ia, hH⟩ := road k (List.mem_of_getElem? hk)
          simp only [tSeq, tRet, tRetN, tAsg, tIfS, tDrop, tNext, tChain, tC, tVar, tOp, tUn, tTest, tB, tAnd, tOr, tNot, tAndV, tOrV, tNotV, tIf, tCall, tCons, tNil, tCB, tTup, tLst, tFld, sFld, tMeth, tMake, tBM, tBM0, tSl, tPart, tNoPart, tYes, tNever, tBreak, tCont, gName, gCons, gNil, gTup, rI0, rI, rU, rEq, rNe, iList, iTup, iRng1, iRng2, iEnum, iZip, tBlk, tFor_eq, tRaiseS, tCallS, tMethS, tMakeS, tFstr, jCons, jNil, tFmt, tryIn_K, suite_K, cxOf_K, nox_K, wish_K, block_K, L2.start, blkStart, V.int.injEq, V.bl.injEq, V.ref.injEq, V.str.injEq, V.ty.injEq, Option.some.injEq, Option.join_some, Option.join_none, List.cons.injEq, exists_eq_left', exists_eq_left, exists_and_left, exists_and_right, exists_eq', exists_eq, and_true, true_and, and_assoc, List.map_cons, List.map_nil, List.length_cons, List.length_nil, Nat.reduceAdd, Nat.reduceSub, Nat.sub_self, List.replicate_zero, List.replicate_succ, List.cons_append, List.nil_append, List.append_nil, List.getElem?_cons_zero, List.getElem?_cons_succ, List.set_cons_zero, List.set_cons_succ, Bool.not_eq_true, Bool.false_eq_true, if_true, if_false, rIxL, rIxT]
          refine ⟨_, SqL.of h3d1, _, ia, a, rfl, _, SqT.of hH, _, atI_nat (j := 0) rfl, ?_⟩
          rw [List.take_add_one, hk, List.map_append, nats_append]
          rfl
        · rintro ys σ H4 D1 ⟨u, rfl, rfl, rfl⟩ hD1
          rw [nats_len, List.take_length]
          have s4 : Same H4 (upd H4 D1 (.lst (nats (rn.map (stR ps))))) := Same.new hD1
          have hD : upd H4 D1 (.lst (nats (rn.map (stR ps)))) D1 = some (.lst (nats (rn.map (stR ps)))) := upd_same
          generalize upd H4 D1 (.lst (nats (rn.map (stR ps)))) = H5 at *
          refine ⟨⟨_, SqL.of (s4 _ _ hr3)⟩, blk_list (xs := nats rn) (fun i ys σ H' => ∃ u, σ = [u, some (.ref d1)] ∧ H' = H5 ∧ ys = nats ((rn.take i).map (enR n ps))) (by rw [nats_len]; exact small_le (by omega)) ⟨none, rfl, rfl, rfl⟩ ?_ ?_ ?_⟩
          · rintro i ys σ H6 hi ⟨u, rfl, rfl, rfl⟩
            exact ⟨SqL.of (s4 _ _ hr3), by rw [nats_len]; simp; omega⟩
          · rintro bk i y ys σ H6 hy ⟨u, rfl, rfl, rfl⟩
            obtain ⟨k, hk, rfl⟩ := nats_get hy
            obtain ⟨a, ia, hH⟩ := road k (List.mem_of_getElem? hk)
            simp only [tSeq, tRet, tRetN, tAsg, tIfS, tDrop, tNext, tChain, tC, tVar, tOp, tUn, tTest, tB, tAnd, tOr, tNot, tAndV, tOrV, tNotV, tIf, tCall, tCons, tNil, tCB, tTup, tLst, tFld, sFld, tMeth, tMake, tBM, tBM0, tSl, tPart, tNoPart, tYes, tNever, tBreak, tCont, gName, gCons, gNil, gTup, rI0, rI, rU, rEq, rNe, iList, iTup, iRng1, iRng2, iEnum, iZip, tBlk, tFor_eq, tRaiseS, tCallS, tMethS, tMakeS, tFstr, jCons, jNil, tFmt, tryIn_K, suite_K, cxOf_K, nox_K, wish_K, block_K, L2.start, blkStart, V.int.injEq, V.bl.injEq, V.ref.injEq, V.str.injEq, V.ty.injEq, Option.some.injEq, Option.join_some, Option.join_none, List.cons.injEq, exists_eq_left', exists_eq_left, exists_and_left, exists_and_right, exists_eq', exists_eq, and_true, true_and, and_assoc, List.map_cons, List.map_nil, List.length_cons, List.length_nil, Nat.reduceAdd, Nat.reduceSub, Nat.sub_self, List.replicate_zero, List.replicate_succ, List.cons_append, List.nil_append, List.append_nil, List.getElem?_cons_zero, List.getElem?_cons_succ, List.set_cons_zero, List.set_cons_succ, Bool.not_eq_true, Bool.false_eq_true, if_true, if_false, rIxL, rIxT]
            refine ⟨_, SqL.of (s4 _ _ h3d1), _, ia, a, rfl, _, SqT.of (s4 _ _ hH), _, atI_nat (j := 1) rfl, ?_⟩
            rw [List.take_add_one, hk, List.map_append, nats_append]
            rfl
          · rintro ys σ H6 D2 ⟨u, rfl, rfl, rfl⟩ hD2
            rw [nats_len, List.take_length]
            have s6 : Same H6 (upd H6 D2 (.lst (nats (rn.map (enR n ps))))) := Same.new hD2
            have hD2' : upd H6 D2 (.lst (nats (rn.map (enR n ps)))) D2 = some (.lst (nats (rn.map (enR n ps)))) := upd_same
            generalize upd H6 D2 (.lst (nats (rn.map (enR n ps)))) = H7 at *
            have hD7 := s6 _ _ hD
            have ls : 1 ≤ (nats (rn.map (stR ps))).length := by rw [nats_len, List.length_map]; omega
            refine ⟨D1, _, rfl, SqL.of hD7, fun e1 fe1 => ?_⟩
            have c1' := cutV_drop (nats (rn.map (stR ps))) 1 ls
            have c2' := cutV_take (nats (rn.map (stR ps))) 1 ls
            rw [show ((1 : Nat) : Int) = (1 : Int) from rfl] at c1' c2'
            rw [c1']
            refine ⟨D1, _, rfl, SqL.of (upd_old hD7 fe1), fun e2 fe2 => ?_⟩
            rw [c2']
            refine ⟨e1, e2, _, _, rfl, rfl, upd_old upd_same fe2, upd_same, by rw [List.length_drop, List.length_take, nats_len, List.length_map]; exact small_le (by omega), fun e3 fe3 => ?_⟩
            have hD27 : upd (upd (upd H7 e1 (.lst ((nats (rn.map (stR ps))).drop 1))) e2 (.lst ((nats (rn.map (stR ps))).take 1))) e3 (.lst ((nats (rn.map (stR ps))).drop 1 ++ (nats (rn.map (stR ps))).take 1)) D2 = some (.lst (nats (rn.map (enR n ps)))) := upd_old (upd_old (upd_old hD2' fe1) fe2) fe3
            have er : (nats (rn.map (stR ps))).drop 1 ++ (nats (rn.map (stR ps))).take 1 = ((((rn.map (stR ps)).drop 1 ++ (rn.map (stR ps)).take 1)).map fun (k : Nat) => (k : Int)).map V.int := by
              unfold nats
              rw [← List.map_drop, ← List.map_take, ← List.map_append, List.map_map]
              rfl
            have el : nats (rn.map (enR n ps)) = ((rn.map (enR n ps)).map fun (k : Nat) => (k : Int)).map V.int := nats_int _
            refine ⟨D2, e3, _, _, rfl, rfl, Or.inl ⟨SqL.of hD27, SqL.of upd_same⟩, by rw [el]; exact flat_ints _, by rw [er]; exact flat_ints _, ?_⟩
            refine q _ _ ?_ ?_
            · exact (((((s13.trans s4).trans s6).upd' fe1).upd' fe2).upd' fe3)
            · rw [if_neg (by simp), el, er, eqVs_int_iff, decide_eq_true_eq]
              have inj : ∀ a b : List Nat, a.map (fun (k : Nat) => (k : Int)) = b.map (fun (k : Nat) => (k : Int)) → a = b := fun a b h => by
                have := congrArg (List.map Int.toNat) h
                rw [List.map_map, List.map_map] at this
                simpa [Function.comp_def] using this
              constructor
              · intro h
                exact ⟨rn, rfl, hrn, by rw [ec, c2]; rfl, inj _ _ h⟩
              · rintro ⟨rn2, e1', _, _, e4⟩
                have : rn2 = rn := (inj _ _ e1').symm
                subst this
                rw [e4]
      · rw [if_pos (by simp; omega)]
        refine q false H3 s13 ⟨(fun z => by cases z), fun ⟨rn2, e1, _, e3, _⟩ => ?_⟩
        have e4 : rn2 = rn := by
          have := congrArg (List.map Int.toNat) e1
          rw [List.map_map, List.map_map] at this
          simpa [Function.comp_def] using this.symm
        rw [e4, ec] at e3
        simp at e3
        exact absurd e3 c2
    · rw [if_pos rfl, eqVs_int_iff, decide_eq_false c1, if_pos (by simp)]
      refine q false H3 s13 ⟨(fun z => by cases z), fun ⟨rn, e1, e2, _⟩ => ?_⟩
      exact absurd (key.mpr (by rw [e1]; exact e2.map _)) c1
end
end Rb

set_option Elab.async false
set_option linter.all false
set_option maxRecDepth 100000
set_option maxHeartbeats 4000000
namespace Rb
open PySem L2
section
variable {CX : CXT} {P : Program} {w : World} {K : PySem.W.Frag} {mg : Str → Option Value} {base : Heap} {t : Adr}
/-- it has none -/
def NoneP (n : Nat) (ps : List Pr) : Prop := unlikeOf n ps ≠ [] ∨ apartOf n ps ≠ []
theorem WhyV.ref {n : Nat} {ps : List Pr} {H0 H' : Hp} {v : V} (W : WhyV n ps H0 H' v) (h : NoneP n ps) : v ≠ .non := by
  cases W with
  | unlike _ => exact fun z => by cases z
  | apart _ _ => exact fun z => by cases z
  | none a b =>
    rcases h with h | h
    · exact absurd a h
    · exact absurd b h
def sp_many_rings0 (C : Addr) : Sp := fun vs H Q _ => ∃ (x l : Addr) (as : List Addr) (n : Nat) (ps : List Pr), vs = [.ref x] ∧ NetAt C H x l as n ps ∧ NoneP n ps ∧ ∀ H', Same H H' → Q (.int 0) H'
theorem ok_many_rings (c0 : NoX CX) (T : Txt K mg t) : FnOk P w K mg base CX 7 t.f_many_rings t.d_many_rings ["net"] (sp_many_rings0 t.C_Net) := by
  refine T.F_many_rings.okX sc_many_rings (fun vs H Q E h => ?_) (fun cdv A outer s H vs Q E hr h => ?_)
  · obtain ⟨x, l, as, n, ps, rfl, _⟩ := h
    rfl
  · obtain ⟨x, l, as, n, ps, rfl, N, hn, q⟩ := h
    refine ⟨_, (pss_cons (ps_if (pt_cmpR op_notN (pe_call (ok_why c0 T) (hr.mono (by decide)) (by rfl) T.m_why T.F_why.kp T.b_why .nil (pass1 c0) (pa_cons (pv 0) pa_nil)) pe_non (nomark _))
  (pss_one (ps_ret pe_int))
  pss_nil)
  (pss_one ps_never)), ?_⟩
    simp only [tSeq, tRet, tRetN, tAsg, tIfS, tDrop, tNext, tChain, tC, tVar, tOp, tUn, tTest, tB, tAnd, tOr, tNot, tAndV, tOrV, tNotV, tIf, tCall, tCons, tNil, tCB, tTup, tLst, tFld, sFld, tMeth, tMake, tBM, tBM0, tSl, tPart, tNoPart, tYes, tNever, tBreak, tCont, gName, gCons, gNil, gTup, rI0, rI, rU, rEq, rNe, iList, iTup, iRng1, iRng2, iEnum, iZip, tBlk, tFor_eq, tRaiseS, tCallS, tMethS, tMakeS, tFstr, jCons, jNil, tFmt, tryIn_K, suite_K, cxOf_K, nox_K, wish_K, block_K, L2.start, blkStart, V.int.injEq, V.bl.injEq, V.ref.injEq, V.str.injEq, V.ty.injEq, Option.some.injEq, Option.join_some, Option.join_none, List.cons.injEq, exists_eq_left', exists_eq_left, exists_and_left, exists_and_right, exists_eq', exists_eq, and_true, true_and, and_assoc, List.map_cons, List.map_nil, List.length_cons, List.length_nil, Nat.reduceAdd, Nat.reduceSub, Nat.sub_self, List.replicate_zero, List.replicate_succ, List.cons_append, List.nil_append, List.append_nil, List.getElem?_cons_zero, List.getElem?_cons_succ, List.set_cons_zero, List.set_cons_succ, Bool.not_eq_true, Bool.false_eq_true, if_true, if_false]
    refine ⟨x, l, as, n, ps, rfl, N, fun v H1 s1 W => ?_⟩
    show if (!decide (v = V.non)) = true then _ else _
    rw [if_pos (by simp [W.ref hn])]
    exact q H1 s1
def spE_ring_at (t : Adr) : Sp := fun vs H _ E => ∃ (x l : Addr) (as : List Addr) (n : Nat) (ps : List Pr) (num : Int), vs = [.ref x, .int num] ∧ NetAt t.C_Net H x l as n ps ∧ NoneP n ps ∧ ∀ H', Same H H' → E (.ref t.C_NoNumber) none H'
theorem okE_ring_at (T : Txt K mg t) : FnOk P w K mg base (CX1 P w) 7 t.f_ring_at t.d_ring_at ["net", "number"] (spE_ring_at t) := by
  have c0 : NoX (CX1 P w) := nox1
  refine T.F_ring_at.okE sc_ring_at (fun vs H Q E h => ?_) (fun cdv A outer s H vs Q E hr h => ?_)
  · obtain ⟨x, l, as, n, ps, num, rfl, _⟩ := h
    rfl
  · obtain ⟨x, l, as, n, ps, num, rfl, N, hn, qE⟩ := h
    refine ⟨_, (pss_cons (ps_if (pt_cmpR op_notN (pe_call (ok_why c0 T) (hr.mono (by decide)) (by rfl) T.m_why T.F_why.kp T.b_why .nil (pass1 c0) (pa_cons (pv 0) pa_nil)) pe_non (nomark _))
  (pss_one (ps_raiseS (by rfl) (raise_def).s T.e_NoNumber (by rfl) T.m_NoNumber (pa_cons pe_str pa_nil)))
  pss_nil)
  (pss_cons ps_never (pss_cons ps_never (pss_cons ps_never (pss_cons ps_never (pss_cons ps_never (pss_one ps_never))))))), ?_⟩
    simp only [tSeq, tRet, tRetN, tAsg, tIfS, tDrop, tNext, tChain, tC, tVar, tOp, tUn, tTest, tB, tAnd, tOr, tNot, tAndV, tOrV, tNotV, tIf, tCall, tCons, tNil, tCB, tTup, tLst, tFld, sFld, tMeth, tMake, tBM, tBM0, tSl, tPart, tNoPart, tYes, tNever, tBreak, tCont, gName, gCons, gNil, gTup, rI0, rI, rU, rEq, rNe, iList, iTup, iRng1, iRng2, iEnum, iZip, tBlk, tFor_eq, tRaiseS, tCallS, tMethS, tMakeS, tFstr, jCons, jNil, tFmt, tryIn_K, suite_K, cxOf_K, nox_K, wish_K, block_K, L2.start, blkStart, V.int.injEq, V.bl.injEq, V.ref.injEq, V.str.injEq, V.ty.injEq, Option.some.injEq, Option.join_some, Option.join_none, List.cons.injEq, exists_eq_left', exists_eq_left, exists_and_left, exists_and_right, exists_eq', exists_eq, and_true, true_and, and_assoc, List.map_cons, List.map_nil, List.length_cons, List.length_nil, Nat.reduceAdd, Nat.reduceSub, Nat.sub_self, List.replicate_zero, List.replicate_succ, List.cons_append, List.nil_append, List.append_nil, List.getElem?_cons_zero, List.getElem?_cons_succ, List.set_cons_zero, List.set_cons_succ, Bool.not_eq_true, Bool.false_eq_true, if_true, if_false]
    refine ⟨x, l, as, n, ps, rfl, N, fun v H1 s1 W => ?_⟩
    show if (!decide (v = V.non)) = true then _ else _
    rw [if_pos (by simp [W.ref hn])]
    exact ⟨by decide, qE H1 s1⟩
def spE_ring_number (t : Adr) : Sp := fun vs H _ E => ∃ (x l r : Addr) (as : List Addr) (n : Nat) (ps : List Pr) (ring : List Int), vs = [.ref x, .ref r] ∧ NetAt t.C_Net H x l as n ps ∧ H r = some (.lst (ring.map V.int)) ∧ ring.length < 64 ∧ ¬ RingP n ps ring ∧ ∀ H', Same H H' → E (.ref t.C_NoRing) none H'
theorem okE_ring_number (T : Txt K mg t) : FnOk P w K mg base (CX1 P w) 3 t.f_ring_number t.d_ring_number ["net", "ring"] (spE_ring_number t) := by
  have c0 : NoX (CX1 P w) := nox1
  refine T.F_ring_number.okE sc_ring_number (fun vs H Q E h => ?_) (fun cdv A outer s H vs Q E hr h => ?_)
  · obtain ⟨x, l, r, as, n, ps, ring, rfl, _⟩ := h
    rfl
  · obtain ⟨x, l, r, as, n, ps, ring, rfl, N, hr0, h64, hno, qE⟩ := h
    refine ⟨_, (pss_cons (ps_if (pt_not (pt_val (pe_call (ok_is_ring c0 T) (hr.mono (by decide)) (by rfl) T.m_is_ring T.F_is_ring.kp T.b_is_ring .nil (pass1 c0) (pa_cons (pv 0) (pa_cons (pv 1) pa_nil)))))
  (pss_one (ps_raiseS (by rfl) (raise_def).s T.e_NoRing (by rfl) T.m_NoRing (pa_cons pe_str pa_nil)))
  pss_nil)
  (pss_cons ps_never (pss_cons ps_never (pss_cons ps_never (pss_cons ps_never (pss_cons ps_never (pss_cons ps_never (pss_one ps_never)))))))), ?_⟩
    simp only [tSeq, tRet, tRetN, tAsg, tIfS, tDrop, tNext, tChain, tC, tVar, tOp, tUn, tTest, tB, tAnd, tOr, tNot, tAndV, tOrV, tNotV, tIf, tCall, tCons, tNil, tCB, tTup, tLst, tFld, sFld, tMeth, tMake, tBM, tBM0, tSl, tPart, tNoPart, tYes, tNever, tBreak, tCont, gName, gCons, gNil, gTup, rI0, rI, rU, rEq, rNe, iList, iTup, iRng1, iRng2, iEnum, iZip, tBlk, tFor_eq, tRaiseS, tCallS, tMethS, tMakeS, tFstr, jCons, jNil, tFmt, tryIn_K, suite_K, cxOf_K, nox_K, wish_K, block_K, L2.start, blkStart, V.int.injEq, V.bl.injEq, V.ref.injEq, V.str.injEq, V.ty.injEq, Option.some.injEq, Option.join_some, Option.join_none, List.cons.injEq, exists_eq_left', exists_eq_left, exists_and_left, exists_and_right, exists_eq', exists_eq, and_true, true_and, and_assoc, List.map_cons, List.map_nil, List.length_cons, List.length_nil, Nat.reduceAdd, Nat.reduceSub, Nat.sub_self, List.replicate_zero, List.replicate_succ, List.cons_append, List.nil_append, List.append_nil, List.getElem?_cons_zero, List.getElem?_cons_succ, List.set_cons_zero, List.set_cons_succ, Bool.not_eq_true, Bool.false_eq_true, if_true, if_false]
    refine ⟨x, l, r, as, n, ps, ring, rfl, N, hr0, h64, fun b H1 s1 hb => ⟨_, rfl, ?_⟩⟩
    have eb : b = false := by
      cases b
      · rfl
      · exact absurd (hb.mp rfl) hno
    subst eb
    rw [if_pos (by simp)]
    exact ⟨by decide, qE H1 s1⟩
end
end Rb

set_option Elab.async false
set_option linter.all false
set_option maxRecDepth 100000
set_option maxHeartbeats 4000000
namespace Rb
open PySem L2
section
variable {CX : CXT} {P : Program} {w : World} {K : PySem.W.Frag} {mg : Str → Option Value} {base : Heap} {t : Adr}
def cellOf (ns : List Int) (k : Int) : Int := ns.getD k.toNat 0
def sp_cell_at (K : PySem.W.Frag) : Sp := fun vs H Q _ => ∃ (a : Addr) (ns : List Int) (k : Int), vs = [.ref a, .int k] ∧ SqL K H a (ns.map V.int) ∧ 0 ≤ k ∧ Q (.int (cellOf ns k)) H
theorem ok_x_law_cell_at (c0 : NoX CX) (T : Txt K mg t) : FnOk P w K mg base CX 1 t.f_x_law_cell_at t.d_x_law_cell_at ["script", "k"] (sp_cell_at K) := by
  refine T.F_x_law_cell_at.okX sc_x_law_cell_at (fun vs H Q E h => ?_) (fun cdv A outer s H vs Q E hr h => ?_)
  · obtain ⟨a, ns, k, rfl, _⟩ := h
    rfl
  · obtain ⟨a, ns, k, rfl, hs, hk, q⟩ := h
    refine ⟨_, (pss_cons (ps_if (pt_cmpR op_lt (pv 1) (pe_callB call_len (by rfl) T.n_len (by decide +kernel : bootBuiltins "len" = some (.builtin "len")) (pa_cons (pv 0) pa_nil)) (nomark _))
  (pss_one (ps_ret (pe_ix ix_list (pv 0) (pv 1) (fun _ _ => rfl))))
  pss_nil)
  (pss_one (ps_ret pe_int))), ?_⟩
    simp only [tSeq, tRet, tRetN, tAsg, tIfS, tDrop, tNext, tChain, tC, tVar, tOp, tUn, tTest, tB, tAnd, tOr, tNot, tAndV, tOrV, tNotV, tIf, tCall, tCons, tNil, tCB, tTup, tLst, tFld, sFld, tMeth, tMake, tBM, tBM0, tSl, tPart, tNoPart, tYes, tNever, tBreak, tCont, gName, gCons, gNil, gTup, rI0, rI, rU, rEq, rNe, iList, iTup, iRng1, iRng2, iEnum, iZip, tBlk, tFor_eq, tRaiseS, tCallS, tMethS, tMakeS, tFstr, jCons, jNil, tFmt, tryIn_K, suite_K, cxOf_K, nox_K, wish_K, block_K, L2.start, blkStart, V.int.injEq, V.bl.injEq, V.ref.injEq, V.str.injEq, V.ty.injEq, Option.some.injEq, Option.join_some, Option.join_none, List.cons.injEq, exists_eq_left', exists_eq_left, exists_and_left, exists_and_right, exists_eq', exists_eq, and_true, true_and, and_assoc, List.map_cons, List.map_nil, List.length_cons, List.length_nil, Nat.reduceAdd, Nat.reduceSub, Nat.sub_self, List.replicate_zero, List.replicate_succ, List.cons_append, List.nil_append, List.append_nil, List.getElem?_cons_zero, List.getElem?_cons_succ, List.set_cons_zero, List.set_cons_succ, Bool.not_eq_true, Bool.false_eq_true, if_true, if_false, rIxL]
    refine ⟨_, lenL hs, ?_⟩
    rw [List.length_map]
    by_cases h : k < (ns.length : Int)
    · rw [if_pos (decide_eq_true h)]
      have hk' : ns[k.toNat]? = some (cellOf ns k) := by
        unfold cellOf
        rw [List.getD_eq_getElem?_getD, List.getElem?_eq_getElem (by omega)]
        rfl
      refine ⟨_, hs, _, ?_, q⟩
      have e : k = ((k.toNat : Nat) : Int) := by omega
      rw [e]
      refine atI_nat ?_
      rw [List.getElem?_map, hk']
      have e2 : cellOf ns ((k.toNat : Nat) : Int) = cellOf ns k := by rw [← e]
      rw [e2]
      rfl
    · rw [if_neg (by simp [h])]
      have e : cellOf ns k = 0 := by
        unfold cellOf
        rw [List.getD_eq_getElem?_getD, List.getElem?_eq_none (by omega)]
        rfl
      rw [← e]; exact q
def sp_draw : Sp := fun vs H Q _ => ∃ (c k b : Int), vs = [.int c, .int k, .int b] ∧ 0 ≤ k ∧ k ≤ 1000 ∧ 0 < b ∧ ∀ r : Int, 0 ≤ r → r < b → Q (.int r) H
theorem ok_x_law_draw (c0 : NoX CX) (T : Txt K mg t) : FnOk P w K mg base CX 1 t.f_x_law_draw t.d_x_law_draw ["cell", "k", "bound"] sp_draw := by
  refine T.F_x_law_draw.okX sc_x_law_draw (fun vs H Q E h => ?_) (fun cdv A outer s H vs Q E hr h => ?_)
  · obtain ⟨c, k, b, rfl, _⟩ := h
    rfl
  · obtain ⟨c, k, b, rfl, hk1, hk2, hb, q⟩ := h
    refine ⟨_, (pss_cons (ps_set (i := 3) sc_x_law_draw.nd (by rfl) (Or.inl rfl) (pe_op op_mod (pe_op op_add (pe_op op_add (pe_op op_mul (pe_op op_mod (pv 0) pe_int) pe_int) (pe_op op_mul (pv 1) pe_int)) pe_int) pe_int))
  (pss_cons (ps_set (i := 4) sc_x_law_draw.nd (by rfl) (Or.inl rfl) (pe_op op_mod (pe_op op_mul (pe_op op_add (pe_op op_mod (pv 0) pe_int) pe_int) (pe_op op_add (pe_op op_add (pe_op op_mul (pv 1) (pv 1)) (pe_op op_mul pe_int (pv 1))) pe_int)) pe_int))
  (pss_one (ps_ret (pe_op op_mod (pe_op op_fdiv (pe_op op_mul (pv 3) (pe_op op_add (pv 4) pe_int)) pe_int) (pv 2)))))), ?_⟩
    simp only [tSeq, tRet, tRetN, tAsg, tIfS, tDrop, tNext, tChain, tC, tVar, tOp, tUn, tTest, tB, tAnd, tOr, tNot, tAndV, tOrV, tNotV, tIf, tCall, tCons, tNil, tCB, tTup, tLst, tFld, sFld, tMeth, tMake, tBM, tBM0, tSl, tPart, tNoPart, tYes, tNever, tBreak, tCont, gName, gCons, gNil, gTup, rI0, rI, rU, rEq, rNe, iList, iTup, iRng1, iRng2, iEnum, iZip, tBlk, tFor_eq, tRaiseS, tCallS, tMethS, tMakeS, tFstr, jCons, jNil, tFmt, tryIn_K, suite_K, cxOf_K, nox_K, wish_K, block_K, L2.start, blkStart, V.int.injEq, V.bl.injEq, V.ref.injEq, V.str.injEq, V.ty.injEq, Option.some.injEq, Option.join_some, Option.join_none, List.cons.injEq, exists_eq_left', exists_eq_left, exists_and_left, exists_and_right, exists_eq', exists_eq, and_true, true_and, and_assoc, List.map_cons, List.map_nil, List.length_cons, List.length_nil, Nat.reduceAdd, Nat.reduceSub, Nat.sub_self, List.replicate_zero, List.replicate_succ, List.cons_append, List.nil_append, List.append_nil, List.getElem?_cons_zero, List.getElem?_cons_succ, List.set_cons_zero, List.set_cons_succ, Bool.not_eq_true, Bool.false_eq_true, if_true, if_false]
    have m1 : ∀ (a b c : Int), 0 < c → c < 2 ^ 63 → CMul (a % c) b := fun a b c h1 h2 => Or.inl ⟨by have := Int.emod_nonneg a (show c ≠ 0 by omega); omega, by have := Int.emod_lt_of_pos a h1; omega⟩
    refine ⟨by decide, m1 _ _ _ (by decide) (by decide), Or.inl ⟨by omega, by omega⟩, by decide, by decide, Or.inl ⟨by omega, by omega⟩, Or.inl ⟨by decide, by decide⟩, Or.inl ⟨by omega, by omega⟩, by decide, m1 _ _ _ (by decide) (by decide), ⟨by decide, by decide⟩, hb, ?_⟩
    exact q _ (Int.emod_nonneg _ (by omega)) (Int.emod_lt_of_pos _ hb)
def sp_whole : Sp := fun vs H Q _ => ∃ (i : Int), vs = [.int i] ∧ Q (.bl true) H
theorem ok_x_law_whole (c0 : NoX CX) (T : Txt K mg t) : FnOk P w K mg base CX 1 t.f_x_law_whole t.d_x_law_whole ["found"] sp_whole := by
  refine T.F_x_law_whole.okX sc_x_law_whole (fun vs H Q E h => ?_) (fun cdv A outer s H vs Q E hr h => ?_)
  · obtain ⟨i, rfl, _⟩ := h
    rfl
  · obtain ⟨i, rfl, q⟩ := h
    refine ⟨_, (pss_one (ps_ret (pe_and (pe_callB call_isi (by rfl) T.n_isinstance (by decide +kernel : bootBuiltins "isinstance" = some (.builtin "isinstance")) (pa_cons (pv 0) (pa_cons (pe_bltn (v := V.ty "int") (by rfl) T.n_int (by decide +kernel : bootBuiltins "int" = some (.type "int")) rfl) pa_nil))) (pe_one (pe_not (pe_callB call_isi (by rfl) T.n_isinstance (by decide +kernel : bootBuiltins "isinstance" = some (.builtin "isinstance")) (pa_cons (pv 0) (pa_cons (pe_bltn (v := V.ty "bool") (by rfl) T.n_bool (by decide +kernel : bootBuiltins "bool" = some (.type "bool")) rfl) pa_nil)))))))), ?_⟩
    simp only [tSeq, tRet, tRetN, tAsg, tIfS, tDrop, tNext, tChain, tC, tVar, tOp, tUn, tTest, tB, tAnd, tOr, tNot, tAndV, tOrV, tNotV, tIf, tCall, tCons, tNil, tCB, tTup, tLst, tFld, sFld, tMeth, tMake, tBM, tBM0, tSl, tPart, tNoPart, tYes, tNever, tBreak, tCont, gName, gCons, gNil, gTup, rI0, rI, rU, rEq, rNe, iList, iTup, iRng1, iRng2, iEnum, iZip, tBlk, tFor_eq, tRaiseS, tCallS, tMethS, tMakeS, tFstr, jCons, jNil, tFmt, tryIn_K, suite_K, cxOf_K, nox_K, wish_K, block_K, L2.start, blkStart, V.int.injEq, V.bl.injEq, V.ref.injEq, V.str.injEq, V.ty.injEq, Option.some.injEq, Option.join_some, Option.join_none, List.cons.injEq, exists_eq_left', exists_eq_left, exists_and_left, exists_and_right, exists_eq', exists_eq, and_true, true_and, and_assoc, List.map_cons, List.map_nil, List.length_cons, List.length_nil, Nat.reduceAdd, Nat.reduceSub, Nat.sub_self, List.replicate_zero, List.replicate_succ, List.cons_append, List.nil_append, List.append_nil, List.getElem?_cons_zero, List.getElem?_cons_succ, List.set_cons_zero, List.set_cons_succ, Bool.not_eq_true, Bool.false_eq_true, if_true, if_false]
    exact ⟨_, TyOf.int i, true, isi_tt tt_int_int, iteT ⟨_, TyOf.int i, false, isi_tt tt_int_bool, q⟩⟩
structure NetLike (n : Int) (ps : List Pr) : Prop where
  n1 : 1 ≤ n
  le : n ≤ (ps.length : Int)
  en : ∀ q ∈ ps, (0 ≤ q.1 ∧ q.1 < n) ∧ 0 ≤ q.2 ∧ q.2 < n
  ex : ∀ j : Nat, (j : Int) < n → ∃ q ∈ ps, q.1 = (j : Int)
theorem NetLike.ok {n : Int} {ps : List Pr} (h : NetLike n ps) (h1 : n ≤ 32) (h2 : ps.length ≤ 64) : netOk n ps = true := by
  have a := h.n1
  have b := h.le
  have e1 : endsOk n ps = true := by
    unfold endsOk
    rw [List.all_eq_true]
    intro q hq
    obtain ⟨⟨x, y⟩, z, w⟩ := h.en q hq
    simp [within, x, y, z, w]
  have e2 : exitsOk n ps = true := by
    unfold exitsOk
    rw [List.all_eq_true]
    intro k hk
    rw [List.mem_range] at hk
    obtain ⟨q, hq, e⟩ := h.ex k (by omega)
    rw [List.any_eq_true]
    exact ⟨q, hq, by simp [e]⟩
  unfold netOk
  rw [e1, e2]
  simp
  omega
def NLoop (H : Hp) (a pl : Addr) (z most extra many more cell : Int) (i : Nat) (σ : St) (H' : Hp) : Prop := ∃ as ps kv sv, σ = [some (.ref a), some (.int z), some (.int most), some (.int extra), some (.int many), some (.int more), some (.int cell), some (.ref pl), kv, sv, none] ∧ Same H H' ∧ H' pl = some (.lst (as.map V.ref)) ∧ TupsAt H' as ps ∧ ps.length = i ∧
      (∀ q ∈ ps, (0 ≤ q.1 ∧ q.1 < many) ∧ 0 ≤ q.2 ∧ q.2 < many) ∧ ∀ j : Nat, j < i → (j : Int) < many → ∃ q ∈ ps, q.1 = (j : Int)
theorem same_write {H H1 : Hp} {p pl : Addr} {o u : HO} (s1 : Same H H1) (hpl : H pl = none) (hp : H1 p = none) : Same H (upd (upd H1 p o) pl u) := fun b x e => by
  rw [upd_ne (ne_of_none e hpl)]
  exact upd_old (s1 _ _ e) hp
def sp_net (K : PySem.W.Frag) : Sp := fun vs H Q _ => ∃ (a : Addr) (ns : List Int) (z most extra : Int), vs = [.ref a, .int z, .int most, .int extra] ∧ SqL K H a (ns.map V.int) ∧ 0 ≤ z ∧ 1 ≤ most ∧ most ≤ 100 ∧ 0 ≤ extra ∧ extra ≤ 100 ∧
  ∀ (n : Int) (ps : List Pr) (tp l : Addr) (as : List Addr) (H' : Hp), Same H H' → H tp = none → H' tp = some (.tup [.int n, .ref l]) → H l = none → H' l = some (.lst (as.map V.ref)) → TupsAt H' as ps → NetLike n ps → n ≤ most → (ps.length : Int) ≤ n + extra → Q (.ref tp) H'
theorem ok_x_law_net (c0 : NoX CX) (T : Txt K mg t) : FnOk P w K mg base CX 2 t.f_x_law_net t.d_x_law_net ["script", "at", "most", "extra"] (sp_net K) := by
  refine T.F_x_law_net.okX sc_x_law_net (fun vs H Q E h => ?_) (fun cdv A outer s H vs Q E hr h => ?_)
  · obtain ⟨a, ns, z, most, extra, rfl, _⟩ := h
    rfl
  · obtain ⟨a, ns, z, most, extra, rfl, hs, hz, hm1, hm2, he1, he2, q⟩ := h
    refine ⟨_, (pss_cons (ps_set (i := 4) sc_x_law_net.nd (by rfl) (Or.inl rfl) (pe_op op_add pe_int (pe_op op_mod (pe_call (ok_x_law_cell_at c0 T) (hr.mono (by decide)) (by rfl) T.m_x_law_cell_at T.F_x_law_cell_at.kp T.b_x_law_cell_at .nil (pass1 c0) (pa_cons (pv 0) (pa_cons (pv 1) pa_nil))) (pv 2))))
  (pss_cons (ps_set (i := 5) sc_x_law_net.nd (by rfl) (Or.inl rfl) (pe_op op_mod (pe_op op_fdiv (pe_call (ok_x_law_cell_at c0 T) (hr.mono (by decide)) (by rfl) T.m_x_law_cell_at T.F_x_law_cell_at.kp T.b_x_law_cell_at .nil (pass1 c0) (pa_cons (pv 0) (pa_cons (pv 1) pa_nil))) (pv 2)) (pe_op op_add (pv 3) pe_int)))
  (pss_cons (ps_set (i := 6) sc_x_law_net.nd (by rfl) (Or.inl rfl) (pe_call (ok_x_law_cell_at c0 T) (hr.mono (by decide)) (by rfl) T.m_x_law_cell_at T.F_x_law_cell_at.kp T.b_x_law_cell_at .nil (pass1 c0) (pa_cons (pv 0) (pa_cons (pe_op op_add (pv 1) pe_int) pa_nil))))
  (pss_cons (ps_set (i := 7) sc_x_law_net.nd (by rfl) (Or.inl rfl) (pe_lst pa_nil))
  (pss_cons (ps_for PassesOwn.never (by rfl) (pi_range1 (by rfl) T.n_range (pa_cons (pe_op op_add (pv 4) (pv 5)) pa_nil)) (pg_name (i := 8) sc_x_law_net.nd (by rfl) (Or.inl rfl))
  (pss_cons (ps_set (i := 9) sc_x_law_net.nd (by rfl) (Or.inl rfl) (pe_ifExp (pt_cmpR op_lt (pv 8) (pv 4) (nomark _)) (pv 8) (pe_call (ok_x_law_draw c0 T) (hr.mono (by decide)) (by rfl) T.m_x_law_draw T.F_x_law_draw.kp T.b_x_law_draw .nil (pass1 c0) (pa_cons (pv 6) (pa_cons (pe_op op_mul pe_int (pv 8)) (pa_cons (pv 4) pa_nil))))))
  (pss_one (ps_expr (pe_bm PySem.F.plainAttrs_list PySem.F.slot_list_append PySem.F.type_list_append mt_append (pv 7) (pa_cons (pe_tup (pa_cons (pv 9) (pa_cons (pe_call (ok_x_law_draw c0 T) (hr.mono (by decide)) (by rfl) T.m_x_law_draw T.F_x_law_draw.kp T.b_x_law_draw .nil (pass1 c0) (pa_cons (pv 6) (pa_cons (pe_op op_add (pe_op op_mul pe_int (pv 8)) pe_int) (pa_cons (pv 4) pa_nil)))) pa_nil))) pa_nil))))))
  (pss_cons (ps_set (i := 10) sc_x_law_net.nd (by rfl) (Or.inl rfl) (pe_op op_mod (pe_call (ok_x_law_cell_at c0 T) (hr.mono (by decide)) (by rfl) T.m_x_law_cell_at T.F_x_law_cell_at.kp T.b_x_law_cell_at .nil (pass1 c0) (pa_cons (pv 0) (pa_cons (pe_op op_add (pv 1) pe_int) pa_nil))) (pe_callB call_len (by rfl) T.n_len (by decide +kernel : bootBuiltins "len" = some (.builtin "len")) (pa_cons (pv 7) pa_nil))))
  (pss_one (ps_ret (pe_tup (pa_cons (pv 4) (pa_cons (pe_op op_cat (pe_slice sl_list (pv 7) (po_some (pv 10)) po_none) (pe_slice sl_list (pv 7) po_none (po_some (pv 10)))) pa_nil))))))))))), ?_⟩
    simp only [tSeq, tRet, tRetN, tAsg, tIfS, tDrop, tNext, tChain, tC, tVar, tOp, tUn, tTest, tB, tAnd, tOr, tNot, tAndV, tOrV, tNotV, tIf, tCall, tCons, tNil, tCB, tTup, tLst, tFld, sFld, tMeth, tMake, tBM, tBM0, tSl, tPart, tNoPart, tYes, tNever, tBreak, tCont, gName, gCons, gNil, gTup, rI0, rI, rU, rEq, rNe, iList, iTup, iRng1, iRng2, iEnum, iZip, tBlk, tFor_eq, tRaiseS, tCallS, tMethS, tMakeS, tFstr, jCons, jNil, tFmt, tryIn_K, suite_K, cxOf_K, nox_K, wish_K, block_K, L2.start, blkStart, V.int.injEq, V.bl.injEq, V.ref.injEq, V.str.injEq, V.ty.injEq, Option.some.injEq, Option.join_some, Option.join_none, List.cons.injEq, exists_eq_left', exists_eq_left, exists_and_left, exists_and_right, exists_eq', exists_eq, and_true, true_and, and_assoc, List.map_cons, List.map_nil, List.length_cons, List.length_nil, Nat.reduceAdd, Nat.reduceSub, Nat.sub_self, List.replicate_zero, List.replicate_succ, List.cons_append, List.nil_append, List.append_nil, List.getElem?_cons_zero, List.getElem?_cons_succ, List.set_cons_zero, List.set_cons_succ, Bool.not_eq_true, Bool.false_eq_true, if_true, if_false, sp_cell_at]
    refine ⟨ns, hs, hz, by omega, ns, hs, hz, ⟨by omega, by omega⟩, by omega, ns, hs, by omega, by decide, fun pl hpl => ?_⟩
    have r1 := Int.emod_nonneg (cellOf ns z) (show most ≠ 0 by omega)
    have r2 := Int.emod_lt_of_pos (cellOf ns z) (show 0 < most by omega)
    have r3 := Int.emod_nonneg (cellOf ns z / most) (show extra + 1 ≠ 0 by omega)
    have r4 := Int.emod_lt_of_pos (cellOf ns z / most) (show 0 < extra + 1 by omega)
    generalize hmany : 1 + cellOf ns z % most = many
    generalize hmore : cellOf ns z / most % (extra + 1) = more at *
    generalize hcell : cellOf ns (z + 1) = cell
    have b1 : 1 ≤ many := by omega
    have b2 : many ≤ most := by omega
    have b3 : more ≤ extra := by omega
    refine ⟨by omega, by omega, forb_range (NLoop H a pl z most extra many more cell) ⟨[], [], none, none, rfl, Same.new hpl, upd_same, .nil, rfl, by simp, by simp⟩ ?_ ?_⟩
    · rintro i σ H1 hi ⟨as, ps, kv, sv, rfl, s1, hp1, ht, hl, hq, hx⟩
      have fin : ∀ (x y : Int) (v1 v2 : Option V) (p : Addr), (0 ≤ x ∧ x < many) → (0 ≤ y ∧ y < many) → ((i : Int) < many → x = i) → H1 p = none →
          rAppend (V.ref pl) [V.ref p] (upd H1 p (HO.tup [V.int x, V.int y])) fun _ H2 => NLoop H a pl z most extra many more cell (i + 1) [some (.ref a), some (.int z), some (.int most), some (.int extra), some (.int many), some (.int more), some (.int cell), some (.ref pl), v1, v2, none] H2 := by
        intro x y v1 v2 p hx1 hy1 hi1 hp
        have la := ht.len
        have e1 := upd_old (o := HO.tup [V.int x, V.int y]) hp1 hp
        refine ⟨pl, as.map V.ref, .ref p, rfl, rfl, e1, by rw [List.length_map, la, hl]; exact small1000 (by omega), as ++ [p], ps ++ [(x, y)], v1, v2, rfl, same_write s1 hpl hp, ?_, ?_, ?_, ?_, ?_⟩
        · rw [upd_same]; simp
        · refine TupsAt.upd e1 (by intro xs z; cases z) ((ht.same (Same.new hp)).append (.cons ?_ .nil))
          exact upd_same
        · simp [hl]
        · intro q hq'
          rcases List.mem_append.mp hq' with h | h
          · exact hq q h
          · have : q = (x, y) := by simpa using h
            subst this
            exact ⟨hx1, hy1⟩
        · intro j hj hjm
          by_cases h : j = i
          · subst h
            exact ⟨(x, y), by simp, hi1 hjm⟩
          · obtain ⟨q, hq1, hq2⟩ := hx j (by omega) hjm
            exact ⟨q, List.mem_append_left _ hq1, hq2⟩
      simp only [tSeq, tRet, tRetN, tAsg, tIfS, tDrop, tNext, tChain, tC, tVar, tOp, tUn, tTest, tB, tAnd, tOr, tNot, tAndV, tOrV, tNotV, tIf, tCall, tCons, tNil, tCB, tTup, tLst, tFld, sFld, tMeth, tMake, tBM, tBM0, tSl, tPart, tNoPart, tYes, tNever, tBreak, tCont, gName, gCons, gNil, gTup, rI0, rI, rU, rEq, rNe, iList, iTup, iRng1, iRng2, iEnum, iZip, tBlk, tFor_eq, tRaiseS, tCallS, tMethS, tMakeS, tFstr, jCons, jNil, tFmt, tryIn_K, suite_K, cxOf_K, nox_K, wish_K, block_K, L2.start, blkStart, V.int.injEq, V.bl.injEq, V.ref.injEq, V.str.injEq, V.ty.injEq, Option.some.injEq, Option.join_some, Option.join_none, List.cons.injEq, exists_eq_left', exists_eq_left, exists_and_left, exists_and_right, exists_eq', exists_eq, and_true, true_and, and_assoc, List.map_cons, List.map_nil, List.length_cons, List.length_nil, Nat.reduceAdd, Nat.reduceSub, Nat.sub_self, List.replicate_zero, List.replicate_succ, List.cons_append, List.nil_append, List.append_nil, List.getElem?_cons_zero, List.getElem?_cons_succ, List.set_cons_zero, List.set_cons_succ, Bool.not_eq_true, Bool.false_eq_true, if_true, if_false, Int.zero_add]
      by_cases hc : (i : Int) < many
      · rw [if_pos (decide_eq_true hc)]
        refine ⟨Or.inl ⟨rfl, _, SqL.of hp1⟩, Or.inl ⟨by decide, by decide⟩, _, _, _, rfl, by omega, by omega, by omega, fun r h1 h2 => ⟨by decide, fun p hp => fin _ _ _ _ p ⟨by omega, hc⟩ ⟨h1, h2⟩ (fun _ => rfl) hp⟩⟩
      · rw [if_neg (by simp [hc])]
        refine ⟨Or.inl ⟨by decide, by decide⟩, _, _, _, rfl, by omega, by omega, by omega, fun r h1 h2 => ⟨Or.inl ⟨rfl, _, SqL.of hp1⟩, Or.inl ⟨by decide, by decide⟩, _, _, _, rfl, by omega, by omega, by omega, fun r' h1' h2' => ⟨by decide, fun p hp => fin _ _ _ _ p ⟨h1, h2⟩ ⟨h1', h2'⟩ (fun h => absurd h hc) hp⟩⟩⟩
    · rintro σ H1 ⟨as, ps, kv, sv, rfl, s1, hp1, ht, hl, hq, hx⟩
      have la := ht.len
      have lm : (as.map V.ref).length = ps.length := by rw [List.length_map, la]
      simp only [tSeq, tRet, tRetN, tAsg, tIfS, tDrop, tNext, tChain, tC, tVar, tOp, tUn, tTest, tB, tAnd, tOr, tNot, tAndV, tOrV, tNotV, tIf, tCall, tCons, tNil, tCB, tTup, tLst, tFld, sFld, tMeth, tMake, tBM, tBM0, tSl, tPart, tNoPart, tYes, tNever, tBreak, tCont, gName, gCons, gNil, gTup, rI0, rI, rU, rEq, rNe, iList, iTup, iRng1, iRng2, iEnum, iZip, tBlk, tFor_eq, tRaiseS, tCallS, tMethS, tMakeS, tFstr, jCons, jNil, tFmt, tryIn_K, suite_K, cxOf_K, nox_K, wish_K, block_K, L2.start, blkStart, V.int.injEq, V.bl.injEq, V.ref.injEq, V.str.injEq, V.ty.injEq, Option.some.injEq, Option.join_some, Option.join_none, List.cons.injEq, exists_eq_left', exists_eq_left, exists_and_left, exists_and_right, exists_eq', exists_eq, and_true, true_and, and_assoc, List.map_cons, List.map_nil, List.length_cons, List.length_nil, Nat.reduceAdd, Nat.reduceSub, Nat.sub_self, List.replicate_zero, List.replicate_succ, List.cons_append, List.nil_append, List.append_nil, List.getElem?_cons_zero, List.getElem?_cons_succ, List.set_cons_zero, List.set_cons_succ, Bool.not_eq_true, Bool.false_eq_true, if_true, if_false, sp_cell_at, rSlL, rCat]
      refine ⟨ns, s1.seq hs, by omega, _, lenL (SqL.of hp1), by omega, _, SqL.of hp1, fun d1 hd1 => ?_⟩
      have r5 := Int.emod_nonneg (cellOf ns (z + 2)) (show (((as.map V.ref).length : Nat) : Int) ≠ 0 by omega)
      have r6 := Int.emod_lt_of_pos (cellOf ns (z + 2)) (show 0 < (((as.map V.ref).length : Nat) : Int) by omega)
      generalize cellOf ns (z + 2) % (((as.map V.ref).length : Nat) : Int) = tn at *
      obtain ⟨u, rfl⟩ : ∃ u : Nat, tn = (u : Int) := ⟨tn.toNat, by omega⟩
      have hu : u ≤ (as.map V.ref).length := by omega
      rw [cutV_drop _ _ hu]
      refine ⟨_, SqL.of (upd_old hp1 hd1), fun d2 hd2 => ?_⟩
      rw [cutV_take _ _ hu]
      refine ⟨_, upd_old upd_same hd2, _, upd_same, by rw [List.length_drop, List.length_take]; exact small_le (by omega), fun d3 hd3 => ⟨by decide, fun d4 hd4 => ?_⟩⟩
      have s2 : Same H1 (upd (upd H1 d1 (.lst ((as.map V.ref).drop u))) d2 (.lst ((as.map V.ref).take u))) := (Same.new hd1).trans (Same.new hd2)
      have s3 := s2.trans (Same.new (o := .lst ((as.map V.ref).drop u ++ (as.map V.ref).take u)) hd3)
      have s4 := s3.trans (Same.new (o := .tup [V.int many, V.ref d3]) hd4)
      have mem : ∀ x : Pr, x ∈ ps.drop u ++ ps.take u ↔ x ∈ ps := fun x => by
        rw [List.mem_append, Or.comm, ← List.mem_append, List.take_append_drop]
      have ln : (ps.drop u ++ ps.take u).length = ps.length := by rw [List.length_append, List.length_drop, List.length_take]; omega
      refine q many (ps.drop u ++ ps.take u) d4 d3 (as.drop u ++ as.take u) _ (s1.trans s4) ((s1.trans s3).free hd4) upd_same ((s1.trans s2).free hd3) ?_ ?_ ⟨b1, by rw [ln]; omega, fun x hx' => hq x ((mem x).mp hx'), fun j hj => ?_⟩ b2 (by rw [ln]; omega)
      · rw [List.map_append, List.map_drop, List.map_take]
        exact upd_old upd_same hd4
      · exact ((ht.drop u).append (ht.take u)).same s4
      · obtain ⟨x, h1, h2⟩ := hx j (by omega) hj
        exact ⟨x, (mem x).mpr h1, h2⟩
/-- the roads while they are drawn: a round over all places, and a way from start to here -/
structure EvenUp (n : Nat) (st he : Int) (ps : List Pr) : Prop where
  en : ∀ q ∈ ps, (0 ≤ q.1 ∧ q.1 < n) ∧ 0 ≤ q.2 ∧ q.2 < n
  ev : ∀ p : Nat, (ps.map (·.1)).count (p : Int) + (if (p : Int) = he then 1 else 0) = (ps.map (·.2)).count (p : Int) + (if (p : Int) = st then 1 else 0)
  cy : ∀ k, k < n → ((k : Int), (((k + 1) % n : Nat) : Int)) ∈ ps
def roundP (n i : Nat) : List Pr := (List.range i).map fun (k : Nat) => ((k : Int), (((k + 1) % n : Nat) : Int))
theorem round_ev {n : Nat} (hn : 1 ≤ n) (p : Nat) : ((roundP n n).map (·.1)).count (p : Int) = ((roundP n n).map (·.2)).count (p : Int) := by
  have h1 : ∀ i, ((roundP n i).map (·.1)).count (p : Int) = if p < i then 1 else 0 := by
    intro i
    induction i with
    | zero => rfl
    | succ i ih =>
      have e : roundP n (i + 1) = roundP n i ++ [((i : Int), (((i + 1) % n : Nat) : Int))] := by simp [roundP, List.range_succ]
      rw [e, List.map_append, List.count_append, ih]
      by_cases c : i = p
      · subst c
        simp
      · have c' : ¬ ((i : Nat) : Int) = ((p : Nat) : Int) := by omega
        have b : ([((i : Int), (((i + 1) % n : Nat) : Int))].map (·.1)).count (p : Int) = 0 := by simp [List.count_cons, c']
        rw [b]
        by_cases d : p < i
        · rw [if_pos d, if_pos (by omega)]
        · rw [if_neg d, if_neg (by omega)]
  have h2 : ∀ i, i < n → ((roundP n i).map (·.2)).count (p : Int) = if 1 ≤ p ∧ p ≤ i then 1 else 0 := by
    intro i
    induction i with
    | zero =>
      intro _
      rw [if_neg (by omega)]
      rfl
    | succ i ih =>
      intro hi
      have e : roundP n (i + 1) = roundP n i ++ [((i : Int), (((i + 1) % n : Nat) : Int))] := by simp [roundP, List.range_succ]
      have em : (i + 1) % n = i + 1 := Nat.mod_eq_of_lt hi
      rw [e, List.map_append, List.count_append, ih (by omega)]
      rw [em]
      by_cases c : i + 1 = p
      · subst c
        rw [if_neg (by omega), if_pos (by omega)]
        simp
      · have c' : ¬ ((i + 1 : Nat) : Int) = ((p : Nat) : Int) := by omega
        have b : ([((i : Int), ((i + 1 : Nat) : Int))].map (·.2)).count (p : Int) = 0 := by
          rw [List.map_cons, List.map_nil, List.count_cons]
          simp only [List.count_nil]
          rw [if_neg (by simpa using c')]
        rw [b]
        by_cases d : 1 ≤ p ∧ p ≤ i
        · rw [if_pos d, if_pos (by omega)]
        · rw [if_neg d, if_neg (by omega)]
  obtain ⟨m, rfl⟩ : ∃ m, n = m + 1 := ⟨n - 1, by omega⟩
  have e : roundP (m + 1) (m + 1) = roundP (m + 1) m ++ [((m : Int), (((m + 1) % (m + 1) : Nat) : Int))] := by simp [roundP, List.range_succ]
  rw [h1, e, List.map_append, List.count_append, h2 m (by omega), Nat.mod_self]
  by_cases c : p = 0
  · subst c
    rw [if_pos (by omega), if_neg (by omega)]
    simp
  · have b : ([((m : Int), ((0 : Nat) : Int))].map (·.2)).count (p : Int) = 0 := by
      rw [List.map_cons, List.map_nil, List.count_cons]
      simp only [List.count_nil]
      rw [if_neg (by simp; omega)]
    rw [b]
    by_cases d : p < m + 1
    · rw [if_pos d, if_pos (by omega)]
    · rw [if_neg d, if_neg (by omega)]
theorem EvenUp.start {n : Nat} (hn : 1 ≤ n) (h : Int) : EvenUp n h h (roundP n n) := by
  refine ⟨fun q hq => ?_, fun p => by rw [round_ev hn p], fun k hk => List.mem_map.mpr ⟨k, List.mem_range.mpr hk, rfl⟩⟩
  obtain ⟨k, hk, rfl⟩ := List.mem_map.mp hq
  have := List.mem_range.mp hk
  have := Nat.mod_lt (k + 1) (show 0 < n by omega)
  show (0 ≤ (k : Int) ∧ (k : Int) < n) ∧ 0 ≤ (((k + 1) % n : Nat) : Int) ∧ (((k + 1) % n : Nat) : Int) < n
  omega
theorem EvenUp.more {n : Nat} {st he th : Int} {ps : List Pr} (E : EvenUp n st he ps) (h1 : 0 ≤ he ∧ he < n) (h2 : 0 ≤ th ∧ th < n) : EvenUp n st th (ps ++ [(he, th)]) := by
  refine ⟨fun q hq => ?_, fun p => ?_, fun k hk => List.mem_append_left _ (E.cy k hk)⟩
  · rcases List.mem_append.mp hq with h | h
    · exact E.en q h
    · have : q = (he, th) := by simpa using h
      rw [this]
      exact ⟨h1, h2⟩
  · have := E.ev p
    rw [List.map_append, List.map_append, List.count_append, List.count_append]
    have a : ([(he, th)].map (·.1)).count (p : Int) = if (p : Int) = he then 1 else 0 := by
      rw [List.map_cons, List.map_nil, List.count_cons]
      simp only [List.count_nil]
      by_cases c : he = (p : Int)
      · rw [if_pos (by simpa using c), if_pos c.symm]
      · rw [if_neg (by simpa using c), if_neg (fun z => c z.symm)]
    have b : ([(he, th)].map (·.2)).count (p : Int) = if (p : Int) = th then 1 else 0 := by
      rw [List.map_cons, List.map_nil, List.count_cons]
      simp only [List.count_nil]
      by_cases c : th = (p : Int)
      · rw [if_pos (by simpa using c), if_pos c.symm]
      · rw [if_neg (by simpa using c), if_neg (fun z => c z.symm)]
    rw [a, b]
    omega
theorem EvenUp.like {n : Nat} {st : Int} {ps : List Pr} (hn : 1 ≤ n) (E : EvenUp n st st ps) : EvenLike n ps :=
  ⟨hn, List.length_pos_of_mem (E.cy 0 hn), E.en, fun p => by have := E.ev p; omega, E.cy⟩
theorem same_write' {H H1 : Hp} {p pl : Addr} {o u : HO} (s1 : Same H H1) (hpl : H pl = none) (hp : H1 p = none) : Same H (upd (upd H1 p o) pl u) := fun b x e => by
  rw [upd_ne (ne_of_none e hpl)]
  exact upd_old (s1 _ _ e) hp
def ELoop (H : Hp) (a pl : Addr) (z most extra more cell : Int) (n : Nat) (st : Int) (i : Nat) (σ : St) (H' : Hp) : Prop := ∃ (as : List Addr) (ps : List Pr) (kv tv : Option V) (he : Int), σ = [some (.ref a), some (.int z), some (.int most), some (.int extra), some (.int n), some (.int more), some (.int cell), some (.ref pl), kv, some (.int he), some (.int st), tv, none] ∧ Same H H' ∧ H' pl = some (.lst (as.map V.ref)) ∧ TupsAt H' as ps ∧ ps.length = n + i ∧ (0 ≤ he ∧ he < n) ∧ EvenUp n st he ps
def sp_even (K : PySem.W.Frag) : Sp := fun vs H Q _ => ∃ (a : Addr) (ns : List Int) (z most extra : Int), vs = [.ref a, .int z, .int most, .int extra] ∧ SqL K H a (ns.map V.int) ∧ 0 ≤ z ∧ 1 ≤ most ∧ most ≤ 100 ∧ 0 ≤ extra ∧ extra ≤ 100 ∧
  ∀ (n : Nat) (ps : List Pr) (tp l : Addr) (as : List Addr) (H' : Hp), Same H H' → H tp = none → H' tp = some (.tup [.int n, .ref l]) → H l = none → H' l = some (.lst (as.map V.ref)) → TupsAt H' as ps → EvenLike n ps → (n : Int) ≤ most → (ps.length : Int) ≤ n + extra + 1 → Q (.ref tp) H'
theorem ok_x_law_even (c0 : NoX CX) (T : Txt K mg t) : FnOk P w K mg base CX 2 t.f_x_law_even t.d_x_law_even ["script", "at", "most", "extra"] (sp_even K) := by
  refine T.F_x_law_even.okX sc_x_law_even (fun vs H Q E h => ?_) (fun cdv A outer s H vs Q E hr h => ?_)
  · obtain ⟨a, ns, z, most, extra, rfl, _⟩ := h
    rfl
  · obtain ⟨a, ns, z, most, extra, rfl, hs, hz, hm1, hm2, he1, he2, q⟩ := h
    refine ⟨_, (pss_cons (ps_set (i := 4) sc_x_law_even.nd (by rfl) (Or.inr rfl) (pe_op op_add pe_int (pe_op op_mod (pe_call (ok_x_law_cell_at c0 T) (hr.mono (by decide)) (by rfl) T.m_x_law_cell_at T.F_x_law_cell_at.kp T.b_x_law_cell_at .nil (pass1 c0) (pa_cons (pv 0) (pa_cons (pv 1) pa_nil))) (pv 2))))
  (pss_cons (ps_set (i := 5) sc_x_law_even.nd (by rfl) (Or.inl rfl) (pe_op op_mod (pe_op op_fdiv (pe_call (ok_x_law_cell_at c0 T) (hr.mono (by decide)) (by rfl) T.m_x_law_cell_at T.F_x_law_cell_at.kp T.b_x_law_cell_at .nil (pass1 c0) (pa_cons (pv 0) (pa_cons (pv 1) pa_nil))) (pv 2)) (pe_op op_add (pv 3) pe_int)))
  (pss_cons (ps_set (i := 6) sc_x_law_even.nd (by rfl) (Or.inl rfl) (pe_call (ok_x_law_cell_at c0 T) (hr.mono (by decide)) (by rfl) T.m_x_law_cell_at T.F_x_law_cell_at.kp T.b_x_law_cell_at .nil (pass1 c0) (pa_cons (pv 0) (pa_cons (pe_op op_add (pv 1) pe_int) pa_nil))))
  (pss_cons (ps_comp (i := 7) sc_x_law_even.nd (by rfl) (Or.inl rfl) (own := (["k"] : List Str)) (fr := (["many"] : List Str)) (ix := ([4] : List Nat)) (by rfl) ⟨by rfl, by decide +kernel, by rfl, by rfl, by rfl⟩ (pi_range1 (by rfl) T.n_range (pa_cons (pv 4) pa_nil)) (fun _ => (pg_name (i := 0) (show List.Nodup (["k", "many"] : List Str) by decide +kernel) (by rfl) (Or.inl rfl))) (fun _ hB => pts_nil) (fun _ hB => (pe_tup (pa_cons (pv 0) (pa_cons (pe_op op_mod (pe_op op_add (pv 0) pe_int) (pv 1)) pa_nil)))))
  (pss_cons (ps_set (i := 9) sc_x_law_even.nd (by rfl) (Or.inl rfl) (pe_call (ok_x_law_draw c0 T) (hr.mono (by decide)) (by rfl) T.m_x_law_draw T.F_x_law_draw.kp T.b_x_law_draw .nil (pass1 c0) (pa_cons (pv 6) (pa_cons pe_int (pa_cons (pv 4) pa_nil)))))
  (pss_cons (ps_set (i := 10) sc_x_law_even.nd (by rfl) (Or.inl rfl) (pv 9))
  (pss_cons (ps_for PassesOwn.never (by rfl) (pi_range1 (by rfl) T.n_range (pa_cons (pv 5) pa_nil)) (pg_name (i := 8) sc_x_law_even.nd (by rfl) (Or.inl rfl))
  (pss_cons (ps_set (i := 11) sc_x_law_even.nd (by rfl) (Or.inl rfl) (pe_call (ok_x_law_draw c0 T) (hr.mono (by decide)) (by rfl) T.m_x_law_draw T.F_x_law_draw.kp T.b_x_law_draw .nil (pass1 c0) (pa_cons (pv 6) (pa_cons (pe_op op_add (pv 8) pe_int) (pa_cons (pv 4) pa_nil)))))
  (pss_cons (ps_expr (pe_bm PySem.F.plainAttrs_list PySem.F.slot_list_append PySem.F.type_list_append mt_append (pv 7) (pa_cons (pe_tup (pa_cons (pv 9) (pa_cons (pv 11) pa_nil))) pa_nil)))
  (pss_one (ps_set (i := 9) sc_x_law_even.nd (by rfl) (Or.inl rfl) (pv 11))))))
  (pss_cons (ps_if (pt_cmpR op_ne (pv 9) (pv 10) (nomark _))
  (pss_one (ps_expr (pe_bm PySem.F.plainAttrs_list PySem.F.slot_list_append PySem.F.type_list_append mt_append (pv 7) (pa_cons (pe_tup (pa_cons (pv 9) (pa_cons (pv 10) pa_nil))) pa_nil))))
  pss_nil)
  (pss_cons (ps_set (i := 12) sc_x_law_even.nd (by rfl) (Or.inl rfl) (pe_op op_mod (pe_call (ok_x_law_cell_at c0 T) (hr.mono (by decide)) (by rfl) T.m_x_law_cell_at T.F_x_law_cell_at.kp T.b_x_law_cell_at .nil (pass1 c0) (pa_cons (pv 0) (pa_cons (pe_op op_add (pv 1) pe_int) pa_nil))) (pe_callB call_len (by rfl) T.n_len (by decide +kernel : bootBuiltins "len" = some (.builtin "len")) (pa_cons (pv 7) pa_nil))))
  (pss_one (ps_ret (pe_tup (pa_cons (pv 4) (pa_cons (pe_op op_cat (pe_slice sl_list (pv 7) (po_some (pv 12)) po_none) (pe_slice sl_list (pv 7) po_none (po_some (pv 12)))) pa_nil)))))))))))))), ?_⟩
    simp only [tSeq, tRet, tRetN, tAsg, tIfS, tDrop, tNext, tChain, tC, tVar, tOp, tUn, tTest, tB, tAnd, tOr, tNot, tAndV, tOrV, tNotV, tIf, tCall, tCons, tNil, tCB, tTup, tLst, tFld, sFld, tMeth, tMake, tBM, tBM0, tSl, tPart, tNoPart, tYes, tNever, tBreak, tCont, gName, gCons, gNil, gTup, rI0, rI, rU, rEq, rNe, iList, iTup, iRng1, iRng2, iEnum, iZip, tBlk, tFor_eq, tRaiseS, tCallS, tMethS, tMakeS, tFstr, jCons, jNil, tFmt, tryIn_K, suite_K, cxOf_K, nox_K, wish_K, block_K, L2.start, blkStart, V.int.injEq, V.bl.injEq, V.ref.injEq, V.str.injEq, V.ty.injEq, Option.some.injEq, Option.join_some, Option.join_none, List.cons.injEq, exists_eq_left', exists_eq_left, exists_and_left, exists_and_right, exists_eq', exists_eq, and_true, true_and, and_assoc, List.map_cons, List.map_nil, List.length_cons, List.length_nil, Nat.reduceAdd, Nat.reduceSub, Nat.sub_self, List.replicate_zero, List.replicate_succ, List.cons_append, List.nil_append, List.append_nil, List.getElem?_cons_zero, List.getElem?_cons_succ, List.set_cons_zero, List.set_cons_succ, Bool.not_eq_true, Bool.false_eq_true, if_true, if_false, sp_cell_at, sp_draw]
    have r1 := Int.emod_nonneg (cellOf ns z) (show most ≠ 0 by omega)
    have r2 := Int.emod_lt_of_pos (cellOf ns z) (show 0 < most by omega)
    have r3 := Int.emod_nonneg (cellOf ns z / most) (show extra + 1 ≠ 0 by omega)
    have r4 := Int.emod_lt_of_pos (cellOf ns z / most) (show 0 < extra + 1 by omega)
    refine ⟨ns, hs, hz, by omega, ns, hs, hz, ⟨by omega, by omega⟩, by omega, ns, hs, by omega, by omega, by omega, ?_⟩
    generalize hmany : 1 + cellOf ns z % most = many
    generalize hmore : cellOf ns z / most % (extra + 1) = more at *
    generalize hcell : cellOf ns (z + 1) = cell
    have b1 : 1 ≤ many := by omega
    have b2 : many ≤ most := by omega
    obtain ⟨n, rfl⟩ : ∃ n : Nat, many = (n : Int) := ⟨many.toNat, by omega⟩
    refine blk_range (fun i ys σ H' => ∃ u as, σ = [u, some (.int n)] ∧ Same H H' ∧ ys = as.map V.ref ∧ TupsAt H' as (roundP n i)) (by rw [Int.toNat_natCast]; exact small_le (by omega)) ⟨none, [], rfl, Same.refl _, rfl, .nil⟩ ?_ ?_ ?_
    · rintro i ys σ H1 hi ⟨u, as, rfl, s1, rfl, ht⟩
      rw [List.length_map, ht.len]
      simp [roundP]
    · rintro bk i ys σ H1 hi ⟨u, as, rfl, s1, rfl, ht⟩
      simp only [tSeq, tRet, tRetN, tAsg, tIfS, tDrop, tNext, tChain, tC, tVar, tOp, tUn, tTest, tB, tAnd, tOr, tNot, tAndV, tOrV, tNotV, tIf, tCall, tCons, tNil, tCB, tTup, tLst, tFld, sFld, tMeth, tMake, tBM, tBM0, tSl, tPart, tNoPart, tYes, tNever, tBreak, tCont, gName, gCons, gNil, gTup, rI0, rI, rU, rEq, rNe, iList, iTup, iRng1, iRng2, iEnum, iZip, tBlk, tFor_eq, tRaiseS, tCallS, tMethS, tMakeS, tFstr, jCons, jNil, tFmt, tryIn_K, suite_K, cxOf_K, nox_K, wish_K, block_K, L2.start, blkStart, V.int.injEq, V.bl.injEq, V.ref.injEq, V.str.injEq, V.ty.injEq, Option.some.injEq, Option.join_some, Option.join_none, List.cons.injEq, exists_eq_left', exists_eq_left, exists_and_left, exists_and_right, exists_eq', exists_eq, and_true, true_and, and_assoc, List.map_cons, List.map_nil, List.length_cons, List.length_nil, Nat.reduceAdd, Nat.reduceSub, Nat.sub_self, List.replicate_zero, List.replicate_succ, List.cons_append, List.nil_append, List.append_nil, List.getElem?_cons_zero, List.getElem?_cons_succ, List.set_cons_zero, List.set_cons_succ, Bool.not_eq_true, Bool.false_eq_true, if_true, if_false, Int.zero_add]
      refine ⟨by omega, by decide, fun p fp => ⟨s1.upd' fp, as ++ [p], by simp, ?_⟩⟩
      have e : roundP n (i + 1) = roundP n i ++ [((i : Int), (((i + 1) % n : Nat) : Int))] := by simp [roundP, List.range_succ]
      rw [e]
      refine (ht.same (Same.new fp)).append (.cons ?_ .nil)
      rw [upd_same]
      show some (HO.tup [V.int (i : Int), V.int (((i : Int) + 1) % (n : Int))]) = some (HO.tup [V.int (i : Int), V.int (((i + 1) % n : Nat) : Int)])
      have e2 : ((i : Int) + 1) % (n : Int) = (((i + 1) % n : Nat) : Int) := by push_cast; rfl
      rw [e2]
    · rintro ys σ H1 pl ⟨u, as, rfl, s1, rfl, ht⟩ hpl
      rw [Int.toNat_natCast] at ht
      refine ⟨by decide, by decide, by omega, fun st h1 h2 => ⟨by omega, by omega, forb_range (ELoop H a pl z most extra more cell n st) ⟨as, roundP n n, none, none, st, rfl, s1.upd' hpl, upd_same, ht.same (Same.new hpl), by simp [roundP], ⟨h1, h2⟩, EvenUp.start (by omega) st⟩ ?_ ?_⟩⟩
      · rintro i σ H2 hi ⟨as2, ps2, kv, tv, he, rfl, s2, hp2, ht2, hl2, hhe, EU⟩
        simp only [tSeq, tRet, tRetN, tAsg, tIfS, tDrop, tNext, tChain, tC, tVar, tOp, tUn, tTest, tB, tAnd, tOr, tNot, tAndV, tOrV, tNotV, tIf, tCall, tCons, tNil, tCB, tTup, tLst, tFld, sFld, tMeth, tMake, tBM, tBM0, tSl, tPart, tNoPart, tYes, tNever, tBreak, tCont, gName, gCons, gNil, gTup, rI0, rI, rU, rEq, rNe, iList, iTup, iRng1, iRng2, iEnum, iZip, tBlk, tFor_eq, tRaiseS, tCallS, tMethS, tMakeS, tFstr, jCons, jNil, tFmt, tryIn_K, suite_K, cxOf_K, nox_K, wish_K, block_K, L2.start, blkStart, V.int.injEq, V.bl.injEq, V.ref.injEq, V.str.injEq, V.ty.injEq, Option.some.injEq, Option.join_some, Option.join_none, List.cons.injEq, exists_eq_left', exists_eq_left, exists_and_left, exists_and_right, exists_eq', exists_eq, and_true, true_and, and_assoc, List.map_cons, List.map_nil, List.length_cons, List.length_nil, Nat.reduceAdd, Nat.reduceSub, Nat.sub_self, List.replicate_zero, List.replicate_succ, List.cons_append, List.nil_append, List.append_nil, List.getElem?_cons_zero, List.getElem?_cons_succ, List.set_cons_zero, List.set_cons_succ, Bool.not_eq_true, Bool.false_eq_true, if_true, if_false, Int.zero_add]
        refine ⟨_, _, _, rfl, by omega, by omega, by omega, fun th h3 h4 => ⟨Or.inl ⟨rfl, _, SqL.of hp2⟩, by decide, fun p fp => ?_⟩⟩
        have fpl : H pl = none := s1.free hpl
        have la := ht2.len
        have e1 := upd_old (o := HO.tup [V.int he, V.int th]) hp2 fp
        refine ⟨pl, as2.map V.ref, .ref p, rfl, rfl, e1, by rw [List.length_map, la, hl2]; exact small1000 (by omega), as2 ++ [p], ps2 ++ [(he, th)], _, _, th, rfl, same_write' s2 fpl fp, ?_, ?_, ?_, ⟨h3, h4⟩, EU.more hhe ⟨h3, h4⟩⟩
        · rw [upd_same]; simp
        · refine TupsAt.upd e1 (by intro xs z; cases z) ((ht2.same (Same.new fp)).append (.cons ?_ .nil))
          exact upd_same
        · simp [hl2]; omega
      · rintro σ H2 ⟨as2, ps2, kv, tv, he, rfl, s2, hp2, ht2, hl2, hhe, EU⟩
        have fpl : H pl = none := s1.free hpl
        have fin : ∀ (H3 : Hp) (as3 : List Addr) (ps3 : List Pr), Same H H3 → H3 pl = some (.lst (as3.map V.ref)) → TupsAt H3 as3 ps3 → EvenLike n ps3 → (ps3.length : Int) ≤ n + extra + 1 →
            sp_cell_at K [V.ref a, V.int (z + 2)] H3 (fun x H1 => ∃ x_1, LenV K (V.ref pl) H1 x_1 ∧ ∃ i, x = V.int i ∧ 0 < (x_1 : Int) ∧ rSlL K (V.ref pl) (some (i % (x_1 : Int))) none H1 fun x H1 => rSlL K (V.ref pl) none (some (i % (x_1 : Int))) H1 fun y H2 => rCat x y H2 fun x H1 => 2 ≤ sizeLine ∧ ∀ (p : Addr), H1 p = none → Q (V.ref p) (upd H1 p (HO.tup [V.int (n : Int), x]))) E0 := by
          intro H3 as3 ps3 s3 hp3 ht3 EL hl3
          have la := ht3.len
          have lm : (as3.map V.ref).length = ps3.length := by rw [List.length_map, la]
          have lpos := EL.ne
          refine ⟨a, ns, z + 2, rfl, s3.seq hs, by omega, _, lenL (SqL.of hp3), _, rfl, by omega, ?_⟩
          have r5 := Int.emod_nonneg (cellOf ns (z + 2)) (show (((as3.map V.ref).length : Nat) : Int) ≠ 0 by omega)
          have r6 := Int.emod_lt_of_pos (cellOf ns (z + 2)) (show 0 < (((as3.map V.ref).length : Nat) : Int) by omega)
          generalize cellOf ns (z + 2) % (((as3.map V.ref).length : Nat) : Int) = tn at *
          obtain ⟨u, rfl⟩ : ∃ u : Nat, tn = (u : Int) := ⟨tn.toNat, by omega⟩
          have hu : u ≤ (as3.map V.ref).length := by omega
          refine ⟨pl, _, rfl, SqL.of hp3, fun d1 hd1 => ?_⟩
          rw [cutV_drop _ _ hu]
          refine ⟨pl, _, rfl, SqL.of (upd_old hp3 hd1), fun d2 hd2 => ?_⟩
          rw [cutV_take _ _ hu]
          refine ⟨d1, d2, _, _, rfl, rfl, upd_old upd_same hd2, upd_same, by rw [List.length_drop, List.length_take]; exact small_le (by omega), fun d3 hd3 => ⟨by decide, fun d4 hd4 => ?_⟩⟩
          have s2' : Same H3 (upd (upd H3 d1 (.lst ((as3.map V.ref).drop u))) d2 (.lst ((as3.map V.ref).take u))) := (Same.new hd1).trans (Same.new hd2)
          have s3' := s2'.trans (Same.new (o := .lst ((as3.map V.ref).drop u ++ (as3.map V.ref).take u)) hd3)
          have s4' := s3'.trans (Same.new (o := .tup [V.int (n : Int), V.ref d3]) hd4)
          have pm : (ps3.drop u ++ ps3.take u).Perm ps3 := List.perm_append_comm.trans (by rw [List.take_append_drop])
          refine q n (ps3.drop u ++ ps3.take u) d4 d3 (as3.drop u ++ as3.take u) _ (s3.trans s4') ((s3.trans s3').free hd4) upd_same ((s3.trans s2').free hd3) ?_ ?_ (EL.perm pm) (by omega) (by rw [pm.length_eq]; exact hl3)
          · rw [List.map_append, List.map_drop, List.map_take]
            exact upd_old upd_same hd4
          · exact ((ht3.drop u).append (ht3.take u)).same s4'
        have la := ht2.len
        have hmr : more.toNat ≤ extra.toNat := by omega
        simp only [tSeq, tRet, tRetN, tAsg, tIfS, tDrop, tNext, tChain, tC, tVar, tOp, tUn, tTest, tB, tAnd, tOr, tNot, tAndV, tOrV, tNotV, tIf, tCall, tCons, tNil, tCB, tTup, tLst, tFld, sFld, tMeth, tMake, tBM, tBM0, tSl, tPart, tNoPart, tYes, tNever, tBreak, tCont, gName, gCons, gNil, gTup, rI0, rI, rU, rEq, rNe, iList, iTup, iRng1, iRng2, iEnum, iZip, tBlk, tFor_eq, tRaiseS, tCallS, tMethS, tMakeS, tFstr, jCons, jNil, tFmt, tryIn_K, suite_K, cxOf_K, nox_K, wish_K, block_K, L2.start, blkStart, V.int.injEq, V.bl.injEq, V.ref.injEq, V.str.injEq, V.ty.injEq, Option.some.injEq, Option.join_some, Option.join_none, List.cons.injEq, exists_eq_left', exists_eq_left, exists_and_left, exists_and_right, exists_eq', exists_eq, and_true, true_and, and_assoc, List.map_cons, List.map_nil, List.length_cons, List.length_nil, Nat.reduceAdd, Nat.reduceSub, Nat.sub_self, List.replicate_zero, List.replicate_succ, List.cons_append, List.nil_append, List.append_nil, List.getElem?_cons_zero, List.getElem?_cons_succ, List.set_cons_zero, List.set_cons_succ, Bool.not_eq_true, Bool.false_eq_true, if_true, if_false]
        refine ⟨rfl, ?_⟩
        by_cases c : he = st
        · rw [if_neg (by simp [c])]
          exact fin H2 as2 ps2 s2 hp2 ht2 (EvenUp.like (by omega) (c ▸ EU)) (by omega)
        · rw [if_pos (by simp [c])]
          refine ⟨Or.inl ⟨rfl, _, SqL.of hp2⟩, by decide, fun p fp => ?_⟩
          have e1 := upd_old (o := HO.tup [V.int he, V.int st]) hp2 fp
          refine ⟨pl, as2.map V.ref, .ref p, rfl, rfl, e1, by rw [List.length_map, la, hl2]; exact small1000 (by omega), ?_⟩
          refine fin _ (as2 ++ [p]) (ps2 ++ [(he, st)]) (same_write' s2 fpl fp) (by rw [upd_same]; simp) (TupsAt.upd e1 (by intro xs z; cases z) ((ht2.same (Same.new fp)).append (.cons upd_same .nil))) (EvenUp.like (by omega) (EU.more hhe ⟨h1, h2⟩)) ?_
          rw [List.length_append, List.length_singleton]
          omega
def sp_numbers (K : PySem.W.Frag) : Sp := fun vs H Q _ => ∃ (a b : Addr) (xs : List Int), vs = [.ref a, .ref b] ∧ H a = some (.lst (xs.map V.int)) ∧ SqL K H b (xs.map V.int) ∧ Q (.bl true) H
theorem ok_x_law_numbers (c0 : NoX CX) (T : Txt K mg t) : FnOk P w K mg base CX 2 t.f_x_law_numbers t.d_x_law_numbers ["found", "due"] (sp_numbers K) := by
  refine T.F_x_law_numbers.okX sc_x_law_numbers (fun vs H Q E h => ?_) (fun cdv A outer s H vs Q E hr h => ?_)
  · obtain ⟨a, b, xs, rfl, _⟩ := h
    rfl
  · obtain ⟨a, b, xs, rfl, ha, hb, q⟩ := h
    refine ⟨_, (pss_cons (ps_if (PW.pt (pw_or (pt_not (pt_val (pe_callB call_isi (by rfl) T.n_isinstance (by decide +kernel : bootBuiltins "isinstance" = some (.builtin "isinstance")) (pa_cons (pv 0) (pa_cons (pe_bltn (v := V.ty "list") (by rfl) T.n_list (by decide +kernel : bootBuiltins "list" = some (.type "list")) rfl) pa_nil))))) (pw_or1 (pt_cmpR op_ne (pe_callB call_len (by rfl) T.n_len (by decide +kernel : bootBuiltins "len" = some (.builtin "len")) (pa_cons (pv 0) pa_nil)) (pe_callB call_len (by rfl) T.n_len (by decide +kernel : bootBuiltins "len" = some (.builtin "len")) (pa_cons (pv 1) pa_nil)) (nomark _)))))
  (pss_one (ps_ret pe_bl))
  pss_nil)
  (pss_cons (ps_for PassesOwn.never (by rfl) (pi_list (pv 0)) (pg_name (i := 2) sc_x_law_numbers.nd (by rfl) (Or.inl rfl))
  (pss_one (ps_if (pt_not (pt_val (pe_call (ok_x_law_whole c0 T) (hr.mono (by decide)) (by rfl) T.m_x_law_whole T.F_x_law_whole.kp T.b_x_law_whole .nil (pass1 c0) (pa_cons (pv 2) pa_nil))))
  (pss_one (ps_ret pe_bl))
  pss_nil)))
  (pss_one (ps_ret (pe_cmpR (op_eqS (hu0 hr)) (pv 0) (pv 1) (nomark _)))))), ?_⟩
    simp only [tSeq, tRet, tRetN, tAsg, tIfS, tDrop, tNext, tChain, tC, tVar, tOp, tUn, tTest, tB, tAnd, tOr, tNot, tAndV, tOrV, tNotV, tIf, tCall, tCons, tNil, tCB, tTup, tLst, tFld, sFld, tMeth, tMake, tBM, tBM0, tSl, tPart, tNoPart, tYes, tNever, tBreak, tCont, gName, gCons, gNil, gTup, rI0, rI, rU, rEq, rNe, iList, iTup, iRng1, iRng2, iEnum, iZip, tBlk, tFor_eq, tRaiseS, tCallS, tMethS, tMakeS, tFstr, jCons, jNil, tFmt, tryIn_K, suite_K, cxOf_K, nox_K, wish_K, block_K, L2.start, blkStart, V.int.injEq, V.bl.injEq, V.ref.injEq, V.str.injEq, V.ty.injEq, Option.some.injEq, Option.join_some, Option.join_none, List.cons.injEq, exists_eq_left', exists_eq_left, exists_and_left, exists_and_right, exists_eq', exists_eq, and_true, true_and, and_assoc, List.map_cons, List.map_nil, List.length_cons, List.length_nil, Nat.reduceAdd, Nat.reduceSub, Nat.sub_self, List.replicate_zero, List.replicate_succ, List.cons_append, List.nil_append, List.append_nil, List.getElem?_cons_zero, List.getElem?_cons_succ, List.set_cons_zero, List.set_cons_succ, Bool.not_eq_true, Bool.false_eq_true, if_true, if_false]
    refine ⟨_, TyOf.lst ha, true, isi_tt tt_list_list, ?_⟩
    rw [if_neg (by decide)]
    refine ⟨_, lenL (SqL.of ha), _, lenL hb, rfl, ?_⟩
    rw [if_neg (by simp)]
    refine ⟨⟨_, SqL.of ha⟩, forb_list (xs := xs.map V.int) (fun i σ H' => ∃ v, σ = [some (.ref a), some (.ref b), v] ∧ H' = H) ⟨none, rfl, rfl⟩ ?_ ?_ ?_⟩
    · rintro i σ H' hi ⟨v, rfl, rfl⟩
      exact SqL.of ha
    · rintro i x σ H' hx ⟨v, rfl, rfl⟩
      obtain ⟨z, rfl⟩ : ∃ z, x = V.int z := by
        rw [List.getElem?_map] at hx
        cases e : xs[i]? with
        | none => rw [e] at hx; cases hx
        | some z => rw [e] at hx; exact ⟨z, (Option.some.inj hx).symm⟩
      simp only [tSeq, tRet, tRetN, tAsg, tIfS, tDrop, tNext, tChain, tC, tVar, tOp, tUn, tTest, tB, tAnd, tOr, tNot, tAndV, tOrV, tNotV, tIf, tCall, tCons, tNil, tCB, tTup, tLst, tFld, sFld, tMeth, tMake, tBM, tBM0, tSl, tPart, tNoPart, tYes, tNever, tBreak, tCont, gName, gCons, gNil, gTup, rI0, rI, rU, rEq, rNe, iList, iTup, iRng1, iRng2, iEnum, iZip, tBlk, tFor_eq, tRaiseS, tCallS, tMethS, tMakeS, tFstr, jCons, jNil, tFmt, tryIn_K, suite_K, cxOf_K, nox_K, wish_K, block_K, L2.start, blkStart, V.int.injEq, V.bl.injEq, V.ref.injEq, V.str.injEq, V.ty.injEq, Option.some.injEq, Option.join_some, Option.join_none, List.cons.injEq, exists_eq_left', exists_eq_left, exists_and_left, exists_and_right, exists_eq', exists_eq, and_true, true_and, and_assoc, List.map_cons, List.map_nil, List.length_cons, List.length_nil, Nat.reduceAdd, Nat.reduceSub, Nat.sub_self, List.replicate_zero, List.replicate_succ, List.cons_append, List.nil_append, List.append_nil, List.getElem?_cons_zero, List.getElem?_cons_succ, List.set_cons_zero, List.set_cons_succ, Bool.not_eq_true, Bool.false_eq_true, if_true, if_false, sp_whole]
      exact iteF True.intro
    · rintro σ H' ⟨v, rfl, rfl⟩
      simp only [tSeq, tRet, tRetN, tAsg, tIfS, tDrop, tNext, tChain, tC, tVar, tOp, tUn, tTest, tB, tAnd, tOr, tNot, tAndV, tOrV, tNotV, tIf, tCall, tCons, tNil, tCB, tTup, tLst, tFld, sFld, tMeth, tMake, tBM, tBM0, tSl, tPart, tNoPart, tYes, tNever, tBreak, tCont, gName, gCons, gNil, gTup, rI0, rI, rU, rEq, rNe, iList, iTup, iRng1, iRng2, iEnum, iZip, tBlk, tFor_eq, tRaiseS, tCallS, tMethS, tMakeS, tFstr, jCons, jNil, tFmt, tryIn_K, suite_K, cxOf_K, nox_K, wish_K, block_K, L2.start, blkStart, V.int.injEq, V.bl.injEq, V.ref.injEq, V.str.injEq, V.ty.injEq, Option.some.injEq, Option.join_some, Option.join_none, List.cons.injEq, exists_eq_left', exists_eq_left, exists_and_left, exists_and_right, exists_eq', exists_eq, and_true, true_and, and_assoc, List.map_cons, List.map_nil, List.length_cons, List.length_nil, Nat.reduceAdd, Nat.reduceSub, Nat.sub_self, List.replicate_zero, List.replicate_succ, List.cons_append, List.nil_append, List.append_nil, List.getElem?_cons_zero, List.getElem?_cons_succ, List.set_cons_zero, List.set_cons_succ, Bool.not_eq_true, Bool.false_eq_true, if_true, if_false, rEqS]
      refine ⟨_, _, Or.inl ⟨SqL.of ha, hb⟩, flat_ints _, flat_ints _, ?_⟩
      rw [eqVs_ints]
      exact q
end
end Rb

set_option Elab.async false
set_option linter.all false
set_option maxRecDepth 100000
set_option maxHeartbeats 4000000
namespace Rb
open PySem L2
section
variable {CX : CXT} {P : Program} {w : World} {K : PySem.W.Frag} {mg : Str → Option Value} {base : Heap} {t : Adr}
theorem psN_range {n : Nat} {ps : List Pr} : psN ps = (List.range ps.length).map fun j => (stR ps j, enR n ps j) := by
  refine List.ext_getElem (by simp [psN]) fun j h1 h2 => ?_
  have hj : j < ps.length := by simpa [psN] using h1
  have g : ps.getD j (0, 0) = ps[j] := by rw [List.getD_eq_getElem?_getD]; simp [hj]
  simp only [psN, List.getElem_map, List.getElem_range, stR]
  rw [enR_in hj, g]
def bls (M : List Bool) : List V := M.map V.bl
theorem bls_set (M : List Bool) (i : Nat) (b : Bool) : (bls M).set i (.bl b) = bls (M.set i b) := by
  unfold bls
  rw [List.map_set]
theorem bls_at {M : List Bool} {i : Nat} (h : i < M.length) : atI (bls M) ((i : Nat) : Int) = some (.bl (M.getD i false)) := atI_nat (by unfold bls; simp [List.getD_eq_getElem?_getD, h])
theorem iter_len {n : Nat} {rs : List (Nat × Nat)} {M : List Bool} (h : M.length = n) : ∀ t, (Mx.iterL (Mx.pass rs) t M).length = n := fun t => by rw [← (Mx.iterL_mle (Mx.pass_mle rs) M t).1, h]
theorem take_pass (rs : List (Nat × Nat)) (M : List Bool) {j : Nat} {q : Nat × Nat} (h : rs[j]? = some q) : Mx.pass (rs.take (j + 1)) M = Mx.mark (Mx.pass (rs.take j) M) q := by
  unfold Mx.pass
  rw [List.take_add_one, h, List.foldl_append]
  rfl
theorem filt_len {f : Pr → Int} {ps : List Pr} {p : Int} : (ps.filter fun q => f q == p).length = (ps.map f).count p := by
  unfold List.count
  rw [List.countP_map, List.countP_eq_length_filter]
  rfl
def PvUn (H : Hp) (d du : Addr) (n : Nat) (ps : List Pr) (i : Nat) (σ : St) (H' : Hp) : Prop := ∃ (v1 v2 : Option V), σ = [some (.int n), some (.ref d), some (.ref du), v1, v2, none, none, none, none] ∧ Same H H' ∧ H' du = some (.lst (nats (unlikeOf i ps)))
def PvMet (H : Hp) (d du dm : Addr) (n : Nat) (ps : List Pr) (t : Nat) (σ : St) (H' : Hp) : Prop := ∃ (v1 v2 v3 v4 : Option V), σ = [some (.int n), some (.ref d), some (.ref du), v1, v2, v3, some (.ref dm), v4, none] ∧ Same H H' ∧ H' dm = some (.lst (bls (Mx.iterL (Mx.pass (psN ps)) t ((List.range n).map fun p => decide (p = stR ps 0)))))
def PvMet2 (H : Hp) (d du dm : Addr) (n : Nat) (ps : List Pr) (t j : Nat) (σ : St) (H' : Hp) : Prop := ∃ (v1 v2 v3 v4 : Option V), σ = [some (.int n), some (.ref d), some (.ref du), v1, v2, v3, some (.ref dm), v4, none] ∧ Same H H' ∧ H' dm = some (.lst (bls (Mx.pass ((psN ps).take j) (Mx.iterL (Mx.pass (psN ps)) t ((List.range n).map fun p => decide (p = stR ps 0))))))
def sp_due : Sp := fun vs H Q _ => ∃ (d : Addr) (as : List Addr) (n : Nat) (ps : List Pr), vs = [.int n, .ref d] ∧ H d = some (.lst (as.map V.ref)) ∧ TupsAt H as ps ∧ netOk n ps = true ∧ ∀ (v : V) (H' : Hp), Same H H' → WhyV n ps H H' v → Q v H'
theorem ok_x_law_due (c0 : NoX CX) (T : Txt K mg t) : FnOk P w K mg base CX 1 t.f_x_law_due t.d_x_law_due ["many", "pairs"] sp_due := by
  refine T.F_x_law_due.okX sc_x_law_due (fun vs H Q E h => ?_) (fun cdv A outer s H vs Q E hr h => ?_)
  · obtain ⟨d, as, n, ps, rfl, _⟩ := h
    rfl
  · obtain ⟨d, as, n, ps, rfl, hd, ht, hok, q⟩ := h
    obtain ⟨⟨n1, n2⟩, ⟨l1, l2⟩, hends, hex⟩ := netOk_parts hok
    have la := ht.len
    have lm : (as.map V.ref).length = ps.length := by rw [List.length_map, la]
    refine ⟨_, (pss_cons (ps_set (i := 2) sc_x_law_due.nd (by rfl) (Or.inl rfl) (pe_lst pa_nil))
  (pss_cons (ps_for PassesOwn.never (by rfl) (pi_range1 (by rfl) T.n_range (pa_cons (pv 0) pa_nil)) (pg_name (i := 3) sc_x_law_due.nd (by rfl) (Or.inr rfl))
  (pss_cons (ps_set (i := 4) sc_x_law_due.nd (by rfl) (Or.inl rfl) (pe_callB call_len (by rfl) T.n_len (by decide +kernel : bootBuiltins "len" = some (.builtin "len")) (pa_cons (pe_comp (own := (["pair"] : List Str)) (fr := (["place"] : List Str)) (ix := ([3] : List Nat)) (by rfl) ⟨by rfl, by decide +kernel, by rfl, by rfl, by rfl⟩ (pi_list (pv 1)) (fun _ => (pg_name (i := 0) (show List.Nodup (["pair", "place"] : List Str) by decide +kernel) (by rfl) (Or.inl rfl))) (fun _ hB => (pts_one (pt_cmpR op_eq (pe_ix ix_tup (pv 0) pe_int (fun _ _ => rfl)) (pv 1) (nomark _)))) (fun _ hB => (pv 0))) pa_nil)))
  (pss_one (ps_if (pt_cmpR op_ne (pv 4) (pe_callB call_len (by rfl) T.n_len (by decide +kernel : bootBuiltins "len" = some (.builtin "len")) (pa_cons (pe_comp (own := (["pair"] : List Str)) (fr := (["place"] : List Str)) (ix := ([3] : List Nat)) (by rfl) ⟨by rfl, by decide +kernel, by rfl, by rfl, by rfl⟩ (pi_list (pv 1)) (fun _ => (pg_name (i := 0) (show List.Nodup (["pair", "place"] : List Str) by decide +kernel) (by rfl) (Or.inl rfl))) (fun _ hB => (pts_one (pt_cmpR op_eq (pe_ix ix_tup (pv 0) pe_int (fun _ _ => rfl)) (pv 1) (nomark _)))) (fun _ hB => (pv 0))) pa_nil)) (nomark _))
  (pss_one (ps_expr (pe_bm PySem.F.plainAttrs_list PySem.F.slot_list_append PySem.F.type_list_append mt_append (pv 2) (pa_cons (pv 3) pa_nil))))
  pss_nil))))
  (pss_cons (ps_if (pt_cmpR op_gt (pe_callB call_len (by rfl) T.n_len (by decide +kernel : bootBuiltins "len" = some (.builtin "len")) (pa_cons (pv 2) pa_nil)) pe_int (nomark _))
  (pss_one (ps_ret (pe_tup (pa_cons pe_str (pa_cons (pv 2) pa_nil)))))
  pss_nil)
  (pss_cons (ps_set (i := 6) sc_x_law_due.nd (by rfl) (Or.inr rfl) (pe_comp (own := (["place"] : List Str)) (fr := (["pairs"] : List Str)) (ix := ([1] : List Nat)) (by rfl) ⟨by rfl, by decide +kernel, by rfl, by rfl, by rfl⟩ (pi_range1 (by rfl) T.n_range (pa_cons (pv 0) pa_nil)) (fun _ => (pg_name (i := 0) (show List.Nodup (["place", "pairs"] : List Str) by decide +kernel) (by rfl) (Or.inl rfl))) (fun _ hB => pts_nil) (fun _ hB => (pe_cmpR op_eq (pv 0) (pe_ix ix_tup (pe_ix ix_list (pv 1) pe_int (fun _ _ => rfl)) pe_int (fun _ _ => rfl)) (nomark _)))))
  (pss_cons (ps_for PassesOwn.never (by rfl) (pi_range1 (by rfl) T.n_range (pa_cons (pv 0) pa_nil)) (pg_name (i := 7) sc_x_law_due.nd (by rfl) (Or.inl rfl))
  (pss_one (ps_for PassesOwn.never (by rfl) (pi_list (pv 1)) (pg_name (i := 5) sc_x_law_due.nd (by rfl) (Or.inl rfl))
  (pss_one (ps_if (pt_val (pe_ix ix_list (pv 6) (pe_ix ix_tup (pv 5) pe_int (fun _ _ => rfl)) (fun _ _ => rfl)))
  (pss_one (ps_asg pe_bl (pg_sub (pv 6) (pe_ix ix_tup (pv 5) pe_int (fun _ _ => rfl)) set_list)))
  pss_nil)))))
  (pss_cons (ps_comp (i := 8) sc_x_law_due.nd (by rfl) (Or.inl rfl) (own := (["place"] : List Str)) (fr := (["met"] : List Str)) (ix := ([6] : List Nat)) (by rfl) ⟨by rfl, by decide +kernel, by rfl, by rfl, by rfl⟩ (pi_range1 (by rfl) T.n_range (pa_cons (pv 0) pa_nil)) (fun _ => (pg_name (i := 0) (show List.Nodup (["place", "met"] : List Str) by decide +kernel) (by rfl) (Or.inl rfl))) (fun _ hB => (pts_one (pt_not (pt_val (pe_ix ix_list (pv 1) (pv 0) (fun _ _ => rfl)))))) (fun _ hB => (pv 0)))
  (pss_cons (ps_if (pt_cmpR op_gt (pe_callB call_len (by rfl) T.n_len (by decide +kernel : bootBuiltins "len" = some (.builtin "len")) (pa_cons (pv 8) pa_nil)) pe_int (nomark _))
  (pss_one (ps_ret (pe_tup (pa_cons pe_str (pa_cons (pv 8) pa_nil)))))
  pss_nil)
  (pss_one (ps_ret pe_non))))))))), ?_⟩
    simp only [tSeq, tRet, tRetN, tAsg, tIfS, tDrop, tNext, tChain, tC, tVar, tOp, tUn, tTest, tB, tAnd, tOr, tNot, tAndV, tOrV, tNotV, tIf, tCall, tCons, tNil, tCB, tTup, tLst, tFld, sFld, tMeth, tMake, tBM, tBM0, tSl, tPart, tNoPart, tYes, tNever, tBreak, tCont, gName, gCons, gNil, gTup, rI0, rI, rU, rEq, rNe, iList, iTup, iRng1, iRng2, iEnum, iZip, tBlk, tFor_eq, tRaiseS, tCallS, tMethS, tMakeS, tFstr, jCons, jNil, tFmt, tryIn_K, suite_K, cxOf_K, nox_K, wish_K, block_K, L2.start, blkStart, V.int.injEq, V.bl.injEq, V.ref.injEq, V.str.injEq, V.ty.injEq, Option.some.injEq, Option.join_some, Option.join_none, List.cons.injEq, exists_eq_left', exists_eq_left, exists_and_left, exists_and_right, exists_eq', exists_eq, and_true, true_and, and_assoc, List.map_cons, List.map_nil, List.length_cons, List.length_nil, Nat.reduceAdd, Nat.reduceSub, Nat.sub_self, List.replicate_zero, List.replicate_succ, List.cons_append, List.nil_append, List.append_nil, List.getElem?_cons_zero, List.getElem?_cons_succ, List.set_cons_zero, List.set_cons_succ, Bool.not_eq_true, Bool.false_eq_true, if_true, if_false]
    have selP : ∀ (g : Pr → Int) (p : Nat) (H1 : Hp) (h1 : H1 d = some (.lst (as.map V.ref))) (ht1 : TupsAt H1 as ps) (i : Nat) (y : V), (as.map V.ref)[i]? = some y → ∃ a q', y = .ref a ∧ ps[i]? = some q' ∧ H1 a = some (pairO q') ∧ (((ps.take (i + 1)).filter fun q => g q == (p : Int)).length = ((ps.take i).filter fun q => g q == (p : Int)).length + if g q' = (p : Int) then 1 else 0) := fun g p H1 h1 ht1 i y hy => by
      obtain ⟨a, rfl, ha⟩ := map_ref hy
      obtain ⟨q', hq, hH⟩ := ht1.get ha
      refine ⟨a, q', rfl, hq, hH, ?_⟩
      rw [List.take_add_one, hq, List.filter_append, List.length_append]
      congr 1
      by_cases c : g q' = (p : Int)
      · simp [c]
      · simp [c]
    refine ⟨by decide, fun du fdu => ⟨by omega, by omega, forb_range (PvUn H d du n ps) ⟨none, none, rfl, Same.new fdu, upd_same⟩ ?_ ?_⟩⟩
    · rintro i σ H1 hi ⟨v1, v2, rfl, s1, h1⟩
      rw [Int.toNat_natCast] at hi
      have hd1 := s1 _ _ hd
      have ht1 := ht.same s1
      have e : unlikeOf (i + 1) ps = unlikeOf i ps ++ if (ps.map (·.1)).count (i : Int) = (ps.map (·.2)).count (i : Int) then [] else [i] := by
        unfold unlikeOf
        rw [List.range_succ, List.filter_append, List.filter_cons]
        by_cases c : (ps.map (·.1)).count (i : Int) = (ps.map (·.2)).count (i : Int) <;> simp [c]
      have lu : (unlikeOf i ps).length ≤ i := Nat.le_trans (List.length_filter_le _ _) (by simp)
      simp only [tSeq, tRet, tRetN, tAsg, tIfS, tDrop, tNext, tChain, tC, tVar, tOp, tUn, tTest, tB, tAnd, tOr, tNot, tAndV, tOrV, tNotV, tIf, tCall, tCons, tNil, tCB, tTup, tLst, tFld, sFld, tMeth, tMake, tBM, tBM0, tSl, tPart, tNoPart, tYes, tNever, tBreak, tCont, gName, gCons, gNil, gTup, rI0, rI, rU, rEq, rNe, iList, iTup, iRng1, iRng2, iEnum, iZip, tBlk, tFor_eq, tRaiseS, tCallS, tMethS, tMakeS, tFstr, jCons, jNil, tFmt, tryIn_K, suite_K, cxOf_K, nox_K, wish_K, block_K, L2.start, blkStart, V.int.injEq, V.bl.injEq, V.ref.injEq, V.str.injEq, V.ty.injEq, Option.some.injEq, Option.join_some, Option.join_none, List.cons.injEq, exists_eq_left', exists_eq_left, exists_and_left, exists_and_right, exists_eq', exists_eq, and_true, true_and, and_assoc, List.map_cons, List.map_nil, List.length_cons, List.length_nil, Nat.reduceAdd, Nat.reduceSub, Nat.sub_self, List.replicate_zero, List.replicate_succ, List.cons_append, List.nil_append, List.append_nil, List.getElem?_cons_zero, List.getElem?_cons_succ, List.set_cons_zero, List.set_cons_succ, Bool.not_eq_true, Bool.false_eq_true, if_true, if_false, Int.zero_add]
      refine ⟨⟨_, SqL.of hd1⟩, blk_list (xs := as.map V.ref) (fun j ys σ H' => ∃ u, σ = [u, some (.int i)] ∧ H' = H1 ∧ ys.length = ((ps.take j).filter fun q => q.1 == (i : Int)).length) (by rw [lm]; exact small_le (by omega)) ⟨none, rfl, rfl, rfl⟩ ?_ ?_ ?_⟩
      · rintro j ys σ H2 hj ⟨u, rfl, rfl, hy⟩
        exact ⟨SqL.of hd1, by rw [hy]; exact Nat.le_trans (List.length_filter_le _ _) (by simp; omega)⟩
      · rintro bk j y ys σ H2 hy ⟨u, rfl, rfl, hl⟩
        obtain ⟨a, q', rfl, hq, hH, hc⟩ := selP (·.1) i H2 hd1 ht1 j y hy
        simp only [tSeq, tRet, tRetN, tAsg, tIfS, tDrop, tNext, tChain, tC, tVar, tOp, tUn, tTest, tB, tAnd, tOr, tNot, tAndV, tOrV, tNotV, tIf, tCall, tCons, tNil, tCB, tTup, tLst, tFld, sFld, tMeth, tMake, tBM, tBM0, tSl, tPart, tNoPart, tYes, tNever, tBreak, tCont, gName, gCons, gNil, gTup, rI0, rI, rU, rEq, rNe, iList, iTup, iRng1, iRng2, iEnum, iZip, tBlk, tFor_eq, tRaiseS, tCallS, tMethS, tMakeS, tFstr, jCons, jNil, tFmt, tryIn_K, suite_K, cxOf_K, nox_K, wish_K, block_K, L2.start, blkStart, V.int.injEq, V.bl.injEq, V.ref.injEq, V.str.injEq, V.ty.injEq, Option.some.injEq, Option.join_some, Option.join_none, List.cons.injEq, exists_eq_left', exists_eq_left, exists_and_left, exists_and_right, exists_eq', exists_eq, and_true, true_and, and_assoc, List.map_cons, List.map_nil, List.length_cons, List.length_nil, Nat.reduceAdd, Nat.reduceSub, Nat.sub_self, List.replicate_zero, List.replicate_succ, List.cons_append, List.nil_append, List.append_nil, List.getElem?_cons_zero, List.getElem?_cons_succ, List.set_cons_zero, List.set_cons_succ, Bool.not_eq_true, Bool.false_eq_true, if_true, if_false, rIxT]
        refine ⟨[.int q'.1, .int q'.2], SqT.of hH, _, atI_nat (j := 0) rfl, rfl, ?_⟩
        by_cases c : q'.1 = (i : Int)
        · rw [if_pos (by simp [c])]
          rw [hc, if_pos c]
          simp [hl]
        · rw [if_neg (by simp [c])]
          rw [hc, if_neg c]
          simpa using hl
      · rintro ys σ H2 D ⟨u, rfl, rfl, hl⟩ hD
        rw [lm, List.take_length, filt_len] at hl
        have s2 : Same H2 (upd H2 D (.lst ys)) := Same.new hD
        refine ⟨_, lenL (SqL.of upd_same), ?_⟩
        have hd2 := s2 _ _ hd1
        have ht2 := ht1.same s2
        have h2 := s2 _ _ h1
        have f2 := fdu
        generalize upd H2 D (.lst ys) = H3 at *
        refine ⟨⟨_, SqL.of hd2⟩, blk_list (xs := as.map V.ref) (fun j ys σ H' => ∃ u, σ = [u, some (.int i)] ∧ H' = H3 ∧ ys.length = ((ps.take j).filter fun q => q.2 == (i : Int)).length) (by rw [lm]; exact small_le (by omega)) ⟨none, rfl, rfl, rfl⟩ ?_ ?_ ?_⟩
        · rintro j ys' σ H4 hj ⟨u, rfl, rfl, hy⟩
          exact ⟨SqL.of hd2, by rw [hy]; exact Nat.le_trans (List.length_filter_le _ _) (by simp; omega)⟩
        · rintro bk j y ys' σ H4 hy ⟨u, rfl, rfl, hl2⟩
          obtain ⟨a, q', rfl, hq, hH, hc⟩ := selP (·.2) i H4 hd2 ht2 j y hy
          simp only [tSeq, tRet, tRetN, tAsg, tIfS, tDrop, tNext, tChain, tC, tVar, tOp, tUn, tTest, tB, tAnd, tOr, tNot, tAndV, tOrV, tNotV, tIf, tCall, tCons, tNil, tCB, tTup, tLst, tFld, sFld, tMeth, tMake, tBM, tBM0, tSl, tPart, tNoPart, tYes, tNever, tBreak, tCont, gName, gCons, gNil, gTup, rI0, rI, rU, rEq, rNe, iList, iTup, iRng1, iRng2, iEnum, iZip, tBlk, tFor_eq, tRaiseS, tCallS, tMethS, tMakeS, tFstr, jCons, jNil, tFmt, tryIn_K, suite_K, cxOf_K, nox_K, wish_K, block_K, L2.start, blkStart, V.int.injEq, V.bl.injEq, V.ref.injEq, V.str.injEq, V.ty.injEq, Option.some.injEq, Option.join_some, Option.join_none, List.cons.injEq, exists_eq_left', exists_eq_left, exists_and_left, exists_and_right, exists_eq', exists_eq, and_true, true_and, and_assoc, List.map_cons, List.map_nil, List.length_cons, List.length_nil, Nat.reduceAdd, Nat.reduceSub, Nat.sub_self, List.replicate_zero, List.replicate_succ, List.cons_append, List.nil_append, List.append_nil, List.getElem?_cons_zero, List.getElem?_cons_succ, List.set_cons_zero, List.set_cons_succ, Bool.not_eq_true, Bool.false_eq_true, if_true, if_false, rIxT]
          refine ⟨[.int q'.1, .int q'.2], SqT.of hH, _, atI_nat (j := 1) rfl, rfl, ?_⟩
          by_cases c : q'.2 = (i : Int)
          · rw [if_pos (by simp [c])]
            rw [hc, if_pos c]
            simp [hl2]
          · rw [if_neg (by simp [c])]
            rw [hc, if_neg c]
            simpa using hl2
        · rintro ys' σ H4 D2 ⟨u, rfl, rfl, hl2⟩ hD2
          rw [lm, List.take_length, filt_len] at hl2
          refine ⟨_, lenL (SqL.of upd_same), ?_⟩
          rw [hl, hl2]
          refine ⟨rfl, ?_⟩
          have h4 := upd_old (o := HO.lst ys') h2 hD2
          have s14 : Same H (upd H4 D2 (.lst ys')) := (s1.trans s2).upd' hD2
          generalize upd H4 D2 (.lst ys') = H5 at *
          by_cases c : (ps.map (·.1)).count (i : Int) = (ps.map (·.2)).count (i : Int)
          · rw [if_neg (by simp [c])]
            refine ⟨_, _, rfl, s14, ?_⟩
            rw [e, if_pos c, List.append_nil]
            exact h4
          · rw [if_pos (by have : ¬ (((ps.map (·.1)).count (i : Int) : Nat) : Int) = (((ps.map (·.2)).count (i : Int) : Nat) : Int) := (by omega); simp [this])]
            refine ⟨Or.inl ⟨rfl, _, SqL.of h4⟩, du, _, _, rfl, rfl, h4, by rw [nats_len]; exact small1000 (by omega), _, _, rfl, fun b o e' => ?_, ?_⟩
            · rw [upd_ne (ne_of_none e' fdu)]
              exact s14 _ _ e'
            · rw [upd_same, e, if_neg c, nats_append]
              rfl
    · rintro σ H1 ⟨v1, v2, rfl, s1, h1⟩
      rw [Int.toNat_natCast] at h1
      have hd1 := s1 _ _ hd
      have ht1 := ht.same s1
      simp only [tSeq, tRet, tRetN, tAsg, tIfS, tDrop, tNext, tChain, tC, tVar, tOp, tUn, tTest, tB, tAnd, tOr, tNot, tAndV, tOrV, tNotV, tIf, tCall, tCons, tNil, tCB, tTup, tLst, tFld, sFld, tMeth, tMake, tBM, tBM0, tSl, tPart, tNoPart, tYes, tNever, tBreak, tCont, gName, gCons, gNil, gTup, rI0, rI, rU, rEq, rNe, iList, iTup, iRng1, iRng2, iEnum, iZip, tBlk, tFor_eq, tRaiseS, tCallS, tMethS, tMakeS, tFstr, jCons, jNil, tFmt, tryIn_K, suite_K, cxOf_K, nox_K, wish_K, block_K, L2.start, blkStart, V.int.injEq, V.bl.injEq, V.ref.injEq, V.str.injEq, V.ty.injEq, Option.some.injEq, Option.join_some, Option.join_none, List.cons.injEq, exists_eq_left', exists_eq_left, exists_and_left, exists_and_right, exists_eq', exists_eq, and_true, true_and, and_assoc, List.map_cons, List.map_nil, List.length_cons, List.length_nil, Nat.reduceAdd, Nat.reduceSub, Nat.sub_self, List.replicate_zero, List.replicate_succ, List.cons_append, List.nil_append, List.append_nil, List.getElem?_cons_zero, List.getElem?_cons_succ, List.set_cons_zero, List.set_cons_succ, Bool.not_eq_true, Bool.false_eq_true, if_true, if_false]
      refine ⟨_, lenL (SqL.of h1), ?_⟩
      rw [nats_len]
      by_cases c1 : unlikeOf n ps = []
      · rw [if_neg (by simp [c1])]
        obtain ⟨a0, ha0, hH0⟩ := ht.get' (i := 0) (q := ps[0]) (by simp)
        have e0 : ps[0].1 = ((stR ps 0 : Nat) : Int) := by
          rw [(stR_cast hends (by omega)).1, List.getD_eq_getElem?_getD]
          simp [show 0 < ps.length by omega]
        have s0 : stR ps 0 < n := (stR_cast hends (by omega)).2
        refine ⟨by omega, by omega, blk_range (fun i ys σ H' => ∃ u, σ = [u, some (.ref d)] ∧ H' = H1 ∧ ys = bls ((List.range i).map fun p => decide (p = stR ps 0))) (by rw [Int.toNat_natCast]; exact small_le (by omega)) ⟨none, rfl, rfl, rfl⟩ ?_ ?_ ?_⟩
        · rintro i ys σ H2 hi ⟨u, rfl, rfl, rfl⟩
          simp [bls]
        · rintro bk i ys σ H2 hi ⟨u, rfl, rfl, rfl⟩
          simp only [tSeq, tRet, tRetN, tAsg, tIfS, tDrop, tNext, tChain, tC, tVar, tOp, tUn, tTest, tB, tAnd, tOr, tNot, tAndV, tOrV, tNotV, tIf, tCall, tCons, tNil, tCB, tTup, tLst, tFld, sFld, tMeth, tMake, tBM, tBM0, tSl, tPart, tNoPart, tYes, tNever, tBreak, tCont, gName, gCons, gNil, gTup, rI0, rI, rU, rEq, rNe, iList, iTup, iRng1, iRng2, iEnum, iZip, tBlk, tFor_eq, tRaiseS, tCallS, tMethS, tMakeS, tFstr, jCons, jNil, tFmt, tryIn_K, suite_K, cxOf_K, nox_K, wish_K, block_K, L2.start, blkStart, V.int.injEq, V.bl.injEq, V.ref.injEq, V.str.injEq, V.ty.injEq, Option.some.injEq, Option.join_some, Option.join_none, List.cons.injEq, exists_eq_left', exists_eq_left, exists_and_left, exists_and_right, exists_eq', exists_eq, and_true, true_and, and_assoc, List.map_cons, List.map_nil, List.length_cons, List.length_nil, Nat.reduceAdd, Nat.reduceSub, Nat.sub_self, List.replicate_zero, List.replicate_succ, List.cons_append, List.nil_append, List.append_nil, List.getElem?_cons_zero, List.getElem?_cons_succ, List.set_cons_zero, List.set_cons_succ, Bool.not_eq_true, Bool.false_eq_true, if_true, if_false, rIxL, rIxT, Int.zero_add]
          refine ⟨_, SqL.of hd1, _, atI_nat (j := 0) (v := .ref a0) (by rw [List.getElem?_map, ha0]; rfl), a0, rfl, _, SqT.of (s1 _ _ hH0), _, atI_nat (j := 0) rfl, ?_⟩
          rw [e0]
          refine ⟨rfl, ?_⟩
          have ed : decide (V.int (i : Int) = V.int ((stR ps 0 : Nat) : Int)) = decide (i = stR ps 0) := by
            by_cases c : i = stR ps 0
            · simp [c]
            · have c' : ¬ ((i : Nat) : Int) = ((stR ps 0 : Nat) : Int) := by omega
              simp [c, c']
          first
            | (rw [ed]
               simp [bls, List.range_succ])
            | (simp [bls, List.range_succ]
               omega)
        · rintro ys σ H2 dm ⟨u, rfl, rfl, rfl⟩ hdm
          rw [Int.toNat_natCast]
          have fdm : H dm = none := s1.free hdm
          have l0 : ((List.range n).map fun p => decide (p = stR ps 0)).length = n := by simp
          refine ⟨by omega, by omega, forb_range (PvMet H d du dm n ps) ⟨v1, v2, none, none, rfl, s1.upd' hdm, upd_same⟩ ?_ ?_⟩
          · rintro tt σ H3 hi ⟨w1, w2, w3, w4, rfl, s3, h3⟩
            have hd3 := s3 _ _ hd
            simp only [tSeq, tRet, tRetN, tAsg, tIfS, tDrop, tNext, tChain, tC, tVar, tOp, tUn, tTest, tB, tAnd, tOr, tNot, tAndV, tOrV, tNotV, tIf, tCall, tCons, tNil, tCB, tTup, tLst, tFld, sFld, tMeth, tMake, tBM, tBM0, tSl, tPart, tNoPart, tYes, tNever, tBreak, tCont, gName, gCons, gNil, gTup, rI0, rI, rU, rEq, rNe, iList, iTup, iRng1, iRng2, iEnum, iZip, tBlk, tFor_eq, tRaiseS, tCallS, tMethS, tMakeS, tFstr, jCons, jNil, tFmt, tryIn_K, suite_K, cxOf_K, nox_K, wish_K, block_K, L2.start, blkStart, V.int.injEq, V.bl.injEq, V.ref.injEq, V.str.injEq, V.ty.injEq, Option.some.injEq, Option.join_some, Option.join_none, List.cons.injEq, exists_eq_left', exists_eq_left, exists_and_left, exists_and_right, exists_eq', exists_eq, and_true, true_and, and_assoc, List.map_cons, List.map_nil, List.length_cons, List.length_nil, Nat.reduceAdd, Nat.reduceSub, Nat.sub_self, List.replicate_zero, List.replicate_succ, List.cons_append, List.nil_append, List.append_nil, List.getElem?_cons_zero, List.getElem?_cons_succ, List.set_cons_zero, List.set_cons_succ, Bool.not_eq_true, Bool.false_eq_true, if_true, if_false]
            refine ⟨⟨_, SqL.of hd3⟩, forb_list (xs := as.map V.ref) (PvMet2 H d du dm n ps tt) ⟨w1, w2, w3, _, rfl, s3, h3⟩ ?_ ?_ ?_⟩
            · rintro j σ H4 hj ⟨u1, u2, u3, u4, rfl, s4, h4⟩
              exact SqL.of (s4 _ _ hd)
            · rintro j y σ H4 hy ⟨u1, u2, u3, u4, rfl, s4, h4⟩
              obtain ⟨a, rfl, ha⟩ := map_ref hy
              obtain ⟨q', hq, hH⟩ := ht.get ha
              have hH4 := s4 _ _ hH
              have hin := ends_in hends (List.mem_of_getElem? hq)
              have hqn : (psN ps)[j]? = some (q'.1.toNat, q'.2.toNat) := by unfold psN; rw [List.getElem?_map, hq]; rfl
              have lM : (Mx.pass ((psN ps).take j) (Mx.iterL (Mx.pass (psN ps)) tt ((List.range n).map fun p => decide (p = stR ps 0)))).length = n := by rw [← (Mx.pass_mle _ _).1]; exact iter_len l0 tt
              have tp := take_pass (psN ps) (Mx.iterL (Mx.pass (psN ps)) tt ((List.range n).map fun p => decide (p = stR ps 0))) hqn
              generalize Mx.pass ((psN ps).take j) (Mx.iterL (Mx.pass (psN ps)) tt ((List.range n).map fun p => decide (p = stR ps 0))) = M at *
              have e1 : q'.1 = ((q'.1.toNat : Nat) : Int) := by omega
              have e2 : q'.2 = ((q'.2.toNat : Nat) : Int) := by omega
              simp only [tSeq, tRet, tRetN, tAsg, tIfS, tDrop, tNext, tChain, tC, tVar, tOp, tUn, tTest, tB, tAnd, tOr, tNot, tAndV, tOrV, tNotV, tIf, tCall, tCons, tNil, tCB, tTup, tLst, tFld, sFld, tMeth, tMake, tBM, tBM0, tSl, tPart, tNoPart, tYes, tNever, tBreak, tCont, gName, gCons, gNil, gTup, rI0, rI, rU, rEq, rNe, iList, iTup, iRng1, iRng2, iEnum, iZip, tBlk, tFor_eq, tRaiseS, tCallS, tMethS, tMakeS, tFstr, jCons, jNil, tFmt, tryIn_K, suite_K, cxOf_K, nox_K, wish_K, block_K, L2.start, blkStart, V.int.injEq, V.bl.injEq, V.ref.injEq, V.str.injEq, V.ty.injEq, Option.some.injEq, Option.join_some, Option.join_none, List.cons.injEq, exists_eq_left', exists_eq_left, exists_and_left, exists_and_right, exists_eq', exists_eq, and_true, true_and, and_assoc, List.map_cons, List.map_nil, List.length_cons, List.length_nil, Nat.reduceAdd, Nat.reduceSub, Nat.sub_self, List.replicate_zero, List.replicate_succ, List.cons_append, List.nil_append, List.append_nil, List.getElem?_cons_zero, List.getElem?_cons_succ, List.set_cons_zero, List.set_cons_succ, Bool.not_eq_true, Bool.false_eq_true, if_true, if_false, rIxL, rIxT, gSub, rSetL]
              refine ⟨[.int q'.1, .int q'.2], SqT.of hH4, _, atI_nat (j := 0) rfl, _, _, rfl, SqL.of h4, _, by rw [e1]; exact bls_at (by rw [lM]; omega), _, rfl, ?_⟩
              by_cases cm : M.getD q'.1.toNat false = true
              · rw [if_pos cm]
                have ixp : ixN (bls M).length q'.2 = some q'.2.toNat := by
                  unfold ixN bls
                  rw [List.length_map, lM, if_pos (by omega), if_pos (by omega)]
                refine ⟨[.int q'.1, .int q'.2], SqT.of hH4, _, atI_nat (j := 1) rfl, _, _, rfl, h4, _, ixp, u1, u2, _, u4, rfl, fun b o e' => ?_, ?_⟩
                · rw [upd_ne (ne_of_none e' fdm)]
                  exact s4 _ _ e'
                · rw [upd_same, bls_set, tp]
                  unfold Mx.mark
                  rw [if_pos cm]
              · rw [if_neg cm]
                refine ⟨u1, u2, _, u4, rfl, s4, ?_⟩
                rw [tp]
                unfold Mx.mark
                rw [if_neg cm]
                exact h4
            · rintro σ H4 ⟨u1, u2, u3, u4, rfl, s4, h4⟩
              have ln : (as.map V.ref).length = (psN ps).length := by rw [lm]; simp [psN]
              rw [ln, List.take_length] at h4
              exact ⟨u1, u2, u3, u4, rfl, s4, h4⟩
          · rintro σ H3 ⟨w1, w2, w3, w4, rfl, s3, h3⟩
            simp only [tSeq, tRet, tRetN, tAsg, tIfS, tDrop, tNext, tChain, tC, tVar, tOp, tUn, tTest, tB, tAnd, tOr, tNot, tAndV, tOrV, tNotV, tIf, tCall, tCons, tNil, tCB, tTup, tLst, tFld, sFld, tMeth, tMake, tBM, tBM0, tSl, tPart, tNoPart, tYes, tNever, tBreak, tCont, gName, gCons, gNil, gTup, rI0, rI, rU, rEq, rNe, iList, iTup, iRng1, iRng2, iEnum, iZip, tBlk, tFor_eq, tRaiseS, tCallS, tMethS, tMakeS, tFstr, jCons, jNil, tFmt, tryIn_K, suite_K, cxOf_K, nox_K, wish_K, block_K, L2.start, blkStart, V.int.injEq, V.bl.injEq, V.ref.injEq, V.str.injEq, V.ty.injEq, Option.some.injEq, Option.join_some, Option.join_none, List.cons.injEq, exists_eq_left', exists_eq_left, exists_and_left, exists_and_right, exists_eq', exists_eq, and_true, true_and, and_assoc, List.map_cons, List.map_nil, List.length_cons, List.length_nil, Nat.reduceAdd, Nat.reduceSub, Nat.sub_self, List.replicate_zero, List.replicate_succ, List.cons_append, List.nil_append, List.append_nil, List.getElem?_cons_zero, List.getElem?_cons_succ, List.set_cons_zero, List.set_cons_succ, Bool.not_eq_true, Bool.false_eq_true, if_true, if_false]
            have hreach : ∀ p, p < n → (Mx.iterL (Mx.pass (psN ps)) n ((List.range n).map fun p => decide (p = stR ps 0))).getD p false = @decide (ReachP n ps p) (Classical.propDecidable _) := fun p hp => by
              have := Mx.passes_reach (st := stR ps) (en := enR n ps) (m := ps.length) s0 (fun j hj => enR_lt hends hj) p
              rw [← psN_range] at this
              refine Bool.eq_iff_iff.mpr ?_
              rw [Mx.getD_true, this]
              simp
            have lM : (Mx.iterL (Mx.pass (psN ps)) n ((List.range n).map fun p => decide (p = stR ps 0))).length = n := iter_len l0 n
            generalize Mx.iterL (Mx.pass (psN ps)) n ((List.range n).map fun p => decide (p = stR ps 0)) = M at *
            refine ⟨by omega, by omega, blk_range (fun i ys σ H' => ∃ u, σ = [u, some (.ref dm)] ∧ H' = H3 ∧ ys = nats (apartUp n ps i)) (by rw [Int.toNat_natCast]; exact small_le (by omega)) ⟨none, rfl, rfl, rfl⟩ ?_ ?_ ?_⟩
            · rintro i ys σ H4 hi ⟨u, rfl, rfl, rfl⟩
              rw [nats_len]
              exact Nat.le_trans (List.length_filter_le _ _) (by simp)
            · rintro bk i ys σ H4 hi ⟨u, rfl, rfl, rfl⟩
              rw [Int.toNat_natCast] at hi
              simp only [tSeq, tRet, tRetN, tAsg, tIfS, tDrop, tNext, tChain, tC, tVar, tOp, tUn, tTest, tB, tAnd, tOr, tNot, tAndV, tOrV, tNotV, tIf, tCall, tCons, tNil, tCB, tTup, tLst, tFld, sFld, tMeth, tMake, tBM, tBM0, tSl, tPart, tNoPart, tYes, tNever, tBreak, tCont, gName, gCons, gNil, gTup, rI0, rI, rU, rEq, rNe, iList, iTup, iRng1, iRng2, iEnum, iZip, tBlk, tFor_eq, tRaiseS, tCallS, tMethS, tMakeS, tFstr, jCons, jNil, tFmt, tryIn_K, suite_K, cxOf_K, nox_K, wish_K, block_K, L2.start, blkStart, V.int.injEq, V.bl.injEq, V.ref.injEq, V.str.injEq, V.ty.injEq, Option.some.injEq, Option.join_some, Option.join_none, List.cons.injEq, exists_eq_left', exists_eq_left, exists_and_left, exists_and_right, exists_eq', exists_eq, and_true, true_and, and_assoc, List.map_cons, List.map_nil, List.length_cons, List.length_nil, Nat.reduceAdd, Nat.reduceSub, Nat.sub_self, List.replicate_zero, List.replicate_succ, List.cons_append, List.nil_append, List.append_nil, List.getElem?_cons_zero, List.getElem?_cons_succ, List.set_cons_zero, List.set_cons_succ, Bool.not_eq_true, Bool.false_eq_true, if_true, if_false, rIxL, Int.zero_add]
              refine ⟨_, SqL.of h3, _, bls_at (by rw [lM]; exact hi), _, rfl, ?_⟩
              rw [hreach i hi, apartUp_succ, nats_append]
              by_cases c : ReachP n ps i
              · rw [if_neg (by simp [c]), if_pos c]
                simp [nats]
              · rw [if_pos (by simp [c]), if_neg c]
                simp [nats]
            · rintro ys σ H4 D ⟨u, rfl, rfl, rfl⟩ hD
              rw [Int.toNat_natCast]
              refine ⟨_, lenL (SqL.of upd_same), ?_⟩
              rw [nats_len]
              have s5 : Same H (upd H4 D (.lst (nats (apartUp n ps n)))) := s3.upd' hD
              have h5 : upd H4 D (.lst (nats (apartUp n ps n))) D = some (.lst (nats (apartUp n ps n))) := upd_same
              have fD : H D = none := s3.free hD
              generalize upd H4 D (.lst (nats (apartUp n ps n))) = H5 at *
              by_cases c2 : apartOf n ps = []
              · rw [if_neg (by simp [c2])]
                exact q _ _ s5 (.none c1 c2)
              · have hpos : 0 < (apartUp n ps n).length := List.length_pos_iff.mpr c2
                rw [if_pos (decide_eq_true (by omega))]
                exact ⟨by decide, fun tp ftp => q _ _ (s5.upd' ftp) (.apart c1 c2 (s5.free ftp) fD upd_same (upd_old h5 ftp))⟩
      · have hpos : 0 < (unlikeOf n ps).length := List.length_pos_iff.mpr c1
        rw [if_pos (decide_eq_true (by omega))]
        exact ⟨by decide, fun tp ftp => q _ _ (s1.upd' ftp) (.unlike c1 (s1.free ftp) fdu upd_same (upd_old h1 ftp))⟩
end
end Rb

set_option Elab.async false
set_option linter.all false
set_option maxRecDepth 100000
set_option maxHeartbeats 4000000
namespace Rb
open PySem L2
section
variable {CX : CXT} {P : Program} {w : World} {K : PySem.W.Frag} {mg : Str → Option Value} {base : Heap} {t : Adr}
theorem range_ring {n : Nat} {ps : List Pr} (hok : netOk n ps = true) (h : NoneP n ps) : ¬ RingP n ps ((List.range ps.length).map fun (k : Nat) => (k : Int)) := by
  obtain ⟨⟨n1, n2⟩, ⟨l1, l2⟩, hends, hex⟩ := netOk_parts hok
  rintro ⟨rn, e, _, _, hc⟩
  have er : List.range ps.length = rn := (List.map_inj_right (fun a b z => Int.ofNat.inj z)).mp e
  rw [← er] at hc
  rcases h with h | h
  · apply h
    unfold unlikeOf
    rw [List.filter_eq_nil_iff]
    intro p hp
    have c := Mx.round_count hc p
    obtain ⟨a, b⟩ := count_N (fun q hq => ends_in hends hq) p
    rw [psN_range (n := n), List.countP_map] at a b
    have c1 : ((List.range ps.length).map (stR ps)).count p = (ps.map (·.1)).count (p : Int) := by
      rw [← a, List.count, List.countP_map]
      rfl
    have c2 : ((List.range ps.length).map (enR n ps)).count p = (ps.map (·.2)).count (p : Int) := by
      rw [← b, List.count, List.countP_map]
      rfl
    rw [c1, c2] at c
    simp [c]
  · apply h
    unfold apartOf apartUp
    rw [List.filter_eq_nil_iff]
    intro p hp
    have hp' := List.mem_range.mp hp
    have hr : ∀ j, j < ps.length → Mx.Reach (stR ps) (enR n ps) ps.length (stR ps 0) (stR ps j) := Mx.round_reach (fun j hj => by
      have z := congrArg (fun l : List Nat => l[j]?) hc
      simp only [List.getElem?_map, List.getElem?_range (show j < ps.length by omega)] at z
      rw [List.getElem?_append_left (by rw [List.length_drop, List.length_map, List.length_range]; omega), List.getElem?_drop, List.getElem?_map, List.getElem?_range (by omega)] at z
      have := Option.some.inj z
      rw [this, Nat.add_comm])
    unfold exitsOk at hex
    rw [List.all_eq_true] at hex
    have z := hex p (List.mem_range.mpr (by omega))
    rw [List.any_eq_true] at z
    obtain ⟨q, hq, eq⟩ := z
    obtain ⟨j, hj, ej⟩ := List.getElem_of_mem hq
    have es : stR ps j = p := by
      have e1 : q.1 = (p : Int) := by simpa using eq
      unfold stR
      rw [List.getD_eq_getElem?_getD, List.getElem?_eq_getElem hj, ej]
      simp [e1]
    have := hr j hj
    rw [es] at this
    simp [this]
def sp_refused (C : Addr) : Sp := fun vs H Q _ => ∃ (x l : Addr) (as : List Addr) (n : Nat) (ps : List Pr), vs = [.ref x] ∧ NetAt C H x l as n ps ∧ NoneP n ps ∧ ∀ H', Same H H' → Q (.bl true) H'
theorem ok_x_law_refused (c0 : NoX (CX1 P w)) (T : Txt K mg t) : FnOk P w K mg base (CX1 P w) 8 t.f_x_law_refused t.d_x_law_refused ["net"] (sp_refused t.C_Net) := by
  refine T.F_x_law_refused.okX sc_x_law_refused (fun vs H Q E h => ?_) (fun cdv A outer s H vs Q E hr h => ?_)
  · obtain ⟨x, l, as, n, ps, rfl, _⟩ := h
    rfl
  · obtain ⟨x, l, as, n, ps, rfl, N, hn, q⟩ := h
    refine ⟨_, (pss_cons (ps_set (i := 1) sc_x_law_refused.nd (by rfl) (Or.inl rfl) pe_non)
  (pss_cons (ps_tryAs (i := 2) (by rfl) (by rfl) sc_x_law_refused.nd (by rfl) (fun _ XE hP => (pss_one (ps_expr (pe_callS (okE_ring_at T) (hr.mono (by decide)) (by rfl) T.m_ring_at T.F_ring_at.kp T.b_ring_at hP (pa_cons (pv 0) (pa_cons pe_int pa_nil))))))
  (fun _ => (pss_one (ps_set (i := 1) sc_x_law_refused.nd (by rfl) (Or.inl rfl) (pe_tup (pa_cons (pe_callB call_isiE (by rfl) T.n_isinstance (by decide +kernel : bootBuiltins "isinstance" = some (.builtin "isinstance")) (pa_cons (pv 2) (pa_cons (pe_glob (v := V.ref t.C_NoNumber) (by rfl) T.m_NoNumber rfl) pa_nil))) (pa_cons (pe_callB call_isiE (by rfl) T.n_isinstance (by decide +kernel : bootBuiltins "isinstance" = some (.builtin "isinstance")) (pa_cons (pv 2) (pa_cons (pe_bltn (v := V.ty "ValueError") (by rfl) T.n_ValueError (by decide +kernel : bootBuiltins "ValueError" = some (.type "ValueError")) rfl) pa_nil))) (pa_cons (pe_callB call_isiE (by rfl) T.n_isinstance (by decide +kernel : bootBuiltins "isinstance" = some (.builtin "isinstance")) (pa_cons (pv 2) (pa_cons (pe_glob (v := V.ref t.C_NoRing) (by rfl) T.m_NoRing rfl) pa_nil))) pa_nil))))))) (by rfl) T.m_BookError)
  (pss_one (ps_ret (pe_cmpR (op_eqS (hu0 hr)) (pv 1) (pe_tup (pa_cons pe_bl (pa_cons pe_bl (pa_cons pe_bl pa_nil)))) (nomark _)))))), ?_⟩
    simp only [tSeq, tRet, tRetN, tAsg, tIfS, tDrop, tNext, tChain, tC, tVar, tOp, tUn, tTest, tB, tAnd, tOr, tNot, tAndV, tOrV, tNotV, tIf, tCall, tCons, tNil, tCB, tTup, tLst, tFld, sFld, tMeth, tMake, tBM, tBM0, tSl, tPart, tNoPart, tYes, tNever, tBreak, tCont, gName, gCons, gNil, gTup, rI0, rI, rU, rEq, rNe, iList, iTup, iRng1, iRng2, iEnum, iZip, tBlk, tFor_eq, tRaiseS, tCallS, tMethS, tMakeS, tFstr, jCons, jNil, tFmt, tryIn_K, suite_K, cxOf_K, nox_K, wish_K, block_K, L2.start, blkStart, V.int.injEq, V.bl.injEq, V.ref.injEq, V.str.injEq, V.ty.injEq, Option.some.injEq, Option.join_some, Option.join_none, List.cons.injEq, exists_eq_left', exists_eq_left, exists_and_left, exists_and_right, exists_eq', exists_eq, and_true, true_and, and_assoc, List.map_cons, List.map_nil, List.length_cons, List.length_nil, Nat.reduceAdd, Nat.reduceSub, Nat.sub_self, List.replicate_zero, List.replicate_succ, List.cons_append, List.nil_append, List.append_nil, List.getElem?_cons_zero, List.getElem?_cons_succ, List.set_cons_zero, List.set_cons_succ, Bool.not_eq_true, Bool.false_eq_true, if_true, if_false, tTryAs, suiteEnds]
    intro b
    refine ⟨x, l, as, n, ps, 0, rfl, N, hn, fun H1 s1 => ⟨T.xn, fun y fy => ⟨t.C_NoNumber, upd_same, T.el_NoNumber, true, T.xn1, t.C_NoNumber, upd_same, T.el_NoNumber, true, T.xn2, t.C_NoNumber, upd_same, T.el_NoNumber, false, T.xn3, by decide, fun tp ftp => ?_⟩⟩⟩
    have s2 := (s1.upd' (o := excO y (.ref t.C_NoNumber)) fy).upd' (o := .tup [.bl true, .bl true, .bl false]) ftp
    refine ⟨by decide, fun t2 ft2 => ⟨tp, t2, _, _, rfl, rfl, Or.inr ⟨SqT.of (upd_old upd_same ft2), SqT.of upd_same⟩, by decide, by decide, ?_⟩⟩
    exact q _ (s2.upd' ft2)
def sp_no_ring (C : Addr) : Sp := fun vs H Q _ => ∃ (x l r : Addr) (as : List Addr) (n : Nat) (ps : List Pr) (ring : List Int), vs = [.ref x, .ref r] ∧ NetAt C H x l as n ps ∧ H r = some (.lst (ring.map V.int)) ∧ ring.length < 64 ∧ ¬ RingP n ps ring ∧ ∀ H', Same H H' → Q (.bl true) H'
theorem ok_x_law_no_ring (c0 : NoX (CX1 P w)) (T : Txt K mg t) : FnOk P w K mg base (CX1 P w) 8 t.f_x_law_no_ring t.d_x_law_no_ring ["net", "ring"] (sp_no_ring t.C_Net) := by
  refine T.F_x_law_no_ring.okX sc_x_law_no_ring (fun vs H Q E h => ?_) (fun cdv A outer s H vs Q E hr h => ?_)
  · obtain ⟨x, l, r, as, n, ps, ring, rfl, _⟩ := h
    rfl
  · obtain ⟨x, l, r, as, n, ps, ring, rfl, N, hr0, h64, hno, q⟩ := h
    refine ⟨_, (pss_cons (ps_set (i := 2) sc_x_law_no_ring.nd (by rfl) (Or.inl rfl) pe_non)
  (pss_cons (ps_tryAs (i := 3) (by rfl) (by rfl) sc_x_law_no_ring.nd (by rfl) (fun _ XE hP => (pss_one (ps_expr (pe_callS (okE_ring_number T) (hr.mono (by decide)) (by rfl) T.m_ring_number T.F_ring_number.kp T.b_ring_number hP (pa_cons (pv 0) (pa_cons (pv 1) pa_nil))))))
  (fun _ => (pss_one (ps_set (i := 2) sc_x_law_no_ring.nd (by rfl) (Or.inl rfl) (pe_tup (pa_cons (pe_callB call_isiE (by rfl) T.n_isinstance (by decide +kernel : bootBuiltins "isinstance" = some (.builtin "isinstance")) (pa_cons (pv 3) (pa_cons (pe_glob (v := V.ref t.C_NoRing) (by rfl) T.m_NoRing rfl) pa_nil))) (pa_cons (pe_callB call_isiE (by rfl) T.n_isinstance (by decide +kernel : bootBuiltins "isinstance" = some (.builtin "isinstance")) (pa_cons (pv 3) (pa_cons (pe_bltn (v := V.ty "ValueError") (by rfl) T.n_ValueError (by decide +kernel : bootBuiltins "ValueError" = some (.type "ValueError")) rfl) pa_nil))) (pa_cons (pe_callB call_isiE (by rfl) T.n_isinstance (by decide +kernel : bootBuiltins "isinstance" = some (.builtin "isinstance")) (pa_cons (pv 3) (pa_cons (pe_glob (v := V.ref t.C_NoNumber) (by rfl) T.m_NoNumber rfl) pa_nil))) pa_nil))))))) (by rfl) T.m_BookError)
  (pss_one (ps_ret (pe_cmpR (op_eqS (hu0 hr)) (pv 2) (pe_tup (pa_cons pe_bl (pa_cons pe_bl (pa_cons pe_bl pa_nil)))) (nomark _)))))), ?_⟩
    simp only [tSeq, tRet, tRetN, tAsg, tIfS, tDrop, tNext, tChain, tC, tVar, tOp, tUn, tTest, tB, tAnd, tOr, tNot, tAndV, tOrV, tNotV, tIf, tCall, tCons, tNil, tCB, tTup, tLst, tFld, sFld, tMeth, tMake, tBM, tBM0, tSl, tPart, tNoPart, tYes, tNever, tBreak, tCont, gName, gCons, gNil, gTup, rI0, rI, rU, rEq, rNe, iList, iTup, iRng1, iRng2, iEnum, iZip, tBlk, tFor_eq, tRaiseS, tCallS, tMethS, tMakeS, tFstr, jCons, jNil, tFmt, tryIn_K, suite_K, cxOf_K, nox_K, wish_K, block_K, L2.start, blkStart, V.int.injEq, V.bl.injEq, V.ref.injEq, V.str.injEq, V.ty.injEq, Option.some.injEq, Option.join_some, Option.join_none, List.cons.injEq, exists_eq_left', exists_eq_left, exists_and_left, exists_and_right, exists_eq', exists_eq, and_true, true_and, and_assoc, List.map_cons, List.map_nil, List.length_cons, List.length_nil, Nat.reduceAdd, Nat.reduceSub, Nat.sub_self, List.replicate_zero, List.replicate_succ, List.cons_append, List.nil_append, List.append_nil, List.getElem?_cons_zero, List.getElem?_cons_succ, List.set_cons_zero, List.set_cons_succ, Bool.not_eq_true, Bool.false_eq_true, if_true, if_false, tTryAs, suiteEnds]
    intro b
    refine ⟨x, l, r, as, n, ps, ring, rfl, N, hr0, h64, hno, fun H1 s1 => ⟨T.xr, fun y fy => ⟨t.C_NoRing, upd_same, T.el_NoRing, true, T.xr1, t.C_NoRing, upd_same, T.el_NoRing, true, T.xr2, t.C_NoRing, upd_same, T.el_NoRing, false, T.xr3, by decide, fun tp ftp => ?_⟩⟩⟩
    have s2 := (s1.upd' (o := excO y (.ref t.C_NoRing)) fy).upd' (o := .tup [.bl true, .bl true, .bl false]) ftp
    refine ⟨by decide, fun t2 ft2 => ⟨tp, t2, _, _, rfl, rfl, Or.inr ⟨SqT.of (upd_old upd_same ft2), SqT.of upd_same⟩, by decide, by decide, ?_⟩⟩
    exact q _ (s2.upd' ft2)
end
end Rb

set_option Elab.async false
set_option linter.all false
set_option maxRecDepth 100000
set_option maxHeartbeats 4000000
namespace Rb
open PySem L2
section
variable {CX : CXT} {P : Program} {w : World} {K : PySem.W.Frag} {mg : Str → Option Value} {base : Heap} {t : Adr}
theorem netOk_mk {n : Nat} {ps : List Pr} (h1 : 1 ≤ n) (h2 : n ≤ 32) (l1 : 1 ≤ ps.length) (l2 : ps.length ≤ 64) (en : ∀ q ∈ ps, (0 ≤ q.1 ∧ q.1 < n) ∧ 0 ≤ q.2 ∧ q.2 < n) (ex : ∀ j : Nat, j < n → ∃ q ∈ ps, q.1 = (j : Int)) : netOk n ps = true := by
  have e1 : endsOk n ps = true := by
    unfold endsOk
    rw [List.all_eq_true]
    intro q hq
    obtain ⟨⟨x, y⟩, z, w⟩ := en q hq
    simp [within, x, y, z, w]
  have e2 : exitsOk n ps = true := by
    unfold exitsOk
    rw [List.all_eq_true]
    intro k hk
    rw [List.mem_range] at hk
    obtain ⟨q, hq, e⟩ := ex k (by omega)
    rw [List.any_eq_true]
    exact ⟨q, hq, by simp [e]⟩
  unfold netOk
  rw [e1, e2]
  simp
  omega
structure Drw (n : Nat) (ps : List Pr) : Prop where
  n1 : 1 ≤ n
  ne : 1 ≤ ps.length
  en : ∀ q ∈ ps, (0 ≤ q.1 ∧ q.1 < n) ∧ 0 ≤ q.2 ∧ q.2 < n
  ex : ∀ j : Nat, j < n → ∃ q ∈ ps, q.1 = (j : Int)
theorem Drw.ok {n : Nat} {ps : List Pr} (D : Drw n ps) (h1 : n ≤ 32) (h2 : ps.length ≤ 64) : netOk n ps = true := netOk_mk D.n1 h1 D.ne h2 D.en D.ex
theorem Drw.perm {n : Nat} {ps qs : List Pr} (D : Drw n ps) (h : ps.Perm qs) : Drw n qs := ⟨D.n1, by rw [← h.length_eq]; exact D.ne, fun q hq => D.en q (h.symm.subset hq), fun j hj => let ⟨q, hq, e⟩ := D.ex j hj; ⟨q, h.subset hq, e⟩⟩
theorem NetLike.drw {n : Nat} {ps : List Pr} (E : NetLike n ps) : Drw n ps := ⟨by have := E.n1; omega, by have := E.n1; have := E.le; omega, E.en, fun j hj => E.ex j (by omega)⟩
theorem even_drw {n : Nat} {ps : List Pr} (E : EvenLike n ps) : Drw n ps := ⟨E.n1, E.ne, E.en, fun j hj => ⟨_, E.cy j hj, rfl⟩⟩
def shiftP (n : Nat) (qs : List Pr) : List Pr := qs.map fun q => (q.1 + (n : Int), q.2 + (n : Int))
theorem Drw.side {n m : Nat} {ps qs : List Pr} (D : Drw n ps) (E : Drw m qs) : Drw (n + m) (ps ++ shiftP n qs) := by
  have a := D.n1
  refine ⟨by omega, by rw [List.length_append]; have := D.ne; omega, fun q hq => ?_, fun j hj => ?_⟩
  · rcases List.mem_append.mp hq with h | h
    · have := D.en q h
      push_cast
      omega
    · obtain ⟨r, hr, rfl⟩ := List.mem_map.mp h
      have := E.en r hr
      push_cast
      show (0 ≤ r.1 + (n : Int) ∧ r.1 + (n : Int) < _) ∧ 0 ≤ r.2 + (n : Int) ∧ r.2 + (n : Int) < _
      omega
  · by_cases c : j < n
    · obtain ⟨q, hq, e⟩ := D.ex j c
      exact ⟨q, List.mem_append.mpr (Or.inl hq), e⟩
    · obtain ⟨q, hq, e⟩ := E.ex (j - n) (by omega)
      exact ⟨_, List.mem_append.mpr (Or.inr (List.mem_map.mpr ⟨q, hq, rfl⟩)), by show q.1 + (n : Int) = j; omega⟩
open Classical in
noncomputable def whyS (n : Nat) (ps : List Pr) : Str := if unlikeOf n ps = [] then "apart" else "unlike"
noncomputable def whyL (n : Nat) (ps : List Pr) : List Nat := if unlikeOf n ps = [] then apartOf n ps else unlikeOf n ps
theorem WhyV.two {n : Nat} {ps : List Pr} {H0 H' : Hp} {v : V} (W : WhyV n ps H0 H' v) : (v = .non ∧ ¬ NoneP n ps) ∨ (NoneP n ps ∧ ∃ tp d, v = .ref tp ∧ H0 tp = Option.none ∧ H0 d = Option.none ∧ H' tp = some (.tup [.str (whyS n ps), .ref d]) ∧ H' d = some (.lst (nats (whyL n ps)))) := by
  cases W with
  | @unlike tp d h a b c e => exact Or.inr ⟨Or.inl h, tp, d, rfl, a, b, by rw [c]; simp [whyS, h], by rw [e]; simp [whyL, h]⟩
  | @apart tp d h h2 a b c e => exact Or.inr ⟨Or.inr h2, tp, d, rfl, a, b, by rw [c]; simp [whyS, h], by rw [e]; simp [whyL, h]⟩
  | none a b => exact Or.inl ⟨rfl, fun z => z.elim (fun z => z a) fun z => z b⟩
def sp_law (K : PySem.W.Frag) : Sp := fun vs H Q _ => ∃ (a : Addr) (ns : List Int), vs = [.ref a] ∧ SqL K H a (ns.map V.int) ∧ ns.length ≤ 63 ∧ ∀ H', Q (.bl true) H'
theorem law_start {K : PySem.W.Frag} {H : Hp} {a : Addr} {ns : List Int} (hl : ns.length ≤ 63) (_ : Only H) (hS : SqL K H a (ns.map V.int)) : sp_law K [.ref a] H (fun v _ => v = .bl true) (fun _ _ _ => False) := ⟨a, ns, rfl, hS, hl, fun _ => rfl⟩
structure DrwAt (H : Hp) (tp l : Addr) (as : List Addr) (n : Nat) (ps : List Pr) : Prop where
  tp : H tp = some (.tup [.int n, .ref l])
  ls : H l = some (.lst (as.map V.ref))
  ts : TupsAt H as ps
  dr : Drw n ps
theorem DrwAt.same {H H' : Hp} {tp l : Addr} {as : List Addr} {n : Nat} {ps : List Pr} (D : DrwAt H tp l as n ps) (s : Same H H') : DrwAt H' tp l as n ps := ⟨s _ _ D.tp, s _ _ D.ls, D.ts.same s, D.dr⟩
def MidB (K : PySem.W.Frag) (σ : St) (H : Hp) : Prop := ∃ (a tp l : Addr) (as : List Addr) (ns : List Int) (n : Nat) (ps : List Pr), σ = [some (.ref a), some (.ref tp), some (.int (cellOf ns 3 % 6)), none, none, none, none, none, none, none, none] ∧ SqL K H a (ns.map V.int) ∧ DrwAt H tp l as n ps ∧ n ≤ 8 ∧ ps.length ≤ 17
def MidA (σ : St) (H : Hp) : Prop := ∃ (tp l : Addr) (as : List Addr) (n : Nat) (ps : List Pr) (v0 v2 v3 v4 v5 : Option V), σ = [v0, some (.ref tp), v2, v3, v4, v5, none, none, none, none, none] ∧ DrwAt H tp l as n ps ∧ n ≤ 12 ∧ ps.length ≤ 26
set_option maxHeartbeats 16000000 in
theorem ok_law (c0 : NoX (CX1 P w)) (T : Txt K mg t) : FnOk P w K mg base (CX1 P w) 11 t.f_law t.d_law ["script"] (sp_law K) := by
  refine T.F_law.okX sc_law (fun vs H Q E h => ?_) (fun cdv A outer s H vs Q E hr h => ?_)
  · obtain ⟨a, ns, rfl, _⟩ := h
    rfl
  · obtain ⟨a, ns, rfl, hs, hl, q⟩ := h
    refine ⟨_, (pss_cons (ps_set (i := 1) sc_law.nd (by rfl) (Or.inr rfl) (pe_call (ok_x_law_net c0 T) (hr.mono (by decide)) (by rfl) T.m_x_law_net T.F_x_law_net.kp T.b_x_law_net .nil (pass1 c0) (pa_cons (pv 0) (pa_cons pe_int (pa_cons pe_int (pa_cons pe_int pa_nil))))))
  (pss_cons (ps_set (i := 2) sc_law.nd (by rfl) (Or.inl rfl) (pe_op op_mod (pe_call (ok_x_law_cell_at c0 T) (hr.mono (by decide)) (by rfl) T.m_x_law_cell_at T.F_x_law_cell_at.kp T.b_x_law_cell_at .nil (pass1 c0) (pa_cons (pv 0) (pa_cons pe_int pa_nil))) pe_int))
  (pss_cons (ps_if (pt_cmpR op_gt (pv 2) pe_int (nomark _))
  (pss_one (ps_set (i := 1) sc_law.nd (by rfl) (Or.inr rfl) (pe_call (ok_x_law_even c0 T) (hr.mono (by decide)) (by rfl) T.m_x_law_even T.F_x_law_even.kp T.b_x_law_even .nil (pass1 c0) (pa_cons (pv 0) (pa_cons pe_int (pa_cons pe_int (pa_cons pe_int pa_nil)))))))
  pss_nil)
  (pss_cons (ps_if (pt_cmpR op_eq (pv 2) pe_int (nomark _))
  (pss_cons (ps_set (i := 3) sc_law.nd (by rfl) (Or.inl rfl) (pe_call (ok_x_law_even c0 T) (hr.mono (by decide)) (by rfl) T.m_x_law_even T.F_x_law_even.kp T.b_x_law_even .nil (pass1 c0) (pa_cons (pv 0) (pa_cons pe_int (pa_cons pe_int (pa_cons pe_int pa_nil))))))
  (pss_cons (ps_comp (i := 4) sc_law.nd (by rfl) (Or.inl rfl) (own := (["pair"] : List Str)) (fr := (["drawn"] : List Str)) (ix := ([1] : List Nat)) (by rfl) ⟨by rfl, by decide +kernel, by rfl, by rfl, by rfl⟩ (pi_list (pe_ix ix_tup (pv 3) pe_int (fun _ _ => rfl))) (fun _ => (pg_name (i := 0) (show List.Nodup (["pair", "drawn"] : List Str) by decide +kernel) (by rfl) (Or.inl rfl))) (fun _ hB => pts_nil) (fun _ hB => (pe_tup (pa_cons (pe_op op_add (pe_ix ix_tup (pv 0) pe_int (fun _ _ => rfl)) (pe_ix ix_tup (pv 1) pe_int (fun _ _ => rfl))) (pa_cons (pe_op op_add (pe_ix ix_tup (pv 0) pe_int (fun _ _ => rfl)) (pe_ix ix_tup (pv 1) pe_int (fun _ _ => rfl))) pa_nil)))))
  (pss_cons (ps_set (i := 5) sc_law.nd (by rfl) (Or.inl rfl) (pe_op op_cat (pe_ix ix_tup (pv 1) pe_int (fun _ _ => rfl)) (pv 4)))
  (pss_cons (ps_if (pt_cmpR op_eq (pe_op op_mod (pe_op op_fdiv (pe_call (ok_x_law_cell_at c0 T) (hr.mono (by decide)) (by rfl) T.m_x_law_cell_at T.F_x_law_cell_at.kp T.b_x_law_cell_at .nil (pass1 c0) (pa_cons (pv 0) (pa_cons pe_int pa_nil))) pe_int) pe_int) pe_int (nomark _))
  (pss_one (ps_set (i := 5) sc_law.nd (by rfl) (Or.inl rfl) (pe_op op_cat (pv 4) (pe_ix ix_tup (pv 1) pe_int (fun _ _ => rfl)))))
  pss_nil)
  (pss_one (ps_set (i := 1) sc_law.nd (by rfl) (Or.inr rfl) (pe_tup (pa_cons (pe_op op_add (pe_ix ix_tup (pv 1) pe_int (fun _ _ => rfl)) (pe_ix ix_tup (pv 3) pe_int (fun _ _ => rfl))) (pa_cons (pv 5) pa_nil)))))))))
  pss_nil)
  (pss_cons (ps_set (i := 6) sc_law.nd (by rfl) (Or.inl rfl) (pe_make T.mk_Net (ok_Net____init__ c0 T) (hr.mono (by decide)) (by rfl) T.m_Net T.b_Net____init__ .nil (pass1 c0) (pa_cons (pe_ix ix_tup (pv 1) pe_int (fun _ _ => rfl)) (pa_cons (pe_ix ix_tup (pv 1) pe_int (fun _ _ => rfl)) pa_nil))))
  (pss_cons (ps_set (i := 7) sc_law.nd (by rfl) (Or.inl rfl) (pe_call (ok_x_law_due c0 T) (hr.mono (by decide)) (by rfl) T.m_x_law_due T.F_x_law_due.kp T.b_x_law_due .nil (pass1 c0) (pa_cons (pe_ix ix_tup (pv 1) pe_int (fun _ _ => rfl)) (pa_cons (pe_ix ix_tup (pv 1) pe_int (fun _ _ => rfl)) pa_nil))))
  (pss_cons (ps_for PassesOwn.never (by rfl) (pi_range1 (by rfl) T.n_range (pa_cons pe_int pa_nil)) (pg_name (i := 8) sc_law.nd (by rfl) (Or.inl rfl))
  (pss_cons (ps_set (i := 9) sc_law.nd (by rfl) (Or.inl rfl) (pe_call (ok_why c0 T) (hr.mono (by decide)) (by rfl) T.m_why T.F_why.kp T.b_why .nil (pass1 c0) (pa_cons (pv 6) pa_nil)))
  (pss_cons (ps_if (pt_cmpR op_isN (pv 7) pe_non (nomark _))
  (pss_one (ps_ret (pe_cmpR op_isN (pv 9) pe_non (nomark _))))
  pss_nil)
  (pss_cons (ps_if (PW.pt (pw_or (pt_not (pt_val (pe_callB call_isi (by rfl) T.n_isinstance (by decide +kernel : bootBuiltins "isinstance" = some (.builtin "isinstance")) (pa_cons (pv 9) (pa_cons (pe_bltn (v := V.ty "tuple") (by rfl) T.n_tuple (by decide +kernel : bootBuiltins "tuple" = some (.type "tuple")) rfl) pa_nil))))) (pw_or (pt_cmpR op_ne (pe_callB call_len (by rfl) T.n_len (by decide +kernel : bootBuiltins "len" = some (.builtin "len")) (pa_cons (pv 9) pa_nil)) pe_int (nomark _)) (pw_or1 (pt_cmpR op_ne (pe_ix ix_tup (pv 9) pe_int (fun _ _ => rfl)) (pe_ix ix_tup (pv 7) pe_int (fun _ _ => rfl)) (nomark _))))))
  (pss_one (ps_ret pe_bl))
  pss_nil)
  (pss_cons (ps_if (pt_not (pt_val (pe_call (ok_x_law_numbers c0 T) (hr.mono (by decide)) (by rfl) T.m_x_law_numbers T.F_x_law_numbers.kp T.b_x_law_numbers .nil (pass1 c0) (pa_cons (pe_ix ix_tup (pv 9) pe_int (fun _ _ => rfl)) (pa_cons (pe_ix ix_tup (pv 7) pe_int (fun _ _ => rfl)) pa_nil)))))
  (pss_one (ps_ret pe_bl))
  pss_nil)
  (pss_one (ps_expr (pe_bm0 PySem.F.plainAttrs_list PySem.F.slot_list_clear PySem.F.type_list_clear mt_clear (pe_ix ix_tup (pv 9) pe_int (fun _ _ => rfl))))))))))
  (pss_cons (ps_set (i := 10) sc_law.nd (by rfl) (Or.inl rfl) (pe_call (ok_many_rings c0 T) (hr.mono (by decide)) (by rfl) T.m_many_rings T.F_many_rings.kp T.b_many_rings .nil (pass1 c0) (pa_cons (pv 6) pa_nil)))
  (pss_cons (ps_if (PW.pt (pw_or (pt_not (pt_val (pe_call (ok_x_law_whole c0 T) (hr.mono (by decide)) (by rfl) T.m_x_law_whole T.F_x_law_whole.kp T.b_x_law_whole .nil (pass1 c0) (pa_cons (pv 10) pa_nil)))) (pw_or (pt_cmpR op_ne (pv 10) pe_int (nomark _)) (pw_or1 (pt_not (pt_val (pe_call (ok_x_law_refused c0 T) (hr.mono (by decide)) (by rfl) T.m_x_law_refused T.F_x_law_refused.kp T.b_x_law_refused .nil (pass1 c0) (pa_cons (pv 6) pa_nil))))))))
  (pss_one (ps_ret pe_bl))
  pss_nil)
  (pss_one (ps_ret (pe_call (ok_x_law_no_ring c0 T) (hr.mono (by decide)) (by rfl) T.m_x_law_no_ring T.F_x_law_no_ring.kp T.b_x_law_no_ring .nil (pass1 c0) (pa_cons (pv 6) (pa_cons (pe_lrng (by rfl) (by rfl) T.n_list (by rfl) T.n_range (pa_cons (pe_callB call_len (by rfl) T.n_len (by decide +kernel : bootBuiltins "len" = some (.builtin "len")) (pa_cons (pe_ix ix_tup (pv 1) pe_int (fun _ _ => rfl)) pa_nil)) pa_nil)) pa_nil)))))))))))))), ?_⟩
    refine seq_cut3 (MidB K) (fun N hN => ?_) (fun σ1 H1 m1 => ?_)
    · simp only [tSeq, tRet, tRetN, tAsg, tIfS, tDrop, tNext, tChain, tC, tVar, tOp, tUn, tTest, tB, tAnd, tOr, tNot, tAndV, tOrV, tNotV, tIf, tCall, tCons, tNil, tCB, tTup, tLst, tFld, sFld, tMeth, tMake, tBM, tBM0, tSl, tPart, tNoPart, tYes, tNever, tBreak, tCont, gName, gCons, gNil, gTup, rI0, rI, rU, rEq, rNe, iList, iTup, iRng1, iRng2, iEnum, iZip, tBlk, tFor_eq, tRaiseS, tCallS, tMethS, tMakeS, tFstr, jCons, jNil, tFmt, tryIn_K, suite_K, cxOf_K, nox_K, wish_K, block_K, L2.start, blkStart, V.int.injEq, V.bl.injEq, V.ref.injEq, V.str.injEq, V.ty.injEq, Option.some.injEq, Option.join_some, Option.join_none, List.cons.injEq, exists_eq_left', exists_eq_left, exists_and_left, exists_and_right, exists_eq', exists_eq, and_true, true_and, and_assoc, List.map_cons, List.map_nil, List.length_cons, List.length_nil, Nat.reduceAdd, Nat.reduceSub, Nat.sub_self, List.replicate_zero, List.replicate_succ, List.cons_append, List.nil_append, List.append_nil, List.getElem?_cons_zero, List.getElem?_cons_succ, List.set_cons_zero, List.set_cons_succ, Bool.not_eq_true, Bool.false_eq_true, if_true, if_false, sp_cell_at, rIxT]
      refine ⟨a, ns, 0, 8, 8, rfl, hs, by decide, by decide, by decide, by decide, by decide, fun n ps tp l as H1 s1 ftp htp fl hl1 ht NL hn hp => ⟨ns, s1.seq hs, by decide, by decide, ?_⟩⟩
      by_cases c : 2 < cellOf ns 3 % 6
      · rw [if_pos (by simp [c])]
        exact ⟨a, ns, 0, 8, 8, rfl, s1.seq hs, by decide, by decide, by decide, by decide, by decide, fun n2 ps2 tp2 l2 as2 H2 s2 ftp2 htp2 fl2 hl2 ht2 EL hn2 hp2 => hN _ _ ⟨a, tp2, l2, as2, ns, n2, ps2, rfl, (s1.trans s2).seq hs, ⟨htp2, hl2, ht2, even_drw EL⟩, by omega, by omega⟩⟩
      · rw [if_neg (by simp [c])]
        have n1 := NL.n1
        obtain ⟨m, rfl⟩ : ∃ m : Nat, n = (m : Int) := ⟨n.toNat, by omega⟩
        exact hN _ _ ⟨a, tp, l, as, ns, m, ps, rfl, s1.seq hs, ⟨htp, hl1, ht, NL.drw⟩, by omega, by omega⟩
    obtain ⟨a, tp, l, as, ns, n, ps, rfl, hs, D, hn, hp⟩ := m1
    refine seq_cut (MidA) (fun N hN => ?_) (fun σ1 H1 m1 => ?_)
    · simp only [tSeq, tRet, tRetN, tAsg, tIfS, tDrop, tNext, tChain, tC, tVar, tOp, tUn, tTest, tB, tAnd, tOr, tNot, tAndV, tOrV, tNotV, tIf, tCall, tCons, tNil, tCB, tTup, tLst, tFld, sFld, tMeth, tMake, tBM, tBM0, tSl, tPart, tNoPart, tYes, tNever, tBreak, tCont, gName, gCons, gNil, gTup, rI0, rI, rU, rEq, rNe, iList, iTup, iRng1, iRng2, iEnum, iZip, tBlk, tFor_eq, tRaiseS, tCallS, tMethS, tMakeS, tFstr, jCons, jNil, tFmt, tryIn_K, suite_K, cxOf_K, nox_K, wish_K, block_K, L2.start, blkStart, V.int.injEq, V.bl.injEq, V.ref.injEq, V.str.injEq, V.ty.injEq, Option.some.injEq, Option.join_some, Option.join_none, List.cons.injEq, exists_eq_left', exists_eq_left, exists_and_left, exists_and_right, exists_eq', exists_eq, and_true, true_and, and_assoc, List.map_cons, List.map_nil, List.length_cons, List.length_nil, Nat.reduceAdd, Nat.reduceSub, Nat.sub_self, List.replicate_zero, List.replicate_succ, List.cons_append, List.nil_append, List.append_nil, List.getElem?_cons_zero, List.getElem?_cons_succ, List.set_cons_zero, List.set_cons_succ, Bool.not_eq_true, Bool.false_eq_true, if_true, if_false, sp_cell_at, rIxT, rCat]
      refine ⟨rfl, ?_⟩
      by_cases c : cellOf ns 3 % 6 = 5
      · rw [if_pos (by simp [c])]
        refine ⟨a, ns, 4, 4, 4, rfl, hs, by decide, by decide, by decide, by decide, by decide, fun m qs tq k bs H2 s2 ftq htq fk hk tb EL hm hq => ⟨tq, rfl, _, SqT.of htq, _, atI_nat (j := 1) rfl, k, rfl, ⟨_, SqL.of hk⟩, ?_⟩⟩
        have D2 := D.same s2
        have lq := tb.len
        have lm : (bs.map V.ref).length = qs.length := by rw [List.length_map, lq]
        have bk : ∀ i q, qs[i]? = some q → shiftP n (qs.take (i + 1)) = shiftP n (qs.take i) ++ [(q.1 + (n : Int), q.2 + (n : Int))] := fun i q hq => by
          rw [List.take_add_one, hq]
          simp [shiftP]
        refine blk_list (xs := bs.map V.ref) (fun i ys σ H' => ∃ u cs, σ = [u, some (.ref tp)] ∧ Same H2 H' ∧ ys = cs.map V.ref ∧ TupsAt H' cs (shiftP n (qs.take i))) (by rw [lm]; exact small_le (by omega)) ⟨none, [], rfl, Same.refl _, rfl, .nil⟩ ?_ ?_ ?_
        · rintro i ys σ H3 hi ⟨u, cs, rfl, s3, rfl, tc⟩
          refine ⟨SqL.of (s3 _ _ hk), ?_⟩
          rw [List.length_map, tc.len]
          simp [shiftP]
          omega
        · rintro bk' i y ys σ H3 hy ⟨u, cs, rfl, s3, rfl, tc⟩
          obtain ⟨a', rfl, ha'⟩ := map_ref hy
          obtain ⟨q', hq', hH⟩ := tb.get ha'
          have hH3 := s3 _ _ hH
          have D3 := D2.same s3
          simp only [tSeq, tRet, tRetN, tAsg, tIfS, tDrop, tNext, tChain, tC, tVar, tOp, tUn, tTest, tB, tAnd, tOr, tNot, tAndV, tOrV, tNotV, tIf, tCall, tCons, tNil, tCB, tTup, tLst, tFld, sFld, tMeth, tMake, tBM, tBM0, tSl, tPart, tNoPart, tYes, tNever, tBreak, tCont, gName, gCons, gNil, gTup, rI0, rI, rU, rEq, rNe, iList, iTup, iRng1, iRng2, iEnum, iZip, tBlk, tFor_eq, tRaiseS, tCallS, tMethS, tMakeS, tFstr, jCons, jNil, tFmt, tryIn_K, suite_K, cxOf_K, nox_K, wish_K, block_K, L2.start, blkStart, V.int.injEq, V.bl.injEq, V.ref.injEq, V.str.injEq, V.ty.injEq, Option.some.injEq, Option.join_some, Option.join_none, List.cons.injEq, exists_eq_left', exists_eq_left, exists_and_left, exists_and_right, exists_eq', exists_eq, and_true, true_and, and_assoc, List.map_cons, List.map_nil, List.length_cons, List.length_nil, Nat.reduceAdd, Nat.reduceSub, Nat.sub_self, List.replicate_zero, List.replicate_succ, List.cons_append, List.nil_append, List.append_nil, List.getElem?_cons_zero, List.getElem?_cons_succ, List.set_cons_zero, List.set_cons_succ, Bool.not_eq_true, Bool.false_eq_true, if_true, if_false, rIxT]
          refine ⟨_, SqT.of hH3, _, atI_nat (j := 0) rfl, _, SqT.of D3.tp, _, atI_nat (j := 0) rfl, _, rfl, _, rfl, _, SqT.of hH3, _, atI_nat (j := 1) rfl, _, SqT.of D3.tp, _, atI_nat (j := 0) rfl, _, rfl, _, rfl, by decide, fun p fp => ⟨s3.upd' fp, cs ++ [p], by simp, ?_⟩⟩
          rw [bk i q' hq']
          exact (tc.same (Same.new fp)).append (.cons upd_same .nil)
        · rintro ys σ H3 d ⟨u, cs, rfl, s3, rfl, tc⟩ hd
          rw [lm, List.take_length] at tc
          have s4 := s3.trans (Same.new (o := HO.lst (cs.map V.ref)) hd)
          have hd4 : upd H3 d (.lst (cs.map V.ref)) d = some (.lst (cs.map V.ref)) := upd_same
          have tc4 := tc.same (Same.new (o := HO.lst (cs.map V.ref)) hd)
          generalize upd H3 d (.lst (cs.map V.ref)) = H4 at *
          have D4 := D2.same s4
          have la := D.ts.len
          have lc := tc.len
          have ls : (shiftP n qs).length = qs.length := by simp [shiftP]
          refine ⟨_, SqT.of D4.tp, _, atI_nat (j := 1) rfl, l, rfl, d, rfl, _, D4.ls, _, hd4, small_le (by rw [List.length_map, List.length_map]; omega), fun p fp => ⟨ns, (Same.new fp).seq (s4.seq (s2.seq hs)), by decide, ⟨by decide, by decide⟩, by decide, rfl, ?_⟩⟩
          have s5 : Same H4 (upd H4 p (.lst (as.map V.ref ++ cs.map V.ref))) := Same.new fp
          have hp5 : upd H4 p (.lst (as.map V.ref ++ cs.map V.ref)) p = some (.lst ((as ++ cs).map V.ref)) := by rw [upd_same, List.map_append]
          generalize upd H4 p (.lst (as.map V.ref ++ cs.map V.ref)) = H5 at *
          have D5 := D4.same s5
          have tc5 := tc4.same s5
          have htq5 := s5 _ _ (s4 _ _ htq)
          by_cases c2 : cellOf ns 3 / 6 % 2 = 1
          · rw [if_pos (by simp [c2])]
            refine ⟨_, SqT.of D5.tp, _, atI_nat (j := 1) rfl, d, rfl, l, rfl, _, s5 _ _ hd4, _, D5.ls, small_le (by rw [List.length_map, List.length_map]; omega), fun p6 fp6 => ?_⟩
            have s6 : Same H5 (upd H5 p6 (.lst (cs.map V.ref ++ as.map V.ref))) := Same.new fp6
            have hp6 : upd H5 p6 (.lst (cs.map V.ref ++ as.map V.ref)) p6 = some (.lst ((cs ++ as).map V.ref)) := by rw [upd_same, List.map_append]
            generalize upd H5 p6 (.lst (cs.map V.ref ++ as.map V.ref)) = H6 at *
            have D6 := D5.same s6
            refine ⟨_, SqT.of D6.tp, _, atI_nat (j := 0) rfl, tq, rfl, _, SqT.of (s6 _ _ htq5), _, atI_nat (j := 0) rfl, _, rfl, _, rfl, by decide, fun p7 fp7 => ?_⟩
            have s7 : Same H6 (upd H6 p7 (.tup [.int ((n : Int) + (m : Int)), .ref p6])) := Same.new fp7
            refine hN _ _ ⟨p7, p6, cs ++ as, n + m, shiftP n qs ++ ps, _, _, _, _, _, rfl, ⟨?_, s7 _ _ hp6, ((tc5.same s6).append D6.ts).same s7, (D.dr.side (even_drw EL)).perm List.perm_append_comm⟩, by omega, by rw [List.length_append]; omega⟩
            rw [upd_same]
            push_cast
            rfl
          · rw [if_neg (by simp [c2])]
            refine ⟨_, SqT.of D5.tp, _, atI_nat (j := 0) rfl, tq, rfl, _, SqT.of htq5, _, atI_nat (j := 0) rfl, _, rfl, _, rfl, by decide, fun p7 fp7 => ?_⟩
            have s7 : Same H5 (upd H5 p7 (.tup [.int ((n : Int) + (m : Int)), .ref p])) := Same.new fp7
            refine hN _ _ ⟨p7, p, as ++ cs, n + m, ps ++ shiftP n qs, _, _, _, _, _, rfl, ⟨?_, s7 _ _ hp5, (D5.ts.append tc5).same s7, D.dr.side (even_drw EL)⟩, by omega, by rw [List.length_append]; omega⟩
            rw [upd_same]
            push_cast
            rfl
      · rw [if_neg (by simp [c])]
        exact hN _ _ ⟨tp, l, as, n, ps, _, _, _, _, _, rfl, D, by omega, by omega⟩
    obtain ⟨tp, l, as, n, ps, v0, v2, v3, v4, v5, rfl, D, hn, hp⟩ := m1
    simp only [tSeq, tRet, tRetN, tAsg, tIfS, tDrop, tNext, tChain, tC, tVar, tOp, tUn, tTest, tB, tAnd, tOr, tNot, tAndV, tOrV, tNotV, tIf, tCall, tCons, tNil, tCB, tTup, tLst, tFld, sFld, tMeth, tMake, tBM, tBM0, tSl, tPart, tNoPart, tYes, tNever, tBreak, tCont, gName, gCons, gNil, gTup, rI0, rI, rU, rEq, rNe, iList, iTup, iRng1, iRng2, iEnum, iZip, tBlk, tFor_eq, tRaiseS, tCallS, tMethS, tMakeS, tFstr, jCons, jNil, tFmt, tryIn_K, suite_K, cxOf_K, nox_K, wish_K, block_K, L2.start, blkStart, V.int.injEq, V.bl.injEq, V.ref.injEq, V.str.injEq, V.ty.injEq, Option.some.injEq, Option.join_some, Option.join_none, List.cons.injEq, exists_eq_left', exists_eq_left, exists_and_left, exists_and_right, exists_eq', exists_eq, and_true, true_and, and_assoc, List.map_cons, List.map_nil, List.length_cons, List.length_nil, Nat.reduceAdd, Nat.reduceSub, Nat.sub_self, List.replicate_zero, List.replicate_succ, List.cons_append, List.nil_append, List.append_nil, List.getElem?_cons_zero, List.getElem?_cons_succ, List.set_cons_zero, List.set_cons_succ, Bool.not_eq_true, Bool.false_eq_true, if_true, if_false, sp_cell_at, rIxT, tLRng, sp_whole]
    have okN := D.dr.ok (by omega) (by omega)
    have la := D.ts.len
    have lm : (as.map V.ref).length = ps.length := by rw [List.length_map, la]
    refine ⟨_, SqT.of D.tp, _, atI_nat (j := 0) rfl, _, SqT.of D.tp, _, atI_nat (j := 1) rfl, fun x dx fx fdx ndx => ?_⟩
    have s2 : Same H1 (upd (upd H1 dx (.own x)) x (.ins t.C_Net dx [])) := fun b o e => by
      rw [upd_ne (ne_of_none e fx), upd_ne (ne_of_none e fdx)]
      exact e
    refine ⟨x, dx, l, ps, n, rfl, upd_same, ⟨as, SqL.of (s2 _ _ D.ls), D.ts.same s2⟩, okN, fun l3 as3 H3 fl3 k3 N3 => ⟨rfl, ?_⟩⟩
    have s3 : Same H1 H3 := fun b o e => k3 b o (s2 _ _ e) (ne_of_none e fx)
    have D3 := D.same s3
    refine ⟨_, SqT.of D3.tp, _, atI_nat (j := 0) rfl, _, SqT.of D3.tp, _, atI_nat (j := 1) rfl, l, as, n, ps, rfl, D3.ls, D3.ts, okN, fun v H4 s4 W => ⟨by decide, by decide, ?_⟩⟩
    have N4 := N3.same s4
    have D4 := D3.same s4
    rcases W.two with ⟨rfl, hno⟩ | ⟨hno, tv, dv, rfl, ftv, fdv, htv, hdv⟩
    · refine forb_range (fun i σ H' => i = 0 ∧ ∃ v0 v2 v3 v4 v5, σ = [v0, some (.ref tp), v2, v3, v4, v5, some (.ref x), some .non, none, none, none] ∧ H' = H4) ⟨rfl, _, _, _, _, _, rfl, rfl⟩ ?_ ?_
      · rintro i σ H5 hi ⟨rfl, v0, v2, v3, v4, v5, rfl, rfl⟩
        simp only [tSeq, tRet, tRetN, tAsg, tIfS, tDrop, tNext, tChain, tC, tVar, tOp, tUn, tTest, tB, tAnd, tOr, tNot, tAndV, tOrV, tNotV, tIf, tCall, tCons, tNil, tCB, tTup, tLst, tFld, sFld, tMeth, tMake, tBM, tBM0, tSl, tPart, tNoPart, tYes, tNever, tBreak, tCont, gName, gCons, gNil, gTup, rI0, rI, rU, rEq, rNe, iList, iTup, iRng1, iRng2, iEnum, iZip, tBlk, tFor_eq, tRaiseS, tCallS, tMethS, tMakeS, tFstr, jCons, jNil, tFmt, tryIn_K, suite_K, cxOf_K, nox_K, wish_K, block_K, L2.start, blkStart, V.int.injEq, V.bl.injEq, V.ref.injEq, V.str.injEq, V.ty.injEq, Option.some.injEq, Option.join_some, Option.join_none, List.cons.injEq, exists_eq_left', exists_eq_left, exists_and_left, exists_and_right, exists_eq', exists_eq, and_true, true_and, and_assoc, List.map_cons, List.map_nil, List.length_cons, List.length_nil, Nat.reduceAdd, Nat.reduceSub, Nat.sub_self, List.replicate_zero, List.replicate_succ, List.cons_append, List.nil_append, List.append_nil, List.getElem?_cons_zero, List.getElem?_cons_succ, List.set_cons_zero, List.set_cons_succ, Bool.not_eq_true, Bool.false_eq_true, if_true, if_false]
        refine ⟨x, l3, as3, n, ps, rfl, N4, fun v H6 s6 W6 => ?_⟩
        rcases W6.two with ⟨rfl, _⟩ | ⟨z, _⟩
        · simp only [decide_true, if_true]
          exact q _
        · exact absurd z hno
      · rintro σ H5 ⟨z, _⟩
        exact absurd z (by decide)
    · refine forb_range (fun i σ H' => ∃ v0 v2 v3 v4 v5 v8 v9, σ = [v0, some (.ref tp), v2, v3, v4, v5, some (.ref x), some (.ref tv), v8, v9, none] ∧ Same H4 H') ⟨_, _, _, _, _, _, _, rfl, Same.refl _⟩ ?_ ?_
      · rintro i σ H5 hi ⟨v0, v2, v3, v4, v5, v8, v9, rfl, s5⟩
        simp only [tSeq, tRet, tRetN, tAsg, tIfS, tDrop, tNext, tChain, tC, tVar, tOp, tUn, tTest, tB, tAnd, tOr, tNot, tAndV, tOrV, tNotV, tIf, tCall, tCons, tNil, tCB, tTup, tLst, tFld, sFld, tMeth, tMake, tBM, tBM0, tSl, tPart, tNoPart, tYes, tNever, tBreak, tCont, gName, gCons, gNil, gTup, rI0, rI, rU, rEq, rNe, iList, iTup, iRng1, iRng2, iEnum, iZip, tBlk, tFor_eq, tRaiseS, tCallS, tMethS, tMakeS, tFstr, jCons, jNil, tFmt, tryIn_K, suite_K, cxOf_K, nox_K, wish_K, block_K, L2.start, blkStart, V.int.injEq, V.bl.injEq, V.ref.injEq, V.str.injEq, V.ty.injEq, Option.some.injEq, Option.join_some, Option.join_none, List.cons.injEq, exists_eq_left', exists_eq_left, exists_and_left, exists_and_right, exists_eq', exists_eq, and_true, true_and, and_assoc, List.map_cons, List.map_nil, List.length_cons, List.length_nil, Nat.reduceAdd, Nat.reduceSub, Nat.sub_self, List.replicate_zero, List.replicate_succ, List.cons_append, List.nil_append, List.append_nil, List.getElem?_cons_zero, List.getElem?_cons_succ, List.set_cons_zero, List.set_cons_succ, Bool.not_eq_true, Bool.false_eq_true, if_true, if_false, rIxT, rClear]
        refine ⟨x, l3, as3, n, ps, rfl, N4.same s5, fun v H6 s6 W6 => ?_⟩
        rcases W6.two with ⟨_, z⟩ | ⟨_, tf, df, rfl, ftf, fdf, htf, hdf⟩
        · exact absurd hno z
        · rw [if_neg (by simp)]
          have htv6 := s6 _ _ (s5 _ _ htv)
          have hdv6 := s6 _ _ (s5 _ _ hdv)
          refine ⟨_, .tup htf, true, ?_, ?_⟩
          · exact isi_tt tt_tuple_tuple
          rw [if_neg (by simp)]
          refine ⟨_, lenT (SqT.of htf), rfl, ?_⟩
          rw [if_neg (by simp)]
          refine ⟨tf, rfl, _, SqT.of htf, _, atI_nat (j := 0) rfl, _, SqT.of htv6, _, atI_nat (j := 0) rfl, rfl, ?_⟩
          rw [if_neg (by simp)]
          refine ⟨tf, rfl, _, SqT.of htf, _, atI_nat (j := 1) rfl, _, SqT.of htv6, _, atI_nat (j := 1) rfl, df, dv, (whyL n ps).map fun (k : Nat) => (k : Int), rfl, ?_, ?_, ?_⟩
          · rw [hdf]
            simp [nats]
          · have := SqL.of (K := K) hdv6
            rw [List.map_map]
            exact this
          refine ⟨_, rfl, ?_⟩
          rw [if_neg (by simp)]
          refine ⟨tf, rfl, _, SqT.of htf, _, atI_nat (j := 1) rfl, Or.inl ⟨rfl, _, SqL.of hdf⟩, df, rfl, ⟨_, hdf⟩, fun b o e => ?_⟩
          rw [upd_ne (ne_of_none e (s5.free fdf))]
          exact s6 _ _ (s5 _ _ e)
      · rintro σ H5 ⟨v0, v2, v3, v4, v5, v8, v9, rfl, s5⟩
        simp only [tSeq, tRet, tRetN, tAsg, tIfS, tDrop, tNext, tChain, tC, tVar, tOp, tUn, tTest, tB, tAnd, tOr, tNot, tAndV, tOrV, tNotV, tIf, tCall, tCons, tNil, tCB, tTup, tLst, tFld, sFld, tMeth, tMake, tBM, tBM0, tSl, tPart, tNoPart, tYes, tNever, tBreak, tCont, gName, gCons, gNil, gTup, rI0, rI, rU, rEq, rNe, iList, iTup, iRng1, iRng2, iEnum, iZip, tBlk, tFor_eq, tRaiseS, tCallS, tMethS, tMakeS, tFstr, jCons, jNil, tFmt, tryIn_K, suite_K, cxOf_K, nox_K, wish_K, block_K, L2.start, blkStart, V.int.injEq, V.bl.injEq, V.ref.injEq, V.str.injEq, V.ty.injEq, Option.some.injEq, Option.join_some, Option.join_none, List.cons.injEq, exists_eq_left', exists_eq_left, exists_and_left, exists_and_right, exists_eq', exists_eq, and_true, true_and, and_assoc, List.map_cons, List.map_nil, List.length_cons, List.length_nil, Nat.reduceAdd, Nat.reduceSub, Nat.sub_self, List.replicate_zero, List.replicate_succ, List.cons_append, List.nil_append, List.append_nil, List.getElem?_cons_zero, List.getElem?_cons_succ, List.set_cons_zero, List.set_cons_succ, Bool.not_eq_true, Bool.false_eq_true, if_true, if_false, rIxT, tLRng, sp_whole]
        refine ⟨x, l3, as3, n, ps, rfl, N4.same s5, hno, fun H6 s6 => ⟨⟨_, rfl⟩, ?_⟩⟩
        rw [if_neg (by simp)]
        refine ⟨rfl, ?_⟩
        rw [if_neg (by simp)]
        refine ⟨x, l3, as3, n, ps, rfl, (N4.same s5).same s6, hno, fun H7 s7 => ⟨_, rfl, ?_⟩⟩
        rw [if_neg (by simp)]
        have s47 := (s5.trans s6).trans s7
        have D7 := D4.same s47
        refine ⟨_, SqT.of D7.tp, _, atI_nat (j := 1) rfl, _, lenL (SqL.of D7.ls), ps.length, by rw [lm], by omega, fun d8 f8 => ?_⟩
        have s8 : Same H7 (upd H7 d8 (.lst ((List.range ps.length).map fun (i : Nat) => V.int (i : Int)))) := Same.new f8
        refine ⟨x, l3, d8, as3, n, ps, (List.range ps.length).map fun (k : Nat) => (k : Int), rfl, (N4.same s47).same s8, by rw [upd_same]; simp, by rw [List.length_map, List.length_range]; omega, range_ring okN hno, fun H9 s9 => q _⟩
theorem law_fn (T : Txt K mg t) : ∃ fd : FuncData, (∀ (s : Shared) (u : Value), BindsTo s fd ⟨[u], []⟩ [("script", u)]) ∧ ∀ base : Heap, FnOk P w K mg base (CX1 P w) 11 t.f_law fd ["script"] (sp_law K) := by
  obtain ⟨oc, od, kV, doc, pm, an, cdv, ct, osl, e, lk, hcd⟩ := T.F_law.ex
  refine ⟨t.d_law, ?_, fun base => ok_law nox1 T⟩
  rw [e]
  exact fun s u => .of_eq rfl
end
theorem txt_mk {K : PySem.W.Frag} {h : Heap} {mg : Str → Option Value} {f_lies_within f_ends_lie_within f_each_place_has_exit f_check_net f_check_place f_Net____init__ f_Net__places f_Net__roads f_Net__exits f_first_place f_unlike_places f_reached_places f_apart_places f_why f_is_ring f_many_rings f_ring_at f_ring_number f_x_law_cell_at f_x_law_whole f_x_law_draw f_x_law_numbers f_x_law_net f_x_law_even f_x_law_due f_x_law_refused f_x_law_no_ring f_law C_BookError C_NoNet C_NoPlace C_NoTree C_NoRing C_NoNumber C_Net C_Tally : Addr}
    {k_MOST_PLACES k_MOST_ROADS : Value}
    {od_lies_within an_lies_within : Option Addr} {sl_lies_within : Array (Option Value)} {oc_lies_within kV_lies_within dc_lies_within pm_lies_within cd_lies_within ct_lies_within : Value}
    {od_ends_lie_within an_ends_lie_within : Option Addr} {sl_ends_lie_within : Array (Option Value)} {oc_ends_lie_within kV_ends_lie_within dc_ends_lie_within pm_ends_lie_within cd_ends_lie_within ct_ends_lie_within : Value}
    {od_each_place_has_exit an_each_place_has_exit : Option Addr} {sl_each_place_has_exit : Array (Option Value)} {oc_each_place_has_exit kV_each_place_has_exit dc_each_place_has_exit pm_each_place_has_exit cd_each_place_has_exit ct_each_place_has_exit : Value}
    {od_check_net an_check_net : Option Addr} {sl_check_net : Array (Option Value)} {oc_check_net kV_check_net dc_check_net pm_check_net cd_check_net ct_check_net : Value}
    {od_check_place an_check_place : Option Addr} {sl_check_place : Array (Option Value)} {oc_check_place kV_check_place dc_check_place pm_check_place cd_check_place ct_check_place : Value}
    {od_Net____init__ an_Net____init__ : Option Addr} {sl_Net____init__ : Array (Option Value)} {oc_Net____init__ kV_Net____init__ dc_Net____init__ pm_Net____init__ cd_Net____init__ ct_Net____init__ : Value}
    {od_Net__places an_Net__places : Option Addr} {sl_Net__places : Array (Option Value)} {oc_Net__places kV_Net__places dc_Net__places pm_Net__places cd_Net__places ct_Net__places : Value}
    {od_Net__roads an_Net__roads : Option Addr} {sl_Net__roads : Array (Option Value)} {oc_Net__roads kV_Net__roads dc_Net__roads pm_Net__roads cd_Net__roads ct_Net__roads : Value}
    {od_Net__exits an_Net__exits : Option Addr} {sl_Net__exits : Array (Option Value)} {oc_Net__exits kV_Net__exits dc_Net__exits pm_Net__exits cd_Net__exits ct_Net__exits : Value}
    {od_first_place an_first_place : Option Addr} {sl_first_place : Array (Option Value)} {oc_first_place kV_first_place dc_first_place pm_first_place cd_first_place ct_first_place : Value}
    {od_unlike_places an_unlike_places : Option Addr} {sl_unlike_places : Array (Option Value)} {oc_unlike_places kV_unlike_places dc_unlike_places pm_unlike_places cd_unlike_places ct_unlike_places : Value}
    {od_reached_places an_reached_places : Option Addr} {sl_reached_places : Array (Option Value)} {oc_reached_places kV_reached_places dc_reached_places pm_reached_places cd_reached_places ct_reached_places : Value}
    {od_apart_places an_apart_places : Option Addr} {sl_apart_places : Array (Option Value)} {oc_apart_places kV_apart_places dc_apart_places pm_apart_places cd_apart_places ct_apart_places : Value}
    {od_why an_why : Option Addr} {sl_why : Array (Option Value)} {oc_why kV_why dc_why pm_why cd_why ct_why : Value}
    {od_is_ring an_is_ring : Option Addr} {sl_is_ring : Array (Option Value)} {oc_is_ring kV_is_ring dc_is_ring pm_is_ring cd_is_ring ct_is_ring : Value}
    {od_many_rings an_many_rings : Option Addr} {sl_many_rings : Array (Option Value)} {oc_many_rings kV_many_rings dc_many_rings pm_many_rings cd_many_rings ct_many_rings : Value}
    {od_ring_at an_ring_at : Option Addr} {sl_ring_at : Array (Option Value)} {oc_ring_at kV_ring_at dc_ring_at pm_ring_at cd_ring_at ct_ring_at : Value}
    {od_ring_number an_ring_number : Option Addr} {sl_ring_number : Array (Option Value)} {oc_ring_number kV_ring_number dc_ring_number pm_ring_number cd_ring_number ct_ring_number : Value}
    {od_x_law_cell_at an_x_law_cell_at : Option Addr} {sl_x_law_cell_at : Array (Option Value)} {oc_x_law_cell_at kV_x_law_cell_at dc_x_law_cell_at pm_x_law_cell_at cd_x_law_cell_at ct_x_law_cell_at : Value}
    {od_x_law_whole an_x_law_whole : Option Addr} {sl_x_law_whole : Array (Option Value)} {oc_x_law_whole kV_x_law_whole dc_x_law_whole pm_x_law_whole cd_x_law_whole ct_x_law_whole : Value}
    {od_x_law_draw an_x_law_draw : Option Addr} {sl_x_law_draw : Array (Option Value)} {oc_x_law_draw kV_x_law_draw dc_x_law_draw pm_x_law_draw cd_x_law_draw ct_x_law_draw : Value}
    {od_x_law_numbers an_x_law_numbers : Option Addr} {sl_x_law_numbers : Array (Option Value)} {oc_x_law_numbers kV_x_law_numbers dc_x_law_numbers pm_x_law_numbers cd_x_law_numbers ct_x_law_numbers : Value}
    {od_x_law_net an_x_law_net : Option Addr} {sl_x_law_net : Array (Option Value)} {oc_x_law_net kV_x_law_net dc_x_law_net pm_x_law_net cd_x_law_net ct_x_law_net : Value}
    {od_x_law_even an_x_law_even : Option Addr} {sl_x_law_even : Array (Option Value)} {oc_x_law_even kV_x_law_even dc_x_law_even pm_x_law_even cd_x_law_even ct_x_law_even : Value}
    {od_x_law_due an_x_law_due : Option Addr} {sl_x_law_due : Array (Option Value)} {oc_x_law_due kV_x_law_due dc_x_law_due pm_x_law_due cd_x_law_due ct_x_law_due : Value}
    {od_x_law_refused an_x_law_refused : Option Addr} {sl_x_law_refused : Array (Option Value)} {oc_x_law_refused kV_x_law_refused dc_x_law_refused pm_x_law_refused cd_x_law_refused ct_x_law_refused : Value}
    {od_x_law_no_ring an_x_law_no_ring : Option Addr} {sl_x_law_no_ring : Array (Option Value)} {oc_x_law_no_ring kV_x_law_no_ring dc_x_law_no_ring pm_x_law_no_ring cd_x_law_no_ring ct_x_law_no_ring : Value}
    {od_law an_law : Option Addr} {sl_law : Array (Option Value)} {oc_law kV_law dc_law pm_law cd_law ct_law : Value}
    (X : K.In h) (G : h.Ns mainGlobals mg)
    (aC_BookError : PySem.W.nsIn K mainGlobals "BookError" = some (some (.ref C_BookError)))
    (aC_NoNet : PySem.W.nsIn K mainGlobals "NoNet" = some (some (.ref C_NoNet)))
    (aC_NoPlace : PySem.W.nsIn K mainGlobals "NoPlace" = some (some (.ref C_NoPlace)))
    (aC_NoTree : PySem.W.nsIn K mainGlobals "NoTree" = some (some (.ref C_NoTree)))
    (aC_NoRing : PySem.W.nsIn K mainGlobals "NoRing" = some (some (.ref C_NoRing)))
    (aC_NoNumber : PySem.W.nsIn K mainGlobals "NoNumber" = some (some (.ref C_NoNumber)))
    (aC_Net : PySem.W.nsIn K mainGlobals "Net" = some (some (.ref C_Net)))
    (aC_Tally : PySem.W.nsIn K mainGlobals "Tally" = some (some (.ref C_Tally)))
    (a_lies_within : PySem.W.nsIn K mainGlobals "lies_within" = some (some (.ref f_lies_within)))
    (l_lies_within : K.lookup f_lies_within = some ⟨oc_lies_within, od_lies_within, .func (PySem.W.fnOf "lies_within" "lies_within" (defArgs s_lies_within) (defBody s_lies_within) (defScope s_lies_within) .none kV_lies_within dc_lies_within pm_lies_within an_lies_within cd_lies_within ct_lies_within), sl_lies_within⟩)
    (c_lies_within : PySem.W.codeIn K cd_lies_within "lies_within" = true)
    (k_lies_within : PySem.W.keepIn K (.ref f_lies_within) = true)
    (a_ends_lie_within : PySem.W.nsIn K mainGlobals "ends_lie_within" = some (some (.ref f_ends_lie_within)))
    (l_ends_lie_within : K.lookup f_ends_lie_within = some ⟨oc_ends_lie_within, od_ends_lie_within, .func (PySem.W.fnOf "ends_lie_within" "ends_lie_within" (defArgs s_ends_lie_within) (defBody s_ends_lie_within) (defScope s_ends_lie_within) .none kV_ends_lie_within dc_ends_lie_within pm_ends_lie_within an_ends_lie_within cd_ends_lie_within ct_ends_lie_within), sl_ends_lie_within⟩)
    (c_ends_lie_within : PySem.W.codeIn K cd_ends_lie_within "ends_lie_within" = true)
    (k_ends_lie_within : PySem.W.keepIn K (.ref f_ends_lie_within) = true)
    (a_each_place_has_exit : PySem.W.nsIn K mainGlobals "each_place_has_exit" = some (some (.ref f_each_place_has_exit)))
    (l_each_place_has_exit : K.lookup f_each_place_has_exit = some ⟨oc_each_place_has_exit, od_each_place_has_exit, .func (PySem.W.fnOf "each_place_has_exit" "each_place_has_exit" (defArgs s_each_place_has_exit) (defBody s_each_place_has_exit) (defScope s_each_place_has_exit) .none kV_each_place_has_exit dc_each_place_has_exit pm_each_place_has_exit an_each_place_has_exit cd_each_place_has_exit ct_each_place_has_exit), sl_each_place_has_exit⟩)
    (c_each_place_has_exit : PySem.W.codeIn K cd_each_place_has_exit "each_place_has_exit" = true)
    (k_each_place_has_exit : PySem.W.keepIn K (.ref f_each_place_has_exit) = true)
    (a_check_net : PySem.W.nsIn K mainGlobals "check_net" = some (some (.ref f_check_net)))
    (l_check_net : K.lookup f_check_net = some ⟨oc_check_net, od_check_net, .func (PySem.W.fnOf "check_net" "check_net" (defArgs s_check_net) (defBody s_check_net) (defScope s_check_net) .none kV_check_net dc_check_net pm_check_net an_check_net cd_check_net ct_check_net), sl_check_net⟩)
    (c_check_net : PySem.W.codeIn K cd_check_net "check_net" = true)
    (k_check_net : PySem.W.keepIn K (.ref f_check_net) = true)
    (a_check_place : PySem.W.nsIn K mainGlobals "check_place" = some (some (.ref f_check_place)))
    (l_check_place : K.lookup f_check_place = some ⟨oc_check_place, od_check_place, .func (PySem.W.fnOf "check_place" "check_place" (defArgs s_check_place) (defBody s_check_place) (defScope s_check_place) .none kV_check_place dc_check_place pm_check_place an_check_place cd_check_place ct_check_place), sl_check_place⟩)
    (c_check_place : PySem.W.codeIn K cd_check_place "check_place" = true)
    (k_check_place : PySem.W.keepIn K (.ref f_check_place) = true)
    (a_Net____init__ : PySem.W.findIn K (.ref C_Net) "__init__" = some (some (.ref f_Net____init__)))
    (l_Net____init__ : K.lookup f_Net____init__ = some ⟨oc_Net____init__, od_Net____init__, .func (PySem.W.fnOf "__init__" "Net.__init__" (defArgs s_Net____init__) (defBody s_Net____init__) (defScope s_Net____init__) .none kV_Net____init__ dc_Net____init__ pm_Net____init__ an_Net____init__ cd_Net____init__ ct_Net____init__), sl_Net____init__⟩)
    (c_Net____init__ : PySem.W.codeIn K cd_Net____init__ "Net.__init__" = true)
    (k_Net____init__ : PySem.W.keepIn K (.ref f_Net____init__) = true)
    (i_Net____init__ : PySem.W.isFn K (.ref f_Net____init__) = true)
    (a_Net__places : PySem.W.findIn K (.ref C_Net) "places" = some (some (.ref f_Net__places)))
    (l_Net__places : K.lookup f_Net__places = some ⟨oc_Net__places, od_Net__places, .func (PySem.W.fnOf "places" "Net.places" (defArgs s_Net__places) (defBody s_Net__places) (defScope s_Net__places) .none kV_Net__places dc_Net__places pm_Net__places an_Net__places cd_Net__places ct_Net__places), sl_Net__places⟩)
    (c_Net__places : PySem.W.codeIn K cd_Net__places "Net.places" = true)
    (k_Net__places : PySem.W.keepIn K (.ref f_Net__places) = true)
    (i_Net__places : PySem.W.isFn K (.ref f_Net__places) = true)
    (a_Net__roads : PySem.W.findIn K (.ref C_Net) "roads" = some (some (.ref f_Net__roads)))
    (l_Net__roads : K.lookup f_Net__roads = some ⟨oc_Net__roads, od_Net__roads, .func (PySem.W.fnOf "roads" "Net.roads" (defArgs s_Net__roads) (defBody s_Net__roads) (defScope s_Net__roads) .none kV_Net__roads dc_Net__roads pm_Net__roads an_Net__roads cd_Net__roads ct_Net__roads), sl_Net__roads⟩)
    (c_Net__roads : PySem.W.codeIn K cd_Net__roads "Net.roads" = true)
    (k_Net__roads : PySem.W.keepIn K (.ref f_Net__roads) = true)
    (i_Net__roads : PySem.W.isFn K (.ref f_Net__roads) = true)
    (a_Net__exits : PySem.W.findIn K (.ref C_Net) "exits" = some (some (.ref f_Net__exits)))
    (l_Net__exits : K.lookup f_Net__exits = some ⟨oc_Net__exits, od_Net__exits, .func (PySem.W.fnOf "exits" "Net.exits" (defArgs s_Net__exits) (defBody s_Net__exits) (defScope s_Net__exits) .none kV_Net__exits dc_Net__exits pm_Net__exits an_Net__exits cd_Net__exits ct_Net__exits), sl_Net__exits⟩)
    (c_Net__exits : PySem.W.codeIn K cd_Net__exits "Net.exits" = true)
    (k_Net__exits : PySem.W.keepIn K (.ref f_Net__exits) = true)
    (i_Net__exits : PySem.W.isFn K (.ref f_Net__exits) = true)
    (a_first_place : PySem.W.nsIn K mainGlobals "first_place" = some (some (.ref f_first_place)))
    (l_first_place : K.lookup f_first_place = some ⟨oc_first_place, od_first_place, .func (PySem.W.fnOf "first_place" "first_place" (defArgs s_first_place) (defBody s_first_place) (defScope s_first_place) .none kV_first_place dc_first_place pm_first_place an_first_place cd_first_place ct_first_place), sl_first_place⟩)
    (c_first_place : PySem.W.codeIn K cd_first_place "first_place" = true)
    (k_first_place : PySem.W.keepIn K (.ref f_first_place) = true)
    (a_unlike_places : PySem.W.nsIn K mainGlobals "unlike_places" = some (some (.ref f_unlike_places)))
    (l_unlike_places : K.lookup f_unlike_places = some ⟨oc_unlike_places, od_unlike_places, .func (PySem.W.fnOf "unlike_places" "unlike_places" (defArgs s_unlike_places) (defBody s_unlike_places) (defScope s_unlike_places) .none kV_unlike_places dc_unlike_places pm_unlike_places an_unlike_places cd_unlike_places ct_unlike_places), sl_unlike_places⟩)
    (c_unlike_places : PySem.W.codeIn K cd_unlike_places "unlike_places" = true)
    (k_unlike_places : PySem.W.keepIn K (.ref f_unlike_places) = true)
    (a_reached_places : PySem.W.nsIn K mainGlobals "reached_places" = some (some (.ref f_reached_places)))
    (l_reached_places : K.lookup f_reached_places = some ⟨oc_reached_places, od_reached_places, .func (PySem.W.fnOf "reached_places" "reached_places" (defArgs s_reached_places) (defBody s_reached_places) (defScope s_reached_places) .none kV_reached_places dc_reached_places pm_reached_places an_reached_places cd_reached_places ct_reached_places), sl_reached_places⟩)
    (c_reached_places : PySem.W.codeIn K cd_reached_places "reached_places" = true)
    (k_reached_places : PySem.W.keepIn K (.ref f_reached_places) = true)
    (a_apart_places : PySem.W.nsIn K mainGlobals "apart_places" = some (some (.ref f_apart_places)))
    (l_apart_places : K.lookup f_apart_places = some ⟨oc_apart_places, od_apart_places, .func (PySem.W.fnOf "apart_places" "apart_places" (defArgs s_apart_places) (defBody s_apart_places) (defScope s_apart_places) .none kV_apart_places dc_apart_places pm_apart_places an_apart_places cd_apart_places ct_apart_places), sl_apart_places⟩)
    (c_apart_places : PySem.W.codeIn K cd_apart_places "apart_places" = true)
    (k_apart_places : PySem.W.keepIn K (.ref f_apart_places) = true)
    (a_why : PySem.W.nsIn K mainGlobals "why" = some (some (.ref f_why)))
    (l_why : K.lookup f_why = some ⟨oc_why, od_why, .func (PySem.W.fnOf "why" "why" (defArgs s_why) (defBody s_why) (defScope s_why) .none kV_why dc_why pm_why an_why cd_why ct_why), sl_why⟩)
    (c_why : PySem.W.codeIn K cd_why "why" = true)
    (k_why : PySem.W.keepIn K (.ref f_why) = true)
    (a_is_ring : PySem.W.nsIn K mainGlobals "is_ring" = some (some (.ref f_is_ring)))
    (l_is_ring : K.lookup f_is_ring = some ⟨oc_is_ring, od_is_ring, .func (PySem.W.fnOf "is_ring" "is_ring" (defArgs s_is_ring) (defBody s_is_ring) (defScope s_is_ring) .none kV_is_ring dc_is_ring pm_is_ring an_is_ring cd_is_ring ct_is_ring), sl_is_ring⟩)
    (c_is_ring : PySem.W.codeIn K cd_is_ring "is_ring" = true)
    (k_is_ring : PySem.W.keepIn K (.ref f_is_ring) = true)
    (a_many_rings : PySem.W.nsIn K mainGlobals "many_rings" = some (some (.ref f_many_rings)))
    (l_many_rings : K.lookup f_many_rings = some ⟨oc_many_rings, od_many_rings, .func (PySem.W.fnOf "many_rings" "many_rings" (defArgs s_many_rings) (defBody s_many_rings) (defScope s_many_rings) .none kV_many_rings dc_many_rings pm_many_rings an_many_rings cd_many_rings ct_many_rings), sl_many_rings⟩)
    (c_many_rings : PySem.W.codeIn K cd_many_rings "many_rings" = true)
    (k_many_rings : PySem.W.keepIn K (.ref f_many_rings) = true)
    (a_ring_at : PySem.W.nsIn K mainGlobals "ring_at" = some (some (.ref f_ring_at)))
    (l_ring_at : K.lookup f_ring_at = some ⟨oc_ring_at, od_ring_at, .func (PySem.W.fnOf "ring_at" "ring_at" (defArgs s_ring_at) (defBody s_ring_at) (defScope s_ring_at) .none kV_ring_at dc_ring_at pm_ring_at an_ring_at cd_ring_at ct_ring_at), sl_ring_at⟩)
    (c_ring_at : PySem.W.codeIn K cd_ring_at "ring_at" = true)
    (k_ring_at : PySem.W.keepIn K (.ref f_ring_at) = true)
    (a_ring_number : PySem.W.nsIn K mainGlobals "ring_number" = some (some (.ref f_ring_number)))
    (l_ring_number : K.lookup f_ring_number = some ⟨oc_ring_number, od_ring_number, .func (PySem.W.fnOf "ring_number" "ring_number" (defArgs s_ring_number) (defBody s_ring_number) (defScope s_ring_number) .none kV_ring_number dc_ring_number pm_ring_number an_ring_number cd_ring_number ct_ring_number), sl_ring_number⟩)
    (c_ring_number : PySem.W.codeIn K cd_ring_number "ring_number" = true)
    (k_ring_number : PySem.W.keepIn K (.ref f_ring_number) = true)
    (a_x_law_cell_at : PySem.W.nsIn K mainGlobals "_law_cell_at" = some (some (.ref f_x_law_cell_at)))
    (l_x_law_cell_at : K.lookup f_x_law_cell_at = some ⟨oc_x_law_cell_at, od_x_law_cell_at, .func (PySem.W.fnOf "_law_cell_at" "_law_cell_at" (defArgs s_x_law_cell_at) (defBody s_x_law_cell_at) (defScope s_x_law_cell_at) .none kV_x_law_cell_at dc_x_law_cell_at pm_x_law_cell_at an_x_law_cell_at cd_x_law_cell_at ct_x_law_cell_at), sl_x_law_cell_at⟩)
    (c_x_law_cell_at : PySem.W.codeIn K cd_x_law_cell_at "_law_cell_at" = true)
    (k_x_law_cell_at : PySem.W.keepIn K (.ref f_x_law_cell_at) = true)
    (a_x_law_whole : PySem.W.nsIn K mainGlobals "_law_whole" = some (some (.ref f_x_law_whole)))
    (l_x_law_whole : K.lookup f_x_law_whole = some ⟨oc_x_law_whole, od_x_law_whole, .func (PySem.W.fnOf "_law_whole" "_law_whole" (defArgs s_x_law_whole) (defBody s_x_law_whole) (defScope s_x_law_whole) .none kV_x_law_whole dc_x_law_whole pm_x_law_whole an_x_law_whole cd_x_law_whole ct_x_law_whole), sl_x_law_whole⟩)
    (c_x_law_whole : PySem.W.codeIn K cd_x_law_whole "_law_whole" = true)
    (k_x_law_whole : PySem.W.keepIn K (.ref f_x_law_whole) = true)
    (a_x_law_draw : PySem.W.nsIn K mainGlobals "_law_draw" = some (some (.ref f_x_law_draw)))
    (l_x_law_draw : K.lookup f_x_law_draw = some ⟨oc_x_law_draw, od_x_law_draw, .func (PySem.W.fnOf "_law_draw" "_law_draw" (defArgs s_x_law_draw) (defBody s_x_law_draw) (defScope s_x_law_draw) .none kV_x_law_draw dc_x_law_draw pm_x_law_draw an_x_law_draw cd_x_law_draw ct_x_law_draw), sl_x_law_draw⟩)
    (c_x_law_draw : PySem.W.codeIn K cd_x_law_draw "_law_draw" = true)
    (k_x_law_draw : PySem.W.keepIn K (.ref f_x_law_draw) = true)
    (a_x_law_numbers : PySem.W.nsIn K mainGlobals "_law_numbers" = some (some (.ref f_x_law_numbers)))
    (l_x_law_numbers : K.lookup f_x_law_numbers = some ⟨oc_x_law_numbers, od_x_law_numbers, .func (PySem.W.fnOf "_law_numbers" "_law_numbers" (defArgs s_x_law_numbers) (defBody s_x_law_numbers) (defScope s_x_law_numbers) .none kV_x_law_numbers dc_x_law_numbers pm_x_law_numbers an_x_law_numbers cd_x_law_numbers ct_x_law_numbers), sl_x_law_numbers⟩)
    (c_x_law_numbers : PySem.W.codeIn K cd_x_law_numbers "_law_numbers" = true)
    (k_x_law_numbers : PySem.W.keepIn K (.ref f_x_law_numbers) = true)
    (a_x_law_net : PySem.W.nsIn K mainGlobals "_law_net" = some (some (.ref f_x_law_net)))
    (l_x_law_net : K.lookup f_x_law_net = some ⟨oc_x_law_net, od_x_law_net, .func (PySem.W.fnOf "_law_net" "_law_net" (defArgs s_x_law_net) (defBody s_x_law_net) (defScope s_x_law_net) .none kV_x_law_net dc_x_law_net pm_x_law_net an_x_law_net cd_x_law_net ct_x_law_net), sl_x_law_net⟩)
    (c_x_law_net : PySem.W.codeIn K cd_x_law_net "_law_net" = true)
    (k_x_law_net : PySem.W.keepIn K (.ref f_x_law_net) = true)
    (a_x_law_even : PySem.W.nsIn K mainGlobals "_law_even" = some (some (.ref f_x_law_even)))
    (l_x_law_even : K.lookup f_x_law_even = some ⟨oc_x_law_even, od_x_law_even, .func (PySem.W.fnOf "_law_even" "_law_even" (defArgs s_x_law_even) (defBody s_x_law_even) (defScope s_x_law_even) .none kV_x_law_even dc_x_law_even pm_x_law_even an_x_law_even cd_x_law_even ct_x_law_even), sl_x_law_even⟩)
    (c_x_law_even : PySem.W.codeIn K cd_x_law_even "_law_even" = true)
    (k_x_law_even : PySem.W.keepIn K (.ref f_x_law_even) = true)
    (a_x_law_due : PySem.W.nsIn K mainGlobals "_law_due" = some (some (.ref f_x_law_due)))
    (l_x_law_due : K.lookup f_x_law_due = some ⟨oc_x_law_due, od_x_law_due, .func (PySem.W.fnOf "_law_due" "_law_due" (defArgs s_x_law_due) (defBody s_x_law_due) (defScope s_x_law_due) .none kV_x_law_due dc_x_law_due pm_x_law_due an_x_law_due cd_x_law_due ct_x_law_due), sl_x_law_due⟩)
    (c_x_law_due : PySem.W.codeIn K cd_x_law_due "_law_due" = true)
    (k_x_law_due : PySem.W.keepIn K (.ref f_x_law_due) = true)
    (a_x_law_refused : PySem.W.nsIn K mainGlobals "_law_refused" = some (some (.ref f_x_law_refused)))
    (l_x_law_refused : K.lookup f_x_law_refused = some ⟨oc_x_law_refused, od_x_law_refused, .func (PySem.W.fnOf "_law_refused" "_law_refused" (defArgs s_x_law_refused) (defBody s_x_law_refused) (defScope s_x_law_refused) .none kV_x_law_refused dc_x_law_refused pm_x_law_refused an_x_law_refused cd_x_law_refused ct_x_law_refused), sl_x_law_refused⟩)
    (c_x_law_refused : PySem.W.codeIn K cd_x_law_refused "_law_refused" = true)
    (k_x_law_refused : PySem.W.keepIn K (.ref f_x_law_refused) = true)
    (a_x_law_no_ring : PySem.W.nsIn K mainGlobals "_law_no_ring" = some (some (.ref f_x_law_no_ring)))
    (l_x_law_no_ring : K.lookup f_x_law_no_ring = some ⟨oc_x_law_no_ring, od_x_law_no_ring, .func (PySem.W.fnOf "_law_no_ring" "_law_no_ring" (defArgs s_x_law_no_ring) (defBody s_x_law_no_ring) (defScope s_x_law_no_ring) .none kV_x_law_no_ring dc_x_law_no_ring pm_x_law_no_ring an_x_law_no_ring cd_x_law_no_ring ct_x_law_no_ring), sl_x_law_no_ring⟩)
    (c_x_law_no_ring : PySem.W.codeIn K cd_x_law_no_ring "_law_no_ring" = true)
    (k_x_law_no_ring : PySem.W.keepIn K (.ref f_x_law_no_ring) = true)
    (a_law : PySem.W.nsIn K mainGlobals "law" = some (some (.ref f_law)))
    (l_law : K.lookup f_law = some ⟨oc_law, od_law, .func (PySem.W.fnOf "law" "law" (defArgs s_law) (defBody s_law) (defScope s_law) .none kV_law dc_law pm_law an_law cd_law ct_law), sl_law⟩)
    (c_law : PySem.W.codeIn K cd_law "law" = true)
    (k_law : PySem.W.keepIn K (.ref f_law) = true)
    (pg_Net : PySem.W.plainGet K C_Net Str.empty = true)
    (hd_Net : PySem.W.hasDictIn K C_Net = true)
    (po_Net : PySem.W.plainOver K C_Net = true)
    (sa_Net : PySem.W.findIn K (.ref C_Net) "__setattr__" = some (some (.builtin "object.__setattr__")))
    (mk_Net : PySem.W.makesIn K C_Net = true)
    (kc_Net : PySem.W.keepIn K (.ref C_Net) = true)
    (na_Net_place_count : PySem.W.findIn K (.ref C_Net) "place_count" = some none)
    (na_Net_road_pairs : PySem.W.findIn K (.ref C_Net) "road_pairs" = some none)
    (m_MOST_PLACES : PySem.W.nsIn K mainGlobals "MOST_PLACES" = some (some k_MOST_PLACES))
    (r_MOST_PLACES : RelV (.int 32) k_MOST_PLACES)
    (m_MOST_ROADS : PySem.W.nsIn K mainGlobals "MOST_ROADS" = some (some k_MOST_ROADS))
    (r_MOST_ROADS : RelV (.int 64) k_MOST_ROADS)
    (n_len : PySem.W.nsIn K mainGlobals "len" = some none)
    (n_range : PySem.W.nsIn K mainGlobals "range" = some none)
    (n_all : PySem.W.nsIn K mainGlobals "all" = some none)
    (n_enumerate : PySem.W.nsIn K mainGlobals "enumerate" = some none)
    (n_isinstance : PySem.W.nsIn K mainGlobals "isinstance" = some none)
    (n_list : PySem.W.nsIn K mainGlobals "list" = some none)
    (n_int : PySem.W.nsIn K mainGlobals "int" = some none)
    (n_bool : PySem.W.nsIn K mainGlobals "bool" = some none)
    (n_tuple : PySem.W.nsIn K mainGlobals "tuple" = some none)
    (n_sorted : PySem.W.nsIn K mainGlobals "sorted" = some none)
    (n_ValueError : PySem.W.nsIn K mainGlobals "ValueError" = some none)
    (e_NoNumber : PySem.W.excIn K C_NoNumber veB "ValueError.__new__" = true)
    (el1_NoNumber : PySem.W.findIn K (.ref C_NoNumber) "__getattribute__" = some (some (.builtin "BaseException.__getattribute__")))
    (el2_NoNumber : PySem.W.findIn K (.ref C_NoNumber) "__getattr__" = some none)
    (el3_NoNumber : PySem.W.findIn K (.ref C_NoNumber) "__class__" = some (some (.builtin "object.__class__")))
    (el4_NoNumber : PySem.W.specialIn K (.builtin "object.__class__") "__get__" = some (some (.builtin "getset_descriptor.__get__")))
    (el5_NoNumber : PySem.W.takesIn K (.builtin "object.__class__") = some true)
    (el6_NoNumber : PySem.W.mroIn K C_NoNumber (.type "object") = some true)
    (el7_NoNumber : PySem.W.mroIn K C_NoNumber (.type "BaseException") = some true)
    (el8_NoNumber : (PySem.W.clsIn K C_NoNumber).isSome = true)
    (e_NoRing : PySem.W.excIn K C_NoRing veB "ValueError.__new__" = true)
    (el1_NoRing : PySem.W.findIn K (.ref C_NoRing) "__getattribute__" = some (some (.builtin "BaseException.__getattribute__")))
    (el2_NoRing : PySem.W.findIn K (.ref C_NoRing) "__getattr__" = some none)
    (el3_NoRing : PySem.W.findIn K (.ref C_NoRing) "__class__" = some (some (.builtin "object.__class__")))
    (el4_NoRing : PySem.W.specialIn K (.builtin "object.__class__") "__get__" = some (some (.builtin "getset_descriptor.__get__")))
    (el5_NoRing : PySem.W.takesIn K (.builtin "object.__class__") = some true)
    (el6_NoRing : PySem.W.mroIn K C_NoRing (.type "object") = some true)
    (el7_NoRing : PySem.W.mroIn K C_NoRing (.type "BaseException") = some true)
    (el8_NoRing : (PySem.W.clsIn K C_NoRing).isSome = true)
    (x_xn : PySem.W.exmOne K (.ref C_NoNumber) (.ref C_BookError) = some true)
    (x_xn1 : PySem.W.kitOne K (.ref C_NoNumber) (.ref C_NoNumber) = some true)
    (x_xn2 : PySem.W.kitOne K (.ref C_NoNumber) (.type "ValueError") = some true)
    (x_xn3 : PySem.W.kitOne K (.ref C_NoNumber) (.ref C_NoRing) = some false)
    (x_xr : PySem.W.exmOne K (.ref C_NoRing) (.ref C_BookError) = some true)
    (x_xr1 : PySem.W.kitOne K (.ref C_NoRing) (.ref C_NoRing) = some true)
    (x_xr2 : PySem.W.kitOne K (.ref C_NoRing) (.type "ValueError") = some true)
    (x_xr3 : PySem.W.kitOne K (.ref C_NoRing) (.ref C_NoNumber) = some false)
    : ∃ t : Adr, Txt K mg t ∧ t.f_law = f_law := by
  refine ⟨{
    f_lies_within := f_lies_within,
    d_lies_within := PySem.W.fnOf "lies_within" "lies_within" (defArgs s_lies_within) (defBody s_lies_within) (defScope s_lies_within) .none kV_lies_within dc_lies_within pm_lies_within an_lies_within cd_lies_within ct_lies_within,
    f_ends_lie_within := f_ends_lie_within,
    d_ends_lie_within := PySem.W.fnOf "ends_lie_within" "ends_lie_within" (defArgs s_ends_lie_within) (defBody s_ends_lie_within) (defScope s_ends_lie_within) .none kV_ends_lie_within dc_ends_lie_within pm_ends_lie_within an_ends_lie_within cd_ends_lie_within ct_ends_lie_within,
    f_each_place_has_exit := f_each_place_has_exit,
    d_each_place_has_exit := PySem.W.fnOf "each_place_has_exit" "each_place_has_exit" (defArgs s_each_place_has_exit) (defBody s_each_place_has_exit) (defScope s_each_place_has_exit) .none kV_each_place_has_exit dc_each_place_has_exit pm_each_place_has_exit an_each_place_has_exit cd_each_place_has_exit ct_each_place_has_exit,
    f_check_net := f_check_net,
    d_check_net := PySem.W.fnOf "check_net" "check_net" (defArgs s_check_net) (defBody s_check_net) (defScope s_check_net) .none kV_check_net dc_check_net pm_check_net an_check_net cd_check_net ct_check_net,
    f_check_place := f_check_place,
    d_check_place := PySem.W.fnOf "check_place" "check_place" (defArgs s_check_place) (defBody s_check_place) (defScope s_check_place) .none kV_check_place dc_check_place pm_check_place an_check_place cd_check_place ct_check_place,
    f_Net____init__ := f_Net____init__,
    d_Net____init__ := PySem.W.fnOf "__init__" "Net.__init__" (defArgs s_Net____init__) (defBody s_Net____init__) (defScope s_Net____init__) .none kV_Net____init__ dc_Net____init__ pm_Net____init__ an_Net____init__ cd_Net____init__ ct_Net____init__,
    f_Net__places := f_Net__places,
    d_Net__places := PySem.W.fnOf "places" "Net.places" (defArgs s_Net__places) (defBody s_Net__places) (defScope s_Net__places) .none kV_Net__places dc_Net__places pm_Net__places an_Net__places cd_Net__places ct_Net__places,
    f_Net__roads := f_Net__roads,
    d_Net__roads := PySem.W.fnOf "roads" "Net.roads" (defArgs s_Net__roads) (defBody s_Net__roads) (defScope s_Net__roads) .none kV_Net__roads dc_Net__roads pm_Net__roads an_Net__roads cd_Net__roads ct_Net__roads,
    f_Net__exits := f_Net__exits,
    d_Net__exits := PySem.W.fnOf "exits" "Net.exits" (defArgs s_Net__exits) (defBody s_Net__exits) (defScope s_Net__exits) .none kV_Net__exits dc_Net__exits pm_Net__exits an_Net__exits cd_Net__exits ct_Net__exits,
    f_first_place := f_first_place,
    d_first_place := PySem.W.fnOf "first_place" "first_place" (defArgs s_first_place) (defBody s_first_place) (defScope s_first_place) .none kV_first_place dc_first_place pm_first_place an_first_place cd_first_place ct_first_place,
    f_unlike_places := f_unlike_places,
    d_unlike_places := PySem.W.fnOf "unlike_places" "unlike_places" (defArgs s_unlike_places) (defBody s_unlike_places) (defScope s_unlike_places) .none kV_unlike_places dc_unlike_places pm_unlike_places an_unlike_places cd_unlike_places ct_unlike_places,
    f_reached_places := f_reached_places,
    d_reached_places := PySem.W.fnOf "reached_places" "reached_places" (defArgs s_reached_places) (defBody s_reached_places) (defScope s_reached_places) .none kV_reached_places dc_reached_places pm_reached_places an_reached_places cd_reached_places ct_reached_places,
    f_apart_places := f_apart_places,
    d_apart_places := PySem.W.fnOf "apart_places" "apart_places" (defArgs s_apart_places) (defBody s_apart_places) (defScope s_apart_places) .none kV_apart_places dc_apart_places pm_apart_places an_apart_places cd_apart_places ct_apart_places,
    f_why := f_why,
    d_why := PySem.W.fnOf "why" "why" (defArgs s_why) (defBody s_why) (defScope s_why) .none kV_why dc_why pm_why an_why cd_why ct_why,
    f_is_ring := f_is_ring,
    d_is_ring := PySem.W.fnOf "is_ring" "is_ring" (defArgs s_is_ring) (defBody s_is_ring) (defScope s_is_ring) .none kV_is_ring dc_is_ring pm_is_ring an_is_ring cd_is_ring ct_is_ring,
    f_many_rings := f_many_rings,
    d_many_rings := PySem.W.fnOf "many_rings" "many_rings" (defArgs s_many_rings) (defBody s_many_rings) (defScope s_many_rings) .none kV_many_rings dc_many_rings pm_many_rings an_many_rings cd_many_rings ct_many_rings,
    f_ring_at := f_ring_at,
    d_ring_at := PySem.W.fnOf "ring_at" "ring_at" (defArgs s_ring_at) (defBody s_ring_at) (defScope s_ring_at) .none kV_ring_at dc_ring_at pm_ring_at an_ring_at cd_ring_at ct_ring_at,
    f_ring_number := f_ring_number,
    d_ring_number := PySem.W.fnOf "ring_number" "ring_number" (defArgs s_ring_number) (defBody s_ring_number) (defScope s_ring_number) .none kV_ring_number dc_ring_number pm_ring_number an_ring_number cd_ring_number ct_ring_number,
    f_x_law_cell_at := f_x_law_cell_at,
    d_x_law_cell_at := PySem.W.fnOf "_law_cell_at" "_law_cell_at" (defArgs s_x_law_cell_at) (defBody s_x_law_cell_at) (defScope s_x_law_cell_at) .none kV_x_law_cell_at dc_x_law_cell_at pm_x_law_cell_at an_x_law_cell_at cd_x_law_cell_at ct_x_law_cell_at,
    f_x_law_whole := f_x_law_whole,
    d_x_law_whole := PySem.W.fnOf "_law_whole" "_law_whole" (defArgs s_x_law_whole) (defBody s_x_law_whole) (defScope s_x_law_whole) .none kV_x_law_whole dc_x_law_whole pm_x_law_whole an_x_law_whole cd_x_law_whole ct_x_law_whole,
    f_x_law_draw := f_x_law_draw,
    d_x_law_draw := PySem.W.fnOf "_law_draw" "_law_draw" (defArgs s_x_law_draw) (defBody s_x_law_draw) (defScope s_x_law_draw) .none kV_x_law_draw dc_x_law_draw pm_x_law_draw an_x_law_draw cd_x_law_draw ct_x_law_draw,
    f_x_law_numbers := f_x_law_numbers,
    d_x_law_numbers := PySem.W.fnOf "_law_numbers" "_law_numbers" (defArgs s_x_law_numbers) (defBody s_x_law_numbers) (defScope s_x_law_numbers) .none kV_x_law_numbers dc_x_law_numbers pm_x_law_numbers an_x_law_numbers cd_x_law_numbers ct_x_law_numbers,
    f_x_law_net := f_x_law_net,
    d_x_law_net := PySem.W.fnOf "_law_net" "_law_net" (defArgs s_x_law_net) (defBody s_x_law_net) (defScope s_x_law_net) .none kV_x_law_net dc_x_law_net pm_x_law_net an_x_law_net cd_x_law_net ct_x_law_net,
    f_x_law_even := f_x_law_even,
    d_x_law_even := PySem.W.fnOf "_law_even" "_law_even" (defArgs s_x_law_even) (defBody s_x_law_even) (defScope s_x_law_even) .none kV_x_law_even dc_x_law_even pm_x_law_even an_x_law_even cd_x_law_even ct_x_law_even,
    f_x_law_due := f_x_law_due,
    d_x_law_due := PySem.W.fnOf "_law_due" "_law_due" (defArgs s_x_law_due) (defBody s_x_law_due) (defScope s_x_law_due) .none kV_x_law_due dc_x_law_due pm_x_law_due an_x_law_due cd_x_law_due ct_x_law_due,
    f_x_law_refused := f_x_law_refused,
    d_x_law_refused := PySem.W.fnOf "_law_refused" "_law_refused" (defArgs s_x_law_refused) (defBody s_x_law_refused) (defScope s_x_law_refused) .none kV_x_law_refused dc_x_law_refused pm_x_law_refused an_x_law_refused cd_x_law_refused ct_x_law_refused,
    f_x_law_no_ring := f_x_law_no_ring,
    d_x_law_no_ring := PySem.W.fnOf "_law_no_ring" "_law_no_ring" (defArgs s_x_law_no_ring) (defBody s_x_law_no_ring) (defScope s_x_law_no_ring) .none kV_x_law_no_ring dc_x_law_no_ring pm_x_law_no_ring an_x_law_no_ring cd_x_law_no_ring ct_x_law_no_ring,
    f_law := f_law,
    d_law := PySem.W.fnOf "law" "law" (defArgs s_law) (defBody s_law) (defScope s_law) .none kV_law dc_law pm_law an_law cd_law ct_law,
    C_BookError := C_BookError,
    C_NoNet := C_NoNet,
    C_NoPlace := C_NoPlace,
    C_NoTree := C_NoTree,
    C_NoRing := C_NoRing,
    C_NoNumber := C_NoNumber,
    C_Net := C_Net,
    C_Tally := C_Tally,
    k_MOST_PLACES := k_MOST_PLACES,
    k_MOST_ROADS := k_MOST_ROADS }, {
    F_lies_within := fun_mk (st := s_lies_within) l_lies_within c_lies_within k_lies_within,
    b_lies_within := (fun_mk (st := s_lies_within) l_lies_within c_lies_within k_lies_within).binds (ps := ["place", "places"]) fun _ _ _ _ _ _ us hl => match us, hl with | [_, _], _ => rfl,
    m_lies_within := PySem.W.mg_of X G a_lies_within,
    F_ends_lie_within := fun_mk (st := s_ends_lie_within) l_ends_lie_within c_ends_lie_within k_ends_lie_within,
    b_ends_lie_within := (fun_mk (st := s_ends_lie_within) l_ends_lie_within c_ends_lie_within k_ends_lie_within).binds (ps := ["roads", "places"]) fun _ _ _ _ _ _ us hl => match us, hl with | [_, _], _ => rfl,
    m_ends_lie_within := PySem.W.mg_of X G a_ends_lie_within,
    F_each_place_has_exit := fun_mk (st := s_each_place_has_exit) l_each_place_has_exit c_each_place_has_exit k_each_place_has_exit,
    b_each_place_has_exit := (fun_mk (st := s_each_place_has_exit) l_each_place_has_exit c_each_place_has_exit k_each_place_has_exit).binds (ps := ["roads", "places"]) fun _ _ _ _ _ _ us hl => match us, hl with | [_, _], _ => rfl,
    m_each_place_has_exit := PySem.W.mg_of X G a_each_place_has_exit,
    F_check_net := fun_mk (st := s_check_net) l_check_net c_check_net k_check_net,
    b_check_net := (fun_mk (st := s_check_net) l_check_net c_check_net k_check_net).binds (ps := ["places", "roads"]) fun _ _ _ _ _ _ us hl => match us, hl with | [_, _], _ => rfl,
    m_check_net := PySem.W.mg_of X G a_check_net,
    F_check_place := fun_mk (st := s_check_place) l_check_place c_check_place k_check_place,
    b_check_place := (fun_mk (st := s_check_place) l_check_place c_check_place k_check_place).binds (ps := ["place", "places"]) fun _ _ _ _ _ _ us hl => match us, hl with | [_, _], _ => rfl,
    m_check_place := PySem.W.mg_of X G a_check_place,
    F_Net____init__ := fun_mk (st := s_Net____init__) l_Net____init__ c_Net____init__ k_Net____init__,
    b_Net____init__ := (fun_mk (st := s_Net____init__) l_Net____init__ c_Net____init__ k_Net____init__).binds (ps := ["self", "places", "roads"]) fun _ _ _ _ _ _ us hl => match us, hl with | [_, _, _], _ => rfl,
    F_Net__places := fun_mk (st := s_Net__places) l_Net__places c_Net__places k_Net__places,
    b_Net__places := (fun_mk (st := s_Net__places) l_Net__places c_Net__places k_Net__places).binds (ps := ["self"]) fun _ _ _ _ _ _ us hl => match us, hl with | [_], _ => rfl,
    M_Net__places := ⟨a_Net__places, i_Net__places, k_Net__places⟩,
    F_Net__roads := fun_mk (st := s_Net__roads) l_Net__roads c_Net__roads k_Net__roads,
    b_Net__roads := (fun_mk (st := s_Net__roads) l_Net__roads c_Net__roads k_Net__roads).binds (ps := ["self"]) fun _ _ _ _ _ _ us hl => match us, hl with | [_], _ => rfl,
    M_Net__roads := ⟨a_Net__roads, i_Net__roads, k_Net__roads⟩,
    F_Net__exits := fun_mk (st := s_Net__exits) l_Net__exits c_Net__exits k_Net__exits,
    b_Net__exits := (fun_mk (st := s_Net__exits) l_Net__exits c_Net__exits k_Net__exits).binds (ps := ["self", "place"]) fun _ _ _ _ _ _ us hl => match us, hl with | [_, _], _ => rfl,
    M_Net__exits := ⟨a_Net__exits, i_Net__exits, k_Net__exits⟩,
    F_first_place := fun_mk (st := s_first_place) l_first_place c_first_place k_first_place,
    b_first_place := (fun_mk (st := s_first_place) l_first_place c_first_place k_first_place).binds (ps := ["net"]) fun _ _ _ _ _ _ us hl => match us, hl with | [_], _ => rfl,
    m_first_place := PySem.W.mg_of X G a_first_place,
    F_unlike_places := fun_mk (st := s_unlike_places) l_unlike_places c_unlike_places k_unlike_places,
    b_unlike_places := (fun_mk (st := s_unlike_places) l_unlike_places c_unlike_places k_unlike_places).binds (ps := ["net"]) fun _ _ _ _ _ _ us hl => match us, hl with | [_], _ => rfl,
    m_unlike_places := PySem.W.mg_of X G a_unlike_places,
    F_reached_places := fun_mk (st := s_reached_places) l_reached_places c_reached_places k_reached_places,
    b_reached_places := (fun_mk (st := s_reached_places) l_reached_places c_reached_places k_reached_places).binds (ps := ["net"]) fun _ _ _ _ _ _ us hl => match us, hl with | [_], _ => rfl,
    m_reached_places := PySem.W.mg_of X G a_reached_places,
    F_apart_places := fun_mk (st := s_apart_places) l_apart_places c_apart_places k_apart_places,
    b_apart_places := (fun_mk (st := s_apart_places) l_apart_places c_apart_places k_apart_places).binds (ps := ["net"]) fun _ _ _ _ _ _ us hl => match us, hl with | [_], _ => rfl,
    m_apart_places := PySem.W.mg_of X G a_apart_places,
    F_why := fun_mk (st := s_why) l_why c_why k_why,
    b_why := (fun_mk (st := s_why) l_why c_why k_why).binds (ps := ["net"]) fun _ _ _ _ _ _ us hl => match us, hl with | [_], _ => rfl,
    m_why := PySem.W.mg_of X G a_why,
    F_is_ring := fun_mk (st := s_is_ring) l_is_ring c_is_ring k_is_ring,
    b_is_ring := (fun_mk (st := s_is_ring) l_is_ring c_is_ring k_is_ring).binds (ps := ["net", "ring"]) fun _ _ _ _ _ _ us hl => match us, hl with | [_, _], _ => rfl,
    m_is_ring := PySem.W.mg_of X G a_is_ring,
    F_many_rings := fun_mk (st := s_many_rings) l_many_rings c_many_rings k_many_rings,
    b_many_rings := (fun_mk (st := s_many_rings) l_many_rings c_many_rings k_many_rings).binds (ps := ["net"]) fun _ _ _ _ _ _ us hl => match us, hl with | [_], _ => rfl,
    m_many_rings := PySem.W.mg_of X G a_many_rings,
    F_ring_at := fun_mk (st := s_ring_at) l_ring_at c_ring_at k_ring_at,
    b_ring_at := (fun_mk (st := s_ring_at) l_ring_at c_ring_at k_ring_at).binds (ps := ["net", "number"]) fun _ _ _ _ _ _ us hl => match us, hl with | [_, _], _ => rfl,
    m_ring_at := PySem.W.mg_of X G a_ring_at,
    F_ring_number := fun_mk (st := s_ring_number) l_ring_number c_ring_number k_ring_number,
    b_ring_number := (fun_mk (st := s_ring_number) l_ring_number c_ring_number k_ring_number).binds (ps := ["net", "ring"]) fun _ _ _ _ _ _ us hl => match us, hl with | [_, _], _ => rfl,
    m_ring_number := PySem.W.mg_of X G a_ring_number,
    F_x_law_cell_at := fun_mk (st := s_x_law_cell_at) l_x_law_cell_at c_x_law_cell_at k_x_law_cell_at,
    b_x_law_cell_at := (fun_mk (st := s_x_law_cell_at) l_x_law_cell_at c_x_law_cell_at k_x_law_cell_at).binds (ps := ["script", "k"]) fun _ _ _ _ _ _ us hl => match us, hl with | [_, _], _ => rfl,
    m_x_law_cell_at := PySem.W.mg_of X G a_x_law_cell_at,
    F_x_law_whole := fun_mk (st := s_x_law_whole) l_x_law_whole c_x_law_whole k_x_law_whole,
    b_x_law_whole := (fun_mk (st := s_x_law_whole) l_x_law_whole c_x_law_whole k_x_law_whole).binds (ps := ["found"]) fun _ _ _ _ _ _ us hl => match us, hl with | [_], _ => rfl,
    m_x_law_whole := PySem.W.mg_of X G a_x_law_whole,
    F_x_law_draw := fun_mk (st := s_x_law_draw) l_x_law_draw c_x_law_draw k_x_law_draw,
    b_x_law_draw := (fun_mk (st := s_x_law_draw) l_x_law_draw c_x_law_draw k_x_law_draw).binds (ps := ["cell", "k", "bound"]) fun _ _ _ _ _ _ us hl => match us, hl with | [_, _, _], _ => rfl,
    m_x_law_draw := PySem.W.mg_of X G a_x_law_draw,
    F_x_law_numbers := fun_mk (st := s_x_law_numbers) l_x_law_numbers c_x_law_numbers k_x_law_numbers,
    b_x_law_numbers := (fun_mk (st := s_x_law_numbers) l_x_law_numbers c_x_law_numbers k_x_law_numbers).binds (ps := ["found", "due"]) fun _ _ _ _ _ _ us hl => match us, hl with | [_, _], _ => rfl,
    m_x_law_numbers := PySem.W.mg_of X G a_x_law_numbers,
    F_x_law_net := fun_mk (st := s_x_law_net) l_x_law_net c_x_law_net k_x_law_net,
    b_x_law_net := (fun_mk (st := s_x_law_net) l_x_law_net c_x_law_net k_x_law_net).binds (ps := ["script", "at", "most", "extra"]) fun _ _ _ _ _ _ us hl => match us, hl with | [_, _, _, _], _ => rfl,
    m_x_law_net := PySem.W.mg_of X G a_x_law_net,
    F_x_law_even := fun_mk (st := s_x_law_even) l_x_law_even c_x_law_even k_x_law_even,
    b_x_law_even := (fun_mk (st := s_x_law_even) l_x_law_even c_x_law_even k_x_law_even).binds (ps := ["script", "at", "most", "extra"]) fun _ _ _ _ _ _ us hl => match us, hl with | [_, _, _, _], _ => rfl,
    m_x_law_even := PySem.W.mg_of X G a_x_law_even,
    F_x_law_due := fun_mk (st := s_x_law_due) l_x_law_due c_x_law_due k_x_law_due,
    b_x_law_due := (fun_mk (st := s_x_law_due) l_x_law_due c_x_law_due k_x_law_due).binds (ps := ["many", "pairs"]) fun _ _ _ _ _ _ us hl => match us, hl with | [_, _], _ => rfl,
    m_x_law_due := PySem.W.mg_of X G a_x_law_due,
    F_x_law_refused := fun_mk (st := s_x_law_refused) l_x_law_refused c_x_law_refused k_x_law_refused,
    b_x_law_refused := (fun_mk (st := s_x_law_refused) l_x_law_refused c_x_law_refused k_x_law_refused).binds (ps := ["net"]) fun _ _ _ _ _ _ us hl => match us, hl with | [_], _ => rfl,
    m_x_law_refused := PySem.W.mg_of X G a_x_law_refused,
    F_x_law_no_ring := fun_mk (st := s_x_law_no_ring) l_x_law_no_ring c_x_law_no_ring k_x_law_no_ring,
    b_x_law_no_ring := (fun_mk (st := s_x_law_no_ring) l_x_law_no_ring c_x_law_no_ring k_x_law_no_ring).binds (ps := ["net", "ring"]) fun _ _ _ _ _ _ us hl => match us, hl with | [_, _], _ => rfl,
    m_x_law_no_ring := PySem.W.mg_of X G a_x_law_no_ring,
    F_law := fun_mk (st := s_law) l_law c_law k_law,
    b_law := (fun_mk (st := s_law) l_law c_law k_law).binds (ps := ["script"]) fun _ _ _ _ _ _ us hl => match us, hl with | [_], _ => rfl,
    m_law := PySem.W.mg_of X G a_law,
    m_BookError := PySem.W.mg_of X G aC_BookError,
    m_NoNet := PySem.W.mg_of X G aC_NoNet,
    m_NoPlace := PySem.W.mg_of X G aC_NoPlace,
    m_NoTree := PySem.W.mg_of X G aC_NoTree,
    m_NoRing := PySem.W.mg_of X G aC_NoRing,
    m_NoNumber := PySem.W.mg_of X G aC_NoNumber,
    m_Net := PySem.W.mg_of X G aC_Net,
    m_Tally := PySem.W.mg_of X G aC_Tally,
    cl_Net := ⟨pg_Net, hd_Net, po_Net, sa_Net⟩,
    mk_Net := ⟨mk_Net, a_Net____init__, i_Net____init__, kc_Net⟩,
    na_Net_place_count := na_Net_place_count,
    na_Net_road_pairs := na_Net_road_pairs,
    m_MOST_PLACES := PySem.W.mg_of X G m_MOST_PLACES,
    r_MOST_PLACES := r_MOST_PLACES,
    m_MOST_ROADS := PySem.W.mg_of X G m_MOST_ROADS,
    r_MOST_ROADS := r_MOST_ROADS,
    n_len := PySem.W.mg_none_of X G n_len,
    n_range := PySem.W.mg_none_of X G n_range,
    n_all := PySem.W.mg_none_of X G n_all,
    n_enumerate := PySem.W.mg_none_of X G n_enumerate,
    n_isinstance := PySem.W.mg_none_of X G n_isinstance,
    n_list := PySem.W.mg_none_of X G n_list,
    n_int := PySem.W.mg_none_of X G n_int,
    n_bool := PySem.W.mg_none_of X G n_bool,
    n_tuple := PySem.W.mg_none_of X G n_tuple,
    n_sorted := PySem.W.mg_none_of X G n_sorted,
    n_ValueError := PySem.W.mg_none_of X G n_ValueError,
    e_NoNumber := e_NoNumber,
    el_NoNumber := ⟨⟨el1_NoNumber, el2_NoNumber, el3_NoNumber, el4_NoNumber, el5_NoNumber, el6_NoNumber, el7_NoNumber⟩, el8_NoNumber⟩,
    e_NoRing := e_NoRing,
    el_NoRing := ⟨⟨el1_NoRing, el2_NoRing, el3_NoRing, el4_NoRing, el5_NoRing, el6_NoRing, el7_NoRing⟩, el8_NoRing⟩,
    xn := x_xn,
    xn1 := x_xn1,
    xn2 := x_xn2,
    xn3 := x_xn3,
    xr := x_xr,
    xr1 := x_xr1,
    xr2 := x_xr2,
    xr3 := x_xr3 }, rfl⟩
end Rb
/-! names that are taken, so that the head lays no second form of the objects of the run: it would make most of the compiled file -/
namespace PySem.W.Fast
def tw4221374516617873408 := ()
def tw14168970672012793888 := ()
def tw15490076245720991904 := ()
def tw538002797582484672 := ()
def tw657639574867398880 := ()
def tw459882890854562176 := ()
def tw5559068783247127104 := ()
def tw1055169747439519456 := ()
def tw3975293338897881856 := ()
def tw12850204765222579136 := ()
def tw7992568806190597185 := ()
def tw8768775793966144865 := ()
def tw14017031930964418049 := ()
def tw663002162372448801 := ()
def tw17203830641212149281 := ()
def tw3056470029070499457 := ()
def tw16965041947593826241 := ()
def tw7119861776454659138 := ()
def tw7447864708094251074 := ()
def tw3999924046807234722 := ()
def tw13506495810682598626 := ()
def tw6283390115207711138 := ()
def tw1766815313529005506 := ()
def tw215961966520581602 := ()
def tw6330816483956955746 := ()
def tw17962235697292109538 := ()
def tw1082478663241032514 := ()
def tw2305699575725359970 := ()
def tw16443706102336701314 := ()
def tw2469666326830178210 := ()
def tw15182655530163065794 := ()
def tw6343435280392567778 := ()
def tw14691424118323112930 := ()
def tw17946499006371719203 := ()
def tw17623183693304307843 := ()
def tw17683171547686067331 := ()
def tw1449561885913942179 := ()
def tw15919310544474035491 := ()
def tw11693485518329713987 := ()
def tw1297521135711291907 := ()
def tw5459940358762258019 := ()
def tw13884787781314882371 := ()
def tw8844057335438492515 := ()
def tw14383795689452426147 := ()
def tw13442243159658134467 := ()
def tw2994200995587582915 := ()
def tw9053847011854725220 := ()
def tw4290114914712312964 := ()
def tw50875037358167268 := ()
def tw14714060110845622820 := ()
def tw16208399019093712484 := ()
def tw1067658570407236196 := ()
def tw7291043857588859524 := ()
def tw3942553564816172676 := ()
def tw357304182433587940 := ()
def tw2335633564263834340 := ()
def tw12897953154583234276 := ()
def tw12859169546069445508 := ()
def tw2517362652408054756 := ()
def tw17462232883130247140 := ()
def tw6823999149764962661 := ()
def tw11143922179774472581 := ()
def tw5669027135133668933 := ()
def tw18027180837562115685 := ()
def tw3391560404951890629 := ()
def tw18151202782998736677 := ()
def tw13770962209067309989 := ()
def tw18090841089751253957 := ()
def tw13407553308341882022 := ()
def tw17725048655968338118 := ()
def tw7121150912301597926 := ()
def tw3845000206551093510 := ()
def tw510005339299875110 := ()
def tw14245206636474518854 := ()
def tw3029127093164874182 := ()
def tw6088861219943327238 := ()
def tw4976898600187159110 := ()
def tw8069299146551977542 := ()
def tw8690711787720181350 := ()
def tw3689430657876698790 := ()
def tw12593101521536920230 := ()
def tw14093414805289130662 := ()
def tw17946469585420854279 := ()
def tw16557145392920292359 := ()
def tw4870488934614190215 := ()
def tw11014353616952164615 := ()
def tw18093433728391041383 := ()
def tw7674824642150058503 := ()
def tw12276166246188896839 := ()
def tw5762884730894660391 := ()
def tw282012550167363592 := ()
def tw3276706295485920296 := ()
def tw11415342100573446248 := ()
def tw3787100133549978984 := ()
def tw16035651669950986600 := ()
def tw5122867276722845064 := ()
def tw4517188476894472712 := ()
def tw2902592247790351048 := ()
def tw9563273262743455496 := ()
def tw296804663090195529 := ()
def tw10981470053210008681 := ()
def tw3016990871273756777 := ()
def tw13017355906968181929 := ()
def tw5937404003724772585 := ()
def tw11750845671171173641 := ()
def tw9879129064099545385 := ()
def tw9108625431373255145 := ()
def tw16759792468254722729 := ()
def tw10715489658260389545 := ()
def tw15737775046163142345 := ()
def tw9735609273517876937 := ()
def tw9483416063693132585 := ()
def tw14995298276552908617 := ()
def tw8097307354955773833 := ()
def tw915781879116415945 := ()
def tw7805358719981046794 := ()
def tw11967332647673163786 := ()
def tw10817054341636941866 := ()
def tw12984072886870560842 := ()
def tw124207739639597194 := ()
def tw669473564167389610 := ()
def tw14456996104013367722 := ()
def tw12997542879459670474 := ()
def tw13887469429678770730 := ()
def tw2380596825817688746 := ()
def tw704762460648533802 := ()
def tw14051339357520921418 := ()
def tw3608838778642408362 := ()
def tw11354199220134543274 := ()
def tw13646145892325327850 := ()
def tw741818968819222571 := ()
def tw17803856817390345259 := ()
def tw9868799313225997355 := ()
def tw9865065157827380299 := ()
def tw2679659856478408875 := ()
def tw3511594280848760075 := ()
def tw2084584155035204875 := ()
def tw12115735056313604491 := ()
def tw12266318866926836203 := ()
def tw675990537471138315 := ()
def tw138639771935134251 := ()
def tw3169899373939185227 := ()
def tw12584618612091149899 := ()
def tw147050697260689995 := ()
def tw9686288032446143083 := ()
def tw1592325431640084075 := ()
def tw1629396188671798891 := ()
def tw6447148523406342827 := ()
def tw6566196684111123115 := ()
def tw15187153419184696011 := ()
def tw4099734384065466187 := ()
def tw4450073229967099787 := ()
def tw14402683540793707403 := ()
def tw10536271800211440555 := ()
def tw7461692214117103531 := ()
def tw1484742779139226539 := ()
def tw2311563269773769772 := ()
def tw16988849011923675340 := ()
def tw18117756439433208236 := ()
def tw3168431583487709644 := ()
def tw7908869336866494124 := ()
def tw1146166839163326252 := ()
def tw9560559608723102733 := ()
def tw593505169958452269 := ()
def tw1584612902671891565 := ()
def tw5626044776123223181 := ()
def tw8710431694695583885 := ()
def tw179047617862419661 := ()
def tw5100458169643322669 := ()
def tw8191621620989285709 := ()
def tw2047321603776019885 := ()
def tw11306236008939684301 := ()
def tw15048483840845007341 := ()
def tw13058428775665581677 := ()
def tw15710712139035254445 := ()
def tw15020361558777456525 := ()
def tw17664031133502394414 := ()
def tw15306036365296751662 := ()
def tw14016274224448881870 := ()
def tw15843923973080241422 := ()
def tw11553226191122131246 := ()
def tw9891771686651571534 := ()
def tw855707110965378446 := ()
def tw12416413159968916910 := ()
def tw12691816167879129678 := ()
def tw13077144616077618798 := ()
def tw5530821776867710670 := ()
def tw999647988957083342 := ()
def tw2217415014630441902 := ()
def tw14064475036348055631 := ()
def tw8098274599954792559 := ()
def tw901003448654407823 := ()
def tw1594385771543938351 := ()
def tw15065362301352036783 := ()
def tw195292038547779215 := ()
def tw5742634992925742831 := ()
def tw2095293131244213167 := ()
def tw5638720952833344528 := ()
def tw6701156920098454576 := ()
def tw13989825625373092912 := ()
def tw11102098467237427312 := ()
def tw8641285078242881712 := ()
def tw14752601627039226096 := ()
def tw7942640654236570928 := ()
def tw12802897301542753744 := ()
def tw2373225913163051472 := ()
def tw13236068870027486800 := ()
def tw15410271780790784752 := ()
def tw15020823051916669840 := ()
def tw4632472427114722353 := ()
def tw1142722746013223057 := ()
def tw7631463722171591953 := ()
def tw10734788771479819601 := ()
def tw10464620203101634929 := ()
def tw4112150413513319921 := ()
def tw17939792712699540977 := ()
def tw11930380283349047825 := ()
def tw15902643896916906577 := ()
def tw9611991922597704657 := ()
def tw8896377770285252593 := ()
def tw15334872614774855730 := ()
def tw1709804712740116562 := ()
def tw18010569939082838258 := ()
def tw13823927462884396274 := ()
def tw14900347949025962418 := ()
def tw13621842464041111026 := ()
def tw6300340101372187154 := ()
def tw12244004534777863762 := ()
def tw16738415842824949362 := ()
def tw5890776167030386354 := ()
def tw15018370114828285810 := ()
def tw11533413093747753874 := ()
def tw11447295551411358610 := ()
def tw4699034070394050514 := ()
def tw8883138146612685810 := ()
def tw5552357809263426546 := ()
def tw13928547318852004115 := ()
def tw13970551602583634227 := ()
def tw15171562092691730867 := ()
def tw9893452596222372307 := ()
def tw1222270270486800851 := ()
def tw13654836918896332339 := ()
def tw3323600991049965203 := ()
def tw13748745009003322035 := ()
def tw15371240473486484147 := ()
def tw1394236188234596083 := ()
def tw17706167904895624947 := ()
def tw8246441580472939283 := ()
def tw7584039855806112595 := ()
def tw11256018148210916211 := ()
def tw10174640918147626931 := ()
def tw16218748059947098067 := ()
def tw16562407069570173972 := ()
def tw11693372763357328500 := ()
def tw3166592257821339956 := ()
def tw8569467592188064084 := ()
def tw9933874887313797588 := ()
def tw7244199144743980564 := ()
def tw9965000376439927316 := ()
def tw125942157753908 := ()
def tw16154061455252598356 := ()
def tw14143530006201304916 := ()
def tw10543414542455520084 := ()
def tw18243382271741770676 := ()
def tw2840227985617410004 := ()
def tw12203048552627567637 := ()
def tw14263623657675636789 := ()
def tw573760463236086933 := ()
def tw10807094635790472373 := ()
def tw4314888961894935797 := ()
def tw9399309232285246837 := ()
def tw740174298601823765 := ()
def tw755942147702464053 := ()
def tw1221452282758082101 := ()
def tw16064374474782245557 := ()
def tw11666209153289782997 := ()
def tw5505873568019064597 := ()
def tw10954601273663494005 := ()
def tw14993631328447523701 := ()
def tw5061558952431505430 := ()
def tw10806241421953811510 := ()
def tw7957251519013128278 := ()
def tw18381613831983804534 := ()
def tw7057412484615618710 := ()
def tw5796067953903456470 := ()
def tw5971589111404556598 := ()
def tw6466122808548546934 := ()
def tw715613779242874262 := ()
def tw2163081529279584790 := ()
def tw9989203886239418006 := ()
def tw7225119395621579446 := ()
def tw2773768146538512054 := ()
def tw1666087652569504598 := ()
def tw11231420365326826358 := ()
def tw3091750097265888150 := ()
def tw10911963625909485526 := ()
def tw8848064164620775414 := ()
def tw6780143866942370903 := ()
def tw17191103959618033815 := ()
def tw1181797593851706743 := ()
def tw15777189271719984535 := ()
def tw216471294908603799 := ()
def tw16631774311511194039 := ()
def tw14410060071404659191 := ()
def tw8360024712650637847 := ()
def tw5438743559162650135 := ()
def tw8015259334792801815 := ()
def tw5925535838741561975 := ()
def tw11589157531924510583 := ()
def tw13549664366298385303 := ()
def tw16006736120101853079 := ()
def tw2367656828954632087 := ()
def tw8823129843593690039 := ()
def tw1607088469127589815 := ()
def tw4362367403428735959 := ()
def tw4738713959477350456 := ()
def tw8327312446822498392 := ()
def tw7848468885930031192 := ()
def tw1025882664303221880 := ()
def tw4190226171287614616 := ()
def tw13980135898603466936 := ()
def tw9424034722302842072 := ()
def tw3331787303652201752 := ()
def tw17466212514112995800 := ()
def tw16102682011721092632 := ()
def tw9034566757802732056 := ()
def tw7153068340066303544 := ()
def tw11774775024407887448 := ()
def tw17441993410045002392 := ()
def tw14109620090327867064 := ()
def tw1348542390158819064 := ()
def tw15488740327374701432 := ()
def tw9137568002299871160 := ()
def tw8449555552539822008 := ()
def tw8433957778965086168 := ()
def tw2047109827978495225 := ()
def tw9555631034716621049 := ()
def tw5717482389366349081 := ()
def tw11696285313128438105 := ()
def tw16306490711961292153 := ()
def tw12949125332506833369 := ()
def tw16679900929294431801 := ()
def tw7565511803863766745 := ()
def tw9394615094375375577 := ()
def tw15391609926081278681 := ()
def tw5180224990952083321 := ()
def tw8004175293253560346 := ()
def tw9115999126659576954 := ()
def tw12377982081215617242 := ()
def tw14256198310809908474 := ()
def tw14692291884746426746 := ()
def tw13824429893295065498 := ()
def tw8176538392070247898 := ()
def tw5786080888476440058 := ()
def tw15569453047565662778 := ()
def tw5746501952053264026 := ()
def tw8588702772416416474 := ()
def tw2740059196612814618 := ()
def tw9840685052049285914 := ()
def tw2704369947341656890 := ()
def tw7066676717009673050 := ()
def tw3018513091797497818 := ()
def tw7653429155616020474 := ()
def tw422234065758829595 := ()
def tw3770062548200123419 := ()
def tw15283948818530955355 := ()
def tw9832687493164878011 := ()
def tw14487410857321663771 := ()
def tw612485328908236155 := ()
def tw7095616826221032987 := ()
def tw2770141049915307643 := ()
def tw13942543109626390203 := ()
def tw10763096396734352091 := ()
def tw7796773038486149915 := ()
def tw7775566148241377115 := ()
def tw15392339905440679867 := ()
def tw3446592382147757084 := ()
def tw2234069254668228796 := ()
def tw5925578955736248508 := ()
def tw15991797331967911260 := ()
def tw12803512358445156732 := ()
def tw793241608564053404 := ()
def tw2995628938353353148 := ()
def tw14212703205105734268 := ()
def tw18213748169206743676 := ()
def tw11392880407352666844 := ()
def tw12919656783680989948 := ()
def tw12705137171133155100 := ()
def tw5275904160674252700 := ()
def tw14826175847159754781 := ()
def tw7348169140106149981 := ()
def tw12407417919538632829 := ()
def tw3049759178941413533 := ()
def tw12258764939629665565 := ()
def tw8717247620085247325 := ()
def tw12724231575702891933 := ()
def tw102726058462626269 := ()
def tw507862235944046077 := ()
def tw5470594366196664861 := ()
def tw3389803543874435613 := ()
def tw4820277039474041501 := ()
def tw1480929783241160413 := ()
def tw18396355241463345885 := ()
def tw5639921920974329597 := ()
def tw2986700545758701405 := ()
def tw17587079823850766205 := ()
def tw6353220178967798685 := ()
def tw14660097661372670941 := ()
def tw8231877927033352157 := ()
def tw5569598523330127006 := ()
def tw6537879593372213438 := ()
def tw4689729724677550302 := ()
def tw9836065004979239262 := ()
def tw10059033365495101854 := ()
def tw6052776462296778206 := ()
def tw6589034713861564062 := ()
def tw16945634623693995742 := ()
def tw7391365735487936254 := ()
def tw9598125159809998590 := ()
def tw17221781517370853374 := ()
def tw9052242685283311679 := ()
def tw8413355079079919903 := ()
def tw10901167420316997919 := ()
def tw415475197577441631 := ()
def tw2465889073274577247 := ()
def tw8699071869249142175 := ()
def tw13534530776866167359 := ()
def tw18443204172113534911 := ()
def tw14800479509227817951 := ()
end PySem.W.Fast
open PySem PySem.W PyProof.Rows
set_option maxRecDepth 100000 in
set_option maxHeartbeats 0 in
theorem PySem.Challenge.cw_ringbook_k08_why_there_is_none_holds : PySem.Challenge.rw_ringbook_k08_why_there_is_none.Holds := by
  w_on; o_law; k_head; (case hw => w_witness2)
  k_fill
  refine L2.walk_ofW (l := PySem.Challenge.rw_ringbook_k08_why_there_is_none) (n := 63) (k := 11) (x := "script") (sp := Rb.sp_law) rfl (by decide) rfl ⟨rfl, by decide, by decide⟩ (fun w h Y => PySem.W.kIn_of Y) ?F (fun K H a ns hl hO hS => Rb.law_start hl hO hS)
  case F =>
    intro w mg fa h KX G hmg
    have T : ∃ t : Rb.Adr, Rb.Txt (L2.KOf KX) mg t ∧ t.f_law = fa := by
      dsimp only [L2.KOf]
      have Z := @Rb.txt_mk
      obtain ⟨t, T, e⟩ : ∃ t : Rb.Adr, Rb.Txt _ mg t ∧ mg "law" = some (.ref t.f_law) := by
        refine' (fun q => Exists.elim q fun t z => ⟨t, z.1, z.1.m_law⟩) (Rb.txt_mk KX G ?aC_BookError ?aC_NoNet ?aC_NoPlace ?aC_NoTree ?aC_NoRing ?aC_NoNumber ?aC_Net ?aC_Tally ?a_lies_within ?l_lies_within ?c_lies_within ?k_lies_within ?a_ends_lie_within ?l_ends_lie_within ?c_ends_lie_within ?k_ends_lie_within ?a_each_place_has_exit ?l_each_place_has_exit ?c_each_place_has_exit ?k_each_place_has_exit ?a_check_net ?l_check_net ?c_check_net ?k_check_net ?a_check_place ?l_check_place ?c_check_place ?k_check_place ?a_Net____init__ ?l_Net____init__ ?c_Net____init__ ?k_Net____init__ ?i_Net____init__ ?a_Net__places ?l_Net__places ?c_Net__places ?k_Net__places ?i_Net__places ?a_Net__roads ?l_Net__roads ?c_Net__roads ?k_Net__roads ?i_Net__roads ?a_Net__exits ?l_Net__exits ?c_Net__exits ?k_Net__exits ?i_Net__exits ?a_first_place ?l_first_place ?c_first_place ?k_first_place ?a_unlike_places ?l_unlike_places ?c_unlike_places ?k_unlike_places ?a_reached_places ?l_reached_places ?c_reached_places ?k_reached_places ?a_apart_places ?l_apart_places ?c_apart_places ?k_apart_places ?a_why ?l_why ?c_why ?k_why ?a_is_ring ?l_is_ring ?c_is_ring ?k_is_ring ?a_many_rings ?l_many_rings ?c_many_rings ?k_many_rings ?a_ring_at ?l_ring_at ?c_ring_at ?k_ring_at ?a_ring_number ?l_ring_number ?c_ring_number ?k_ring_number ?a_x_law_cell_at ?l_x_law_cell_at ?c_x_law_cell_at ?k_x_law_cell_at ?a_x_law_whole ?l_x_law_whole ?c_x_law_whole ?k_x_law_whole ?a_x_law_draw ?l_x_law_draw ?c_x_law_draw ?k_x_law_draw ?a_x_law_numbers ?l_x_law_numbers ?c_x_law_numbers ?k_x_law_numbers ?a_x_law_net ?l_x_law_net ?c_x_law_net ?k_x_law_net ?a_x_law_even ?l_x_law_even ?c_x_law_even ?k_x_law_even ?a_x_law_due ?l_x_law_due ?c_x_law_due ?k_x_law_due ?a_x_law_refused ?l_x_law_refused ?c_x_law_refused ?k_x_law_refused ?a_x_law_no_ring ?l_x_law_no_ring ?c_x_law_no_ring ?k_x_law_no_ring ?a_law ?l_law ?c_law ?k_law ?pg_Net ?hd_Net ?po_Net ?sa_Net ?mk_Net ?kc_Net ?na_Net_place_count ?na_Net_road_pairs ?m_MOST_PLACES ?r_MOST_PLACES ?m_MOST_ROADS ?r_MOST_ROADS ?n_len ?n_range ?n_all ?n_enumerate ?n_isinstance ?n_list ?n_int ?n_bool ?n_tuple ?n_sorted ?n_ValueError ?e_NoNumber ?el1_NoNumber ?el2_NoNumber ?el3_NoNumber ?el4_NoNumber ?el5_NoNumber ?el6_NoNumber ?el7_NoNumber ?el8_NoNumber ?e_NoRing ?el1_NoRing ?el2_NoRing ?el3_NoRing ?el4_NoRing ?el5_NoRing ?el6_NoRing ?el7_NoRing ?el8_NoRing ?x_xn ?x_xn1 ?x_xn2 ?x_xn3 ?x_xr ?x_xr1 ?x_xr2 ?x_xr3)
        (case aC_BookError => first | k_is | kernel_rfl | rfl)
        (case aC_NoNet => first | k_is | kernel_rfl | rfl)
        (case aC_NoPlace => first | k_is | kernel_rfl | rfl)
        (case aC_NoTree => first | k_is | kernel_rfl | rfl)
        (case aC_NoRing => first | k_is | kernel_rfl | rfl)
        (case aC_NoNumber => first | k_is | kernel_rfl | rfl)
        (case aC_Net => first | k_is | kernel_rfl | rfl)
        (case aC_Tally => first | k_is | kernel_rfl | rfl)
        (case a_lies_within => first | k_is | kernel_rfl | rfl)
        (case l_lies_within => first | k_is | kernel_rfl | rfl)
        (case c_lies_within => first | k_is | kernel_rfl | rfl)
        (case k_lies_within => first | k_is | kernel_rfl | rfl)
        (case a_ends_lie_within => first | k_is | kernel_rfl | rfl)
        (case l_ends_lie_within => first | k_is | kernel_rfl | rfl)
        (case c_ends_lie_within => first | k_is | kernel_rfl | rfl)
        (case k_ends_lie_within => first | k_is | kernel_rfl | rfl)
        (case a_each_place_has_exit => first | k_is | kernel_rfl | rfl)
        (case l_each_place_has_exit => first | k_is | kernel_rfl | rfl)
        (case c_each_place_has_exit => first | k_is | kernel_rfl | rfl)
        (case k_each_place_has_exit => first | k_is | kernel_rfl | rfl)
        (case a_check_net => first | k_is | kernel_rfl | rfl)
        (case l_check_net => first | k_is | kernel_rfl | rfl)
        (case c_check_net => first | k_is | kernel_rfl | rfl)
        (case k_check_net => first | k_is | kernel_rfl | rfl)
        (case a_check_place => first | k_is | kernel_rfl | rfl)
        (case l_check_place => first | k_is | kernel_rfl | rfl)
        (case c_check_place => first | k_is | kernel_rfl | rfl)
        (case k_check_place => first | k_is | kernel_rfl | rfl)
        (case a_Net____init__ => first | k_is | kernel_rfl | rfl)
        (case l_Net____init__ => first | k_is | kernel_rfl | rfl)
        (case c_Net____init__ => first | k_is | kernel_rfl | rfl)
        (case k_Net____init__ => first | k_is | kernel_rfl | rfl)
        (case i_Net____init__ => first | k_is | kernel_rfl | rfl)
        (case a_Net__places => first | k_is | kernel_rfl | rfl)
        (case l_Net__places => first | k_is | kernel_rfl | rfl)
        (case c_Net__places => first | k_is | kernel_rfl | rfl)
        (case k_Net__places => first | k_is | kernel_rfl | rfl)
        (case i_Net__places => first | k_is | kernel_rfl | rfl)
        (case a_Net__roads => first | k_is | kernel_rfl | rfl)
        (case l_Net__roads => first | k_is | kernel_rfl | rfl)
        (case c_Net__roads => first | k_is | kernel_rfl | rfl)
        (case k_Net__roads => first | k_is | kernel_rfl | rfl)
        (case i_Net__roads => first | k_is | kernel_rfl | rfl)
        (case a_Net__exits => first | k_is | kernel_rfl | rfl)
        (case l_Net__exits => first | k_is | kernel_rfl | rfl)
        (case c_Net__exits => first | k_is | kernel_rfl | rfl)
        (case k_Net__exits => first | k_is | kernel_rfl | rfl)
        (case i_Net__exits => first | k_is | kernel_rfl | rfl)
        (case a_first_place => first | k_is | kernel_rfl | rfl)
        (case l_first_place => first | k_is | kernel_rfl | rfl)
        (case c_first_place => first | k_is | kernel_rfl | rfl)
        (case k_first_place => first | k_is | kernel_rfl | rfl)
        (case a_unlike_places => first | k_is | kernel_rfl | rfl)
        (case l_unlike_places => first | k_is | kernel_rfl | rfl)
        (case c_unlike_places => first | k_is | kernel_rfl | rfl)
        (case k_unlike_places => first | k_is | kernel_rfl | rfl)
        (case a_reached_places => first | k_is | kernel_rfl | rfl)
        (case l_reached_places => first | k_is | kernel_rfl | rfl)
        (case c_reached_places => first | k_is | kernel_rfl | rfl)
        (case k_reached_places => first | k_is | kernel_rfl | rfl)
        (case a_apart_places => first | k_is | kernel_rfl | rfl)
        (case l_apart_places => first | k_is | kernel_rfl | rfl)
        (case c_apart_places => first | k_is | kernel_rfl | rfl)
        (case k_apart_places => first | k_is | kernel_rfl | rfl)
        (case a_why => first | k_is | kernel_rfl | rfl)
        (case l_why => first | k_is | kernel_rfl | rfl)
        (case c_why => first | k_is | kernel_rfl | rfl)
        (case k_why => first | k_is | kernel_rfl | rfl)
        (case a_is_ring => first | k_is | kernel_rfl | rfl)
        (case l_is_ring => first | k_is | kernel_rfl | rfl)
        (case c_is_ring => first | k_is | kernel_rfl | rfl)
        (case k_is_ring => first | k_is | kernel_rfl | rfl)
        (case a_many_rings => first | k_is | kernel_rfl | rfl)
        (case l_many_rings => first | k_is | kernel_rfl | rfl)
        (case c_many_rings => first | k_is | kernel_rfl | rfl)
        (case k_many_rings => first | k_is | kernel_rfl | rfl)
        (case a_ring_at => first | k_is | kernel_rfl | rfl)
        (case l_ring_at => first | k_is | kernel_rfl | rfl)
        (case c_ring_at => first | k_is | kernel_rfl | rfl)
        (case k_ring_at => first | k_is | kernel_rfl | rfl)
        (case a_ring_number => first | k_is | kernel_rfl | rfl)
        (case l_ring_number => first | k_is | kernel_rfl | rfl)
        (case c_ring_number => first | k_is | kernel_rfl | rfl)
        (case k_ring_number => first | k_is | kernel_rfl | rfl)
        (case a_x_law_cell_at => first | k_is | kernel_rfl | rfl)
        (case l_x_law_cell_at => first | k_is | kernel_rfl | rfl)
        (case c_x_law_cell_at => first | k_is | kernel_rfl | rfl)
        (case k_x_law_cell_at => first | k_is | kernel_rfl | rfl)
        (case a_x_law_whole => first | k_is | kernel_rfl | rfl)
        (case l_x_law_whole => first | k_is | kernel_rfl | rfl)
        (case c_x_law_whole => first | k_is | kernel_rfl | rfl)
        (case k_x_law_whole => first | k_is | kernel_rfl | rfl)
        (case a_x_law_draw => first | k_is | kernel_rfl | rfl)
        (case l_x_law_draw => first | k_is | kernel_rfl | rfl)
        (case c_x_law_draw => first | k_is | kernel_rfl | rfl)
        (case k_x_law_draw => first | k_is | kernel_rfl | rfl)
        (case a_x_law_numbers => first | k_is | kernel_rfl | rfl)
        (case l_x_law_numbers => first | k_is | kernel_rfl | rfl)
        (case c_x_law_numbers => first | k_is | kernel_rfl | rfl)
        (case k_x_law_numbers => first | k_is | kernel_rfl | rfl)
        (case a_x_law_net => first | k_is | kernel_rfl | rfl)
        (case l_x_law_net => first | k_is | kernel_rfl | rfl)
        (case c_x_law_net => first | k_is | kernel_rfl | rfl)
        (case k_x_law_net => first | k_is | kernel_rfl | rfl)
        (case a_x_law_even => first | k_is | kernel_rfl | rfl)
        (case l_x_law_even => first | k_is | kernel_rfl | rfl)
        (case c_x_law_even => first | k_is | kernel_rfl | rfl)
        (case k_x_law_even => first | k_is | kernel_rfl | rfl)
        (case a_x_law_due => first | k_is | kernel_rfl | rfl)
        (case l_x_law_due => first | k_is | kernel_rfl | rfl)
        (case c_x_law_due => first | k_is | kernel_rfl | rfl)
        (case k_x_law_due => first | k_is | kernel_rfl | rfl)
        (case a_x_law_refused => first | k_is | kernel_rfl | rfl)
        (case l_x_law_refused => first | k_is | kernel_rfl | rfl)
        (case c_x_law_refused => first | k_is | kernel_rfl | rfl)
        (case k_x_law_refused => first | k_is | kernel_rfl | rfl)
        (case a_x_law_no_ring => first | k_is | kernel_rfl | rfl)
        (case l_x_law_no_ring => first | k_is | kernel_rfl | rfl)
        (case c_x_law_no_ring => first | k_is | kernel_rfl | rfl)
        (case k_x_law_no_ring => first | k_is | kernel_rfl | rfl)
        (case a_law => first | k_is | kernel_rfl | rfl)
        (case l_law => first | k_is | kernel_rfl | rfl)
        (case c_law => first | k_is | kernel_rfl | rfl)
        (case k_law => first | k_is | kernel_rfl | rfl)
        (case pg_Net => first | k_is | kernel_rfl | rfl)
        (case hd_Net => first | k_is | kernel_rfl | rfl)
        (case po_Net => first | k_is | kernel_rfl | rfl)
        (case sa_Net => first | k_is | kernel_rfl | rfl)
        (case mk_Net => first | k_is | kernel_rfl | rfl)
        (case kc_Net => first | k_is | kernel_rfl | rfl)
        (case na_Net_place_count => first | k_is | kernel_rfl | rfl)
        (case na_Net_road_pairs => first | k_is | kernel_rfl | rfl)
        (case m_MOST_PLACES => first | k_is | kernel_rfl | rfl)
        (case r_MOST_PLACES => first | exact ⟨_, rfl⟩ | rfl)
        (case m_MOST_ROADS => first | k_is | kernel_rfl | rfl)
        (case r_MOST_ROADS => first | exact ⟨_, rfl⟩ | rfl)
        (case n_len => first | k_is | kernel_rfl | rfl)
        (case n_range => first | k_is | kernel_rfl | rfl)
        (case n_all => first | k_is | kernel_rfl | rfl)
        (case n_enumerate => first | k_is | kernel_rfl | rfl)
        (case n_isinstance => first | k_is | kernel_rfl | rfl)
        (case n_list => first | k_is | kernel_rfl | rfl)
        (case n_int => first | k_is | kernel_rfl | rfl)
        (case n_bool => first | k_is | kernel_rfl | rfl)
        (case n_tuple => first | k_is | kernel_rfl | rfl)
        (case n_sorted => first | k_is | kernel_rfl | rfl)
        (case n_ValueError => first | k_is | kernel_rfl | rfl)
        (case e_NoNumber => first | k_is | kernel_rfl | rfl)
        (case el1_NoNumber => first | k_is | kernel_rfl | rfl)
        (case el2_NoNumber => first | k_is | kernel_rfl | rfl)
        (case el3_NoNumber => first | k_is | kernel_rfl | rfl)
        (case el4_NoNumber => first | k_is | kernel_rfl | rfl)
        (case el5_NoNumber => first | k_is | kernel_rfl | rfl)
        (case el6_NoNumber => first | k_is | kernel_rfl | rfl)
        (case el7_NoNumber => first | k_is | kernel_rfl | rfl)
        (case el8_NoNumber => first | k_is | kernel_rfl | rfl)
        (case e_NoRing => first | k_is | kernel_rfl | rfl)
        (case el1_NoRing => first | k_is | kernel_rfl | rfl)
        (case el2_NoRing => first | k_is | kernel_rfl | rfl)
        (case el3_NoRing => first | k_is | kernel_rfl | rfl)
        (case el4_NoRing => first | k_is | kernel_rfl | rfl)
        (case el5_NoRing => first | k_is | kernel_rfl | rfl)
        (case el6_NoRing => first | k_is | kernel_rfl | rfl)
        (case el7_NoRing => first | k_is | kernel_rfl | rfl)
        (case el8_NoRing => first | k_is | kernel_rfl | rfl)
        (case x_xn => first | k_is | kernel_rfl | rfl)
        (case x_xn1 => first | k_is | kernel_rfl | rfl)
        (case x_xn2 => first | k_is | kernel_rfl | rfl)
        (case x_xn3 => first | k_is | kernel_rfl | rfl)
        (case x_xr => first | k_is | kernel_rfl | rfl)
        (case x_xr1 => first | k_is | kernel_rfl | rfl)
        (case x_xr2 => first | k_is | kernel_rfl | rfl)
        (case x_xr3 => first | k_is | kernel_rfl | rfl)
      refine ⟨t, T, ?_⟩
      have z := e.symm.trans hmg
      injection z with z; injection z with z
    obtain ⟨t, T, e⟩ := T
    subst e
    obtain ⟨fd, hb, hF⟩ := Rb.law_fn T
    exact ⟨fd, hb, fun base kb nb => hF base⟩
#print axioms PySem.Challenge.cw_ringbook_k08_why_there_is_none_holds
