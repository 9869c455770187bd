import PyProof.Rows.All
import Wide.All
import OpenK.AllK
import Wide.FinOn
import Lean
import PyProof.EqAt
import PyProof.EqKinds
import PyProof.TupleCall
import PyProof.NeKinds
import PyProof.EnumMake
import PyProof.ConsumeWalk
import PyProof.StationsW
import KE.KTryMore
import PyProof.ExcArgsOwn
import KE.KIsAll
import PyProof.NsDelKeeps
import PyProof.Rows.FStr
import KE.IntBitsLaws
import PyProof.ZipIter
import PyProof.Rows.SumAny
import PyProof.ListRange
import PyProof.Rows.SortWalk
import PyProof.Rows.Range3
import PyProof.StrLawsTight
import KE.KIntText
import PySem.Challenge.RW_ringbook_k14_each_refusal_its_own
set_option Elab.async false
set_option linter.all false
set_option maxRecDepth 100000
namespace L2
open PySem PySem.Spec PyProof.Rows
abbrev Key := Sum Int Str
def keyIs : Key → Value → Bool
  | .inl k, v => Value.isInt k v
  | .inr x, v => Value.isStrOf x v
def keyH (w : World) : Key → Int
  | .inl k => hashInt k
  | .inr x => hashStr w x
theorem keyIs_shape : ∀ {k : Key} {v : Value}, keyIs k v = true → (∃ i t, k = Sum.inl i ∧ v = Value.int i t) ∨ (∃ x t, k = Sum.inr x ∧ v = Value.str x t)
  | .inl i, v, h => by
    obtain ⟨t, e⟩ := Value.isInt_shape (k := i) (v := v) h
    exact .inl ⟨i, t, rfl, e⟩
  | .inr x, v, h => by
    obtain ⟨t, e⟩ := Value.isStrOf_shape (x := x) (v := v) h
    exact .inr ⟨x, t, rfl, e⟩
theorem key_ll (a b : Int) : decide ((Sum.inl a : Key) = Sum.inl b) = (a == b) := by
  by_cases e : a = b
  · subst e; simp
  · have h : ¬ (Sum.inl a : Key) = Sum.inl b := fun q => e (Sum.inl.inj q)
    rw [decide_eq_false h]
    exact (beq_eq_false_iff_ne.mpr e).symm
theorem key_rr (a b : Str) : decide ((Sum.inr a : Key) = Sum.inr b) = decide (a = b) := by
  by_cases e : a = b
  · subst e; simp
  · have h : ¬ (Sum.inr a : Key) = Sum.inr b := fun q => e (Sum.inr.inj q)
    rw [decide_eq_false h, decide_eq_false e]
theorem key_lr (a : Int) (b : Str) : decide ((Sum.inl a : Key) = Sum.inr b) = false := decide_eq_false (fun q => nomatch q)
theorem key_rl (a : Str) (b : Int) : decide ((Sum.inr a : Key) = Sum.inl b) = false := decide_eq_false (fun q => nomatch q)
def mixKind (prog : Program) (w : World) : PySem.KeyKind prog w Key where
  is := keyIs
  hash := keyH w
  inj := fun v a b ha hb => by
    rcases keyIs_shape ha with ⟨i, t, rfl, rfl⟩ | ⟨x, t, rfl, rfl⟩
    · rcases keyIs_shape hb with ⟨j, u, rfl, e⟩ | ⟨y, u, rfl, e⟩
      · injection e with e1 _; rw [e1]
      · exact nomatch e
    · rcases keyIs_shape hb with ⟨j, u, rfl, e⟩ | ⟨y, u, rfl, e⟩
      · exact nomatch e
      · injection e with e1 _; rw [e1]
  byValue := fun k v h => by
    rcases keyIs_shape h with ⟨i, t, rfl, rfl⟩ | ⟨x, t, rfl, rfl⟩ <;> rfl
  pyHash := fun hv h => by
    rcases keyIs_shape hv with ⟨i, t, rfl, rfl⟩ | ⟨x, t, rfl, rfl⟩
    · exact wpAny_pyHash_int h
    · exact wpAny_pyHash_str h
  eqBool := fun hu hv h => by
    rcases keyIs_shape hu with ⟨i, t, rfl, rfl⟩ | ⟨x, t, rfl, rfl⟩
    · rcases keyIs_shape hv with ⟨j, u, rfl, rfl⟩ | ⟨y, u, rfl, rfl⟩
      · rw [key_ll] at h; exact wpAny_eqBool_int h
      · rw [key_lr] at h; exact SeqAt.EqAt.int_str i t y u _ _ _ _ h
    · rcases keyIs_shape hv with ⟨j, u, rfl, rfl⟩ | ⟨y, u, rfl, rfl⟩
      · rw [key_rl] at h; exact SeqAt.EqAt.str_int x t j u _ _ _ _ h
      · rw [key_rr] at h; exact wpAny_eqBool_str h
  «strs» := fun k x t v h => by
    rcases keyIs_shape h with ⟨i, u, rfl, e⟩ | ⟨y, u, rfl, e⟩
    · exact nomatch e
    · injection e with e1 _
      subst e1
      cases v <;> rfl
end L2
namespace L2
open PySem PySem.Spec PyProof.Rows
inductive V where
  | non | bl (b : Bool) | int (i : Int) | str (x : Str) | byt (b : Array UInt8) | flt (b : UInt64) | ref (a : Addr) | ty (n : String)
  deriving DecidableEq
def RelV : V → Value → Prop
  | .non, u => u = Value.none
  | .bl b, u => u = Value.bool b
  | .int i, u => ∃ t, u = Value.int i t
  | .str x, u => ∃ t, u = Value.str x t
  | .byt b, u => ∃ t, u = Value.bytes b t
  | .flt b, u => ∃ t, u = Value.float b t
  | .ref a, u => u = Value.ref a
  | .ty n, u => u = Value.type n
abbrev Vals : List V → List Value → Prop := Paired RelV
theorem Vals.length {xs : List V} {us : List Value} (r : Vals xs us) : xs.length = us.length := Paired.length r
theorem Vals.get : ∀ {xs : List V} {us : List Value} {i : Nat} {x : V}, Vals xs us → xs[i]? = some x → ∃ u, us[i]? = some u ∧ RelV x u
  | _, _, _, _, .nil, e => by simp at e
  | _, _, 0, _, .cons r _, e => by simp at e; subst e; exact ⟨_, rfl, r⟩
  | _, _, i + 1, x, .cons _ t, e => by
    obtain ⟨u, h1, h2⟩ := Vals.get (i := i) (x := x) t (by simpa using e)
    exact ⟨u, by simpa using h1, h2⟩
theorem Vals.set {x : V} {u : Value} (r : RelV x u) : ∀ {xs : List V} {us : List Value} (i : Nat), Vals xs us → Vals (xs.set i x) (us.set i u)
  | _, _, _, .nil => .nil
  | _, _, 0, .cons _ t => .cons r t
  | _, _, i + 1, .cons q t => .cons q (Vals.set r i t)
theorem Vals.append : ∀ {xs ys : List V} {us ws : List Value}, Vals xs us → Vals ys ws → Vals (xs ++ ys) (us ++ ws)
  | _, _, _, _, .nil, s => s
  | _, _, _, _, .cons r t, s => .cons r (Vals.append t s)
theorem Vals.take : ∀ {xs : List V} {us : List Value} (n : Nat), Vals xs us → Vals (xs.take n) (us.take n)
  | _, _, 0, _ => .nil
  | _, _, _ + 1, .nil => .nil
  | _, _, n + 1, .cons r t => .cons r (Vals.take n t)
theorem Vals.drop : ∀ {xs : List V} {us : List Value} (n : Nat), Vals xs us → Vals (xs.drop n) (us.drop n)
  | _, _, 0, r => r
  | _, _, _ + 1, .nil => .nil
  | _, _, n + 1, .cons _ t => Vals.drop n t
theorem Vals.none_of : ∀ {xs : List V} {us : List Value} {i : Nat}, Vals xs us → xs[i]? = none → us[i]? = none := fun {xs us i} r e => by
  have h1 := r.length
  have h2 : xs.length ≤ i := List.getElem?_eq_none_iff.mp e
  exact List.getElem?_eq_none_iff.mpr (by omega)
def RelO : Option V → Option Value → Prop
  | some v, some u => RelV v u
  | none, none => True
  | _, _ => False
def KV {κ : Type} : List (κ × V) → List (κ × Value) → Prop := Paired fun (p : κ × V) (q : κ × Value) => p.1 = q.1 ∧ RelV p.2 q.2
def kV : Key → V
  | .inl i => .int i
  | .inr x => .str x
inductive HO where
  | lst (xs : List V)
  | tup (xs : List V)
  | dK (kvs : List (Key × V)) | dT (kvs : List (List Key × V))
  | set (S : Int → Bool) (n : Nat)
  | ins (C dx : Addr) (fs : List (Str × V))
  | own (x : Addr)
  | xd (fs : List (Str × V))
  | met (f x : Addr)
  | rng (lo hi : Int)
  | frz (o : Obj) (u : HO)
  | tbl (ps : Array Value)
  | ext (φ : Heap → Prop)
abbrev Hp := Addr → Option HO
def upd (H : Hp) (a : Addr) (o : HO) : Hp := fun b => if b = a then some o else H b
theorem upd_same {H : Hp} {a : Addr} {o : HO} : upd H a o a = some o := by unfold upd; rw [if_pos rfl]
theorem upd_ne {H : Hp} {a b : Addr} {o : HO} (h : b ≠ a) : upd H a o b = H b := by unfold upd; rw [if_neg h]
theorem ne_of {H : Hp} {a b : Addr} {o u : HO} (h : H a = some o) (h' : H b = some u) (d : o ≠ u) : a ≠ b := by
  intro e; subst e; rw [h] at h'; exact d (Option.some.inj h')
theorem ne_of_none {H : Hp} {a b : Addr} {o : HO} (h : H a = some o) (h' : H b = none) : a ≠ b := by
  intro e; subst e; rw [h] at h'; cases h'
section
variable (P : Program) (w : World)
def ObjOk (H : Hp) (h : Heap) (a : Addr) : HO → Prop
  | .lst xs => xs.length ≤ sizeLine ∧ ∃ (its : List Value) (n : Nat), Vals xs its ∧ h.get? a = some { cls := .type "list", data := .seq its.toArray n }
  | .tup xs => xs.length ≤ sizeLine ∧ ∃ its : List Value, Vals xs its ∧ IsTup h a its.toArray
  | .dK kvs => kvs.length ≤ sizeLine ∧ (a == sysModules) = false ∧ ∃ vs, KV kvs vs ∧ h.DictOf (mixKind P w) a vs
  | .dT kvs => kvs.length ≤ sizeLine ∧ (a == sysModules) = false ∧ ∃ xs : List (List Key × Addr × Value),
      Paired (fun (p : List Key × V) (q : List Key × Addr × Value) => p.1 = q.1 ∧ H q.2.1 = some (.tup (p.1.map kV)) ∧ RelV p.2 q.2.2) kvs xs ∧
      ∃ o es ep, h.get? a = some o ∧ o.ExactDict ∧ o.data = .dict es ep ∧ es.toList = xs.map (entryOfKey (tupleKind (mixKind P w))) ∧ (xs.map (·.1)).Nodup
  | .set S n => h.SetOf (intKind P w) a S n
  | .ins C dx fs => H dx = some (.own a) ∧ fs.length ≤ 1000 ∧ dx ≠ a ∧ h.get? a = some (PySem.W.instObj C dx) ∧
      ∃ mA, h.Ns1 dx mA ∧ (∀ f, RelO (fs.lookup f) (mA f)) ∧ PySem.Within mA (fs.map (·.1))
  | .own _ => ∃ o, h.get? a = some o
  | .xd fs => ∃ mA, h.Ns1 a mA ∧ ∀ f, RelO (fs.lookup f) (mA f)
  | .rng lo hi => ∃ t u v, h.get? a = some { cls := .type "range", data := .fields #[.int lo t, .int hi u, .int 1 v] }
  | .frz o u => h.get? a = some o ∧ ObjOk H h a u
  | .tbl ps => h.get? a = some { cls := .none, data := .fields ps }
  | .met f x => h.get? a = some (PySem.W.methodObj (.ref f) (.ref x))
  | .ext φ => φ h ∧ (∃ o, h.get? a = some o) ∧ ∀ h1 h2 : Heap, φ h1 → (∀ o, h1.get? a = some o → h2.get? a = some o) → φ h2
def HOk (H : Hp) (h : Heap) : Prop := ∀ a o, H a = some o → ObjOk P w H h a o
end
section
variable {P : Program} {w : World} {H H' : Hp} {h h' : Heap} {a : Addr} {o : HO}
theorem ObjOk.lt (x : ObjOk P w H h a o) : a < h.objs.size := by
  cases o with
  | lst xs => obtain ⟨_, _, _, _, e⟩ := x; exact Heap.lt_size e
  | tup xs => obtain ⟨_, _, _, p⟩ := x; exact p.lt
  | dK kvs => obtain ⟨_, _, _, _, o, _, _, e, _⟩ := x; exact Heap.lt_size e
  | dT kvs => obtain ⟨_, _, _, _, o, _, _, e, _⟩ := x; exact Heap.lt_size e
  | set S n => obtain ⟨o, _, _, _, e, _⟩ := x; exact Heap.lt_size e
  | ins C dx fs => obtain ⟨_, _, _, e, _⟩ := x; exact Heap.lt_size e
  | own y => obtain ⟨_, e⟩ := x; exact Heap.lt_size e
  | xd fs => obtain ⟨_, ⟨_, _, _, e, _⟩, _⟩ := x; exact Heap.lt_size e
  | rng lo hi => obtain ⟨_, _, _, e⟩ := x; exact Heap.lt_size e
  | frz ob u => obtain ⟨e, _⟩ := x; exact Heap.lt_size e
  | tbl ps => exact Heap.lt_size (show h.get? a = some _ from x)
  | met f y => exact Heap.lt_size (show h.get? a = some _ from x)
  | ext φ => obtain ⟨_, ⟨_, e⟩, _⟩ := x; exact Heap.lt_size e
theorem Paired.mapP {α β : Type} {F G : α → β → Prop} : ∀ {l₁ : List α} {l₂ : List β}, Paired F l₁ l₂ → (∀ a b, F a b → G a b) → Paired G l₁ l₂
  | _, _, .nil, _ => .nil
  | _, _, .cons r t, f => .cons (f _ _ r) (Paired.mapP t f)
theorem ObjOk.stay (x : ObjOk P w H h a o) (k : ∀ b u, (b = a ∨ H b = some (.own a)) → h.get? b = some u → h'.get? b = some u)
    (ho : ∀ b, H b = some (.own a) → H' b = some (.own a)) (ht : ∀ b xs, H b = some (.tup xs) → H' b = some (.tup xs)) : ObjOk P w H' h' a o := by
  induction o with
  | lst xs => obtain ⟨z, its, n, r, e⟩ := x; exact ⟨z, its, n, r, k _ _ (.inl rfl) e⟩
  | tup xs => obtain ⟨z, its, r, ob, e, c⟩ := x; exact ⟨z, its, r, ob, k _ _ (.inl rfl) e, c⟩
  | dK kvs => obtain ⟨z, y, vs, r, ob, es, ep, e, c⟩ := x; exact ⟨z, y, vs, r, ob, es, ep, k _ _ (.inl rfl) e, c⟩
  | dT kvs =>
    obtain ⟨z, y, xs, r, ob, es, ep, e, c⟩ := x
    exact ⟨z, y, xs, Paired.mapP r fun p q z => ⟨z.1, ht _ _ z.2.1, z.2.2⟩, ob, es, ep, k _ _ (.inl rfl) e, c⟩
  | set S n => obtain ⟨ob, es, ep, t, e, c⟩ := x; exact ⟨ob, es, ep, t, k _ _ (.inl rfl) e, c⟩
  | ins C dx fs =>
    obtain ⟨d, z, ne, e, mA, ⟨od, es, ep, e2, c⟩, r⟩ := x
    exact ⟨ho _ d, z, ne, k _ _ (.inl rfl) e, mA, ⟨od, es, ep, k _ _ (.inr d) e2, c⟩, r⟩
  | own y => obtain ⟨ob, e⟩ := x; exact ⟨ob, k _ _ (.inl rfl) e⟩
  | xd fs => obtain ⟨mA, ⟨od, es, ep, e, c⟩, r⟩ := x; exact ⟨mA, ⟨od, es, ep, k _ _ (.inl rfl) e, c⟩, r⟩
  | rng lo hi => obtain ⟨t, u, v, e⟩ := x; exact ⟨t, u, v, k _ _ (.inl rfl) e⟩
  | frz ob u ih => obtain ⟨e, q⟩ := x; exact ⟨k _ _ (.inl rfl) e, ih q⟩
  | tbl ps =>
    have e : h.get? a = some { cls := .none, data := .fields ps } := x
    show h'.get? a = some { cls := .none, data := .fields ps }
    exact k a _ (.inl rfl) e
  | met f y =>
    have e : h.get? a = some (PySem.W.methodObj (.ref f) (.ref y)) := x
    show h'.get? a = some (PySem.W.methodObj (.ref f) (.ref y))
    exact k a _ (.inl rfl) e
  | ext φ => obtain ⟨p, ⟨o, e⟩, st⟩ := x; exact ⟨st _ _ p fun o q => k _ _ (.inl rfl) q, ⟨o, k _ _ (.inl rfl) e⟩, st⟩
theorem HOk.lt (x : HOk P w H h) (e : H a = some o) : a < h.objs.size := (x a o e).lt
theorem HOk.fresh (x : HOk P w H h) (e : h.objs.size ≤ a) : H a = none := by
  cases q : H a with
  | none => rfl
  | some u => exact absurd (Nat.lt_of_lt_of_le (x.lt q) e) (Nat.lt_irrefl _)
theorem HOk.kept (x : HOk P w H h) (k : ∀ b u, h.get? b = some u → h'.get? b = some u) : HOk P w H h' := fun a o e =>
  (x a o e).stay (fun b u _ q => k b u q) (fun _ q => q) fun _ _ q => q
theorem HOk.laid (x : HOk P w H h) (k : ∀ b u, h.get? b = some u → h'.get? b = some u) (hp : h.objs.size ≤ a) (new : ObjOk P w (upd H a o) h' a o) : HOk P w (upd H a o) h' := fun b u e => by
  have hn := x.fresh hp
  by_cases hb : b = a
  · subst hb; rw [upd_same] at e; cases e; exact new
  · rw [upd_ne hb] at e
    exact (x b u e).stay (fun c v _ q => k c v q) (fun c q => by rw [upd_ne (ne_of_none q hn)]; exact q) fun c xs q => by rw [upd_ne (ne_of_none q hn)]; exact q
end
def Rd (H : Hp) (a : Addr) (u : HO) : Prop := H a = some u ∨ ∃ o, H a = some (.frz o u)
theorem Rd.of {H : Hp} {a : Addr} {u : HO} (h : H a = some u) : Rd H a u := .inl h
theorem Rd.ok {P : Program} {w : World} {H : Hp} {h : Heap} {a : Addr} {u : HO} (r : Rd H a u) (x : HOk P w H h) : ObjOk P w H h a u := by
  rcases r with r | ⟨o, r⟩
  · exact x a u r
  · obtain ⟨_, q⟩ := x a _ r
    exact q
def Mut : Option HO → Prop
  | some (.lst _) => True
  | some (.dK _) => True
  | some (.dT _) => True
  | some (.set _ _) => True
  | some (.ins _ _ _) => True
  | some (.ext _) => True
  | _ => False
section
variable {P : Program} {w : World} {H : Hp} {h h' : Heap} {x e : Addr} {o' : HO}
theorem HOk.write (ok : HOk P w H h) (mu : Mut (H x)) (he : e = x ∨ H e = some (.own x)) (k : ∀ b u, b ≠ e → h.get? b = some u → h'.get? b = some u) (heo : ∃ u, h'.get? e = some u)
    (new : ObjOk P w (upd H x o') h' x o') : HOk P w (upd H x o') h' := fun b u q => by
  have nown : ∀ c y, H c = some (.own y) → c ≠ x := fun c y r z => by subst z; rw [r] at mu; exact mu
  have ntup : ∀ c xs, H c = some (.tup xs) → c ≠ x := fun c xs r z => by subst z; rw [r] at mu; exact mu
  by_cases hb : b = x
  · subst hb; rw [upd_same] at q; cases q; exact new
  · rw [upd_ne hb] at q
    by_cases hbe : b = e
    · have q' : H b = some (.own x) := by
        rcases he with z | z
        · exact absurd (hbe.trans z) hb
        · rw [hbe]; exact z
      rw [q] at q'; cases q'
      obtain ⟨v, hv⟩ := heo
      exact ⟨v, by rw [hbe]; exact hv⟩
    · refine (ok b u q).stay (fun c v hc r => k c v ?_ r) (fun c r => by rw [upd_ne (nown c b r)]; exact r) fun c xs r => by rw [upd_ne (ntup c xs r)]; exact r
      rcases hc with rfl | hc
      · exact hbe
      · rintro rfl
        rcases he with z | z
        · exact nown c b hc z
        · rw [hc] at z; cases z; exact hb rfl
end
structure Un (fs ex : List Addr) (H H' : Hp) (h h' : Heap) : Prop where
  keep : ∀ b o, h.get? b = some o → H b = none → b ∉ fs → b ∉ ex → h'.get? b = some o
  slot : ∀ b o, h.get? b = some o → H b = none → b ∈ fs → b ∉ ex → ∃ sl, h'.get? b = some { o with slots := sl }
  free : ∀ b o, h.get? b = some o → H b = none → b ∉ ex → H' b = none
  there : ∀ b o, h.get? b = some o → b ∉ ex → ∃ o', h'.get? b = some o'
  tups : ∀ b xs, H b = some (.tup xs) → H' b = some (.tup xs)
  frzs : ∀ b o u, H b = some (.frz o u) → H' b = some (.frz o u)
  tbls : ∀ b ps, H b = some (.tbl ps) → ∃ more, H' b = some (.tbl (ps ++ more))
section
variable {fs fs' ex ex' : List Addr} {H H1 H2 : Hp} {h h1 h2 h' : Heap} {a x e : Addr} {o : HO}
theorem Un.any (u : Un fs ex H H1 h h1) {b : Addr} {ob : Obj} (q : h.get? b = some ob) (n : H b = none) (hx : b ∉ ex) : ∃ sl, h1.get? b = some { ob with slots := sl } := by
  by_cases hb : b ∈ fs
  · exact u.slot b ob q n hb hx
  · exact ⟨ob.slots, u.keep b ob q n hb hx⟩
theorem Un.trans (a : Un fs ex H H1 h h1) (b : Un fs ex H1 H2 h1 h2) : Un fs ex H H2 h h2 where
  keep := fun c ob q n hc hx => b.keep c ob (a.keep c ob q n hc hx) (a.free c ob q n hx) hc hx
  slot := fun c ob q n hc hx => by
    obtain ⟨sl, e1⟩ := a.slot c ob q n hc hx
    obtain ⟨sl', e2⟩ := b.slot c _ e1 (a.free c ob q n hx) hc hx
    exact ⟨sl', e2⟩
  free := fun c ob q n hx => by
    obtain ⟨o', e1⟩ := a.there c ob q hx
    exact b.free c o' e1 (a.free c ob q n hx) hx
  there := fun c ob q hx => by
    obtain ⟨o', e1⟩ := a.there c ob q hx
    exact b.there c o' e1 hx
  tups := fun c xs q => b.tups c xs (a.tups c xs q)
  frzs := fun c ob xs q => b.frzs c ob xs (a.frzs c ob xs q)
  tbls := fun c ps q => by
    obtain ⟨m1, e1⟩ := a.tbls c ps q
    obtain ⟨m2, e2⟩ := b.tbls c _ e1
    exact ⟨m1 ++ m2, by rw [e2, Array.append_assoc]⟩
theorem Un.kept (k : ∀ b u, h.get? b = some u → h'.get? b = some u) : Un fs ex H H h h' :=
  ⟨fun b ob q _ _ _ => k b ob q, fun b ob q _ _ _ => ⟨ob.slots, k b ob q⟩, fun _ _ _ n _ => n, fun b ob q _ => ⟨ob, k b ob q⟩, fun _ _ q => q, fun _ _ _ q => q, fun _ ps q => ⟨#[], by rw [q]; simp⟩⟩
theorem Un.refl : Un fs ex H H h h := Un.kept fun _ _ q => q
theorem Un.laid (k : ∀ b u, h.get? b = some u → h'.get? b = some u) (hp : h.objs.size ≤ a) (hn : H a = none) : Un fs ex H (upd H a o) h h' where
  keep := fun b u q _ _ _ => k b u q
  slot := fun b u q _ _ _ => ⟨u.slots, k b u q⟩
  free := fun b u q n _ => by rw [upd_ne (Nat.ne_of_lt (Nat.lt_of_lt_of_le (Heap.lt_size q) hp))]; exact n
  there := fun b u q _ => ⟨u, k b u q⟩
  tups := fun b xs q => by rw [upd_ne (ne_of_none q hn)]; exact q
  frzs := fun b u xs q => by rw [upd_ne (ne_of_none q hn)]; exact q
  tbls := fun b ps q => ⟨#[], by rw [upd_ne (ne_of_none q hn), q]; simp⟩
theorem Un.write (mu : Mut (H x)) (he : e = x ∨ H e = some (.own x)) (k : ∀ b u, b ≠ e → h.get? b = some u → h'.get? b = some u) (heo : ∃ u, h'.get? e = some u) : Un fs ex H (upd H x o) h h' := by
  have hx : ∀ b, H b = none → b ≠ x := fun b n z => by subst z; rw [n] at mu; exact mu
  have hb : ∀ b, H b = none → b ≠ e := fun b n z => by
    subst z
    rcases he with r | r
    · exact hx b n r
    · rw [n] at r; cases r
  have hm : ∀ b u, H b = some u → ¬ Mut (some u) → b ≠ x := fun b u q nm z => by subst z; rw [q] at mu; exact nm mu
  refine ⟨fun b u q n _ _ => k b u (hb b n) q, fun b u q n _ _ => ⟨u.slots, k b u (hb b n) q⟩, fun b u q n _ => by rw [upd_ne (hx b n)]; exact n, fun b u q _ => ?_,
    fun b xs q => by rw [upd_ne (hm b _ q fun z => z)]; exact q, fun b u xs q => by rw [upd_ne (hm b _ q fun z => z)]; exact q, fun b ps q => ⟨#[], by rw [upd_ne (hm b _ q fun z => z), q]; simp⟩⟩
  by_cases hbe : b = e
  · subst hbe; exact heo
  · exact ⟨u, k b u hbe q⟩
theorem Un.mono (u : Un fs ex H H1 h h1) (hs : ∀ b ∈ fs, b ∈ fs') (hx : ∀ b ∈ ex, b ∈ ex') : Un fs' ex' H H1 h h1 :=
  ⟨fun b ob q n hb he => u.keep b ob q n (fun z => hb (hs b z)) fun z => he (hx b z), fun _ _ q n _ he => u.any q n fun z => he (hx _ z), fun b ob q n he => u.free b ob q n fun z => he (hx b z), fun b ob q he => u.there b ob q fun z => he (hx b z), u.tups, u.frzs, u.tbls⟩
end
def trk (h : Heap) (H : Hp) : List Addr := (List.range h.objs.size).filter fun a => (H a).isSome
def hidT (h : Heap) (H : Hp) : Heap := PySem.W.hideAll h (trk h H)
theorem hidT_size (h : Heap) (H : Hp) : (hidT h H).objs.size = h.objs.size := PySem.W.hideAll_size _ _
theorem hidT_get {h : Heap} {H : Hp} {b : Addr} {o : Obj} (e : h.get? b = some o) (n : H b = none) : (hidT h H).get? b = some o :=
  PySem.W.hideAll_get _ e fun hm => by
    have q : (H b).isSome = true := (List.mem_filter.mp hm).2
    rw [n] at q; simp at q
theorem of_hidT {h : Heap} {H : Hp} {b : Addr} {o : Obj} (e : (hidT h H).get? b = some o) : h.get? b = some o ∧ H b = none := by
  have e' : h.get? b = some o := PySem.W.of_hideAll (trk h H) e
  refine ⟨e', ?_⟩
  cases q : H b with
  | none => rfl
  | some x =>
    have hm : b ∈ trk h H := List.mem_filter.mpr ⟨List.mem_range.mpr (Heap.lt_size e'), by simp [q]⟩
    have z : (hidT h H).get? b = none := PySem.W.hideAll_none (trk h H) hm
    rw [z] at e; cases e
def allNews (g h : Heap) (L : Addr) : List (Addr × Obj) := (List.range h.objs.size).filterMap fun a => if a = L ∨ (g.get? a).isSome = true then none else (h.get? a).map fun o => (a, o)
def rest (g h : Heap) (L d : Addr) : List (Addr × Obj) := (allNews g h L).filter fun p => decide (p.1 ≠ d)
end L2
namespace L2
open PySem PySem.Spec PyProof.Rows
structure Mod (K : PySem.W.Frag) (mg : Str → Option Value) (base : Heap) : Prop where
  kin : K.In base
  glob : base.Ns mainGlobals mg
  blt : ∃ mb, base.Ns builtinsNs mb ∧ ∀ x : Str, x ≠ "__name__" → mb x = bootBuiltins x
  nolimit : base.NoLimit
structure Cx where
  prog : Program
  w : World
  K : PySem.W.Frag
  mg : Str → Option Value
  base : Heap
  A : Around
  N : List Str
  s₀ : Shared
  H₀ : Hp
  env : Env
  outer : List Env
  stack : List Env
  ex : List Addr
  fn : Str → Bool
  calm : Bool
  pn : List (Addr × Obj)
  xe : Value → Shared → Prop
def frs (l : List Env) : List Addr := l.filterMap (·.frame)
abbrev Cx.fs (X : Cx) : List Addr := frs X.outer
def Vis (sc : Scope) (x : Str) : Prop := sc.names.lookup x = some .local ∨ sc.names.lookup x = some .cell ∨ sc.names.lookup x = some .free
def Loc (sc : Scope) (x : Str) : Prop := sc.names.lookup x = some .local ∨ sc.names.lookup x = some .cell
def Look (env : Env) (h : Heap) (m : Str → Option Value) (x : Str) (u : Value) : Prop :=
  (env.kindOf x = some .local ∧ m x = some u) ∨ ((env.kindOf x = some .cell ∨ env.kindOf x = some .free) ∧ ∃ c, env.cells.lookup x = some c ∧ h.IsCell c (some u))
structure Cx.Ok (X : Cx) : Prop where
  mod : Mod X.K X.mg X.base
  kind : X.env.scope.kind = .function
  glob : X.env.globals = mainGlobals
  blt : X.env.builtins = builtinsNs
  above : X.s₀.heap.objs.size ≤ X.env.locals
  inj : ∀ x y c, X.env.cells.lookup x = some c → X.env.cells.lookup y = some c → x = y
  has : ∀ x, (X.env.kindOf x = some .cell ∨ X.env.kindOf x = some .free) → ∃ c, X.env.cells.lookup x = some c
  cab : ∀ x c, X.fn x = true → X.env.cells.lookup x = some c → X.s₀.heap.objs.size ≤ c
  hd : X.calm = true → X.A.handled = none
  frames : X.A.frames = some X.stack
  stk : X.stack = X.outer ∨ (X.stack = X.env :: X.outer ∧ X.env.frame = some X.env.locals)
  exf : ∀ b ∈ X.ex, b ≠ X.env.locals ∧ ∀ x c, X.env.cells.lookup x = some c → c ≠ b
  bs : ∀ b o, X.base.get? b = some o → X.s₀.heap.get? b = some o ∧ X.H₀ b = none
  bsz : X.base.objs.size ≤ X.s₀.heap.objs.size
  noex : ∀ b o, X.base.get? b = some o → b ∉ X.ex
  exfs : ∀ b ∈ X.ex, b ∉ X.fs
  funs : X.s₀.heap.FunFrames X.base X.outer
  frf : ∀ b ∈ X.fs, X.H₀ b = none
structure Inv (X : Cx) (pins : List (Addr × Obj)) (σ : List (Option V)) (H : Hp) (s : Shared) : Prop where
  ok : X.Ok
  os : s.os = X.s₀.os
  bare : AllBare s.gens
  base : Un X.fs X.ex X.H₀ H X.s₀.heap s.heap
  loc : ∃ m, s.heap.Ns X.env.locals m ∧ ∀ (i : Nat) (x : Str) (v : V), X.N[i]? = some x → σ[i]? = some (some v) → Vis X.env.scope x → ∃ u, RelV v u ∧ Look X.env s.heap m x u
  cell : ∀ x c, X.env.cells.lookup x = some c → ∃ v, s.heap.IsCell c v
  free : H X.env.locals = none
  freeC : ∀ x c, X.env.cells.lookup x = some c → H c = none
  pin : ∀ p ∈ X.pn ++ pins, s.heap.get? p.1 = some p.2 ∧ H p.1 = none ∧ p.1 ≠ X.env.locals ∧ p.1 ∉ X.fs ∧ ∀ v, p.2.data ≠ .cell v
  hok : HOk X.prog X.w H s.heap
  len : σ.length = X.N.length
section
variable {X : Cx} {pins : List (Addr × Obj)} {σ : List (Option V)} {H H' : Hp} {s : Shared} {h' : Heap}
theorem Cx.Ok.nofr (ok : X.Ok) {b : Addr} {o : Obj} (e : X.base.get? b = some o) : b ∉ X.fs := fun hb => by
  have := (ok.funs.mem hb).1
  rw [e] at this; cases this
theorem Inv.bs (I : Inv X pins σ H s) : ∀ b o, X.base.get? b = some o → s.heap.get? b = some o ∧ H b = none := fun b o e =>
  ⟨I.base.keep b o (I.ok.bs b o e).1 (I.ok.bs b o e).2 (I.ok.nofr e) (I.ok.noex b o e), I.base.free b o (I.ok.bs b o e).1 (I.ok.bs b o e).2 (I.ok.noex b o e)⟩
theorem Inv.bk (I : Inv X pins σ H s) : ∀ b o, X.base.get? b = some o → s.heap.get? b = some o := fun b o e => (I.bs b o e).1
theorem Inv.mod (I : Inv X pins σ H s) : Mod X.K X.mg X.base := I.ok.mod
theorem Inv.kIn (I : Inv X pins σ H s) : X.K.In s.heap := I.ok.mod.kin.keeps I.bk
theorem Inv.nolimit (I : Inv X pins σ H s) : s.heap.NoLimit := I.ok.mod.nolimit.keeps I.bk
theorem Inv.fr (I : Inv X pins σ H s) : ∃ m, Fr X.base X.env.locals s.heap m :=
  let ⟨m, hn, _⟩ := I.loc
  ⟨m, hn, I.bk, Nat.le_trans I.ok.bsz I.ok.above⟩
theorem Inv.lt (I : Inv X pins σ H s) : X.env.locals < s.heap.objs.size := let ⟨_, hn, _⟩ := I.loc; hn.lt
theorem Inv.sz (I : Inv X pins σ H s) : X.s₀.heap.objs.size ≤ s.heap.objs.size := Nat.le_trans I.ok.above (Nat.le_of_lt I.lt)
theorem Inv.nofs (I : Inv X pins σ H s) {a : Addr} (h : s.heap.objs.size ≤ a) : a ∉ X.fs := fun hb => by
  obtain ⟨_, o, ho, _⟩ := I.ok.funs.mem hb
  exact absurd (Nat.lt_of_lt_of_le (Heap.lt_size ho) (Nat.le_trans I.sz h)) (Nat.lt_irrefl _)
theorem Inv.cne (I : Inv X pins σ H s) : ∀ x c, X.env.cells.lookup x = some c → c ≠ X.env.locals := fun x c e z => by
  obtain ⟨v, o, ho, hd⟩ := I.cell x c e
  obtain ⟨m, ⟨o', es, ep, ho', hd', _⟩, _⟩ := I.loc
  rw [z, ho'] at ho; cases ho; rw [hd'] at hd; cases hd
theorem Inv.funs (I : Inv X pins σ H s) : s.heap.FunFrames X.base X.outer := by
  have all : ∀ (l : List Env), (∀ b ∈ frs l, b ∈ X.fs) → X.s₀.heap.FunFrames X.base l → s.heap.FunFrames X.base l := by
    intro l
    induction l with
    | nil => intro _ _; trivial
    | cons env r ih =>
      intro hs hl
      obtain ⟨hk, ⟨L, o, hf, hn, ho, hd⟩, hr⟩ := hl
      have hL : L ∈ X.fs := hs L (by unfold frs; rw [List.filterMap_cons, hf]; exact List.mem_cons_self)
      obtain ⟨sl, e⟩ := I.base.slot L o ho (I.ok.frf L hL) hL fun z => I.ok.exfs L z hL
      exact ⟨hk, ⟨L, _, hf, hn, e, hd⟩, ih (fun b hb => hs b (by unfold frs; rw [List.filterMap_cons, hf]; exact List.mem_cons_of_mem _ hb)) hr⟩
  exact all X.outer (fun _ hb => hb) I.ok.funs
theorem Inv.stack (I : Inv X pins σ H s) : s.heap.FunFrames X.base X.stack := by
  rcases I.ok.stk with e | ⟨e, hf⟩
  · rw [e]; exact I.funs
  · rw [e]
    obtain ⟨m, hn, _⟩ := I.loc
    refine .cons (by rw [I.ok.kind]; decide) hf hn ?_ I.funs
    exact Heap.get?_none_of_le (Nat.le_trans I.ok.bsz I.ok.above)
theorem Inv.stkSub (I : Inv X pins σ H s) : ∀ b ∈ frs X.stack, b ∈ X.env.locals :: X.fs := fun b hb => by
  rcases I.ok.stk with e | ⟨e, hf⟩
  · rw [e] at hb; exact List.mem_cons_of_mem _ hb
  · rw [e] at hb
    unfold frs at hb
    rw [List.filterMap_cons, hf] at hb
    exact hb
theorem Inv.stkFree (I : Inv X pins σ H s) : ∀ b ∈ frs X.stack, H b = none := fun b hb => by
  rcases List.mem_cons.mp (I.stkSub b hb) with e | hb
  · rw [e]; exact I.free
  · obtain ⟨_, o, ho, _⟩ := I.ok.funs.mem hb
    exact I.base.free b o ho (I.ok.frf b hb) fun z => I.ok.exfs b z hb
theorem Inv.step {g' : Array GenState} {t' : Nat} {d' : Drawn} {ch : List Addr} (I : Inv X pins σ H s)
    (hch : ∀ b ∈ ch, (b ∈ X.ex ∨ X.s₀.heap.objs.size ≤ b) ∧ b ≠ X.env.locals ∧ (∀ x c, X.env.cells.lookup x = some c → c ≠ b) ∧ ∀ p ∈ X.pn ++ pins, p.1 ≠ b)
    (keep : ∀ b o, b ≠ X.env.locals → b ∉ X.fs → b ∉ ch → s.heap.get? b = some o → H b = none → h'.get? b = some o)
    (slot : ∀ b o, b ≠ X.env.locals → b ∈ X.fs → b ∉ ch → s.heap.get? b = some o → H b = none → ∃ sl, h'.get? b = some { o with slots := sl }) (free : ∀ b o, b ∉ ch → s.heap.get? b = some o → H b = none → H' b = none)
    (there : ∀ b o, b ∉ ch → s.heap.get? b = some o → ∃ o', h'.get? b = some o')
    (tups : ∀ b xs, H b = some (.tup xs) → H' b = some (.tup xs)) (frzs : ∀ b o u, H b = some (.frz o u) → H' b = some (.frz o u)) (tbls : ∀ b ps, H b = some (.tbl ps) → ∃ more, H' b = some (.tbl (ps ++ more)))
    (ns : ∀ m, s.heap.Ns X.env.locals m → h'.Ns X.env.locals m) (hok : HOk X.prog X.w H' h') (hg : AllBare g') :
    Inv X pins σ H' { s with heap := h', gens := g', drawn := d', toks := t' } := by
  have neL : ∀ b o, X.s₀.heap.get? b = some o → b ≠ X.env.locals := fun b o e => Nat.ne_of_lt (Nat.lt_of_lt_of_le (Heap.lt_size e) I.ok.above)
  have neC : ∀ b o, X.s₀.heap.get? b = some o → b ∉ X.ex → b ∉ ch := fun b o e hx hb => by
    rcases (hch b hb).1 with z | z
    · exact hx z
    · exact absurd (Nat.lt_of_lt_of_le (Heap.lt_size e) z) (Nat.lt_irrefl _)
  have cellK : ∀ x c, X.env.cells.lookup x = some c → ∀ v, s.heap.IsCell c v → h'.IsCell c v := fun x c e v ⟨o, ho, hd⟩ => by
    have nch : c ∉ ch := fun z => (hch c z).2.2.1 x c e rfl
    by_cases hc : c ∈ X.fs
    · obtain ⟨sl, q⟩ := slot c o (I.cne x c e) hc nch ho (I.freeC x c e)
      exact ⟨_, q, hd⟩
    · exact ⟨o, keep c o (I.cne x c e) hc nch ho (I.freeC x c e), hd⟩
  refine ⟨I.ok, I.os, hg, ⟨fun b o e n hb hx => ?_, fun b o e n hb hx => ?_, fun b o e n hx => ?_, fun b o e hx => ?_, fun b xs e => tups b xs (I.base.tups b xs e), fun b o xs e => frzs b o xs (I.base.frzs b o xs e), fun b ps e => ?_⟩, ?_, fun x c e => ?_, ?_, fun x c e => ?_, fun p hp => ?_, hok, I.len⟩
  · exact keep b o (neL b o e) hb (neC b o e hx) (I.base.keep b o e n hb hx) (I.base.free b o e n hx)
  · obtain ⟨sl, e1⟩ := I.base.slot b o e n hb hx
    obtain ⟨sl', e2⟩ := slot b _ (neL b o e) hb (neC b o e hx) e1 (I.base.free b o e n hx)
    exact ⟨sl', e2⟩
  · obtain ⟨o', e1⟩ := I.base.there b o e hx
    exact free b o' (neC b o e hx) e1 (I.base.free b o e n hx)
  · obtain ⟨o', e1⟩ := I.base.there b o e hx
    exact there b o' (neC b o e hx) e1
  · obtain ⟨m1, e1⟩ := I.base.tbls b ps e
    obtain ⟨m2, e2⟩ := tbls b _ e1
    exact ⟨m1 ++ m2, by rw [e2, Array.append_assoc]⟩
  · obtain ⟨m, hn, hl⟩ := I.loc
    refine ⟨m, ns m hn, fun i x v e1 e2 e3 => ?_⟩
    obtain ⟨u, r, l⟩ := hl i x v e1 e2 e3
    refine ⟨u, r, ?_⟩
    rcases l with l | ⟨k, c, e, z⟩
    · exact .inl l
    · exact .inr ⟨k, c, e, cellK x c e _ z⟩
  · obtain ⟨v, z⟩ := I.cell x c e
    exact ⟨v, cellK x c e v z⟩
  · obtain ⟨m, ⟨o, _, _, ho, _⟩, _⟩ := I.loc
    exact free _ o (fun z => (hch _ z).2.1 rfl) ho I.free
  · obtain ⟨v, o, ho, hd⟩ := I.cell x c e
    exact free c o (fun z => (hch c z).2.2.1 x c e rfl) ho (I.freeC x c e)
  · obtain ⟨e, n, ne, nf, d⟩ := I.pin p hp
    have nch : p.1 ∉ ch := fun z => (hch p.1 z).2.2.2 p hp rfl
    exact ⟨keep p.1 p.2 ne nf nch e n, free p.1 p.2 nch e n, ne, nf, d⟩
theorem Inv.un {t' : Nat} (I : Inv X pins σ H s) (u : Un X.fs [] H H' s.heap h') (hok : HOk X.prog X.w H' h') : Inv X pins σ H' { s with heap := h', toks := t' } := by
  obtain ⟨m, ⟨o, es, ep, ho, r⟩, _⟩ := id I.loc
  obtain ⟨sl, hL⟩ := u.any ho I.free (by simp)
  exact I.step (g' := s.gens) (d' := s.drawn) (ch := []) (fun _ z => nomatch z) (fun b o _ hb _ e n => u.keep b o e n hb (by simp)) (fun b o _ hb _ e n => u.slot b o e n hb (by simp)) (fun b o _ e n => u.free b o e n (by simp)) (fun b o _ e => u.there b o e (by simp)) u.tups u.frzs u.tbls (fun m' hm => by
    obtain ⟨o', es', ep', ho', r'⟩ := hm
    rw [ho] at ho'; cases ho'
    exact ⟨_, es', ep', hL, r'⟩) hok I.bare
theorem Inv.call {g' : Array GenState} {t' : Nat} {d' : Drawn} {ch : List Addr} (I : Inv X pins σ H s) (u : Un (frs X.stack) ch H H' s.heap h') (hok : HOk X.prog X.w H' h') (hg : AllBare g')
    (hch : ∀ b ∈ ch, (b ∈ X.ex ∨ X.s₀.heap.objs.size ≤ b) ∧ b ≠ X.env.locals ∧ (∀ x c, X.env.cells.lookup x = some c → c ≠ b) ∧ ∀ p ∈ X.pn ++ pins, p.1 ≠ b) :
    Inv X pins σ H' { s with heap := h', gens := g', drawn := d', toks := t' } := by
  obtain ⟨m, ⟨o, es, ep, ho, r⟩, _⟩ := id I.loc
  obtain ⟨sl, hL⟩ := u.any ho I.free fun z => (hch _ z).2.1 rfl
  exact I.step (ch := ch) hch (fun b o hL hb hc e n => u.keep b o e n (fun z => (List.mem_cons.mp (I.stkSub b z)).elim hL hb) hc) (fun b o _ _ hc e n => u.any e n hc) (fun b o hc e n => u.free b o e n hc) (fun b o hc e => u.there b o e hc) u.tups u.frzs u.tbls (fun m' hm => by
    obtain ⟨o', es', ep', ho', r'⟩ := hm
    rw [ho] at ho'; cases ho'
    exact ⟨_, es', ep', hL, r'⟩) hok hg
theorem Inv.turned {t' : Nat} {it : Addr} (I : Inv X pins σ H s) (k : ∀ b o, b ≠ it → s.heap.get? b = some o → h'.get? b = some o) (hn : H it = none) (hL : it ≠ X.env.locals)
    (h1 : it ∈ X.ex ∨ X.s₀.heap.objs.size ≤ it) (h2 : ∀ x c, X.env.cells.lookup x = some c → c ≠ it) (h3 : ∀ p ∈ X.pn ++ pins, p.1 ≠ it) : Inv X pins σ H { s with heap := h', toks := t' } := by
  have nit : ∀ b u, H b = some u → b ≠ it := fun b u e z => by rw [z, hn] at e; cases e
  refine I.step (g' := s.gens) (d' := s.drawn) (ch := [it]) (fun b hb => ?_) (fun b o _ _ hc e _ => k b o (fun z => hc (by simp [z])) e) (fun b o _ _ hc e _ => ⟨o.slots, k b o (fun z => hc (by simp [z])) e⟩) (fun _ _ _ _ n => n)
    (fun b o hc e => ⟨o, k b o (fun z => hc (by simp [z])) e⟩) (fun _ _ e => e) (fun _ _ _ e => e) (fun b ps e => ⟨#[], by rw [e]; simp⟩) (fun m hm => ?_) (fun b u e => ?_) I.bare
  · have e : b = it := by simpa using hb
    subst e
    exact ⟨h1, hL, h2, h3⟩
  · obtain ⟨o, es, ep, ho, r⟩ := hm
    exact ⟨o, es, ep, k _ o (Ne.symm hL) ho, r⟩
  · refine (I.hok b u e).stay (fun c v hc q => k c v ?_ q) (fun _ q => q) fun _ _ q => q
    rcases hc with z | z
    · rw [z]; exact nit b u e
    · exact nit c _ z
theorem Inv.tok (I : Inv X pins σ H s) (t : Nat) : Inv X pins σ H { s with toks := t } := I.un (h' := s.heap) (t' := t) Un.refl I.hok
theorem Inv.kept {t' : Nat} (I : Inv X pins σ H s) (k : ∀ b u, s.heap.get? b = some u → h'.get? b = some u) : Inv X pins σ H { s with heap := h', toks := t' } := I.un (Un.kept k) (I.hok.kept k)
theorem Inv.laid {a : Addr} {o : HO} {t' : Nat} (I : Inv X pins σ H s) (k : ∀ b u, s.heap.get? b = some u → h'.get? b = some u) (hp : s.heap.objs.size ≤ a) (new : ObjOk X.prog X.w (upd H a o) h' a o) :
    Inv X pins σ (upd H a o) { s with heap := h', toks := t' } := I.un (Un.laid k hp (I.hok.fresh hp)) (I.hok.laid k hp new)
theorem Inv.write {x e : Addr} {o : HO} {t' : Nat} (I : Inv X pins σ H s) (mu : Mut (H x)) (he : e = x ∨ H e = some (.own x)) (k : ∀ b u, b ≠ e → s.heap.get? b = some u → h'.get? b = some u) (heo : ∃ u, h'.get? e = some u)
    (new : ObjOk X.prog X.w (upd H x o) h' x o) : Inv X pins σ (upd H x o) { s with heap := h', toks := t' } := I.un (Un.write mu he k heo) (I.hok.write mu he k heo new)
theorem Inv.pins_of {pins' : List (Addr × Obj)} (I : Inv X pins σ H s) (h : ∀ p ∈ pins', s.heap.get? p.1 = some p.2 ∧ H p.1 = none ∧ p.1 ≠ X.env.locals ∧ p.1 ∉ X.fs ∧ ∀ v, p.2.data ≠ .cell v) : Inv X pins' σ H s :=
  ⟨I.ok, I.os, I.bare, I.base, I.loc, I.cell, I.free, I.freeC, fun p hp => (List.mem_append.mp hp).elim (fun z => I.pin p (List.mem_append_left _ z)) (h p), I.hok, I.len⟩
theorem nodup_ix {N : List Str} (hN : N.Nodup) {i j : Nat} {x : Str} (a : N[i]? = some x) (b : N[j]? = some x) : i = j := by
  obtain ⟨h1, e1⟩ := List.getElem?_eq_some_iff.mp a
  obtain ⟨h2, e2⟩ := List.getElem?_eq_some_iff.mp b
  exact (List.getElem_inj hN).mp (e1.trans e2.symm)
theorem store_ok2 {M : Model} {A : Around} {E : Value → Shared → Prop} {i : Nat} {x : Str} {v : V} {u : Value} {Q : Unit → Shared → Prop} (I : Inv X pins σ H s) (hN : X.N.Nodup) (hi : X.N[i]? = some x) (hx : Loc X.env.scope x) (r : RelV v u)
    (h : ∀ s', Inv X pins (σ.set i (some v)) H s' → (∃ a, Heap.SameBut a s.heap s'.heap ∧ (a = X.env.locals ∨ X.env.cells.lookup x = some a)) → Q () s') (hf : X.fn x = true ∨ X.env.scope.names.lookup x = some .local := by first | exact .inl rfl | exact .inr rfl | assumption) : wpAny M A (storeName X.env x u) Q E s := by
  obtain ⟨m, hn, hl⟩ := id I.loc
  have hcls : (X.env.scope.kind == .class || (X.env.scope.kind == .module && X.env.locals != X.env.globals)) = false := by rw [I.ok.kind]; rfl
  have hiσ : i < σ.length := by rw [I.len]; exact (List.getElem?_eq_some_iff.mp hi).1
  have cne := I.cne
  have tracked : ∀ {a : Addr} {h' : Heap}, (∃ o, s.heap.get? a = some o ∧ H a = none) → Heap.SameBut a s.heap h' → HOk X.prog X.w H h' := fun {a h'} ha hs b ob e => by
    obtain ⟨_, _, hfree⟩ := ha
    refine (I.hok b ob e).stay (fun c w' hc q => (hs.2 c ?_).trans q) (fun _ q => q) fun _ _ q => q
    rintro rfl
    rcases hc with rfl | hc
    · rw [hfree] at e; cases e
    · rw [hfree] at hc; cases hc
  rcases hx with hk | hk
  · refine wpAny_storeName_local hk hn (fun h' hn' hs => ?_) hcls
    obtain ⟨oL, _, _, hoL, _⟩ := id hn
    refine h _ ⟨I.ok, I.os, I.bare, ⟨fun b o e n hb hx => ?_, fun b o e n hb hx => ?_, I.base.free, fun b o e hx => ?_, I.base.tups, I.base.frzs, I.base.tbls⟩, ⟨_, hn', fun j y v' e1 e2 e3 => ?_⟩, fun y c e => ?_, I.free, I.freeC, fun p hp => ?_, tracked ⟨oL, hoL, I.free⟩ hs, by simpa using I.len⟩ ⟨_, hs, .inl rfl⟩
    · exact (hs.2 b (Nat.ne_of_lt (Nat.lt_of_lt_of_le (Heap.lt_size e) I.ok.above))).trans (I.base.keep b o e n hb hx)
    · obtain ⟨sl, e1⟩ := I.base.slot b o e n hb hx
      exact ⟨sl, (hs.2 b (Nat.ne_of_lt (Nat.lt_of_lt_of_le (Heap.lt_size e) I.ok.above))).trans e1⟩
    · obtain ⟨o', e1⟩ := I.base.there b o e hx
      exact ⟨o', (hs.2 b (Nat.ne_of_lt (Nat.lt_of_lt_of_le (Heap.lt_size e) I.ok.above))).trans e1⟩
    · by_cases hj : j = i
      · subst hj
        rw [hi] at e1; cases e1
        rw [List.getElem?_set_self hiσ] at e2
        cases e2
        exact ⟨u, r, .inl ⟨hk, by simp⟩⟩
      · rw [List.getElem?_set_ne (Ne.symm hj)] at e2
        obtain ⟨u', r', q⟩ := hl j y v' e1 e2 e3
        refine ⟨u', r', ?_⟩
        rcases q with ⟨k, e⟩ | ⟨k, c, e, z⟩
        · refine .inl ⟨k, ?_⟩
          have : y ≠ x := fun e => hj (nodup_ix hN e1 (e ▸ hi))
          simp [this, e]
        · exact .inr ⟨k, c, e, z.sameBut hs (cne y c e)⟩
    · obtain ⟨w', z⟩ := I.cell y c e
      exact ⟨w', z.sameBut hs (cne y c e)⟩
    · obtain ⟨e, n, ne, nf, d⟩ := I.pin p hp
      exact ⟨(hs.2 p.1 ne).trans e, n, ne, nf, d⟩
  · have hfn : X.fn x = true := by
      rcases hf with z | z
      · exact z
      · rw [z] at hk; cases hk
    obtain ⟨c, hc⟩ := I.ok.has x (.inl hk)
    obtain ⟨w', z⟩ := I.cell x c hc
    refine wpAny_storeName_cell I.ok.kind hk hc z (fun h' hc' hs => ?_)
    obtain ⟨oc, hoc, hocd⟩ := id z
    refine h { s with heap := h' } ⟨I.ok, I.os, I.bare, ⟨fun b o e n hb hx => ?_, fun b o e n hb hx => ?_, I.base.free, fun b o e hx => ?_, I.base.tups, I.base.frzs, I.base.tbls⟩, ⟨m, hn.sameBut hs (Ne.symm (cne x c hc)), fun j y v' e1 e2 e3 => ?_⟩, fun y c' e => ?_, I.free, I.freeC, fun p hp => ?_, tracked ⟨oc, hoc, I.freeC x c hc⟩ hs, by simpa using I.len⟩ ⟨c, hs, .inr hc⟩
    · exact (hs.2 b (Nat.ne_of_lt (Nat.lt_of_lt_of_le (Heap.lt_size e) (I.ok.cab x c hfn hc)))).trans (I.base.keep b o e n hb hx)
    · obtain ⟨sl, e1⟩ := I.base.slot b o e n hb hx
      exact ⟨sl, (hs.2 b (Nat.ne_of_lt (Nat.lt_of_lt_of_le (Heap.lt_size e) (I.ok.cab x c hfn hc)))).trans e1⟩
    · obtain ⟨o', e1⟩ := I.base.there b o e hx
      exact ⟨o', (hs.2 b (Nat.ne_of_lt (Nat.lt_of_lt_of_le (Heap.lt_size e) (I.ok.cab x c hfn hc)))).trans e1⟩
    · by_cases hj : j = i
      · subst hj
        rw [hi] at e1; cases e1
        rw [List.getElem?_set_self hiσ] at e2
        cases e2
        exact ⟨u, r, .inr ⟨.inl hk, c, hc, hc'⟩⟩
      · rw [List.getElem?_set_ne (Ne.symm hj)] at e2
        obtain ⟨u', r', q⟩ := hl j y v' e1 e2 e3
        refine ⟨u', r', ?_⟩
        rcases q with q | ⟨k, c', e, z'⟩
        · exact .inl q
        · refine .inr ⟨k, c', e, z'.sameBut hs ?_⟩
          rintro rfl
          exact hj (nodup_ix hN e1 (I.ok.inj _ _ _ e hc ▸ hi))
    · by_cases hcc : c' = c
      · subst hcc; exact ⟨_, hc'⟩
      · obtain ⟨w2, z2⟩ := I.cell y c' e
        exact ⟨w2, z2.sameBut hs hcc⟩
    · obtain ⟨e, n, ne, nf, d⟩ := I.pin p hp
      refine ⟨(hs.2 p.1 ?_).trans e, n, ne, nf, d⟩
      intro q
      rw [q, hoc] at e
      have q' : oc = p.2 := Option.some.inj e
      exact d w' (by rw [← q']; exact hocd)
theorem store_ok {M : Model} {A : Around} {E : Value → Shared → Prop} {i : Nat} {x : Str} {v : V} {u : Value} {Q : Unit → Shared → Prop} (I : Inv X pins σ H s) (hN : X.N.Nodup) (hi : X.N[i]? = some x) (hx : Loc X.env.scope x) (r : RelV v u)
    (h : ∀ s', Inv X pins (σ.set i (some v)) H s' → Q () s') (hf : X.fn x = true ∨ X.env.scope.names.lookup x = some .local := by first | exact .inl rfl | exact .inr rfl | assumption) : wpAny M A (storeName X.env x u) Q E s :=
  store_ok2 I hN hi hx r (fun s' I' _ => h s' I') hf
theorem Inv.call' {s' : Shared} {ch : List Addr} (I : Inv X pins σ H s) (ho : s'.os = s.os) (u : Un (frs X.stack) ch H H' s.heap s'.heap) (hok : HOk X.prog X.w H' s'.heap) (hg : AllBare s'.gens)
    (hch : ∀ b ∈ ch, (b ∈ X.ex ∨ X.s₀.heap.objs.size ≤ b) ∧ b ≠ X.env.locals ∧ (∀ x c, X.env.cells.lookup x = some c → c ≠ b) ∧ ∀ p ∈ X.pn ++ pins, p.1 ≠ b) : Inv X pins σ H' s' := by
  obtain ⟨h', g', d', t', o'⟩ := s'
  have e : o' = s.os := ho
  subst e
  exact I.call (g' := g') (t' := t') (d' := d') u hok hg hch
end
abbrev XK := Value → Option Addr → Hp → Prop
abbrev St := List (Option V)
abbrev VK := V → Hp → Prop
abbrev TE := St → Hp → VK → Prop
abbrev TT := St → Hp → (Bool → Hp → Prop) → Prop
abbrev TA := St → Hp → (List V → Hp → Prop) → Prop
structure Ends where
  nx : St → Hp → Prop
  rt : VK
  bk : St → Hp → Prop := fun _ _ => False
  ct : St → Hp → Prop := fun _ _ => False
abbrev TS := Ends → St → Hp → Prop
def EP (X : Cx) (pins : List (Addr × Obj)) (σ : St) (Q : VK) (u : Value) (s' : Shared) : Prop := ∃ v H', Inv X pins σ H' s' ∧ RelV v u ∧ Q v H'
def TP (X : Cx) (pins : List (Addr × Obj)) (σ : St) (Q : Bool → Hp → Prop) (b : Bool) (s' : Shared) : Prop := ∃ H', Inv X pins σ H' s' ∧ Q b H'
def AP (X : Cx) (pins : List (Addr × Obj)) (σ : St) (Q : List V → Hp → Prop) (us : List Value) (s' : Shared) : Prop := ∃ vs H', Inv X pins σ H' s' ∧ Vals vs us ∧ Q vs H'
def SP (X : Cx) (pins : List (Addr × Obj)) (D : Ends) (f : Flow) (s' : Shared) : Prop :=
  match f with
  | .next => ∃ σ' H', Inv X pins σ' H' s' ∧ D.nx σ' H'
  | .brk => ∃ σ' H', Inv X pins σ' H' s' ∧ D.bk σ' H'
  | .cont => ∃ σ' H', Inv X pins σ' H' s' ∧ D.ct σ' H'
  | .ret u => ∃ v σ' H', Inv X pins σ' H' s' ∧ RelV v u ∧ D.rt v H'
def PE (X : Cx) (e : Expr) (t : TE) : Prop :=
  ∀ (pins : List (Addr × Obj)) (s : Shared) (σ : St) (H : Hp) (Q : VK), Inv X pins σ H s → t σ H Q → wpAny (model X.prog X.w) X.A (eval e X.env) (EP X pins σ Q) X.xe s
def PT (X : Cx) (e : Expr) (t : TT) : Prop :=
  ∀ (pins : List (Addr × Obj)) (s : Shared) (σ : St) (H : Hp) (Q : Bool → Hp → Prop), Inv X pins σ H s → t σ H Q → wpAny (model X.prog X.w) X.A (isTrue e X.env (eval e X.env)) (TP X pins σ Q) X.xe s
def PW (X : Cx) (e : Expr) (t : TT) : Prop :=
  ∀ (whole : Sem Value) (pins : List (Addr × Obj)) (s : Shared) (σ : St) (H : Hp) (Q : Bool → Hp → Prop), Inv X pins σ H s → t σ H Q → wpAny (model X.prog X.w) X.A (isTrue e X.env whole) (TP X pins σ Q) X.xe s
theorem PW.pt {X : Cx} {e : Expr} {t : TT} (h : PW X e t) : PT X e t := h _
def PA (X : Cx) (es : List Expr) (t : TA) : Prop :=
  ∀ (pos : Pos) (pins : List (Addr × Obj)) (s : Shared) (σ : St) (H : Hp) (Q : List V → Hp → Prop), Inv X pins σ H s → t σ H Q → wpAny (model X.prog X.w) X.A (spliced (backTo pos (starEach es X.env))) (AP X pins σ Q) X.xe s
def PS (X : Cx) (st : Stmt) (t : TS) : Prop :=
  ∀ (pins : List (Addr × Obj)) (s : Shared) (σ : St) (H : Hp) (D : Ends), Inv X pins σ H s → t D σ H → wpAny (model X.prog X.w) X.A (exec st X.env) (SP X pins D) X.xe s
def PSs (X : Cx) (st : List Stmt) (t : TS) : Prop :=
  ∀ (pins : List (Addr × Obj)) (s : Shared) (σ : St) (H : Hp) (D : Ends), Inv X pins σ H s → t D σ H → wpAny (model X.prog X.w) X.A (execs st X.env) (SP X pins D) X.xe s
theorem thn {α : Type} {t : Sem α} {Q Q' : α → Shared → Prop} {M : Model} {A : Around} {E : Value → Shared → Prop} {s : Shared} (h : wpAny M A t Q E s) (hQ : ∀ a s, Q a s → Q' a s) : wpAny M A t Q' E s := wpAny_mono h hQ fun _ _ x => x
end L2
namespace L2
open PySem PySem.Spec PyProof.Rows
section
variable {X : Cx}
def tVar (i : Nat) : TE := fun σ H Q => ∃ v, σ[i]? = some (some v) ∧ Q v H
def tC (v : V) : TE := fun _ H Q => Q v H
theorem pe_var {i : Nat} {x : Str} {pos : Pos} (hN : X.N[i]? = some x) (hv : Vis X.env.scope x) (hd : (x == ("__debug__" : Str)) = false := by decide) (hcd : (x == ("__classdict__" : Str)) = false := by decide) : PE X (.Name x pos) (tVar i) := by
  intro pins s σ H Q I h
  obtain ⟨v, e, h⟩ := h
  obtain ⟨m, hn, hl⟩ := I.loc
  obtain ⟨u, r, l⟩ := hl i x v hN e hv
  have fin : EP X pins σ Q u s := ⟨v, H, I, r, h⟩
  rcases l with ⟨hk, hm⟩ | ⟨hk, c, hc, hcell⟩
  · exact wpAny_Name (wpAny_loadName_local I.ok.kind hk hn hm fin) hd
  · rcases hk with hk | hk
    · exact wpAny_Name (wpAny_loadName_cell I.ok.kind hk hc hcell fin) hd
    · exact wpAny_Name (wpAny_loadName_free I.ok.kind hk hc hcell fin hcd) hd
theorem pe_int {i j pos} : PE X (.Constant (.int i) j pos) (tC (.int i)) := fun _ _ _ H _ I h => wpAny_Constant_int ⟨.int i, H, I.tok _, ⟨_, rfl⟩, h⟩
theorem pe_bl {b j pos} : PE X (.Constant (.bool b) j pos) (tC (.bl b)) := fun _ _ _ H _ I h => Constant_bool ⟨.bl b, H, I, rfl, h⟩
theorem pe_non {j pos} : PE X (.Constant .none j pos) (tC .non) := fun _ _ _ H _ I h => Constant_none ⟨.non, H, I, rfl, h⟩
theorem pe_str {x j pos} : PE X (.Constant (.str x) j pos) (tC (.str x)) := fun _ _ _ H _ I h => Calls.Constant_str ⟨.str x, H, I.tok _, ⟨_, rfl⟩, h⟩
def Gl (X : Cx) (x : Str) : Prop := X.env.kindOf x = some .globalImplicit
theorem ld_glob {E : Value → Shared → Prop} {pins : List (Addr × Obj)} {s : Shared} {σ : St} {H : Hp} {x : Str} {u : Value} {pos : Pos} {Q : Value → Shared → Prop} (I : Inv X pins σ H s) (hg : Gl X x) (hm : X.mg x = some u) (h : Q u s)
    (hd : (x == ("__debug__" : Str)) = false := by decide) : wpAny (model X.prog X.w) X.A (eval (.Name x pos) X.env) Q E s :=
  Calls.Name_function_global I.ok.kind hg (Calls.loadGlobal_global (by rw [I.ok.glob]; exact I.mod.glob.keeps I.bk) hm h) hd
theorem ld_blt {E : Value → Shared → Prop} {pins : List (Addr × Obj)} {s : Shared} {σ : St} {H : Hp} {x : Str} {u : Value} {pos : Pos} {Q : Value → Shared → Prop} (I : Inv X pins σ H s) (hg : Gl X x) (hm : X.mg x = none) (hv : bootBuiltins x = some u) (h : Q u s)
    (hn : x ≠ "__name__" := by decide) (hd : (x == ("__debug__" : Str)) = false := by decide) : wpAny (model X.prog X.w) X.A (eval (.Name x pos) X.env) Q E s := by
  obtain ⟨mb, h1, h2⟩ := I.mod.blt
  exact Calls.Name_function_global I.ok.kind hg (Calls.loadGlobal_builtin (by rw [I.ok.glob]; exact I.mod.glob.keeps I.bk) hm (by rw [I.ok.blt]; exact h1.keeps I.bk) ((h2 x hn).trans hv) h) hd
theorem pe_glob {x : Str} {v : V} {u : Value} {pos : Pos} (hg : Gl X x) (hm : X.mg x = some u) (r : RelV v u) (hd : (x == ("__debug__" : Str)) = false := by decide) : PE X (.Name x pos) (tC v) :=
  fun _ _ _ H _ I h => ld_glob I hg hm ⟨v, H, I, r, h⟩ hd
theorem pe_bltn {x : Str} {v : V} {u : Value} {pos : Pos} (hg : Gl X x) (hm : X.mg x = none) (hv : bootBuiltins x = some u) (r : RelV v u) (hn : x ≠ "__name__" := by decide) (hd : (x == ("__debug__" : Str)) = false := by decide) : PE X (.Name x pos) (tC v) :=
  fun _ _ _ H _ I h => ld_blt I hg hm hv ⟨v, H, I, r, h⟩ hn hd
variable {a b : Expr} {ta tb : TE} {pos : Pos}
def tB (t : TE) : TT := fun σ H Q => t σ H fun x H1 => ∃ c, x = .bl c ∧ Q c H1
theorem pt_val {e : Expr} {t : TE} (h : PE X e t) (he : ∀ whole, isTrue e X.env whole = (do let v ← whole; standAt e.pos; holding [v] (truthy v)) := by intro _; rfl) : PT X e (tB t) := by
  intro pins s σ H Q I hw
  refine isTrue_plain (thn (h pins s σ H _ I hw) fun v s1 ⟨x, H1, I1, r1, q1⟩ => ?_) (he _)
  obtain ⟨d, rfl, q⟩ := q1
  cases r1
  exact wpAny_truthy_bool ⟨H1, I1, q⟩
variable {tA tB' : TT} {rest : List Expr}
def tAnd (t u : TT) : TT := fun σ H Q => t σ H fun c H1 => if c = true then u σ H1 Q else Q false H1
def tOr (t u : TT) : TT := fun σ H Q => t σ H fun c H1 => if c = true then Q true H1 else u σ H1 Q
def tNot (t : TT) : TT := fun σ H Q => t σ H fun c H1 => Q (!c) H1
theorem pw_or1 (ha : PT X a tA) : PW X (.BoolOp .Or [a] pos) tA := by
  intro wh pins s σ H Q I h
  refine isTrue_or (thn (ha pins s σ H Q I h) fun c s1 e => ?_)
  cases c with
  | false => exact isTrue_or_nil e
  | true => exact e
theorem pw_or (ha : PT X a tA) (hb : PW X (.BoolOp .Or (b :: rest) pos) tB') : PW X (.BoolOp .Or (a :: b :: rest) pos) (tOr tA tB') := by
  intro wh pins s σ H Q I h
  refine isTrue_or (thn (ha pins s σ H _ I h) fun c s1 ⟨H1, I1, q1⟩ => ?_)
  cases c with
  | true => exact ⟨H1, I1, q1⟩
  | false => exact hb wh pins s1 σ H1 Q I1 q1
theorem pt_not (ha : PT X a tA) : PT X (.UnaryOp .Not a pos) (tNot tA) := by
  intro pins s σ H Q I h
  exact isTrue_not (ha pins s σ H (fun c H1 => Q (!c) H1) I h)
def tAndV (ta tb : TE) : TE := fun σ H Q => ta σ H fun x H1 => ∃ c, x = .bl c ∧ if c = true then tb σ H1 Q else Q (.bl false) H1
def tOrV (ta tb : TE) : TE := fun σ H Q => ta σ H fun x H1 => ∃ c, x = .bl c ∧ if c = true then Q (.bl true) H1 else tb σ H1 Q
def tNotV (ta : TE) : TE := fun σ H Q => ta σ H fun x H1 => ∃ c, x = .bl c ∧ Q (.bl (!c)) H1
theorem pe_one {op} {t : TE} (h : PE X a t) : PE X (.BoolOp op [a] pos) t := fun pins s σ H Q I hw => BoolOp_one (h pins s σ H Q I hw)
theorem pe_and (ha : PE X a ta) (hb : PE X (.BoolOp .And (b :: rest) pos) tb) : PE X (.BoolOp .And (a :: b :: rest) pos) (tAndV ta tb) := by
  intro pins s σ H Q I h
  refine BoolOp_and (thn (ha pins s σ H _ I h) fun v s1 ⟨x, H1, I1, r1, q1⟩ => ?_)
  obtain ⟨c, rfl, q1⟩ := q1
  cases r1
  refine wpAny_truthy_bool ?_
  cases c with
  | true => exact hb pins s1 σ H1 Q I1 q1
  | false => exact ⟨.bl false, H1, I1, rfl, q1⟩
theorem pe_or (ha : PE X a ta) (hb : PE X (.BoolOp .Or (b :: rest) pos) tb) : PE X (.BoolOp .Or (a :: b :: rest) pos) (tOrV ta tb) := by
  intro pins s σ H Q I h
  refine BoolOp_or (thn (ha pins s σ H _ I h) fun v s1 ⟨x, H1, I1, r1, q1⟩ => ?_)
  obtain ⟨c, rfl, q1⟩ := q1
  cases r1
  refine wpAny_truthy_bool ?_
  cases c with
  | false => exact hb pins s1 σ H1 Q I1 q1
  | true => exact ⟨.bl true, H1, I1, rfl, q1⟩
def tIf (t : TT) (ta tb : TE) : TE := fun σ H Q => t σ H fun c H1 => if c = true then ta σ H1 Q else tb σ H1 Q
theorem pe_ifExp {c : Expr} (hc : PT X c tA) (ha : PE X a ta) (hb : PE X b tb) : PE X (.IfExp c a b pos) (tIf tA ta tb) := by
  intro pins s σ H Q I h
  refine wpAny_IfExp (thn (hc pins s σ H _ I h) fun d s1 ⟨H1, I1, q1⟩ => ?_)
  cases d with
  | true => exact ha pins s1 σ H1 Q I1 q1
  | false => exact hb pins s1 σ H1 Q I1 q1
end
end L2
namespace L2
open PySem PySem.Spec PyProof.Rows
def SqL (K : PySem.W.Frag) (H : Hp) (a : Addr) (xs : List V) : Prop :=
  Rd H a (.lst xs) ∨
    ∃ (o : Obj) (its : Array Value) (n : Nat), K.lookup a = some o ∧ o.cls = .type "list" ∧ o.dict = none ∧ o.data = .seq its n ∧ its.size ≤ sizeLine ∧ Vals xs its.toList
def SqT (K : PySem.W.Frag) (H : Hp) (a : Addr) (xs : List V) : Prop :=
  Rd H a (.tup xs) ∨
    ∃ (o : Obj) (its : Array Value) (n : Nat), K.lookup a = some o ∧ o.cls = .type "tuple" ∧ o.data = .seq its n ∧ its.size ≤ sizeLine ∧ Vals xs its.toList
def absV : Value → Option V
  | .none => some .non
  | .bool b => some (.bl b)
  | .int i _ => some (.int i)
  | .str x _ => some (.str x)
  | .bytes b _ => some (.byt b)
  | .float b _ => some (.flt b)
  | .ref a => some (.ref a)
  | .type n => some (.ty n)
  | _ => none
theorem RelV.abs {x : V} {u : Value} (r : RelV x u) : absV u = some x := by
  cases x with
  | non => cases r; rfl
  | bl _ => cases r; rfl
  | int _ => obtain ⟨t, rfl⟩ := r; rfl
  | str _ => obtain ⟨t, rfl⟩ := r; rfl
  | byt _ => obtain ⟨t, rfl⟩ := r; rfl
  | flt _ => obtain ⟨t, rfl⟩ := r; rfl
  | ref _ => cases r; rfl
  | ty _ => cases r; rfl
theorem RelV.inj {x y : V} {u : Value} (r : RelV x u) (q : RelV y u) : x = y := Option.some.inj (r.abs.symm.trans q.abs)
theorem Vals.inj : ∀ {xs ys : List V} {us : List Value}, Vals xs us → Vals ys us → xs = ys
  | _, _, _, .nil, .nil => rfl
  | _, _, _, .cons r t, .cons r' t' => by rw [r.inj r', Vals.inj t t']
section
variable {X : Cx} {pins : List (Addr × Obj)} {σ : St} {H : Hp} {s : Shared} {a : Addr} {xs ys : List V}
theorem SqL.of {K : PySem.W.Frag} (h : H a = some (.lst xs)) : SqL K H a xs := .inl (.inl h)
theorem SqT.of {K : PySem.W.Frag} (h : H a = some (.tup xs)) : SqT K H a xs := .inl (.inl h)
theorem Inv.list (I : Inv X pins σ H s) (h : SqL X.K H a xs) : ∃ its : List Value, Vals xs its ∧ PlainL s.heap a its.toArray ∧ xs.length ≤ sizeLine := by
  rcases h with h | ⟨o, its, n, hk, hc, hd, hs, hz, r⟩
  · obtain ⟨z, its, n, r, e⟩ := h.ok I.hok
    exact ⟨its, r, ⟨_, n, e, rfl, rfl, rfl⟩, z⟩
  · refine ⟨its.toList, r, ⟨o, n, I.kIn a o hk, hc, hd, by simpa using hs⟩, ?_⟩
    have e := r.length
    simp only [Array.length_toList] at e
    omega
theorem Inv.tuple (I : Inv X pins σ H s) (h : SqT X.K H a xs) : ∃ its : List Value, Vals xs its ∧ IsTup s.heap a its.toArray ∧ xs.length ≤ sizeLine := by
  rcases h with h | ⟨o, its, n, hk, hc, hs, hz, r⟩
  · obtain ⟨z, its, r, p⟩ := h.ok I.hok
    exact ⟨its, r, p, z⟩
  · refine ⟨its.toList, r, ⟨o, I.kIn a o hk, hc, n, by simpa using hs⟩, ?_⟩
    have e := r.length
    simp only [Array.length_toList] at e
    omega
theorem Inv.list_inj (I : Inv X pins σ H s) (h : SqL X.K H a xs) (h' : SqL X.K H a ys) : xs = ys := by
  obtain ⟨its, r, ⟨o, n, e, _, _, d⟩, _⟩ := I.list h
  obtain ⟨its', r', ⟨o', n', e', _, _, d'⟩, _⟩ := I.list h'
  rw [e] at e'; cases e'
  rw [d] at d'
  injection d' with d1 _
  have : its = its' := by simpa using congrArg Array.toList d1
  subst this
  exact r.inj r'
end
abbrev Cx.wish (X : Cx) (E : Value → Shared → Prop) : Cx := { X with xe := E }
abbrev Cx.nox (X : Cx) : Cx := X.wish fun _ _ => False
theorem Cx.Ok.wish {X : Cx} (ok : X.Ok) (E : Value → Shared → Prop) : (X.wish E).Ok :=
  ⟨ok.mod, ok.kind, ok.glob, ok.blt, ok.above, ok.inj, ok.has, ok.cab, ok.hd, ok.frames, ok.stk, ok.exf, ok.bs, ok.bsz, ok.noex, ok.exfs, ok.funs, ok.frf⟩
theorem Cx.Ok.unwish {X : Cx} {E : Value → Shared → Prop} (ok : (X.wish E).Ok) : X.Ok :=
  ⟨ok.mod, ok.kind, ok.glob, ok.blt, ok.above, ok.inj, ok.has, ok.cab, ok.hd, ok.frames, ok.stk, ok.exf, ok.bs, ok.bsz, ok.noex, ok.exfs, ok.funs, ok.frf⟩
section
variable {X : Cx} {pins : List (Addr × Obj)} {σ : St} {H : Hp} {s : Shared} {E : Value → Shared → Prop}
theorem Inv.wish (I : Inv X pins σ H s) (E : Value → Shared → Prop) : Inv (X.wish E) pins σ H s := ⟨I.ok.wish E, I.os, I.bare, I.base, I.loc, I.cell, I.free, I.freeC, I.pin, I.hok, I.len⟩
theorem Inv.unwish (I : Inv (X.wish E) pins σ H s) : Inv X pins σ H s := ⟨I.ok.unwish, I.os, I.bare, I.base, I.loc, I.cell, I.free, I.freeC, I.pin, I.hok, I.len⟩
theorem SP.unwish {D : Ends} {f : Flow} {s' : Shared} (h : SP (X.wish E) pins D f s') : SP X pins D f s' := by
  cases f with
  | next => obtain ⟨σ', H', I, q⟩ := h; exact ⟨σ', H', I.unwish, q⟩
  | brk => obtain ⟨σ', H', I, q⟩ := h; exact ⟨σ', H', I.unwish, q⟩
  | cont => obtain ⟨σ', H', I, q⟩ := h; exact ⟨σ', H', I.unwish, q⟩
  | ret u => obtain ⟨v, σ', H', I, r, q⟩ := h; exact ⟨v, σ', H', I.unwish, r, q⟩
theorem PE.nox {e : Expr} {t : TE} (h : PE X.nox e t) : PE X e t := fun pins s σ H Q I hw =>
  wpAny_mono (h pins s σ H Q (I.wish _) hw) (fun _ _ ⟨v, H', I', r, q⟩ => ⟨v, H', I'.unwish, r, q⟩) fun _ _ z => False.elim z
theorem PT.nox {e : Expr} {t : TT} (h : PT X.nox e t) : PT X e t := fun pins s σ H Q I hw =>
  wpAny_mono (h pins s σ H Q (I.wish _) hw) (fun _ _ ⟨H', I', q⟩ => ⟨H', I'.unwish, q⟩) fun _ _ z => False.elim z
theorem PSs.nox {st : List Stmt} {t : TS} (h : PSs X.nox st t) : PSs X st t := fun pins s σ H D I hw =>
  wpAny_mono (h pins s σ H D (I.wish _) hw) (fun _ _ q => q.unwish) fun _ _ z => False.elim z
end
section
variable {X : Cx} {st : Stmt} {rest : List Stmt} {t u : TS} {e : Expr} {te : TE} {pos : Pos}
def tNext : TS := fun D σ H => D.nx σ H
def tSeq (t u : TS) : TS := fun D σ H => t { D with nx := u D } σ H
theorem pss_nil : PSs X [] tNext := fun _ _ σ H _ I h => wpAny_execs_nil ⟨σ, H, I, h⟩
theorem pss_cons (h1 : PS X st t) (h2 : PSs X rest u) : PSs X (st :: rest) (tSeq t u) := by
  intro pins s σ H D I h
  refine wpAny_execs_cons (thn (h1 pins s σ H { D with nx := u D } I h) fun f s1 q => ?_)
  cases f with
  | next =>
    obtain ⟨σ', H', I', q⟩ := q
    exact h2 pins s1 σ' H' D I' q
  | ret v => exact q
  | brk => exact q
  | cont => exact q
theorem pss_one (h1 : PS X st t) : PSs X [st] t := by
  intro pins s σ H D I h
  refine wpAny_execs_cons (thn (h1 pins s σ H D I h) fun f s1 q => ?_)
  cases f with
  | next => exact wpAny_execs_nil q
  | ret v => exact q
  | brk => exact q
  | cont => exact q
def tBreak : TS := fun D σ H => D.bk σ H
def tCont : TS := fun D σ H => D.ct σ H
theorem Inv.quiet {pins : List (Addr × Obj)} {σ : St} {H : Hp} {s : Shared} (I : Inv X pins σ H s) : interactive X.env = false := by simp [interactive, I.ok.kind]
def tDrop (te : TE) : TS := fun D σ H => te σ H fun _ H1 => D.nx σ H1
theorem ps_expr (he : PE X e te) (hs : swapsWith e none pos.line X.env = pure false := by rfl) : PS X (.Expr e pos) (tDrop te) := by
  intro pins s σ H D I h
  exact wpAny_Expr_any (thn (he pins s σ H _ I h) fun v s1 ⟨x, H1, I1, r1, q1⟩ => ⟨σ, H1, I1, q1⟩) I.quiet hs
def tRet (te : TE) : TS := fun D σ H => te σ H D.rt
theorem ps_ret (he : PE X e te) : PS X (.Return (some e) pos) (tRet te) := by
  intro pins s σ H D I h
  exact wpAny_Return_some (thn (he pins s σ H _ I h) fun v s1 ⟨x, H1, I1, r1, q1⟩ => ⟨x, σ, H1, I1, r1, q1⟩)
def tRetN : TS := fun D _ H => D.rt .non H
def tIfS (c : TT) (t u : TS) : TS := fun D σ H => c σ H fun b H1 => if b = true then t D σ H1 else u D σ H1
theorem ps_if {c : Expr} {a b : List Stmt} {tc : TT} (hc : PT X c tc) (ha : PSs X a t) (hb : PSs X b u) : PS X (.If c a b pos) (tIfS tc t u) := by
  intro pins s σ H D I h
  refine wpAny_If (thn (hc pins s σ H _ I h) fun d s1 ⟨H1, I1, q1⟩ => ?_)
  cases d with
  | true => exact ha pins s1 σ H1 D I1 q1
  | false => exact hb pins s1 σ H1 D I1 q1
def tNever : TS := fun _ _ _ => False
theorem ps_never : PS X st tNever := fun _ _ _ _ _ _ h => h.elim
end
abbrev TG := V → St → Hp → (St → Hp → Prop) → Prop
abbrev TGs := List V → St → Hp → (St → Hp → Prop) → Prop
def PG (X : Cx) (target : Expr) (t : TG) : Prop :=
  ∀ (pins : List (Addr × Obj)) (s : Shared) (σ : St) (H : Hp) (v : V) (u : Value) (Q : St → Hp → Prop), Inv X pins σ H s → RelV v u → t v σ H Q →
    wpAny (model X.prog X.w) X.A (assign target X.env u) (fun _ s' => ∃ σ' H', Inv X pins σ' H' s' ∧ Q σ' H') X.xe s
def PGs (X : Cx) (ts : List Expr) (t : TGs) : Prop :=
  ∀ (pins : List (Addr × Obj)) (s : Shared) (σ : St) (H : Hp) (vs : List V) (us : List Value) (Q : St → Hp → Prop), Inv X pins σ H s → Vals vs us → t vs σ H Q →
    wpAny (model X.prog X.w) X.A (assignInOrder ((assignEach ts X.env).map (·.2)) us) (fun _ s' => ∃ σ' H', Inv X pins σ' H' s' ∧ Q σ' H') X.xe s
abbrev TIp := V → V → Hp → VK → Prop
def PIp (X : Cx) (op : Operator) (t : TIp) : Prop :=
  ∀ (pins : List (Addr × Obj)) (s : Shared) (σ : St) (H : Hp) (x y : V) (v u : Value) (Q : VK), Inv X pins σ H s → RelV x v → RelV y u → t x y H Q →
    wpAny (model X.prog X.w) X.A (inplaceOp op v u) (EP X pins σ Q) X.xe s
section
variable {X : Cx} {pos : Pos}
def gName (i : Nat) : TG := fun v σ H Q => Q (σ.set i (some v)) H
theorem pg_name {i : Nat} {x : Str} (hN : X.N.Nodup) (hi : X.N[i]? = some x) (hx : Loc X.env.scope x) (hf : X.fn x = true ∨ X.env.scope.names.lookup x = some .local := by first | exact .inl rfl | exact .inr rfl | assumption) : PG X (.Name x pos) (gName i) := by
  intro pins s σ H v u Q I r h
  exact wpAny_assign_Name (store_ok I hN hi hx r (fun s' I' => ⟨_, H, I', h⟩) hf)
def gNil : TGs := fun vs σ H Q => vs = [] ∧ Q σ H
def gCons (t : TG) (u : TGs) : TGs := fun vs σ H Q => ∃ v r, vs = v :: r ∧ t v σ H fun σ' H' => u r σ' H' Q
theorem pgs_nil : PGs X [] gNil := by
  intro pins s σ H vs us Q I r h
  obtain ⟨e, h⟩ := h
  subst e
  cases r
  exact assignInOrder_nil ⟨σ, H, I, h⟩
theorem pgs_cons {e : Expr} {es : List Expr} {t : TG} {u : TGs} (h1 : PG X e t) (h2 : PGs X es u)
    (hs : (assignEach (e :: es) X.env).map (·.2) = assign e X.env :: (assignEach es X.env).map (·.2) := by rfl) : PGs X (e :: es) (gCons t u) := by
  intro pins s σ H vs us Q I r h
  obtain ⟨v, vr, e1, h⟩ := h
  subst e1
  cases r with
  | cons r rr =>
    rw [hs]
    refine assignInOrder_cons (thn (h1 pins s σ H _ _ _ I r h) fun _ s1 ⟨σ1, H1, I1, q1⟩ => ?_)
    exact h2 pins s1 σ1 H1 _ _ Q I1 rr q1
def gTup (K : PySem.W.Frag) (n : Nat) (t : TGs) : TG := fun v σ H Q => ∃ a xs, v = .ref a ∧ SqT K H a xs ∧ xs.length = n ∧ t xs σ H Q
theorem pg_tup {es : List Expr} {k : Nat} {t : TGs} {n : Nat} (hc : X.calm = true) (h : PGs X es t)
    (hn : (assignEach es X.env).length = n := by rfl) (hst : (assignEach es X.env).findIdx? (·.1) = none := by rfl) : PG X (.Tuple es k pos) (gTup X.K n t) := by
  intro pins s σ H v u Q I r hw
  obtain ⟨a, xs, e1, hq, hl, hw⟩ := hw
  subst e1
  cases r
  obtain ⟨its, rv, ht, hz⟩ := I.tuple hq
  refine assign_Tuple_tuple (I.ok.hd hc) ht (by simp [hn, ← hl, rv.length]) hst fun h' hx => ?_
  have I1 : Inv X pins σ H { s with heap := h' } := I.kept (t' := s.toks) fun b o e => hx b o (Nat.ne_of_lt (Heap.lt_size e)) e
  exact h pins _ σ H xs _ Q I1 (by simpa using rv) hw
def tAsg (te : TE) (g : TG) : TS := fun D σ H => te σ H fun x H1 => g x σ H1 D.nx
theorem ps_set {i : Nat} {x : Str} {e : Expr} {te : TE} {pos' : Pos} (hN : X.N.Nodup) (hi : X.N[i]? = some x) (hx : Loc X.env.scope x) (he : PE X e te) (hs : swapsWith e (some (.Name x pos')) pos.line X.env = pure false := by rfl) (hf : X.fn x = true ∨ X.env.scope.names.lookup x = some .local := by first | exact .inl rfl | exact .inr rfl | assumption) :
    PS X (.Assign [.Name x pos'] e pos) (tAsg te (gName i)) := by
  intro pins s σ H D I h
  refine wpAny_Assign_Name (thn (he pins s σ H _ I h) fun v s1 ⟨y, H1, I1, r1, q1⟩ => ?_) hs
  exact store_ok I1 hN hi hx r1 (fun s2 I2 => ⟨_, H1, I2, q1⟩) hf
def tAug (i : Nat) (te : TE) (ti : TIp) : TS := fun D σ H => ∃ x, σ[i]? = some (some x) ∧ te σ H fun y H1 => ti x y H1 fun z H2 => D.nx (σ.set i (some z)) H2
theorem ps_aug {i : Nat} {x : Str} {e : Expr} {te : TE} {op : Operator} {ti : TIp} {pos' : Pos} (hN : X.N.Nodup) (hi : X.N[i]? = some x) (hx : Loc X.env.scope x) (he : PE X e te) (ho : PIp X op ti) (hf : X.fn x = true ∨ X.env.scope.names.lookup x = some .local := by first | exact .inl rfl | exact .inr rfl | assumption) :
    PS X (.AugAssign (.Name x pos') op e pos) (tAug i te ti) := by
  intro pins s σ H D I h
  obtain ⟨v, e1, h⟩ := h
  obtain ⟨m, hn, hl⟩ := I.loc
  have vis : Vis X.env.scope x := by rcases hx with k | k; exact .inl k; exact .inr (.inl k)
  obtain ⟨u, r, l⟩ := hl i x v hi e1 vis
  refine wpAny_AugAssign_Name ?_
  have go : wpAny (model X.prog X.w) X.A (eval e X.env) (fun w s₂ => wpAny (model X.prog X.w) X.A (inplaceOp op u w) (fun r s₃ => wpAny (model X.prog X.w) X.A (storeName X.env x r) (fun _ => SP X pins D .next) X.xe s₃) X.xe s₂) X.xe s := by
    refine thn (he pins s σ H _ I h) fun w s1 ⟨y, H1, I1, r1, q1⟩ => ?_
    refine thn (ho pins s1 σ H1 v y u w _ I1 r r1 q1) fun z s2 ⟨zv, H2, I2, r2, q2⟩ => ?_
    exact store_ok I2 hN hi hx r2 (fun s3 I3 => ⟨_, H2, I3, q2⟩) hf
  rcases l with ⟨hk, hm⟩ | ⟨hk, c, hc, hcell⟩
  · exact wpAny_loadName_local I.ok.kind hk hn hm go
  · rcases hk with hk | hk
    · exact wpAny_loadName_cell I.ok.kind hk hc hcell go
    · rcases hx with k | k
      · have : X.env.scope.names.lookup x = some .free := hk
        rw [k] at this; cases this
      · have : X.env.scope.names.lookup x = some .free := hk
        rw [k] at this; cases this
end
section
variable {X : Cx} {pos : Pos}
def tWhile (c : TT) (tb : TS) : TS := fun D σ H => ∃ W : Nat → St → Hp → Prop, (∃ m, W m σ H) ∧ ∀ m σ H, W m σ H →
  c σ H fun b H1 => if b = true then ∃ N : St → Hp → Prop, (∀ σ' H', N σ' H' → ∃ m', m' < m ∧ W m' σ' H') ∧ tb { D with nx := N, ct := N, bk := D.nx } σ H1 else D.nx σ H1
theorem ps_while {c : Expr} {body : List Stmt} {tc : TT} {tb : TS} (hp : PassesOwn (model X.prog X.w) X.A X.env X.xe) (hc : PT X c tc) (hb : PSs X body tb) : PS X (.While c body [] pos) (tWhile tc tb) := by
  intro pins s σ H D I h
  obtain ⟨W, ⟨m0, w0⟩, turn⟩ := h
  refine wpAny_While (codeAny_whileLoop (fun n s' => ∃ σ' H', Inv X pins σ' H' s' ∧ W n σ' H') ?_ m0 ⟨σ, H, I, w0⟩)
  rintro n s1 ⟨σ1, H1, I1, w1⟩
  refine wpAny_passesOwn hp (thn (hc pins s1 σ1 H1 _ I1 (turn n σ1 H1 w1)) fun b s2 ⟨H2, I2, q2⟩ => ?_)
  cases b with
  | true =>
    obtain ⟨N, hN, q2⟩ := q2
    rw [if_pos rfl]
    refine wpAny_passesOwn hp (thn (hb pins s2 σ1 H2 _ I2 q2) fun f s3 q3 => ?_)
    cases f with
    | next =>
      obtain ⟨σ3, H3, I3, n3⟩ := q3
      obtain ⟨m', hm, w3⟩ := hN σ3 H3 n3
      exact ⟨m', hm, σ3, H3, I3, w3⟩
    | cont =>
      obtain ⟨σ3, H3, I3, n3⟩ := q3
      obtain ⟨m', hm, w3⟩ := hN σ3 H3 n3
      exact ⟨m', hm, σ3, H3, I3, w3⟩
    | brk => exact q3
    | ret v => exact q3
  | false =>
    rw [if_neg Bool.false_ne_true]
    exact wpAny_execs_nil ⟨σ1, H2, I2, q2⟩
end
structure It where
  go : Nat → Hp → Prop
  yld : Nat → Hp → V → Hp → Prop
  stop : Nat → Hp → Prop
def FpOk (X : Cx) (pins : List (Addr × Obj)) (H : Hp) (b : Addr) : Prop :=
  H b = none ∧ b ≠ X.env.locals ∧ b ∉ X.fs ∧ (b ∈ X.ex ∨ X.s₀.heap.objs.size ≤ b) ∧ (∀ x c, X.env.cells.lookup x = some c → c ≠ b) ∧ ∀ p ∈ X.pn ++ pins, p.1 ≠ b
theorem Inv.fpOk {X : Cx} {pins : List (Addr × Obj)} {σ : St} {H H' : Hp} {s : Shared} {b : Addr} (I : Inv X pins σ H s) (hb : s.heap.objs.size ≤ b) (hn : H' b = none) : FpOk X pins H' b := by
  refine ⟨hn, Nat.ne_of_gt (Nat.lt_of_lt_of_le I.lt hb), I.nofs hb, .inr (Nat.le_trans I.sz hb), fun x c e z => ?_, fun p hp z => ?_⟩
  · obtain ⟨v, q⟩ := I.cell x c e
    exact absurd (Nat.lt_of_lt_of_le q.lt (by rw [z]; exact hb)) (Nat.lt_irrefl _)
  · exact absurd (Nat.lt_of_lt_of_le (Heap.lt_size (I.pin p hp).1) (by rw [z]; exact hb)) (Nat.lt_irrefl _)
structure Turn (P : Program) (w : World) (K : PySem.W.Frag) (tg : Expr) (J : It) (fp : List Addr) (it : Addr) (tn : Nat → Heap → Prop) : Prop where
  mem : it ∈ fp
  obj : ∀ i h, tn i h → ∀ b ∈ fp, ∃ o, h.get? b = some o ∧ ∀ v, o.data ≠ .cell v
  keep : ∀ i h h', tn i h → (∀ b ∈ fp, ∀ o, h.get? b = some o → h'.get? b = some o) → tn i h'
  item : ∀ (X : Cx), X.prog = P → X.w = w → X.K = K → X.calm = true → ∀ (i : Nat) (pins : List (Addr × Obj)) (s : Shared) (σ : St) (H : Hp) (E : Value → Shared → Prop), Inv X pins σ H s → (∀ b ∈ fp, FpOk X pins H b) → tn i s.heap → J.go i H →
    wpAny (model P w) X.A (pyNext (.ref it)) (fun r s1 => ∃ u, r = some u ∧
      wpAny (model P w) X.A (letOwnedTupleGo tg (.ref it) u) (fun _ s2 => ∃ x H', Inv X pins σ H' s2 ∧ RelV x u ∧ J.yld i H x H' ∧ tn (i + 1) s2.heap ∧ ∀ b ∈ fp, H' b = none) E s1) E s
  done : ∀ (X : Cx), X.prog = P → X.w = w → X.K = K → X.calm = true → ∀ (i : Nat) (pins : List (Addr × Obj)) (s : Shared) (σ : St) (H : Hp) (E : Value → Shared → Prop), Inv X pins σ H s → (∀ b ∈ fp, FpOk X pins H b) → tn i s.heap → J.stop i H →
    wpAny (model P w) X.A (pyNext (.ref it)) (fun r s1 => r = none ∧ Inv X pins σ H s1) E s
  self : ∀ (A : Around) (i : Nat) (s : Shared) (Q : Value → Shared → Prop) (E : Value → Shared → Prop), tn i s.heap → Q (.ref it) s → wpAny (model P w) A (pyIter (.ref it)) Q E s
abbrev TI := St → Hp → (It → Hp → Prop) → Prop
def PIE (X : Cx) (pins : List (Addr × Obj)) (σ : St) (tg : Expr) (R : It → Hp → Prop) (itv : Value) (s2 : Shared) : Prop :=
  ∃ (it : Addr) (fp : List Addr) (tn : Nat → Heap → Prop) (J : It) (H' : Hp), itv = .ref it ∧ Inv X pins σ H' s2 ∧ Turn X.prog X.w X.K tg J fp it tn ∧ tn 0 s2.heap ∧ (∀ b ∈ fp, FpOk X pins H' b) ∧ R J H'
def PI (X : Cx) (tg iter : Expr) (wi : TI) : Prop :=
  ∀ (pins : List (Addr × Obj)) (s : Shared) (σ : St) (H : Hp) (R : It → Hp → Prop), Inv X pins σ H s → wi σ H R →
    wpAny (model X.prog X.w) X.A (eval iter X.env) (fun v s1 => wpAny (model X.prog X.w) X.A (pyIter v) (PIE X pins σ tg R) X.xe s1) X.xe s
theorem go_of {M : Model} {A : Around} {E : Value → Shared → Prop} {s : Shared} {tg : Expr} {it : Addr} {u : Value} {o : Obj} {n : String} {vs : Array Value} {Q : Unit → Shared → Prop} (ho : s.heap.get? it = some o) (hc : o.cls = .type n) (hd : o.data = .fields vs)
    (hn : ["enumerate", "zip", "dict_itemiterator", "dict_reverseitemiterator", "odict_iterator", "itertools.zip_longest", "itertools.pairwise"].contains n = false) (hQ : Q () s) : wpAny M A (letOwnedTupleGo tg (.ref it) u) Q E s := by
  unfold letOwnedTupleGo
  cases tg <;> first
    | exact wpAny_pure hQ
    | (cases u <;> first
        | exact wpAny_pure hQ
        | (refine wpAny_bind (wpAny_load ho ?_)
           rw [hc, hd]
           show wpAny M A (if (["enumerate", "zip", "dict_itemiterator", "dict_reverseitemiterator", "odict_iterator", "itertools.zip_longest", "itertools.pairwise"].contains n && vs[0]? == some (rawInt _)) = true then _ else _) Q E s
           rw [if_neg (by intro h; rw [hn, Bool.false_and] at h; cases h)]
           exact wpAny_pure hQ))
def Itl (K : PySem.W.Frag) (a : Addr) : It :=
  ⟨fun i H => ∃ xs x, SqL K H a xs ∧ xs[i]? = some x, fun i H x H' => H' = H ∧ ∀ xs, SqL K H a xs → xs[i]? = some x, fun i H => ∃ xs, SqL K H a xs ∧ xs.length ≤ i⟩
def Itt (K : PySem.W.Frag) (a : Addr) : It :=
  ⟨fun i H => ∃ xs x, SqT K H a xs ∧ xs[i]? = some x, fun i H x H' => H' = H ∧ ∀ xs, SqT K H a xs → xs[i]? = some x, fun i H => ∃ xs, SqT K H a xs ∧ xs.length ≤ i⟩
def Itr (lo : Int) (n : Nat) : It := ⟨fun i _ => i < n, fun i H x H' => H' = H ∧ x = .int (lo + i), fun i _ => n ≤ i⟩
theorem turn_list {P : Program} {w : World} {K : PySem.W.Frag} {tg : Expr} (a it : Addr) : Turn P w K tg (Itl K a) [it] it (fun i h => h.IsListIter it a i) where
  mem := by simp
  obj := fun i h st b hb => by
    have e : b = it := by simpa using hb
    subst e
    obtain ⟨o, e, c, d⟩ := st
    exact ⟨o, e, fun v z => by rw [d] at z; cases z⟩
  keep := fun i h h' st k => st.at fun o e => k it (by simp) o e
  item := by
    intro X hP hw hK hc i pins s σ H E I hf st hg
    subst hP hw hK
    obtain ⟨xs, x, hq, hx⟩ := hg
    obtain ⟨its, rv, p, hz⟩ := I.list hq
    obtain ⟨u, hu, ru⟩ := rv.get hx
    obtain ⟨f0, f1, f2, f3, f4, f5⟩ := hf it (by simp)
    refine wpAny_pyNext_list_item st p.isList (x := u) (by simpa using hu) fun h' st' sb => ?_
    have I1 : Inv X pins σ H { s with heap := h' } := I.turned (t' := s.toks) (fun b o hb e => (sb.2 b hb).trans e) f0 f1 f3 f4 f5
    obtain ⟨o, e, c, d⟩ := id st'
    exact ⟨u, rfl, go_of (s := { s with heap := h' }) e c d (by decide) ⟨x, H, I1, ru, ⟨rfl, fun ys hy => by rw [I.list_inj hy hq]; exact hx⟩, st', fun b hb => (hf b hb).1⟩⟩
  done := by
    intro X hP hw hK hc i pins s σ H E I hf st hg
    subst hP hw hK
    obtain ⟨xs, hq, hx⟩ := hg
    obtain ⟨its, rv, p, hz⟩ := I.list hq
    obtain ⟨f0, f1, f2, f3, f4, f5⟩ := hf it (by simp)
    have hl := rv.length
    exact wpAny_pyNext_list_end (I.ok.hd hc) st p.isList (by simp; omega) fun h' eb => ⟨rfl, I.turned (t' := s.toks) (fun b o hb e => eb b o hb e) f0 f1 f3 f4 f5⟩
  self := fun _ _ _ _ _ st h => wpAny_pyIter_listiter st h
theorem turn_range {P : Program} {w : World} {K : PySem.W.Frag} {tg : Expr} (it : Addr) (lo : Int) (n : Nat) : Turn P w K tg (Itr lo n) [it] it (fun i h => IsRangeIter h it (lo + (i : Nat) * 1) ((n : Int) - (i : Nat)) 1) where
  mem := by simp
  obj := fun i h st b hb => by
    have e : b = it := by simpa using hb
    subst e
    exact ⟨_, st, fun v z => by
      have z' : Data.fields _ = Data.cell v := z
      cases z'⟩
  keep := fun i h h' st k => k it (by simp) _ st
  item := by
    intro X hP hw hK hc i pins s σ H E I hf st hg
    subst hP hw hK
    obtain ⟨f0, f1, f2, f3, f4, f5⟩ := hf it (by simp)
    have W := Walks.range (prog := X.prog) (w := X.w) (I.ok.hd hc) it lo 1 n
    refine W.item i s _ _ hg st fun v h' tk hv st' kk => ?_
    obtain ⟨t, rfl⟩ := hv
    have I1 : Inv X pins σ H { s with heap := h', toks := tk } := I.turned (fun b o hb e => kk b o (by simpa using hb) e) f0 f1 f3 f4 f5
    refine ⟨_, rfl, go_of (s := { s with heap := h', toks := tk }) (n := "range_iterator") st' rfl rfl (by decide) ⟨.int (lo + i), H, I1, ⟨t, ?_⟩, ⟨rfl, rfl⟩, st', fun b hb => (hf b hb).1⟩⟩
    rw [Int.mul_one]
  done := by
    intro X hP hw hK hc i pins s σ H E I hf st hg
    subst hP hw hK
    obtain ⟨f0, f1, f2, f3, f4, f5⟩ := hf it (by simp)
    exact wpAny_pyNext_range_end (I.ok.hd hc) st (by have : n ≤ i := hg; omega) fun h' eb => ⟨rfl, I.turned (t' := s.toks) (fun b o hb e => eb b o hb e) f0 f1 f3 f4 f5⟩
  self := fun _ _ _ _ _ st h => wpAny_pyIter_rangeiter st h
end L2
namespace L2
open PySem PySem.Spec PyProof.Rows
section
variable {X : Cx} {tg : Expr}
def iList (K : PySem.W.Frag) (tl : TE) : TI := fun σ H R => tl σ H fun x H1 => ∃ a, x = .ref a ∧ (∃ xs, SqL K H1 a xs) ∧ R (Itl K a) H1
def iTup (K : PySem.W.Frag) (tl : TE) : TI := fun σ H R => tl σ H fun x H1 => ∃ a, x = .ref a ∧ (∃ xs, SqT K H1 a xs) ∧ R (Itt K a) H1
theorem pi_list {l : Expr} {tl : TE} (hl : PE X l tl) : PI X tg l (iList X.K tl) := by
  intro pins s σ H R I h
  refine thn (hl pins s σ H _ I h) fun v s1 ⟨x, H1, I1, r1, q1⟩ => ?_
  obtain ⟨a, e, ⟨xs, hq⟩, q⟩ := q1
  subst e
  cases r1
  obtain ⟨its, rv, p, hz⟩ := I1.list hq
  refine wpAny_pyIter_list p.isList ?_
  refine ⟨s1.heap.objs.size, [s1.heap.objs.size], _, _, H1, rfl, I1.kept (t' := s1.toks) fun b o e => Heap.get?_push_of_some _ e, turn_list a _, ⟨_, Heap.get?_push_size _ rfl, rfl, rfl⟩, fun b hb => ?_, q⟩
  have e : b = s1.heap.objs.size := by simpa using hb
  subst e
  exact I1.fpOk (Nat.le_refl _) (I1.hok.fresh (Nat.le_refl _))
theorem range_it {pins : List (Addr × Obj)} {σ : St} {H : Hp} {s : Shared} {R : It → Hp → Prop} {E : Value → Shared → Prop} {lo hi : Int} {t u v : Tok} {tk : Nat} (I : Inv X pins σ H s) (h1 : -(2 ^ 62) ≤ lo) (h2 : lo < 2 ^ 62) (h3 : -(2 ^ 62) ≤ hi) (h4 : hi < 2 ^ 62)
    (q : R (Itr lo (hi - lo).toNat) H) : wpAny (model X.prog X.w) X.A (pyIter (.ref s.heap.objs.size)) (PIE X pins σ tg R) E { s with heap := s.heap.push { cls := .type "range", data := .fields #[.int lo t, .int hi u, .int 1 v] }, toks := tk } := by
  refine wpAny_pyIter_range (IsRange.new ..) (small_one h1 h2 h3 h4) ?_
  have I1 : Inv X pins σ H { s with heap := s.heap.push { cls := .type "range", data := .fields #[.int lo t, .int hi u, .int 1 v] }, toks := tk } := I.kept fun b o e => Heap.get?_push_of_some _ e
  refine ⟨(s.heap.push { cls := .type "range", data := .fields #[.int lo t, .int hi u, .int 1 v] }).objs.size, [(s.heap.push { cls := .type "range", data := .fields #[.int lo t, .int hi u, .int 1 v] }).objs.size], _, _, H, rfl,
    I1.kept (t' := tk) fun b o e => Heap.get?_push_of_some _ e, turn_range _ lo (hi - lo).toNat, ?_, fun b hb => ?_, q⟩
  · have e1 : lo + ((0 : Nat) : Int) * 1 = lo := by simp
    have e2 : (((hi - lo).toNat : Nat) : Int) - ((0 : Nat) : Int) = Builtin.Range.rangeSize lo hi 1 := by rw [rangeSize_one]; split <;> omega
    show IsRangeIter _ _ (lo + ((0 : Nat) : Int) * 1) ((((hi - lo).toNat : Nat) : Int) - ((0 : Nat) : Int)) 1
    rw [e1, e2]
    exact Heap.get?_push_size _ rfl
  · have e : b = (s.heap.push { cls := .type "range", data := .fields #[.int lo t, .int hi u, .int 1 v] }).objs.size := by simpa using hb
    subst e
    exact I1.fpOk (Nat.le_refl _) (I1.hok.fresh (Nat.le_refl _))
def iRng1 (ta : TA) : TI := fun σ H R => ta σ H fun vs H1 => ∃ j : Int, vs = [.int j] ∧ -(2 ^ 62) ≤ j ∧ j < 2 ^ 62 ∧ R (Itr 0 j.toNat) H1
def iRng2 (ta : TA) : TI := fun σ H R => ta σ H fun vs H1 => ∃ i j : Int, vs = [.int i, .int j] ∧ (-(2 ^ 62) ≤ i ∧ i < 2 ^ 62 ∧ -(2 ^ 62) ≤ j ∧ j < 2 ^ 62) ∧ R (Itr i (j - i).toNat) H1
theorem pi_range1 {a : Expr} {ta : TA} {p pos : Pos} (hg : Gl X "range") (hm : X.mg "range" = none) (ha : PA X [a] ta) (hs : starEach [a] X.env = [(false, eval a X.env)] := by rfl) : PI X tg (.Call (.Name "range" p) [a] [] pos) (iRng1 ta) := by
  intro pins s σ H R I h
  refine Call_ (ld_blt I hg hm boot_range (PyProof.Rows.callWith_type1 (thn (ha pos pins s σ H _ I h) fun us s1 ⟨vs, H1, I1, r1, q1⟩ => ?_) hs rfl))
  obtain ⟨j, e, q1, q2, q⟩ := q1
  subst e
  cases r1 with
  | cons r rr =>
    cases rr
    obtain ⟨t, rfl⟩ := r
    exact call_range_1 (range_it I1 (by omega) (by omega) q1 q2 (by simpa using q))
theorem pi_range2 {a b : Expr} {ta : TA} {p pos : Pos} (hg : Gl X "range") (hm : X.mg "range" = none) (ha : PA X [a, b] ta) (hs : starEach [a, b] X.env = [(false, eval a X.env), (false, eval b X.env)] := by rfl) (hs2 : starEach [b] X.env = [(false, eval b X.env)] := by rfl) :
    PI X tg (.Call (.Name "range" p) [a, b] [] pos) (iRng2 ta) := by
  intro pins s σ H R I h
  refine Call_ (ld_blt I hg hm boot_range (PyProof.Rows.callWith_type1 (thn (ha pos pins s σ H _ I h) fun us s1 ⟨vs, H1, I1, r1, q1⟩ => ?_) (by rw [hs, hs2]) (by rw [hs2]; rfl)))
  obtain ⟨i, j, e, ⟨q1, q2, q3, q4⟩, q⟩ := q1
  subst e
  cases r1 with
  | cons r rr =>
    cases rr with
    | cons r' rr =>
      cases rr
      obtain ⟨t, rfl⟩ := r
      obtain ⟨t', rfl⟩ := r'
      exact call_range_2 (range_it I1 q1 q2 q3 q4 q)
def tFor (wi : TI) (g : TG) (tb : TS) : TS := fun D σ H => wi σ H fun J H1 => ∃ W : Nat → Nat → St → Hp → Prop, (∃ m, W 0 m σ H1) ∧ ∀ i m σ H, W i m σ H →
  (J.stop i H ∧ D.nx σ H) ∨ (J.go i H ∧ ∃ N : St → Hp → Prop, (∀ σ' H', N σ' H' → ∃ m', m' < m ∧ W (i + 1) m' σ' H') ∧ ∀ x H', J.yld i H x H' → g x σ H' fun σ2 H2 => tb { D with nx := N, ct := N, bk := D.nx } σ2 H2)
def pinsAt (fp : List Addr) (h : Heap) : List (Addr × Obj) := fp.filterMap fun b => (h.get? b).map fun o => (b, o)
theorem mem_pinsAt {fp : List Addr} {h : Heap} {b : Addr} {o : Obj} (hb : b ∈ fp) (e : h.get? b = some o) : (b, o) ∈ pinsAt fp h := List.mem_filterMap.mpr ⟨b, hb, by rw [e]; rfl⟩
theorem of_pinsAt {fp : List Addr} {h : Heap} {p : Addr × Obj} (hp : p ∈ pinsAt fp h) : p.1 ∈ fp ∧ h.get? p.1 = some p.2 := by
  obtain ⟨b, hb, e⟩ := List.mem_filterMap.mp hp
  cases q : h.get? b with
  | none => rw [q] at e; cases e
  | some o =>
    rw [q] at e
    have e' : (b, o) = p := Option.some.inj e
    subst e'
    exact ⟨hb, q⟩
theorem Inv.pinned {pins : List (Addr × Obj)} {σ : St} {H : Hp} {s : Shared} {fp : List Addr} (I : Inv X pins σ H s) (hf : ∀ b ∈ fp, FpOk X pins H b) (ho : ∀ b ∈ fp, ∃ o, s.heap.get? b = some o ∧ ∀ v, o.data ≠ .cell v) : Inv X (pins ++ pinsAt fp s.heap) σ H s :=
  I.pins_of fun p hp => (List.mem_append.mp hp).elim (fun z => I.pin p (List.mem_append_right _ z)) fun z => by
    obtain ⟨hb, e⟩ := of_pinsAt z
    obtain ⟨f0, f1, f2, _⟩ := hf p.1 hb
    obtain ⟨o, e', d⟩ := ho p.1 hb
    rw [e] at e'; cases e'
    exact ⟨e, f0, f1, f2, d⟩
theorem Inv.unpinned {pins pl : List (Addr × Obj)} {σ : St} {H : Hp} {s : Shared} (I : Inv X (pins ++ pl) σ H s) : Inv X pins σ H s := I.pins_of fun p hp => I.pin p (List.mem_append_right _ (List.mem_append_left _ hp))
theorem ps_for {iter : Expr} {body : List Stmt} {wi : TI} {g : TG} {tb : TS} {pos : Pos} (hp : PassesOwn (model X.prog X.w) X.A X.env X.xe) (hc : X.calm = true) (hi : PI X tg iter wi) (hg : PG X tg g) (hb : PSs X body tb)
    (hs : ∀ x, foldedSetIterable iter X.env x = pure x := by intro _; rfl) : PS X (.For tg iter body [] pos) (tFor wi g tb) := by
  intro pins s σ H D I h
  refine wpAny_For (thn (hi pins s σ H _ I h) fun v s1 h1 => thn h1 fun itv s2 h2 => ?_) hs
  obtain ⟨it, fp, tn, J, H2, e, I2, T, st2, f2, W, ⟨m0, w0⟩, turn⟩ := h2
  subst e
  have stat : ∀ {H' : Hp}, (∀ b ∈ fp, H' b = none) → ∀ b ∈ fp, FpOk X pins H' b := fun hn b hb => ⟨hn b hb, (f2 b hb).2⟩
  refine codeAny_forLoop_any (fun n s' => ∃ i σ' H', Inv X pins σ' H' s' ∧ tn i s'.heap ∧ (∀ b ∈ fp, H' b = none) ∧ W i n σ' H') ?_ m0 ⟨0, σ, H2, I2, st2, fun b hb => (f2 b hb).1, w0⟩
  rintro n s3 ⟨i, σ3, H3, I3, st3, fr3, w3⟩
  rcases turn i n σ3 H3 w3 with ⟨stop, qn⟩ | ⟨go, N, hN, step⟩
  · refine wpAny_passesOwn hp (thn (T.done X rfl rfl rfl hc i pins s3 σ3 H3 X.xe I3 (stat fr3) st3 stop) fun r s4 ⟨hr, I4⟩ => ?_)
    subst hr
    exact wpAny_execs_nil ⟨σ3, H3, I4, qn⟩
  · refine wpAny_passesOwn hp (thn (T.item X rfl rfl rfl hc i pins s3 σ3 H3 X.xe I3 (stat fr3) st3 go) fun r s4 ⟨u, hr, h4⟩ => ?_)
    subst hr
    refine wpAny_passesOwn hp (thn h4 fun _ s5 ⟨x, H5, I5, r5, y5, st5, fr5⟩ => ?_)
    have I5' := I5.pinned (stat fr5) (T.obj _ _ st5)
    refine wpAny_passesOwn hp (thn (hg _ s5 σ3 H5 x u _ I5' r5 (step x H5 y5)) fun _ s6 ⟨σ6, H6, I6, q6⟩ => ?_)
    refine wpAny_passesOwn hp (thn (hb _ s6 σ6 H6 _ I6 q6) fun f s7 q7 => ?_)
    have again : ∀ {σ7 : St} {H7 : Hp}, Inv X (pins ++ pinsAt fp s5.heap) σ7 H7 s7 → N σ7 H7 → ∃ m, m < n ∧ ∃ i σ' H', Inv X pins σ' H' s7 ∧ tn i s7.heap ∧ (∀ b ∈ fp, H' b = none) ∧ W i m σ' H' := fun {σ7 H7} I7 n7 => by
      obtain ⟨m', hm, w7⟩ := hN σ7 H7 n7
      refine ⟨m', hm, i + 1, σ7, H7, I7.unpinned, T.keep _ _ _ st5 fun b hb o e => (I7.pin (b, o) (List.mem_append_right _ (List.mem_append_right _ (mem_pinsAt hb e)))).1, fun b hb => ?_, w7⟩
      obtain ⟨o, e, d⟩ := T.obj _ _ st5 b hb
      exact (I7.pin (b, o) (List.mem_append_right _ (List.mem_append_right _ (mem_pinsAt hb e)))).2.1
    cases f with
    | next => obtain ⟨σ7, H7, I7, n7⟩ := q7; exact again I7 n7
    | cont => obtain ⟨σ7, H7, I7, n7⟩ := q7; exact again I7 n7
    | brk => obtain ⟨σ7, H7, I7, q7⟩ := q7; exact ⟨σ7, H7, I7.unpinned, q7⟩
    | ret v => obtain ⟨x7, σ7, H7, I7, r7, q7⟩ := q7; exact ⟨x7, σ7, H7, I7.unpinned, r7, q7⟩
end
theorem for_list {K : PySem.W.Frag} {a : Addr} {xs : List V} {g : TG} {tb : TS} {D : Ends} {σ : St} {H : Hp} (Pv : Nat → St → Hp → Prop) (h0 : Pv 0 σ H) (hl : ∀ i σ H, i ≤ xs.length → Pv i σ H → SqL K H a xs)
    (hs : ∀ i x σ H, xs[i]? = some x → Pv i σ H → g x σ H fun σ2 H2 => tb { D with nx := Pv (i + 1), ct := Pv (i + 1), bk := D.nx } σ2 H2) (hd : ∀ σ H, Pv xs.length σ H → D.nx σ H) :
    ∃ W : Nat → Nat → St → Hp → Prop, (∃ m, W 0 m σ H) ∧ ∀ i m σ H, W i m σ H →
      ((Itl K a).stop i H ∧ D.nx σ H) ∨ ((Itl K a).go i H ∧ ∃ N : St → Hp → Prop, (∀ σ' H', N σ' H' → ∃ m', m' < m ∧ W (i + 1) m' σ' H') ∧ ∀ x H', (Itl K a).yld i H x H' → g x σ H' fun σ2 H2 => tb { D with nx := N, ct := N, bk := D.nx } σ2 H2) := by
  refine ⟨fun i m σ H => m = xs.length - i ∧ i ≤ xs.length ∧ Pv i σ H, ⟨xs.length, by simp, Nat.zero_le _, h0⟩, ?_⟩
  rintro i m σ H ⟨rfl, hi, p⟩
  have q := hl i σ H hi p
  by_cases hlt : i < xs.length
  · refine .inr ⟨⟨xs, xs[i], q, by simp [hlt]⟩, Pv (i + 1), fun σ' H' p' => ⟨xs.length - (i + 1), by omega, rfl, hlt, p'⟩, fun x H' y => ?_⟩
    obtain ⟨e, y⟩ := y
    subst e
    exact hs i x σ _ (y xs q) p
  · have e : i = xs.length := by omega
    subst e
    exact .inl ⟨⟨xs, q, Nat.le_refl _⟩, hd σ H p⟩
theorem for_range {lo : Int} {n : Nat} {g : TG} {tb : TS} {D : Ends} {σ : St} {H : Hp} (Pv : Nat → St → Hp → Prop) (h0 : Pv 0 σ H)
    (hs : ∀ i σ H, i < n → Pv i σ H → g (.int (lo + i)) σ H fun σ2 H2 => tb { D with nx := Pv (i + 1), ct := Pv (i + 1), bk := D.nx } σ2 H2) (hd : ∀ σ H, Pv n σ H → D.nx σ H) :
    ∃ W : Nat → Nat → St → Hp → Prop, (∃ m, W 0 m σ H) ∧ ∀ i m σ H, W i m σ H →
      ((Itr lo n).stop i H ∧ D.nx σ H) ∨ ((Itr lo n).go i H ∧ ∃ N : St → Hp → Prop, (∀ σ' H', N σ' H' → ∃ m', m' < m ∧ W (i + 1) m' σ' H') ∧ ∀ x H', (Itr lo n).yld i H x H' → g x σ H' fun σ2 H2 => tb { D with nx := N, ct := N, bk := D.nx } σ2 H2) := by
  refine ⟨fun i m σ H => m = n - i ∧ i ≤ n ∧ Pv i σ H, ⟨n, by simp, Nat.zero_le _, h0⟩, ?_⟩
  rintro i m σ H ⟨rfl, hi, p⟩
  by_cases hlt : i < n
  · refine .inr ⟨hlt, Pv (i + 1), fun σ' H' p' => ⟨n - (i + 1), by omega, rfl, hlt, p'⟩, fun x H' y => ?_⟩
    obtain ⟨e, y⟩ := y
    subst e y
    exact hs i σ _ hlt p
  · have e : i = n := by omega
    subst e
    exact .inl ⟨Nat.le_refl _, hd σ H p⟩
end L2
namespace L2
open PySem PySem.Spec PyProof.Rows
abbrev R2 := V → V → Hp → VK → Prop
def OpR (X : Cx) (f : Value → Value → Sem Value) (r : R2) : Prop :=
  ∀ (pins : List (Addr × Obj)) (s : Shared) (σ : St) (H : Hp) (x y : V) (v u : Value) (Q : VK), Inv X pins σ H s → RelV x v → RelV y u → r x y H Q →
    wpAny (model X.prog X.w) X.A (f v u) (EP X pins σ Q) X.xe s
def UnR (X : Cx) (f : Value → Sem Value) (r : V → Hp → VK → Prop) : Prop :=
  ∀ (pins : List (Addr × Obj)) (s : Shared) (σ : St) (H : Hp) (x : V) (v : Value) (Q : VK), Inv X pins σ H s → RelV x v → r x H Q →
    wpAny (model X.prog X.w) X.A (f v) (EP X pins σ Q) X.xe s
def CallR (X : Cx) (f : Value) (r : List V → Hp → VK → Prop) : Prop :=
  ∀ (pins : List (Addr × Obj)) (s : Shared) (σ : St) (H : Hp) (xs : List V) (us : List Value) (Q : VK), Inv X pins σ H s → Vals xs us → r xs H Q →
    wpAny (model X.prog X.w) X.A (call f us) (EP X pins σ Q) X.xe s
def TruR (X : Cx) (r : V → Hp → (Bool → Hp → Prop) → Prop) : Prop :=
  ∀ (pins : List (Addr × Obj)) (s : Shared) (σ : St) (H : Hp) (x : V) (v : Value) (Q : Bool → Hp → Prop), Inv X pins σ H s → RelV x v → r x H Q →
    wpAny (model X.prog X.w) X.A (truthy v) (TP X pins σ Q) X.xe s
def tOp (r : R2) (ta tb : TE) : TE := fun σ H Q => ta σ H fun x H1 => tb σ H1 fun y H2 => r x y H2 Q
def tUn (r : V → Hp → VK → Prop) (ta : TE) : TE := fun σ H Q => ta σ H fun x H1 => r x H1 Q
def rI (C : Int → Int → Prop) (g : Int → Int → V) : R2 := fun x y H Q => ∃ i j, x = .int i ∧ y = .int j ∧ C i j ∧ Q (g i j) H
def rI0 (g : Int → Int → V) : R2 := fun x y H Q => ∃ i j, x = .int i ∧ y = .int j ∧ Q (g i j) H
def rU (g : Int → V) : V → Hp → VK → Prop := fun x H Q => ∃ i, x = .int i ∧ Q (g i) H
section
variable {X : Cx} {a b c : Expr} {ta tb tc : TE} {pos : Pos}
theorem binT (ha : PE X a ta) (hb : PE X b tb) {pins : List (Addr × Obj)} {s : Shared} {σ : St} {H : Hp} {R : V → V → Hp → Prop} (I : Inv X pins σ H s)
    (h : ta σ H fun x H1 => tb σ H1 fun y H2 => R x y H2) {Q : Value → Shared → Prop} {f : Value → Value → Sem Value}
    (hf : ∀ v u s2 x y H2, Inv X pins σ H2 s2 → RelV x v → RelV y u → R x y H2 → wpAny (model X.prog X.w) X.A (f v u) Q X.xe s2) :
    wpAny (model X.prog X.w) X.A (eval a X.env) (fun v s₁ => wpAny (model X.prog X.w) X.A (eval b X.env) (fun u s₂ => wpAny (model X.prog X.w) X.A (f v u) Q X.xe s₂) X.xe s₁) X.xe s := by
  refine thn (ha pins s σ H _ I h) fun v s1 ⟨x, H1, I1, r1, q1⟩ => ?_
  refine thn (hb pins s1 σ H1 _ I1 q1) fun u s2 ⟨y, H2, I2, r2, q2⟩ => ?_
  exact hf v u s2 x y H2 I2 r1 r2 q2
theorem pe_op {op : Operator} {r : R2} (ho : OpR X (binaryOp op) r) (ha : PE X a ta) (hb : PE X b tb) : PE X (.BinOp a op b pos) (tOp r ta tb) := by
  intro pins s σ H Q I h
  exact wpAny_BinOp (binT ha hb I h fun v u s2 x y H2 I2 rx ry q => ho pins s2 σ H2 x y v u Q I2 rx ry q)
theorem pe_un {op : UnaryOp} {r : V → Hp → VK → Prop} (ho : UnR X (unaryOp op) r) (ha : PE X a ta) : PE X (.UnaryOp op a pos) (tUn r ta) := by
  intro pins s σ H Q I h
  exact UnaryOp_ (thn (ha pins s σ H _ I h) fun v s1 ⟨x, H1, I1, r1, q1⟩ => ho pins s1 σ H1 x v Q I1 r1 q1)
theorem opI {f : Value → Value → Sem Value} {C : Int → Int → Prop} {g : Int → Int → Int}
    (rule : ∀ (i j : Int) (t u : Tok) (s : Shared) (Q : Value → Shared → Prop) (E : Value → Shared → Prop), C i j → Q (.int (g i j) s.toks) { s with toks := s.toks + 1 } → wpAny (model X.prog X.w) X.A (f (.int i t) (.int j u)) Q E s) :
    OpR X f (rI C fun i j => .int (g i j)) := by
  intro pins s σ H x y v u Q I rx ry h
  obtain ⟨i, j, rfl, rfl, hc, q⟩ := h
  obtain ⟨t, rfl⟩ := rx
  obtain ⟨t', rfl⟩ := ry
  exact rule i j t t' s _ _ hc ⟨.int (g i j), H, I.tok _, ⟨_, rfl⟩, q⟩
theorem opI0 {f : Value → Value → Sem Value} {g : Int → Int → Int}
    (rule : ∀ (i j : Int) (t u : Tok) (s : Shared) (Q : Value → Shared → Prop) (E : Value → Shared → Prop), Q (.int (g i j) s.toks) { s with toks := s.toks + 1 } → wpAny (model X.prog X.w) X.A (f (.int i t) (.int j u)) Q E s) :
    OpR X f (rI0 fun i j => .int (g i j)) := by
  intro pins s σ H x y v u Q I rx ry h
  obtain ⟨i, j, rfl, rfl, q⟩ := h
  obtain ⟨t, rfl⟩ := rx
  obtain ⟨t', rfl⟩ := ry
  exact rule i j t t' s _ _ ⟨.int (g i j), H, I.tok _, ⟨_, rfl⟩, q⟩
theorem opB0 {f : Value → Value → Sem Value} {g : Int → Int → Bool}
    (rule : ∀ (i j : Int) (t u : Tok) (s : Shared) (Q : Value → Shared → Prop) (E : Value → Shared → Prop), Q (.bool (g i j)) s → wpAny (model X.prog X.w) X.A (f (.int i t) (.int j u)) Q E s) :
    OpR X f (rI0 fun i j => .bl (g i j)) := by
  intro pins s σ H x y v u Q I rx ry h
  obtain ⟨i, j, rfl, rfl, q⟩ := h
  obtain ⟨t, rfl⟩ := rx
  obtain ⟨t', rfl⟩ := ry
  exact rule i j t t' s _ _ ⟨.bl (g i j), H, I, rfl, q⟩
def CDiv (i j : Int) : Prop := 0 < j ∧ j < 1073741824
def CPow (i j : Int) : Prop := 0 ≤ j ∧ j ≤ 1000000 ∧ i.natAbs < 2 ^ 64
def CMul (i j : Int) : Prop := (-(2 ^ 64) < i ∧ i < 2 ^ 64) ∨ (-(2 ^ 64) < j ∧ j < 2 ^ 64)
theorem CMul.ok {i j : Int} (h : CMul i j) : IntMulOk i j := by
  rcases h with ⟨h1, h2⟩ | ⟨h1, h2⟩
  · exact .of_left (intBits_le_64 h1 h2)
  · exact .of_right (intBits_le_64 h1 h2)
theorem op_add : OpR X (binaryOp .Add) (rI0 fun i j => .int (i + j)) := opI0 fun _ _ _ _ _ _ _ q => add_int q
theorem op_sub : OpR X (binaryOp .Sub) (rI0 fun i j => .int (i - j)) := opI0 fun _ _ _ _ _ _ _ q => sub_int q
theorem op_mul : OpR X (binaryOp .Mult) (rI CMul fun i j => .int (i * j)) := opI fun _ _ _ _ _ _ _ hc q => mul_int q hc.ok
theorem op_fdiv : OpR X (binaryOp .FloorDiv) (rI CDiv fun i j => .int (i / j)) := opI fun i j _ _ _ _ _ hc q => by
  have h1 : (0 : Int) < j := hc.1
  have h2 : j < 1073741824 := hc.2
  exact floordiv_int (by omega) (by rw [Int.fdiv_eq_ediv_of_nonneg i (by omega)]; exact q) (.inl (PyProof.noPylong_small (by omega)))
theorem op_mod : OpR X (binaryOp .Mod) (rI (fun _ j => 0 < j) fun i j => .int (i % j)) := opI fun i j _ _ _ _ _ hc q => by
  have h1 : (0 : Int) < j := hc
  exact mod_int' (by omega) (by rw [Int.fmod_eq_emod_of_nonneg i (by omega)]; exact q)
theorem op_pow : OpR X (binaryOp .Pow) (rI CPow fun i j => .int (i ^ j.toNat)) := opI fun _ _ _ _ _ _ _ hc q => pow_int_small hc.1 hc.2.1 hc.2.2 q
theorem iop_add : OpR X (inplaceOp .Add) (rI0 fun i j => .int (i + j)) := opI0 fun _ _ _ _ _ _ _ q => iadd_int q
theorem iop_mul : OpR X (inplaceOp .Mult) (rI CMul fun i j => .int (i * j)) := opI fun _ _ _ _ _ _ _ hc q => imul_int q hc.ok
theorem unI {f : Value → Sem Value} {g : Int → Int}
    (rule : ∀ (i : Int) (t : Tok) (s : Shared) (Q : Value → Shared → Prop) (E : Value → Shared → Prop), Q (.int (g i) s.toks) { s with toks := s.toks + 1 } → wpAny (model X.prog X.w) X.A (f (.int i t)) Q E s) :
    UnR X f (rU fun i => .int (g i)) := by
  intro pins s σ H x v Q I rx h
  obtain ⟨i, rfl, q⟩ := h
  obtain ⟨t, rfl⟩ := rx
  exact rule i t s _ _ ⟨.int (g i), H, I.tok _, ⟨_, rfl⟩, q⟩
theorem un_neg : UnR X (unaryOp .USub) (rU fun i => .int (-i)) := unI fun _ _ _ _ _ q => neg_int q
end
def scal : V → V → Bool
  | .non, .non => true | .non, .int _ => true | .int _, .non => true | .non, .bl _ => true | .bl _, .non => true | .non, .str _ => true | .str _, .non => true
  | .int _, .int _ => true | .bl _, .bl _ => true | .str _, .str _ => true | .byt _, .byt _ => true
  | .int _, .str _ => true | .str _, .int _ => true | .bl _, .str _ => true | .str _, .bl _ => true
  | _, _ => false
def rEq : R2 := fun x y H Q => scal x y = true ∧ Q (.bl (decide (x = y))) H
def rNe : R2 := fun x y H Q => scal x y = true ∧ Q (.bl (!decide (x = y))) H
theorem dec_int {i j : Int} : decide (V.int i = V.int j) = (i == j) := by
  rw [Bool.eq_iff_iff]
  simp
theorem dec_bl {i j : Bool} : decide (V.bl i = V.bl j) = (i == j) := by
  rw [Bool.eq_iff_iff]
  simp
theorem dec_str {i j : Str} : decide (V.str i = V.str j) = (i == j) := by
  rw [Bool.eq_iff_iff]
  simp
theorem dec_byt {i j : Array UInt8} : decide (V.byt i = V.byt j) = (i.toList == j.toList) := by
  rw [Bool.eq_iff_iff]
  cases i
  cases j
  simp
section
variable {X : Cx} {a b c : Expr} {ta tb tc : TE} {pos : Pos}
theorem fin_bl {pins : List (Addr × Obj)} {σ : St} {H : Hp} {s : Shared} {Q : VK} {k k' : Bool} (I : Inv X pins σ H s) (q : Q (.bl k) H) (e : k = k') : EP X pins σ Q (.bool k') s := by
  subst e
  exact ⟨.bl k, H, I, rfl, q⟩
theorem op_eq : OpR X (compareOp .Eq) rEq := by
  intro pins s σ H x y v u Q I rx ry h
  obtain ⟨hs, q⟩ := h
  cases x with
  | non =>
    cases rx
    cases y with
    | non => cases ry; exact PySem.EqNone.eq_none_none (fin_bl I q (by simp))
    | bl j => cases ry; exact PySem.EqNone.eq_none_bool (fin_bl I q (by simp))
    | int j => obtain ⟨t', rfl⟩ := ry; exact PySem.EqNone.eq_none_int (fin_bl I q (by simp))
    | str j => obtain ⟨t', rfl⟩ := ry; exact PySem.EqNone.eq_none_str (fin_bl I q (by simp))
    | _ => exact absurd (show false = true from hs) Bool.false_ne_true
  | bl i =>
    cases rx
    cases y with
    | non => cases ry; exact PySem.EqNone.eq_bool_none (fin_bl I q (by simp))
    | bl j => cases ry; exact eq_bool (fin_bl I q dec_bl)
    | str j => obtain ⟨t', rfl⟩ := ry; exact PySem.EqMixed.eq_bool_str (fin_bl I q (by simp))
    | _ => exact absurd (show false = true from hs) Bool.false_ne_true
  | int i =>
    obtain ⟨t, rfl⟩ := rx
    cases y with
    | non => cases ry; exact PySem.EqNone.eq_int_none (fin_bl I q (by simp))
    | int j => obtain ⟨t', rfl⟩ := ry; exact eq_int (fin_bl I q dec_int)
    | str j => obtain ⟨t', rfl⟩ := ry; exact PySem.EqMixed.eq_int_str (fin_bl I q (by simp))
    | _ => exact absurd (show false = true from hs) Bool.false_ne_true
  | str i =>
    obtain ⟨t, rfl⟩ := rx
    cases y with
    | non => cases ry; exact PySem.EqNone.eq_str_none (fin_bl I q (by simp))
    | bl j => cases ry; exact PySem.EqMixed.eq_str_bool (fin_bl I q (by simp))
    | int j => obtain ⟨t', rfl⟩ := ry; exact PySem.EqMixed.eq_str_int (fin_bl I q (by simp))
    | str j => obtain ⟨t', rfl⟩ := ry; exact eq_str (fin_bl I q dec_str)
    | _ => exact absurd (show false = true from hs) Bool.false_ne_true
  | byt i =>
    obtain ⟨t, rfl⟩ := rx
    cases y with
    | byt j => obtain ⟨t', rfl⟩ := ry; exact PySem.W.eq_bytes (fin_bl I q dec_byt)
    | _ => exact absurd (show false = true from hs) Bool.false_ne_true
  | _ => cases y <;> exact absurd (show false = true from hs) Bool.false_ne_true
theorem op_ne : OpR X (compareOp .NotEq) rNe := by
  intro pins s σ H x y v u Q I rx ry h
  obtain ⟨hs, q⟩ := h
  cases x with
  | non =>
    cases rx
    cases y with
    | non => cases ry; exact PySem.EqNone.ne_none_none (fin_bl I q (by simp))
    | bl j => cases ry; exact PySem.EqNone.ne_none_bool (fin_bl I q (by simp))
    | int j => obtain ⟨t', rfl⟩ := ry; exact PySem.EqNone.ne_none_int (fin_bl I q (by simp))
    | str j => obtain ⟨t', rfl⟩ := ry; exact PySem.EqNone.ne_none_str (fin_bl I q (by simp))
    | _ => exact absurd (show false = true from hs) Bool.false_ne_true
  | bl i =>
    cases rx
    cases y with
    | non => cases ry; exact PySem.EqNone.ne_bool_none (fin_bl I q (by simp))
    | bl j => cases ry; exact ne_bool (fin_bl I q (congrArg not dec_bl))
    | str j => obtain ⟨t', rfl⟩ := ry; exact PySem.EqMixed.ne_bool_str (fin_bl I q (by simp))
    | _ => exact absurd (show false = true from hs) Bool.false_ne_true
  | int i =>
    obtain ⟨t, rfl⟩ := rx
    cases y with
    | non => cases ry; exact PySem.EqNone.ne_int_none (fin_bl I q (by simp))
    | int j => obtain ⟨t', rfl⟩ := ry; exact ne_int (fin_bl I q (congrArg not dec_int))
    | str j => obtain ⟨t', rfl⟩ := ry; exact PySem.EqMixed.ne_int_str (fin_bl I q (by simp))
    | _ => exact absurd (show false = true from hs) Bool.false_ne_true
  | str i =>
    obtain ⟨t, rfl⟩ := rx
    cases y with
    | non => cases ry; exact PySem.EqNone.ne_str_none (fin_bl I q (by simp))
    | bl j => cases ry; exact PySem.EqMixed.ne_str_bool (fin_bl I q (by simp))
    | int j => obtain ⟨t', rfl⟩ := ry; exact PySem.EqMixed.ne_str_int (fin_bl I q (by simp))
    | str j => obtain ⟨t', rfl⟩ := ry; exact ne_str (fin_bl I q (congrArg not dec_str))
    | _ => exact absurd (show false = true from hs) Bool.false_ne_true
  | byt i =>
    obtain ⟨t, rfl⟩ := rx
    cases y with
    | byt j => obtain ⟨t', rfl⟩ := ry; exact PySem.W.ne_bytes (fin_bl I q (congrArg not dec_byt))
    | _ => exact absurd (show false = true from hs) Bool.false_ne_true
  | _ => cases y <;> exact absurd (show false = true from hs) Bool.false_ne_true
theorem op_lt : OpR X (compareOp .Lt) (rI0 fun i j => .bl (decide (i < j))) := opB0 fun _ _ _ _ _ _ _ q => lt_int q
theorem op_le : OpR X (compareOp .LtE) (rI0 fun i j => .bl (decide (i ≤ j))) := opB0 fun _ _ _ _ _ _ _ q => le_int q
theorem op_gt : OpR X (compareOp .Gt) (rI0 fun i j => .bl (decide (j < i))) := opB0 fun _ _ _ _ _ _ _ q => gt_int q
theorem op_in_str : OpR X (compareOp .In) (fun x y H Q => ∃ i j, x = .str i ∧ y = .str j ∧ Q (.bl (!(Builtin.Str.occurrences j i 0 j.length 1).isEmpty)) H) := by
  intro pins s σ H x y v u Q I rx ry h
  obtain ⟨i, j, rfl, rfl, q⟩ := h
  obtain ⟨t, rfl⟩ := rx
  obtain ⟨t', rfl⟩ := ry
  exact in_str (fin_bl I q rfl)
theorem op_isN : OpR X (compareOp .Is) (fun x y H Q => y = .non ∧ Q (.bl (decide (x = .non))) H) := by
  intro pins s σ H x y v u Q I rx ry h
  obtain ⟨rfl, q⟩ := h
  cases ry
  refine is_none_gen (fin_bl I q ?_)
  cases x <;> first
    | (cases rx; rfl)
    | (obtain ⟨t, rfl⟩ := rx; rfl)
theorem op_notN : OpR X (compareOp .IsNot) (fun x y H Q => y = .non ∧ Q (.bl (!decide (x = .non))) H) := by
  intro pins s σ H x y v u Q I rx ry h
  obtain ⟨rfl, q⟩ := h
  cases ry
  refine isnot_none_gen (fin_bl I q ?_)
  cases x <;> first
    | (cases rx; rfl)
    | (obtain ⟨t, rfl⟩ := rx; rfl)
theorem OpR.or {f : Value → Value → Sem Value} {r r' : R2} (h : OpR X f r) (h' : OpR X f r') : OpR X f (fun x y H Q => r x y H Q ∨ r' x y H Q) := by
  intro pins s σ H x y v u Q I rx ry q
  rcases q with q | q
  · exact h pins s σ H x y v u Q I rx ry q
  · exact h' pins s σ H x y v u Q I rx ry q
theorem nomark (b : Expr) {op : CmpOp} (h : op ≠ .In := by decide) (h2 : op ≠ .NotIn := by decide) : behindInMarks op b = false := by
  have e1 : (op == CmpOp.In) = false := by cases op <;> first | rfl | exact absurd rfl h
  have e2 : (op == CmpOp.NotIn) = false := by cases op <;> first | rfl | exact absurd rfl h2
  cases b <;> simp [behindInMarks, e1, e2]
theorem pe_cmpR {op : CmpOp} {r : R2} (ho : OpR X (compareOp op) r) (ha : PE X a ta) (hb : PE X b tb) (hm : behindInMarks op b = false) : PE X (.Compare a [op] [b] pos) (tOp r ta tb) := by
  intro pins s σ H Q I h
  exact wpAny_Compare1 (binT ha hb I h fun v u s2 x y H2 I2 rx ry q => ho pins s2 σ H2 x y v u Q I2 rx ry q) hm
def tTest (t : TE) : TT := fun σ H Q => t σ H fun x H' => ∃ k, x = .bl k ∧ Q k H'
theorem pt_cmpR {op : CmpOp} {r : R2} (ho : OpR X (compareOp op) r) (ha : PE X a ta) (hb : PE X b tb) (hm : behindInMarks op b = false) : PT X (.Compare a [op] [b] pos) (tTest (tOp r ta tb)) := by
  intro pins s σ H Q I h
  refine wpAny_isTrue_Compare1 (thn (ha pins s σ H _ I h) fun v s1 ⟨x, H1, I1, r1, q1⟩ => thn (hb pins s1 σ H1 _ I1 q1) fun u s2 ⟨y, H2, I2, r2, q2⟩ =>
    thn (ho pins s2 σ H2 x y v u _ I2 r1 r2 q2) fun c s3 ⟨z, H3, I3, r3, k, e, q3⟩ => ?_) hm
  subst e
  cases r3
  exact wpAny_truthy_bool ⟨H3, I3, q3⟩
def tChain (r r' : R2) (ta tb tc : TE) : TE := fun σ H Q => ta σ H fun x H1 => tb σ H1 fun y H2 => r x y H2 fun z H3 => ∃ k, z = .bl k ∧
  (if k = true then tc σ H3 fun w' H4 => r' y w' H4 Q else Q (.bl false) H3)
theorem pe_chain {op op' : CmpOp} {r r' : R2} (ho : OpR X (compareOp op) r) (ho' : OpR X (compareOp op') r') (ha : PE X a ta) (hb : PE X b tb) (hc : PE X c tc)
    (hm : lastMarks [op, op'] [b, c] = false := by with_unfolding_all rfl) : PE X (.Compare a [op, op'] [b, c] pos) (tChain r r' ta tb tc) := by
  intro pins s σ H Q I h
  refine Compare_chain (thn (ha pins s σ H _ I h) fun v s1 ⟨x, H1, I1, r1, q1⟩ => chain_link (thn (hb pins s1 σ H1 _ I1 q1) fun u s2 ⟨y, H2, I2, r2, q2⟩ =>
    thn (ho pins s2 σ H2 x y v u _ I2 r1 r2 q2) fun d s3 ⟨z, H3, I3, r3, k, e, q3⟩ => ?_)) hm
  subst e
  cases r3
  refine wpAny_truthy_bool ?_
  cases k with
  | false => exact ite_ff ⟨.bl false, H3, I3, rfl, q3⟩
  | true => exact ite_tt (chain_last (thn (hc pins s3 σ H3 _ I3 q3) fun w' s4 ⟨z', H4, I4, r4, q4⟩ => ho' pins s4 σ H4 y z' u w' Q I4 r2 r4 q4))
theorem pt_chain {op op' : CmpOp} {r r' : R2} (ho : OpR X (compareOp op) r) (ho' : OpR X (compareOp op') r') (ha : PE X a ta) (hb : PE X b tb) (hc : PE X c tc)
    (hm : lastMarks [op, op'] [b, c] = false := by with_unfolding_all rfl) : PT X (.Compare a [op, op'] [b, c] pos) (tTest (tChain r r' ta tb tc)) := by
  intro pins s σ H Q I h
  refine isTrue_chain (thn (ha pins s σ H _ I h) fun v s1 ⟨x, H1, I1, r1, q1⟩ => test_link (thn (hb pins s1 σ H1 _ I1 q1) fun u s2 ⟨y, H2, I2, r2, q2⟩ =>
    thn (ho pins s2 σ H2 x y v u _ I2 r1 r2 q2) fun d s3 ⟨z, H3, I3, r3, k, e, q3⟩ => ?_)) hm
  subst e
  cases r3
  refine wpAny_truthy_bool ?_
  cases k with
  | false =>
    obtain ⟨k', e', q'⟩ := q3
    cases e'
    exact ite_ff ⟨H3, I3, q'⟩
  | true =>
    refine ite_tt (test_last (thn (hc pins s3 σ H3 _ I3 q3) fun w' s4 ⟨z', H4, I4, r4, q4⟩ => thn (ho' pins s4 σ H4 y z' u w' _ I4 r2 r4 q4) fun d' s5 ⟨z2, H5, I5, r5, k2, e2, q5⟩ => ?_))
    subst e2
    cases r5
    exact wpAny_truthy_bool ⟨H5, I5, q5⟩
def TruV (K : PySem.W.Frag) (x : V) (H : Hp) (k : Bool) : Prop :=
  match x with
  | .non => k = false
  | .bl b => k = b
  | .int i => k = (i != 0)
  | .str y => y.length ≤ sizeLine ∧ k = ((y.length : Int) != 0)
  | .byt y => y.size ≤ sizeLine ∧ k = ((y.size : Int) != 0)
  | .ref p => (∃ xs, SqL K H p xs ∧ k = !xs.isEmpty) ∨ (∃ xs, SqT K H p xs ∧ k = !xs.isEmpty) ∨ ∃ kvs, H p = some (.dK kvs) ∧ k = !kvs.isEmpty
  | _ => False
theorem isEmpty_kv {κ : Type} {kvs : List (κ × V)} {vs : List (κ × Value)} (r : KV kvs vs) : (!vs.isEmpty) = !kvs.isEmpty := by
  cases r <;> rfl
theorem isEmpty_of {xs : List V} {its : List Value} (r : Vals xs its) : (!its.toArray.isEmpty) = !xs.isEmpty := by
  cases r <;> simp
theorem line63 : (sizeLine : Nat) < 2 ^ 63 := by rw [sizeLine_eq]; decide
theorem tru_ok : TruR X (fun x H Q => ∃ k, TruV X.K x H k ∧ Q k H) := by
  intro pins s σ H x v Q I rx h
  obtain ⟨k, e, q⟩ := h
  have hl := line63
  have hs : sizeLine = 16777216 := sizeLine_eq
  cases x with
  | non =>
    cases rx
    have e' : k = false := e
    subst e'
    exact truthy_none ⟨H, I, q⟩
  | bl b =>
    cases rx
    have e' : k = b := e
    subst e'
    exact wpAny_truthy_bool ⟨H, I, q⟩
  | int i =>
    obtain ⟨t, rfl⟩ := rx
    have e' : k = (i != 0) := e
    subst e'
    exact PySem.P.truthy_int ⟨H, I, q⟩
  | str y =>
    obtain ⟨t, rfl⟩ := rx
    obtain ⟨hy, e'⟩ : y.length ≤ sizeLine ∧ k = ((y.length : Int) != 0) := e
    subst e'
    exact PySem.P.truthy_str (by omega) ⟨H, I.tok _, q⟩
  | byt y =>
    obtain ⟨t, rfl⟩ := rx
    obtain ⟨hy, e'⟩ : y.size ≤ sizeLine ∧ k = ((y.size : Int) != 0) := e
    subst e'
    exact PySem.W.truthy_bytes (by omega) ⟨H, I.tok _, q⟩
  | ref p =>
    cases rx
    have e' : (∃ xs, SqL X.K H p xs ∧ k = !xs.isEmpty) ∨ (∃ xs, SqT X.K H p xs ∧ k = !xs.isEmpty) ∨ ∃ kvs, H p = some (.dK kvs) ∧ k = !kvs.isEmpty := e
    rcases e' with ⟨xs, hx, e'⟩ | ⟨xs, hx, e'⟩ | ⟨kvs, hx, e'⟩
    · subst e'
      obtain ⟨its, r, pl, hz⟩ := I.list hx
      have hlen := r.length
      exact wpAny_truthy_list pl.isList (by simp only [List.size_toArray]; omega) ⟨H, I.tok _, by rw [isEmpty_of r]; exact q⟩
    · subst e'
      obtain ⟨its, r, pl, hz⟩ := I.tuple hx
      have hlen := r.length
      exact truthy_tuple pl (by simp only [List.size_toArray]; omega) ⟨H, I.tok _, by rw [isEmpty_of r]; exact q⟩
    · subst e'
      obtain ⟨hz, hS, vs, r, m⟩ : kvs.length ≤ sizeLine ∧ (p == sysModules) = false ∧ ∃ vs, KV kvs vs ∧ s.heap.DictOf (mixKind X.prog X.w) p vs := I.hok p _ hx
      have hlen : kvs.length = vs.length := Paired.length r
      exact wpAny_truthy_dict hS m (by omega) ⟨H, I.tok _, by rw [isEmpty_kv r]; exact q⟩
  | _ => exact (show False from e).elim
theorem pt_truth (ha : PE X a ta) (he : ∀ whole, isTrue a X.env whole = (do let v ← whole; standAt a.pos; holding [v] (truthy v))) :
    PT X a (fun σ H Q => ta σ H fun x H' => ∃ k, TruV X.K x H' k ∧ Q k H') := by
  intro pins s σ H Q I h
  exact isTrue_plain (thn (ha pins s σ H _ I h) fun v s1 ⟨x, H1, I1, r1, q1⟩ => tru_ok pins s1 σ H1 x v Q I1 r1 q1) (he _)
theorem vals1 {x : V} {us : List Value} (r : Vals [x] us) : ∃ u, us = [u] ∧ RelV x u := by
  cases r with
  | cons r1 r2 => cases r2; exact ⟨_, rfl, r1⟩
theorem vals2 {x y : V} {us : List Value} (r : Vals [x, y] us) : ∃ u w', us = [u, w'] ∧ RelV x u ∧ RelV y w' := by
  cases r with
  | cons r1 r2 =>
    cases r2 with
    | cons r3 r4 => cases r4; exact ⟨_, _, rfl, r1, r3⟩
theorem call_str_int : CallR X (.type "str") (fun xs H Q => ∃ i, xs = [.int i] ∧ i.natAbs.log2 < 1920 ∧ Q (.str (toString i)) H) := by
  intro pins s σ H xs us Q I r h
  obtain ⟨i, rfl, hz, q⟩ := h
  obtain ⟨u, rfl, t, rfl⟩ := vals1 r
  exact PySem.P.str_of_int hz ⟨.str _, H, I.tok _, ⟨_, rfl⟩, q⟩
def LenV (K : PySem.W.Frag) (x : V) (H : Hp) (n : Nat) : Prop :=
  match x with
  | .str y => y.length ≤ sizeLine ∧ n = y.length
  | .byt y => y.size ≤ sizeLine ∧ n = y.size
  | .ref p => (∃ xs, SqL K H p xs ∧ n = xs.length) ∨ ∃ xs, SqT K H p xs ∧ n = xs.length
  | _ => False
theorem call_len : CallR X (.builtin "len") (fun xs H Q => ∃ x n, xs = [x] ∧ LenV X.K x H n ∧ Q (.int n) H) := by
  intro pins s σ H xs us Q I r h
  obtain ⟨x, n, rfl, e, q⟩ := h
  obtain ⟨u, rfl, rx⟩ := vals1 r
  have hl := line63
  have hs : sizeLine = 16777216 := sizeLine_eq
  cases x with
  | str y =>
    obtain ⟨t, rfl⟩ := rx
    obtain ⟨hy, e'⟩ : y.length ≤ sizeLine ∧ n = y.length := e
    subst e'
    exact len_str (by omega) ⟨.int _, H, I.tok _, ⟨_, rfl⟩, q⟩
  | byt y =>
    obtain ⟨t, rfl⟩ := rx
    obtain ⟨hy, e'⟩ : y.size ≤ sizeLine ∧ n = y.size := e
    subst e'
    exact PySem.W.len_bytes (by omega) ⟨.int _, H, I.tok _, ⟨_, rfl⟩, q⟩
  | ref p =>
    cases rx
    have e' : (∃ xs, SqL X.K H p xs ∧ n = xs.length) ∨ ∃ xs, SqT X.K H p xs ∧ n = xs.length := e
    rcases e' with ⟨xs, hx, e'⟩ | ⟨xs, hx, e'⟩
    · subst e'
      obtain ⟨its, r', pl, hz⟩ := I.list hx
      have hlen := r'.length
      exact Calls.call_len_list pl.isList (by simp only [List.size_toArray]; omega) ⟨.int xs.length, H, I.tok _, ⟨_, by simp only [List.size_toArray]; rw [hlen]⟩, q⟩
    · subst e'
      obtain ⟨its, r', pl, hz⟩ := I.tuple hx
      have hlen := r'.length
      exact len_tuple pl (by simp only [List.size_toArray]; omega) ⟨.int xs.length, H, I.tok _, ⟨_, by simp only [List.size_toArray]; rw [hlen]⟩, q⟩
  | _ => exact (show False from e).elim
end
end L2
namespace L2
open PySem PySem.Spec PyProof.Rows
structure ObjM (h : Heap) (x dx C : Addr) (mA : Str → Option Value) : Prop where
  obj : h.get? x = some (PySem.W.instObj C dx)
  ns : h.Ns1 dx mA
  ne : dx ≠ x
theorem lookIn_ns {h : Heap} {dx : Addr} {mA : Str → Option Value} (n : h.Ns1 dx mA) : ∃ od, h.get? dx = some od ∧ ∀ name, PySem.W.lookIn name od = some (mA name) := by
  obtain ⟨o, es, ep, ho, hd, hk, _, hm⟩ := n
  refine ⟨o, ho, fun name => ?_⟩
  have e := hm name
  unfold nsFind findBy at e
  rw [← Array.find?_toList] at e
  unfold PySem.W.lookIn
  rw [hd]
  dsimp only
  split
  · rename_i y q
    rw [q] at e
    exact congrArg some e
  · rename_i q
    rw [q] at e
    have a : es.toList.any (·.refKey) = false := by
      rw [List.any_eq_false]
      intro y hy
      obtain ⟨z, t, hkey⟩ := hk y (Array.mem_toList_iff.mp hy)
      simp [DictEntry.refKey, hkey]
    have a' : ¬ es.toList.any (·.refKey) = true := by rw [a]; exact Bool.false_ne_true
    rw [if_neg a']
    exact congrArg some e
theorem ObjM.look {h : Heap} {x dx C : Addr} {mA : Str → Option Value} (I : ObjM h x dx C mA) : ∃ od, PySem.W.InstAt h x (PySem.W.instObj C dx) C (some od) ∧ ∀ name, PySem.W.lookIn name od = some (mA name) :=
  let ⟨od, ho, hl⟩ := lookIn_ns I.ns
  ⟨od, ⟨I.obj, rfl, rfl, ho⟩, hl⟩
section
variable {prog : Program} {w : World} {A : Around} {E : Value → Shared → Prop} {s : Shared} {K : PySem.W.Frag} {x dx C f : Addr} {mA : Str → Option Value} {name : Str} {v : Value}
theorem get_map {expr : Bool} {Q : Value → Shared → Prop} (X : K.In s.heap) (I : ObjM s.heap x dx C mA) (hg : PySem.W.plainGet K C name = true) (hh : PySem.W.hasDictIn K C = true)
    (ha : PySem.W.findIn K (.ref C) name = some none) (hv : mA name = some v) (hv' : PySem.W.handedIn v = true) (h : Q v { s with toks := s.toks + 1 }) :
    wpAny (model prog w) A (getAttr (.ref x) name expr) Q E s := by
  obtain ⟨od, J, hl⟩ := I.look
  exact PySem.W.get_value X J (PySem.W.plainGet_of hg).1 (PySem.W.findObj_own hh ha rfl (by rw [hl, hv])) hv' h
theorem get_meth {pl : Sem Bool} {Q : Value × List Value → Shared → Prop} (X : K.In s.heap) (I : ObjM s.heap x dx C mA) (hg : PySem.W.plainGet K C name = true)
    (hf : PySem.W.findIn K (.ref C) name = some (some (.ref f))) (ht : PySem.W.isFn K (.ref f) = true) (hv : mA name = none) (h : Q (.ref f, [.ref x]) s) :
    wpAny (model prog w) A (getMethod (.ref x) name pl) Q E s := by
  obtain ⟨od, J, hl⟩ := I.look
  exact PySem.W.method_fn X J (PySem.W.plainGet_of hg).1 (PySem.W.plainGet_of hg).2 hf (beq_iff_eq.mp ht) (by show (PySem.W.lookIn name od).map (·.isSome) = some false; rw [hl, hv]; rfl) h
theorem set_map {ns : List Str} {Q : Unit → Shared → Prop} (X : K.In s.heap) (I : ObjM s.heap x dx C mA)
    (hs : PySem.W.findIn K (.ref C) "__setattr__" = some (some (.builtin "object.__setattr__"))) (hp : PySem.W.plainOver K C = true) (ht : PySem.W.takerIn K C name = some none) (hh : PySem.W.hasDictIn K C = true)
    (hw : PySem.Within mA ns) (hsz : ns.length ≤ sizeLine)
    (h : ∀ h', ObjM h' x dx C (fun y => if y = name then some v else mA y) → Heap.SameBut dx s.heap h' → Q () { s with heap := h', toks := s.toks + 2 }) :
    wpAny (model prog w) A (setAttr (.ref x) name v) Q E s := by
  obtain ⟨od, J, hl⟩ := I.look
  refine PySem.W.set_plain X J hs (PySem.W.osa_open (s := { s with toks := s.toks + 1 }) (r := none) X J hp ht fun b => ?_)
  obtain ⟨cd, hc, hd'⟩ := PySem.W.any_some hh
  have hx : s.heap.get? x = some ⟨.ref C, some dx, .plain, #[]⟩ := I.obj
  refine wpAny_bind (wpAny_pure (wpAny_bind (wpAny_bind (wpAny_loadPart hx (wpAny_bind (PySem.W.Looks.here (s := { s with toks := s.toks + 1 }) (PySem.W.looks_clsIn X hc) ?_))))))
  rw [hd']
  refine wpAny_pure (a := some dx) (wpAny_bind (wpAny_pure (wpAny_bind ?_)))
  refine wpAny_nsSet1 (s := { s with toks := s.toks + 1 }) I.ns fun h' hn2 hs2 => ?_
  obtain ⟨oD, esD, epD, hoD, hdD, hcD⟩ := hn2.count (PySem.Within.cons name v hw)
  refine wpAny_bind (wpAny_lookBehind hoD (by rw [hdD]; exact pastItsLine_dict (Nat.le_trans hcD (by rw [List.length_cons]; omega))) ?_)
  exact wpAny_pure (h _ ⟨(hs2.2 _ (Ne.symm I.ne)).trans I.obj, hn2, I.ne⟩ hs2)
theorem make_map {R : Result → Shared → Prop} {vs : List Value} {kw : List (Str × Value)} (X : K.In s.heap) (hm : PySem.W.makesIn K C = true)
    (hi : PySem.W.findIn K (.ref C) "__init__" = some (some (.ref f))) (hf : PySem.W.typeIn K (.ref f) = some (.type "function"))
    (h : codeAny (model prog w) (A.under (.builtin "type.__call__" ⟨.ref C :: vs, kw⟩)) (.call (.ref f) ⟨.ref (s.heap.objs.size + 1) :: vs, kw⟩) (PySem.W.InitBack (s.heap.objs.size + 1) R)
      { s with heap := (s.heap.push PySem.W.emptyDict).push (PySem.W.instObj C s.heap.objs.size) }) :
    codeAny (model prog w) A (.call (.ref C) ⟨vs, kw⟩) R s := by
  obtain ⟨hh, g, d, t, os⟩ := s
  exact PySem.W.make_core (PySem.W.makes_of X hm) (PySem.W.looks_findIn X hi) (fun self => PySem.W.bind_fn X self hf) (.inl rfl) h
end
def putF (f : Str) (v : V) : List (Str × V) → List (Str × V)
  | [] => [(f, v)]
  | (g, x) :: r => if g = f then (g, v) :: r else (g, x) :: putF f v r
theorem lookup_putF (f g : Str) (v : V) : ∀ fs : List (Str × V), (putF f v fs).lookup g = if g = f then some v else fs.lookup g
  | [] => by
    show List.lookup g [(f, v)] = _
    by_cases h : g = f
    · have hb : (g == f) = true := beq_iff_eq.mpr h
      simp only [List.lookup, hb, if_pos h]
    · have hb : (g == f) = false := beq_eq_false_iff_ne.mpr h
      simp only [List.lookup, hb, if_neg h]
  | (k, x) :: r => by
    have ih := lookup_putF f g v r
    rw [show putF f v ((k, x) :: r) = (if k = f then (k, v) :: r else (k, x) :: putF f v r) from rfl]
    by_cases hk : k = f
    · rw [if_pos hk]
      by_cases h : g = k
      · have hb : (g == k) = true := beq_iff_eq.mpr h
        simp only [List.lookup, hb, if_pos (h.trans hk)]
      · have hb : (g == k) = false := beq_eq_false_iff_ne.mpr h
        simp only [List.lookup, hb, if_neg (fun e : g = f => h (e.trans hk.symm))]
    · rw [if_neg hk]
      by_cases h : g = k
      · have hb : (g == k) = true := beq_iff_eq.mpr h
        simp only [List.lookup, hb, if_neg (fun e : g = f => hk (h.symm.trans e))]
      · have hb : (g == k) = false := beq_eq_false_iff_ne.mpr h
        simp only [List.lookup, hb]
        exact ih
theorem keys_putF (f : Str) (v : V) : ∀ fs : List (Str × V), f ∈ (putF f v fs).map (·.1) ∧ ∀ g, g ∈ fs.map (·.1) → g ∈ (putF f v fs).map (·.1)
  | [] => ⟨by simp [putF], fun g h => by simp at h⟩
  | (k, x) :: r => by
    obtain ⟨i1, i2⟩ := keys_putF f v r
    rw [show putF f v ((k, x) :: r) = (if k = f then (k, v) :: r else (k, x) :: putF f v r) from rfl]
    by_cases hk : k = f
    · rw [if_pos hk]
      subst hk
      exact ⟨by simp, fun g h => by simpa using h⟩
    · rw [if_neg hk]
      refine ⟨?_, fun g h => ?_⟩
      · rw [List.map_cons]
        exact List.mem_cons_of_mem _ i1
      · rw [List.map_cons] at h ⊢
        rcases List.mem_cons.mp h with e | e
        · exact List.mem_cons.mpr (.inl e)
        · exact List.mem_cons_of_mem _ (i2 g e)
theorem length_putF (f : Str) (v : V) : ∀ fs : List (Str × V), (putF f v fs).length ≤ fs.length + 1
  | [] => by simp [putF]
  | (k, x) :: r => by
    have ih := length_putF f v r
    rw [show putF f v ((k, x) :: r) = (if k = f then (k, v) :: r else (k, x) :: putF f v r) from rfl]
    by_cases hk : k = f
    · rw [if_pos hk, List.length_cons, List.length_cons]; omega
    · rw [if_neg hk, List.length_cons, List.length_cons]; omega
theorem RelO.some_of {v : V} {o : Option Value} (r : RelO (some v) o) : ∃ u, o = some u ∧ RelV v u := by
  cases o with
  | none => exact (show False from r).elim
  | some u => exact ⟨u, rfl, r⟩
theorem RelO.none_of {o : Option Value} (r : RelO none o) : o = none := by
  cases o with
  | none => rfl
  | some u => exact (show False from r).elim
theorem handed_of {v : V} {u : Value} (r : RelV v u) : PySem.W.handedIn u = true := by
  cases v with
  | non => cases (show u = Value.none from r); rfl
  | bl b => cases (show u = Value.bool b from r); rfl
  | int i => obtain ⟨t, e⟩ := (show ∃ t, u = Value.int i t from r); cases e; rfl
  | str x => obtain ⟨t, e⟩ := (show ∃ t, u = Value.str x t from r); cases e; rfl
  | byt b => obtain ⟨t, e⟩ := (show ∃ t, u = Value.bytes b t from r); cases e; rfl
  | flt b => obtain ⟨t, e⟩ := (show ∃ t, u = Value.float b t from r); cases e; rfl
  | ref a => cases (show u = Value.ref a from r); rfl
  | ty n => cases (show u = Value.type n from r); rfl
section
variable {P : Program} {w : World} {H H' : Hp} {h h' : Heap} {a C dx : Addr} {fs fs' : List (Str × V)}
theorem ins_get (hok : HOk P w H h) (e : H a = some (.ins C dx fs)) : ∃ mA, ObjM h a dx C mA ∧ (∀ f, RelO (fs.lookup f) (mA f)) ∧ PySem.Within mA (fs.map (·.1)) ∧ fs.length ≤ 1000 ∧ H dx = some (.own a) := by
  obtain ⟨d, z, ne, ob, mA, n, r, q⟩ := (show ObjOk P w H h a (.ins C dx fs) from hok a _ e)
  exact ⟨mA, ⟨ob, n, ne⟩, r, q, z, d⟩
end
structure Cls (K : PySem.W.Frag) (C : Addr) : Prop where
  pg : PySem.W.plainGet K C Str.empty = true
  hd : PySem.W.hasDictIn K C = true
  po : PySem.W.plainOver K C = true
  sa : PySem.W.findIn K (.ref C) "__setattr__" = some (some (.builtin "object.__setattr__"))
theorem Cls.get {K : PySem.W.Frag} {C : Addr} (c : Cls K C) (f : Str) : PySem.W.plainGet K C f = true := c.pg
def NoAttr (K : PySem.W.Frag) (C : Addr) (f : Str) : Prop := PySem.W.findIn K (.ref C) f = some none
theorem NoAttr.taker {K : PySem.W.Frag} {C : Addr} {f : Str} (n : NoAttr K C f) : PySem.W.takerIn K C f = some none := by
  unfold PySem.W.takerIn
  rw [show PySem.W.findIn K (.ref C) f = some none from n]
  rfl
structure Meth (K : PySem.W.Frag) (C : Addr) (m : Str) (f : Addr) : Prop where
  at_ : PySem.W.findIn K (.ref C) m = some (some (.ref f))
  fn : PySem.W.isFn K (.ref f) = true
  kp : PySem.W.keepIn K (.ref f) = true
section
variable {X : Cx} {pins : List (Addr × Obj)} {σ : St} {H : Hp} {s : Shared} {a C dx : Addr} {fs : List (Str × V)} {f : Str} {v : V} {A : Around} {E : Value → Shared → Prop}
theorem getattr_ok {b : Bool} {Q : Value → Shared → Prop} (I : Inv X pins σ H s) (e : H a = some (.ins C dx fs)) (c : Cls X.K C) (n : NoAttr X.K C f) (l : fs.lookup f = some v)
    (h : ∀ u s', Inv X pins σ H s' → RelV v u → Q u s') : wpAny (model X.prog X.w) A (getAttr (.ref a) f b) Q E s := by
  obtain ⟨mA, O, r, _, _, _⟩ := ins_get I.hok e
  obtain ⟨u, hu, ru⟩ := RelO.some_of (v := v) (o := mA f) (by rw [← l]; exact r f)
  exact get_map I.kIn O (c.get f) c.hd n hu (handed_of ru) (h u _ (I.tok _) ru)
theorem getmeth_ok {m : Str} {g : Addr} {pl : Sem Bool} {Q : Value × List Value → Shared → Prop} (I : Inv X pins σ H s) (e : H a = some (.ins C dx fs)) (c : Cls X.K C) (k : Meth X.K C m g) (l : fs.lookup m = none)
    (h : Q (.ref g, [.ref a]) s) : wpAny (model X.prog X.w) A (getMethod (.ref a) m pl) Q E s := by
  obtain ⟨mA, O, r, _, _, _⟩ := ins_get I.hok e
  have hn : mA m = none := RelO.none_of (by rw [← l]; exact r m)
  exact get_meth I.kIn O (c.get m) k.at_ k.fn hn h
theorem setattr_ok {y : V} {u : Value} {Q : Unit → Shared → Prop} (I : Inv X pins σ H s) (e : H a = some (.ins C dx fs)) (c : Cls X.K C) (n : NoAttr X.K C f) (hl : fs.length < 1000) (ry : RelV y u)
    (h : ∀ s', Inv X pins σ (upd H a (.ins C dx (putF f y fs))) s' → Q () s') : wpAny (model X.prog X.w) A (setAttr (.ref a) f u) Q E s := by
  obtain ⟨mA, O, r, wi, _, ho⟩ := ins_get I.hok e
  have hz : (fs.map (·.1)).length ≤ sizeLine := by rw [List.length_map, sizeLine_eq]; omega
  refine set_map I.kIn O c.sa c.po n.taker c.hd wi hz fun h' O' sb => h _ ?_
  have hd : ∃ o, h'.get? dx = some o := let ⟨o, _, _, e', _⟩ := O'.ns; ⟨o, e'⟩
  refine I.write (x := a) (e := dx) (by rw [e]; exact True.intro) (.inr ho) (fun b q hb z => (sb.2 b hb).trans z) hd ?_
  refine ⟨by rw [upd_ne O.ne]; exact ho, ?_, O.ne, O'.obj, _, O'.ns, fun g => ?_, fun g hg => ?_⟩
  · have := length_putF f y fs; omega
  · show RelO ((putF f y fs).lookup g) (if g = f then some u else mA g)
    rw [lookup_putF]
    by_cases q : g = f
    · rw [if_pos q, if_pos q]; exact ry
    · rw [if_neg q, if_neg q]; exact r g
  · by_cases q : g = f
    · rw [q]; exact (keys_putF f y fs).1
    · refine (keys_putF f y fs).2 g (wi g fun z => hg ?_)
      show (if g = f then some u else mA g) = none
      rw [if_neg q]; exact z
theorem Inv.made (I : Inv X pins σ H s) : Inv X pins σ (upd (upd H s.heap.objs.size (.own (s.heap.objs.size + 1))) (s.heap.objs.size + 1) (.ins C s.heap.objs.size []))
    { s with heap := (s.heap.push PySem.W.emptyDict).push (PySem.W.instObj C s.heap.objs.size) } := by
  have e1 : (s.heap.push PySem.W.emptyDict).get? s.heap.objs.size = some PySem.W.emptyDict := Heap.get?_push_size s.heap rfl
  have e2 : ((s.heap.push PySem.W.emptyDict).push (PySem.W.instObj C s.heap.objs.size)).get? (s.heap.objs.size + 1) = some (PySem.W.instObj C s.heap.objs.size) := by
    have := Heap.get?_push_size (s.heap.push PySem.W.emptyDict) (o := PySem.W.instObj C s.heap.objs.size) rfl
    rwa [Heap.size_push] at this
  have e3 : (s.heap.push PySem.W.emptyDict).Ns s.heap.objs.size (fun _ => none) := ⟨PySem.W.emptyDict, #[], _, e1, rfl, (fun e he => absurd he (by simp)), fun _ => rfl⟩
  have I1 := I.laid (a := s.heap.objs.size) (o := .own (s.heap.objs.size + 1)) (h' := s.heap.push PySem.W.emptyDict) (t' := s.toks) (fun b u q => Heap.get?_push_of_some _ q) (Nat.le_refl _) ⟨_, e1⟩
  refine I1.laid (a := s.heap.objs.size + 1) (o := .ins C s.heap.objs.size []) (t' := s.toks) (fun b u q => Heap.get?_push_of_some _ q) (Nat.le_of_eq (Heap.size_push _ _)) ?_
  have ne : s.heap.objs.size ≠ s.heap.objs.size + 1 := Nat.ne_of_lt (Nat.lt_succ_self _)
  refine ⟨by rw [upd_ne ne, upd_same], Nat.zero_le _, ne, e2, fun _ => none, (Heap.Ns1.of_empty e3).at fun o q => Heap.get?_push_of_some _ q, fun _ => True.intro, fun y hy => absurd rfl hy⟩
theorem attr_of {prog : Program} {w : World} {env : Env} {e : Expr} {f : Str} {pos : Pos} {s : Shared} {Q : Value → Shared → Prop} (hb : attributeBase e f env (eval e env) = eval e env)
    (h : wpAny (model prog w) A (eval e env) (fun o s₁ => wpAny (model prog w) A (getAttr o f true) Q E s₁) E s) : wpAny (model prog w) A (eval (.Attribute e f pos) env) Q E s :=
  Attribute_any_ h (by rw [arm_eval_Attribute, hb])
end
def tFld (K : PySem.W.Frag) (ta : TE) (f : Str) : TE := fun σ H Q => ta σ H fun x H1 => ∃ a C dx fs v, x = .ref a ∧ H1 a = some (.ins C dx fs) ∧ Cls K C ∧ NoAttr K C f ∧ fs.lookup f = some v ∧ Q v H1
def sFld (K : PySem.W.Frag) (ta tv : TE) (f : Str) : TS := fun D σ H => tv σ H fun y H1 => ta σ H1 fun x H2 => ∃ a C dx fs, x = .ref a ∧ H2 a = some (.ins C dx fs) ∧ Cls K C ∧ NoAttr K C f ∧ fs.length < 1000 ∧
  D.nx σ (upd H2 a (.ins C dx (putF f y fs)))
section
variable {X : Cx} {o e value : Expr} {f : Str} {pos pos' tpos : Pos} {ta tv : TE}
theorem pe_fld (he : PE X e ta) (hb : attributeBase e f X.env (eval e X.env) = eval e X.env) : PE X (.Attribute e f pos) (tFld X.K ta f) := by
  intro pins s σ H Q I h
  refine attr_of hb (thn (he pins s σ H _ I h) fun u s1 ⟨x, H1, I1, rx, a, C, dx, fs, v, ex, ea, c, n, l, q⟩ => ?_)
  subst ex
  obtain rfl : u = Value.ref a := rx
  exact getattr_ok I1 ea c n l fun u' s2 I2 ru => ⟨v, H1, I2, ru, q⟩
theorem ps_fld (ha : PE X o ta) (hv : PE X value tv) (hs : swapsWith value (some (.Attribute o f pos')) pos.line X.env = pure false) : PS X (.Assign [.Attribute o f pos'] value pos) (sFld X.K ta tv f) := by
  intro pins s σ H D I h
  refine plainObj_wpAny_Assign_Attribute (thn (hv pins s σ H _ I h) fun u s1 ⟨y, H1, I1, ry, q⟩ => thn (ha pins s1 σ H1 _ I1 q) fun ov s2 ⟨x, H2, I2, rx, a, C, dx, fs, ex, ea, c, n, l, q2⟩ => ?_) hs
  subst ex
  obtain rfl : ov = Value.ref a := rx
  exact setattr_ok I2 ea c n l ry fun s3 I3 => ⟨σ, _, I3, q2⟩
end
section
variable {X : Cx} {pins : List (Addr × Obj)} {σ : St} {H : Hp} {s : Shared} {A : Around} {E : Value → Shared → Prop} {Q : Value → Shared → Prop} {c : Value} {b : Bool}
end
end L2
namespace L2
open PySem PySem.Spec PyProof.Rows
structure Room (k : Nat) (A : Around) : Prop where
  hd : A.handled = none
  dp : A.depth + 3 * k + 5 < recursionLimit
  un : A.units + 16 * k + 200 < cLine
theorem Room.mono {j k : Nat} {A : Around} (r : Room k A) (h : j ≤ k) : Room j A := ⟨r.hd, by have := r.dp; omega, by have := r.un; omega⟩
theorem Room.deeper {k : Nat} {A : Around} (r : Room (k + 1) A) (env : Env) : Room k (A.deeper env) :=
  ⟨r.hd, by have := r.dp; show A.depth + 1 + 3 * k + 5 < _; omega, by have := r.un; show A.units + 3 + 16 * k + 200 < _; omega⟩
theorem Room.in1 {k : Nat} {A : Around} (r : Room (k + 1) A) : Room k A.in1 :=
  ⟨r.hd, by have := r.dp; show A.depth + 3 * k + 5 < _; omega, by have := r.un; show A.units + 1 + 16 * k + 200 < _; omega⟩
theorem make_depth {A : Around} {C : Addr} {us : List Value} {kw : List (Str × Value)} : (A.under (.builtin "type.__call__" ⟨.ref C :: us, kw⟩)).depth = A.depth + 1 := by
  first | rfl | simp [Around.under, Code.weight, Code.isCreation, Code.isGuard, Code.isCaller, Code.frames, Code.isFrame, guardIds]
theorem make_units {A : Around} {C : Addr} {us : List Value} {kw : List (Str × Value)} : (A.under (.builtin "type.__call__" ⟨.ref C :: us, kw⟩)).units = A.units + 1 := by
  first | rfl | simp [Around.under, Code.cUnits, Code.frames, Code.isFrame]
theorem Room.make {k : Nat} {A : Around} (r : Room (k + 1) A) (C : Addr) (us : List Value) (kw : List (Str × Value)) : Room k (A.under (.builtin "type.__call__" ⟨.ref C :: us, kw⟩)) :=
  ⟨r.hd, by have := r.dp; rw [make_depth]; omega, by have := r.un; rw [make_units]; omega⟩
theorem Room.depth {k : Nat} {A : Around} (r : Room k A) : A.depth < recursionLimit := by have := r.dp; omega
theorem Room.units {k : Nat} {A : Around} (r : Room k A) : A.units + 64 < cLine := by have := r.un; omega
theorem Room.units0 {k : Nat} {A : Around} (r : Room k A) : A.units < cLine := by have := r.un; omega
def tNil : TA := fun _ H Q => Q [] H
def tCons (ta : TE) (tr : TA) : TA := fun σ H Q => ta σ H fun x H1 => tr σ H1 fun xs H2 => Q (x :: xs) H2
section
variable {X : Cx} {e : Expr} {es : List Expr} {te : TE} {t : TA} {pos : Pos}
theorem pa_nil : PA X [] tNil := fun _ _ _ _ H Q I h => Calls.spliced_nil ⟨[], H, I, .nil, h⟩
theorem pa_cons (ha : PE X e te) (hr : PA X es t) (hs : starEach (e :: es) X.env = (false, eval e X.env) :: starEach es X.env := by rfl) : PA X (e :: es) (tCons te t) := by
  intro pos pins s σ H Q I h
  rw [hs]
  show wpAny _ _ (spliced ((false, eval e X.env) :: backTo pos (starEach es X.env))) _ _ s
  refine Calls.spliced_cons (thn (ha pins s σ H _ I h) fun u s1 ⟨x, H1, I1, r1, q1⟩ => ?_)
  exact thn (hr pos pins s1 σ H1 _ I1 q1) fun us s2 ⟨xs, H2, I2, r2, q2⟩ => ⟨x :: xs, H2, I2, .cons r1 r2, q2⟩
def tTup (t : TA) : TE := fun σ H Q => t σ H fun xs H1 => xs.length ≤ sizeLine ∧ ∀ p, H1 p = none → Q (.ref p) (upd H1 p (.tup xs))
def tLst (t : TA) : TE := fun σ H Q => t σ H fun xs H1 => xs.length ≤ sizeLine ∧ ∀ p, H1 p = none → Q (.ref p) (upd H1 p (.lst xs))
theorem pe_tup {x1} (h : PA X es t) : PE X (.Tuple es x1 pos) (tTup t) := by
  intro pins s σ H Q I hq
  refine wpAny_Tuple_spliced (thn (h pos pins s σ H _ I hq) fun us s1 ⟨xs, H1, I1, r, z, q⟩ => ⟨by rw [← r.length]; exact z, ?_⟩)
  have hf : H1 s1.heap.objs.size = none := I1.hok.fresh (Nat.le_refl _)
  refine ⟨.ref s1.heap.objs.size, upd H1 s1.heap.objs.size (.tup xs), I1.laid (t' := s1.toks) (fun b u e => Heap.get?_push_of_some _ e) (Nat.le_refl _) ?_, rfl, q _ hf⟩
  exact ⟨z, us, r, ⟨_, Heap.get?_push_size _ rfl, rfl, _, rfl⟩⟩
theorem pe_lst (h : PA X es t) : PE X (.List es pos) (tLst t) := by
  intro pins s σ H Q I hq
  refine wpAny_List_spliced (thn (h pos pins s σ H _ I hq) fun us s1 ⟨xs, H1, I1, r, z, q⟩ => ⟨by rw [← r.length]; exact z, ?_⟩)
  have hf : H1 s1.heap.objs.size = none := I1.hok.fresh (Nat.le_refl _)
  refine ⟨.ref s1.heap.objs.size, upd H1 s1.heap.objs.size (.lst xs), I1.laid (t' := s1.toks) (fun b u e => Heap.get?_push_of_some _ e) (Nat.le_refl _) ?_, rfl, q _ hf⟩
  exact ⟨z, us, 0, r, Heap.get?_push_size _ rfl⟩
end
abbrev Sp := List V → Hp → VK → XK → Prop
abbrev CXT := List Env → Hp → Shared → XK → Value → Shared → Prop
structure Env0 (P : Program) (w : World) (K : PySem.W.Frag) (mg : Str → Option Value) (base : Heap) (A : Around) (outer : List Env) (s : Shared) (H : Hp) : Prop where
  frames : A.frames = some outer
  mod : Mod K mg base
  bs : ∀ b o, base.get? b = some o → s.heap.get? b = some o ∧ H b = none
  bsz : base.objs.size ≤ s.heap.objs.size
  funs : s.heap.FunFrames base outer
  frf : ∀ b ∈ frs outer, H b = none
  hok : HOk P w H s.heap
  bare : AllBare s.gens
def CE (outer : List Env) (P : Program) (w : World) (H : Hp) (s : Shared) (Q : VK) (u : Value) (s' : Shared) : Prop :=
  ∃ v H', s'.os = s.os ∧ AllBare s'.gens ∧ Un (frs outer) [] H H' s.heap s'.heap ∧ HOk P w H' s'.heap ∧ RelV v u ∧ Q v H'
def CR (CX : CXT) (outer : List Env) (P : Program) (w : World) (H : Hp) (s : Shared) (Q : VK) (E : XK) (r : Result) (s' : Shared) : Prop :=
  match r with
  | .ok (.ret u) => CE outer P w H s Q u s'
  | .ok _ => False
  | .error e => CX outer H s E e s'
structure FnOk (P : Program) (w : World) (K : PySem.W.Frag) (mg : Str → Option Value) (base : Heap) (CX : CXT) (k : Nat) (f : Addr) (fd : FuncData) (ps : List Str) (sp : Sp) : Prop where
  len : ∀ vs H Q E, sp vs H Q E → vs.length = ps.length
  run : ∀ (A : Around) (outer : List Env) (s : Shared) (H : Hp) (args : Args) (us : List Value) (vs : List V) (Q : VK) (E : XK), Room k A → Env0 P w K mg base A outer s H → BindsTo s fd args (ps.zip us) → Vals vs us → sp vs H Q E →
    codeAny (model P w) A (.call (.ref f) args) (CR CX outer P w H s Q E) s
theorem FnOk.mono {P : Program} {w : World} {K : PySem.W.Frag} {mg : Str → Option Value} {base : Heap} {CX : CXT} {j k : Nat} {f : Addr} {fd : FuncData} {ps : List Str} {sp : Sp} (F : FnOk P w K mg base CX j f fd ps sp) (h : j ≤ k) :
    FnOk P w K mg base CX k f fd ps sp := ⟨F.len, fun A outer s H args us vs Q E hr => F.run A outer s H args us vs Q E (hr.mono h)⟩
theorem FnOk.imp {P : Program} {w : World} {K : PySem.W.Frag} {mg : Str → Option Value} {base : Heap} {CX : CXT} {k : Nat} {f : Addr} {fd : FuncData} {ps : List Str} {sp sp' : Sp} (F : FnOk P w K mg base CX k f fd ps sp)
    (h : ∀ vs H Q E, sp' vs H Q E → sp vs H Q E) : FnOk P w K mg base CX k f fd ps sp' :=
  ⟨fun vs H Q E q => F.len vs H Q E (h _ _ _ _ q), fun A outer s H args us vs Q E hr he hb hv hs => F.run A outer s H args us vs Q E hr he hb hv (h _ _ _ _ hs)⟩
theorem Env0.make {P : Program} {w : World} {K : PySem.W.Frag} {mg : Str → Option Value} {base : Heap} {A : Around} {outer : List Env} {s : Shared} {H : Hp} (e : Env0 P w K mg base A outer s H) (C : Addr) (us : List Value) (kw : List (Str × Value)) :
    Env0 P w K mg base (A.under (.builtin "type.__call__" ⟨.ref C :: us, kw⟩)) outer s H := ⟨by first | exact e.frames | (simpa [Around.under, Code.envs, Code.isFrame, pushEnvs] using e.frames), e.mod, e.bs, e.bsz, e.funs, e.frf, e.hok, e.bare⟩
theorem Env0.in1 {P : Program} {w : World} {K : PySem.W.Frag} {mg : Str → Option Value} {base : Heap} {A : Around} {outer : List Env} {s : Shared} {H : Hp} (e : Env0 P w K mg base A outer s H) :
    Env0 P w K mg base A.in1 outer s H := ⟨e.frames, e.mod, e.bs, e.bsz, e.funs, e.frf, e.hok, e.bare⟩
section
variable {X : Cx} {pins : List (Addr × Obj)} {σ : St} {H : Hp} {s s' : Shared}
theorem Inv.env0 (I : Inv X pins σ H s) : Env0 X.prog X.w X.K X.mg X.base X.A X.stack s H :=
  ⟨I.ok.frames, I.ok.mod, I.bs, Nat.le_trans I.ok.bsz I.sz, I.stack, I.stkFree, I.hok, I.bare⟩
theorem Inv.after {Q : VK} {u : Value} (I : Inv X pins σ H s) (h : CE X.stack X.prog X.w H s Q u s') : EP X pins σ Q u s' := by
  obtain ⟨v, H', os, bare, un, hok, r, q⟩ := h
  obtain ⟨hh, g, d, t, os'⟩ := s'
  obtain rfl : os' = s.os := os
  exact ⟨v, H', I.call (h' := hh) (g' := g) (d' := d) (t' := t) (ch := []) un hok bare (fun b z => absurd z (by simp)), r, q⟩
end
def tCall (sp : Sp) (dvs : List V) (E : XK) (t : TA) : TE := fun σ H Q => t σ H fun vs H1 => sp (vs ++ dvs) H1 Q E
def tMeth (C : Addr) (m : Str) (sp : Sp) (dvs : List V) (E : XK) (ta : TE) (t : TA) : TE := fun σ H Q => ta σ H fun x H1 => ∃ a dx fs, x = .ref a ∧ H1 a = some (.ins C dx fs) ∧ fs.lookup m = none ∧
  t σ H1 fun vs H2 => sp (x :: (vs ++ dvs)) H2 Q E
def tMake (C : Addr) (sp : Sp) (dvs : List V) (E : XK) (t : TA) : TE := fun σ H Q => t σ H fun vs H1 => ∀ x dx, H1 x = none → H1 dx = none → dx ≠ x →
  sp (.ref x :: (vs ++ dvs)) (upd (upd H1 dx (.own x)) x (.ins C dx [])) (fun v H2 => v = .non ∧ Q (.ref x) H2) E
def Binds (K : PySem.W.Frag) (fd : FuncData) (ps : List Str) (ds : List Value) : Prop :=
  ∀ (s : Shared) (us : List Value), K.In s.heap → (us ++ ds).length = ps.length → BindsTo s fd ⟨us, []⟩ (ps.zip (us ++ ds))
theorem Binds.all {K : PySem.W.Frag} {fd : FuncData} {ps : List Str} (h : ∀ us : List Value, us.length = ps.length → bindArgs fd ⟨us, []⟩ = pure (ps.zip us)) : Binds K fd ps [] := fun s us _ hl => by
  rw [List.append_nil] at hl ⊢
  exact .of_eq (h us hl)
def Passes (CX : CXT) (X : Cx) (E : XK) : Prop := ∀ (pins : List (Addr × Obj)) (σ : St) (H : Hp) (s : Shared) (e : Value) (s' : Shared), Inv X pins σ H s → CX X.stack H s E e s' → X.xe e s'
section
variable {X : Cx} {CX : CXT} {k : Nat} {f C : Addr} {fd : FuncData} {ps : List Str} {sp : Sp} {dvs : List V} {ds : List Value} {E : XK} {x m : Str} {p pos apos : Pos} {e o : Expr} {es : List Expr} {ta : TE} {t : TA}
theorem run_fn {pins : List (Addr × Obj)} {σ : St} {H : Hp} {s : Shared} {Q : VK} {us : List Value} {vs : List V} (F : FnOk X.prog X.w X.K X.mg X.base CX k f fd ps sp) (hr : Room k X.A) (hb : Binds X.K fd ps ds) (hd : Vals dvs ds) (hx : Passes CX X E)
    (I : Inv X pins σ H s) (r : Vals vs us) (h : sp (vs ++ dvs) H Q E) : wpAny (model X.prog X.w) X.A (call (.ref f) us) (EP X pins σ Q) X.xe s := by
  have r2 : Vals (vs ++ dvs) (us ++ ds) := r.append hd
  have hl : (us ++ ds).length = ps.length := by rw [← r2.length]; exact F.len _ _ _ _ h
  refine wpAny_call (codeAny_mono (F.run X.A X.stack s H ⟨us, []⟩ (us ++ ds) (vs ++ dvs) Q E hr I.env0 (hb s us I.kIn hl) r2 h) fun r s' hq => ?_)
  cases r with
  | error e => exact hx pins σ H s e s' I hq
  | ok fl =>
    cases fl with
    | ret u => exact I.after hq
    | next => exact False.elim hq
    | brk => exact False.elim hq
    | cont => exact False.elim hq
theorem pe_call (F : FnOk X.prog X.w X.K X.mg X.base CX k f fd ps sp) (hr : Room k X.A) (hg : Gl X x) (hm : X.mg x = some (.ref f)) (hk : PySem.W.keepIn X.K (.ref f) = true) (hb : Binds X.K fd ps ds) (hd : Vals dvs ds) (hx : Passes CX X E)
    (ha : PA X (e :: es) t) (hdb : (x == ("__debug__" : Str)) = false := by decide) (he : starEach (e :: es) X.env = (false, eval e X.env) :: starEach es X.env := by rfl) (hpl : (backTo pos (starEach es X.env)).any (·.1) = false := by rfl) :
    PE X (.Call (.Name x p) (e :: es) [] pos) (tCall sp dvs E t) := by
  intro pins s σ H Q I h
  refine wpAny_Call_Name_kw (ld_glob I hg hm ?_ hdb)
  refine PySem.W.callWith_K (h₀ := X.base) I.ok.mod.kin hk (thn (ha pos pins s σ H _ I h) fun us s1 ⟨vs, H1, I1, r, q⟩ => ⟨I1.kIn, ?_⟩) he hpl
  exact run_fn F hr hb hd hx I1 r q
theorem pe_meth {pl : Sem Bool} (he : PE X o ta) (c : Cls X.K C) (hm : Meth X.K C m f) (F : FnOk X.prog X.w X.K X.mg X.base CX k f fd ps sp) (hr : Room k X.A) (hb : Binds X.K fd ps ds) (hd : Vals dvs ds) (hx : Passes CX X E) (ha : PA X (e :: es) t)
    (hst : starEach (e :: es) X.env = (false, eval e X.env) :: starEach es X.env := by rfl) (hpl : (backTo pos (starEach es X.env)).any (·.1) = false := by rfl)
    (ht : eval (.Call (.Attribute o m apos) (e :: es) [] pos) X.env = (do
      let ov ← eval o X.env
      standAt apos.atName
      let (f, first) ← holding [ov] (getMethod ov m pl)
      callWith pos f first (backTo pos (starEach (e :: es) X.env)) (backToKw pos (keywordEach [] X.env))) := by rfl) :
    PE X (.Call (.Attribute o m apos) (e :: es) [] pos) (tMeth C m sp dvs E ta t) := by
  intro pins s σ H Q I h
  refine PySem.W.methodCall_KW (pl := pl) (thn (he pins s σ H _ I h) fun u s1 ⟨x, H1, I1, rx, a, dx, fs, ex, ea, l, q⟩ => ?_) ht
  subst ex
  obtain rfl : u = Value.ref a := rx
  refine getmeth_ok I1 ea c hm l ?_
  refine PySem.W.callWith_K (first := [.ref a]) (h₀ := X.base) I.ok.mod.kin hm.kp (thn (ha pos pins s1 σ H1 _ I1 q) fun us s2 ⟨vs, H2, I2, r, q2⟩ => ⟨I2.kIn, ?_⟩) hst hpl
  exact run_fn (us := .ref a :: us) (vs := .ref a :: vs) F hr hb hd hx I2 (.cons rfl r) q2
theorem pe_meth0 {pl : Sem Bool} (he : PE X o ta) (c : Cls X.K C) (hm : Meth X.K C m f) (F : FnOk X.prog X.w X.K X.mg X.base CX k f fd ps sp) (hr : Room k X.A) (hb : Binds X.K fd ps ds) (hd : Vals dvs ds) (hx : Passes CX X E)
    (ht : eval (.Call (.Attribute o m apos) [] [] pos) X.env = (do
      let ov ← eval o X.env
      standAt apos.atName
      let (f, first) ← holding [ov] (getMethod ov m pl)
      callWith pos f first (backTo pos (starEach [] X.env)) (backToKw pos (keywordEach [] X.env))) := by rfl) :
    PE X (.Call (.Attribute o m apos) [] [] pos) (tMeth C m sp dvs E ta tNil) := by
  intro pins s σ H Q I h
  refine PySem.W.methodCall_KW (pl := pl) (thn (he pins s σ H _ I h) fun u s1 ⟨x, H1, I1, rx, a, dx, fs, ex, ea, l, q⟩ => ?_) ht
  subst ex
  obtain rfl : u = Value.ref a := rx
  refine getmeth_ok I1 ea c hm l ?_
  exact PySem.W.callWith_K0 (first := [.ref a]) I1.kIn hm.kp (run_fn (us := [.ref a]) (vs := [.ref a]) F hr hb hd hx I1 (.cons rfl .nil) q)
structure Mk (K : PySem.W.Frag) (C f : Addr) : Prop where
  makes : PySem.W.makesIn K C = true
  init : PySem.W.findIn K (.ref C) "__init__" = some (some (.ref f))
  fn : PySem.W.isFn K (.ref f) = true
  kp : PySem.W.keepIn K (.ref C) = true
theorem run_make {pins : List (Addr × Obj)} {σ : St} {H : Hp} {s : Shared} {Q : VK} {us : List Value} {vs : List V} (M : Mk X.K C f) (F : FnOk X.prog X.w X.K X.mg X.base CX k f fd ps sp) (hr : Room (k + 1) X.A) (hb : Binds X.K fd ps ds) (hd : Vals dvs ds)
    (hx : Passes CX X E) (I : Inv X pins σ H s) (r : Vals vs us)
    (h : ∀ x dx, H x = none → H dx = none → dx ≠ x → sp (.ref x :: (vs ++ dvs)) (upd (upd H dx (.own x)) x (.ins C dx [])) (fun v H2 => v = .non ∧ Q (.ref x) H2) E) :
    wpAny (model X.prog X.w) X.A (call (.ref C) us) (EP X pins σ Q) X.xe s := by
  have hq := h (s.heap.objs.size + 1) s.heap.objs.size (I.hok.fresh (Nat.le_succ _)) (I.hok.fresh (Nat.le_refl _)) (Nat.ne_of_lt (Nat.lt_succ_self _))
  have I2 := Inv.made (C := C) I
  have r2 : Vals (V.ref (s.heap.objs.size + 1) :: (vs ++ dvs)) (Value.ref (s.heap.objs.size + 1) :: (us ++ ds)) := .cons rfl (r.append hd)
  have hl : (Value.ref (s.heap.objs.size + 1) :: us ++ ds).length = ps.length := by
    have e := r2.length
    rw [F.len _ _ _ _ hq] at e
    exact e.symm
  refine wpAny_call (make_map (f := f) I.kIn M.makes M.init (beq_iff_eq.mp M.fn) (codeAny_mono (F.run _ X.stack _ _ ⟨Value.ref (s.heap.objs.size + 1) :: us, []⟩ (Value.ref (s.heap.objs.size + 1) :: (us ++ ds)) _ _ E (hr.make C us [])
    (I2.env0.make C us []) (hb _ (Value.ref (s.heap.objs.size + 1) :: us) I2.kIn hl) r2 hq) fun r s' hq' => ?_))
  cases r with
  | error e => exact hx pins σ _ _ e s' I2 hq'
  | ok fl =>
    cases fl with
    | ret u =>
      obtain ⟨v, H', I3, rv, ev, q3⟩ := I2.after hq'
      subst ev
      exact ⟨rv, ⟨V.ref (s.heap.objs.size + 1), H', I3, rfl, q3⟩⟩
    | next => exact False.elim hq'
    | brk => exact False.elim hq'
    | cont => exact False.elim hq'
theorem pe_make (M : Mk X.K C f) (F : FnOk X.prog X.w X.K X.mg X.base CX k f fd ps sp) (hr : Room (k + 1) X.A) (hg : Gl X x) (hm : X.mg x = some (.ref C)) (hb : Binds X.K fd ps ds) (hd : Vals dvs ds) (hx : Passes CX X E)
    (ha : PA X (e :: es) t) (hdb : (x == ("__debug__" : Str)) = false := by decide) (he : starEach (e :: es) X.env = (false, eval e X.env) :: starEach es X.env := by rfl) (hpl : (backTo pos (starEach es X.env)).any (·.1) = false := by rfl) :
    PE X (.Call (.Name x p) (e :: es) [] pos) (tMake C sp dvs E t) := by
  intro pins s σ H Q I h
  refine wpAny_Call_Name_kw (ld_glob I hg hm ?_ hdb)
  refine PySem.W.callWith_K (h₀ := X.base) I.ok.mod.kin M.kp (thn (ha pos pins s σ H _ I h) fun us s1 ⟨vs, H1, I1, r, q⟩ => ⟨I1.kIn, ?_⟩) he hpl
  exact run_make M F hr hb hd hx I1 r q
end
section
variable {X : Cx} {CX : CXT} {k : Nat} {f C : Addr} {fd : FuncData} {ps ks : List Str} {sp : Sp} {E : XK} {x m : Str} {p pos apos kpos : Pos} {e o : Expr} {es : List Expr} {kws : List Keyword} {te ta : TE} {t tk : TA} {nm : Option Str}
variable {g : List Value → List Value → List Value} {gV : List V → List V → List V}
end
structure FnScope (N P : List Str) (sc : Scope) : Prop where
  kind : sc.kind = .function
  co : sc.isCoroutine = false
  gen : sc.isGenerator = false
  nd : N.Nodup
  pre : N.take P.length = P
  par : ∀ x ∈ P, sc.names.lookup x = some .local ∨ sc.names.lookup x = some .cell
  nofree : ∀ y ∈ sc.names, y.2 ≠ .free
theorem bindL_out {kindOf : Str → Option NameKind} {x : Str} : ∀ {binds : List (Str × Value)} {m : Str → Option Value}, (∀ v, (x, v) ∉ binds) → bindL kindOf binds m x = m x
  | [], _, _ => rfl
  | (n, v) :: r, m, h => by
    unfold bindL
    rw [bindL_out fun w hw => h w (List.mem_cons_of_mem _ hw)]
    split
    · have : x ≠ n := by rintro rfl; exact h v List.mem_cons_self
      simp [this]
    · rfl
theorem bindC_out {kindOf : Str → Option NameKind} {x : Str} : ∀ {binds : List (Str × Value)} {m : Str → Option Value}, (∀ v, (x, v) ∉ binds) → bindC kindOf binds m x = m x
  | [], _, _ => rfl
  | (n, v) :: r, m, h => by
    unfold bindC
    rw [bindC_out fun w hw => h w (List.mem_cons_of_mem _ hw)]
    split
    · rfl
    · have : x ≠ n := by rintro rfl; exact h v List.mem_cons_self
      simp [this]
theorem bindL_get {kindOf : Str → Option NameKind} {x : Str} {v : Value} : ∀ {P : List Str} {vs : List Value} {i : Nat} {m : Str → Option Value}, P.Nodup → P[i]? = some x → vs[i]? = some v → kindOf x = some .local →
    bindL kindOf (P.zip vs) m x = some v
  | [], _, _, _, _, h, _, _ => by simp at h
  | _ :: _, [], _, _, _, _, h, _ => by simp at h
  | p :: P, w :: vs, 0, m, nd, h1, h2, hk => by
    simp at h1 h2; subst h1; subst h2
    show bindL kindOf ((p, w) :: P.zip vs) m p = _
    unfold bindL
    rw [bindL_out fun v hv => (List.nodup_cons.mp nd).1 (List.of_mem_zip hv).1, if_pos hk]
    simp
  | p :: P, w :: vs, i + 1, m, nd, h1, h2, hk => by
    show bindL kindOf ((p, w) :: P.zip vs) m x = _
    unfold bindL
    exact bindL_get (i := i) (List.nodup_cons.mp nd).2 (by simpa using h1) (by simpa using h2) hk
theorem bindC_get {kindOf : Str → Option NameKind} {x : Str} {v : Value} : ∀ {P : List Str} {vs : List Value} {i : Nat} {m : Str → Option Value}, P.Nodup → P[i]? = some x → vs[i]? = some v → kindOf x ≠ some .local →
    bindC kindOf (P.zip vs) m x = some v
  | [], _, _, _, _, h, _, _ => by simp at h
  | _ :: _, [], _, _, _, _, h, _ => by simp at h
  | p :: P, w :: vs, 0, m, nd, h1, h2, hk => by
    simp at h1 h2; subst h1; subst h2
    show bindC kindOf ((p, w) :: P.zip vs) m p = _
    unfold bindC
    rw [bindC_out fun v hv => (List.nodup_cons.mp nd).1 (List.of_mem_zip hv).1, if_neg hk]
    simp
  | p :: P, w :: vs, i + 1, m, nd, h1, h2, hk => by
    show bindC kindOf ((p, w) :: P.zip vs) m x = _
    unfold bindC
    exact bindC_get (i := i) (List.nodup_cons.mp nd).2 (by simpa using h1) (by simpa using h2) hk
def start (N : List Str) (vs : List V) : St := vs.map some ++ List.replicate (N.length - vs.length) none
def cxOf (CX : CXT) (P : Program) (w : World) (K : PySem.W.Frag) (mg : Str → Option Value) (base : Heap) (N : List Str) (qual : Str) (scope : Scope) (f : Addr) (cd : Value) (A : Around) (outer : List Env) (s : Shared) (H : Hp) (E : XK) : Cx where
  prog := P
  w := w
  K := K
  mg := mg
  base := base
  A := A.deeper (envOfC qual scope s.heap.objs.size f cd)
  N := N
  s₀ := s
  H₀ := H
  env := envOfC qual scope s.heap.objs.size f cd
  outer := outer
  stack := envOfC qual scope s.heap.objs.size f cd :: outer
  ex := []
  calm := true
  fn := fun _ => true
  pn := []
  xe := fun e s' => wpAny (model P w) (A.deeper (envOfC qual scope s.heap.objs.size f cd)) (leaving (envOfC qual scope s.heap.objs.size f cd) e) (fun _ s'' => CX outer H s E e s'') (fun e' s'' => CX outer H s E e' s'') s'
theorem cell_has {sc : Scope} {n : Nat} {x : Str} (h : sc.names.lookup x = some .cell) : ∃ c, (cellsFrom n sc.names []).lookup x = some c := by
  have q := PySem.W.cellsFrom_some sc.names n [] (.inl h)
  exact Option.isSome_iff_exists.mp q
theorem inv_start {CX : CXT} {P : Program} {w : World} {K : PySem.W.Frag} {mg : Str → Option Value} {base : Heap} {N ps : List Str} {qual : Str} {scope : Scope} {f : Addr} {cd : Value} {A : Around} {outer : List Env} {s s1 : Shared} {H : Hp} {E : XK} {us : List Value} {vs : List V}
    (S : FnScope N ps scope) (hd : A.handled = none) (e0 : Env0 P w K mg base A outer s H) (hl : vs.length = ps.length) (r : Vals vs us)
    (x : InCallC s s.heap.objs.size (bindL (envOfC qual scope s.heap.objs.size f cd).kindOf (ps.zip us) fun _ => none) (cellsFrom (s.heap.objs.size + 1) scope.names []) (bindC (envOfC qual scope s.heap.objs.size f cd).kindOf (ps.zip us) fun _ => none) s1) :
    Inv (cxOf CX P w K mg base N qual scope f cd A outer s H E) [] (start N vs) H s1 := by
  have hpl : ps.length ≤ N.length := by have := congrArg List.length S.pre; rw [List.length_take] at this; omega
  obtain ⟨h1, tk, rfl, hk⟩ := x.done
  have noA : ∀ b : Addr, b ∉ (cxOf CX P w K mg base N qual scope f cd A outer s H E).ex := fun b z => absurd (show b ∈ ([] : List Addr) from z) (by simp)
  refine ⟨⟨e0.mod, S.kind, rfl, rfl, Nat.le_refl _, fun y z c h1 h2 => ?_, fun y hy => ?_, fun y c _ h => ?_, fun _ => hd, Around.frames_deeper e0.frames, .inr ⟨rfl, rfl⟩, fun b z => absurd z (noA b), e0.bs, e0.bsz, fun b _ _ => noA b, fun b z => absurd z (noA b), e0.funs, e0.frf⟩,
    rfl, e0.bare, Un.kept hk, ⟨_, x.toInCall.ns, fun i y v h1 h2 h3 => ?_⟩, fun y c h => ⟨_, x.cell y c h⟩, e0.hok.fresh (Nat.le_refl _), fun y c h => ?_, fun p hp => absurd (show p ∈ ([] : List (Addr × Obj)) from hp) (by simp), e0.hok.kept hk, ?_⟩
  · exact name_of_addr x.apart (PySem.mem_of_lookup h1) (PySem.mem_of_lookup h2)
  · have hy : scope.names.lookup y = some .cell ∨ scope.names.lookup y = some .free := hy
    rcases hy with hy | hy
    · exact cell_has hy
    · exact absurd rfl (S.nofree _ (PySem.mem_of_lookup hy))
  · exact Nat.le_of_lt (x.above y c (PySem.mem_of_lookup h))
  · have hi : i < vs.length := by
      unfold start at h2
      by_cases hi : i < vs.length
      · exact hi
      · rw [List.getElem?_append_right (by simpa using hi)] at h2
        rw [List.getElem?_replicate] at h2
        split at h2 <;> cases h2
    have ha : vs[i]? = some v := by
      unfold start at h2
      rw [List.getElem?_append_left (by simpa using hi), List.getElem?_map] at h2
      cases e : vs[i]? with
      | none => rw [e] at h2; cases h2
      | some a => rw [e] at h2; cases h2; rfl
    obtain ⟨u, hu, rv⟩ := r.get ha
    have hp : ps[i]? = some y := by
      rw [← S.pre, List.getElem?_take_of_lt (by omega)]; exact h1
    have ndP : ps.Nodup := by rw [← S.pre]; exact S.nd.sublist (List.take_sublist _ _)
    refine ⟨u, rv, ?_⟩
    rcases S.par y (List.mem_of_getElem? hp) with k | k
    · exact .inl ⟨k, bindL_get ndP hp hu k⟩
    · obtain ⟨c, e⟩ := cell_has (n := s.heap.objs.size + 1) k
      refine .inr ⟨.inl k, c, e, ?_⟩
      have q := x.cell y c e
      rw [bindC_get ndP hp hu (by show scope.names.lookup y ≠ _; rw [k]; decide)] at q
      exact q
  · exact e0.hok.fresh (Nat.le_of_lt (x.above y c (PySem.mem_of_lookup h)))
  · unfold start
    show _ = N.length
    rw [List.length_append, List.length_map, List.length_replicate]
    omega
theorem fn_of {CX : CXT} {P : Program} {w : World} {K : PySem.W.Frag} {mg : Str → Option Value} {base : Heap} {k : Nat} {f : Addr} {name qual : Str} {params : Arguments} {body : List Stmt} {scope : Scope} {dV kV doc pm cdv ct oc : Value} {an od : Option Addr}
    {osl : Array (Option Value)} {N ps : List Str} {sp : Sp} (lk : K.lookup f = some ⟨oc, od, .func (PySem.W.fnOf name qual params body scope dV kV doc pm an cdv ct), osl⟩) (hcd : PySem.W.codeIn K cdv qual = true) (S : FnScope N ps scope)
    (len : ∀ vs H Q E, sp vs H Q E → vs.length = ps.length)
    (hbody : ∀ (A : Around) (outer : List Env) (s : Shared) (H : Hp) (vs : List V) (Q : VK) (E : XK), Room k (A.deeper (envOfC qual scope s.heap.objs.size f cdv)) → sp vs H Q E →
      ∃ t, PSs (cxOf CX P w K mg base N qual scope f cdv A outer s H E) body t ∧ t { nx := fun _ H' => Q .non H', rt := Q } (start N vs) H) :
    FnOk P w K mg base CX (k + 1) f (PySem.W.fnOf name qual params body scope dV kV doc pm an cdv ct) ps sp := by
  refine ⟨len, fun A outer s H args us vs Q E hr e0 hb r hsp => ?_⟩
  have hl := len _ _ _ _ hsp
  have KX : K.In s.heap := e0.mod.kin.keeps fun b o e => (e0.bs b o e).1
  have lim : s.heap.NoLimit := e0.mod.nolimit.keeps fun b o e => (e0.bs b o e).1
  have hkind : ∀ y ∈ ps.zip us, scope.names.lookup y.1 = some .local ∨ (scope.names.lookup y.1 = some .cell ∧ ((cellsFrom (s.heap.objs.size + 1) scope.names []).lookup y.1).isSome = true) := fun ⟨n, v⟩ hy => by
    rcases S.par n (List.of_mem_zip hy).1 with q | q
    · exact .inl q
    · exact .inr ⟨q, PySem.W.cellsFrom_some _ _ _ (.inl q)⟩
  refine codeAny_call_function hr.depth (KX _ _ lk) rfl S.co S.gen rfl (PySem.W.codeRec_of KX hcd) (hb _ _ _ _ ?_)
  refine wpAny_newFunctionEnv_cells S.kind hkind fun env he s1 x => ?_
  subst he
  refine ⟨lim.keeps x.toInCall.keep, codeAny_func ?_⟩
  obtain ⟨t, ht, hq⟩ := hbody A outer s H vs Q E (hr.deeper _) hsp
  have I : Inv (cxOf CX P w K mg base N qual scope f cdv A outer s H E) [] (start N vs) H s1 := inv_start S hr.hd e0 hl r x
  refine wpAny_mono (ht [] s1 (start N vs) H _ I hq) (fun fl s' hs => ?_) fun e s' hs => hs
  have fin : ∀ {σ' : St} {H' : Hp} {v : V} {u : Value}, Inv (cxOf CX P w K mg base N qual scope f cdv A outer s H E) [] σ' H' s' → RelV v u → Q v H' → CE outer P w H s Q u s' :=
    fun {σ' H' v u} J rv q => ⟨v, H', J.os, J.bare, J.base, J.hok, rv, q⟩
  cases fl with
  | ret u =>
    obtain ⟨v, σ', H', J, rv, q⟩ := hs
    exact fin J rv q
  | next =>
    obtain ⟨σ', H', J, q⟩ := hs
    exact fin (v := V.non) (u := Value.none) J rfl q
  | brk =>
    obtain ⟨_, _, _, q⟩ := hs
    exact False.elim q
  | cont =>
    obtain ⟨_, _, _, q⟩ := hs
    exact False.elim q
end L2
namespace L2
open PySem PySem.Spec PyProof.Rows
section
variable {X : Cx} {x : Str} {p pos : Pos} {e : Expr} {es : List Expr} {t : TA} {id T : String} {r : List V → Hp → VK → Prop}
def tCB (r : List V → Hp → VK → Prop) (t : TA) : TE := fun σ H Q => t σ H fun vs H1 => r vs H1 Q
theorem pe_callB (hc : CallR X (.builtin id) r) (hg : Gl X x) (hm : X.mg x = none) (hv : bootBuiltins x = some (.builtin id)) (ha : PA X (e :: es) t) (hn : x ≠ "__name__" := by decide) (hdb : (x == ("__debug__" : Str)) = false := by decide)
    (he : starEach (e :: es) X.env = (false, eval e X.env) :: starEach es X.env := by rfl) (hpl : (backTo pos (starEach es X.env)).any (·.1) = false := by rfl) : PE X (.Call (.Name x p) (e :: es) [] pos) (tCB r t) := by
  intro pins s σ H Q I h
  refine wpAny_Call_Name_kw (ld_blt I hg hm hv ?_ hn hdb)
  exact PyProof.Rows.callWith_builtin1 (thn (ha pos pins s σ H _ I h) fun us s1 ⟨vs, H1, I1, r1, q1⟩ => hc pins s1 σ H1 vs us Q I1 r1 q1) he hpl
theorem pe_callTy (hc : CallR X (.type T) r) (hg : Gl X x) (hm : X.mg x = none) (hv : bootBuiltins x = some (.type T)) (ha : PA X (e :: es) t) (hn : x ≠ "__name__" := by decide) (hdb : (x == ("__debug__" : Str)) = false := by decide)
    (he : starEach (e :: es) X.env = (false, eval e X.env) :: starEach es X.env := by rfl) (hpl : (backTo pos (starEach es X.env)).any (·.1) = false := by rfl) : PE X (.Call (.Name x p) (e :: es) [] pos) (tCB r t) := by
  intro pins s σ H Q I h
  refine wpAny_Call_Name_kw (ld_blt I hg hm hv ?_ hn hdb)
  exact PyProof.Rows.callWith_type1 (thn (ha pos pins s σ H _ I h) fun us s1 ⟨vs, H1, I1, r1, q1⟩ => hc pins s1 σ H1 vs us Q I1 r1 q1) he hpl
end
end L2
namespace HT
open PySem PyProof.Rows
section
open PySem.SeqAt
open PySem.AutoSeq1 (wpAny_loadPart')
open PySem.MeetsSeq PySem.MeetsSeq2 PySem.MeetsSeq3
end
section
variable {prog : Program} {w : World} {A : Around} {E : Value → Shared → Prop} {s : Shared}
def sIx (n d : Nat) : Option Int → Nat
  | none => d
  | some v => if v < 0 then (v + (n : Int)).toNat else min v.toNat n
theorem sIx_none (n d : Nat) : sIx n d none = d := rfl
theorem sIx_nat (n d k : Nat) : sIx n d (some (k : Int)) = min k n := by
  show (if (k : Int) < 0 then ((k : Int) + (n : Int)).toNat else min (k : Int).toNat n) = min k n
  rw [if_neg (by omega), Int.toNat_natCast]
theorem sIx_le (n d : Nat) (hd : d ≤ n) (o : Option Int) : sIx n d o ≤ n := by
  cases o with
  | none => exact hd
  | some v =>
    show (if v < 0 then (v + (n : Int)).toNat else min v.toNat n) ≤ n
    by_cases hv : v < 0
    · rw [if_pos hv]; omega
    · rw [if_neg hv]; exact Nat.min_le_right _ _
end
end HT
namespace L2
open PySem PySem.Spec PyProof.Rows
abbrev TO := St → Hp → (Option Int → Hp → Prop) → Prop
def PO (X : Cx) (e : Option Expr) (t : TO) : Prop :=
  ∀ (pins : List (Addr × Obj)) (s : Shared) (σ : St) (H : Hp) (Q : Option Int → Hp → Prop), Inv X pins σ H s → t σ H Q →
    wpAny (model X.prog X.w) X.A (evalPart e X.env) (fun u s' => ∃ o H', Inv X pins σ H' s' ∧ IsPart u o ∧ Q o H') X.xe s
def tNoPart : TO := fun _ H Q => Q none H
def tPart (t : TE) : TO := fun σ H Q => t σ H fun x H1 => ∃ i, x = .int i ∧ Q (some i) H1
section
variable {X : Cx} {e : Expr} {te : TE} {lo hi : Option Expr} {tl th : TO} {pos p2 : Pos}
theorem po_none : PO X none tNoPart := by
  intro pins s σ H Q I h
  rw [evalPart_none]
  exact wpAny_pure ⟨none, H, I, .none, h⟩
theorem po_some (h : PE X e te) : PO X (some e) (tPart te) := by
  intro pins s σ H Q I hw
  rw [evalPart_some]
  refine thn (h pins s σ H _ I hw) fun u s1 ⟨x, H1, I1, r1, q1⟩ => ?_
  obtain ⟨i, rfl, q⟩ := q1
  obtain ⟨t, rfl⟩ := r1
  exact ⟨some i, H1, I1, .int i t, q⟩
def SlR (X : Cx) (r : V → Option Int → Option Int → Hp → VK → Prop) : Prop :=
  ∀ (pins : List (Addr × Obj)) (s : Shared) (σ : St) (H : Hp) (x : V) (v vl vu : Value) (lo hi : Option Int) (sl : Addr) (Q : VK), Inv X pins σ H s → RelV x v → s.heap.IsSliceOf sl vl vu .none → IsPart vl lo → IsPart vu hi → r x lo hi H Q →
    ∃ T id, typeLookup (.type T) "__getitem__" = pure (some (.builtin id)) ∧ s.TypeIs v T ∧ wpAny (model X.prog X.w) X.A (getItem v (.ref sl)) (EP X pins σ Q) X.xe s
theorem SlR.or {r r' : V → Option Int → Option Int → Hp → VK → Prop} (h : SlR X r) (h' : SlR X r') : SlR X (fun x lo hi H Q => r x lo hi H Q ∨ r' x lo hi H Q) := by
  intro pins s σ H x v vl vu lo hi sl Q I rx hs pl pu q
  rcases q with q | q
  · exact h pins s σ H x v vl vu lo hi sl Q I rx hs pl pu q
  · exact h' pins s σ H x v vl vu lo hi sl Q I rx hs pl pu q
def tSl (r : V → Option Int → Option Int → Hp → VK → Prop) (te : TE) (tl th : TO) : TE := fun σ H Q => te σ H fun x H1 => tl σ H1 fun l H2 => th σ H2 fun u H3 => r x l u H3 Q
theorem pe_slice {r : V → Option Int → Option Int → Hp → VK → Prop} (hr : SlR X r) (he : PE X e te) (hl : PO X lo tl) (hu : PO X hi th) : PE X (.Subscript e (.Slice lo hi none p2) pos) (tSl r te tl th) := by
  intro pins s σ H Q I h
  refine Subscript_ (thn (he pins s σ H _ I h) fun v s1 ⟨x, H1, I1, r1, q1⟩ => ?_)
  refine wpAny_Slice (thn (hl pins s1 σ H1 _ I1 q1) fun vl s2 ⟨l, H2, I2, pl, q2⟩ => thn (hu pins s2 σ H2 _ I2 q2) fun vu s3 ⟨u, H3, I3, pu, q3⟩ => ?_)
  rw [evalPart_none]
  refine wpAny_pure ?_
  have I4 : Inv X pins σ H3 { s3 with heap := s3.heap.push { cls := .type "slice", data := .fields #[vl, vu, .none] } } := I3.kept (t' := s3.toks) fun b ob q => Heap.get?_push_of_some _ q
  obtain ⟨T, id, hT, ht, hg⟩ := hr pins { s3 with heap := s3.heap.push { cls := .type "slice", data := .fields #[vl, vu, .none] } } σ H3 x v vl vu l u s3.heap.objs.size Q I4 r1 (Heap.IsSliceOf.new ..) pl pu q3
  show wpAny (model X.prog X.w) X.A (subscriptTail e (.Slice lo hi none p2) v (.ref s3.heap.objs.size)) (EP X pins σ Q) X.xe { s3 with heap := s3.heap.push { cls := .type "slice", data := .fields #[vl, vu, .none] } }
  exact tail_any (ops := [.ref s3.heap.objs.size, v]) ht hT hg (by with_unfolding_all rfl)
def cutV (xs : List V) (lo hi : Option Int) : List V := (xs.drop (HT.sIx xs.length 0 lo)).take (HT.sIx xs.length xs.length hi - HT.sIx xs.length 0 lo)
theorem cutV_length (xs : List V) (lo hi : Option Int) : (cutV xs lo hi).length ≤ xs.length := by
  unfold cutV
  rw [List.length_take, List.length_drop]
  omega
end
end L2
namespace L2
open PySem PySem.Spec PyProof.Rows
def ixN (n : Nat) (i : Int) : Option Nat := if 0 ≤ i then (if i < n then some i.toNat else none) else if -(n : Int) ≤ i then some (i + n).toNat else none
def atI {α : Type} (xs : List α) (i : Int) : Option α := (ixN xs.length i).bind fun j => xs[j]?
theorem ixN_seq {n : Nat} {i : Int} {j : Nat} (h : ixN n i = some j) : seqIndex? i n = some j ∧ j < n ∧ -(n : Int) ≤ i ∧ i < n := by
  unfold ixN at h
  by_cases h0 : 0 ≤ i
  · rw [if_pos h0] at h
    by_cases h1 : i < n
    · rw [if_pos h1] at h
      have e : i.toNat = j := Option.some.inj h
      exact ⟨by rw [seqIndex_of h0 h1, e], by omega, by omega, h1⟩
    · rw [if_neg h1] at h; cases h
  · rw [if_neg h0] at h
    by_cases h1 : -(n : Int) ≤ i
    · rw [if_pos h1] at h
      have e : (i + n).toNat = j := Option.some.inj h
      exact ⟨by rw [seqIndex_neg (by omega) h1, e], by omega, h1, by omega⟩
    · rw [if_neg h1] at h; cases h
theorem atI_get {α : Type} {xs : List α} {i : Int} {v : α} (h : atI xs i = some v) : ∃ j, seqIndex? i xs.length = some j ∧ xs[j]? = some v ∧ j < xs.length ∧ -(xs.length : Int) ≤ i ∧ i < xs.length := by
  unfold atI at h
  cases e : ixN xs.length i with
  | none => rw [e] at h; cases h
  | some j =>
    rw [e] at h
    obtain ⟨h1, h2, h3, h4⟩ := ixN_seq e
    exact ⟨j, h1, h, h2, h3, h4⟩
theorem atI_nat {α : Type} {xs : List α} {j : Nat} {v : α} (h : xs[j]? = some v) : atI xs (j : Int) = some v := by
  have hj : j < xs.length := (List.getElem?_eq_some_iff.mp h).1
  have e : ixN xs.length (j : Int) = some j := by
    unfold ixN
    rw [if_pos (by omega), if_pos (by omega)]; simp
  unfold atI; rw [e]; exact h
def PlainIx (b : Expr) : Prop := ∀ o i, subscripted b false o i = operate [o, i] (getItem o i)
def IxR (X : Cx) (r : R2) : Prop :=
  ∀ (value slice : Expr) (pins : List (Addr × Obj)) (s : Shared) (σ : St) (H : Hp) (x y : V) (v u : Value) (Q : VK), Inv X pins σ H s → RelV x v → RelV y u → r x y H Q →
    subscripted slice false v u = operate [v, u] (getItem v u) → wpAny (model X.prog X.w) X.A (subscriptTail value slice v u) (EP X pins σ Q) X.xe s
def MtR (X : Cx) (id : String) (r : V → List V → Hp → VK → Prop) : Prop :=
  ∀ (pins : List (Addr × Obj)) (s : Shared) (σ : St) (H : Hp) (x : V) (xs : List V) (v : Value) (us : List Value) (Q : VK), Inv X pins σ H s → RelV x v → Vals xs us → r x xs H Q →
    wpAny (model X.prog X.w) X.A (call (.builtin id) (v :: us)) (EP X pins σ Q) X.xe s
section
variable {X : Cx} {a b : Expr} {ta tb : TE} {pos : Pos}
theorem IxR.or {r r' : R2} (h : IxR X r) (h' : IxR X r') : IxR X (fun x y H Q => r x y H Q ∨ r' x y H Q) := by
  intro value slice pins s σ H x y v u Q I rx ry q hs
  rcases q with q | q
  · exact h value slice pins s σ H x y v u Q I rx ry q hs
  · exact h' value slice pins s σ H x y v u Q I rx ry q hs
theorem MtR.or {id : String} {r r' : V → List V → Hp → VK → Prop} (h : MtR X id r) (h' : MtR X id r') : MtR X id (fun x xs H Q => r x xs H Q ∨ r' x xs H Q) := by
  intro pins s σ H x xs v us Q I rx rs q
  rcases q with q | q
  · exact h pins s σ H x xs v us Q I rx rs q
  · exact h' pins s σ H x xs v us Q I rx rs q
theorem pe_ix {r : R2} (hr : IxR X r) (ha : PE X a ta) (hb : PE X b tb) (hs : PlainIx b) : PE X (.Subscript a b pos) (tOp r ta tb) := by
  intro pins s σ H Q I h
  exact Subscript_ (binT ha hb I h fun v u s2 x y H2 I2 rx ry q => hr a b pins s2 σ H2 x y v u Q I2 rx ry q (hs _ _))
def rIxL (K : PySem.W.Frag) : R2 := fun x y H Q => ∃ p xs i v, x = .ref p ∧ y = .int i ∧ SqL K H p xs ∧ atI xs i = some v ∧ Q v H
def rIxT (K : PySem.W.Frag) : R2 := fun x y H Q => ∃ p xs i v, x = .ref p ∧ y = .int i ∧ SqT K H p xs ∧ atI xs i = some v ∧ Q v H
def rIxS : R2 := fun x y H Q => ∃ z i c, x = .str z ∧ y = .int i ∧ z.length ≤ sizeLine ∧ atI z.cps.toList i = some c ∧ Q (.str ⟨#[c]⟩) H
theorem ix_list : IxR X (rIxL X.K) := by
  intro value slice pins s σ H x y v u Q I rx ry h hs
  obtain ⟨p, xs, i, z, rfl, rfl, hq, he, q⟩ := h
  cases rx
  obtain ⟨t, rfl⟩ := ry
  obtain ⟨its, r, pl, hz⟩ := I.list hq
  obtain ⟨j, h1, h2, h3, h4, h5⟩ := atI_get he
  obtain ⟨w, ew, rw'⟩ := r.get h2
  have hl := r.length
  have hn := line63
  have fin : EP X pins σ Q w s := ⟨z, H, I, rw', q⟩
  by_cases h0 : 0 ≤ i
  · have hj : i.toNat = j := by
      rw [seqIndex_of h0 h5] at h1
      exact Option.some.inj h1
    exact item_listR pl.isList h0 (by omega) (by rw [hj]; simpa using ew) fin hs
  · have hj : (i + (its.toArray.size : Int)).toNat = j := by
      rw [seqIndex_neg (by omega) h4] at h1
      rw [List.size_toArray, ← hl]
      exact Option.some.inj h1
    exact subscriptTail_builtinR (x := w) pl.isList.typeIs slot_list_getitem.lookup
      (wpAny_getItem_list_neg (Q := fun r s' => r = w ∧ EP X pins σ Q r s') pl.isList (by omega) (by rw [List.size_toArray] <;> omega) (by omega) (by rw [hj]; simpa using ew) ⟨rfl, fin⟩) hs
theorem ix_tup : IxR X (rIxT X.K) := by
  intro value slice pins s σ H x y v u Q I rx ry h hs
  obtain ⟨p, xs, i, z, rfl, rfl, hq, he, q⟩ := h
  cases rx
  obtain ⟨t, rfl⟩ := ry
  obtain ⟨its, r, pl, hz⟩ := I.tuple hq
  obtain ⟨j, h1, h2, h3, h4, h5⟩ := atI_get he
  obtain ⟨w, ew, rw'⟩ := r.get h2
  have hl := r.length
  have hn := line63
  have fin : EP X pins σ Q w s := ⟨z, H, I, rw', q⟩
  exact subscriptTail_builtinR (x := w) pl.typeIs slot_tuple_getitem.lookup
    (getItem_tuple (j := j) (Q := fun r s' => r = w ∧ EP X pins σ Q r s') pl (by omega) (by omega) (by rw [List.size_toArray, ← hl]; exact h1) (by simpa using ew) ⟨rfl, fin⟩) hs
theorem ix_str : IxR X rIxS := by
  intro value slice pins s σ H x y v u Q I rx ry h hs
  obtain ⟨z, i, c, rfl, rfl, hz, he, q⟩ := h
  obtain ⟨t, rfl⟩ := rx
  obtain ⟨t', rfl⟩ := ry
  obtain ⟨j, h1, h2, h3, h4, h5⟩ := atI_get he
  have hl : z.cps.toList.length = z.length := by simp [Str.length]
  rw [hl] at h1 h4 h5
  have hn := line63
  exact tail_any (typeIs_str s z t) slot_str_getitem.lookup (getItem_str (c := c) (by
    have e1 : decide (i < -(2 ^ 63 : Int)) = false := decide_eq_false (by omega)
    have e2 : decide (i ≥ 2 ^ 63) = false := decide_eq_false (by omega)
    rw [e1, e2, Bool.or_false]) (by rw [h1]; simpa using h2) ⟨.str ⟨#[c]⟩, H, I.tok _, ⟨_, rfl⟩, q⟩) hs
theorem Inv.lst {pins : List (Addr × Obj)} {σ : St} {H : Hp} {s : Shared} {p : Addr} {xs : List V} (I : Inv X pins σ H s) (h : H p = some (.lst xs)) :
    ∃ (its : List Value) (n : Nat), Vals xs its ∧ s.heap.get? p = some { cls := .type "list", data := .seq its.toArray n } ∧ xs.length ≤ sizeLine := by
  obtain ⟨z, its, n, r, e⟩ := I.hok p _ h
  exact ⟨its, n, r, e, z⟩
theorem slice_bounds (lo hi : Option Int) (n : Nat) : (sliceBounds lo hi none n).1 = ((HT.sIx n 0 lo : Nat) : Int) ∧ (sliceBounds lo hi none n).2.1 = ((HT.sIx n n hi : Nat) : Int) ∧ (sliceBounds lo hi none n).2.2 = 1 := by
  refine ⟨?_, ?_, rfl⟩
  · cases lo with
    | none => simp [sliceBounds, HT.sIx]
    | some i =>
      simp only [sliceBounds, HT.sIx, Option.getD_none, show (1 : Int) > 0 by decide, if_true]
      by_cases h : i < 0
      · simp only [h, if_true] <;> omega
      · simp only [h, if_false] <;> omega
  · cases hi with
    | none => simp [sliceBounds, HT.sIx]
    | some i =>
      simp only [sliceBounds, HT.sIx, Option.getD_none, show (1 : Int) > 0 by decide, if_true]
      by_cases h : i < 0
      · simp only [h, if_true] <;> omega
      · simp only [h, if_false] <;> omega
theorem slicePick_cut (its : List Value) (lo hi : Option Int) : slicePick its.toArray lo hi none = ((its.drop (HT.sIx its.length 0 lo)).take (HT.sIx its.length its.length hi - HT.sIx its.length 0 lo)).toArray := by
  obtain ⟨h1, h2, h3⟩ := slice_bounds lo hi its.toArray.size
  unfold slicePick
  rw [h1, h2, h3]
  simp only [sliceRange_one, pick_run, List.size_toArray] <;> rfl
def rSlL (K : PySem.W.Frag) : V → Option Int → Option Int → Hp → VK → Prop := fun x lo hi H Q => ∃ a xs, x = .ref a ∧ SqL K H a xs ∧ ∀ p, H p = none → Q (.ref p) (upd H p (.lst (cutV xs lo hi)))
theorem sl_list : SlR X (rSlL X.K) := by
  intro pins s σ H x v vl vu lo hi sl Q I rx hs pl pu h
  obtain ⟨a, xs, rfl, hx, q⟩ := h
  cases rx
  obtain ⟨its, r, ht, hz⟩ := I.list hx
  have hlen := r.length
  refine ⟨"list", _, slot_list_getitem.lookup, ht.isList.typeIs, ?_⟩
  refine wpAny_getItem_list_slice ht.isList hs pl pu .none (by simp) ?_ (by rw [List.size_toArray] <;> omega)
  rw [slicePick_cut, ← hlen]
  refine ⟨.ref s.heap.objs.size, _, I.laid (t' := s.toks) (o := .lst (cutV xs lo hi)) (fun b ob q => Heap.get?_push_of_some _ q) (Nat.le_refl _) ?_, rfl, q _ (I.hok.fresh (Nat.le_refl _))⟩
  exact ⟨Nat.le_trans (cutV_length xs lo hi) hz, _, 0, (r.drop (HT.sIx xs.length 0 lo)).take (HT.sIx xs.length xs.length hi - HT.sIx xs.length 0 lo), Heap.get?_push_size _ rfl⟩
def flatV : V → Bool
  | .non => true
  | .bl _ => true
  | .int _ => true
  | .str _ => true
  | _ => false
def eqV : V → V → Bool
  | .non, .non => true
  | .bl a, .bl b => a == b
  | .bl a, .int b => (if a then 1 else 0) == b
  | .int a, .bl b => a == (if b then 1 else 0)
  | .int a, .int b => a == b
  | .str a, .str b => a == b
  | _, _ => false
theorem eqAt_V {A : Around} {s : Shared} {y x : V} {u v : Value} (ry : RelV y u) (rx : RelV x v) (fy : flatV y = true) (fx : flatV x = true) : SeqAt.EqAt A s u v (eqV y x) := by
  cases y with
  | non =>
    cases ry
    cases x with
    | non => cases rx; exact SeqAt.EqAt.same _
    | bl b => cases rx; exact SeqAt.EqAt.none_bool b
    | int b => obtain ⟨t, rfl⟩ := rx; exact SeqAt.EqAt.none_int b t
    | str b => obtain ⟨t, rfl⟩ := rx; exact SeqAt.EqAt.none_str b t
    | _ => exact absurd (show false = true from fx) Bool.false_ne_true
  | bl a =>
    cases ry
    cases x with
    | non => cases rx; exact SeqAt.EqAt.bool_none a
    | bl b => cases rx; exact SeqAt.EqAt.bool_bool a b
    | int b => obtain ⟨t, rfl⟩ := rx; exact SeqAt.EqAt.bool_int a b t
    | str b => obtain ⟨t, rfl⟩ := rx; exact SeqAt.EqAt.bool_str a b t
    | _ => exact absurd (show false = true from fx) Bool.false_ne_true
  | int a =>
    obtain ⟨t', rfl⟩ := ry
    cases x with
    | non => cases rx; exact SeqAt.EqAt.int_none a t'
    | bl b => cases rx; exact SeqAt.EqAt.int_bool a t' b
    | int b => obtain ⟨t, rfl⟩ := rx; exact SeqAt.EqAt.int_int a t' b t
    | str b => obtain ⟨t, rfl⟩ := rx; exact SeqAt.EqAt.int_str a t' b t
    | _ => exact absurd (show false = true from fx) Bool.false_ne_true
  | str a =>
    obtain ⟨t', rfl⟩ := ry
    cases x with
    | non => cases rx; exact SeqAt.EqAt.str_none a t'
    | bl b => cases rx; exact SeqAt.EqAt.str_bool a t' b
    | int b => obtain ⟨t, rfl⟩ := rx; exact SeqAt.EqAt.str_int a t' b t
    | str b => obtain ⟨t, rfl⟩ := rx; exact SeqAt.EqAt.str_str a t' b t
    | _ => exact absurd (show false = true from fx) Bool.false_ne_true
  | _ => exact absurd (show false = true from fy) Bool.false_ne_true
def eqU (x : V) (u : Value) : Bool := match u with
  | .none => eqV .non x
  | .bool b => eqV (.bl b) x
  | .int i _ => eqV (.int i) x
  | .str z _ => eqV (.str z) x
  | _ => false
theorem eqU_of {x y : V} {u : Value} (r : RelV y u) (f : flatV y = true) : eqU x u = eqV y x := by
  cases y with
  | non => cases r; rfl
  | bl b => cases r; rfl
  | int i => obtain ⟨t, rfl⟩ := r; rfl
  | str z => obtain ⟨t, rfl⟩ := r; rfl
  | _ => exact absurd (show false = true from f) Bool.false_ne_true
theorem any_eqU {x : V} : ∀ {xs : List V} {us : List Value}, Vals xs us → xs.all flatV = true → us.any (eqU x) = xs.any fun y => eqV y x
  | _, _, .nil, _ => rfl
  | y :: xs, u :: us, .cons r t, f => by
    rw [List.all_cons, Bool.and_eq_true] at f
    rw [List.any_cons, List.any_cons, eqU_of r f.1, any_eqU t f.2]
theorem mem_eqAt {A : Around} {s : Shared} {x : V} {v : Value} (rx : RelV x v) (fx : flatV x = true) : ∀ {xs : List V} {us : List Value}, Vals xs us → xs.all flatV = true → ∀ u ∈ us, SeqAt.EqAt A s u v (eqU x u)
  | _, _, .nil, _ => fun u hu => by cases hu
  | y :: xs, u :: us, .cons r t, f => fun u' hu => by
    rw [List.all_cons, Bool.and_eq_true] at f
    rcases List.mem_cons.mp hu with rfl | hu
    · rw [eqU_of r f.1]; exact eqAt_V r rx f.1 fx
    · exact mem_eqAt rx fx t f.2 u' hu
def inV (x : V) (xs : List V) : Bool := xs.any fun y => eqV y x
def rIn (K : PySem.W.Frag) (neg : Bool) : R2 := fun x y H Q => ∃ p xs, y = .ref p ∧ (SqL K H p xs ∨ SqT K H p xs) ∧ flatV x = true ∧ xs.all flatV = true ∧ Q (.bl (if neg then !inV x xs else inV x xs)) H
theorem op_in_seq : OpR X (compareOp .In) (rIn X.K false) := by
  intro pins s σ H x y v u Q I rx ry h
  obtain ⟨p, xs, rfl, hq, fx, fs, q⟩ := h
  cases ry
  rcases hq with hq | hq
  · obtain ⟨its, r, pl, hz⟩ := I.list hq
    refine SeqAt.in_listAt (eqU x) pl.isList (fun w hw => mem_eqAt rx fx r fs w (by simpa using hw)) ⟨.bl _, H, I, rfl, ?_⟩
    rw [show its.toArray.any (eqU x) = its.any (eqU x) by simp, any_eqU r fs]
    exact q
  · obtain ⟨its, r, pl, hz⟩ := I.tuple hq
    refine SeqAt.in_tupleAt (eqU x) pl (fun w hw => mem_eqAt rx fx r fs w (by simpa using hw)) ⟨.bl _, H, I, rfl, ?_⟩
    rw [show its.toArray.any (eqU x) = its.any (eqU x) by simp, any_eqU r fs]
    exact q
theorem op_notIn_seq : OpR X (compareOp .NotIn) (rIn X.K true) := by
  intro pins s σ H x y v u Q I rx ry h
  obtain ⟨p, xs, rfl, hq, fx, fs, q⟩ := h
  cases ry
  rcases hq with hq | hq
  · obtain ⟨its, r, pl, hz⟩ := I.list hq
    refine SeqAt.notIn_listAt (eqU x) pl.isList (fun w hw => mem_eqAt rx fx r fs w (by simpa using hw)) ⟨.bl _, H, I, rfl, ?_⟩
    rw [show its.toArray.any (eqU x) = its.any (eqU x) by simp, any_eqU r fs]
    exact q
  · obtain ⟨its, r, pl, hz⟩ := I.tuple hq
    refine SeqAt.notIn_tupleAt (eqU x) pl (fun w hw => mem_eqAt rx fx r fs w (by simpa using hw)) ⟨.bl _, H, I, rfl, ?_⟩
    rw [show its.toArray.any (eqU x) = its.any (eqU x) by simp, any_eqU r fs]
    exact q
theorem CallR.or {f : Value} {r r' : List V → Hp → VK → Prop} (h : CallR X f r) (h' : CallR X f r') : CallR X f (fun xs H Q => r xs H Q ∨ r' xs H Q) := by
  intro pins s σ H xs us Q I rs q
  rcases q with q | q
  · exact h pins s σ H xs us Q I rs q
  · exact h' pins s σ H xs us Q I rs q
theorem call_list_of : CallR X (.type "list") (fun xs H Q => ∃ p ys, xs = [.ref p] ∧ (SqL X.K H p ys ∨ SqT X.K H p ys) ∧ ∀ l, H l = none → Q (.ref l) (upd H l (.lst ys))) := by
  intro pins s σ H xs us Q I r h
  obtain ⟨p, ys, rfl, hq, q⟩ := h
  obtain ⟨u, rfl, rx⟩ := vals1 r
  cases rx
  have fin : ∀ (its : List Value), Vals ys its → ys.length ≤ sizeLine → ∀ (h' : Heap) (c' : Nat), (∀ b o', s.heap.get? b = some o' → h'.get? b = some o') →
      h'.get? s.heap.objs.size = some { cls := .type "list", dict := none, data := .seq its.toArray c', slots := #[] } → EP X pins σ Q (.ref s.heap.objs.size) { s with heap := h' } := fun its r' hz h' c' kp e =>
    ⟨.ref s.heap.objs.size, _, I.laid (t' := s.toks) kp (Nat.le_refl _) (show ObjOk X.prog X.w _ h' _ (.lst ys) from ⟨hz, its, c', r', e⟩), rfl, q _ (I.hok.fresh (Nat.le_refl _))⟩
  rcases hq with hq | hq
  · obtain ⟨its, r', pl, hz⟩ := I.list hq
    have hlen := r'.length
    obtain ⟨o, ho, hc, n, hd⟩ := pl.isList
    exact call_list_seq p (.inl rfl) ho hc hd (fun h' c' kp e => fin its r' hz h' c' kp e) (by simp only [List.size_toArray] <;> omega)
  · obtain ⟨its, r', pl, hz⟩ := I.tuple hq
    have hlen := r'.length
    obtain ⟨o, ho, hc, n, hd⟩ := pl
    exact call_list_seq p (.inr rfl) ho hc hd (fun h' c' kp e => fin its r' hz h' c' kp e) (by simp only [List.size_toArray] <;> omega)
def tyV (K : PySem.W.Frag) (T : String) (x : V) (H : Hp) : Prop := match x with
  | .str _ => T = "str"
  | .int _ => T = "int"
  | .ref p => (T = "list" ∧ ∃ xs, SqL K H p xs) ∨ (T = "tuple" ∧ ∃ o, K.lookup p = some o ∧ o.cls = .type "tuple" ∧ o.dict = none) ∨
      (T = "dict" ∧ ((∃ kvs, H p = some (.dK kvs)) ∨ ∃ kvs, H p = some (.dT kvs))) ∨ (T = "set" ∧ ∃ S n, H p = some (.set S n))
  | _ => False
theorem tyV_is {pins : List (Addr × Obj)} {σ : St} {H : Hp} {s : Shared} {T : String} {x : V} {v : Value} (I : Inv X pins σ H s) (r : RelV x v) (ty : tyV X.K T x H) :
    s.TypeIs v T ∧ ∀ a, v = .ref a → ∃ ob, s.heap.get? a = some ob ∧ ob.dict = none := by
  cases x with
  | str z =>
    obtain ⟨t, rfl⟩ := r
    cases (show T = "str" from ty)
    exact ⟨typeIs_str s z t, fun _ e => nomatch e⟩
  | int i =>
    obtain ⟨t, rfl⟩ := r
    cases (show T = "int" from ty)
    exact ⟨typeIs_int s i t, fun _ e => nomatch e⟩
  | ref p =>
    cases r
    rcases ty with ⟨rfl, xs, hq⟩ | ⟨rfl, o, hk, hc, hd⟩ | ⟨rfl, hk⟩ | ⟨rfl, S, n, hk⟩
    · obtain ⟨its, _, pl, _⟩ := I.list hq
      refine ⟨pl.isList.typeIs, fun a e => ?_⟩
      cases e
      obtain ⟨o, n, e, c, hd, _⟩ := pl
      exact ⟨o, e, hd⟩
    · refine ⟨⟨o, I.kIn p o hk, hc⟩, fun a e => ?_⟩
      cases e
      exact ⟨o, I.kIn _ o hk, hd⟩
    · have z : ∃ o, s.heap.get? p = some o ∧ o.ExactDict := by
        rcases hk with ⟨kvs, hk⟩ | ⟨kvs, hk⟩
        · obtain ⟨_, _, _, _, o, _, _, e, ex, _⟩ := I.hok p _ hk
          exact ⟨o, e, ex⟩
        · obtain ⟨_, _, _, _, o, _, _, e, ex, _⟩ := I.hok p _ hk
          exact ⟨o, e, ex⟩
      obtain ⟨o, e, ex⟩ := z
      refine ⟨⟨o, e, ex.1⟩, fun a e2 => ?_⟩
      cases e2
      exact ⟨o, e, ex.2.1⟩
    · obtain ⟨o, _, _, _, e, ex, _⟩ := I.hok p _ hk
      refine ⟨⟨o, e, ex.1⟩, fun a e2 => ?_⟩
      cases e2
      exact ⟨o, e, ex.2.1⟩
  | _ => exact False.elim ty
def tBM0 (K : PySem.W.Frag) (T : String) (r : V → List V → Hp → VK → Prop) (to : TE) : TE := fun σ H Q => to σ H fun x H1 => tyV K T x H1 ∧ r x [] H1 Q
def tBM (K : PySem.W.Frag) (T : String) (r : V → List V → Hp → VK → Prop) (to : TE) (t : TA) : TE := fun σ H Q => to σ H fun x H1 => tyV K T x H1 ∧ t σ H1 fun xs H2 => r x xs H2 Q
variable {o e : Expr} {es : List Expr} {to : TE} {t : TA} {name : Str} {apos cpos : Pos} {T id : String} {r : V → List V → Hp → VK → Prop}
theorem pe_bm (pa : PlainAttrs T) (slot : Slot T name id) (hty : typeOf (.builtin id) = pure (.type "method_descriptor")) (hm : MtR X id r) (ho : PE X o to) (ha : PA X (e :: es) t)
    (hbase : attributeBase o name X.env (eval o X.env) = eval o X.env := by rfl)
    (hfew : ((backTo cpos (starEach (e :: es) X.env)).all (fun x => !x.1) && (backToKw cpos (keywordEach [] X.env)).all (fun x => x.1.isSome)
      && decide ((e :: es).length + ([] : List Keyword).length + (if ([] : List Keyword).isEmpty then 0 else 1) < 30)) = true := by rfl)
    (hline : (apos.endLine == cpos.line) = true := by rfl) (hs : starEach (e :: es) X.env = (false, eval e X.env) :: starEach es X.env := by rfl) (hplain : (backTo cpos (starEach es X.env)).any (·.1) = false := by rfl) :
    PE X (.Call (.Attribute o name apos) (e :: es) [] cpos) (tBM X.K T r to t) := by
  intro pins s σ H Q I h
  refine wpAny_Call_method_late hbase hfew hline rfl (thn (ho pins s σ H _ I h) fun v s1 ⟨x, H1, I1, r1, ty, q1⟩ => ?_)
  obtain ⟨h1, h2⟩ := tyV_is I1 r1 ty
  refine ⟨T, id, pa, slot, hty, h1, h2, ?_⟩
  have hA := ha cpos pins s1 σ H1 _ I1 q1
  rw [hs] at hA ⊢
  refine Calls.callWith_builtin (by show (false || (backTo cpos (starEach es X.env)).any (·.1)) = false; rw [hplain] <;> rfl) (Calls.evalArgs_plain ?_)
  exact thn hA fun us s2 ⟨vs, H2, I2, r2, q2⟩ => hm pins s2 σ H2 x vs v us Q I2 r1 r2 q2
/- xs.append(e), list.index on a module's tuple .. are MtR facts of 06m -/
end
end L2
namespace L2
open PySem PySem.Spec PyProof.Rows
def MtM (X : Cx) (id : String) (r : V → List V → Hp → VK → Prop) : Prop :=
  ∀ (pins : List (Addr × Obj)) (s : Shared) (σ : St) (H : Hp) (x : V) (xs : List V) (v : Value) (us : List Value) (Q : VK), Inv X pins σ H s → RelV x v → Vals xs us → r x xs H Q →
    wpAny (model X.prog X.w) X.A (call (.builtin id) (v :: us)) (EP X pins σ Q) X.xe s
theorem Vals.one : ∀ {x : V} {us : List Value}, Vals [x] us → ∃ u, us = [u] ∧ RelV x u
  | _, _, .cons r .nil => ⟨_, rfl, r⟩
theorem Vals.two : ∀ {x y : V} {us : List Value}, Vals [x, y] us → ∃ u v, us = [u, v] ∧ RelV x u ∧ RelV y v
  | _, _, _, .cons r (.cons q .nil) => ⟨_, _, rfl, r, q⟩
theorem Vals.zero : ∀ {us : List Value}, Vals [] us → us = []
  | _, .nil => rfl
theorem Vals.dropLast {xs : List V} {us : List Value} (h : Vals xs us) : Vals xs.dropLast us.dropLast := by
  induction h with
  | nil => exact .nil
  | cons r t ih =>
    cases t with
    | nil => exact .nil
    | cons q t' => exact .cons r ih
theorem Vals.reverse {xs : List V} {us : List Value} (h : Vals xs us) : Vals xs.reverse us.reverse := by
  induction h with
  | nil => exact .nil
  | cons r t ih => rw [List.reverse_cons, List.reverse_cons]; exact Vals.append ih (.cons r .nil)
section
variable {X : Cx} {pins : List (Addr × Obj)} {σ : St} {H : Hp} {s : Shared} {l b : Addr} {xs ys zs : List V}
theorem Inv.lset {its its' : List Value} {n : Nat} {f : Array Value → Array Value} {t' : Nat} (I : Inv X pins σ H s) (hH : H l = some (.lst xs))
    (e : s.heap.get? l = some { cls := .type "list", data := .seq its.toArray n }) (hf : f its.toArray = its'.toArray) (hv : Vals ys its') (hz : ys.length ≤ sizeLine) :
    Inv X pins σ (upd H l (.lst ys)) { s with heap := s.heap.update l (Obj.mapSeq f), toks := t' } := by
  have q := PySem.IsL.update e f
  rw [hf] at q
  refine I.write (x := l) (e := l) (by rw [hH]; exact trivial) (.inl rfl) (fun b' u hb hu => (Heap.get?_update_other s.heap (Obj.mapSeq f) (Ne.symm hb)).trans hu) ⟨_, q⟩ ?_
  exact ⟨hz, its', _, hv, q⟩
theorem Inv.lnew {its : List Value} {t' : Nat} (I : Inv X pins σ H s) (hv : Vals ys its) (hz : ys.length ≤ sizeLine) :
    Inv X pins σ (upd H s.heap.objs.size (.lst ys)) { s with heap := s.heap.push { cls := .type "list", data := .seq its.toArray }, toks := t' } :=
  I.laid (fun _ _ q => Heap.get?_push_of_some _ q) (Nat.le_refl _) ⟨hz, its, 0, hv, Heap.get?_push_size _ rfl⟩
theorem Inv.fresh (I : Inv X pins σ H s) : H s.heap.objs.size = none := I.hok.fresh (Nat.le_refl _)
theorem Inv.lstM (I : Inv X pins σ H s) (hH : H l = some (.lst xs)) : xs.length ≤ sizeLine ∧ ∃ (its : List Value) (n : Nat), Vals xs its ∧ xs.length = its.length ∧ s.heap.get? l = some { cls := .type "list", data := .seq its.toArray n } := by
  obtain ⟨z, its, n, r, e⟩ := I.hok l _ hH
  exact ⟨z, its, n, r, r.length, e⟩
end
section
variable {X : Cx}
def rAppend : V → List V → Hp → VK → Prop := fun x vs H Q => ∃ l xs y, x = .ref l ∧ vs = [y] ∧ H l = some (.lst xs) ∧ xs.length < sizeLine ∧ Q .non (upd H l (.lst (xs ++ [y])))
theorem mt_append : MtM X "list.append" rAppend := by
  intro pins s σ H x vs v us Q I rx rv h
  obtain ⟨l, xs, y, rfl, rfl, hH, hz, q⟩ := h
  cases rx
  obtain ⟨u, rfl, ru⟩ := rv.one
  obtain ⟨z, its, n, r, hl, e⟩ := I.lstM hH
  refine call_meets F.slot_list_append ⟨_, e, rfl⟩ F.entry_list_append (F.args_list_append_2 _ _) (PySem.list_append l its.toArray n u (by rw [List.size_toArray]; omega)) ⟨e, ?_⟩
  refine ⟨.non, _, I.lset (its' := its ++ [u]) hH e (by simp) (r.append (.cons ru .nil)) ?_, rfl, q⟩
  rw [List.length_append, List.length_singleton]
  omega
def rCat : R2 := fun x y H Q => ∃ l b xs zs, x = .ref l ∧ y = .ref b ∧ H l = some (.lst xs) ∧ H b = some (.lst zs) ∧ xs.length + zs.length ≤ sizeLine ∧ ∀ p, H p = none → Q (.ref p) (upd H p (.lst (xs ++ zs)))
theorem op_cat : OpR X (binaryOp .Add) rCat := by
  intro pins s σ H x y v u Q I rx ry h
  obtain ⟨l, b, xs, zs, rfl, rfl, hH, hB, hz, q⟩ := h
  cases rx
  cases ry
  obtain ⟨z, its, n, r, hl, e⟩ := I.lstM hH
  obtain ⟨z2, its2, n2, r2, hl2, e2⟩ := I.lstM hB
  refine PySem.P.add_list e e2 ?_ (by rw [List.size_toArray, List.size_toArray]; omega)
  have ea : its.toArray ++ its2.toArray = (its ++ its2).toArray := by simp
  rw [ea]
  exact ⟨.ref _, _, I.lnew (t' := s.toks) (r.append r2) (by rw [List.length_append]; omega), rfl, q _ I.fresh⟩
end
section
variable {prog : Program} {w : World} {A : Around} {E : Value → Shared → Prop} {s : Shared}
end
section
variable {X : Cx}
end
end L2
namespace Att
open PySem PySem.W PySem.Calls PyProof.Rows
theorem ints_of_wellAll {P : Params} {h : Heap} : ∀ (ns : List Int) (vs : List Value), WellAll P h vs (ns.map WData.int) → IntsAre vs ns := by
  intro ns
  induction ns with
  | nil =>
    intro vs w
    rw [List.map_nil] at w
    cases w
    exact .nil
  | cons n ns ih =>
    intro vs w
    rw [List.map_cons] at w
    cases w with
    | cons a b =>
      cases a
      exact .cons _ _ (ih _ b)
theorem script_of {l : OpenLaw} {n : Nat} (hn : l.most = some n) {P : Params} {h : Heap} {args : List WData} {vals : List Value}
    (hpre : l.row.toRowW.claim.pre args = true) (hwl : WellAll P h vals args) :
    ∃ a vs ns, vals = [Value.ref a] ∧ args = [WData.list (ns.map WData.int)] ∧ h.get? a = some { cls := .type "list", data := .seq vs.toArray } ∧ IntsAre vs ns ∧ ns.length ≤ n := by
  have hsh : WShape.hasAll [] args [.list .int] = true := (pre_splitW hpre).1
  have hc : l.pre.holds [] { args := args } = true := (pre_splitW hpre).2
  obtain ⟨d, r, rfl, h1, h2⟩ := hasAllW_cons hsh
  obtain rfl := hasAllW_nil h2
  obtain ⟨xs, rfl, h3⟩ := hasW_list h1
  obtain ⟨ns, rfl⟩ := items_int h3
  have hlen : ns.length ≤ n := by
    unfold OpenLaw.pre at hc
    have h4 : (WTm.not (.lt (.lit (.int (n : Int))) (.len (.arg 0)))).holds [] { args := [.list (ns.map .int)] } = true := by
      have h4 := (holds_andW hc).1
      rw [hn] at h4
      exact h4
    have h5 := condW_of h4 (w_not (w_lt w_lit (w_len_list (w_arg rfl))))
    rw [List.length_map] at h5
    refine Nat.le_of_not_lt fun q => ?_
    have q' : (n : Int) < ((ns.length : Nat) : Int) := by omega
    first
      | (rw [decide_eq_true q'] at h5; exact absurd h5 (by decide))
      | (simp at h5; omega)
  cases hwl with
  | cons w1 w2 =>
    cases w2
    cases w1 with
    | list ho hall => exact ⟨_, _, ns, rfl, rfl, ho, ints_of_wellAll ns _ hall, hlen⟩
theorem post_true (l : OpenLaw) (args : List WData) : l.row.toRowW.claim.post args (.bool true) args = true :=
  postW_of (r := l.row.toRowW) (X := (true == true))
    (show WShape.has [] (.bool true) .bool = true by first | rfl | decide | simp [WShape.has, WShape.arms, WShape.armsAll])
    (show (WTm.eq .res (.lit (.bool true))).value [] { args := args, res := some (.bool true), after := args } = some (.bool (true == true)) from w_eq_bool (w_res rfl) w_lit) rfl
theorem attach_call {l : OpenLaw} {n : Nat} {q : Program} {loose : List Str} {XP : (Str → Option Value) → Heap → Prop} {YP : World → Heap → Prop} {d : DefRec}
    (hn : l.most = some n) (hdf : d.params.defaults = [])
    (call : ∀ (w : World) (s₀ s₁ : Shared) (mg mb : Str → Option Value) (fa : Addr) (o : Obj) (pm cd doc : Value) (a : Addr) (vs : List Value) (ns : List Int),
      Ground q loose [] XP w s₀ mg mb s₁.heap → YP w s₁.heap →
      s₁.heap.get? fa = some o → o.data = .func (docDef d.name d.params d.body d.scope pm cd doc) → s₁.heap.CodeRec cd d.name → mg d.name = some (.ref fa) →
      s₁.heap.get? a = some { cls := .type "list", data := .seq vs.toArray } → IntsAre vs ns → ns.length ≤ n → s₁.gens = #[] →
      codeAny (model l.prog w) callerA (.call (.ref fa) ⟨[.ref a], []⟩) (fun r s' => r = .ok (.ret (.bool true)) ∧ OldK s₁.heap s'.heap ∧ s'.os = s₁.os ∧ AllBare s'.gens) s₁) :
    WalkO q loose XP YP l.row.toRowW d [] (fun f vs => PySem.call f vs) := by
  intro w s₀ s₁ mg mb G Y fa o pm cd doc dV kV ho hd hcd hD hmg hg args vals as hpre hlay hrd hwl hlo
  obtain rfl : dV = .none := Dflts.none hD hdf
  obtain rfl : kV = .none := Dflts.noKw hD
  obtain ⟨a, vs, ns, rfl, rfl, hobj, hints, hlen⟩ := script_of hn hpre hwl
  refine enter_call (codeAny_mono (call w s₀ s₁ mg mb fa o pm cd doc a vs ns G Y ho (fd_plain hd) hcd hmg hobj hints hlen hg) fun r s' hq => ?_)
  obtain ⟨rfl, h2, h3, h4⟩ := hq
  exact ⟨.inl ⟨.bool true, .bool true, [], rfl, fun _ => rfl, .bool true, post_true l _, fun _ => ⟨List.Pairwise.nil, fun _ hm => (nomatch hm)⟩⟩, h2, h3, h4⟩
section
variable {prog : Program} {w : World} {A : Around} {E : Value → Shared → Prop} {s : Shared} {K : Frag}
def ledger (h : Heap) (L d : Addr) : List (Addr × Obj) := (List.range h.objs.size).filterMap fun a => if a = L ∨ a = d then none else (h.get? a).map fun o => (a, o)
end
end Att
namespace L2
open PySem PySem.Spec PyProof.Rows
theorem vals_ints : ∀ {vs : List Value} {ns : List Int}, IntsAre vs ns → Vals (ns.map V.int) vs
  | _, _, .nil => .nil
  | _, _, .cons n t h => .cons ⟨t, rfl⟩ (vals_ints h)
def Only (H : Hp) : Prop := ∀ b, H b = none ∨ ∃ o xs, H b = some (.frz o (.lst xs))
theorem law_call {P : Program} {w : World} {K : PySem.W.Frag} {mg mb : Str → Option Value} {CX : CXT} {k : Nat} {fa a : Addr} {fd : FuncData} {x : Str} {sp : Sp} {s₁ : Shared} {vs : List Value} {ns : List Int}
    (KX : K.In s₁.heap) (hns : s₁.heap.Ns mainGlobals mg) (hb : s₁.heap.Ns builtinsNs mb) (hbb : ∀ x : Str, x ≠ "__name__" → mb x = bootBuiltins x) (hlim : s₁.heap.NoLimit) (hg : s₁.gens = #[])
    (ha : s₁.heap.get? a = some { cls := .type "list", data := .seq vs.toArray }) (hi : IntsAre vs ns) (hl : ns.length ≤ sizeLine) (hr : Room k callerA)
    (F : ∀ base : Heap, K.In base → base.Ns mainGlobals mg → FnOk P w K mg base CX k fa fd [x] sp) (hbind : ∀ (s : Shared) (u : Value), BindsTo s fd ⟨[u], []⟩ [(x, u)])
    (hsp : ∀ H : Hp, Only H → SqL K H a (ns.map V.int) → sp [.ref a] H (fun v _ => v = .bl true) fun _ _ _ => False)
    (hCX : ∀ H e s', CX [] H s₁ (fun _ _ _ => False) e s' → False) :
    codeAny (model P w) callerA (.call (.ref fa) ⟨[.ref a], []⟩) (fun r s' => r = .ok (.ret (.bool true)) ∧ OldK s₁.heap s'.heap ∧ s'.os = s₁.os ∧ AllBare s'.gens) s₁ := by
  have rv := vals_ints hi
  have lenV := hi.length
  have core : ∀ H : Hp, Only H → SqL K H a (ns.map V.int) → HOk P w H s₁.heap → (∀ b, H b ≠ none → b = a) → (H a ≠ none → K.lookup a = none) →
      codeAny (model P w) callerA (.call (.ref fa) ⟨[.ref a], []⟩) (fun r s' => r = .ok (.ret (.bool true)) ∧ OldK s₁.heap s'.heap ∧ s'.os = s₁.os ∧ AllBare s'.gens) s₁ := by
    intro H hO hS hok hA hK
    have base_of : ∀ {b : Addr} {o : Obj}, s₁.heap.get? b = some o → H b = none → (hidT s₁.heap H).get? b = some o := fun e n => hidT_get e n
    have noA : ∀ {b : Addr} {o : Obj} {es : Array DictEntry} {ep : Nat}, s₁.heap.get? b = some o → o.data = .dict es ep → H b = none := fun {b o es ep} e d => by
      cases q : H b with
      | none => rfl
      | some u =>
        have e' : b = a := hA b (by rw [q]; simp)
        subst e'
        rw [ha] at e; cases e
        have d' : Data.seq vs.toArray _ = Data.dict es ep := d
        cases d'
    have nsK : ∀ {b : Addr} {m : Str → Option Value}, s₁.heap.Ns b m → (hidT s₁.heap H).Ns b m := fun {b m} ⟨o, es, ep, e, d, r⟩ => ⟨o, es, ep, base_of e (noA e d), d, r⟩
    have hKb : K.In (hidT s₁.heap H) := fun b o e => base_of (KX b o e) (by
      cases q : H b with
      | none => rfl
      | some u =>
        have e' : b = a := hA b (by rw [q]; simp)
        subst e'
        rw [hK (by rw [q]; simp)] at e; cases e)
    have hM : Mod K mg (hidT s₁.heap H) := ⟨hKb, nsK hns, ⟨mb, nsK hb, hbb⟩, let ⟨mc, h1, h2⟩ := hlim; ⟨mc, nsK h1, h2⟩⟩
    have e0 : Env0 P w K mg (hidT s₁.heap H) callerA [] s₁ H := ⟨rfl, hM, fun b o e => of_hidT e, Nat.le_of_eq (hidT_size _ _), trivial, fun b hb => absurd (show b ∈ ([] : List Addr) from hb) (by simp), hok, .of_eq hg⟩
    refine codeAny_mono ((F _ hKb (nsK hns)).run callerA [] s₁ H ⟨[.ref a], []⟩ [.ref a] [.ref a] _ _ hr e0 (hbind s₁ (.ref a)) (.cons rfl .nil) (hsp H hO hS)) fun r s' h => ?_
    cases r with
    | error e => exact (hCX H e s' h).elim
    | ok fl =>
      cases fl with
      | next => exact False.elim h
      | brk => exact False.elim h
      | cont => exact False.elim h
      | ret u =>
        obtain ⟨v, H', os, bare, un, hok', r', q⟩ := h
        have q' : v = .bl true := q
        subst q'
        obtain rfl : u = Value.bool true := r'
        refine ⟨rfl, OldK.of_keep fun b o e => ?_, os, bare⟩
        cases q : H b with
        | none => exact un.keep b o e q (by intro z; exact absurd (show b ∈ ([] : List Addr) from z) (by simp)) (by simp)
        | some u =>
          rcases hO b with z | ⟨ob, xs, z⟩
          · rw [q] at z; cases z
          · have z2 := un.frzs b ob _ z
            obtain ⟨e1, _⟩ := hok b _ z
            obtain ⟨e2, _⟩ := hok' b _ z2
            rw [e] at e1; cases e1
            exact e2
  cases hk : K.lookup a with
  | some o =>
    have e := KX a o hk
    rw [ha] at e
    cases e
    refine core (fun _ => none) (fun _ => .inl rfl) (.inr ⟨_, vs.toArray, _, hk, rfl, rfl, rfl, by rw [List.size_toArray, lenV]; exact hl, by simpa using rv⟩) (fun b u z => by have z' : (none : Option HO) = some u := z; cases z') (fun b z => absurd rfl z) fun z => absurd rfl z
  | none =>
    refine core (fun b => if b = a then some (.frz { cls := .type "list", data := .seq vs.toArray } (.lst (ns.map V.int))) else none) (fun b => ?_) (.inl (.inr ⟨{ cls := .type "list", data := .seq vs.toArray }, if_pos rfl⟩)) (fun b u z => ?_) (fun b z => ?_) fun _ => hk
    · by_cases hb : b = a
      · exact .inr ⟨_, _, if_pos hb⟩
      · exact .inl (if_neg hb)
    · by_cases hb : b = a
      · have z' := (if_pos hb).symm.trans z
        cases z'
        subst hb
        exact ⟨ha, by rw [List.length_map]; exact hl, vs, _, rv, ha⟩
      · have z' := (if_neg hb).symm.trans z
        cases z'
    · by_cases hb : b = a
      · exact hb
      · exact absurd (if_neg hb) z
end L2
namespace L2
open PySem PySem.Spec PyProof.Rows
abbrev KOf {K : PySem.W.Frag} {h : Heap} (_ : K.In h) : PySem.W.Frag := K
theorem walk_of {l : PySem.W.OpenLaw} {n k : Nat} {q : Program} {loose : List Str} {XP : (Str → Option Value) → Heap → Prop} {YP : World → Heap → Prop} {d : DefRec} {K : Params → PySem.W.Frag} {CX : World → CXT} {sp : World → Sp} {x : Str}
    (hn : l.most = some n) (hn2 : n ≤ sizeLine) (hdf : d.params.defaults = []) (hr : Room k callerA)
    (hY : ∀ (w : World) (h : Heap), YP w h → (K w.params).In h)
    (F : ∀ (w : World) (mg : Str → Option Value) (fa : Addr) (h : Heap), (K w.params).In h → h.Ns mainGlobals mg → mg d.name = some (.ref fa) →
      ∃ fd : FuncData, (∀ (s : Shared) (u : Value), BindsTo s fd ⟨[u], []⟩ [(x, u)]) ∧
        ∀ base : Heap, (K w.params).In base → base.Ns mainGlobals mg → FnOk l.prog w (K w.params) mg base (CX w) k fa fd [x] (sp w))
    (hsp : ∀ (w : World) (H : Hp) (a : Addr) (ns : List Int), ns.length ≤ n → Only H → SqL (K w.params) H a (ns.map V.int) → sp w [.ref a] H (fun v _ => v = .bl true) fun _ _ _ => False)
    (hCX : ∀ (w : World) (H : Hp) (s : Shared) (e : Value) (s' : Shared), CX w [] H s (fun _ _ _ => False) e s' → False) :
    PySem.W.WalkO q loose XP YP l.row.toRowW d [] (fun f vs => PySem.call f vs) := by
  refine Att.attach_call hn hdf fun w s₀ s₁ mg mb fa o pm cd doc a vs ns G Y ho hd hcd hmg hobj hints hlen hg => ?_
  have KX := hY w _ Y
  obtain ⟨fd, hb, hF⟩ := F w mg fa _ KX G.T.g hmg
  exact law_call KX G.T.g G.T.b G.T.builtins G.T.nolimit hg hobj hints (Nat.le_trans hlen hn2) hr hF hb (fun H hO hS => hsp w H a ns hlen hO hS) fun H e s' => hCX w H s₁ e s'
end L2
/- THE LAST THEOREM (shape; LID, My.* are yours):
   My.Adr: a structure of the addresses that your layer names (classes, functions); My.Txt K t: a structure (Prop) of the equations over K;
   My.txt_mk : {K} {implicit addresses ..} (e1 : nsIn K mainGlobals "law" = some (some (.ref f))) (e2 : K.lookup f = some ⟨oc, od, .func (fnOf "law" "law" params body scope dV kV doc pm an cdv ct), sl⟩) (e3 : codeIn K cdv "law" = true) .. : ∃ t, My.Txt K t
set_option maxRecDepth 100000 in
set_option maxHeartbeats 0 in
theorem PySem.Challenge.cw_LID_holds : PySem.Challenge.rw_LID.Holds := by
  w_on; o_law; k_head; (case hw => w_witness2)
  k_fill
  refine L2.walk_of (l := PySem.Challenge.rw_LID) (n := 63) (k := 40) (x := "script") (CX := fun w => ..) (sp := fun _ => My.sp_law) rfl (by decide) rfl ⟨rfl, by decide, by decide⟩ (fun w h Y => PySem.W.kIn_of Y) ?F ?S ?C
  case F =>
    intro w mg fa h KX G hmg
    have T : ∃ t, My.Txt (L2.KOf KX) t := by
      dsimp only [L2.KOf]                          -- K must stand as «<heap const> w.params» for k_is
      refine' My.txt_mk ?e1 ?e2 ?e3 ..
      (case e1 => PySem.W.k_is)                    -- in the order: a name -> its address -> its object -> its parts
      (case e2 => PySem.W.k_is)
      ..
    obtain ⟨t, T⟩ := T
    have e0 := hmg.symm.trans (PySem.W.mg_of KX G T.law)
    cases e0                                       -- fa is the law's own address
    exact ⟨_, fun s u => .of_eq rfl, fun base kb nb => My.law_fn T kb nb⟩     -- if «.of_eq rfl» comes too early: refine' ⟨_, ?b, fun base kb nb => My.law_fn T kb nb⟩; exact fun s u => .of_eq rfl
  case S => exact fun w H a ns hl hO hS => ..
  case C => exact ..
(the tactic k_is has no namespace: write k_is) -/
namespace L2
open PySem PySem.Spec PyProof.Rows
def inClass (s : Stmt) (j : Nat) : Stmt := match s with
  | .ClassDef _ _ _ body _ _ _ _ _ _ _ => body.getD j (.Pass ⟨0, 0, 0, 0⟩)
  | _ => .Pass ⟨0, 0, 0, 0⟩
def defArgs (s : Stmt) : Arguments := match s with
  | .FunctionDef _ a _ _ _ _ _ _ _ _ => a
  | _ => { posonlyargs := [], args := [], vararg := none, kwonlyargs := [], kw_defaults := [], kwarg := none, defaults := [] }
def defBody (s : Stmt) : List Stmt := match s with
  | .FunctionDef _ _ b _ _ _ _ _ _ _ => b
  | _ => []
def defScope (s : Stmt) : Scope := match s with
  | .FunctionDef _ _ _ _ _ _ sc _ _ _ => sc
  | _ => { kind := .function, names := [], isGenerator := false, isCoroutine := false }
abbrev CX0 : CXT := fun _ _ _ _ _ _ => False
abbrev E0 : XK := fun _ _ _ => False
structure Fun (K : PySem.W.Frag) (x qual : Str) (st : Stmt) (f : Addr) (fd : FuncData) : Prop where
  ex : ∃ (oc : Value) (od : Option Addr) (kV doc pm : Value) (an : Option Addr) (cdv ct : Value) (osl : Array (Option Value)),
    fd = PySem.W.fnOf x qual (defArgs st) (defBody st) (defScope st) .none kV doc pm an cdv ct ∧ K.lookup f = some ⟨oc, od, .func fd, osl⟩ ∧ PySem.W.codeIn K cdv qual = true
  kp : PySem.W.keepIn K (.ref f) = true
section
variable {P : Program} {w : World} {K : PySem.W.Frag} {mg : Str → Option Value} {base : Heap}
theorem Fun.ok {x qual : Str} {st : Stmt} {f : Addr} {fd : FuncData} {N ps : List Str} {k : Nat} {sp : Sp} (F : Fun K x qual st f fd) (S : FnScope N ps (defScope st)) (len : ∀ vs H Q E, sp vs H Q E → vs.length = ps.length)
    (hbody : ∀ (cdv : Value) (A : Around) (outer : List Env) (s : Shared) (H : Hp) (vs : List V) (Q : VK) (E : XK), Room k (A.deeper (envOfC qual (defScope st) s.heap.objs.size f cdv)) → sp vs H Q E →
      ∃ t, PSs (cxOf CX0 P w K mg base N qual (defScope st) f cdv A outer s H E).nox (defBody st) t ∧ t { nx := fun _ H' => Q .non H', rt := Q } (start N vs) H) : FnOk P w K mg base CX0 (k + 1) f fd ps sp := by
  obtain ⟨oc, od, kV, doc, pm, an, cdv, ct, osl, rfl, lk, hcd⟩ := F.ex
  refine fn_of lk hcd S len fun A outer s H vs Q E hr hsp => ?_
  obtain ⟨t, h, q⟩ := hbody cdv A outer s H vs Q E hr hsp
  exact ⟨t, h.nox, q⟩
theorem Fun.binds {x qual : Str} {st : Stmt} {f : Addr} {fd : FuncData} {ps : List Str} (F : Fun K x qual st f fd)
    (h : ∀ (kV doc pm : Value) (an : Option Addr) (cdv ct : Value) (us : List Value), us.length = ps.length → bindArgs (PySem.W.fnOf x qual (defArgs st) (defBody st) (defScope st) .none kV doc pm an cdv ct) ⟨us, []⟩ = pure (ps.zip us)) : Binds K fd ps [] := by
  obtain ⟨oc, od, kV, doc, pm, an, cdv, ct, osl, rfl, lk, hcd⟩ := F.ex
  exact .all (h kV doc pm an cdv ct)
theorem fun_mk {x qual : Str} {st : Stmt} {f : Addr} {oc : Value} {od an : Option Addr} {osl : Array (Option Value)} {kV doc pm cdv ct : Value} (l : K.lookup f = some ⟨oc, od, .func (PySem.W.fnOf x qual (defArgs st) (defBody st) (defScope st) .none kV doc pm an cdv ct), osl⟩)
    (c : PySem.W.codeIn K cdv qual = true) (k : PySem.W.keepIn K (.ref f) = true) : Fun K x qual st f (PySem.W.fnOf x qual (defArgs st) (defBody st) (defScope st) .none kV doc pm an cdv ct) := ⟨⟨oc, od, kV, doc, pm, an, cdv, ct, osl, rfl, l, c⟩, k⟩
end
theorem small1000 {n : Nat} (h : n ≤ 1000) : n < sizeLine := Nat.lt_of_le_of_lt h (by decide)
section
variable {X : Cx}
theorem pv (i : Nat) {x : Str} {pos : Pos} (hN : X.N[i]? = some x := by rfl) (hv : Vis X.env.scope x := by first | exact Or.inl rfl | exact Or.inr (Or.inl rfl) | exact Or.inr (Or.inr rfl)) (hd : (x == ("__debug__" : Str)) = false := by decide)
    (hcd : (x == ("__classdict__" : Str)) = false := by decide) : PE X (.Name x pos) (tVar i) := pe_var hN hv hd hcd
end
theorem iteF {A B : Prop} (h : B) : if false = true then A else B := by
  rw [if_neg Bool.false_ne_true]
  exact h
def Same (H H' : Hp) : Prop := ∀ b o, H b = some o → H' b = some o
theorem Same.refl (H : Hp) : Same H H := fun _ _ h => h
theorem Same.trans {H H1 H2 : Hp} (a : Same H H1) (b : Same H1 H2) : Same H H2 := fun c o h => b c o (a c o h)
theorem Same.free {H H' : Hp} (e : Same H H') {l : Addr} (h : H' l = Option.none) : H l = Option.none := by
  cases q : H l with
  | none => rfl
  | some o =>
    rw [e l o q] at h
    cases h
theorem Same.seq {K : PySem.W.Frag} {H H' : Hp} {a : Addr} {xs : List V} (e : Same H H') (h : SqL K H a xs) : SqL K H' a xs := by
  rcases h with (h | ⟨o, h⟩) | h
  · exact .inl (.inl (e _ _ h))
  · exact .inl (.inr ⟨o, e _ _ h⟩)
  · exact .inr h
end L2
set_option Elab.async false
set_option linter.all false
set_option maxRecDepth 100000
set_option maxHeartbeats 4000000
namespace L2
open PySem PySem.Spec PyProof.Rows
theorem HOk.track {P : Program} {w : World} {H : Hp} {h : Heap} {a : Addr} {o : HO} (x : HOk P w H h) (hn : H a = none) (new : ObjOk P w (upd H a o) h a o) : HOk P w (upd H a o) h := fun b u e => by
  by_cases hb : b = a
  · subst hb; rw [upd_same] at e; cases e; exact new
  · rw [upd_ne hb] at e
    exact (x b u e).stay (fun c v _ q => q) (fun c q => by rw [upd_ne (ne_of_none q hn)]; exact q) fun c xs q => by rw [upd_ne (ne_of_none q hn)]; exact q
theorem HOk.but {P : Program} {w : World} {H : Hp} {h h' : Heap} {a : Addr} (x : HOk P w H h) (hn : H a = none) (hs : Heap.SameBut a h h') : HOk P w H h' := fun b ob e => by
  refine (x b ob e).stay (fun c w' hc q => (hs.2 c ?_).trans q) (fun _ q => q) fun _ _ q => q
  rintro rfl
  rcases hc with rfl | hc
  · rw [hn] at e; cases e
  · rw [hn] at hc; cases hc
def closL (cs : List (Str × Addr)) : List (Str × NameKind) → List (Str × Addr) → List (Str × Addr)
  | [], acc => acc
  | (n, k) :: r, acc => if k == .free then (match cs.lookup n with | some c => closL cs r ((n, c) :: acc) | none => closL cs r acc) else closL cs r acc
theorem closureFor_eq {env : Env} : ∀ (names : List (Str × NameKind)) (acc : List (Str × Addr)), (∀ n, (n, NameKind.free) ∈ names → (env.cells.lookup n).isSome = true) →
    (forIn names acc fun (x : Str × NameKind) (r : List (Str × Addr)) => if x.2 == NameKind.free then (do let a ← cellOf env x.1; pure (ForInStep.yield ((x.1, a) :: r))) else pure (ForInStep.yield r) : Sem (List (Str × Addr))) = pure (closL env.cells names acc)
  | [], acc, _ => by rw [List.forIn_nil]; rfl
  | (n, k) :: r, acc, h => by
    rw [List.forIn_cons]
    unfold closL
    have hr : ∀ m, (m, NameKind.free) ∈ r → (env.cells.lookup m).isSome = true := fun m hm => h m (List.mem_cons_of_mem _ hm)
    cases hk : k == NameKind.free with
    | false =>
      simp only [hk, Bool.false_eq_true, if_false, pure_bind]
      exact closureFor_eq r acc hr
    | true =>
      have ek : k = NameKind.free := by simpa using hk
      subst ek
      have hc := h n List.mem_cons_self
      cases q : env.cells.lookup n with
      | none => rw [q] at hc; cases hc
      | some c =>
        simp only [beq_self_eq_true, if_true, cellOf, q, pure_bind]
        exact closureFor_eq r _ hr
theorem closureFor_closL {scope : Scope} {env : Env} (h : ∀ n, (n, NameKind.free) ∈ scope.names → (env.cells.lookup n).isSome = true) : closureFor scope env = pure (closL env.cells scope.names []) := by
  have e := closureFor_eq (env := env) scope.names [] h
  unfold closureFor
  simp only [bind_pure]
  exact e
theorem closL_mem {cs : List (Str × Addr)} : ∀ (names : List (Str × NameKind)) (acc : List (Str × Addr)) {x : Str} {c : Addr}, (x, c) ∈ closL cs names acc → (x, c) ∈ acc ∨ cs.lookup x = some c
  | [], acc, x, c, h => .inl h
  | (n, k) :: r, acc, x, c, h => by
    unfold closL at h
    split at h
    · split at h
      · rename_i c' q
        rcases closL_mem r _ h with h | h
        · rcases List.mem_cons.mp h with e | h
          · cases e; exact .inr q
          · exact .inl h
        · exact .inr h
      · exact closL_mem r _ h
    · exact closL_mem r _ h
theorem lookup_some_of_mem {α : Type} : ∀ {l : List (Str × α)} {x : Str}, (∃ c, (x, c) ∈ l) → ∃ c, l.lookup x = some c
  | [], x, ⟨c, h⟩ => by cases h
  | (n, v) :: r, x, ⟨c, h⟩ => by
    rw [List.lookup_cons]
    cases hb : x == n with
    | true => exact ⟨v, rfl⟩
    | false =>
      rcases List.mem_cons.mp h with e | h
      · cases e; simp at hb
      · exact lookup_some_of_mem ⟨c, h⟩
theorem closL_has {cs : List (Str × Addr)} : ∀ (names : List (Str × NameKind)) (acc : List (Str × Addr)) {x : Str}, ((∃ c, (x, c) ∈ acc) ∨ ((x, NameKind.free) ∈ names ∧ (cs.lookup x).isSome = true)) → ∃ c, (x, c) ∈ closL cs names acc
  | [], acc, x, h => by
    rcases h with h | ⟨h, _⟩
    · exact h
    · cases h
  | (n, k) :: r, acc, x, h => by
    unfold closL
    split
    · split
      · rename_i c' q
        refine closL_has r _ ?_
        rcases h with ⟨c, h⟩ | ⟨h, hs⟩
        · exact .inl ⟨c, List.mem_cons_of_mem _ h⟩
        · rcases List.mem_cons.mp h with e | h
          · cases e; exact .inl ⟨c', List.mem_cons_self⟩
          · exact .inr ⟨h, hs⟩
      · rename_i q
        refine closL_has r _ ?_
        rcases h with h | ⟨h, hs⟩
        · exact .inl h
        · rcases List.mem_cons.mp h with e | h
          · cases e; rw [q] at hs; cases hs
          · exact .inr ⟨h, hs⟩
    · rename_i hk
      refine closL_has r _ ?_
      rcases h with h | ⟨h, hs⟩
      · exact .inl h
      · rcases List.mem_cons.mp h with e | h
        · cases e; simp at hk
        · exact .inr ⟨h, hs⟩
theorem cellsFrom_mem : ∀ (names : List (Str × NameKind)) (h : Heap) (acc : List (Str × Addr)) {x : Str} {c : Addr}, (x, c) ∈ cellsFrom h.objs.size names acc → (x, c) ∈ acc ∨ (h.objs.size ≤ c ∧ (x, NameKind.cell) ∈ names ∧ (pushCells h names).IsCell c none)
  | [], h, acc, x, c, hm => .inl hm
  | (n, k) :: r, h, acc, x, c, hm => by
    unfold cellsFrom at hm
    unfold pushCells
    split at hm
    · rename_i hk
      have ek : k = NameKind.cell := by simpa using hk
      subst ek
      rw [if_pos hk]
      have hz : (h.push { cls := .type "cell", data := .cell none }).objs.size = h.objs.size + 1 := Heap.size_push ..
      rw [← hz] at hm
      rcases cellsFrom_mem r _ _ hm with hm | ⟨h1, h2, h3⟩
      · rcases List.mem_cons.mp hm with e | hm
        · cases e
          refine .inr ⟨Nat.le_refl _, List.mem_cons_self, ?_⟩
          exact ⟨_, pushCells_keeps _ _ _ _ (Heap.get?_push_size _ rfl), rfl⟩
        · exact .inl hm
      · exact .inr ⟨by omega, List.mem_cons_of_mem _ h2, h3⟩
    · rename_i hk
      rw [if_neg hk]
      rcases cellsFrom_mem r h acc hm with hm | ⟨h1, h2, h3⟩
      · exact .inl hm
      · exact .inr ⟨h1, List.mem_cons_of_mem _ h2, h3⟩
theorem cellsFrom_sub : ∀ (names : List (Str × NameKind)) (n : Nat) (acc : List (Str × Addr)) {p : Str × Addr}, p ∈ acc → p ∈ cellsFrom n names acc
  | [], _, _, _, h => h
  | (m, k) :: r, n, acc, p, h => by
    unfold cellsFrom
    split
    · exact cellsFrom_sub r _ _ (List.mem_cons_of_mem _ h)
    · exact cellsFrom_sub r _ _ h
theorem cellsFrom_own : ∀ (names : List (Str × NameKind)) (n : Nat) (acc : List (Str × Addr)) {x : Str}, (x, NameKind.cell) ∈ names → ∃ c, (x, c) ∈ cellsFrom n names acc
  | [], _, _, _, h => by cases h
  | (m, k) :: r, n, acc, x, h => by
    unfold cellsFrom
    split
    · rcases List.mem_cons.mp h with e | h
      · cases e; exact ⟨n, cellsFrom_sub r _ _ List.mem_cons_self⟩
      · exact cellsFrom_own r _ _ h
    · rename_i hk
      rcases List.mem_cons.mp h with e | h
      · cases e; simp at hk
      · exact cellsFrom_own r _ _ h
theorem cellsFrom_apart : ∀ (names : List (Str × NameKind)) (n : Nat) (acc : List (Str × Addr)), (∀ p ∈ acc, p.2 < n) → (∀ x y c, (x, c) ∈ acc → (y, c) ∈ acc → x = y) → ∀ x y c, (x, c) ∈ cellsFrom n names acc → (y, c) ∈ cellsFrom n names acc → x = y
  | [], _, _, _, h, x, y, c, a, b => h x y c a b
  | (m, k) :: r, n, acc, hl, h, x, y, c, a, b => by
    unfold cellsFrom at a b
    split at a
    · rename_i hk
      rw [if_pos hk] at b
      refine cellsFrom_apart r (n + 1) ((m, n) :: acc) (fun p hp => ?_) (fun x y c a b => ?_) x y c a b
      · rcases List.mem_cons.mp hp with e | hp
        · subst e; exact Nat.lt_succ_self _
        · exact Nat.lt_succ_of_lt (hl p hp)
      · rcases List.mem_cons.mp a with e | a <;> rcases List.mem_cons.mp b with e' | b
        · cases e; cases e'; rfl
        · cases e; exact absurd (hl _ b) (Nat.lt_irrefl _)
        · cases e'; exact absurd (hl _ a) (Nat.lt_irrefl _)
        · exact h x y c a b
    · rename_i hk
      rw [if_neg hk] at b
      exact cellsFrom_apart r n acc hl h x y c a b
def blockEnv (scope : Scope) (cs : List (Str × Addr)) (C : Addr) (env : Env) : Env :=
  { scope := scope, locals := C, globals := env.globals, cells := cs, qual := env.qual, func := none, code := env.code, frame := env.frame, builtins := env.builtins }
theorem wpAny_blockEnv {M : Model} {A : Around} {E : Value → Shared → Prop} {s : Shared} {scope : Scope} {cl : List (Str × Addr)} {env : Env} {Q : Env → Shared → Prop}
    (h : Q (blockEnv scope (cellsFrom (s.heap.objs.size + 1) scope.names cl) s.heap.objs.size env) { s with heap := pushCells (s.heap.push { cls := .type "dict", data := .dict #[] }) scope.names }) :
    wpAny M A (newFunctionEnv scope env.globals cl [] env.qual none .none (some env)) Q E s := by
  simp only [newFunctionEnv, Option.isSome_some, if_true]
  refine wpAny_bind (wpAny_alloc ?_)
  refine wpAny_bind (wpAny_layCells _ (fun name kind cells => by cases hkc : kind == NameKind.cell <;> simp [hkc]) _ _ _ _ ?_)
  rw [show ({ s with heap := s.heap.push { cls := .type "dict", data := .dict #[] } } : Shared).heap.objs.size = s.heap.objs.size + 1 from Heap.size_push ..]
  exact wpAny_bind (wpAny_pure (wpAny_pure h))
section
variable {prog : Program} {w : World} {A : Around} {E : Value → Shared → Prop} {R : Result → Shared → Prop} {s : Shared}
theorem codeAny_compLoop_any {elt target iter : Expr} {ifs : List Expr} {scope : Scope} {pos : Pos} {it acc : Value} {env : Env} (I : Nat → Shared → Prop)
    (turn : ∀ n s, I n s → wpAny (model prog w) A (pyNext it) (fun r s₁ => match r with
      | none => R (.ok .next) s₁
      | some v => wpAny (model prog w) A (letOwnedTupleGo target it v) (fun _ s₁' => wpAny (model prog w) A (assign target env v) (fun _ s₂ =>
          wpAny (model prog w) A (forIn ifs true fun c r => if r = true then do let ok ← isTrue c env (eval c env); pure (ForInStep.yield ok) else pure (ForInStep.yield r)) (fun ok s₃ =>
            if ok = true then wpAny (model prog w) A (eval elt env) (fun x s₄ =>
              wpAny (model prog w) A (call (.builtin "list.append") [acc, x]) (fun _ s₅ => ∃ m, m < n ∧ I m s₅) (notedBy (model prog w) A env fun e s' => R (.error e) s') s₄) (notedBy (model prog w) A env fun e s' => R (.error e) s') s₃
            else ∃ m, m < n ∧ I m s₃) (notedBy (model prog w) A env fun e s' => R (.error e) s') s₂) (notedBy (model prog w) A env fun e s' => R (.error e) s') s₁') (notedBy (model prog w) A env fun e s' => R (.error e) s') s₁) (notedBy (model prog w) A env fun e s' => R (.error e) s') s)
    (n : Nat) (h : I n s) :
    codeAny (model prog w) A (.compLoop (.ListComp elt [⟨target, iter, ifs, 0⟩] scope pos) 0 it acc env) R s := by
  refine codeAny_loop rfl I (fun n s hI => ?_) n h
  show wpAny _ A ((compTurn (.ListComp elt [⟨target, iter, ifs, 0⟩] scope pos) 0 it acc env).onRaise (fun x => do noteFrame x env; theTreesLotGoes x)) _ _ s
  refine wpAny_noted ?_
  rw [compTurn_list]
  refine wpAny_bind (wpAny_standAt (wpAny_bind (wpAny_mono (turn n s hI) (fun r s₁ h₁ => ?_) fun _ _ h' => h')))
  cases r with
  | none => exact wpAny_pure h₁
  | some v =>
    refine wpAny_bind (wpAny_mono h₁ (fun _ s₁' h₁' => ?_) fun _ _ h' => h')
    refine wpAny_bind (wpAny_mono h₁' (fun _ s₂ h₂ => wpAny_bind (wpAny_mono h₂ (fun ok s₃ h₃ => ?_) fun _ _ h' => h')) fun _ _ h' => h')
    cases ok with
    | false => exact wpAny_pure ⟨rfl, h₃⟩
    | true =>
      exact wpAny_bind (wpAny_bind (wpAny_mono h₃ (fun x s₄ h₄ => wpAny_bind (wpAny_mono h₄ (fun _ s₅ h₅ => wpAny_pure (wpAny_pure ⟨rfl, h₅⟩)) fun _ _ h' => h')) fun _ _ h' => h'))
end
end L2
set_option Elab.async false
set_option linter.all false
set_option maxRecDepth 100000
set_option maxHeartbeats 4000000
namespace L2
open PySem PySem.Spec PyProof.Rows
structure Blk where
  cs : List (Str × Addr)
  C : Addr
  s₃ : Shared
  H₃ : Hp
  fp : List Addr
  pins : List (Addr × Obj)
  σ : St
def blkXe (X : Cx) (C : Addr) (env : Env) : Value → Shared → Prop :=
  notedBy (model X.prog X.w) X.A env fun x s' => ∃ m, s'.heap.Ns C m ∧ ∀ h', Heap.SameBut C s'.heap h' → ∀ cenv : Env, cenv.locals = C →
    wpAny (model X.prog X.w) X.A (passOn "comprehension.variables-let-go" x cenv : Sem Value) (fun _ _ => False) X.xe { s' with heap := h' }
def Cx.block (X : Cx) (N : List Str) (scope : Scope) (b : Blk) : Cx :=
  { X with N := N, s₀ := b.s₃, H₀ := b.H₃, env := blockEnv (relabel scope X.env) b.cs b.C X.env, outer := X.stack, stack := X.stack, ex := b.fp,
           fn := fun x => scope.names.lookup x == some .cell, pn := X.pn ++ b.pins, xe := blkXe X b.C (blockEnv (relabel scope X.env) b.cs b.C X.env) }
theorem block_K {X : Cx} {N : List Str} {scope : Scope} {b : Blk} : (X.block N scope b).K = X.K := rfl
theorem nox_K {X : Cx} : X.nox.K = X.K := rfl
theorem wish_K {X : Cx} {E : Value → Shared → Prop} : (X.wish E).K = X.K := rfl
theorem cxOf_K {CX : CXT} {P : Program} {w : World} {K : PySem.W.Frag} {mg : Str → Option Value} {base : Heap} {N : List Str} {qual : Str} {scope : Scope} {f : Addr} {cd : Value} {A : Around} {outer : List Env} {s : Shared} {H : Hp} {E : XK} :
    (cxOf CX P w K mg base N qual scope f cd A outer s H E).K = K := rfl
def blkStart (own : Nat) (ix : List Nat) (σ : St) : St := List.replicate own none ++ ix.map fun i => (σ[i]?).join
def BlkBody (own : Nat) (ix : List Nat) (g : Blk → TG) (tt : Blk → TT) (te : Blk → TE) (σ : St) (Q : VK) (J : It) (H1 : Hp) : Prop := ∀ bk : Blk, ∃ W : Nat → Nat → List V → St → Hp → Prop, (∃ m, W 0 m [] (blkStart own ix σ) H1) ∧ ∀ i m ys σc H, W i m ys σc H →
  (J.stop i H ∧ ∀ D, H D = none → Q (.ref D) (upd H D (.lst ys))) ∨ (J.go i H ∧ ys.length < sizeLine ∧ ∃ N : List V → St → Hp → Prop, (∀ ys' σ' H', N ys' σ' H' → ∃ m', m' < m ∧ W (i + 1) m' ys' σ' H') ∧
    ∀ x H', J.yld i H x H' → g bk x σc H' fun σ2 H2 => tt bk σ2 H2 fun c H3 => if c = true then te bk σ2 H3 fun y H4 => N (ys ++ [y]) σ2 H4 else N ys σ2 H3)
def tBlk (own : Nat) (ix : List Nat) (wi : TI) (g : Blk → TG) (tt : Blk → TT) (te : Blk → TE) : TE := fun σ H Q => wi σ H (BlkBody own ix g tt te σ Q)
def PTs (X : Cx) (ifs : List Expr) (t : TT) : Prop :=
  ∀ (pins : List (Addr × Obj)) (s : Shared) (σ : St) (H : Hp) (Q : Bool → Hp → Prop), Inv X pins σ H s → t σ H Q →
    wpAny (model X.prog X.w) X.A (forIn ifs true fun c r => if r = true then do let ok ← isTrue c X.env (eval c X.env); pure (ForInStep.yield ok) else pure (ForInStep.yield r)) (TP X pins σ Q) X.xe s
def tYes : TT := fun _ H Q => Q true H
theorem pts_nil {X : Cx} : PTs X [] tYes := fun pins s σ H Q I h => wpAny_tests_nil ⟨H, I, h⟩
theorem pts_one {X : Cx} {c : Expr} {t : TT} (h : PT X c t) : PTs X [c] t := fun pins s σ H Q I hq => wpAny_tests_one (h pins s σ H Q I hq)
theorem nodup_lookup {α : Type} : ∀ {l : List (Str × α)} {x : Str} {k : α}, (l.map (·.1)).Nodup → (x, k) ∈ l → l.lookup x = some k
  | (n, v) :: r, x, k, hn, h => by
    rw [List.map_cons, List.nodup_cons] at hn
    rw [List.lookup_cons]
    rcases List.mem_cons.mp h with e | h
    · cases e; simp
    · have : x ≠ n := fun e => hn.1 (e ▸ List.mem_map.mpr ⟨(x, k), h, rfl⟩)
      have hb : (x == n) = false := by simpa using this
      rw [hb]
      exact nodup_lookup hn.2 h
theorem relabel_kind {scope : Scope} {env : Env} {x : Str} {k : NameKind} (h : (relabel scope env).names.lookup x = some k) (hk : k = .cell ∨ k = .free) : (x, NameKind.cell) ∈ scope.names ∨ (x, NameKind.free) ∈ scope.names := by
  have hm := mem_of_lookup h
  unfold relabel at hm
  obtain ⟨⟨n, k'⟩, hp, e⟩ := List.mem_map.mp hm
  dsimp only at e
  split at e
  · rename_i hc
    cases e
    have : k' = .free := by
      cases k' <;> simp_all
    subst this
    exact .inr hp
  · cases e
    rcases hk with rfl | rfl
    · exact .inl hp
    · exact .inr hp
structure BOk (X : Cx) (b : Blk) : Prop where
  inv : Inv X b.pins b.σ b.H₃ b.s₃
  fresh : b.s₃.heap.objs.size ≤ b.C
  fpo : ∀ c ∈ b.fp, FpOk X b.pins b.H₃ c
structure BlkScope (X : Cx) (own fr : List Str) (ix : List Nat) (scope : Scope) : Prop where
  kind : scope.kind = .function
  nd : (scope.names.map (·.1)).Nodup
  cap : (scope.names.all fun p => p.2 != .free || (X.env.kindOf p.1 == some .cell || X.env.kindOf p.1 == some .free)) = true
  fre : (fr.all fun x => scope.names.lookup x == some .free) = true
  ixs : ix.map (fun i => X.N[i]?) = fr.map some
section
variable {X : Cx} {pins : List (Addr × Obj)} {σ : St} {H : Hp} {s : Shared} {own fr : List Str} {ix : List Nat} {scope : Scope} {fp : List Addr}
theorem BlkScope.capOf (B : BlkScope X own fr ix scope) {n : Str} (h : (n, NameKind.free) ∈ scope.names) : X.env.kindOf n = some .cell ∨ X.env.kindOf n = some .free := by
  have := List.all_eq_true.mp B.cap _ h
  simpa using this
theorem Inv.enter {s0 : Shared} (I0 : Inv X pins σ H s0) (I : Inv X pins σ H s) (k0 : ∀ b o, s0.heap.get? b = some o → s.heap.get? b = some o) (z0 : s0.heap.objs.size ≤ s.heap.objs.size) (hos : s.os = s0.os) (B : BlkScope X own fr ix scope) (hf : ∀ b ∈ fp, FpOk X pins H b) (ho : ∀ b ∈ fp, ∃ o, s.heap.get? b = some o) :
    Inv (X.block (own ++ fr) scope ⟨cellsFrom (s.heap.objs.size + 1) scope.names (closL X.env.cells scope.names []), s.heap.objs.size, s0, H, fp, pins, σ⟩) [] (blkStart own.length ix σ) H
      { s with heap := pushCells (s.heap.push { cls := .type "dict", data := .dict #[] }) scope.names } := by
  have hz : (s.heap.push { cls := .type "dict", data := .dict #[] }).objs.size = s.heap.objs.size + 1 := Heap.size_push ..
  have keep : ∀ b o, s.heap.get? b = some o → (pushCells (s.heap.push { cls := .type "dict", data := .dict #[] }) scope.names).get? b = some o := fun b o e => pushCells_keeps _ _ _ _ (Heap.get?_push_of_some _ e)
  have cm : ∀ x c, (x, c) ∈ cellsFrom (s.heap.objs.size + 1) scope.names (closL X.env.cells scope.names []) → X.env.cells.lookup x = some c ∨ (s.heap.objs.size < c ∧ (x, NameKind.cell) ∈ scope.names ∧ (pushCells (s.heap.push { cls := .type "dict", data := .dict #[] }) scope.names).IsCell c none) := fun x c h => by
    rw [← hz] at h
    rcases cellsFrom_mem _ _ _ h with h | ⟨h1, h2, h3⟩
    · rcases closL_mem _ _ h with h | h
      · cases h
      · exact .inl h
    · rw [hz] at h1; exact .inr ⟨h1, h2, h3⟩
  have cl : ∀ x c, (cellsFrom (s.heap.objs.size + 1) scope.names (closL X.env.cells scope.names [])).lookup x = some c → X.env.cells.lookup x = some c ∨ (s.heap.objs.size < c ∧ (x, NameKind.cell) ∈ scope.names ∧ (pushCells (s.heap.push { cls := .type "dict", data := .dict #[] }) scope.names).IsCell c none) := fun x c h => cm x c (mem_of_lookup h)
  have oldlt : ∀ x c, X.env.cells.lookup x = some c → c < s.heap.objs.size := fun x c e => (I.cell x c e).elim fun v q => q.lt
  have hasOld : ∀ n, (n, NameKind.free) ∈ scope.names → (X.env.cells.lookup n).isSome = true := fun n h => by
    obtain ⟨c, e⟩ := I.ok.has n (B.capOf h)
    rw [e]; rfl
  refine ⟨⟨I.ok.mod, B.kind, I.ok.glob, I.ok.blt, z0, ?inj, ?has, ?cab, I.ok.hd, I.ok.frames, .inl rfl, ?exf, I0.bs, Nat.le_trans I0.ok.bsz I0.sz, ?noex, ?exfs, I0.stack, I.stkFree⟩, hos, I.bare, Un.kept (fun b o e => keep b o (k0 b o e)), ?loc, ?cell, I.hok.fresh (Nat.le_refl _), ?freeC, ?pin, I.hok.kept keep, ?len⟩
  case inj =>
    intro x y c h1 h2
    refine cellsFrom_apart scope.names (s.heap.objs.size + 1) (closL X.env.cells scope.names []) (fun p hp => ?_) (fun x y c a b => ?_) x y c (mem_of_lookup h1) (mem_of_lookup h2)
    · rcases closL_mem _ _ (x := p.1) (c := p.2) hp with h | h
      · cases h
      · exact Nat.lt_succ_of_lt (oldlt _ _ h)
    · rcases closL_mem _ _ a with a | a
      · cases a
      · rcases closL_mem _ _ b with b | b
        · cases b
        · exact I.ok.inj x y c a b
  case has =>
    intro x h
    have hm : (x, NameKind.cell) ∈ scope.names ∨ (x, NameKind.free) ∈ scope.names := by
      rcases h with h | h
      · exact relabel_kind h (.inl rfl)
      · exact relabel_kind h (.inr rfl)
    refine lookup_some_of_mem ?_
    rcases hm with hm | hm
    · exact cellsFrom_own _ _ _ hm
    · obtain ⟨c, hc⟩ := closL_has (cs := X.env.cells) scope.names [] (.inr ⟨hm, hasOld x hm⟩)
      exact ⟨c, cellsFrom_sub _ _ _ hc⟩
  case cab =>
    intro x c hx h
    rcases cl x c h with e | ⟨e, _, _⟩
    · have hx : scope.names.lookup x = some .cell := by
        have hx : (scope.names.lookup x == some .cell) = true := hx
        simpa using hx
      have hm := mem_of_lookup h
      have h' : (x, c) ∈ cellsFrom (s.heap.push { cls := .type "dict", data := .dict #[] }).objs.size scope.names (closL X.env.cells scope.names []) := by rw [hz]; exact hm
      rcases cellsFrom_mem _ _ _ h' with h' | ⟨h1, _, _⟩
      · exfalso
        have : ∀ (names : List (Str × NameKind)) (acc : List (Str × Addr)), (x, c) ∈ closL X.env.cells names acc → (x, c) ∈ acc ∨ (x, NameKind.free) ∈ names := by
          intro names
          induction names with
          | nil => intro acc h; exact .inl h
          | cons p r ih =>
            obtain ⟨n, k⟩ := p
            intro acc h
            unfold closL at h
            split at h
            · rename_i hk
              have ek : k = NameKind.free := by simpa using hk
              subst ek
              split at h
              · rcases ih _ h with h | h
                · rcases List.mem_cons.mp h with e | h
                  · cases e; exact .inr List.mem_cons_self
                  · exact .inl h
                · exact .inr (List.mem_cons_of_mem _ h)
              · rcases ih _ h with h | h
                · exact .inl h
                · exact .inr (List.mem_cons_of_mem _ h)
            · rcases ih _ h with h | h
              · exact .inl h
              · exact .inr (List.mem_cons_of_mem _ h)
        rcases this _ _ h' with h' | h'
        · cases h'
        · have := nodup_lookup B.nd h'
          rw [hx] at this; cases this
      · rw [hz] at h1; exact Nat.le_trans z0 (Nat.le_of_lt h1)
    · exact Nat.le_trans z0 (Nat.le_of_lt e)
  case exf =>
    intro b hb
    obtain ⟨o, e⟩ := ho b hb
    have hlt := Heap.lt_size e
    refine ⟨Nat.ne_of_lt hlt, fun x c h z => ?_⟩
    rcases cl x c h with q | ⟨q, _, _⟩
    · exact (hf b hb).2.2.2.2.1 x c q z
    · rw [z] at q; exact absurd (Nat.lt_trans hlt q) (Nat.lt_irrefl _)
  case noex =>
    intro b o e hb
    rcases (hf b hb).2.2.2.1 with h | h
    · exact I.ok.noex b o e h
    · exact absurd (Nat.lt_of_lt_of_le (Heap.lt_size e) (Nat.le_trans I.ok.bsz h)) (Nat.lt_irrefl _)
  case exfs =>
    intro b hb hm
    rcases List.mem_cons.mp (I.stkSub b hm) with e | e
    · exact (hf b hb).2.1 e
    · exact (hf b hb).2.2.1 e
  case loc =>
    refine ⟨_, (Heap.Ns.new s.heap (.type "dict")).keeps (pushCells_keeps _ _), fun i x v h1 h2 h3 => ?_⟩
    have hi : own.length ≤ i := by
      by_cases hi : i < own.length
      · unfold blkStart at h2
        rw [List.getElem?_append_left (by simpa using hi), List.getElem?_replicate] at h2
        split at h2 <;> cases h2
      · omega
    unfold blkStart at h2
    have h1' : (own ++ fr)[i]? = some x := h1
    rw [List.getElem?_append_right (by simpa using hi), List.length_replicate, List.getElem?_map] at h2
    rw [List.getElem?_append_right hi] at h1'
    cases ej : ix[i - own.length]? with
    | none => rw [ej] at h2; cases h2
    | some j =>
      rw [ej] at h2
      have h2 : (σ[j]?).join = some v := Option.some.inj h2
      have hs : σ[j]? = some (some v) := by
        cases q : σ[j]? with
        | none => rw [q] at h2; cases h2
        | some o => rw [q] at h2; exact congrArg some h2
      have hN : X.N[j]? = some x := by
        have := congrArg (fun l => l[i - own.length]?) B.ixs
        simp only [List.getElem?_map, ej, h1', Option.map_some] at this
        exact Option.some.inj this
      have hfree : scope.names.lookup x = some .free := by
        have := List.all_eq_true.mp B.fre x (List.mem_of_getElem? h1')
        simpa using this
      have hmf := mem_of_lookup hfree
      have hk := B.capOf hmf
      obtain ⟨m, _, hl⟩ := I.loc
      obtain ⟨u, ru, lk⟩ := hl j x v hN hs (by
        rcases hk with hk | hk
        · exact .inr (.inl hk)
        · exact .inr (.inr hk))
      refine ⟨u, ru, .inr ⟨?_, ?_⟩⟩
      · rcases h3 with h3 | h3 | h3
        · exfalso
          have hm := mem_of_lookup (show (relabel scope X.env).names.lookup x = some .local from h3)
          unfold relabel at hm
          obtain ⟨⟨n, k'⟩, hp, e⟩ := List.mem_map.mp hm
          dsimp only at e
          split at e
          · cases e
          · cases e
            have := nodup_lookup B.nd hp
            rw [hfree] at this; cases this
        · exact .inl h3
        · exact .inr h3
      · rcases lk with ⟨k, _⟩ | ⟨_, c, ec, hc⟩
        · rcases hk with hk | hk <;> (rw [hk] at k; cases k)
        · obtain ⟨c', hc'⟩ := closL_has (cs := X.env.cells) scope.names [] (.inr ⟨hmf, hasOld x hmf⟩)
          obtain ⟨c2, h2⟩ := lookup_some_of_mem ⟨c', cellsFrom_sub scope.names (s.heap.objs.size + 1) _ hc'⟩
          refine ⟨c2, h2, ?_⟩
          rcases cl x c2 h2 with q | ⟨_, q, _⟩
          · rw [ec] at q; cases q
            exact hc.keeps keep
          · have := nodup_lookup B.nd q
            rw [hfree] at this; cases this
  case cell =>
    intro x c h
    rcases cl x c h with q | ⟨_, _, q⟩
    · obtain ⟨v, z⟩ := I.cell x c q
      exact ⟨v, z.keeps keep⟩
    · exact ⟨none, q⟩
  case freeC =>
    intro x c h
    rcases cl x c h with q | ⟨q, _, _⟩
    · exact I.freeC x c q
    · exact I.hok.fresh (Nat.le_of_lt q)
  case pin =>
    intro p hp
    have hp : p ∈ X.pn ++ pins := by
      have : p ∈ (X.pn ++ pins) ++ [] := hp
      simpa using this
    obtain ⟨e, n, ne, nf, d⟩ := I.pin p hp
    refine ⟨keep _ _ e, n, Nat.ne_of_lt (Heap.lt_size e), fun hb => ?_, d⟩
    rcases List.mem_cons.mp (I.stkSub _ hb) with z | z
    · exact ne z
    · exact nf z
  case len =>
    have := congrArg List.length B.ixs
    simp only [List.length_map] at this
    show (blkStart own.length ix σ).length = (own ++ fr).length
    unfold blkStart
    simp [this]
end
end L2
set_option Elab.async false
set_option linter.all false
set_option maxRecDepth 100000
set_option maxHeartbeats 4000000
namespace L2
open PySem PySem.Spec PyProof.Rows
theorem comp_run {X : Cx} {own fr : List Str} {ix : List Nat} {scope : Scope} {elt tg iter : Expr} {ifs : List Expr} {pos p : Pos} {wi : TI} {g : Blk → TG} {tt : Blk → TT} {te : Blk → TE} {use : Option (Value → Sem Unit)} {QV : Value → Shared → Prop}
    (hc : X.calm = true) (B : BlkScope X own fr ix scope) (hi : PI X tg iter wi) (hg : ∀ b, PG (X.block (own ++ fr) scope b) tg (g b)) (ht : ∀ b, BOk X b → PTs (X.block (own ++ fr) scope b) ifs (tt b)) (he : ∀ b, BOk X b → PE (X.block (own ++ fr) scope b) elt (te b))
    (hs : ∀ x, foldedSetIterable iter X.env x = pure x) {pins : List (Addr × Obj)} {s : Shared} {σ : St} {H : Hp} {Q : VK} (I : Inv X pins σ H s) (h : tBlk own.length ix wi g tt te σ H Q)
    (fin : ∀ (D C : Addr) (H' : Hp) (s' : Shared) (m : Str → Option Value), Inv X pins σ H' s' → Q (.ref D) H' → s'.heap.Ns C m → H' C = none → C ≠ X.env.locals → (C ∈ X.ex ∨ X.s₀.heap.objs.size ≤ C) → (∀ x c, X.env.cells.lookup x = some c → c ≠ C) → (∀ p ∈ X.pn ++ pins, p.1 ≠ C) →
      compPost (model X.prog X.w) X.A X.xe use QV (.ref D) C (.ok .next) s') :
    wpAny (model X.prog X.w) X.A (comprehension (.ListComp elt [⟨tg, iter, ifs, 0⟩] scope pos) scope X.env p (newList []) false (eval iter X.env) use) QV X.xe s := by
  have hasOld : ∀ n, (n, NameKind.free) ∈ scope.names → (X.env.cells.lookup n).isSome = true := fun n h => by
    obtain ⟨c, e⟩ := I.ok.has n (B.capOf h)
    rw [e]; rfl
  refine wpAny_comprehension_free rfl hs (closureFor_closL hasOld) B.kind (fun x hx hl => by
    obtain ⟨n, k⟩ := x
    have hl : k = .local := hl
    subst hl
    exact nodup_lookup B.nd hx) (thn (hi pins s σ H _ I h) fun v s1 h1 => thn h1 fun itv s2 h2 => ?_)
  obtain ⟨it, fp, tn, J, H2, e, I2, T, st2, f2, hW⟩ := h2
  subst e
  refine wpAny_newObj_type ?_
  refine wpAny_blockEnv ?_
  let D := s2.heap.objs.size
  let lo : Obj := { cls := .type "list", dict := none, data := .seq ([] : List Value).toArray }
  let s3 : Shared := { s2 with heap := s2.heap.push lo }
  have hD3 : s3.heap.get? D = some lo := Heap.get?_push_size _ rfl
  have k3 : ∀ b o, s2.heap.get? b = some o → s3.heap.get? b = some o := fun b o q => Heap.get?_push_of_some _ q
  have I3 : Inv X pins σ H2 s3 := I2.kept (t' := s2.toks) k3
  have st3 : tn 0 s3.heap := T.keep _ _ _ st2 fun b _ o q => k3 b o q
  have z3 : s3.heap.objs.size = s2.heap.objs.size + 1 := Heap.size_push ..
  have o3 : ∀ b ∈ fp, ∃ o, s3.heap.get? b = some o := fun b hb => by
    obtain ⟨o, q, _⟩ := T.obj _ _ st3 b hb
    exact ⟨o, q⟩
  have H2D : H2 D = none := I2.hok.fresh (Nat.le_refl _)
  have nDfp : D ∉ fp := fun hb => by
    obtain ⟨o, q, _⟩ := T.obj _ _ st2 D hb
    exact absurd (Heap.lt_size q) (Nat.lt_irrefl _)
  let bk : Blk := ⟨cellsFrom (s3.heap.objs.size + 1) scope.names (closL X.env.cells scope.names []), s3.heap.objs.size, s2, H2, fp, pins, σ⟩
  let Y : Cx := X.block (own ++ fr) scope bk
  have hBk : BOk X bk := ⟨I2, by show s2.heap.objs.size ≤ s3.heap.objs.size; rw [z3]; omega, f2⟩
  obtain ⟨W, ⟨m0, w0⟩, turn⟩ := hW bk
  have I4 : Inv Y [] (blkStart own.length ix σ) H2 { s3 with heap := pushCells (s3.heap.push { cls := .type "dict", data := .dict #[] }) scope.names } := I2.enter (s0 := s2) I3 k3 (by rw [z3]; omega) rfl (fp := fp) B f2 o3
  have k4 : ∀ b o, s3.heap.get? b = some o → (pushCells (s3.heap.push { cls := .type "dict", data := .dict #[] }) scope.names).get? b = some o := fun b o e => pushCells_keeps _ _ _ _ (Heap.get?_push_of_some _ e)
  have hDC : D ≠ bk.C := Nat.ne_of_lt (Heap.lt_size hD3)
  have hDs : D ∉ Y.fs := fun hb => by
    rcases List.mem_cons.mp (I2.stkSub _ hb) with z | z
    · exact absurd (Eq.symm z) (Nat.ne_of_lt I2.lt)
    · exact I2.nofs (Nat.le_refl _) z
  have Yxe : Y.xe = blkXe X bk.C Y.env := rfl
  have ypn : ∀ {p : Addr × Obj} {l : List (Addr × Obj)}, p ∈ Y.pn ++ l ↔ (p ∈ X.pn ++ pins ∨ p ∈ l) := fun {p l} => by
    show p ∈ (X.pn ++ pins) ++ l ↔ _
    rw [List.mem_append]
  have loop : ∀ s4 : Shared, s4 = { s3 with heap := pushCells (s3.heap.push { cls := .type "dict", data := .dict #[] }) scope.names } →
      codeAny (model X.prog X.w) X.A (.compLoop (.ListComp elt [⟨tg, iter, ifs, 0⟩] scope pos) 0 (.ref it) (.ref D) Y.env) (compPost (model X.prog X.w) X.A X.xe use QV (.ref D) bk.C) s4 := by
    rintro s4 rfl
    have err : ∀ e s', Y.xe e s' → notedBy (model X.prog X.w) X.A Y.env (fun e s' => compPost (model X.prog X.w) X.A X.xe use QV (.ref D) bk.C (.error e) s') e s' := fun e s' q => by
      have q' : notedBy (model X.prog X.w) X.A Y.env (fun x s' => ∃ m, s'.heap.Ns bk.C m ∧ ∀ h', Heap.SameBut bk.C s'.heap h' → ∀ cenv : Env, cenv.locals = bk.C →
        wpAny (model X.prog X.w) X.A (passOn "comprehension.variables-let-go" x cenv : Sem Value) (fun _ _ => False) X.xe { s' with heap := h' }) e s' := q
      have conv : ∀ (x : Value) (t : Shared), (∃ m, t.heap.Ns bk.C m ∧ ∀ h', Heap.SameBut bk.C t.heap h' → ∀ cenv : Env, cenv.locals = bk.C →
        wpAny (model X.prog X.w) X.A (passOn "comprehension.variables-let-go" x cenv : Sem Value) (fun _ _ => False) X.xe { t with heap := h' }) → compPost (model X.prog X.w) X.A X.xe use QV (.ref D) bk.C (.error x) t := fun x t z => by
        cases use <;> exact z
      exact wpAny_mono q' (fun _ t z => conv _ t z) fun x t z => conv x t z
    refine codeAny_compLoop_any (fun n s' => ∃ i ys its nn σ' H', Inv Y [] σ' H' s' ∧ tn i s'.heap ∧ (∀ b ∈ fp, H' b = none) ∧ H' D = none ∧ ys.length ≤ sizeLine ∧ Vals ys its ∧ s'.heap.get? D = some { cls := .type "list", data := .seq its.toArray nn } ∧ W i n ys σ' H') ?_ m0
      ⟨0, [], [], 0, _, H2, I4, T.keep _ _ _ st3 fun b _ o q => k4 b o q, fun b hb => (f2 b hb).1, H2D, Nat.zero_le _, .nil, k4 _ _ hD3, w0⟩
    rintro n s5 ⟨i, ys, its, nn, σ5, H5, I5, st5, fr5, D5, hz5, v5, l5, w5⟩
    let pinD : List (Addr × Obj) := [(D, { cls := .type "list", data := .seq its.toArray nn })]
    have I5p : Inv Y pinD σ5 H5 s5 := I5.pins_of fun p hp => by
      have e : p = (D, { cls := .type "list", data := .seq its.toArray nn }) := by simpa [pinD] using hp
      subst e
      exact ⟨l5, D5, hDC, hDs, fun v z => by cases z⟩
    have stat : ∀ {H' : Hp}, (∀ b ∈ fp, H' b = none) → ∀ b ∈ fp, FpOk Y pinD H' b := fun {H'} hn b hb => by
      refine ⟨hn b hb, (I4.ok.exf b hb).1, I4.ok.exfs b hb, .inl hb, fun x c q z => (I4.ok.exf b hb).2 x c q z, fun p hp z => ?_⟩
      rcases ypn.mp hp with hp | hp
      · exact (f2 b hb).2.2.2.2.2 p hp z
      · have e : p = (D, { cls := .type "list", data := .seq its.toArray nn }) := by simpa [pinD] using hp
        subst e
        have z : D = b := z
        exact nDfp (by rw [z]; exact hb)
    have pD : ∀ {l : List (Addr × Obj)} {σ' : St} {H' : Hp} {s' : Shared}, Inv Y (pinD ++ l) σ' H' s' → s'.heap.get? D = some { cls := .type "list", data := .seq its.toArray nn } ∧ H' D = none := fun {l σ' H' s'} J => by
      have := J.pin (D, { cls := .type "list", data := .seq its.toArray nn }) (ypn.mpr (.inr (List.mem_append_left _ (by simp [pinD]))))
      exact ⟨this.1, this.2.1⟩
    rcases turn i n ys σ5 H5 w5 with ⟨stop, qn⟩ | ⟨go, hz, N, hN, step⟩
    · refine wpAny_mono (T.done Y rfl rfl rfl hc i pinD s5 σ5 H5 Y.xe I5p (stat fr5) st5 stop) (fun r s6 ⟨hr, I6⟩ => ?_) err
      subst hr
      obtain ⟨l6, D6⟩ := pD (l := []) (by simpa using I6)
      obtain ⟨m6, n6, _⟩ := id I6.loc
      have C6 : H5 bk.C = none := I6.free
      have hk : HOk X.prog X.w (upd H5 D (.lst ys)) s6.heap := I6.hok.track D6 ⟨hz5, its, nn, v5, l6⟩
      have u6 : Un (frs X.stack) fp H2 (upd H5 D (.lst ys)) s2.heap s6.heap := by
        have u : Un (frs X.stack) fp H2 H5 s2.heap s6.heap := I6.base
        have nD : ∀ b o, s2.heap.get? b = some o → b ≠ D := fun b o q => Nat.ne_of_lt (Heap.lt_size q)
        exact ⟨u.keep, u.slot, fun b o q n hx => by rw [upd_ne (nD b o q)]; exact u.free b o q n hx, u.there, fun b xs q => by rw [upd_ne (ne_of_none q H2D)]; exact u.tups b xs q,
          fun b o v q => by rw [upd_ne (ne_of_none q H2D)]; exact u.frzs b o v q, fun b ps q => by rw [upd_ne (ne_of_none q H2D)]; exact u.tbls b ps q⟩
      have I7 : Inv X pins σ (upd H5 D (.lst ys)) s6 := I2.call' (ch := fp) I6.os u6 hk I6.bare fun b hb => ⟨(f2 b hb).2.2.2.1, (f2 b hb).2.1, (f2 b hb).2.2.2.2.1, (f2 b hb).2.2.2.2.2⟩
      have hC2 : s2.heap.objs.size ≤ bk.C := by show s2.heap.objs.size ≤ s3.heap.objs.size; rw [z3]; omega
      refine fin D bk.C _ s6 m6 I7 (qn D D6) n6 (by rw [upd_ne hDC.symm]; exact C6) (Nat.ne_of_gt (Nat.lt_of_lt_of_le I2.lt hC2)) (.inr (Nat.le_trans I2.sz hC2)) (fun x c q z => ?_) fun p hp z => ?_
      · obtain ⟨v, q⟩ := I2.cell x c q
        have := q.lt
        rw [z] at this
        exact absurd (Nat.lt_of_lt_of_le this hC2) (Nat.lt_irrefl _)
      · have := Heap.lt_size (I2.pin p hp).1
        rw [z] at this
        exact absurd (Nat.lt_of_lt_of_le this hC2) (Nat.lt_irrefl _)
    · refine wpAny_mono (T.item Y rfl rfl rfl hc i pinD s5 σ5 H5 Y.xe I5p (stat fr5) st5 go) (fun r s6 ⟨u, hr, h6⟩ => ?_) err
      subst hr
      refine wpAny_mono h6 (fun _ s7 ⟨x, H7, I7, r7, y7, st7, fr7⟩ => ?_) err
      have I7' := I7.pinned (fp := fp) (stat fr7) (T.obj _ _ st7)
      have again : ∀ {σ8 : St} {H8 : Hp} {s8 : Shared}, Inv Y (pinD ++ pinsAt fp s7.heap) σ8 H8 s8 → tn (i + 1) s8.heap ∧ ∀ b ∈ fp, H8 b = none := fun {σ8 H8 s8} J => by
        refine ⟨T.keep _ _ _ st7 fun b hb o e => (J.pin (b, o) (ypn.mpr (.inr (List.mem_append_right _ (mem_pinsAt hb e))))).1, fun b hb => ?_⟩
        obtain ⟨o, e, d⟩ := T.obj _ _ st7 b hb
        exact (J.pin (b, o) (ypn.mpr (.inr (List.mem_append_right _ (mem_pinsAt hb e))))).2.1
      refine wpAny_mono (hg bk _ s7 σ5 H7 x u _ I7' r7 (step x H7 y7)) (fun _ s8 ⟨σ8, H8, I8, q8⟩ => ?_) err
      refine wpAny_mono (ht bk hBk _ s8 σ8 H8 _ I8 q8) (fun c s9 ⟨H9, I9, q9⟩ => ?_) err
      cases c with
      | false =>
        obtain ⟨m', hm, w'⟩ := hN ys σ8 H9 q9
        obtain ⟨a1, a2⟩ := again I9
        obtain ⟨b1, b2⟩ := pD I9
        exact ⟨m', hm, i + 1, ys, its, nn, σ8, H9, I9.pins_of (fun p hp => (nomatch hp)), a1, a2, b2, hz5, v5, b1, w'⟩
      | true =>
        refine wpAny_mono (he bk hBk _ s9 σ8 H9 _ I9 q9) (fun y s10 ⟨yv, H10, I10, r10, q10⟩ => ?_) err
        obtain ⟨m', hm, w'⟩ := hN (ys ++ [yv]) σ8 H10 q10
        obtain ⟨a1, a2⟩ := again I10
        obtain ⟨b1, b2⟩ := pD I10
        have hl := v5.length
        refine call_meets F.slot_list_append ⟨_, b1, rfl⟩ F.entry_list_append (F.args_list_append_2 _ _) (PySem.list_append D its.toArray nn y (by rw [List.size_toArray]; omega)) ⟨b1, ?_⟩
        have q := PySem.IsL.update b1 (fun z => z.push y)
        have ko : ∀ b o, b ≠ D → s10.heap.get? b = some o → (s10.heap.update D (Obj.mapSeq fun z => z.push y)).get? b = some o := fun b o hb hu => (Heap.get?_update_other s10.heap _ (Ne.symm hb)).trans hu
        have I10' : Inv Y [] σ8 H10 s10 := I10.pins_of (fun p hp => (nomatch hp))
        have I11 : Inv Y [] σ8 H10 { s10 with heap := s10.heap.update D (Obj.mapSeq fun z => z.push y), toks := s10.toks } := I10'.turned (it := D) ko b2 hDC (.inr (Nat.le_refl _)) (fun x c e z => by
          have h4 := I4.freeC x c e
          have h5 := I4.cell x c e
          obtain ⟨v, o, ho, hd⟩ := h5
          rw [z] at ho
          have := k4 _ _ hD3
          have ho : (pushCells (s3.heap.push { cls := .type "dict", data := .dict #[] }) scope.names).get? D = some o := ho
          rw [this] at ho
          cases ho
          cases hd) (fun p hp z => by
          rcases ypn.mp hp with hp | hp
          · have := Heap.lt_size (I2.pin p hp).1
            rw [z] at this
            exact Nat.lt_irrefl _ this
          · cases hp)
        refine ⟨m', hm, i + 1, ys ++ [yv], its ++ [y], (if ((its.toArray.push y).size == its.toArray.size) = true then nn else nn + 1), σ8, H10, I11, T.keep _ _ _ a1 fun b hb o e => ko b o (fun z => nDfp (z ▸ hb)) e, a2, b2, by simp; omega, v5.append (.cons r10 .nil), ?_, w'⟩
        have e : its.toArray.push y = (its ++ [y]).toArray := by simp
        rw [← e]
        exact q
  exact codeAny_compStart_list (loop _ rfl) (T.self X.A 0 _ _ _ (T.keep _ _ _ st3 fun b _ o q => k4 b o q) (loop _ rfl))
section
variable {X : Cx} {own fr : List Str} {ix : List Nat} {scope : Scope} {elt tg iter : Expr} {ifs : List Expr} {pos : Pos} {wi : TI} {g : Blk → TG} {tt : Blk → TT} {te : Blk → TE}
theorem pe_comp (hc : X.calm = true) (B : BlkScope X own fr ix scope) (hi : PI X tg iter wi) (hg : ∀ b, PG (X.block (own ++ fr) scope b) tg (g b)) (ht : ∀ b, BOk X b → PTs (X.block (own ++ fr) scope b) ifs (tt b)) (he : ∀ b, BOk X b → PE (X.block (own ++ fr) scope b) elt (te b))
    (hs : ∀ x, foldedSetIterable iter X.env x = pure x := by intro _; rfl) : PE X (.ListComp elt [⟨tg, iter, ifs, 0⟩] scope pos) (tBlk own.length ix wi g tt te) := by
  intro pins s σ H Q I h
  rw [eval_ListComp]
  refine comp_run (use := none) hc B hi hg ht he hs I h fun D C H' s' m J q n c1 c2 c3 c4 c5 => ?_
  refine ⟨m, n, fun h' sb => ⟨.ref D, H', ?_, rfl, q⟩⟩
  exact J.turned (it := C) (t' := s'.toks) (fun b o hb e => (sb.2 b hb).trans e) c1 c2 c3 c4 c5
theorem ps_comp {i : Nat} {x : Str} {pos' spos : Pos} (hN : X.N.Nodup) (hx1 : X.N[i]? = some x) (hx : Loc X.env.scope x) (hc : X.calm = true) (B : BlkScope X own fr ix scope) (hi : PI X tg iter wi) (hg : ∀ b, PG (X.block (own ++ fr) scope b) tg (g b)) (ht : ∀ b, BOk X b → PTs (X.block (own ++ fr) scope b) ifs (tt b))
    (he : ∀ b, BOk X b → PE (X.block (own ++ fr) scope b) elt (te b)) (hsw : swapsWith (.ListComp elt [⟨tg, iter, ifs, 0⟩] scope pos) (some (.Name x pos')) spos.line X.env = pure true := by rfl) (hf : X.fn x = true ∨ X.env.scope.names.lookup x = some .local := by first | exact .inl rfl | exact .inr rfl | assumption)
    (hs : ∀ x, foldedSetIterable iter X.env x = pure x := by intro _; rfl) : PS X (.Assign [.Name x pos'] (.ListComp elt [⟨tg, iter, ifs, 0⟩] scope pos) spos) (tAsg (tBlk own.length ix wi g tt te) (gName i)) := by
  intro pins s σ H D I h
  rw [exec_Assign_Name_used _ _ _ _ hsw]
  refine wpAny_bind (wpAny_standAt (wpAny_bind ?_))
  show wpAny _ X.A (do let _ ← comprehension (.ListComp elt [⟨tg, iter, ifs, 0⟩] scope pos) scope X.env _ (newList []) false (eval iter X.env) (some (assign (.Name x pos') X.env))) _ _ s
  refine wpAny_bind (wpAny_mono (comp_run (use := some (assign (.Name x pos') X.env)) (QV := fun _ s' => SP X pins D .next s') hc B hi hg ht he hs I h fun d C H' s' m J q n c1 c2 c3 c4 c5 => ?_) (fun _ s' hq => wpAny_pure (wpAny_pure hq)) fun _ _ e => e)
  show wpAny _ X.A (assign (.Name x pos') X.env (.ref d)) _ _ _
  refine wpAny_assign_Name (store_ok2 (v := .ref d) J hN hx1 hx rfl (fun s2 J2 ⟨a, sb, ha⟩ => ?_) hf)
  have ne : C ≠ a := by
    rcases ha with z | z
    · rw [z]; exact c2
    · exact fun e => c4 x a z e.symm
  have n2 : s2.heap.Ns C m := by
    obtain ⟨o, es, ep, ho, r⟩ := n
    exact ⟨o, es, ep, (sb.2 C ne).trans ho, r⟩
  exact ⟨m, n2, fun h' sb' => ⟨_, H', J2.turned (it := C) (t' := s2.toks) (fun b o hb e => (sb'.2 b hb).trans e) c1 c2 c3 c4 c5, q⟩⟩
end
end L2
set_option Elab.async false
set_option linter.all false
set_option maxRecDepth 100000
set_option maxHeartbeats 4000000
namespace L2
open PySem PySem.Spec PyProof.Rows
theorem Inv.turnedL {X : Cx} {pins : List (Addr × Obj)} {σ : St} {H : Hp} {s : Shared} {h' : Heap} {t' : Nat} {ch : List Addr} (I : Inv X pins σ H s) (hf : ∀ b ∈ ch, FpOk X pins H b) (k : ∀ b o, b ∉ ch → s.heap.get? b = some o → h'.get? b = some o) (th : ∀ b ∈ ch, ∃ o, h'.get? b = some o) :
    Inv X pins σ H { s with heap := h', toks := t' } := by
  have nit : ∀ b u, H b = some u → b ∉ ch := fun b u e z => by rw [(hf b z).1] at e; cases e
  refine I.step (g' := s.gens) (d' := s.drawn) (ch := ch) (fun b hb => ⟨(hf b hb).2.2.2.1, (hf b hb).2.1, (hf b hb).2.2.2.2.1, (hf b hb).2.2.2.2.2⟩) (fun b o _ _ hc e _ => k b o hc e) (fun b o _ _ hc e _ => ⟨o.slots, k b o hc e⟩) (fun _ _ _ _ n => n)
    (fun b o hc e => ⟨o, k b o hc e⟩) (fun _ _ e => e) (fun _ _ _ e => e) (fun b ps e => ⟨#[], by rw [e]; simp⟩) (fun m hm => ?_) (fun b u e => ?_) I.bare
  · obtain ⟨o, es, ep, ho, r⟩ := hm
    exact ⟨o, es, ep, k _ o (fun z => (hf _ z).2.1 rfl) ho, r⟩
  · refine (I.hok b u e).stay (fun c v hc q => k c v ?_ q) (fun _ q => q) fun _ _ q => q
    rcases hc with z | z
    · rw [z]; exact nit b u e
    · exact nit c _ z
def Ite (K : PySem.W.Frag) (a : Addr) : It :=
  ⟨fun i H => ∃ xs x, SqL K H a xs ∧ xs[i]? = some x, fun i H x H' => ∃ p v, H p = none ∧ x = .ref p ∧ H' = upd H p (.tup [.int i, v]) ∧ ∀ xs, SqL K H a xs → xs[i]? = some v, fun i H => ∃ xs, SqL K H a xs ∧ xs.length ≤ i⟩
theorem turn_enum {P : Program} {w : World} {K : PySem.W.Frag} {elts : List Expr} {x1} {tpos : Pos} (a e it : Addr) (hne : e ≠ it) : Turn P w K (.Tuple elts x1 tpos) (Ite K a) [e, it] e (fun i h => ∃ old, IsEnum h e it ((i : Nat) : Int) old ∧ h.IsListIter it a i) where
  mem := by simp
  obj := fun i h ⟨old, he, hi⟩ b hb => by
    have eb : b = e ∨ b = it := by simpa using hb
    rcases eb with rfl | rfl
    · exact ⟨_, he, fun v z => by cases z⟩
    · obtain ⟨o, e, c, d⟩ := hi
      exact ⟨o, e, fun v z => by rw [d] at z; cases z⟩
  keep := fun i h h' ⟨old, he, hi⟩ k => ⟨old, k e (by simp) _ he, hi.at fun o q => k it (by simp) o q⟩
  item := by
    intro X hP hw hK hc i pins s σ H E I hf st hg
    subst hP hw hK
    obtain ⟨old, he, hit⟩ := st
    obtain ⟨xs, x, hq, hx⟩ := hg
    obtain ⟨its, rv, p, hz⟩ := I.list hq
    obtain ⟨u, hu, ru⟩ := rv.get hx
    refine wpAny_pyNext_enum_item he hit p.isList (x := u) (by simpa using hu) hne fun h1 heo hit1 ht1 hz1 hk1 => ?_
    have hsz := Heap.lt_size he
    obtain ⟨oi, hoi, _⟩ := id hit
    have hszi := Heap.lt_size hoi
    refine ⟨_, rfl, wpAny_letOwnedTupleGo_enum heo fun h2 he2 hs2 => ?_⟩
    have hs2 : Heap.SameBut e h1 h2 := hs2
    have k2 : ∀ b o, b ∉ [e, it] → s.heap.get? b = some o → h2.get? b = some o := fun b o hb q => by
      have hb : ¬ (b = e ∨ b = it) := by simpa using hb
      exact (hs2.2 b (fun z => hb (.inl z))).trans (hk1 b o (fun z => hb (.inl z)) (fun z => hb (.inr z)) q)
    have I2 : Inv X pins σ H { s with heap := h2, toks := s.toks + 1 } := I.turnedL (ch := [e, it]) hf k2 fun b hb => by
      have eb : b = e ∨ b = it := by simpa using hb
      rcases eb with rfl | rfl
      · exact ⟨_, he2⟩
      · obtain ⟨o, q, _⟩ := hit1
        exact ⟨o, (hs2.2 b (Ne.symm hne)).trans q⟩
    have hp : H s.heap.objs.size = none := I.hok.fresh (Nat.le_refl _)
    have ht2 : h2.get? s.heap.objs.size = some { cls := .type "tuple", data := .seq #[.int i s.toks, u] } := (hs2.2 _ (Nat.ne_of_gt hsz)).trans ht1
    have I3 : Inv X pins σ (upd H s.heap.objs.size (.tup [.int i, x])) { s with heap := h2, toks := s.toks + 1 } := by
      have ok3 : HOk X.prog X.w (upd H s.heap.objs.size (.tup [.int i, x])) h2 := I2.hok.track hp ⟨by show 2 ≤ sizeLine; decide, [.int i s.toks, u], .cons ⟨_, rfl⟩ (.cons ru .nil), ⟨_, ht2, rfl, _, rfl⟩⟩
      refine I.step (g' := s.gens) (d' := s.drawn) (ch := [e, it]) (fun b hb => ⟨(hf b hb).2.2.2.1, (hf b hb).2.1, (hf b hb).2.2.2.2.1, (hf b hb).2.2.2.2.2⟩) (fun b o _ _ hc q _ => k2 b o hc q) (fun b o _ _ hc q _ => ⟨o.slots, k2 b o hc q⟩)
        (fun b o _ q n => by rw [upd_ne (Nat.ne_of_lt (Heap.lt_size q))]; exact n) (fun b o hc q => ⟨o, k2 b o hc q⟩) (fun b ys q => by rw [upd_ne (ne_of_none q hp)]; exact q) (fun b o v q => by rw [upd_ne (ne_of_none q hp)]; exact q)
        (fun b ps q => ⟨#[], by rw [upd_ne (ne_of_none q hp), q]; simp⟩) (fun m hm => ?_) ok3 I.bare
      obtain ⟨o, es, ep, ho, r⟩ := hm
      exact ⟨o, es, ep, k2 _ o (fun z => (hf _ z).2.1 rfl) ho, r⟩
    have ei : ((i : Nat) : Int) + 1 = ((i + 1 : Nat) : Int) := by push_cast; rfl
    rw [ei] at he2
    refine ⟨.ref s.heap.objs.size, _, I3, rfl, ⟨_, x, hp, rfl, rfl, fun ys hy => by rw [I.list_inj hy hq]; exact hx⟩, ⟨u, he2, hit1.at fun o q => (hs2.2 it (Ne.symm hne)).trans q⟩, fun b hb => ?_⟩
    have eb : b = e ∨ b = it := by simpa using hb
    have hb2 : b < s.heap.objs.size := by
      rcases eb with rfl | rfl
      · exact hsz
      · exact hszi
    rw [upd_ne (Nat.ne_of_lt hb2)]
    exact (hf b hb).1
  done := by
    intro X hP hw hK hc i pins s σ H E I hf st hg
    subst hP hw hK
    obtain ⟨old, he, hit⟩ := st
    obtain ⟨xs, hq, hx⟩ := hg
    obtain ⟨its, rv, p, hz⟩ := I.list hq
    have hl := rv.length
    obtain ⟨f0, f1, f2, f3, f4, f5⟩ := hf it (by simp)
    exact wpAny_pyNext_enum_end (I.ok.hd hc) he hit p.isList (by simp; omega) fun h' eb => ⟨rfl, I.turned (t' := s.toks) (fun b o hb q => eb b o hb q) f0 f1 f3 f4 f5⟩
  self := fun _ _ _ _ _ ⟨_, he, _⟩ h => wpAny_pyIter_enum he h
def iEnum (K : PySem.W.Frag) (ta : TA) : TI := fun σ H R => ta σ H fun vs H1 => ∃ a, vs = [.ref a] ∧ (∃ xs, SqL K H1 a xs) ∧ R (Ite K a) H1
section
variable {X : Cx}
theorem pi_enum {a : Expr} {ta : TA} {p pos : Pos} {elts : List Expr} {x1} {tpos : Pos} (hg : Gl X "enumerate") (hm : X.mg "enumerate" = none) (ha : PA X [a] ta) (hs : starEach [a] X.env = [(false, eval a X.env)] := by rfl) :
    PI X (.Tuple elts x1 tpos) (.Call (.Name "enumerate" p) [a] [] pos) (iEnum X.K ta) := by
  intro pins s σ H R I h
  refine Call_ (ld_blt I hg hm boot_enumerate (PyProof.Rows.callWith_type1 (thn (ha pos pins s σ H _ I h) fun us s1 ⟨vs, H1, I1, r1, q1⟩ => ?_) hs rfl))
  obtain ⟨b, e, ⟨xs, hq⟩, q⟩ := q1
  subst e
  cases r1 with
  | cons r rr =>
    cases rr
    cases r
    obtain ⟨its, rv, pl, hz⟩ := I1.list hq
    refine call_enumerate_list pl.isList fun h' he hit hsz hk => ?_
    have I2 : Inv X pins σ H1 { s1 with heap := h' } := I1.kept (t' := s1.toks) hk
    refine wpAny_pyIter_enum he ⟨s1.heap.objs.size + 1, [s1.heap.objs.size + 1, s1.heap.objs.size], _, _, H1, rfl, I2, turn_enum b _ _ (Nat.succ_ne_self _), ⟨_, he, hit⟩, fun c hc => ?_, q⟩
    have ec : c = s1.heap.objs.size + 1 ∨ c = s1.heap.objs.size := by simpa using hc
    rcases ec with rfl | rfl
    · exact I1.fpOk (Nat.le_succ _) (I1.hok.fresh (Nat.le_succ _))
    · exact I1.fpOk (Nat.le_refl _) (I1.hok.fresh (Nat.le_refl _))
theorem Vals.bls : ∀ {bs : List Bool} {us : List Value}, Vals (bs.map V.bl) us → us = bs.map Value.bool
  | [], _, .nil => rfl
  | _ :: _, _, .cons r t => by
    cases r
    rw [List.map_cons, Vals.bls t]
theorem all_range {bs : List Bool} : ((List.range bs.length).all fun i => bs.getD i false) = bs.all id := by
  induction bs with
  | nil => rfl
  | cons b r ih =>
    rw [List.length_cons, List.range_succ_eq_map, List.all_cons, List.all_map, List.all_cons]
    rw [← ih]
    rfl
theorem call_all (hc : X.calm = true) : CallR X (.builtin "all") (fun xs H Q => ∃ (p : Addr) (bs : List Bool), xs = [.ref p] ∧ SqL X.K H p (bs.map V.bl) ∧ Q (.bl (bs.all id)) H) := by
  intro pins s σ H xs us Q I r h
  obtain ⟨p, bs, rfl, hq, q⟩ := h
  obtain ⟨u, rfl, ru⟩ := vals1 r
  cases ru
  obtain ⟨its, rv, pl, hz⟩ := I.list hq
  have eb := rv.bls
  subst eb
  refine call_all_walk ?_
  refine wpAny_pyIter_list pl.isList ?_
  have pm : p ≠ s.heap.objs.size := by
    obtain ⟨o, n, ho, _⟩ := pl
    exact Nat.ne_of_lt (Heap.lt_size ho)
  have I1 : Inv X pins σ H { s with heap := s.heap.push { cls := .type "list_iterator", data := .fields #[.ref p, .int 0 0] } } := I.kept (t' := s.toks) fun b o e => Heap.get?_push_of_some _ e
  refine ⟨s.heap.objs.size, [s.heap.objs.size, p], [s.heap.objs.size], _, _, _, fun i => bs.getD i false, rfl, Walks.list (A := X.A.in1) (by show X.A.handled = none; exact I.ok.hd hc) s.heap.objs.size p pm (bs.map Value.bool).toArray, ⟨⟨_, Heap.get?_push_size _ rfl, rfl, rfl⟩, pl.isList.at fun o e => Heap.get?_push_of_some _ e⟩, fun i v s' Q' E' hv hq' => ?_, fun h' tk hk => ?_⟩
  · have hv : (bs.map Value.bool)[i]? = some v := by simpa using hv
    rw [List.getElem?_map] at hv
    cases e : bs[i]? with
    | none => rw [e] at hv; cases hv
    | some b =>
      rw [e] at hv
      cases hv
      have : bs.getD i false = b := by rw [List.getD_eq_getElem?_getD, e]; rfl
      have hq' : Q' (bs.getD i false) s' := hq'
      rw [this] at hq'
      exact wpAny_truthy_bool hq'
  · have e : (bs.map Value.bool).toArray.size = bs.length := by simp
    rw [e, all_range]
    obtain ⟨f0, f1, f2, f3, f4, f5⟩ := I.fpOk (Nat.le_refl s.heap.objs.size) (I.hok.fresh (Nat.le_refl _))
    exact ⟨.bl (bs.all id), H, I1.turned (it := s.heap.objs.size) (fun b o hb q => hk b o (by simpa using hb) q) f0 f1 f3 f4 f5, rfl, q⟩
def isiOk (K : PySem.W.Frag) (t : Value) (c : V) (b : Bool) : Prop := match c with
  | .ty n => PySem.W.kitOne K t (.type n) = some b
  | .ref a => PySem.W.kitOne K t (.ref a) = some b
  | _ => False
def eqVs : List V → List V → Bool
  | [], [] => true
  | x :: xs, y :: ys => eqV x y && eqVs xs ys
  | _, _ => false
theorem eqVs_len : ∀ {xs ys : List V}, xs.length ≠ ys.length → eqVs xs ys = false
  | [], [], h => absurd rfl h
  | [], _ :: _, _ => rfl
  | _ :: _, [], _ => rfl
  | x :: xs, y :: ys, h => by
    unfold eqVs
    rw [eqVs_len (xs := xs) (ys := ys) (fun e => h (by simp [e]))]
    simp
theorem eqVs_range : ∀ (xs ys : List V), xs.length = ys.length → ((List.range xs.length).all fun j => eqV (xs.getD j .non) (ys.getD j .non)) = eqVs xs ys
  | [], [], _ => rfl
  | x :: xs, y :: ys, h => by
    unfold eqVs
    rw [List.length_cons, List.range_succ_eq_map, List.all_cons, List.all_map, ← eqVs_range xs ys (by simpa using h)]
    rfl
theorem eqVs_min : ∀ (xs ys : List V), ((List.range (min xs.length ys.length)).all (fun j => eqV (xs.getD j .non) (ys.getD j .non)) && xs.length == ys.length) = eqVs xs ys := fun xs ys => by
  by_cases h : xs.length = ys.length
  · rw [← eqVs_range xs ys h, ← h, Nat.min_self]; simp
  · rw [eqVs_len h]
    have : (xs.length == ys.length) = false := by simpa using h
    rw [this, Bool.and_false]
theorem eqAt_items {A : Around} {s : Shared} {xs ys : List V} {us ws : List Value} (r : Vals xs us) (q : Vals ys ws) (fx : xs.all flatV = true) (fy : ys.all flatV = true) :
    ∀ j (h1 : j < us.toArray.size) (h2 : j < ws.toArray.size), SeqAt.EqAt A s us.toArray[j] ws.toArray[j] (eqV (xs.getD j .non) (ys.getD j .non)) := fun j h1 h2 => by
  have l1 := r.length
  have l2 := q.length
  have h1' : j < xs.length := by simpa [l1] using h1
  have h2' : j < ys.length := by simpa [l2] using h2
  obtain ⟨u, e1, ru⟩ := r.get (i := j) (x := xs[j]) (by simp [h1'])
  obtain ⟨w, e2, rw'⟩ := q.get (i := j) (x := ys[j]) (by simp [h2'])
  have g1 : us.toArray[j] = u := by
    have := List.getElem?_eq_some_iff.mp e1
    obtain ⟨_, e⟩ := this
    simpa using e
  have g2 : ws.toArray[j] = w := by
    have := List.getElem?_eq_some_iff.mp e2
    obtain ⟨_, e⟩ := this
    simpa using e
  rw [g1, g2]
  have d1 : xs.getD j .non = xs[j] := by rw [List.getD_eq_getElem?_getD]; simp [h1']
  have d2 : ys.getD j .non = ys[j] := by rw [List.getD_eq_getElem?_getD]; simp [h2']
  rw [d1, d2]
  exact eqAt_V ru rw' (List.all_eq_true.mp fx _ (List.getElem_mem h1')) (List.all_eq_true.mp fy _ (List.getElem_mem h2'))
def rEqS (K : PySem.W.Frag) (neg : Bool) : R2 := fun x y H Q => ∃ a b xs ys, x = .ref a ∧ y = .ref b ∧ ((SqL K H a xs ∧ SqL K H b ys) ∨ (SqT K H a xs ∧ SqT K H b ys)) ∧ xs.all flatV = true ∧ ys.all flatV = true ∧ Q (.bl (if neg then !eqVs xs ys else eqVs xs ys)) H
theorem op_eqS (hu : X.A.units < cLine) : OpR X (compareOp .Eq) (rEqS X.K false) := by
  intro pins s σ H x y v u Q I rx ry h
  obtain ⟨a, b, xs, ys, rfl, rfl, hh, fx, fy, q⟩ := h
  cases rx
  cases ry
  rcases hh with ⟨h1, h2⟩ | ⟨h1, h2⟩
  · obtain ⟨us, rv, p1, z1⟩ := I.list h1
    obtain ⟨ws, rw', p2, z2⟩ := I.list h2
    have l1 := rv.length
    have l2 := rw'.length
    by_cases hl : xs.length = ys.length
    · refine SeqAt.eq_listAt p1.isList p2.isList (by simp; omega) hu (eqAt_items rv rw' fx fy) ?_
      have e : (us.toArray.size) = xs.length := by simp [l1]
      rw [e, eqVs_range xs ys hl]
      exact ⟨.bl _, H, I, rfl, q⟩
    · refine SeqAt.eq_list_lengthsAt p1.isList p2.isList (by simp; omega) hu ?_
      rw [← eqVs_len hl]
      exact ⟨.bl _, H, I, rfl, q⟩
  · obtain ⟨us, rv, p1, z1⟩ := I.tuple h1
    obtain ⟨ws, rw', p2, z2⟩ := I.tuple h2
    have l1 := rv.length
    have l2 := rw'.length
    refine SeqAt.eq_tupleAt (show s.heap.IsTuple a us.toArray from p1) (show s.heap.IsTuple b ws.toArray from p2) hu (eqAt_items rv rw' fx fy) ?_
    have e : (us.toArray.size) = xs.length := by simp [l1]
    have e' : (ws.toArray.size) = ys.length := by simp [l2]
    rw [e, e', eqVs_min xs ys]
    exact ⟨.bl _, H, I, rfl, q⟩
theorem op_neS (hu : X.A.units < cLine) : OpR X (compareOp .NotEq) (rEqS X.K true) := by
  intro pins s σ H x y v u Q I rx ry h
  obtain ⟨a, b, xs, ys, rfl, rfl, hh, fx, fy, q⟩ := h
  cases rx
  cases ry
  rcases hh with ⟨h1, h2⟩ | ⟨h1, h2⟩
  · obtain ⟨us, rv, p1, z1⟩ := I.list h1
    obtain ⟨ws, rw', p2, z2⟩ := I.list h2
    have l1 := rv.length
    have l2 := rw'.length
    by_cases hl : xs.length = ys.length
    · refine SeqAt.RcNeAt.lists p1.isList p2.isList (by simp; omega) hu (eqAt_items rv rw' fx fy) _ _ _ _ ?_
      have e : (us.toArray.size) = xs.length := by simp [l1]
      rw [e, eqVs_range xs ys hl]
      exact ⟨.bl _, H, I, rfl, q⟩
    · refine SeqAt.RcNeAt.lists_lengths p1.isList p2.isList (by simp; omega) hu _ _ _ _ ?_
      have q' : Q (.bl (!eqVs xs ys)) H := q
      rw [eqVs_len hl] at q'
      exact ⟨.bl _, H, I, rfl, q'⟩
  · obtain ⟨us, rv, p1, z1⟩ := I.tuple h1
    obtain ⟨ws, rw', p2, z2⟩ := I.tuple h2
    have l1 := rv.length
    have l2 := rw'.length
    refine SeqAt.RcNeAt.tuples (show s.heap.IsTuple a us.toArray from p1) (show s.heap.IsTuple b ws.toArray from p2) hu (eqAt_items rv rw' fx fy) _ _ _ _ ?_
    have e : (us.toArray.size) = xs.length := by simp [l1]
    have e' : (ws.toArray.size) = ys.length := by simp [l2]
    rw [e, e', eqVs_min xs ys]
    exact ⟨.bl _, H, I, rfl, q⟩
end
end L2
set_option Elab.async false
set_option linter.all false
set_option maxRecDepth 100000
set_option maxHeartbeats 4000000
namespace L2
open PySem PySem.Spec PyProof.Rows
def NoX (CX : CXT) : Prop := ∀ o H s e s', CX o H s E0 e s' → False
theorem pass1 {CX : CXT} {X : Cx} (c0 : NoX CX) : Passes CX X E0 := fun _ _ _ _ _ _ _ h => (c0 _ _ _ _ _ h).elim
theorem hu0 {A : Around} {k : Nat} (hr : Room k A) : A.units < cLine := hr.units0
section
variable {P : Program} {w : World} {K : PySem.W.Frag} {mg : Str → Option Value} {base : Heap}
theorem Fun.okX {CX : CXT} {x qual : Str} {st : Stmt} {f : Addr} {fd : FuncData} {N ps : List Str} {k : Nat} {sp : Sp} (F : Fun K x qual st f fd) (S : FnScope N ps (defScope st)) (len : ∀ vs H Q E, sp vs H Q E → vs.length = ps.length)
    (hbody : ∀ (cdv : Value) (A : Around) (outer : List Env) (s : Shared) (H : Hp) (vs : List V) (Q : VK) (E : XK), Room k (A.deeper (envOfC qual (defScope st) s.heap.objs.size f cdv)) → sp vs H Q E →
      ∃ t, PSs (cxOf CX P w K mg base N qual (defScope st) f cdv A outer s H E).nox (defBody st) t ∧ t { nx := fun _ H' => Q .non H', rt := Q } (start N vs) H) : FnOk P w K mg base CX (k + 1) f fd ps sp := by
  obtain ⟨oc, od, kV, doc, pm, an, cdv, ct, osl, rfl, lk, hcd⟩ := F.ex
  refine fn_of lk hcd S len fun A outer s H vs Q E hr hsp => ?_
  obtain ⟨t, h, q⟩ := hbody cdv A outer s H vs Q E hr hsp
  exact ⟨t, h.nox, q⟩
end
theorem blk_list {K : PySem.W.Frag} {a : Addr} {xs : List V} {own : Nat} {ix : List Nat} {g : Blk → TG} {tt : Blk → TT} {te : Blk → TE} {σ0 : St} {H0 : Hp} {Q : VK} (Pv : Nat → List V → St → Hp → Prop) (hz : xs.length ≤ sizeLine) (h0 : Pv 0 [] (blkStart own ix σ0) H0) (hl : ∀ i ys σ H, i ≤ xs.length → Pv i ys σ H → SqL K H a xs ∧ ys.length ≤ i)
    (hs : ∀ bk i x ys σ H, xs[i]? = some x → Pv i ys σ H → g bk x σ H fun σ2 H2 => tt bk σ2 H2 fun c H3 => if c = true then te bk σ2 H3 fun y H4 => Pv (i + 1) (ys ++ [y]) σ2 H4 else Pv (i + 1) ys σ2 H3)
    (hd : ∀ ys σ H D, Pv xs.length ys σ H → H D = none → Q (.ref D) (upd H D (.lst ys))) :
    BlkBody own ix g tt te σ0 Q (Itl K a) H0 := by
  intro bk
  refine ⟨fun i m ys σ H => m = xs.length - i ∧ i ≤ xs.length ∧ Pv i ys σ H, ⟨xs.length, by simp, Nat.zero_le _, h0⟩, ?_⟩
  rintro i m ys σ H ⟨rfl, hi, p⟩
  obtain ⟨q, hy⟩ := hl i ys σ H hi p
  by_cases hlt : i < xs.length
  · refine .inr ⟨⟨xs, xs[i], q, by simp [hlt]⟩, by omega, Pv (i + 1), fun ys' σ' H' p' => ⟨xs.length - (i + 1), by omega, rfl, hlt, p'⟩, fun x H' y => ?_⟩
    obtain ⟨e, y⟩ := y
    subst e
    exact hs bk i x ys σ _ (y xs q) p
  · have e : i = xs.length := by omega
    subst e
    exact .inl ⟨⟨xs, q, Nat.le_refl _⟩, fun D hD => hd ys σ H D p hD⟩
theorem blk_range {lo : Int} {n : Nat} {own : Nat} {ix : List Nat} {g : Blk → TG} {tt : Blk → TT} {te : Blk → TE} {σ0 : St} {H0 : Hp} {Q : VK} (Pv : Nat → List V → St → Hp → Prop) (hz : n ≤ sizeLine) (h0 : Pv 0 [] (blkStart own ix σ0) H0) (hl : ∀ i ys σ H, i ≤ n → Pv i ys σ H → ys.length ≤ i)
    (hs : ∀ bk i ys σ H, i < n → Pv i ys σ H → g bk (.int (lo + i)) σ H fun σ2 H2 => tt bk σ2 H2 fun c H3 => if c = true then te bk σ2 H3 fun y H4 => Pv (i + 1) (ys ++ [y]) σ2 H4 else Pv (i + 1) ys σ2 H3)
    (hd : ∀ ys σ H D, Pv n ys σ H → H D = none → Q (.ref D) (upd H D (.lst ys))) :
    BlkBody own ix g tt te σ0 Q (Itr lo n) H0 := by
  intro bk
  refine ⟨fun i m ys σ H => m = n - i ∧ i ≤ n ∧ Pv i ys σ H, ⟨n, by simp, Nat.zero_le _, h0⟩, ?_⟩
  rintro i m ys σ H ⟨rfl, hi, p⟩
  have hy := hl i ys σ H hi p
  by_cases hlt : i < n
  · refine .inr ⟨hlt, by omega, Pv (i + 1), fun ys' σ' H' p' => ⟨n - (i + 1), by omega, rfl, hlt, p'⟩, fun x H' y => ?_⟩
    obtain ⟨e, y⟩ := y
    subst e y
    exact hs bk i ys σ _ hlt p
  · have e : i = n := by omega
    subst e
    exact .inl ⟨Nat.le_refl _, fun D hD => hd ys σ H D p hD⟩
theorem blk_enum {K : PySem.W.Frag} {a : Addr} {xs : List V} {own : Nat} {ix : List Nat} {g : Blk → TG} {tt : Blk → TT} {te : Blk → TE} {σ0 : St} {H0 : Hp} {Q : VK} (Pv : Nat → List V → St → Hp → Prop) (hz : xs.length ≤ sizeLine) (h0 : Pv 0 [] (blkStart own ix σ0) H0) (hl : ∀ i ys σ H, i ≤ xs.length → Pv i ys σ H → SqL K H a xs ∧ ys.length ≤ i)
    (hs : ∀ bk i x ys σ H p, xs[i]? = some x → Pv i ys σ H → H p = none → g bk (.ref p) σ (upd H p (.tup [.int i, x])) fun σ2 H2 => tt bk σ2 H2 fun c H3 => if c = true then te bk σ2 H3 fun y H4 => Pv (i + 1) (ys ++ [y]) σ2 H4 else Pv (i + 1) ys σ2 H3)
    (hd : ∀ ys σ H D, Pv xs.length ys σ H → H D = none → Q (.ref D) (upd H D (.lst ys))) :
    BlkBody own ix g tt te σ0 Q (Ite K a) H0 := by
  intro bk
  refine ⟨fun i m ys σ H => m = xs.length - i ∧ i ≤ xs.length ∧ Pv i ys σ H, ⟨xs.length, by simp, Nat.zero_le _, h0⟩, ?_⟩
  rintro i m ys σ H ⟨rfl, hi, p⟩
  obtain ⟨q, hy⟩ := hl i ys σ H hi p
  by_cases hlt : i < xs.length
  · refine .inr ⟨⟨xs, xs[i], q, by simp [hlt]⟩, by omega, Pv (i + 1), fun ys' σ' H' p' => ⟨xs.length - (i + 1), by omega, rfl, hlt, p'⟩, fun x H' y => ?_⟩
    obtain ⟨b, v, hb, e1, e2, y⟩ := y
    subst e1 e2
    exact hs bk i v ys σ H b (y xs q) p hb
  · have e : i = xs.length := by omega
    subst e
    exact .inl ⟨⟨xs, q, Nat.le_refl _⟩, fun D hD => hd ys σ H D p hD⟩
def ForBody (g : TG) (tb : TS) (D : Ends) (σ : St) (J : It) (H1 : Hp) : Prop := ∃ W : Nat → Nat → St → Hp → Prop, (∃ m, W 0 m σ H1) ∧ ∀ i m σ H, W i m σ H →
  (J.stop i H ∧ D.nx σ H) ∨ (J.go i H ∧ ∃ N : St → Hp → Prop, (∀ σ' H', N σ' H' → ∃ m', m' < m ∧ W (i + 1) m' σ' H') ∧ ∀ x H', J.yld i H x H' → g x σ H' fun σ2 H2 => tb { D with nx := N, ct := N, bk := D.nx } σ2 H2)
theorem tFor_eq {wi : TI} {g : TG} {tb : TS} {D : Ends} {σ : St} {H : Hp} : tFor wi g tb D σ H = wi σ H (ForBody g tb D σ) := rfl
theorem forb_list {K : PySem.W.Frag} {a : Addr} {xs : List V} {g : TG} {tb : TS} {D : Ends} {σ : St} {H : Hp} (Pv : Nat → St → Hp → Prop) (h0 : Pv 0 σ H) (hl : ∀ i σ H, i ≤ xs.length → Pv i σ H → SqL K H a xs)
    (hs : ∀ i x σ H, xs[i]? = some x → Pv i σ H → g x σ H fun σ2 H2 => tb { D with nx := Pv (i + 1), ct := Pv (i + 1), bk := D.nx } σ2 H2) (hd : ∀ σ H, Pv xs.length σ H → D.nx σ H) : ForBody g tb D σ (Itl K a) H := for_list Pv h0 hl hs hd
theorem forb_range {lo : Int} {n : Nat} {g : TG} {tb : TS} {D : Ends} {σ : St} {H : Hp} (Pv : Nat → St → Hp → Prop) (h0 : Pv 0 σ H)
    (hs : ∀ i σ H, i < n → Pv i σ H → g (.int (lo + i)) σ H fun σ2 H2 => tb { D with nx := Pv (i + 1), ct := Pv (i + 1), bk := D.nx } σ2 H2) (hd : ∀ σ H, Pv n σ H → D.nx σ H) : ForBody g tb D σ (Itr lo n) H := for_range Pv h0 hs hd
theorem Same.new {H : Hp} {p : Addr} {o : HO} (h : H p = none) : Same H (upd H p o) := fun b u e => by rw [upd_ne (ne_of_none e h)]; exact e
theorem Same.upd' {H H' : Hp} {p : Addr} {o : HO} (s : Same H H') (h : H' p = none) : Same H (upd H' p o) := s.trans (Same.new h)
theorem Same.tup {K : PySem.W.Frag} {H H' : Hp} {a : Addr} {xs : List V} (e : Same H H') (h : SqT K H a xs) : SqT K H' a xs := by
  rcases h with (h | ⟨o, h⟩) | h
  · exact .inl (.inl (e _ _ h))
  · exact .inl (.inr ⟨o, e _ _ h⟩)
  · exact .inr h
abbrev Pr := Int × Int
def pairO (q : Pr) : HO := .tup [.int q.1, .int q.2]
inductive TupsAt (H : Hp) : List Addr → List Pr → Prop
  | nil : TupsAt H [] []
  | cons {a : Addr} {q : Pr} {as : List Addr} {ps : List Pr} : H a = some (pairO q) → TupsAt H as ps → TupsAt H (a :: as) (q :: ps)
theorem TupsAt.len {H : Hp} : ∀ {as : List Addr} {ps : List Pr}, TupsAt H as ps → as.length = ps.length
  | _, _, .nil => rfl
  | _, _, .cons _ t => by rw [List.length_cons, List.length_cons, t.len]
theorem TupsAt.mono {H H' : Hp} (k : ∀ a q, H a = some (pairO q) → H' a = some (pairO q)) : ∀ {as : List Addr} {ps : List Pr}, TupsAt H as ps → TupsAt H' as ps
  | _, _, .nil => .nil
  | _, _, .cons h t => .cons (k _ _ h) (t.mono k)
theorem TupsAt.same {H H' : Hp} (s : Same H H') {as : List Addr} {ps : List Pr} (t : TupsAt H as ps) : TupsAt H' as ps := t.mono fun a q h => s a _ h
theorem TupsAt.upd {H : Hp} {p : Addr} {o u : HO} (hp : H p = some u) (hu : ∀ xs, u ≠ .tup xs) {as : List Addr} {ps : List Pr} (t : TupsAt H as ps) : TupsAt (upd H p o) as ps := t.mono fun a q h => by
  rw [upd_ne (ne_of h hp fun e => hu _ e.symm)]; exact h
theorem TupsAt.get {H : Hp} : ∀ {as : List Addr} {ps : List Pr} {i : Nat} {a : Addr}, TupsAt H as ps → as[i]? = some a → ∃ q, ps[i]? = some q ∧ H a = some (pairO q)
  | _, _, 0, a, .cons h t, e => by
    have e : some _ = some a := e
    cases e
    exact ⟨_, rfl, h⟩
  | _, _, i + 1, a, .cons h t, e => t.get (i := i) (by simpa using e)
  | _, _, _, _, .nil, e => by simp at e
theorem TupsAt.get' {H : Hp} : ∀ {as : List Addr} {ps : List Pr} {i : Nat} {q : Pr}, TupsAt H as ps → ps[i]? = some q → ∃ a, as[i]? = some a ∧ H a = some (pairO q)
  | _, _, 0, a, .cons h t, e => by
    have e : some _ = some a := e
    cases e
    exact ⟨_, rfl, h⟩
  | _, _, i + 1, a, .cons h t, e => t.get' (i := i) (by simpa using e)
  | _, _, _, _, .nil, e => by simp at e
theorem TupsAt.append {H : Hp} : ∀ {as bs : List Addr} {ps qs : List Pr}, TupsAt H as ps → TupsAt H bs qs → TupsAt H (as ++ bs) (ps ++ qs)
  | _, _, _, _, .nil, s => s
  | _, _, _, _, .cons h t, s => .cons h (t.append s)
theorem TupsAt.drop {H : Hp} : ∀ {as : List Addr} {ps : List Pr} (n : Nat), TupsAt H as ps → TupsAt H (as.drop n) (ps.drop n)
  | _, _, 0, t => t
  | _, _, _ + 1, .nil => .nil
  | _, _, n + 1, .cons _ t => t.drop n
theorem TupsAt.take {H : Hp} : ∀ {as : List Addr} {ps : List Pr} (n : Nat), TupsAt H as ps → TupsAt H (as.take n) (ps.take n)
  | _, _, 0, _ => .nil
  | _, _, _ + 1, .nil => .nil
  | _, _, n + 1, .cons h t => .cons h (t.take n)
def PairsAt (K : PySem.W.Frag) (H : Hp) (p : Addr) (ps : List Pr) : Prop := ∃ as : List Addr, SqL K H p (as.map V.ref) ∧ TupsAt H as ps
theorem PairsAt.same {K : PySem.W.Frag} {H H' : Hp} (s : Same H H') {p : Addr} {ps : List Pr} (t : PairsAt K H p ps) : PairsAt K H' p ps := let ⟨as, a, b⟩ := t; ⟨as, s.seq a, b.same s⟩
def within (a b : Int) : Bool := decide (0 ≤ a) && decide (a < b)
theorem within_iff {a b : Int} : within a b = true ↔ 0 ≤ a ∧ a < b := by simp [within]
def endsOk (n : Int) (ps : List Pr) : Bool := ps.all fun q => within q.1 n && within q.2 n
def exitsOk (n : Int) (ps : List Pr) : Bool := (List.range n.toNat).all fun k => ps.any fun q => q.1 == (k : Int)
def netOk (n : Int) (ps : List Pr) : Bool := (decide (1 ≤ n) && decide (n ≤ 32)) && (decide (1 ≤ ps.length) && decide (ps.length ≤ 64)) && endsOk n ps && exitsOk n ps
end L2
namespace L2
open PySem PySem.Spec PyProof.Rows
theorem lenL {K : PySem.W.Frag} {H : Hp} {p : Addr} {xs : List V} (h : SqL K H p xs) : LenV K (.ref p) H xs.length := Or.inl ⟨_, h, rfl⟩
theorem gtup2 {K : PySem.W.Frag} {g1 g2 : TG} {a : Addr} {x y : V} {σ : St} {H : Hp} {Q : St → Hp → Prop} (h : SqT K H a [x, y]) (q : g1 x σ H fun σ' H' => g2 y σ' H' Q) : gTup K 2 (gCons g1 (gCons g2 gNil)) (.ref a) σ H Q := by
  refine ⟨a, [x, y], rfl, h, rfl, x, [y], rfl, ?_⟩
  have e : (fun σ' H' => gCons g2 gNil [y] σ' H' Q) = fun σ' H' => ∃ v r, [y] = v :: r ∧ g2 v σ' H' fun σ'' H'' => gNil r σ'' H'' Q := rfl
  rw [e]
  have e2 : (fun (σ' : St) (H' : Hp) => ∃ v r, [y] = v :: r ∧ g2 v σ' H' fun σ'' H'' => gNil r σ'' H'' Q) = fun σ' H' => g2 y σ' H' Q := by
    funext σ' H'
    refine propext ⟨?_, fun z => ⟨y, [], rfl, ?_⟩⟩
    · rintro ⟨v, r, e, z⟩
      cases e
      have : (fun (σ'' : St) (H'' : Hp) => gNil [] σ'' H'' Q) = Q := by funext _ _; exact propext ⟨fun z => z.2, fun z => ⟨rfl, z⟩⟩
      rw [this] at z
      exact z
    · have : (fun (σ'' : St) (H'' : Hp) => gNil [] σ'' H'' Q) = Q := by funext _ _; exact propext ⟨fun z => z.2, fun z => ⟨rfl, z⟩⟩
      rw [this]
      exact z
  rw [e2]
  exact q
theorem map_ref {as : List Addr} {i : Nat} {x : V} (h : (as.map V.ref)[i]? = some x) : ∃ a, x = .ref a ∧ as[i]? = some a := by
  rw [List.getElem?_map] at h
  cases e : as[i]? with
  | none => rw [e] at h; cases h
  | some a => rw [e] at h; exact ⟨a, (Option.some.inj h).symm, rfl⟩
theorem take_map_succ {α β : Type} (f : α → β) {l : List α} {i : Nat} {q : α} (h : l[i]? = some q) : (l.take (i + 1)).map f = (l.take i).map f ++ [f q] := by
  rw [List.take_add_one, h]; simp
theorem small_le {n : Nat} (h : n ≤ 1000) : n ≤ sizeLine := Nat.le_of_lt (small1000 h)
def exitsUp (ps : List Pr) (k : Int) (i : Nat) : List Nat := (List.range i).filter fun j => (ps.getD j (0, 0)).1 == k
def exitsOf (ps : List Pr) (k : Int) : List Nat := exitsUp ps k ps.length
theorem exitsUp_succ (ps : List Pr) (k : Int) (i : Nat) : exitsUp ps k (i + 1) = exitsUp ps k i ++ (if (ps.getD i (0, 0)).1 == k then [i] else []) := by
  unfold exitsUp
  rw [List.range_succ, List.filter_append, List.filter_cons]
  rfl
theorem exitsUp_len (ps : List Pr) (k : Int) (i : Nat) : (exitsUp ps k i).length ≤ i := by
  unfold exitsUp
  exact Nat.le_trans (List.length_filter_le _ _) (by simp)
def nats (l : List Nat) : List V := l.map fun (i : Nat) => V.int (i : Int)
theorem nats_append (a b : List Nat) : nats (a ++ b) = nats a ++ nats b := by simp [nats]
theorem upd_old {H : Hp} {p a : Addr} {o u : HO} (h : H a = some u) (hp : H p = none) : upd H p o a = some u := by rw [upd_ne (ne_of_none h hp)]; exact h
end L2
namespace L2
open PySem PySem.Spec PyProof.Rows
theorem flat_ints (xs : List Int) : (xs.map V.int).all flatV = true := by simp [flatV]
theorem nats_int (l : List Nat) : nats l = (l.map fun (i : Nat) => (i : Int)).map V.int := by simp [nats]
theorem cutV_drop (xs : List V) (k : Nat) (h : k ≤ xs.length) : cutV xs (some (k : Int)) none = xs.drop k := by
  unfold cutV
  rw [HT.sIx_nat, HT.sIx_none, Nat.min_eq_left h]
  rw [List.take_of_length_le (by simp)]
theorem cutV_take (xs : List V) (k : Nat) (h : k ≤ xs.length) : cutV xs none (some (k : Int)) = xs.take k := by
  unfold cutV
  rw [HT.sIx_nat, HT.sIx_none, Nat.min_eq_left h]
  simp
end L2
set_option Elab.async false
set_option linter.all false
set_option maxRecDepth 100000
set_option maxHeartbeats 4000000
namespace L2
open PySem PySem.Spec PyProof.Rows
structure UnB (fs : List Addr) (H H' : Hp) (h B : Heap) : Prop where
  keep : ∀ b o, h.get? b = some o → H b = none → b ∉ fs → B.get? b = some o
  free : ∀ b o, h.get? b = some o → H b = none → H' b = none
  there : ∀ b o, h.get? b = some o → b ∉ fs → ∃ o', B.get? b = some o'
  tups : ∀ b xs, H b = some (.tup xs) → H' b = some (.tup xs)
  frzs : ∀ b o u, H b = some (.frz o u) → H' b = some (.frz o u)
  tbls : ∀ b ps, H b = some (.tbl ps) → ∃ more, H' b = some (.tbl (ps ++ more))
def Tr (h base : Heap) (e : Addr) (cls a0 fl : Value) (o : Option Addr) : Prop :=
  ∃ ox xs tb ob ys, h.get? e = some ox ∧ ox.cls = cls ∧ ox.data = .fields xs ∧ xs[0]? = some a0 ∧ xs[1]? = some (.ref tb) ∧ (o = none → xs[2]? = some .none) ∧ base.get? tb = none ∧ tb ≠ e ∧ h.get? tb = some ob ∧ ob.data = .fields ys ∧ ys[3]? = some fl
def Fly (base : Heap) (l : List Env) (e : Addr) (cls a0 : Value) (o : Option Addr) (h : Heap) : Prop := base.StaysIn h ∧ base.get? e = none ∧ h.FunFrames base l ∧ ∃ fl, Tr h base e cls a0 fl o
theorem Fly.there {base h : Heap} {l : List Env} {e : Addr} {cls a0 : Value} {o : Option Addr} (x : Fly base l e cls a0 o h) : ∃ ob, h.get? e = some ob ∧ ob.cls = cls := by
  obtain ⟨_, _, _, _, ox, _, _, _, _, g, c, _⟩ := x
  exact ⟨ox, g, c⟩
theorem Fly.tail {base h : Heap} {env : Env} {l : List Env} {e : Addr} {cls a0 : Value} {o : Option Addr} (x : Fly base (env :: l) e cls a0 o h) : Fly base l e cls a0 o h := by
  obtain ⟨k1, k2, ⟨_, _, k3⟩, k4⟩ := x
  exact ⟨k1, k2, k3, k4⟩
section
variable {M : Model} {A : Around} {E : Value → Shared → Prop} {s : Shared} {base : Heap} {env : Env} {outer : List Env} {L e : Addr} {cls a0 : Value} {o : Option Addr} {Q : Unit → Shared → Prop}
theorem entryT {ox : Obj} {xs : Array Value} {head : Value} {had : Bool} (hfr : A.frames = some (env :: outer)) (hl : s.heap.FunFrames base (env :: outer)) (hf : env.frame = some L) (gx : s.heap.get? e = some ox) (hkb : base.StaysIn s.heap)
    (hen : base.get? e = none) (gd : ox.data = .fields xs) (hsz : 1 < xs.size) (g0 : xs[0]? = some a0) (g2 : o = none → xs[2]? = some .none)
    (hQ : ∀ h', base.StaysIn h' → h'.FunFrames base (env :: outer) → Tr h' base e ox.cls a0 (rawInt L) o → s.heap.UpToSlots h' → Q () { s with heap := h' }) :
    wpAny M A (do let a ← frameOf env; let pl ← entryPlaceOf L had; let b ← EntryCells.newEntry head a .none (rawInt L) .none pl; setField (.ref e) 1 b) Q E s := by
  have nfr : e ∉ (env :: outer).filterMap (·.frame) := fun hm => by
    obtain ⟨_, u, hu, hn⟩ := hl.mem hm
    rw [gx] at hu
    cases hu
    exact hn xs gd
  refine wpAny_bind (wpAny_frameOf_fun hfr hl hf fun h1 so => wpAny_bind (wpAny_entryPlaceOf fun pl hpl => ?_))
  unfold EntryCells.newEntry newFields
  refine wpAny_bind (wpAny_newObj_type ?_ (hpl.sizeOk5 _ _ _ _ _))
  have gx1 : h1.get? e = some ox := (so.2.1 e nfr).trans gx
  have st1 : base.StaysIn h1 := fun c u hc => (so.2.1 c fun hm => by
    rw [(hl.mem hm).1] at hc
    cases hc).trans (hkb c u hc)
  let tbo : Obj := { cls := .type "traceback", dict := none, data := .fields ([head, .ref L, .none, rawInt L, .none] ++ (if pl.isEmpty then List.replicate 6 Value.none else pl)).toArray }
  have gx2 : (h1.push tbo).get? e = some ox := Heap.get?_push_of_some _ gx1
  refine wpAny_setField gx2 gd hsz (hQ _ ?_ ?_ ?_ ?_)
  all_goals
    have ne : h1.objs.size ≠ e := Nat.ne_of_gt (Heap.lt_size gx1)
    have ot : ∀ c u, c ≠ e → h1.get? c = some u → ((h1.push tbo).update e (Obj.mapFields (·.setIfInBounds 1 (Value.ref h1.objs.size)))).get? c = some u := fun c u hc hu => by
      rw [Heap.get?_update_other _ _ (Ne.symm hc)]
      exact Heap.get?_push_of_some _ hu
    have nr : ∀ c u, s.heap.get? c = some u → (∀ vs, u.data ≠ .fields vs) → c ≠ e := fun c u hu hn z => by
      rw [z, gx] at hu
      cases hu
      exact hn xs gd
  · exact fun c u hc => ot c u (fun z => by rw [z, hen] at hc; cases hc) (st1 c u hc)
  · refine hl.of_keeps fun c u hu hn => ?_
    obtain ⟨sl, g⟩ := so.2.2 c u hu
    exact ⟨_, ot c _ (nr c u hu hn) g, rfl⟩
  · have gd3 := Obj.data_mapFields gd (·.setIfInBounds 1 (Value.ref h1.objs.size))
    have gx3 := Heap.get?_update_self (Obj.mapFields (·.setIfInBounds 1 (Value.ref h1.objs.size))) gx2 (Obj.isFreed_of_fields gd3)
    have gt3 := (Heap.get?_update_other (h1.push tbo) (Obj.mapFields (·.setIfInBounds 1 (Value.ref h1.objs.size))) (Ne.symm ne)).trans (Heap.get?_push_size h1 rfl)
    refine ⟨_, _, h1.objs.size, _, _, gx3, Obj.cls_mapFields _ _, gd3, ?_, by simp [hsz], fun z => ?_, st1.fresh, ne, gt3, rfl, ?_⟩
    · rw [Array.getElem?_setIfInBounds_ne (by decide)]
      exact g0
    · rw [Array.getElem?_setIfInBounds_ne (by decide)]
      exact g2 z
    · first | (simp; done) | (rcases hpl with rfl | ⟨_, _, _, _, _, _, _, rfl⟩ <;> simp)
  · refine fun c u hu hn => ?_
    obtain ⟨sl, g⟩ := so.2.2 c u hu
    exact ⟨sl, ot c _ (nr c u hu hn) g⟩
theorem noteT (hfr : A.frames = some (env :: outer)) (hf : env.frame = some L) (hfl : Fly base (env :: outer) e cls a0 o s.heap)
    (hQ : ∀ h', Fly base (env :: outer) e cls a0 o h' → Tr h' base e cls a0 (rawInt L) o → s.heap.UpToSlots h' → Q () { s with heap := h' }) : wpAny M A (noteFrame (.ref e) env) Q E s := by
  obtain ⟨f1, f2, f3, fl, f4⟩ := id hfl
  obtain ⟨ox, xs, tb, ob, ys, gx, gc, gd, g0, g1, g2, gn, gne, gt, gtd, g3⟩ := id f4
  subst gc
  unfold noteFrame
  simp only [hf]
  refine wpAny_bind (wpAny_field gx gd g1 ?_)
  rw [if_pos (by simp : (Value.ref tb != Value.none) = true)]
  refine wpAny_bind (wpAny_field gt gtd g3 ?_)
  by_cases hfl' : (fl == rawInt L) = true
  · have e1 : fl = rawInt L := by simpa using hfl'
    subst e1
    rw [if_pos hfl']
    exact wpAny_pure (hQ s.heap hfl f4 (Heap.UpToSlots.refl _))
  · rw [if_neg hfl']
    refine wpAny_bind (wpAny_setField gt gtd (Array.getElem?_eq_some_iff.mp g3).1 ?_)
    have oth : ∀ c, c ≠ tb → (s.heap.update tb (Obj.mapFields (·.setIfInBounds 3 Value.none))).get? c = s.heap.get? c := fun c hc => Heap.get?_update_other _ _ (Ne.symm hc)
    have nr : ∀ c u, s.heap.get? c = some u → (∀ vs, u.data ≠ .fields vs) → c ≠ tb := fun c u hu hn z => by
      rw [z, gt] at hu
      cases hu
      exact hn ys gtd
    have stay : base.StaysIn (s.heap.update tb (Obj.mapFields (·.setIfInBounds 3 Value.none))) := fun c u hc => (oth c fun z => by rw [z, gn] at hc; cases hc).trans (f1 c u hc)
    refine entryT hfr (f3.of_keeps fun c u hu hn => ⟨u, (oth c (nr c u hu hn)).trans hu, rfl⟩) hf ((oth e (Ne.symm gne)).trans gx) stay f2 gd (Array.getElem?_eq_some_iff.mp g1).1 g0 g2 fun h' k1 k2 k3 k4 => ?_
    exact hQ h' ⟨k1, f2, k2, _, k3⟩ k3 fun c u hu hn => k4 c u ((oth c (nr c u hu hn)).trans hu) hn
theorem flightT {l : List Env} (fr : Option Addr) (hfl : Fly base l e cls a0 o s.heap)
    (hQ : ∀ h', Fly base l e cls a0 o h' → s.heap.UpToSlots h' → (∀ c u, s.heap.get? c = some u → base.get? c = none ∨ h'.get? c = some u) → Q () { s with heap := h' }) : wpAny M A (setFlight (.ref e) fr) Q E s := by
  obtain ⟨f1, f2, f3, fl, ox, xs, tb, ob, ys, gx, gc, gd, g0, g1, g2, gn, gne, gt, gtd, g3⟩ := hfl
  have h3 : 3 < ys.size := (Array.getElem?_eq_some_iff.mp g3).1
  unfold setFlight
  refine wpAny_bind (wpAny_field gx gd g1 ?_)
  rw [if_pos (by simp : (Value.ref tb != Value.none) = true)]
  have oth : ∀ c, c ≠ tb → (s.heap.update tb (Obj.mapFields (·.setIfInBounds 3 (fr.elim Value.none fun f => rawInt f)))).get? c = s.heap.get? c := fun c hc => Heap.get?_update_other _ _ (Ne.symm hc)
  have nr : ∀ c u, s.heap.get? c = some u → (∀ vs, u.data ≠ .fields vs) → c ≠ tb := fun c u hu hn z => by
    rw [z, gt] at hu
    cases hu
    exact hn ys gtd
  refine wpAny_setField gt gtd h3 (hQ _ ⟨fun c u hc => (oth c fun z => by rw [z, gn] at hc; cases hc).trans (f1 c u hc), f2, f3.of_keeps fun c u hu hn => ⟨u, (oth c (nr c u hu hn)).trans hu, rfl⟩, fr.elim Value.none (fun f => rawInt f), ?_⟩ (fun c u hu hn => ⟨u.slots, (oth c (nr c u hu hn)).trans hu⟩) fun c u hu => ?_)
  · exact ⟨ox, xs, tb, _, _, (oth e (Ne.symm gne)).trans gx, gc, gd, g0, g1, g2, gn, gne, Heap.get?_update_self _ gt (Obj.isFreed_of_fields (Obj.data_mapFields gtd _)), Obj.data_mapFields gtd _, by simp [h3]⟩
  · by_cases hc : c = tb
    · subst hc; exact .inl gn
    · exact .inr ((oth c hc).trans hu)
theorem leavesT (hfr : A.frames = some (env :: outer)) (hf : env.frame = some L) (hfl : Fly base (env :: outer) e cls a0 o s.heap)
    (hQ : ∀ h', Fly base outer e cls a0 o h' → s.heap.UpToSlots h' → Q () { s with heap := h' }) : wpAny M A (leaving env (.ref e)) Q E s := by
  unfold leaving
  exact wpAny_bind (noteT hfr hf hfl fun h1 k1 _ u1 => flightT (s := { s with heap := h1 }) none k1 fun h2 k2 u2 _ => hQ h2 k2.tail (u1.trans u2))
theorem firstT {ox : Obj} {xs : Array Value} (hfr : A.frames = some (env :: outer)) (hf : env.frame = some L) (hl : s.heap.FunFrames base (env :: outer)) (hkb : base.StaysIn s.heap) (hen : base.get? e = none)
    (gx : s.heap.get? e = some ox) (gd : ox.data = .fields xs) (g0 : xs[0]? = some a0) (g1 : xs[1]? = some .none) (g2 : o = none → xs[2]? = some .none)
    (hQ : ∀ h', Fly base (env :: outer) e ox.cls a0 o h' → s.heap.UpToSlots h' → Q () { s with heap := h' }) : wpAny M A (noteFrame (.ref e) env) Q E s := by
  unfold noteFrame
  simp only [hf]
  refine wpAny_bind (wpAny_field gx gd g1 ?_)
  rw [if_neg (by simp)]
  exact entryT hfr hl hf gx hkb hen gd (Array.getElem?_eq_some_iff.mp g1).1 g0 g2 fun h' k1 k2 k3 k4 => hQ h' ⟨k1, hen, k2, _, k3⟩ k4
end
def CX1 (P : Program) (w : World) : CXT := fun outer H s E e s' => ∃ (x : Addr) (cls a0 : Value) (o : Option Addr) (B : Heap) (H' : Hp), e = .ref x ∧ s'.os = s.os ∧ AllBare s'.gens ∧ Fly B outer x cls a0 o s'.heap ∧
  UnB (frs outer) H H' s.heap B ∧ HOk P w H' B ∧ (∀ b ∈ frs outer, ∀ o, s.heap.get? b = some o → ∃ sl, s'.heap.get? b = some { o with slots := sl }) ∧ E cls o H'
theorem nox1 {P : Program} {w : World} : NoX (CX1 P w) := fun o H s e s' h => by
  obtain ⟨_, _, _, _, _, _, _, _, _, _, _, _, _, h⟩ := h
  exact h
theorem UnB.un {fs : List Addr} {H H' : Hp} {h B h' : Heap} (u : UnB fs H H' h B) (st : B.StaysIn h') (sl : ∀ b ∈ fs, ∀ o, h.get? b = some o → ∃ sl, h'.get? b = some { o with slots := sl }) : Un fs [] H H' h h' where
  keep := fun b o q n hb _ => st _ _ (u.keep b o q n hb)
  slot := fun b o q n hb _ => sl b hb o q
  free := fun b o q n _ => u.free b o q n
  there := fun b o q _ => by
    by_cases hb : b ∈ fs
    · obtain ⟨sl, e⟩ := sl b hb o q
      exact ⟨_, e⟩
    · obtain ⟨o', e⟩ := u.there b o q hb
      exact ⟨o', st _ _ e⟩
  tups := u.tups
  frzs := u.frzs
  tbls := u.tbls
section
variable {X : Cx} {pins : List (Addr × Obj)} {σ : St} {H : Hp} {s : Shared}
def noFr (h : Heap) (l : List Env) : Heap := PySem.W.hideAll h (frs l)
theorem noFr_get {h : Heap} {l : List Env} {b : Addr} {o : Obj} (e : h.get? b = some o) (n : b ∉ frs l) : (noFr h l).get? b = some o := PySem.W.hideAll_get _ e n
theorem of_noFr {h : Heap} {l : List Env} {b : Addr} {o : Obj} (e : (noFr h l).get? b = some o) : h.get? b = some o := PySem.W.of_hideAll _ e
theorem Inv.hokB (I : Inv X pins σ H s) : HOk X.prog X.w H (noFr s.heap X.stack) := fun a o e => by
  refine (I.hok a o e).stay (fun b u hb q => noFr_get q fun z => ?_) (fun _ q => q) fun _ _ q => q
  have n := I.stkFree b z
  rcases hb with hb | hb
  · rw [hb, e] at n; cases n
  · rw [hb] at n; cases n
theorem Inv.unB (I : Inv X pins σ H s) (hx : X.ex = []) {fs : List Addr} (hfs : ∀ b o, X.s₀.heap.get? b = some o → b ∉ fs → b ∉ frs X.stack) (hsub : ∀ b ∈ X.fs, b ∈ fs) : UnB fs X.H₀ H X.s₀.heap (noFr s.heap X.stack) where
  keep := fun b o q n hb => noFr_get (I.base.keep b o q n (fun z => hb (hsub b z)) (by rw [hx]; simp)) (hfs b o q hb)
  free := fun b o q n => I.base.free b o q n (by rw [hx]; simp)
  there := fun b o q hb => by
    obtain ⟨o', e⟩ := I.base.there b o q (by rw [hx]; simp)
    exact ⟨o', noFr_get e (hfs b o q hb)⟩
  tups := I.base.tups
  frzs := I.base.frzs
  tbls := I.base.tbls
end
def RaiseOk (X : Cx) (E : XK) : Prop := ∀ (pins : List (Addr × Obj)) (σ : St) (H : Hp) (s : Shared) (x : Addr) (cls : Value) (args : List Value) (h' : Heap), Inv X pins σ H s → Heap.MadeExcOf s.heap h' x cls args → E cls none H → X.xe (.ref x) { s with heap := h' }
theorem PySem_mem_funFrames {h base : Heap} {l : List Env} (hl : h.FunFrames base l) {b : Addr} (hb : b ∈ frs l) : base.get? b = none ∧ ∃ o, h.get? b = some o ∧ ∀ vs, o.data ≠ .fields vs := hl.mem hb
section
variable {P : Program} {w : World} {K : PySem.W.Frag} {mg : Str → Option Value} {base : Heap} {N : List Str} {qual : Str} {scope : Scope} {f : Addr} {cd : Value} {A : Around} {outer : List Env} {s0 : Shared} {H0 : Hp} {E : XK}
theorem notFr (s0 : Shared) (outer : List Env) {l : Env} (hl : l.frame = some s0.heap.objs.size) : ∀ b o, s0.heap.get? b = some o → b ∉ frs outer → b ∉ frs (l :: outer) := fun b o q hb z => by
  unfold frs at z
  rw [List.filterMap_cons, hl] at z
  rcases List.mem_cons.mp z with e | z
  · exact absurd (Heap.lt_size q) (by rw [e]; exact Nat.lt_irrefl _)
  · exact hb z
theorem raise_def : RaiseOk (cxOf (CX1 P w) P w K mg base N qual scope f cd A outer s0 H0 E) E := fun pins σ H s x cls args h' I hm he => by
  have hstk : (cxOf (CX1 P w) P w K mg base N qual scope f cd A outer s0 H0 E).stack = envOfC qual scope s0.heap.objs.size f cd :: outer := rfl
  have hin : ∀ env ∈ (envOfC qual scope s0.heap.objs.size f cd :: outer), ∀ a, env.frame = some a → a ∈ frs (envOfC qual scope s0.heap.objs.size f cd :: outer) := fun env he a hf => List.mem_filterMap.mpr ⟨env, he, hf⟩
  have hl : s.heap.FunFrames (noFr s.heap (envOfC qual scope s0.heap.objs.size f cd :: outer)) (envOfC qual scope s0.heap.objs.size f cd :: outer) := PySem.W.funFrames_hide I.stack hin
  have hU : UnB (frs outer) H0 H s0.heap (noFr s.heap (envOfC qual scope s0.heap.objs.size f cd :: outer)) := I.unB rfl (notFr s0 outer rfl) fun _ z => z
  show wpAny _ _ (leaving _ _) _ _ _
  obtain ⟨ta, gx, _, _⟩ := hm.there
  have fresh : (noFr s.heap (envOfC qual scope s0.heap.objs.size f cd :: outer)).get? x = none := by
    cases hq : (noFr s.heap (envOfC qual scope s0.heap.objs.size f cd :: outer)).get? x with
    | none => rfl
    | some o' =>
      have := of_noFr hq
      rw [hm.new] at this
      cases this
  unfold leaving
  refine wpAny_bind (firstT (L := s0.heap.objs.size) (o := none) (s := { s with heap := h' }) I.ok.frames rfl (hl.of_keeps fun b o hb _ => ⟨o, hm.keeps b o hb, rfl⟩) (fun b o q => hm.keeps b o (of_noFr q)) fresh gx rfl rfl rfl (fun _ => rfl) fun h1 k1 u1 => flightT (s := { s with heap := h1 }) none k1 fun h2 k2 u2 _ => ?_)
  have f4 : h'.UpToSlots h2 := u1.trans u2
  refine ⟨x, cls, _, none, _, H, rfl, I.os, I.bare, k2.tail, hU, I.hokB, fun b hb o q => ?_, he⟩
  obtain ⟨sl, e1⟩ := I.base.slot b o q (I.ok.frf b hb) hb (by intro z; exact nomatch z)
  obtain ⟨_, o', ho', hd⟩ := PySem_mem_funFrames I.ok.funs (b := b) hb
  have ho' : s0.heap.get? b = some o' := ho'
  rw [q] at ho'
  cases ho'
  obtain ⟨sl2, e2⟩ := f4 b _ (hm.keeps _ _ e1) (by intro vs z; exact hd vs z)
  exact ⟨sl2, e2⟩
theorem passes_def : Passes (CX1 P w) (cxOf (CX1 P w) P w K mg base N qual scope f cd A outer s0 H0 E) E := fun pins σ H s e s' I h => by
  obtain ⟨x, cls, a0, oc, B, H', rfl, ho, hb, fl, u, ok, sl, he⟩ := h
  have fl : Fly B (envOfC qual scope s0.heap.objs.size f cd :: outer) x cls a0 oc s'.heap := fl
  have u : UnB (frs (envOfC qual scope s0.heap.objs.size f cd :: outer)) H H' s.heap B := u
  have nf := notFr s0 outer (l := envOfC qual scope s0.heap.objs.size f cd) rfl
  show wpAny _ _ (leaving _ _) _ _ _
  refine leavesT (L := s0.heap.objs.size) I.ok.frames rfl fl fun h2 f1 f4 => ?_
  refine ⟨x, cls, a0, oc, B, H', rfl, ho.trans I.os, hb, f1, ⟨fun b o q n hb => ?_, fun b o q n => ?_, fun b o q hb => ?_, fun b xs q => u.tups b xs (I.base.tups b xs q), fun b o v q => u.frzs b o v (I.base.frzs b o v q), fun b ps q => ?_⟩, ok, fun b hb o q => ?_, he⟩
  · exact u.keep b o (I.base.keep b o q n hb (fun z => nomatch z)) (I.base.free b o q n (fun z => nomatch z)) (nf b o q hb)
  · obtain ⟨o', e⟩ := I.base.there b o q (fun z => nomatch z)
    exact u.free b o' e (I.base.free b o q n (fun z => nomatch z))
  · obtain ⟨o', e⟩ := I.base.there b o q (fun z => nomatch z)
    exact u.there b o' e (nf b o q hb)
  · obtain ⟨m1, e1⟩ := I.base.tbls b ps q
    obtain ⟨m2, e2⟩ := u.tbls b _ e1
    exact ⟨m1 ++ m2, by rw [e2, Array.append_assoc]⟩
  · obtain ⟨sl1, e1⟩ := I.base.slot b o q (I.ok.frf b hb) hb (fun z => nomatch z)
    have hb' : b ∈ frs (envOfC qual scope s0.heap.objs.size f cd :: outer) := by
      show b ∈ List.filterMap _ _
      rw [List.filterMap_cons]
      exact List.mem_cons_of_mem _ hb
    obtain ⟨sl2, e2⟩ := sl b hb' _ e1
    obtain ⟨_, o', ho', hd⟩ := PySem_mem_funFrames I.ok.funs (b := b) hb
    have ho' : s0.heap.get? b = some o' := ho'
    rw [q] at ho'
    cases ho'
    obtain ⟨sl3, e3⟩ := f4 b _ e2 (by intro vs z; exact hd vs z)
    exact ⟨sl3, e3⟩
end
section
variable {P : Program} {w : World} {K : PySem.W.Frag} {mg : Str → Option Value} {base : Heap}
theorem Fun.okE {x qual : Str} {st : Stmt} {f : Addr} {fd : FuncData} {N ps : List Str} {k : Nat} {sp : Sp} (F : Fun K x qual st f fd) (S : FnScope N ps (defScope st)) (len : ∀ vs H Q E, sp vs H Q E → vs.length = ps.length)
    (hbody : ∀ (cdv : Value) (A : Around) (outer : List Env) (s : Shared) (H : Hp) (vs : List V) (Q : VK) (E : XK), Room k (A.deeper (envOfC qual (defScope st) s.heap.objs.size f cdv)) → sp vs H Q E →
      ∃ t, PSs (cxOf (CX1 P w) P w K mg base N qual (defScope st) f cdv A outer s H E) (defBody st) t ∧ t { nx := fun _ H' => Q .non H', rt := Q } (start N vs) H) : FnOk P w K mg base (CX1 P w) (k + 1) f fd ps sp := by
  obtain ⟨oc, od, kV, doc, pm, an, cdv, ct, osl, rfl, lk, hcd⟩ := F.ex
  refine fn_of lk hcd S len fun A outer s H vs Q E hr hsp => ?_
  exact hbody cdv A outer s H vs Q E hr hsp
end
theorem ownObj_of_in {K : PySem.W.Frag} {h : Heap} {C : Addr} {bmB : List Value} {newId : String} (X : K.In h) (q : PySem.W.excIn K C bmB newId = true) :
    ∃ bm N nm q bs hdct sn sub ab col dd k0 k1 k2 k3 k5 mN, h.get? C = some (excClassObj nm q C N bs bm hdct sn sub ab col dd k0 k1 k2 k3 k5 newId) ∧ h.Ns N mN ∧ mN "__init__" = none ∧ OwnTail h bmB bm := by
  unfold PySem.W.excIn at q
  split at q
  · rename_i dd cd sl ho
    split at q
    · rename_i C' bm k0 k1 k2 k3 n k5 hm hs
      simp only [Bool.and_eq_true, beq_iff_eq, Bool.not_eq_true'] at q
      obtain ⟨⟨⟨⟨⟨rfl, rfl⟩, hdel⟩, ht⟩, hok⟩, hni⟩ := q
      obtain ⟨nm, bs, mro, ns, qn, hd, sn, sub, ab, col, del⟩ := cd
      dsimp only at hm hdel hok hni
      subst hm hdel
      have hsl : sl = #[k0, k1, k2, k3, some (.builtin n), k5] := by
        obtain ⟨l⟩ := sl
        simp only at hs
        rw [hs]
      subst hsl
      exact ⟨bm, ns, nm, qn, bs, hd, sn, sub, ab, col, dd, k0, k1, k2, k3, k5, _, X _ _ ho, .of_isNs (PySem.W.isNs_of_in X hok), PySem.W.nsMap_none_of_in X hok hni, PySem.W.tail_of_in X ht⟩
    · cases q
  · cases q
abbrev veB : List Value := [.type "ValueError", .type "Exception", .type "BaseException", .type "object"]
def ErrCls (K : PySem.W.Frag) (C : Addr) : Prop := PySem.W.excIn K C veB "ValueError.__new__" = true
end L2
set_option Elab.async false
set_option linter.all false
set_option maxRecDepth 100000
set_option maxHeartbeats 4000000
namespace PySem.W
open PySem PySem.Spec PySem.Calls PyProof.Rows Builtin Builtin.ObjectAttr Builtin.Getset_descriptor
section
variable {prog : Program} {w : World} {A : Around} {E : Value → Shared → Prop} {K : Frag} {x D : Addr} {ox : Obj} {vs : Array Value} {h : Heap} {g : Array GenState} {d : Drawn} {t : Nat} {os : OsState}
theorem exc_type {M : Model} (hx : h.get? x = some ox) (hc : ox.cls = .ref D) : Looks M h (typeOf (.ref x)) (.ref D) := hc ▸ (Looks.ld hx).andThen .now
theorem exc_cls_get {R : Result → Shared → Prop} (X : K.In h) (hx : h.get? x = some ox) (hc : ox.cls = .ref D) (hm : mroIn K D (.type "object") = some true) (hq : R (.ok (.ret (.ref D))) ⟨h, g, d, t, os⟩) :
    codeAny (model prog w) A (.call (.builtin "getset_descriptor.__get__") ⟨[.builtin "object.__class__", .ref x, .ref D], []⟩) R ⟨h, g, d, t, os⟩ := by
  have L0 : Looks (model prog w) h (typeOf (.ref x)) (.ref D) := exc_type hx hc
  have L1 := looks_mroIn (M := model prog w) X hm
  refine codeAny_call_builtin KF.slot_gs.plain KF.entry_gs (KF.slot_gs.check _ _ _ _ _ _ _ _ KF.type_class (KF.args_gs _ _ _) ?_)
  unfold Builtin.«getset_descriptor.__get__» descrGet
  rw [dga_obj]
  refine wpAny_bind (wpAny_pure ?_)
  unfold descrGetter descrCheckInstance descrNameAndClass isInstance
  simp only [KF.owner_class]
  repeat lk
  refine ⟨Code.quiet_builtin _ (by decide +kernel), codeAny_builtin KF.entry_class ?_⟩
  unfold Builtin.«object.__class__» shownTypeOf
  repeat lk
  exact hq
theorem exc_find {M : Model} (X : K.In h) (ha : findIn K (.ref D) "__class__" = some (some (.builtin "object.__class__"))) (hn : specialIn K (.builtin "object.__class__") "__get__" = some (some (.builtin "getset_descriptor.__get__"))) (htk : takesIn K (.builtin "object.__class__") = some true) :
    Looks M h (find (.ref x) (.ref D) "__class__") (.bind (.builtin "getset_descriptor.__get__") (.builtin "object.__class__")) := by
  have L1 := looks_findIn (M := M) X ha
  have L2 : Looks M h (getOf (some (.builtin "object.__class__"))) (some (.builtin "getset_descriptor.__get__")) := looks_specialIn X hn
  have L3 := looks_takesIn (M := M) X htk
  exact L1.andThen (L2.andThen ((show Looks M h (dataDescriptor? (some (.builtin "object.__class__")) (some (.builtin "getset_descriptor.__get__"))) (some (.builtin "getset_descriptor.__get__", .builtin "object.__class__")) from L3.andThen .now).andThen (Looks.tag .now)))
theorem exc_entry {tk : Tok} {Q : Fin → Shared → Prop} (X : K.In h) (hx : h.get? x = some ox) (hc : ox.cls = .ref D) (hm : mroIn K D (.type "object") = some true)
    (ha : findIn K (.ref D) "__class__" = some (some (.builtin "object.__class__"))) (hn : specialIn K (.builtin "object.__class__") "__get__" = some (some (.builtin "getset_descriptor.__get__"))) (htk : takesIn K (.builtin "object.__class__") = some true)
    (hq : Q (.done (.ret (.ref D))) ⟨h, g, d, t, os⟩) :
    wpAny (model prog w) A (Builtin.«object.__getattribute__» ⟨[.ref x, .str "__class__" tk], []⟩) Q E ⟨h, g, d, t, os⟩ := by
  have L0 : Looks (model prog w) h (typeOf (.ref x)) (.ref D) := exc_type hx hc
  have L1 := exc_find (M := model prog w) (x := x) X ha hn htk
  repeat (any_goals (first | assumption | with_reducible refine Looks.at L0 ?_ | with_reducible refine Looks.at L1 ?_ | wp_step))
  refine exc_cls_get X hx hc hm ?_
  repeat (any_goals (first | assumption | wp_step))
theorem exc_check {M : Model} {nameV : Value} {Q : Unit → Shared → Prop} (X : K.In h) (hx : h.get? x = some ox) (hc : ox.cls = .ref D) (hb : mroIn K D (.type "BaseException") = some true) (hq : Q () ⟨h, g, d, t, os⟩) :
    wpAny M A (checkBuiltinCall "BaseException.__getattribute__" ⟨[.ref x, nameV], []⟩) Q E ⟨h, g, d, t, os⟩ := by
  have hk : builtinKind "BaseException.__getattribute__" = some .slot := by decide +kernel
  have hsplit : splitId "BaseException.__getattribute__" = some ("BaseException", "__getattribute__") := by decide +kernel
  have L0 : Looks M h (typeOf (.ref x)) (.ref D) := exc_type hx hc
  have L1 := looks_mroIn (M := M) X hb
  have ha := F.args_bexc_ga (.ref x) nameV
  simp only [checkBuiltinCall, hk, hsplit]
  refine wpAny_bind ?_
  · unfold isInstance
    repeat (first | with_reducible refine Looks.at L0 ?_ | with_reducible refine Looks.at L1 ?_ | wp_step)
    exact hq
structure ExcLook (K : Frag) (D : Addr) : Prop where
  ga : findIn K (.ref D) "__getattribute__" = some (some (.builtin "BaseException.__getattribute__"))
  gt : findIn K (.ref D) "__getattr__" = some none
  cl : findIn K (.ref D) "__class__" = some (some (.builtin "object.__class__"))
  ge : specialIn K (.builtin "object.__class__") "__get__" = some (some (.builtin "getset_descriptor.__get__"))
  tk : takesIn K (.builtin "object.__class__") = some true
  ob : mroIn K D (.type "object") = some true
  be : mroIn K D (.type "BaseException") = some true
theorem exc_by {tk : Tok} {Q : Value → Shared → Prop} (X : K.In h) (hx : h.get? x = some ox) (hc : ox.cls = .ref D) (L : ExcLook K D) (hq : Q (.ref D) ⟨h, g, d, t, os⟩) :
    wpAny (model prog w) A (getAttrBy (.ref x) (.str "__class__" tk) false) Q E ⟨h, g, d, t, os⟩ := by
  have f3 := (F.excBase_ValueError).toExcCallFacts
  have f4 := (show ExcAttrFacts "ValueError" from F.excAttr_ValueError).ga.bind (.ref x)
  have L0 : Looks (model prog w) h (typeOf (.ref x)) (.ref D) := exc_type hx hc
  have L1 := looks_findIn (M := model prog w) X L.ga
  have L2 := looks_findIn (M := model prog w) X L.gt
  have hx2 : (Value.builtin "BaseException.__getattribute__" == Value.builtin "object.__getattribute__") = false := by decide +kernel
  have hx1 : (onTheHeap (Value.ref D) && Value.builtin "BaseException.__getattribute__" == Value.builtin "object.__getattribute__") = false := by rw [hx2]; rfl
  have hx0 : (false && onTheHeap (Value.builtin "BaseException.__getattribute__")) = false := rfl
  repeat (any_goals (first | assumption | with_reducible refine Looks.at L0 ?_ | with_reducible refine Looks.at L1 ?_ | with_reducible refine Looks.at L2 ?_ | wp_step))
  refine codeAny_call_builtin (show ExcAttrFacts "ValueError" from F.excAttr_ValueError).ga.plain F.entry_bexc_ga (exc_check X hx hc L.be (exc_entry X hx hc L.ob L.cl L.ge L.tk ?_))
  repeat (any_goals (first | assumption | wp_step))
theorem exc_class {Q : Option Value → Shared → Prop} (X : K.In h) (hx : h.get? x = some ox) (hc : ox.cls = .ref D) (L : ExcLook K D) (hq : Q (some (.ref D)) ⟨h, g, d, t + 1, os⟩) :
    wpAny (model prog w) A (getAttr? (.ref x) "__class__") Q E ⟨h, g, d, t, os⟩ := by
  unfold getAttr? getAttrBy?
  repeat (any_goals (first | assumption | with_reducible apply exc_by X hx hc L | wp_step))
def ExcAt (x : Addr) (cls : Value) (h : Heap) : Prop := ∃ o, h.get? x = some o ∧ o.cls = cls
theorem kitx_exc {cd : ClassData} (hcd : clsIn K D = some cd) (L : ExcLook K D) : KitX K (.ref x) (.ref D) (ExcAt x (.ref D)) where
  ty := fun _ _ _ ⟨_, hx, hc⟩ => exc_type hx hc
  it := fun _ _ X _ => by
    unfold clsIn at hcd
    split at hcd
    · rename_i c' d' cd' sl' ho
      intro A' Q' E' s' k q
      unfold isType loadHead
      exact wpAny_bind (wpAny_loadPart (k _ _ (X _ _ ho)) (wpAny_pure q))
    · cases hcd
  ne := fun h tp dd its n sl X htp => by
    refine Bool.eq_false_iff.mpr fun q => ?_
    have e : D = tp := Value.ref.inj (beq_iff_eq.mp q)
    subst e
    unfold clsIn at hcd
    split at hcd
    · rename_i c' d' cd' sl' ho
      have z := (X _ _ ho).symm.trans htp
      cases z
    · cases hcd
  ca := fun {_ _ _ _ _ s} X ⟨_, hx, hc⟩ k => by
    obtain ⟨h, g, d, t, os⟩ := s
    exact exc_class X hx hc L k
end
end PySem.W
namespace L2
open PySem PySem.Spec PyProof.Rows
def excO (x : Addr) (cls : Value) : HO := .ext (PySem.W.ExcAt x cls)
structure ErrLook (K : PySem.W.Frag) (D : Addr) : Prop where
  lk : PySem.W.ExcLook K D
  cd : (PySem.W.clsIn K D).isSome = true
theorem call_isiE {X : Cx} : CallR X (.builtin "isinstance") (fun xs H Q => ∃ x c D b, xs = [.ref x, c] ∧ H x = some (excO x (.ref D)) ∧ ErrLook X.K D ∧ isiOk X.K (.ref D) c b ∧ Q (.bl b) H) := by
  intro pins s σ H xs us Q I r h
  obtain ⟨x, c, D, b, rfl, hx, L, ok, q⟩ := h
  obtain ⟨u, v, rfl, ru, rv⟩ := vals2 r
  obtain rfl : u = Value.ref x := ru
  obtain ⟨p, _, _⟩ := (show ObjOk X.prog X.w H s.heap x (.ext (PySem.W.ExcAt x (.ref D))) from I.hok x _ hx)
  obtain ⟨cd, hcd⟩ := Option.isSome_iff_exists.mp L.cd
  cases c with
  | ty n =>
    obtain rfl : v = Value.type n := rv
    exact PySem.W.kia_one (PySem.W.kitx_exc hcd L.lk) I.kIn p ok (fun z => nomatch z) fun tk => ⟨.bl b, H, I.tok tk, rfl, q⟩
  | ref a =>
    obtain rfl : v = Value.ref a := rv
    exact PySem.W.kia_one (PySem.W.kitx_exc hcd L.lk) I.kIn p ok (fun z => nomatch z) fun tk => ⟨.bl b, H, I.tok tk, rfl, q⟩
  | _ => exact False.elim ok
end L2
set_option Elab.async false
set_option linter.all false
set_option maxRecDepth 100000
set_option maxHeartbeats 4000000
namespace L2
open PySem PySem.Spec PyProof.Rows
abbrev XS := St → XK
def RaiseOkS (X : Cx) (E : XS) : Prop := ∀ (pins : List (Addr × Obj)) (σ : St) (H : Hp) (s : Shared) (x : Addr) (cls : Value) (args : List Value) (h' : Heap), Inv X pins σ H s → Heap.MadeExcOf s.heap h' x cls args → E σ cls none H → X.xe (.ref x) { s with heap := h' }
def PassesS (CX : CXT) (X : Cx) (E : XS) : Prop := ∀ (pins : List (Addr × Obj)) (σ : St) (H : Hp) (s : Shared) (e : Value) (s' : Shared), Inv X pins σ H s → CX X.stack H s (E σ) e s' → X.xe e s'
theorem RaiseOk.s {X : Cx} {E : XK} (h : RaiseOk X E) : RaiseOkS X fun _ => E := fun pins σ H s x cls args h' I m e => h pins σ H s x cls args h' I m e
theorem passesS_of {CX : CXT} {X : Cx} {E : XK} (h : Passes CX X E) : PassesS CX X fun _ => E := fun pins σ H s e s' I q => h pins σ H s e s' I q
def tRaiseS (C : Addr) (XE : XS) (t : TA) : TS := fun _ σ H => t σ H fun vs H1 => vs.length ≤ sizeLine ∧ XE σ (.ref C) none H1
theorem ps_raiseS {X : Cx} {XE : XS} {C : Addr} {x : Str} {e : Expr} {es : List Expr} {np cpos pos : Pos} {t : TA} (hc : X.calm = true) (hx : RaiseOkS X XE) (hC : ErrCls X.K C) (hg : Gl X x) (hm : X.mg x = some (.ref C)) (ha : PA X (e :: es) t)
    (hdb : (x == ("__debug__" : Str)) = false := by decide) (he : starEach (e :: es) X.env = (false, eval e X.env) :: starEach es X.env := by rfl) (hpl : (backTo cpos (starEach es X.env)).any (·.1) = false := by rfl) :
    PS X (.Raise (some (.Call (.Name x np) (e :: es) [] cpos)) none pos) (tRaiseS C XE t) := by
  intro pins s σ H D I h
  obtain ⟨tl, Na, nm, q, bs, hdct, sn, sub, ab, col, dd, k0, k1, k2, k3, k5, mN, hCo, hN, hni, T⟩ := ownObj_of_in I.ok.mod.kin hC
  refine wpAny_Raise_call_subT (C := C) (nm := nm) (q := q) (N := Na) (bs := bs) (bm := tl) (hdct := hdct) (sn := sn) (sub := sub) (ab := ab) (col := col) (dd := dd) (k0 := k0) (k1 := k1) (k2 := k2) (k3 := k3) (k5 := k5)
    PySem.F.excBase_ValueError (mN := mN) (T.hasType PySem.F.excBase_ValueError.hasBase) (I.ok.hd hc) (by rw [he]; show (false || (backTo cpos (starEach es X.env)).any (·.1)) = false; rw [hpl]; rfl) hni (ld_glob I hg hm ⟨rfl, ?_⟩ hdb)
  have hA := ha cpos pins s σ H _ I h
  rw [he] at hA ⊢
  refine Calls.evalArgs_plain (thn hA fun us s1 ⟨vs, H1, I1, r1, hl, q1⟩ => ?_)
  have kb := I1.bk
  exact ⟨rfl, by rw [← r1.length]; exact hl, kb _ _ hCo, hN.keeps kb, T.keeps kb, fun h' x' m => hx pins σ H1 s1 x' _ us h' I1 m q1⟩
section
variable {X : Cx} {CX : CXT} {k : Nat} {f C : Addr} {fd : FuncData} {ps : List Str} {sp : Sp} {E : XS} {x m : Str} {p pos apos : Pos} {e o : Expr} {es : List Expr} {ta : TE} {t : TA}
def tCallS (sp : Sp) (E : XS) (t : TA) : TE := fun σ H Q => t σ H fun vs H1 => sp vs H1 Q (E σ)
def tMethS (C : Addr) (m : Str) (sp : Sp) (E : XS) (ta : TE) (t : TA) : TE := fun σ H Q => ta σ H fun x H1 => ∃ a dx fs, x = .ref a ∧ H1 a = some (.ins C dx fs) ∧ fs.lookup m = none ∧ t σ H1 fun vs H2 => sp (x :: vs) H2 Q (E σ)
def tMakeS (C : Addr) (sp : Sp) (E : XS) (t : TA) : TE := fun σ H Q => t σ H fun vs H1 => ∀ x dx, H1 x = none → H1 dx = none → dx ≠ x →
  sp (.ref x :: vs) (upd (upd H1 dx (.own x)) x (.ins C dx [])) (fun v H2 => v = .non ∧ Q (.ref x) H2) (E σ)
theorem run_fnS {pins : List (Addr × Obj)} {σ : St} {H : Hp} {s : Shared} {Q : VK} {us : List Value} {vs : List V} (F : FnOk X.prog X.w X.K X.mg X.base CX k f fd ps sp) (hr : Room k X.A) (hb : Binds X.K fd ps []) (hx : PassesS CX X E)
    (I : Inv X pins σ H s) (r : Vals vs us) (h : sp vs H Q (E σ)) : wpAny (model X.prog X.w) X.A (call (.ref f) us) (EP X pins σ Q) X.xe s := by
  have hl : (us ++ []).length = ps.length := by rw [List.append_nil, ← r.length]; exact F.len _ _ _ _ h
  have hbb := hb s us I.kIn hl
  rw [List.append_nil] at hbb
  refine wpAny_call (codeAny_mono (F.run X.A X.stack s H ⟨us, []⟩ us vs Q (E σ) hr I.env0 hbb r h) fun r s' hq => ?_)
  cases r with
  | error e => exact hx pins σ H s e s' I hq
  | ok fl =>
    cases fl with
    | ret u => exact I.after hq
    | next => exact False.elim hq
    | brk => exact False.elim hq
    | cont => exact False.elim hq
theorem pe_callS (F : FnOk X.prog X.w X.K X.mg X.base CX k f fd ps sp) (hr : Room k X.A) (hg : Gl X x) (hm : X.mg x = some (.ref f)) (hk : PySem.W.keepIn X.K (.ref f) = true) (hb : Binds X.K fd ps []) (hx : PassesS CX X E)
    (ha : PA X (e :: es) t) (hdb : (x == ("__debug__" : Str)) = false := by decide) (he : starEach (e :: es) X.env = (false, eval e X.env) :: starEach es X.env := by rfl) (hpl : (backTo pos (starEach es X.env)).any (·.1) = false := by rfl) :
    PE X (.Call (.Name x p) (e :: es) [] pos) (tCallS sp E t) := by
  intro pins s σ H Q I h
  refine wpAny_Call_Name_kw (ld_glob I hg hm ?_ hdb)
  refine PySem.W.callWith_K (h₀ := X.base) I.ok.mod.kin hk (thn (ha pos pins s σ H _ I h) fun us s1 ⟨vs, H1, I1, r, q⟩ => ⟨I1.kIn, ?_⟩) he hpl
  exact run_fnS F hr hb hx I1 r q
theorem pe_methS {pl : Sem Bool} (he : PE X o ta) (c : Cls X.K C) (hm : Meth X.K C m f) (F : FnOk X.prog X.w X.K X.mg X.base CX k f fd ps sp) (hr : Room k X.A) (hb : Binds X.K fd ps []) (hx : PassesS CX X E) (ha : PA X (e :: es) t)
    (hst : starEach (e :: es) X.env = (false, eval e X.env) :: starEach es X.env := by rfl) (hpl : (backTo pos (starEach es X.env)).any (·.1) = false := by rfl)
    (ht : eval (.Call (.Attribute o m apos) (e :: es) [] pos) X.env = (do
      let ov ← eval o X.env
      standAt apos.atName
      let (f, first) ← holding [ov] (getMethod ov m pl)
      callWith pos f first (backTo pos (starEach (e :: es) X.env)) (backToKw pos (keywordEach [] X.env))) := by rfl) :
    PE X (.Call (.Attribute o m apos) (e :: es) [] pos) (tMethS C m sp E ta t) := by
  intro pins s σ H Q I h
  refine PySem.W.methodCall_KW (pl := pl) (thn (he pins s σ H _ I h) fun u s1 ⟨x, H1, I1, rx, a, dx, fs, ex, ea, l, q⟩ => ?_) ht
  subst ex
  obtain rfl : u = Value.ref a := rx
  refine getmeth_ok I1 ea c hm l ?_
  refine PySem.W.callWith_K (first := [.ref a]) (h₀ := X.base) I.ok.mod.kin hm.kp (thn (ha pos pins s1 σ H1 _ I1 q) fun us s2 ⟨vs, H2, I2, r, q2⟩ => ⟨I2.kIn, ?_⟩) hst hpl
  exact run_fnS (us := .ref a :: us) (vs := .ref a :: vs) F hr hb hx I2 (.cons rfl r) q2
theorem run_makeS {pins : List (Addr × Obj)} {σ : St} {H : Hp} {s : Shared} {Q : VK} {us : List Value} {vs : List V} (M : Mk X.K C f) (F : FnOk X.prog X.w X.K X.mg X.base CX k f fd ps sp) (hr : Room (k + 1) X.A) (hb : Binds X.K fd ps [])
    (hx : PassesS CX X E) (I : Inv X pins σ H s) (r : Vals vs us)
    (h : ∀ x dx, H x = none → H dx = none → dx ≠ x → sp (.ref x :: vs) (upd (upd H dx (.own x)) x (.ins C dx [])) (fun v H2 => v = .non ∧ Q (.ref x) H2) (E σ)) :
    wpAny (model X.prog X.w) X.A (call (.ref C) us) (EP X pins σ Q) X.xe s := by
  have hq := h (s.heap.objs.size + 1) s.heap.objs.size (I.hok.fresh (Nat.le_succ _)) (I.hok.fresh (Nat.le_refl _)) (Nat.ne_of_lt (Nat.lt_succ_self _))
  have I2 := Inv.made (C := C) I
  have r2 : Vals (V.ref (s.heap.objs.size + 1) :: vs) (Value.ref (s.heap.objs.size + 1) :: us) := .cons rfl r
  have hl : (Value.ref (s.heap.objs.size + 1) :: us ++ []).length = ps.length := by
    have e := r2.length
    rw [F.len _ _ _ _ hq] at e
    rw [List.append_nil]
    exact e.symm
  have hbb := hb { s with heap := (s.heap.push { cls := .type "dict", data := .dict #[] }).push (PySem.W.instObj C s.heap.objs.size) } (Value.ref (s.heap.objs.size + 1) :: us)
  refine wpAny_call (make_map (f := f) I.kIn M.makes M.init (beq_iff_eq.mp M.fn) (codeAny_mono (F.run _ X.stack _ _ ⟨Value.ref (s.heap.objs.size + 1) :: us, []⟩ (Value.ref (s.heap.objs.size + 1) :: us) _ _ (E σ) (hr.make C us [])
    (I2.env0.make C us []) (by have z := hb _ (Value.ref (s.heap.objs.size + 1) :: us) I2.kIn hl; rw [List.append_nil] at z; exact z) r2 hq) fun r s' hq' => ?_))
  cases r with
  | error e => exact hx pins σ _ _ e s' I2 hq'
  | ok fl =>
    cases fl with
    | ret u =>
      obtain ⟨v, H', I3, rv, ev, q3⟩ := I2.after hq'
      subst ev
      exact ⟨rv, ⟨V.ref (s.heap.objs.size + 1), H', I3, rfl, q3⟩⟩
    | next => exact False.elim hq'
    | brk => exact False.elim hq'
    | cont => exact False.elim hq'
theorem pe_makeS (M : Mk X.K C f) (F : FnOk X.prog X.w X.K X.mg X.base CX k f fd ps sp) (hr : Room (k + 1) X.A) (hg : Gl X x) (hm : X.mg x = some (.ref C)) (hb : Binds X.K fd ps []) (hx : PassesS CX X E)
    (ha : PA X (e :: es) t) (hdb : (x == ("__debug__" : Str)) = false := by decide) (he : starEach (e :: es) X.env = (false, eval e X.env) :: starEach es X.env := by rfl) (hpl : (backTo pos (starEach es X.env)).any (·.1) = false := by rfl) :
    PE X (.Call (.Name x p) (e :: es) [] pos) (tMakeS C sp E t) := by
  intro pins s σ H Q I h
  refine wpAny_Call_Name_kw (ld_glob I hg hm ?_ hdb)
  refine PySem.W.callWith_K (h₀ := X.base) I.ok.mod.kin M.kp (thn (ha pos pins s σ H _ I h) fun us s1 ⟨vs, H1, I1, r, q⟩ => ⟨I1.kIn, ?_⟩) he hpl
  exact run_makeS M F hr hb hx I1 r q
end
theorem ObjOk.isThere {P : Program} {w : World} {H : Hp} {h : Heap} {a : Addr} {o : HO} (x : ObjOk P w H h a o) : ∃ u, h.get? a = some u := by
  cases o with
  | lst xs => obtain ⟨_, _, _, _, e⟩ := x; exact ⟨_, e⟩
  | tup xs => obtain ⟨_, _, _, ob, e, _⟩ := x; exact ⟨_, e⟩
  | dK kvs => obtain ⟨_, _, _, _, o, _, _, e, _⟩ := x; exact ⟨_, e⟩
  | dT kvs => obtain ⟨_, _, _, _, o, _, _, e, _⟩ := x; exact ⟨_, e⟩
  | set S n => obtain ⟨o, _, _, _, e, _⟩ := x; exact ⟨_, e⟩
  | ins C dx fs => obtain ⟨_, _, _, e, _⟩ := x; exact ⟨_, e⟩
  | own y => exact x
  | xd fs => obtain ⟨_, ⟨_, _, _, e, _⟩, _⟩ := x; exact ⟨_, e⟩
  | rng lo hi => obtain ⟨_, _, _, e⟩ := x; exact ⟨_, e⟩
  | frz ob u => obtain ⟨e, _⟩ := x; exact ⟨_, e⟩
  | tbl ps => exact ⟨_, (show h.get? a = some _ from x)⟩
  | met f y => exact ⟨_, (show h.get? a = some _ from x)⟩
  | ext φ => obtain ⟨_, e, _⟩ := x; exact e
structure TryB where
  pins : List (Addr × Obj)
  E : Value → Shared → Prop
def Cx.tryIn (X : Cx) (b : TryB) : Cx := { X with pn := X.pn ++ b.pins, xe := b.E }
theorem tryIn_K {X : Cx} {b : TryB} : (X.tryIn b).K = X.K := rfl
def Cx.suite (X : Cx) (x : Addr) : Cx := { X with A := X.A.mark (some (.ref x)), calm := false, xe := fun _ _ => False }
theorem suite_K {X : Cx} {x : Addr} : (X.suite x).K = X.K := rfl
section
variable {X : Cx} {pins : List (Addr × Obj)} {σ : St} {H : Hp} {s : Shared}
theorem Cx.Ok.tryIn (ok : X.Ok) (b : TryB) : (X.tryIn b).Ok := ⟨ok.mod, ok.kind, ok.glob, ok.blt, ok.above, ok.inj, ok.has, ok.cab, ok.hd, ok.frames, ok.stk, ok.exf, ok.bs, ok.bsz, ok.noex, ok.exfs, ok.funs, ok.frf⟩
theorem Inv.tryIn (I : Inv X pins σ H s) (E : Value → Shared → Prop) : Inv (X.tryIn ⟨pins, E⟩) [] σ H s :=
  ⟨I.ok.tryIn _, I.os, I.bare, I.base, I.loc, I.cell, I.free, I.freeC, fun p hp => I.pin p (by
    have hp : p ∈ (X.pn ++ pins) ++ [] := hp
    simpa using hp), I.hok, I.len⟩
theorem Inv.untry {b : TryB} {pins' : List (Addr × Obj)} (ok : X.Ok) (I : Inv (X.tryIn b) pins' σ H s) : Inv X b.pins σ H s :=
  ⟨ok, I.os, I.bare, I.base, I.loc, I.cell, I.free, I.freeC, fun p hp => I.pin p (by
    show p ∈ (X.pn ++ b.pins) ++ pins'
    exact List.mem_append_left _ hp), I.hok, I.len⟩
theorem Cx.Ok.suite (ok : X.Ok) (x : Addr) : (X.suite x).Ok := ⟨ok.mod, ok.kind, ok.glob, ok.blt, ok.above, ok.inj, ok.has, ok.cab, (fun h => nomatch h), ok.frames, ok.stk, ok.exf, ok.bs, ok.bsz, ok.noex, ok.exfs, ok.funs, ok.frf⟩
theorem Inv.suite (I : Inv X pins σ H s) (x : Addr) : Inv (X.suite x) pins σ H s := ⟨I.ok.suite x, I.os, I.bare, I.base, I.loc, I.cell, I.free, I.freeC, I.pin, I.hok, I.len⟩
theorem Inv.unsuite {x : Addr} (ok : X.Ok) (I : Inv (X.suite x) pins σ H s) : Inv X pins σ H s := ⟨ok, I.os, I.bare, I.base, I.loc, I.cell, I.free, I.freeC, I.pin, I.hok, I.len⟩
theorem Inv.dropName {i : Nat} {n : Str} {v : Option Value} {h' : Heap} {m : Str → Option Value} {t' : Nat} (I : Inv X pins σ H s) (hN : X.N.Nodup) (hi : X.N[i]? = some n) (hm : s.heap.Ns X.env.locals m)
    (hl : ∀ (j : Nat) (x : Str) (v : V), X.N[j]? = some x → σ[j]? = some (some v) → Vis X.env.scope x → ∃ u, RelV v u ∧ Look X.env s.heap m x u)
    (hn : h'.Ns X.env.locals (fun x => if x = n then v else m x)) (hs : Heap.SameBut X.env.locals s.heap h') : Inv X pins (σ.set i none) H { s with heap := h', toks := t' } := by
  have ne0 : ∀ b o, X.s₀.heap.get? b = some o → b ≠ X.env.locals := fun b o e => Nat.ne_of_lt (Nat.lt_of_lt_of_le (Heap.lt_size e) I.ok.above)
  obtain ⟨m', hm', _⟩ := id I.loc
  obtain ⟨oL, _, _, hoL, _⟩ := id hm
  refine ⟨I.ok, I.os, I.bare, ⟨fun b o e n hb hx => (hs.2 b (ne0 b o e)).trans (I.base.keep b o e n hb hx), fun b o e n hb hx => ?_, I.base.free, fun b o e hx => ?_, I.base.tups, I.base.frzs, I.base.tbls⟩, ⟨_, hn, fun j y v' e1 e2 e3 => ?_⟩, fun y c e => ?_, I.free, I.freeC, fun p hp => ?_, I.hok.but I.free hs, by simpa using I.len⟩
  · obtain ⟨sl, e1⟩ := I.base.slot b o e n hb hx
    exact ⟨sl, (hs.2 b (ne0 b o e)).trans e1⟩
  · obtain ⟨o', e1⟩ := I.base.there b o e hx
    exact ⟨o', (hs.2 b (ne0 b o e)).trans e1⟩
  · by_cases hj : j = i
    · subst hj
      have hlt : j < σ.length := by rw [I.len]; exact (List.getElem?_eq_some_iff.mp hi).1
      rw [List.getElem?_set_self hlt] at e2
      cases e2
    · rw [List.getElem?_set_ne (Ne.symm hj)] at e2
      obtain ⟨u', r', q⟩ := hl j y v' e1 e2 e3
      refine ⟨u', r', ?_⟩
      rcases q with ⟨k, e⟩ | ⟨k, c, e, z⟩
      · refine .inl ⟨k, ?_⟩
        have : y ≠ n := fun e => hj (nodup_ix hN e1 (e ▸ hi))
        simp [this, e]
      · exact .inr ⟨k, c, e, z.sameBut hs (I.cne y c e)⟩
  · obtain ⟨w', z⟩ := I.cell y c e
    exact ⟨w', z.sameBut hs (I.cne y c e)⟩
  · obtain ⟨e, n, ne, nf, d⟩ := I.pin p hp
    exact ⟨(hs.2 p.1 ne).trans e, n, ne, nf, d⟩
end
end L2
namespace L2
open PySem PySem.Spec PyProof.Rows
theorem land {X : Cx} {pins : List (Addr × Obj)} {σ : St} {H H' : Hp} {s s' : Shared} {x : Addr} {cls a0 : Value} {oc : Option Addr} {B : Heap} {h6 : Heap} (I : Inv X pins σ H s) (ho : s'.os = s.os) (hb : AllBare s'.gens) (fl : Fly B X.stack x cls a0 oc h6)
    (u : UnB (frs X.stack) H H' s.heap B) (ok : HOk X.prog X.w H' B) (sl : ∀ b ∈ frs X.stack, ∀ o, s.heap.get? b = some o → ∃ sl, h6.get? b = some { o with slots := sl }) :
    H' x = none ∧ Inv X pins σ (upd H' x (excO x cls)) { s' with heap := h6 } ∧ Inv X pins σ H' { s' with heap := h6 } := by
  obtain ⟨f1, f2, f3, f4⟩ := id fl
  obtain ⟨_, oe, vs, T, oT, ts, hoe, hcls, hoed, _⟩ := id f4
  have hx' : H' x = none := by
    cases q : H' x with
    | none => rfl
    | some o =>
      obtain ⟨u, e⟩ := (ok x o q).isThere
      rw [f2] at e; cases e
  have ok6 : HOk X.prog X.w H' h6 := ok.kept fun b u e => f1 b u e
  have nx : ∀ b o, s.heap.get? b = some o → b ≠ x := fun b o e z => by
    subst z
    by_cases hm : b ∈ frs X.stack
    · obtain ⟨_, o', e', hd⟩ := f3.mem hm
      rw [hoe] at e'; cases e'
      exact hd _ hoed
    · obtain ⟨o', e'⟩ := u.there b o e hm
      rw [f2] at e'; cases e'
  have un := u.un f1 sl
  have un2 : Un (frs X.stack) [] H (upd H' x (excO x cls)) s.heap h6 :=
    ⟨un.keep, un.slot, fun b o e n hx => by rw [upd_ne (nx b o e)]; exact un.free b o e n hx, un.there,
      fun b xs e => by rw [upd_ne (ne_of_none (u.tups b xs e) hx')]; exact u.tups b xs e, fun b o v e => by rw [upd_ne (ne_of_none (u.frzs b o v e) hx')]; exact u.frzs b o v e,
      fun b ps e => by
        obtain ⟨more, q⟩ := u.tbls b ps e
        exact ⟨more, by rw [upd_ne (ne_of_none q hx')]; exact q⟩⟩
  refine ⟨hx', ?_, ?_⟩
  · refine I.call' (s' := { s' with heap := h6 }) (ch := []) ho un2 (ok6.track hx' ⟨⟨oe, hoe, hcls⟩, ⟨oe, hoe⟩, fun h1 h2 ⟨o, e, c⟩ k => ⟨o, k o e, c⟩⟩) hb (fun b z => nomatch z)
  · exact I.call' (s' := { s' with heap := h6 }) (ch := []) ho un ok6 hb (fun b z => nomatch z)
def suiteEnds (i : Nat) (D : Ends) : Ends := { nx := fun σ H => D.nx (σ.set i none) H, rt := D.rt, bk := fun σ H => D.bk (σ.set i none) H, ct := fun σ H => D.ct (σ.set i none) H }
def tTryAs (K : PySem.W.Frag) (C : Addr) (i : Nat) (tb : TryB → XS → TS) (th : Addr → TS) : TS := fun D σ H => ∀ b : TryB,
  tb b (fun σ' cls _ H' => PySem.W.exmOne K cls (.ref C) = some true ∧ ∀ x, H' x = none → th x (suiteEnds i D) (σ'.set i (some (.ref x))) (upd H' x (excO x cls))) D σ H
theorem ps_tryAs {X : Cx} {body suite : List Stmt} {b₀ : Stmt} {cn n : Str} {np hpos pos : Pos} {C : Addr} {i : Nat} {tb : TryB → XS → TS} {th : Addr → TS} (hst : X.stack = X.env :: X.outer) (hfr : X.env.frame = some X.env.locals) (hN : X.N.Nodup) (hi : X.N[i]? = some n)
    (hb : ∀ b XE, PassesS (CX1 X.prog X.w) (X.tryIn b) XE → PSs (X.tryIn b) body (tb b XE)) (hth : ∀ x, PSs (X.suite x) (b₀ :: suite) (th x)) (hg : Gl X cn) (hm : X.mg cn = some (.ref C))
    (hn : X.env.scope.names.lookup n = some .local := by rfl) (hex : X.ex = [] := by rfl) (hdb : (cn == ("__debug__" : Str)) = false := by decide) :
    PS X (.Try body [.ExceptHandler (some (.Name cn np)) (some n) (b₀ :: suite) hpos] [] [] pos) (tTryAs X.K C i tb th) := by
  intro pins s σ H D I h
  refine wpAny_Try_except ?_
  let E' : Value → Shared → Prop := fun e s₁ => wpAny (model X.prog X.w) X.A (noteFrame e X.env) (fun _ s₂ => wpAny (model X.prog X.w) X.A (setFlight e none) (fun _ s₃ =>
    wpAny (model X.prog X.w) X.A (handleBy e X.env [.ExceptHandler (some (.Name cn np)) (some n) (b₀ :: suite) hpos]) (SP X pins D) X.xe s₃) X.xe s₂) X.xe s₁
  let XE : XS := fun σ' cls _ H' => PySem.W.exmOne X.K cls (.ref C) = some true ∧ ∀ x, H' x = none → th x (suiteEnds i D) (σ'.set i (some (.ref x))) (upd H' x (excO x cls))
  have caught : ∀ {σ' : St} {H1 H' : Hp} {s1 s' : Shared} {x : Addr} {cls a0 : Value} {oc : Option Addr} {B : Heap}, Inv X pins σ' H1 s1 → s'.os = s1.os → AllBare s'.gens → Fly B X.stack x cls a0 oc s'.heap → UnB (frs X.stack) H1 H' s1.heap B → HOk X.prog X.w H' B →
      (∀ b ∈ frs X.stack, ∀ o, s1.heap.get? b = some o → ∃ sl, s'.heap.get? b = some { o with slots := sl }) → XE σ' cls oc H' → wpAny (model X.prog X.w) X.A (handleBy (.ref x) X.env [.ExceptHandler (some (.Name cn np)) (some n) (b₀ :: suite) hpos]) (SP X pins D) X.xe s' := by
    intro σ' H1 H' s1 s' x cls a0 oc B I1 ho hbr fl u ok sl he
    obtain ⟨hx', J, J0⟩ := land (s' := s') I1 ho hbr fl u ok sl
    obtain ⟨hmt, hq⟩ := he
    refine wpAny_handleBy_cons (codeAny_handlers_test ?_) (by intro q; cases q)
    refine ld_glob (X := X.suite x) (J0.suite x) hg hm ?_ hdb
    obtain ⟨ob, hob, hobc⟩ := fl.there
    have LT : PySem.W.Looks (model X.prog X.w) s'.heap (typeOf (.ref x)) cls := hobc ▸ (PySem.W.Looks.ld hob).andThen .now
    refine (PySem.W.exm_one (M := model X.prog X.w) J0.kIn LT hmt).here ?_
    rw [if_pos rfl]
    refine codeAny_handlers_suite_as ?_
    refine flightT none fl fun h6 fl6 sm _ => ?_
    have sl6 : ∀ b ∈ frs X.stack, ∀ o, s1.heap.get? b = some o → ∃ sl, h6.get? b = some { o with slots := sl } := fun b hb o q => by
      obtain ⟨s2, e2⟩ := sl b hb o q
      obtain ⟨_, o', e', hd⟩ := fl.2.2.1.mem hb
      rw [e2] at e'; cases e'
      obtain ⟨s3, e3⟩ := sm b _ e2 (by intro vs z; exact hd vs z)
      exact ⟨s3, e3⟩
    obtain ⟨_, J6, _⟩ := land (s' := s') I1 ho hbr fl6 u ok sl6
    refine store_ok (X := X.suite x) (v := .ref x) (J6.suite x) hN hi (Or.inl hn) rfl (fun s7 J7 => ?_) (Or.inr hn)
    refine wpAny_mono (hth x pins s7 _ _ (suiteEnds i D) J7 (hq x hx')) (fun f s8 q8 => ?_) fun _ _ z => z.elim
    have go : ∀ {σ8 : St} {H8 : Hp} {Qf : Prop}, Inv (X.suite x) pins σ8 H8 s8 → (∀ h9 : Heap, Inv X pins (σ8.set i none) H8 { s8 with heap := h9, toks := s8.toks + 1 } → SP X pins D f { s8 with heap := h9, toks := s8.toks + 1 }) →
        wpAny (model X.prog X.w) X.A (do bindName X.env n .none; unbindBehindTheSuite X.env n hpos) (fun _ s₅ => SP X pins D f s₅) X.xe s8 := fun {σ8 H8 Qf} J8 k => by
      have J8' := J8.unsuite I.ok
      obtain ⟨m8, n8, l8⟩ := J8'.loc
      refine wpAny_nameGoes_keeps hn n8 (by rw [I.ok.kind]; rfl) fun h9 v hn9 hs9 => k h9 (J8'.dropName hN hi n8 l8 hn9 hs9)
    show wpAny (model X.prog X.w) X.A (do bindName X.env n .none; unbindBehindTheSuite X.env n hpos) (fun _ s₅ => SP X pins D f s₅) X.xe s8
    cases f with
    | next => obtain ⟨σ8, H8, J8, q⟩ := q8; exact go (Qf := True) J8 fun h9 J9 => ⟨_, _, J9, q⟩
    | brk => obtain ⟨σ8, H8, J8, q⟩ := q8; exact go (Qf := True) J8 fun h9 J9 => ⟨_, _, J9, q⟩
    | cont => obtain ⟨σ8, H8, J8, q⟩ := q8; exact go (Qf := True) J8 fun h9 J9 => ⟨_, _, J9, q⟩
    | ret u => obtain ⟨v, σ8, H8, J8, rv, q⟩ := q8; exact go (Qf := True) J8 fun h9 J9 => ⟨v, _, _, J9, rv, q⟩
  have hP : PassesS (CX1 X.prog X.w) (X.tryIn ⟨pins, E'⟩) XE := fun pins' σ' H1 s1 e s' I1 q => by
    obtain ⟨x, cls, a0, oc, B, H', rfl, ho, hbr, fl, u, ok, sl, he⟩ := q
    have I1' : Inv X pins σ' H1 s1 := I1.untry I.ok
    have fl' : Fly B (X.env :: X.outer) x cls a0 oc s'.heap := by rw [← hst]; exact fl
    show wpAny (model X.prog X.w) X.A (noteFrame (.ref x) X.env) _ _ _
    refine noteT (by rw [I.ok.frames, hst]) hfr fl' fun h4 hh4 _ sm4 => flightT (s := { s' with heap := h4 }) none hh4 fun h5 fl5 sm5 _ => ?_
    refine caught (s' := { s' with heap := h5 }) (a0 := a0) (B := B) I1' ho hbr (by rw [hst]; exact fl5) u ok (fun b hb o q => ?_) he
    obtain ⟨s2, e2⟩ := sl b hb o q
    obtain ⟨_, o', e', hd⟩ := fl.2.2.1.mem hb
    rw [e2] at e'; cases e'
    obtain ⟨s3, e3⟩ := (sm4.trans sm5) b _ e2 (by intro vs z; exact hd vs z)
    exact ⟨s3, e3⟩
  refine wpAny_mono (hb ⟨pins, E'⟩ XE hP [] s σ H D (I.tryIn E') (h ⟨pins, E'⟩)) (fun f s8 q8 => ?_) fun _ _ z => z
  cases f with
  | next => obtain ⟨σ8, H8, J8, q⟩ := q8; exact wpAny_execs_nil ⟨σ8, H8, J8.untry I.ok, q⟩
  | brk => obtain ⟨σ8, H8, J8, q⟩ := q8; exact ⟨σ8, H8, J8.untry I.ok, q⟩
  | cont => obtain ⟨σ8, H8, J8, q⟩ := q8; exact ⟨σ8, H8, J8.untry I.ok, q⟩
  | ret u => obtain ⟨v, σ8, H8, J8, rv, q⟩ := q8; exact ⟨v, σ8, H8, J8.untry I.ok, rv, q⟩
end L2
set_option Elab.async false
set_option linter.all false
set_option maxRecDepth 100000
set_option maxHeartbeats 4000000
namespace L2
open PySem PySem.Spec PyProof.Rows
abbrev TJ := Str → St → Hp → VK → Prop
def PJ (X : Cx) (es : List Expr) (t : TJ) : Prop :=
  ∀ (pins : List (Addr × Obj)) (s : Shared) (σ : St) (H : Hp) (Q : VK) (out : Str), Inv X pins σ H s → t out σ H Q → wpAny (model X.prog X.w) X.A (joinParts out (evalEach es X.env)) (EP X pins σ Q) X.xe s
def jNil : TJ := fun out _ H Q => out.length ≤ sizeLine ∧ Q (.str out) H
def jCons (te : TE) (tr : TJ) : TJ := fun out σ H Q => te σ H fun x H1 => ∃ y, x = .str y ∧ (out ++ y).length ≤ sizeLine ∧ tr (out ++ y) σ H1 Q
def tFstr (t : TJ) : TE := fun σ H Q => t Str.empty σ H Q
def tFmt (te : TE) : TE := fun σ H Q => te σ H fun x H1 => (∃ i : Int, x = .int i ∧ i.natAbs.log2 < 1920 ∧ Q (.str (toString i)) H1) ∨ (∃ y : Str, x = .str y ∧ y.length ≤ sizeLine ∧ Q (.str y) H1)
section
variable {X : Cx} {e : Expr} {es : List Expr} {te : TE} {t : TJ} {pos : Pos}
theorem pj_nil (h : evalEach [] X.env = [] := by rfl) : PJ X [] jNil := fun pins s σ H Q out I q => by
  rw [h]
  exact joinParts_nil ⟨.str out, H, I.tok _, ⟨_, rfl⟩, q.2⟩ q.1
theorem pj_cons (he : PE X e te) (hr : PJ X es t) (h : evalEach (e :: es) X.env = eval e X.env :: evalEach es X.env := by rfl) : PJ X (e :: es) (jCons te t) := fun pins s σ H Q out I q => by
  rw [h]
  refine joinParts_cons (thn (he pins s σ H _ I q) fun v s1 ⟨x, H1, I1, r1, y, ex, hz, q1⟩ => ?_)
  subst ex
  obtain ⟨tk, rfl⟩ := r1
  exact ⟨hz, hr pins s1 σ H1 Q _ I1 q1⟩
theorem pe_fstr {v1 v2 : Expr} {rest : List Expr} (h : PJ X (v1 :: v2 :: rest) t) (hev : evalEach (v1 :: v2 :: rest) X.env = eval v1 X.env :: eval v2 X.env :: evalEach rest X.env := by rfl) : PE X (.JoinedStr (v1 :: v2 :: rest) pos) (tFstr t) := fun pins s σ H Q I q => by
  refine JoinedStr_many ?_
  have z := h pins s σ H Q Str.empty I q
  rw [hev] at z
  exact z
theorem pe_fmt (he : PE X e te) : PE X (.FormattedValue e (-1) none pos) (tFmt te) := fun pins s σ H Q I q => by
  refine FormattedValue_plain (thn (he pins s σ H _ I q) fun v s1 ⟨x, H1, I1, r1, q1⟩ => ?_)
  rcases q1 with ⟨i, ex, hl, q1⟩ | ⟨y, ex, hl, q1⟩
  · subst ex
    obtain ⟨tk, rfl⟩ := r1
    exact formatField_int_small hl ⟨.str _, H1, I1.tok _, ⟨_, rfl⟩, q1⟩
  · subst ex
    obtain ⟨tk, rfl⟩ := r1
    exact formatField_str (fun t' tk => ⟨.str y, H1, I1.tok _, ⟨_, rfl⟩, q1⟩) hl
end
inductive DEq (K : PySem.W.Frag) (H : Hp) : Nat → V → V → Bool → Prop
  | flat {d : Nat} {x y : V} : flatV x = true → flatV y = true → DEq K H d x y (eqV x y)
  | same {d : Nat} {a : Addr} : DEq K H d (.ref a) (.ref a) true
  | lsts {d : Nat} {a b : Addr} {xs ys : List V} {e : Nat → Bool} : a ≠ b → SqL K H a xs → SqL K H b ys → xs.length = ys.length → (∀ j x y, xs[j]? = some x → ys[j]? = some y → DEq K H d x y (e j)) → DEq K H (d + 1) (.ref a) (.ref b) ((List.range xs.length).all e)
  | tups {d : Nat} {a b : Addr} {xs ys : List V} {e : Nat → Bool} : a ≠ b → SqT K H a xs → SqT K H b ys → (∀ j x y, xs[j]? = some x → ys[j]? = some y → DEq K H d x y (e j)) → DEq K H (d + 1) (.ref a) (.ref b) ((List.range (min xs.length ys.length)).all e && xs.length == ys.length)
theorem seq_cut {t u : TS} {D : Ends} {σ : St} {H : Hp} (Mid : St → Hp → Prop) (h1 : ∀ N : St → Hp → Prop, (∀ σ' H', Mid σ' H' → N σ' H') → t { D with nx := N } σ H) (h2 : ∀ σ' H', Mid σ' H' → u D σ' H') : tSeq t u D σ H := h1 (u D) h2
theorem DEq.pair {K : PySem.W.Frag} {H : Hp} {a b : Addr} {q : Pr} {d : Nat} (ha : H a = some (pairO q)) (hb : H b = some (pairO q)) : DEq K H (d + 1) (.ref a) (.ref b) true := by
  by_cases e : a = b
  · subst e; exact .same
  · have h := DEq.tups (K := K) (d := d) (e := fun _ => true) e (SqT.of ha) (SqT.of hb) (fun j x y hx hy => by
      have : x = y := by rw [hx] at hy; exact Option.some.inj hy
      subst this
      have fl : flatV x = true ∧ eqV x x = true := by
        match j, hx with
        | 0, hx => cases hx; simp [flatV, eqV]
        | 1, hx => cases hx; simp [flatV, eqV]
        | j + 2, hx => simp at hx
      have z := DEq.flat (K := K) (H := H) (d := d) fl.1 fl.1
      rw [fl.2] at z
      exact z)
    exact h
theorem DEq.pairs {K : PySem.W.Frag} {H : Hp} {a b : Addr} {as bs : List Addr} {ps : List Pr} {d : Nat} (ne : a ≠ b) (ha : SqL K H a (as.map V.ref)) (hb : SqL K H b (bs.map V.ref)) (ta : TupsAt H as ps) (tb : TupsAt H bs ps) : DEq K H (d + 2) (.ref a) (.ref b) true := by
  have la := ta.len
  have lb := tb.len
  have h := DEq.lsts (K := K) (d := d + 1) (e := fun _ => true) ne ha hb (by simp [la, lb]) (fun j x y hx hy => by
    obtain ⟨a1, rfl, e1⟩ := map_ref hx
    obtain ⟨b1, rfl, e2⟩ := map_ref hy
    obtain ⟨q, h1, h2⟩ := ta.get e1
    obtain ⟨q', h3, h4⟩ := tb.get e2
    rw [h1] at h3; cases h3
    exact DEq.pair h2 h4)
  have e : ((List.range (as.map V.ref).length).all fun _ => true) = true := by simp
  rw [e] at h
  exact h
end L2
set_option Elab.async false
set_option linter.all false
set_option maxRecDepth 100000
set_option maxHeartbeats 4000000
namespace L2
open PySem PySem.Spec PyProof.Rows
open PySem.Builtin PySem.Builtin.Str
section
variable {s1 s2 s3 s4 s5 u : TS} {D : Ends} {σ : St} {H : Hp}
def Is (c : TT) (b : Bool) (σ : St) (H : Hp) : Prop := ∀ Q : Bool → Hp → Prop, Q b H → c σ H Q
theorem Is.of {c : TT} {b b' : Bool} (h : Is c b σ H) (e : b = b') : Is c b' σ H := e ▸ h
end
section
variable {X : Cx}
theorem vals_strs : ∀ (l : List (Str × Tok)), Vals ((l.map (·.1)).map V.str) (strValues l)
  | [] => .nil
  | (y, t) :: l => .cons ⟨t, rfl⟩ (vals_strs l)
def rEnds : V → List V → Hp → VK → Prop := fun x vs H Q => ∃ z y, x = .str z ∧ vs = [.str y] ∧ Q (.bl (Txt.endswith z y)) H
theorem mt_endswith : MtR X "str.endswith" rEnds := by
  intro pins s σ H x vs v us Q I rx rv h
  obtain ⟨z, y, rfl, rfl, q⟩ := h
  obtain ⟨t, rfl⟩ := rx
  obtain ⟨u, rfl, t', rfl⟩ := rv.one
  exact SC.endswith ⟨.bl _, H, I, rfl, q⟩
def rSplit : V → List V → Hp → VK → Prop := fun x vs H Q => ∃ z y, x = .str z ∧ vs = [.str y] ∧ (y.length == 0) = false ∧ z.length + 2 ≤ sizeLine ∧ ∀ l, H l = none → Q (.ref l) (upd H l (.lst ((Txt.split z y).map V.str)))
theorem mt_split : MtR X "str.split" rSplit := by
  intro pins s σ H x vs v us Q I rx rv h
  obtain ⟨z, y, rfl, rfl, hy, hz, q⟩ := h
  obtain ⟨t, rfl⟩ := rx
  obtain ⟨u, rfl, t', rfl⟩ := rv.one
  have hn : (partsBetween z (occurrences z y 0 z.length (z.length + 1)) y.length).length ≤ sizeLine := by
    have e1 := StrLaws.occ_length_le z y 0 z.length (z.length + 1)
    rw [length_partsBetween]; omega
  have fin : ∀ (l : List (Str × Tok)) (k : Nat), l.map (·.1) = Txt.split z y → l.length ≤ sizeLine → EP X pins σ Q (.ref s.heap.objs.size) { s with heap := s.heap.push { cls := .type "list", data := .seq (strValues l).toArray }, toks := k } := fun l k e hl => by
    have hv := vals_strs l
    rw [e] at hv
    exact ⟨.ref s.heap.objs.size, _, I.lnew (t' := k) hv (by rw [List.length_map, ← e, List.length_map]; exact hl), rfl, q _ I.fresh⟩
  cases h1 : (decide (z.length < y.length) || decide (strKind z < strKind y))
  · cases hf : (occurrences z y 0 z.length (z.length + 1)).isEmpty
    · have ep : Txt.split z y = partsBetween z (occurrences z y 0 z.length (z.length + 1)) y.length := (if_neg (ne_true_of_eq_false h1)).trans (if_neg (ne_true_of_eq_false hf))
      refine call_meets F.slot_str_split (typeIs_str _ _ _) F.entry_str_split (F.args_str_split_2 _ _) (meets_str_split_sep z y t t' h1 hy hf (by omega) hn) ?_
      rw [strsFrom_eq, ← ep]
      refine fin (numbered s.toks _) _ (numbered_texts _ _) ?_
      have := congrArg List.length (numbered_texts s.toks (Txt.split z y))
      rw [List.length_map] at this
      rw [this, ep]
      exact hn
    · exact call_meets F.slot_str_split (typeIs_str _ _ _) F.entry_str_split (F.args_str_split_2 _ _) (meets_str_split_not_found z y t t' h1 hy hf) (fin [(z, t)] s.toks ((if_neg (ne_true_of_eq_false h1)).trans (if_pos hf)).symm (by show 1 ≤ sizeLine; decide))
  · exact call_meets F.slot_str_split (typeIs_str _ _ _) F.entry_str_split (F.args_str_split_2 _ _) (meets_str_split_cannot_occur z y t t' h1) (fin [(z, t)] s.toks (if_pos h1).symm (by show 1 ≤ sizeLine; decide))
def rSlS : V → Option Int → Option Int → Hp → VK → Prop := fun x lo hi H Q => ∃ z, x = .str z ∧ z.length ≤ sizeLine ∧ Q (.str (Txt.slice z lo hi)) H
theorem part_of {v : Value} {o : Option Int} (p : IsPart v o) : ∃ l : Option (Int × Tok), v = partValue l ∧ l.map (·.1) = o := by
  cases p with
  | none => exact ⟨none, rfl, rfl⟩
  | int i t => exact ⟨some (i, t), rfl, rfl⟩
theorem sl_str : SlR X rSlS := by
  intro pins s σ H x v vl vu lo hi sl Q I rx hs pl pu h
  obtain ⟨z, rfl, hz, q⟩ := h
  obtain ⟨t, rfl⟩ := rx
  obtain ⟨l, rfl, rfl⟩ := part_of pl
  obtain ⟨u, rfl, rfl⟩ := part_of pu
  refine ⟨"str", _, F.slot_str_getitem.lookup, typeIs_str _ _ _, ?_⟩
  exact wpAny_getItem_str_slice (l := l) (u := u) (st := none) hs rfl (post_val_or_str ⟨Nat.le_trans (Txt.slice_le z _ _) hz, fun t' k => ⟨.str _, H, I.tok _, ⟨_, rfl⟩, q⟩⟩)
theorem call_int_str : CallR X (.type "int") (fun xs H Q => ∃ z n, xs = [.str z] ∧ intText? z = some n ∧ z.length ≤ 640 ∧ Q (.int n) H) := by
  intro pins s σ H xs us Q I r h
  obtain ⟨z, n, rfl, hn, hl, q⟩ := h
  obtain ⟨u, rfl, t, rfl⟩ := vals1 r
  exact PySem.W.KIN.call_text hn hl ⟨.int n, H, I.tok _, ⟨_, rfl⟩, q⟩
def Its (z : Str) : It := ⟨fun i _ => i < z.cps.size, fun i H x H' => H' = H ∧ ∃ c, z.cps[i]? = some c ∧ x = .str ⟨#[c]⟩, fun i _ => z.cps.size ≤ i⟩
theorem turn_str {P : Program} {w : World} {K : PySem.W.Frag} {tg : Expr} (it : Addr) (z : Str) (t : Tok) (ty : String) (hty : ["enumerate", "zip", "dict_itemiterator", "dict_reverseitemiterator", "odict_iterator", "itertools.zip_longest", "itertools.pairwise"].contains ty = false)
    (W : ∀ A : Around, A.handled = none → Walks P w A it [it] [it] z.cps.size (SignAt z) (fun i h => h.IsStrIter it ty z t i))
    (hself : ∀ (A : Around) (i : Nat) (s : Shared) (Q : Value → Shared → Prop) (E : Value → Shared → Prop), s.heap.IsStrIter it ty z t i → Q (.ref it) s → wpAny (model P w) A (pyIter (.ref it)) Q E s)
    (hend : ∀ (A : Around) (i : Nat) (s : Shared) (Q : Option Value → Shared → Prop) (E : Value → Shared → Prop), A.handled = none → s.heap.IsStrIter it ty z t i → z.cps[i]? = none → (∀ h', Heap.ExtBut it s.heap h' → Q none { s with heap := h' }) → wpAny (model P w) A (pyNext (.ref it)) Q E s) :
    Turn P w K tg (Its z) [it] it (fun i h => h.IsStrIter it ty z t i) where
  mem := by simp
  obj := fun i h st b hb => by
    have e : b = it := by simpa using hb
    subst e
    obtain ⟨o, ho, hc, hd⟩ := st
    exact ⟨o, ho, fun v q => by rw [hd] at q; cases q⟩
  keep := fun i h h' st k => let ⟨o, ho, r⟩ := st; ⟨o, k it (by simp) o ho, r⟩
  item := by
    intro X hP hw hK hc i pins s σ H E I hf st hg
    subst hP hw hK
    obtain ⟨f0, f1, f2, f3, f4, f5⟩ := hf it (by simp)
    refine (W X.A (I.ok.hd hc)).item i s _ _ hg st fun v h' tk hv st' kk => ?_
    obtain ⟨c, u, ec, rfl⟩ := hv
    have I1 : Inv X pins σ H { s with heap := h', toks := tk } := I.turned (fun b o hb e => kk b o (by simpa using hb) e) f0 f1 f3 f4 f5
    obtain ⟨o, ho, hcl, hd⟩ := id st'
    exact ⟨_, rfl, go_of (s := { s with heap := h', toks := tk }) (n := ty) ho hcl hd hty ⟨.str ⟨#[c]⟩, H, I1, ⟨u, rfl⟩, ⟨rfl, c, ec, rfl⟩, st', fun b hb => (hf b hb).1⟩⟩
  done := by
    intro X hP hw hK hc i pins s σ H E I hf st hg
    subst hP hw hK
    obtain ⟨f0, f1, f2, f3, f4, f5⟩ := hf it (by simp)
    have hg : z.cps.size ≤ i := hg
    exact hend X.A i s _ _ (I.ok.hd hc) st (by simp [hg]) fun h' eb => ⟨rfl, I.turned (t' := s.toks) (fun b o hb e => eb b o hb e) f0 f1 f3 f4 f5⟩
  self := fun A i s Q E st h => hself A i s Q E st h
def iStr (tl : TE) : TI := fun σ H R => tl σ H fun x H1 => ∃ z, x = .str z ∧ R (Its z) H1
theorem pi_str {tg l : Expr} {tl : TE} (hl : PE X l tl) : PI X tg l (iStr tl) := by
  intro pins s σ H R I h
  refine thn (hl pins s σ H _ I h) fun v s1 ⟨x, H1, I1, r1, q1⟩ => ?_
  obtain ⟨z, rfl, q⟩ := q1
  obtain ⟨t, rfl⟩ := r1
  have fp : ∀ b ∈ [s1.heap.objs.size], FpOk X pins H1 b := fun b hb => by
    have e : b = s1.heap.objs.size := by simpa using hb
    subst e
    exact I1.fpOk (Nat.le_refl _) (I1.hok.fresh (Nat.le_refl _))
  cases ha : z.cps.all (· < 128)
  · refine wpAny_pyIter_wide ha ⟨s1.heap.objs.size, [s1.heap.objs.size], _, _, H1, rfl, I1.kept (t' := s1.toks) fun b o e => Heap.get?_push_of_some _ e,
      turn_str _ z t "str_iterator" (by decide) (fun A' hA => Walks.strWide hA _ z t) (fun _ _ _ _ _ st h => wpAny_pyIter_striter_wide st h) (fun _ _ _ _ _ hh st hx hq => wpAny_pyNext_wide_end hh st hx hq), ⟨_, Heap.get?_push_size _ rfl, rfl, rfl⟩, fp, q⟩
  · refine wpAny_pyIter_ascii ha ⟨s1.heap.objs.size, [s1.heap.objs.size], _, _, H1, rfl, I1.kept (t' := s1.toks) fun b o e => Heap.get?_push_of_some _ e,
      turn_str _ z t "str_ascii_iterator" (by decide) (fun A' hA => Walks.strAscii hA _ z t) (fun _ _ _ _ _ st h => wpAny_pyIter_striter_ascii st h) (fun _ _ _ _ _ hh st hx hq => wpAny_pyNext_ascii_end hh st hx hq), ⟨_, Heap.get?_push_size _ rfl, rfl, rfl⟩, fp, q⟩
theorem blk_str {z : Str} {own : Nat} {ix : List Nat} {g : Blk → TG} {tt : Blk → TT} {te : Blk → TE} {σ0 : St} {H0 : Hp} {Q : VK} (Pv : Nat → List V → St → Hp → Prop) (hz : z.cps.size ≤ sizeLine) (h0 : Pv 0 [] (blkStart own ix σ0) H0) (hl : ∀ i ys σ H, i ≤ z.cps.size → Pv i ys σ H → ys.length ≤ i)
    (hs : ∀ bk i c ys σ H, z.cps[i]? = some c → Pv i ys σ H → g bk (.str ⟨#[c]⟩) σ H fun σ2 H2 => tt bk σ2 H2 fun b H3 => if b = true then te bk σ2 H3 fun y H4 => Pv (i + 1) (ys ++ [y]) σ2 H4 else Pv (i + 1) ys σ2 H3)
    (hd : ∀ ys σ H D, Pv z.cps.size ys σ H → H D = none → Q (.ref D) (upd H D (.lst ys))) :
    BlkBody own ix g tt te σ0 Q (Its z) H0 := by
  intro bk
  refine ⟨fun i m ys σ H => m = z.cps.size - i ∧ i ≤ z.cps.size ∧ Pv i ys σ H, ⟨z.cps.size, by simp, Nat.zero_le _, h0⟩, ?_⟩
  rintro i m ys σ H ⟨rfl, hi, p⟩
  have hy := hl i ys σ H hi p
  by_cases hlt : i < z.cps.size
  · refine .inr ⟨hlt, by omega, Pv (i + 1), fun ys' σ' H' p' => ⟨z.cps.size - (i + 1), by omega, rfl, hlt, p'⟩, fun x H' y => ?_⟩
    obtain ⟨e, c, ec, ex⟩ := y
    subst e ex
    exact hs bk i c ys σ _ ec p
  · have e : i = z.cps.size := by omega
    subst e
    exact .inl ⟨Nat.le_refl _, fun D hD => hd ys σ H D p hD⟩
end
theorem walk_ofW {l : PySem.W.OpenLaw} {n k : Nat} {q : Program} {loose : List Str} {XP : (Str → Option Value) → Heap → Prop} {YP : World → Heap → Prop} {d : DefRec} {K : Params → PySem.W.Frag} {sp : PySem.W.Frag → Sp} {x : Str}
    (hn : l.most = some n) (hn2 : n ≤ sizeLine) (hdf : d.params.defaults = []) (hr : Room k callerA)
    (hY : ∀ (w : World) (h : Heap), YP w h → (K w.params).In h)
    (F : ∀ (w : World) (mg : Str → Option Value) (fa : Addr) (h : Heap), (K w.params).In h → h.Ns mainGlobals mg → mg d.name = some (.ref fa) →
      ∃ fd : FuncData, (∀ (s : Shared) (u : Value), BindsTo s fd ⟨[u], []⟩ [(x, u)]) ∧ ∀ base : Heap, (K w.params).In base → base.Ns mainGlobals mg → FnOk l.prog w (K w.params) mg base (CX1 l.prog w) k fa fd [x] (sp (K w.params)))
    (hsp : ∀ (K : PySem.W.Frag) (H : Hp) (a : Addr) (ns : List Int), ns.length ≤ n → Only H → SqL K H a (ns.map V.int) → sp K [.ref a] H (fun v _ => v = .bl true) fun _ _ _ => False) :
    PySem.W.WalkO q loose XP YP l.row.toRowW d [] (fun f vs => PySem.call f vs) :=
  walk_of (K := K) (CX := fun w => CX1 l.prog w) (sp := fun w => sp (K w.params)) hn hn2 hdf hr hY F (fun w H a ns h1 h2 h3 => hsp (K w.params) H a ns h1 h2 h3) fun w H s e s' z => nox1 [] H s e s' z
end L2
set_option Elab.async false
set_option linter.all false
set_option maxRecDepth 100000
set_option maxHeartbeats 4000000
namespace L2
open PySem PySem.Spec PyProof.Rows
theorem noteFrame_eq {e : Value} {env env' : Env} (h : env.frame = env'.frame) : noteFrame e env = noteFrame e env' := by
  unfold noteFrame PySem.frameOf
  rw [h]
theorem funFrames_to {h h' base base' : Heap} (kb : ∀ b, base.get? b = none → base'.get? b = none) : ∀ {l : List Env}, h.FunFrames base l → (∀ b ∈ frs l, ∀ o, h.get? b = some o → h'.get? b = some o) → h'.FunFrames base' l
  | [], _, _ => trivial
  | env :: r, ⟨hk, ⟨L, o, hf, hn, ho, hd⟩, hr⟩, k => ⟨hk, ⟨L, o, hf, kb L hn, k L (by unfold frs; rw [List.filterMap_cons, hf]; exact List.mem_cons_self) o ho, hd⟩, funFrames_to kb hr fun b hb => k b (by unfold frs; rw [List.filterMap_cons, hf]; exact List.mem_cons_of_mem _ hb)⟩
section
variable {P : Program} {w : World} {K : PySem.W.Frag} {mg : Str → Option Value} {base : Heap} {N : List Str} {qual : Str} {scope : Scope} {f : Addr} {cd : Value} {A : Around} {outer : List Env} {s0 : Shared} {H0 : Hp} {E : XK} {N' : List Str} {sc' : Scope} {b : Blk}
theorem passes_blk (hB : BOk (cxOf (CX1 P w) P w K mg base N qual scope f cd A outer s0 H0 E) b) :
    PassesS (CX1 P w) ((cxOf (CX1 P w) P w K mg base N qual scope f cd A outer s0 H0 E).block N' sc' b) fun _ => E := by
  intro pins σ H s e s' I q
  obtain ⟨x, cls, a0, oc, B, H', rfl, ho, hbr, fl, u, ok, sl, he⟩ := q
  have J := hB.inv
  have fl : Fly B (envOfC qual scope s0.heap.objs.size f cd :: outer) x cls a0 oc s'.heap := fl
  have u : UnB (frs (envOfC qual scope s0.heap.objs.size f cd :: outer)) H H' s.heap B := u
  have jst : b.s₃.heap.FunFrames _ (envOfC qual scope s0.heap.objs.size f cd :: outer) := J.stack
  have cfr : b.C ∉ frs (envOfC qual scope s0.heap.objs.size f cd :: outer) := fun hm => by
    obtain ⟨_, o, ho, _⟩ := jst.mem hm
    exact absurd (Nat.lt_of_lt_of_le (Heap.lt_size ho) hB.fresh) (Nat.lt_irrefl _)
  obtain ⟨m, nC, _⟩ := id I.loc
  have nC : s.heap.Ns b.C m := nC
  have hC : H b.C = none := I.free
  obtain ⟨oC, es, ep, goC, rC⟩ := id nC
  have BC : B.get? b.C = some oC := u.keep b.C oC goC hC cfr
  show wpAny _ _ (noteFrame (.ref x) (blockEnv _ _ _ _)) _ _ s'
  have hne : noteFrame (.ref x) (blockEnv (relabel sc' (cxOf (CX1 P w) P w K mg base N qual scope f cd A outer s0 H0 E).env) b.cs b.C (cxOf (CX1 P w) P w K mg base N qual scope f cd A outer s0 H0 E).env) = noteFrame (.ref x) (envOfC qual scope s0.heap.objs.size f cd) := noteFrame_eq rfl
  rw [hne]
  refine noteT J.ok.frames rfl fl fun h4 k4 _ u4 => ?_
  refine ⟨m, ⟨oC, es, ep, k4.1 _ _ BC, rC⟩, fun h5 sb cenv hc => ?_⟩
  have hid : ∀ c o, (PySem.W.hideAll B [b.C]).get? c = some o → c ≠ b.C ∧ B.get? c = some o := fun c o hc => by
    refine ⟨fun z => ?_, PySem.W.of_hideAll _ hc⟩
    subst z
    rw [PySem.W.hideAll_none [b.C] List.mem_cons_self] at hc
    cases hc
  have hnn : ∀ c, B.get? c = none → (PySem.W.hideAll B [b.C]).get? c = none := fun c hc => by
    cases q : (PySem.W.hideAll B [b.C]).get? c with
    | none => rfl
    | some o =>
      have := (hid c o q).2
      rw [hc] at this
      cases this
  have neC : ∀ c, B.get? c = none → c ≠ b.C := fun c hc z => by rw [z, BC] at hc; cases hc
  have k5 : Fly (PySem.W.hideAll B [b.C]) (envOfC qual scope s0.heap.objs.size f cd :: outer) x cls a0 oc h5 := by
    obtain ⟨g1, g2, g3, fl4, ox, xs, tb, ob, ys, gx, gc, gd, y0, y1, y2, gn, gne, gt, gtd, y3⟩ := k4
    refine ⟨fun c o hc => ?_, hnn x g2, funFrames_to hnn g3 (fun c hc o ho => (sb.2 c (fun z => cfr (z ▸ hc))).trans ho), fl4, ox, xs, tb, ob, ys, (sb.2 x (neC x g2)).trans gx, gc, gd, y0, y1, y2, hnn tb gn, gne, (sb.2 tb (neC tb gn)).trans gt, gtd, y3⟩
    obtain ⟨h1, h2⟩ := hid c o hc
    exact (sb.2 c h1).trans (g1 c o h2)
  obtain ⟨_, _, _, _, ox, xs, tb, ob, ys, gx, gc, gd, y0, y1, _⟩ := id k5
  unfold PySem.passOn
  refine wpAny_bind (wpAny_field gx gd y1 ?_)
  rw [if_neg (by simp)]
  refine wpAny_bind (flightT (s := { s' with heap := h5 }) cenv.frame k5 fun h6 k6 u6 _ => wpAny_throw ?_)
  show wpAny _ _ (leaving _ _) _ _ _
  refine leavesT (s := { s' with heap := h6 }) (L := s0.heap.objs.size) J.ok.frames rfl k6 fun h7 k7 u7 => ?_
  have nst : ∀ c o, s0.heap.get? c = some o → c ∉ frs outer → c ∉ frs (envOfC qual scope s0.heap.objs.size f cd :: outer) := notFr s0 outer rfl
  have nfp : ∀ c o, s0.heap.get? c = some o → c ∉ b.fp := fun c o q z => by
    rcases (hB.fpo c z).2.2.2.1 with z' | z'
    · cases z'
    · exact absurd (Nat.lt_of_lt_of_le (Heap.lt_size q) z') (Nat.lt_irrefl _)
  have neC0 : ∀ c o, b.s₃.heap.get? c = some o → c ≠ b.C := fun c o q z => by
    rw [z] at q
    exact absurd (Nat.lt_of_lt_of_le (Heap.lt_size q) hB.fresh) (Nat.lt_irrefl _)
  refine ⟨x, cls, a0, oc, _, H', rfl, ho.trans (I.os.trans J.os), hbr, k7, ⟨fun c o q n hb => ?_, fun c o q n => ?_, fun c o q hb => ?_, fun c ys q => ?_, fun c o v q => ?_, fun c ps q => ?_⟩, ?_, fun c hb o q => ?_, he⟩
  · have q0 := J.base.keep c o q n hb (fun z => nomatch z)
    have n0 := J.base.free c o q n (fun z => nomatch z)
    have q1 := I.base.keep c o q0 n0 (nst c o q hb) (nfp c o q)
    have n1 := I.base.free c o q0 n0 (nfp c o q)
    exact PySem.W.hideAll_get _ (u.keep c o q1 n1 (nst c o q hb)) (by simpa using neC0 c o q0)
  · obtain ⟨o1, q1⟩ := J.base.there c o q (fun z => nomatch z)
    have n1 := J.base.free c o q n (fun z => nomatch z)
    obtain ⟨o2, q2⟩ := I.base.there c o1 q1 (nfp c o q)
    have n2 := I.base.free c o1 q1 n1 (nfp c o q)
    exact u.free c o2 q2 n2
  · obtain ⟨o1, q1⟩ := J.base.there c o q (fun z => nomatch z)
    obtain ⟨o2, q2⟩ := I.base.there c o1 q1 (nfp c o q)
    obtain ⟨o3, q3⟩ := u.there c o2 q2 (nst c o q hb)
    exact ⟨o3, PySem.W.hideAll_get _ q3 (by simpa using neC0 c o1 q1)⟩
  · exact u.tups c ys (I.base.tups c ys (J.base.tups c ys q))
  · exact u.frzs c o v (I.base.frzs c o v (J.base.frzs c o v q))
  · obtain ⟨m1, e1⟩ := J.base.tbls c ps q
    obtain ⟨m2, e2⟩ := I.base.tbls c _ e1
    obtain ⟨m3, e3⟩ := u.tbls c _ e2
    exact ⟨m1 ++ m2 ++ m3, by rw [e3]; simp [Array.append_assoc]⟩
  · intro c o q
    have hC' : H' b.C = none := u.free b.C oC goC hC
    refine (ok c o q).stay (fun d v hd q' => PySem.W.hideAll_get _ q' ?_) (fun _ q' => q') fun _ _ q' => q'
    simp only [List.mem_singleton]
    rintro rfl
    rcases hd with z | z
    · rw [z] at hC'; rw [hC'] at q; cases q
    · rw [hC'] at z; cases z
  · have hb' : c ∈ frs (envOfC qual scope s0.heap.objs.size f cd :: outer) := by
      show c ∈ List.filterMap _ _
      rw [List.filterMap_cons]
      exact List.mem_cons_of_mem _ hb
    obtain ⟨_, o', ho', hd⟩ := PySem_mem_funFrames J.ok.funs (b := c) hb
    have ho' : s0.heap.get? c = some o' := ho'
    rw [q] at ho'
    cases ho'
    obtain ⟨s1, e1⟩ := J.base.slot c o q (J.ok.frf c hb) hb (fun z => nomatch z)
    obtain ⟨s2, e2⟩ := I.base.slot c _ e1 (I.ok.frf c hb') hb' (nfp c o q)
    obtain ⟨s3, e3⟩ := sl c hb' _ e2
    obtain ⟨s4, e4⟩ := u4 c _ e3 (by intro vs z; exact hd vs z)
    have e5 := (sb.2 c (fun z => cfr (z ▸ hb'))).trans e4
    obtain ⟨s6, e6⟩ := u6 c _ e5 (by intro vs z; exact hd vs z)
    obtain ⟨s7, e7⟩ := u7 c _ e6 (by intro vs z; exact hd vs z)
    exact ⟨s7, e7⟩
end
end L2
set_option Elab.async false
set_option linter.all false
set_option maxRecDepth 100000
set_option maxHeartbeats 4000000
namespace PySem
open PySem PySem.Spec PyProof.Rows PySem.Builtin
section
variable {prog : Program} {w : World} {A : Around} {E : Value → Shared → Prop} {env : Env}
variable {nm q : Str} {C N : Addr} {bs bm : List Value} {hdct : Bool} {sn : List Str} {sub : List Value} {ab : Bool} {col : Option Bool} {dd : Option Addr} {k0 k1 k2 k3 k5 : Option Value} {newId : String}
theorem unchain_entry : entryFor table "proto.unchain" = some Builtin.«proto.unchain» := entryFor_of_fast (by kernel_rfl)
theorem raiseNew_some {α : Type} {e hx : Addr} {oh ox : Obj} {hs xs : Array Value} {s : Shared} {Q : α → Shared → Prop} (hh : A.handled = some (.ref hx)) (ne : hx ≠ e) (gh : s.heap.get? hx = some oh) (gd : oh.data = .fields hs) (g2 : hs[2]? = some .none)
    (gx : s.heap.get? e = some ox) (gxd : ox.data = .fields xs) (hsz : 2 < xs.size) (h : E (.ref e) { s with heap := s.heap.update e (Obj.mapFields (·.setIfInBounds 2 (.ref hx))) }) : wpAny (model prog w) A (raiseNew (.ref e) : Sem α) Q E s := by
  unfold raiseNew
  refine wpAny_bind (wpAny_handled ?_)
  rw [hh]
  dsimp only
  rw [if_pos (by simpa using ne)]
  refine wpAny_bind (wpAny_holding (wpAny_runValue (codeAny_builtin unchain_entry ?_)))
  show wpAny _ _ (field (.ref hx) 2 >>= _) _ _ s
  refine wpAny_bind (wpAny_field gh gd g2 ?_)
  rw [if_pos (by rfl)]
  refine wpAny_pure ?_
  show wpAny _ _ (do updateField e 2 (Value.ref hx); throw (Value.ref e)) _ _ s
  refine wpAny_bind ?_
  have z := wpAny_setField (M := model prog w) (A := A) (E := E) (Q := fun _ s' => wpAny (model prog w) A (throw (Value.ref e) : Sem α) Q E s') gx gxd hsz (x := .ref hx) (wpAny_throw h)
  exact z
theorem raiseStmt_from {s : Shared} {x c : Sem Value} {hx : Addr} {Q : Flow → Shared → Prop} (hbase : bm.contains (.type "BaseException") = true) (hh : A.handled = some (.ref hx)) (hc : ∀ (Q : Value → Shared → Prop) (s : Shared), Q .none s → wpAny (model prog w) A c Q E s)
    (h : wpAny (model prog w) A x (fun v s₁ => ∃ e t oh hs, v = .ref e ∧ s₁.heap.get? C = some (excClassObj nm q C N bs bm hdct sn sub ab col dd k0 k1 k2 k3 k5 newId) ∧
      s₁.heap.get? e = some { cls := .ref C, data := .fields #[.ref t, .none, .none, .none, .bool false, .none] } ∧ hx ≠ e ∧ s₁.heap.get? hx = some oh ∧ oh.data = .fields hs ∧ hs[2]? = some .none ∧
      ∀ h', (∀ b, b ≠ e → h'.get? b = s₁.heap.get? b) → h'.get? e = some { cls := .ref C, data := .fields #[.ref t, .none, .ref hx, .none, .bool true, .none] } → E (.ref e) { s₁ with heap := h' }) E s) :
    wpAny (model prog w) A (raiseStmt env (some x) (some c)) Q E s := by
  have hcB : (Value.ref C :: bm).contains (.type "BaseException") = true := by rw [List.contains_cons, hbase, Bool.or_true]
  unfold raiseStmt
  refine wpAny_bind (wpAny_mono h (fun v s₁ h₁ => ?_) fun _ _ x => x)
  obtain ⟨e, t, oh, hs, rfl, hC, he, ne, gh, gd, g2, hE⟩ := h₁
  obtain ⟨hp, g, d, tk, os⟩ := s₁
  refine wpAny_bind (wpAny_holding (hc _ _ (wpAny_bind (wpAny_pure ?_))))
  dsimp only
  repeat (first | with_reducible refine wpAny_loadPart_at he ?_ | with_reducible refine wpAny_loadPart_at hC ?_ | (with_reducible refine wpAny_isSubtype_exc hC ?_; rw [hcB]) | wp_step)
  have hC : hp.get? C = some (excClassObj nm q C N bs bm hdct sn sub ab col dd k0 k1 k2 k3 k5 newId) := hC
  have he : hp.get? e = some { cls := .ref C, data := .fields #[.ref t, .none, .none, .none, .bool false, .none] } := he
  have nCe : C ≠ e := fun z => by
    rw [z, he] at hC
    cases hC
  have o2 : ∀ b, b ≠ e → ((hp.update e (Obj.mapFields fun x => x.setIfInBounds 3 Value.none)).update e (Obj.mapFields fun x => x.setIfInBounds 4 (Value.bool true))).get? b = hp.get? b := fun b hb => by
    rw [Heap.get?_update_other _ _ (Ne.symm hb), Heap.get?_update_other _ _ (Ne.symm hb)]
  have he2 : ((hp.update e (Obj.mapFields fun x => x.setIfInBounds 3 Value.none)).update e (Obj.mapFields fun x => x.setIfInBounds 4 (Value.bool true))).get? e = some { cls := .ref C, data := .fields #[.ref t, .none, .none, .none, .bool true, .none] } := by
    rw [Heap.get?_update_self _ (Heap.get?_update_self _ he rfl) rfl]
    rfl
  have hC2 := (o2 C nCe).trans hC
  have gh2 := (o2 hx ne).trans gh
  generalize (hp.update e (Obj.mapFields fun x => x.setIfInBounds 3 Value.none)).update e (Obj.mapFields fun x => x.setIfInBounds 4 (Value.bool true)) = hp2 at *
  refine wpAny_loadPart_at hC2 ?_
  refine wpAny_pure ?_
  rw [if_pos (by rfl)]
  refine wpAny_pure ?_
  unfold setFlight
  refine wpAny_bind (wpAny_bind (wpAny_field he2 rfl (x := .none) rfl ?_))
  rw [if_neg (by simp)]
  refine wpAny_pure (raiseNew_some hh ne gh2 gd g2 he2 rfl (by simp) ?_)
  refine hE _ (fun b hb => ?_) ?_
  · rw [Heap.get?_update_other _ _ (Ne.symm hb)]
    exact o2 b hb
  · rw [Heap.get?_update_self _ he2 rfl]
    rfl
end
structure Heap.MadeCtx (h h' : Heap) (e : Addr) (cls : Value) (hx : Addr) : Prop where
  keeps : ∀ b o, h.get? b = some o → h'.get? b = some o
  new : h.get? e = none
  there : ∃ t, h'.get? e = some { cls := cls, data := .fields #[.ref t, .none, .ref hx, .none, .bool true, .none] }
section
variable {prog : Program} {w : World} {A : Around} {E : Value → Shared → Prop} {s : Shared} {env : Env}
variable {nm q : Str} {C N : Addr} {bs bm bmB : List Value} {hdct : Bool} {sn : List Str} {sub : List Value} {ab : Bool} {col : Option Bool} {dd : Option Addr} {k0 k1 k2 k3 k5 : Option Value} {B newId initId : String}
theorem Raise_from (F : ExcBaseFacts B newId initId bmB) {mN : Str → Option Value} {x : Str} {np cpos pos p2 : Pos} {j} {args : List Expr} {hx : Addr} {Q : Flow → Shared → Prop}
    (hbase : bm.contains (.type "BaseException") = true) (hh : A.handled = some (.ref hx)) (hplain : (backTo cpos (starEach args env)).any (·.1) = false) (hni : mN "__init__" = none)
    (h : wpAny (model prog w) A (eval (.Name x np) env) (fun f s₁ => f = .ref C ∧ wpAny (model prog w) A (evalArgs (.ref C) true (backTo cpos (starEach args env)) [])
      (fun a s₂ => a.kw = [] ∧ a.pos.length ≤ sizeLine ∧ s₂.heap.get? C = some (excClassObj nm q C N bs bm hdct sn sub ab col dd k0 k1 k2 k3 k5 newId) ∧ s₂.heap.Ns N mN ∧ OwnTail s₂.heap bmB bm ∧
        (∃ oh hs, s₂.heap.get? hx = some oh ∧ oh.data = .fields hs ∧ hs[2]? = some .none) ∧ ∀ h' e, Heap.MadeCtx s₂.heap h' e (.ref C) hx → E (.ref e) { s₂ with heap := h' }) E s₁) E s) :
    wpAny (model prog w) A (exec (.Raise (some (.Call (.Name x np) args [] cpos)) (some (.Constant .none j p2)) pos) env) Q E s := by
  rw [arm_exec_Raise]
  have hcn : ∀ (Q' : Value → Shared → Prop) (s' : Shared), Q' .none s' → wpAny (model prog w) A (do let v ← eval (.Constant .none j p2) env; standAt pos; pure v) Q' E s' := fun Q' s' hq => wpAny_bind (PyProof.Rows.Constant_none (wpAny_bind (wpAny_standAt (wpAny_pure hq))))
  refine wpAny_bind (wpAny_standAt (raiseStmt_from (C := C) (nm := nm) (q := q) (N := N) (bs := bs) (bm := bm) (hdct := hdct) (sn := sn) (sub := sub) (ab := ab) (col := col) (dd := dd) (k0 := k0) (k1 := k1) (k2 := k2) (k3 := k3) (k5 := k5) (newId := newId) hbase hh hcn (wpAny_bind (wpAny_mono (wpAny_Call_ofName (wpAny_mono h (fun f s1 z1 => ?_) fun _ _ y => y)) (fun v s3 z3 => wpAny_bind (wpAny_standAt (wpAny_pure z3))) fun _ _ y => y))))
  obtain ⟨rfl, z1⟩ := z1
  unfold callWith
  refine wpAny_bind (wpAny_holding (wpAny_mono z1 (fun a s2 z2 => wpAny_bind (wpAny_standAt ?_)) fun _ _ y => y))
  obtain ⟨ap, ak⟩ := a
  obtain ⟨hkw, hlen, hC, hn, T, ⟨oh, hs, gh, gd, g2⟩, z2⟩ := z2
  obtain rfl : ak = [] := hkw
  obtain ⟨hp, g, d, tk, os⟩ := s2
  simp only [hplain]
  refine wpAny_bind (wpAny_keeperOf_exc hC ?_)
  refine wpAny_bind (wpAny_call_exc_subT (hrest := hlen) F T hC hn hni fun h' e hm => wpAny_bind (wpAny_holding (wpAny_point (wpAny_pure ?_))))
  obtain ⟨t, ht, _, _⟩ := hm.there
  have ne : hx ≠ e := fun z => by
    have z1 := hm.new
    have z2 : hp.get? hx = some oh := gh
    rw [z] at z2
    rw [z2] at z1
    cases z1
  refine ⟨e, t, oh, hs, rfl, hm.keeps _ _ hC, ht, ne, hm.keeps _ _ gh, gd, g2, fun h2 k2 e2 => z2 h2 e ⟨fun b o hb => ?_, hm.new, t, e2⟩⟩
  have nb : b ≠ e := fun z => by
    have z1 := hm.new
    have z2 : hp.get? b = some o := hb
    rw [z] at z2
    rw [z2] at z1
    cases z1
  rw [k2 b nb]
  exact hm.keeps b o hb
end
end PySem
namespace L2
open PySem PySem.Spec PyProof.Rows
def tTryFrom (K : PySem.W.Frag) (C Dc : Addr) (XE : XS) (tb : TryB → XS → TS) (ta : TA) : TS := fun D σ H => ∀ b : TryB,
  tb b (fun σ' cls o H' => PySem.W.exmOne K cls (.ref C) = some true ∧ o = none ∧ ta σ' H' fun vs H1 => vs.length ≤ sizeLine ∧ XE σ' (.ref Dc) (some 0) H1) D σ H
theorem ps_tryFrom {X : Cx} {XE : XS} {body : List Stmt} {cn dn : Str} {np dp cpos rpos hpos pos p2 : Pos} {j} {e : Expr} {es : List Expr} {C Dc : Addr} {tb : TryB → XS → TS} {ta : TA} (hst : X.stack = X.env :: X.outer) (hfr : X.env.frame = some X.env.locals)
    (hb : ∀ b XE', PassesS (CX1 X.prog X.w) (X.tryIn b) XE' → PSs (X.tryIn b) body (tb b XE')) (hP : PassesS (CX1 X.prog X.w) X XE) (hg : Gl X cn) (hm : X.mg cn = some (.ref C)) (hD : ErrCls X.K Dc) (hgd : Gl X dn) (hmd : X.mg dn = some (.ref Dc))
    (ha : ∀ x, PA (X.suite x) (e :: es) ta) (hex : X.ex = [] := by rfl) (hdb : (cn == ("__debug__" : Str)) = false := by decide) (hdb2 : (dn == ("__debug__" : Str)) = false := by decide)
    (hse : starEach (e :: es) X.env = (false, eval e X.env) :: starEach es X.env := by rfl) (hpl : (backTo cpos (starEach es X.env)).any (·.1) = false := by rfl) :
    PS X (.Try body [.ExceptHandler (some (.Name cn np)) none [.Raise (some (.Call (.Name dn dp) (e :: es) [] cpos)) (some (.Constant .none j p2)) rpos] hpos] [] [] pos) (tTryFrom X.K C Dc XE tb ta) := by
  intro pins s σ H D I h
  refine wpAny_Try_except ?_
  let E' : Value → Shared → Prop := fun y s₁ => wpAny (model X.prog X.w) X.A (noteFrame y X.env) (fun _ s₂ => wpAny (model X.prog X.w) X.A (setFlight y none) (fun _ s₃ =>
    wpAny (model X.prog X.w) X.A (handleBy y X.env [.ExceptHandler (some (.Name cn np)) none [.Raise (some (.Call (.Name dn dp) (e :: es) [] cpos)) (some (.Constant .none j p2)) rpos] hpos]) (SP X pins D) X.xe s₃) X.xe s₂) X.xe s₁
  let XB : XS := fun σ' cls o H' => PySem.W.exmOne X.K cls (.ref C) = some true ∧ o = none ∧ ta σ' H' fun vs H1 => vs.length ≤ sizeLine ∧ XE σ' (.ref Dc) (some 0) H1
  have hPB : PassesS (CX1 X.prog X.w) (X.tryIn ⟨pins, E'⟩) XB := fun pins' σ' H1 s1 y s' I1 q => by
    obtain ⟨x, cls, a0, oc, B, H', rfl, ho, hbr, fl, u, ok, sl, hmt, hoc, hta⟩ := q
    subst hoc
    have I1' : Inv X pins σ' H1 s1 := I1.untry I.ok
    have fl' : Fly B (X.env :: X.outer) x cls a0 none s'.heap := by rw [← hst]; exact fl
    show wpAny (model X.prog X.w) X.A (noteFrame (.ref x) X.env) _ _ _
    refine noteT (by rw [I.ok.frames, hst]) hfr fl' fun h4 k4 _ u4 => flightT (s := { s' with heap := h4 }) none k4 fun h5 k5 u5 _ => ?_
    have k5' : Fly B X.stack x cls a0 none h5 := by rw [hst]; exact k5
    have sl5 : ∀ b ∈ frs X.stack, ∀ o, s1.heap.get? b = some o → ∃ sl, h5.get? b = some { o with slots := sl } := fun b hb o q => by
      obtain ⟨s2, e2⟩ := sl b hb o q
      obtain ⟨_, o', e', hd⟩ := fl.2.2.1.mem hb
      rw [e2] at e'; cases e'
      obtain ⟨s3, e3⟩ := (u4.trans u5) b _ e2 (by intro vs z; exact hd vs z)
      exact ⟨s3, e3⟩
    obtain ⟨hx', _, J0⟩ := land (s' := { s' with heap := h5 }) I1' ho hbr k5' u ok sl5
    refine wpAny_handleBy_cons (codeAny_handlers_test ?_) (by intro q; cases q)
    refine ld_glob (X := X.suite x) (J0.suite x) hg hm ?_ hdb
    obtain ⟨ob, hob, hobc⟩ := k5.there
    have LT : PySem.W.Looks (model X.prog X.w) h5 (typeOf (.ref x)) cls := hobc ▸ (PySem.W.Looks.ld hob).andThen .now
    refine (PySem.W.exm_one (M := model X.prog X.w) J0.kIn LT hmt).here ?_
    rw [if_pos rfl]
    refine codeAny_handlers_suite ?_
    refine flightT (s := { s' with heap := h5 }) none k5' fun h6 k6 u6 _ => ?_
    have sl6 : ∀ b ∈ frs X.stack, ∀ o, s1.heap.get? b = some o → ∃ sl, h6.get? b = some { o with slots := sl } := fun b hb o q => by
      obtain ⟨s2, e2⟩ := sl5 b hb o q
      obtain ⟨_, o', e', hd⟩ := k5'.2.2.1.mem hb
      rw [e2] at e'; cases e'
      obtain ⟨s3, e3⟩ := u6 b _ e2 (by intro vs z; exact hd vs z)
      exact ⟨s3, e3⟩
    obtain ⟨_, _, J6⟩ := land (s' := { s' with heap := h6 }) I1' ho hbr k6 u ok sl6
    obtain ⟨_, _, f3, _, ox, xs, tb', ob', ys, gx, gc, gd, y0, y1, y2, _⟩ := id k6
    have nloc : x ≠ X.env.locals := fun z => by
      obtain ⟨m, ⟨o, es', ep, go, dd, _⟩, _⟩ := id J6.loc
      rw [← z] at go
      have go : h6.get? x = some o := go
      rw [gx] at go
      cases go
      rw [gd] at dd
      cases dd
    have nfs : x ∉ X.fs := fun z => by
      have z' : x ∈ frs X.stack := by
        rw [hst]
        unfold frs
        rw [List.filterMap_cons, hfr]
        exact List.mem_cons_of_mem _ z
      obtain ⟨_, o, go, hn⟩ := f3.mem z'
      rw [gx] at go
      cases go
      exact hn xs gd
    have J6p : Inv X (pins ++ [(x, ox)]) σ' H' { s' with heap := h6 } := J6.pins_of fun p hp => by
      rcases List.mem_append.mp hp with hp | hp
      · exact J6.pin p (List.mem_append_right _ hp)
      · have e : p = (x, ox) := by simpa using hp
        subst e
        exact ⟨gx, hx', nloc, nfs, fun v z => by rw [gd] at z; cases z⟩
    obtain ⟨tl, Na, nm, q, bs, hdct, sn, sub, ab, col, dd, k0, k1, k2, k3, k5, mN, hCo, hN, hni, T⟩ := ownObj_of_in I.ok.mod.kin hD
    refine wpAny_execs_cons (Raise_from (hx := x) (C := Dc) (nm := nm) (q := q) (N := Na) (bs := bs) (bm := tl) (hdct := hdct) (sn := sn) (sub := sub) (ab := ab) (col := col) (dd := dd) (k0 := k0) (k1 := k1) (k2 := k2) (k3 := k3) (k5 := k5)
      PySem.F.excBase_ValueError (mN := mN) (T.hasType PySem.F.excBase_ValueError.hasBase) rfl (by rw [hse]; show (false || (backTo cpos (starEach es X.env)).any (·.1)) = false; rw [hpl]; rfl) hni ?_)
    refine ld_glob (X := X.suite x) (J6p.suite x) hgd hmd ⟨rfl, ?_⟩ hdb2
    have hA := ha x cpos _ _ σ' H' _ (J6p.suite x) hta
    have hse' : starEach (e :: es) (X.suite x).env = (false, eval e (X.suite x).env) :: starEach es (X.suite x).env := hse
    rw [hse'] at hA
    rw [hse]
    refine Calls.evalArgs_plain (wpAny_mono hA (fun us s7 ⟨vs, H7, I7, r7, hl, he7⟩ => ?_) fun _ _ z => z.elim)
    have kb := I7.bk
    have gx7 : s7.heap.get? x = some ox := (I7.pin (x, ox) (List.mem_append_right _ (List.mem_append_right _ (by simp)))).1
    refine ⟨rfl, by rw [← r7.length]; exact hl, kb _ _ hCo, hN.keeps kb, T.keeps kb, ⟨ox, xs, gx7, gd, y2 rfl⟩, fun h8 e2 mc => ?_⟩
    have I8 : Inv X pins σ' H7 s7 := (I7.unsuite I.ok).unpinned
    obtain ⟨ta2, ge2⟩ := mc.there
    have hin : ∀ env ∈ X.stack, ∀ a, env.frame = some a → a ∈ frs X.stack := fun env he a hf => List.mem_filterMap.mpr ⟨env, he, hf⟩
    have hl7 : s7.heap.FunFrames (noFr s7.heap X.stack) X.stack := PySem.W.funFrames_hide I8.stack hin
    have fresh : (noFr s7.heap X.stack).get? e2 = none := by
      cases hq : (noFr s7.heap X.stack).get? e2 with
      | none => rfl
      | some o' =>
        have := of_noFr hq
        rw [mc.new] at this
        cases this
    have hl8 : h8.FunFrames (noFr s7.heap X.stack) (X.env :: X.outer) := by
      rw [← hst]
      exact hl7.of_keeps fun b o hb _ => ⟨o, mc.keeps b o hb, rfl⟩
    show wpAny (model X.prog X.w) (X.suite x).A (noteFrame (.ref e2) X.env) _ _ _
    refine firstT (o := some 0) (s := { s7 with heap := h8 }) (by show X.A.frames = _; rw [I.ok.frames, hst]) hfr hl8 (fun b o q => mc.keeps b o (of_noFr q)) fresh ge2 rfl rfl rfl (fun z => nomatch z) fun h9 k9 u9 => ?_
    obtain ⟨_, _, _, _, oy, zs, tz, _, _, gy, _, gyd, _, gy1, _⟩ := id k9
    show wpAny (model X.prog X.w) X.A (do
      if (← field (.ref e2) 1) == .none then unsupported "frame.own-activation:exception-without-traceback"
      setFlight (.ref e2) X.env.frame) _ _ { s7 with heap := h9 }
    refine wpAny_bind (wpAny_field gy gyd gy1 ?_)
    rw [if_neg (by simp)]
    refine flightT (s := { s7 with heap := h9 }) X.env.frame k9 fun h10 k10 u10 _ => ?_
    have k11 : Fly (noFr s7.heap X.stack) X.stack e2 (.ref Dc) (.ref ta2) (some 0) h10 := by
      generalize noFr s7.heap X.stack = B9 at k10 ⊢
      rw [hst]
      exact k10
    refine hP pins σ' H7 s7 (.ref e2) { s7 with heap := h10 } I8 ⟨e2, .ref Dc, _, some 0, noFr s7.heap X.stack, H7, rfl, rfl, I8.bare, k11, ⟨fun b o q _ hb => noFr_get q hb, fun _ _ _ n => n, fun b o q hb => ⟨o, noFr_get q hb⟩, fun _ _ q => q, fun _ _ _ q => q, fun b ps q => ⟨#[], by simpa using q⟩⟩, I8.hokB, fun b hb o q => ?_, he7⟩
    obtain ⟨_, o', e', hd⟩ := hl7.mem hb
    rw [q] at e'; cases e'
    exact (u9.trans u10) b o (mc.keeps b o q) (by intro vs z; exact hd vs z)
  refine wpAny_mono (hb ⟨pins, E'⟩ XB hPB [] s σ H D (I.tryIn E') (h ⟨pins, E'⟩)) (fun f s8 q8 => ?_) fun _ _ z => z
  cases f with
  | next => obtain ⟨σ8, H8, J8, q⟩ := q8; exact wpAny_execs_nil ⟨σ8, H8, J8.untry I.ok, q⟩
  | brk => obtain ⟨σ8, H8, J8, q⟩ := q8; exact ⟨σ8, H8, J8.untry I.ok, q⟩
  | cont => obtain ⟨σ8, H8, J8, q⟩ := q8; exact ⟨σ8, H8, J8.untry I.ok, q⟩
  | ret u => obtain ⟨v, σ8, H8, J8, rv, q⟩ := q8; exact ⟨v, σ8, H8, J8.untry I.ok, rv, q⟩
end L2
set_option Elab.async false
set_option linter.all false
set_option maxRecDepth 100000
set_option maxHeartbeats 4000000
namespace L2
open PySem PySem.Spec PyProof.Rows
section
variable {κ : Type} [DecidableEq κ]
def valV (kvs : List (κ × V)) (k : κ) : Option V := (kvs.find? fun kv => decide (kv.1 = k)).map (·.2)
def putK (kvs : List (κ × V)) (k : κ) (v : V) : List (κ × V) :=
  if (kvs.any fun kv => decide (kv.1 = k)) = true then kvs.map (fun kv => if kv.1 = k then (kv.1, v) else kv) else kvs ++ [(k, v)]
def dropK (kvs : List (κ × V)) (k : κ) : List (κ × V) := kvs.filter fun kv => decide (kv.1 ≠ k)
theorem valV_pos {p : κ × V} {r : List (κ × V)} {k : κ} (e : p.1 = k) : valV (p :: r) k = some p.2 := by simp [valV, List.find?_cons, e]
theorem valV_neg {p : κ × V} {r : List (κ × V)} {k : κ} (e : ¬ p.1 = k) : valV (p :: r) k = valV r k := by simp [valV, List.find?_cons, e]
theorem valV_any (k : κ) : ∀ kvs : List (κ × V), (kvs.any fun kv => decide (kv.1 = k)) = (valV kvs k).isSome
  | [] => rfl
  | p :: r => by
    rw [List.any_cons]
    by_cases e : p.1 = k
    · simp only [valV_pos e, decide_eq_true e, Bool.true_or, Option.isSome_some]
    · rw [valV_neg e, decide_eq_false e, Bool.false_or]; exact valV_any k r
theorem RelO.isSome_eq {o : Option V} {u : Option Value} (r : RelO o u) : o.isSome = u.isSome := by
  cases o with
  | none => cases u with
    | none => rfl
    | some _ => exact (show False from r).elim
  | some _ => cases u with
    | none => exact (show False from r).elim
    | some _ => rfl
theorem RelO.getD {o : Option V} {u : Option Value} {d : V} {d' : Value} (r : RelO o u) (rd : RelV d d') : RelV (o.getD d) (u.getD d') := by
  cases o with
  | none => cases u with
    | none => exact rd
    | some _ => exact (show False from r).elim
  | some _ => cases u with
    | none => exact (show False from r).elim
    | some _ => exact r
theorem KV.val {kvs : List (κ × V)} {vs : List (κ × Value)} (r : KV kvs vs) (k : κ) : RelO (valV kvs k) (valueAt vs k) := by
  unfold KV at r
  induction r with
  | nil => exact True.intro
  | @cons p q ps qs h t ih =>
    obtain ⟨h1, h2⟩ := h
    by_cases e : p.1 = k
    · have e' : q.1 = k := h1.symm.trans e
      have b : valueAt (q :: qs) k = some q.2 := by simp [valueAt, List.find?_cons, e']
      rw [valV_pos e, b]; exact h2
    · have e' : ¬ q.1 = k := fun z => e (h1.trans z)
      have b : valueAt (q :: qs) k = valueAt qs k := by simp [valueAt, List.find?_cons, e']
      rw [valV_neg e, b]; exact ih
theorem KV.any {kvs : List (κ × V)} {vs : List (κ × Value)} (r : KV kvs vs) (k : κ) : (kvs.any fun kv => decide (kv.1 = k)) = vs.any fun kv => decide (kv.1 = k) := by
  unfold KV at r
  induction r with
  | nil => rfl
  | cons h t ih => rw [List.any_cons, List.any_cons, ih, h.1]
theorem KV.repl {kvs : List (κ × V)} {vs : List (κ × Value)} (r : KV kvs vs) (k : κ) {y : V} {u : Value} (ry : RelV y u) :
    KV (kvs.map fun kv => if kv.1 = k then (kv.1, y) else kv) (vs.map fun kv => if kv.1 = k then (kv.1, u) else kv) := by
  unfold KV at r ⊢
  induction r with
  | nil => exact .nil
  | @cons p q ps qs h t ih =>
    rw [List.map_cons, List.map_cons]
    refine .cons ?_ ih
    obtain ⟨h1, h2⟩ := h
    by_cases e : p.1 = k
    · rw [if_pos e, if_pos (h1.symm.trans e)]; exact ⟨h1, ry⟩
    · rw [if_neg e, if_neg (fun z => e (h1.trans z))]; exact ⟨h1, h2⟩
theorem KV.put {kvs : List (κ × V)} {vs : List (κ × Value)} (r : KV kvs vs) (k : κ) {y : V} {u : Value} (ry : RelV y u) : KV (putK kvs k y) (stored vs k u) := by
  unfold putK stored
  rw [r.any k]
  by_cases e : (vs.any fun kv => decide (kv.1 = k)) = true
  · rw [if_pos e, if_pos e]; exact r.repl k ry
  · rw [if_neg e, if_neg e]; exact Paired.snoc r ⟨rfl, ry⟩
theorem KV.drop {kvs : List (κ × V)} {vs : List (κ × Value)} (r : KV kvs vs) (k : κ) : KV (dropK kvs k) (without vs k) := by
  unfold KV at r ⊢
  unfold dropK without
  induction r with
  | nil => exact .nil
  | @cons p q ps qs h t ih =>
    obtain ⟨h1, h2⟩ := h
    rw [List.filter_cons, List.filter_cons]
    by_cases e : p.1 = k
    · have a : ¬ decide (p.1 ≠ k) = true := by simp [e]
      have b : ¬ decide (q.1 ≠ k) = true := by simp [h1.symm.trans e]
      rw [if_neg a, if_neg b]; exact ih
    · have e' : ¬ q.1 = k := fun z => e (h1.trans z)
      have a : decide (p.1 ≠ k) = true := by simp [e]
      have b : decide (q.1 ≠ k) = true := by simp [e']
      rw [if_pos a, if_pos b]; exact .cons ⟨h1, h2⟩ ih
theorem KV.keys {kvs : List (κ × V)} {vs : List (κ × Value)} (r : KV kvs vs) : kvs.map (·.1) = vs.map (·.1) := by
  unfold KV at r
  induction r with
  | nil => rfl
  | cons h t ih => rw [List.map_cons, List.map_cons, ih, h.1]
theorem KV.length {kvs : List (κ × V)} {vs : List (κ × Value)} (r : KV kvs vs) : kvs.length = vs.length := Paired.length r
end
abbrev KT (H : Hp) : List (List Key × V) → List (List Key × Addr × Value) → Prop := Paired fun p q => p.1 = q.1 ∧ H q.2.1 = some (.tup (p.1.map kV)) ∧ RelV p.2 q.2.2
theorem KT.val {H : Hp} {kvs : List (List Key × V)} {xs : List (List Key × Addr × Value)} (r : KT H kvs xs) (k : List Key) : RelO (valV kvs k) ((atKey xs k).map (·.2)) := by
  induction r with
  | nil => exact True.intro
  | @cons p q ps qs h t ih =>
    obtain ⟨h1, _, h2⟩ := h
    by_cases e : p.1 = k
    · have e' : q.1 = k := h1.symm.trans e
      have b : atKey (q :: qs) k = some q.2 := by simp [atKey, List.find?_cons, e']
      rw [valV_pos e, b]; exact h2
    · have e' : ¬ q.1 = k := fun z => e (h1.trans z)
      have b : atKey (q :: qs) k = atKey qs k := by simp [atKey, List.find?_cons, e']
      rw [valV_neg e, b]; exact ih
theorem KT.repl {H : Hp} {kvs : List (List Key × V)} {xs : List (List Key × Addr × Value)} (r : KT H kvs xs) (k : List Key) {y : V} {u : Value} (ry : RelV y u) :
    KT H (kvs.map fun kv => if kv.1 = k then (kv.1, y) else kv) (xs.map (putAt k u)) := by
  induction r with
  | nil => exact .nil
  | @cons p q ps qs h t ih =>
    rw [List.map_cons, List.map_cons]
    refine .cons ?_ ih
    obtain ⟨h1, h2, h3⟩ := h
    unfold putAt
    by_cases e : p.1 = k
    · rw [if_pos e, if_pos (h1.symm.trans e)]; exact ⟨h1, h2, ry⟩
    · rw [if_neg e, if_neg (fun z => e (h1.trans z))]; exact ⟨h1, h2, h3⟩
theorem KT.put {H : Hp} {kvs : List (List Key × V)} {xs : List (List Key × Addr × Value)} (r : KT H kvs xs) (k : List Key) {b : Addr} {y : V} {u : Value} (hb : H b = some (.tup (k.map kV))) (ry : RelV y u) :
    KT H (putK kvs k y) (storedH xs k b u) := by
  have e : (kvs.any fun kv => decide (kv.1 = k)) = (atKey xs k).isSome := by
    rw [valV_any, (r.val k).isSome_eq, Option.isSome_map]
  unfold putK storedH
  rw [e]
  by_cases q : (atKey xs k).isSome = true
  · rw [if_pos q, if_pos q]; exact r.repl k ry
  · rw [if_neg q, if_neg q]; exact Paired.snoc r ⟨rfl, hb, ry⟩
theorem KT.keeps {H H' : Hp} {kvs : List (List Key × V)} {xs : List (List Key × Addr × Value)} (r : KT H kvs xs) (ht : ∀ b ys, H b = some (.tup ys) → H' b = some (.tup ys)) : KT H' kvs xs :=
  Paired.mapP r fun _ _ z => ⟨z.1, ht _ _ z.2.1, z.2.2⟩
section
variable {P : Program} {w : World} {H : Hp} {h : Heap} {a : Addr}
end
def DGet (H : Hp) (a : Addr) (y : V) (r : Option V) : Prop :=
  (∃ kvs k, Rd H a (.dK kvs) ∧ y = kV k ∧ r = valV kvs k) ∨ ∃ kvs k b, Rd H a (.dT kvs) ∧ y = .ref b ∧ H b = some (.tup (k.map kV)) ∧ r = valV kvs k
def DPut (H : Hp) (a : Addr) (y v : V) (H' : Hp) : Prop :=
  (∃ kvs k, H a = some (.dK kvs) ∧ y = kV k ∧ kvs.length < sizeLine ∧ H' = upd H a (.dK (putK kvs k v))) ∨
  ∃ kvs k b, H a = some (.dT kvs) ∧ y = .ref b ∧ H b = some (.tup (k.map kV)) ∧ kvs.length < sizeLine ∧ H' = upd H a (.dT (putK kvs k v))
theorem DGet.k {H : Hp} {a : Addr} {kvs : List (Key × V)} {k : Key} (e : H a = some (.dK kvs)) : DGet H a (kV k) (valV kvs k) := .inl ⟨kvs, k, .inl e, rfl, rfl⟩
theorem DGet.t {H : Hp} {a b : Addr} {kvs : List (List Key × V)} {k : List Key} (e : H a = some (.dT kvs)) (eb : H b = some (.tup (k.map kV))) : DGet H a (.ref b) (valV kvs k) := .inr ⟨kvs, k, b, .inl e, rfl, eb, rfl⟩
theorem DPut.k {H : Hp} {a : Addr} {kvs : List (Key × V)} {k : Key} {v : V} (e : H a = some (.dK kvs)) (hl : kvs.length < sizeLine) : DPut H a (kV k) v (upd H a (.dK (putK kvs k v))) := .inl ⟨kvs, k, e, rfl, hl, rfl⟩
theorem DPut.t {H : Hp} {a b : Addr} {kvs : List (List Key × V)} {k : List Key} {v : V} (e : H a = some (.dT kvs)) (eb : H b = some (.tup (k.map kV))) (hl : kvs.length < sizeLine) :
    DPut H a (.ref b) v (upd H a (.dT (putK kvs k v))) := .inr ⟨kvs, k, b, e, rfl, eb, hl, rfl⟩
section
variable {X : Cx} {pins : List (Addr × Obj)} {σ : St} {H : Hp} {s : Shared} {a : Addr} {y v : V} {u r : Value} {o : Option V} {A : Around} {E : Value → Shared → Prop}
end
section
variable {X : Cx} {pins : List (Addr × Obj)} {σ : St} {H : Hp} {s : Shared} {a : Addr} {kvs : List (Key × V)} {k : Key} {u : Value} {A : Around} {E : Value → Shared → Prop}
end
section
variable {X : Cx} {o i e value : Expr} {pos pos' tpos : Pos} {td ty tv : TE}
end
section
variable {X : Cx} {pos : Pos}
end
section
variable {X : Cx} {pins : List (Addr × Obj)} {σ : St} {H : Hp} {s : Shared} {a : Addr} {y d : V} {u r : Value} {o : Option V} {A : Around} {E : Value → Shared → Prop}
end
section
variable {X : Cx} {o e f : Expr} {apos cpos : Pos} {td ty tx : TE}
end
section
variable {X : Cx} {pins : List (Addr × Obj)} {σ : St} {H : Hp} {s : Shared} {a : Addr} {kvs : List (Key × V)} {A : Around} {E : Value → Shared → Prop}
end
section
variable {X : Cx} {pins : List (Addr × Obj)} {σ : St} {H : Hp} {s : Shared} {a : Addr} {y : V} {u : Value} {A : Around} {E : Value → Shared → Prop}
end
section
variable {X : Cx}
end
end L2
set_option Elab.async false
set_option linter.all false
set_option maxRecDepth 100000
set_option maxHeartbeats 4000000
namespace L2
open PySem PySem.Spec PyProof.Rows
section
variable {X : Cx}
end
end L2
set_option Elab.async false
set_option linter.all false
set_option maxRecDepth 100000
set_option maxHeartbeats 4000000
namespace L2
open PySem PySem.Spec PyProof.Rows
section
variable {X : Cx}
def Big (i : Int) : Prop := i.natAbs < 2 ^ 4000
def CMulB (i j : Int) : Prop := Big i ∧ Big j
def CDivB (i j : Int) : Prop := 0 < j ∧ Big j
theorem Big.log2 {j : Int} (h : Big j) : j.natAbs.log2 < 9000 := by
  by_cases e : j.natAbs = 0
  · rw [e]; decide
  · exact Nat.lt_of_lt_of_le ((Nat.log2_lt e).mpr h) (by decide)
theorem Big.bits {j : Int} (h : Big j) : Builtin.Int.intBits j ≤ 4000 := intBits_le_iff.mpr h
theorem op_mulB : OpR X (binaryOp .Mult) (rI CMulB fun i j => .int (i * j)) := opI fun _ _ _ _ _ _ _ hc q => mul_int q (IntMulOk.of_le hc.1.bits hc.2.bits (by decide))
theorem iop_mulB : OpR X (inplaceOp .Mult) (rI CMulB fun i j => .int (i * j)) := opI fun _ _ _ _ _ _ _ hc q => imul_int q (IntMulOk.of_le hc.1.bits hc.2.bits (by decide))
theorem op_fdivB : OpR X (binaryOp .FloorDiv) (rI CDivB fun i j => .int (i / j)) := opI fun i j _ _ _ _ _ hc q => by
  have h1 : (0 : Int) < j := hc.1
  exact floordiv_int (by omega) (by rw [Int.fdiv_eq_ediv_of_nonneg i (by omega)]; exact q) (.inl (PyProof.noPylong_of_log2 hc.2.log2))
end
end L2
set_option Elab.async false
set_option linter.all false
set_option maxRecDepth 100000
set_option maxHeartbeats 4000000
namespace L2
open PySem PySem.Spec PyProof.Rows
end L2
set_option Elab.async false
set_option linter.all false
set_option maxRecDepth 100000
set_option maxHeartbeats 4000000
namespace L2
open PySem PySem.Spec PyProof.Rows
theorem Vals.ints : ∀ {ns : List Int} {us : List Value}, Vals (ns.map V.int) us → ∃ xs : List (Int × Tok), us = xs.map (fun p => Value.int p.1 p.2) ∧ xs.map (·.1) = ns
  | [], _, .nil => ⟨[], rfl, rfl⟩
  | n :: _, _, .cons r t => by
    obtain ⟨k, rfl⟩ := r
    obtain ⟨xs, rfl, e⟩ := Vals.ints t
    exact ⟨(n, k) :: xs, rfl, by simp [e]⟩
section
variable {X : Cx}
theorem call_sum (hc : X.calm = true) : CallR X (.builtin "sum") (fun xs H Q => ∃ (p : Addr) (ns : List Int), xs = [.ref p] ∧ SqL X.K H p (ns.map V.int) ∧ Q (.int ns.sum) H) := by
  intro pins s σ H xs us Q I r h
  obtain ⟨p, ns, rfl, hq, q⟩ := h
  obtain ⟨u, rfl, ru⟩ := vals1 r
  cases ru
  obtain ⟨its, rv, pl, hz⟩ := I.list hq
  obtain ⟨ts, rfl, rfl⟩ := rv.ints
  have e : (ts.map fun p => Value.int p.1 p.2).toArray = intItems ts.toArray := by simp [intItems]
  refine sum_intListG (xs := ts.toArray) (I.ok.hd hc) (by rw [← e]; exact pl.isList) fun h' tk t' hk => ?_
  have e2 : preSum (numAt ts.toArray) ts.toArray.size = (ts.map (·.1)).sum := by
    rw [preSum_eq, List.take_of_length_le (by simp)]
  rw [e2]
  exact ⟨.int _, H, I.kept (t' := tk) hk, ⟨_, rfl⟩, q⟩
end
theorem Inv.turnedN {X : Cx} {pins : List (Addr × Obj)} {σ : St} {H : Hp} {s : Shared} {h' : Heap} {t' : Nat} {ch : List Addr} (I : Inv X pins σ H s) (hf : ∀ b ∈ ch, FpOk X pins H b) (k : ∀ b o, b ∉ ch → s.heap.get? b = some o → h'.get? b = some o) :
    Inv X pins σ H { s with heap := h', toks := t' } := by
  have nit : ∀ b u, H b = some u → b ∉ ch := fun b u e z => by rw [(hf b z).1] at e; cases e
  refine I.step (g' := s.gens) (d' := s.drawn) (ch := ch) (fun b hb => ⟨(hf b hb).2.2.2.1, (hf b hb).2.1, (hf b hb).2.2.2.2.1, (hf b hb).2.2.2.2.2⟩) (fun b o _ _ hc e _ => k b o hc e) (fun b o _ _ hc e _ => ⟨o.slots, k b o hc e⟩) (fun _ _ _ _ n => n)
    (fun b o hc e => ⟨o, k b o hc e⟩) (fun _ _ e => e) (fun _ _ _ e => e) (fun b ps e => ⟨#[], by rw [e]; simp⟩) (fun m hm => ?_) (fun b u e => ?_) I.bare
  · obtain ⟨o, es, ep, ho, r⟩ := hm
    exact ⟨o, es, ep, k _ o (fun z => (hf _ z).2.1 rfl) ho, r⟩
  · refine (I.hok b u e).stay (fun c v hc q => k c v ?_ q) (fun _ q => q) fun _ _ q => q
    rcases hc with z | z
    · rw [z]; exact nit b u e
    · exact nit c _ z
def Itz (K : PySem.W.Frag) (a b : Addr) : It :=
  ⟨fun i H => ∃ xs x ys y, SqL K H a xs ∧ xs[i]? = some x ∧ SqL K H b ys ∧ ys[i]? = some y, fun i H x H' => ∃ p u v, H p = none ∧ x = .ref p ∧ H' = upd H p (.tup [u, v]) ∧ (∀ xs, SqL K H a xs → xs[i]? = some u) ∧ ∀ ys, SqL K H b ys → ys[i]? = some v, fun i H => ∃ xs ys, SqL K H a xs ∧ SqL K H b ys ∧ (xs.length ≤ i ∨ ys.length ≤ i)⟩
theorem turn_zip {P : Program} {w : World} {K : PySem.W.Frag} {elts : List Expr} {x1} {tpos : Pos} (a b z TI TO i1 i2 : Addr) (D : ZipApart z TI TO i1 i2 a b) : Turn P w K (.Tuple elts x1 tpos) (Itz K a b) [z, TI, TO, i1, i2] z
    (fun i h => IsZip h z TI TO .none ∧ IsPair h TI (.ref i1) (.ref i2) ∧ (∃ p q, IsPair h TO p q) ∧ h.IsListIter i1 a i ∧ h.IsListIter i2 b i) where
  mem := by simp
  obj := fun i h ⟨hz, hTI, ⟨p, q, hTO⟩, h1, h2⟩ c hc => by
    have ec : c = z ∨ c = TI ∨ c = TO ∨ c = i1 ∨ c = i2 := by simpa using hc
    rcases ec with rfl | rfl | rfl | rfl | rfl
    · exact ⟨_, hz, fun v z => by cases z⟩
    · exact ⟨_, hTI, fun v z => by cases z⟩
    · exact ⟨_, hTO, fun v z => by cases z⟩
    · obtain ⟨o, e, c, d⟩ := h1
      exact ⟨o, e, fun v z => by rw [d] at z; cases z⟩
    · obtain ⟨o, e, c, d⟩ := h2
      exact ⟨o, e, fun v z => by rw [d] at z; cases z⟩
  keep := fun i h h' ⟨hz, hTI, ⟨p, q, hTO⟩, h1, h2⟩ k => ⟨k z (by simp) _ hz, k TI (by simp) _ hTI, ⟨p, q, k TO (by simp) _ hTO⟩, h1.at fun o e => k i1 (by simp) o e, h2.at fun o e => k i2 (by simp) o e⟩
  item := by
    intro X hP hw hK hc i pins s σ H E I hf st hg
    subst hP hw hK
    obtain ⟨hz, hTI, ⟨p0, q0, hTO⟩, h1, h2⟩ := st
    obtain ⟨xs, x, ys, y, hq1, hx, hq2, hy⟩ := hg
    obtain ⟨its1, rv1, p1, z1⟩ := I.list hq1
    obtain ⟨its2, rv2, p2, z2⟩ := I.list hq2
    obtain ⟨u, hu, ru⟩ := rv1.get hx
    obtain ⟨v, hv, rv⟩ := rv2.get hy
    have lt1 := Heap.lt_size hz
    have lt2 := Heap.lt_size hTI
    have lt3 := Heap.lt_size hTO
    have lt4 : i1 < s.heap.objs.size := by obtain ⟨o, e, _⟩ := id h1; exact Heap.lt_size e
    have lt5 : i2 < s.heap.objs.size := by obtain ⟨o, e, _⟩ := id h2; exact Heap.lt_size e
    refine wpAny_pyNext_zip_item D hz hTI hTO h1 h2 p1.isList p2.isList (x := u) (y := v) (by simpa using hu) (by simpa using hv) fun h1' hz1 hTO1 hi1 hi2 ht1 hs1 hk1 => ?_
    refine ⟨_, rfl, wpAny_letOwnedTupleGo_zip hz1 fun h2' hz2 hs2 => ?_⟩
    have hs2 : Heap.SameBut z h1' h2' := hs2
    have k2 : ∀ c o, c ∉ [z, TI, TO, i1, i2] → s.heap.get? c = some o → h2'.get? c = some o := fun c o hc q => by
      have hc : ¬ (c = z ∨ c = TI ∨ c = TO ∨ c = i1 ∨ c = i2) := by simpa using hc
      exact (hs2.2 c (fun e => hc (.inl e))).trans (hk1 c o (fun e => hc (.inl e)) (fun e => hc (.inr (.inr (.inl e)))) (fun e => hc (.inr (.inr (.inr (.inl e))))) (fun e => hc (.inr (.inr (.inr (.inr e))))) q)
    have hTI2 : IsPair h2' TI (.ref i1) (.ref i2) := (hs2.2 _ D.TIz).trans (hk1 _ _ D.TIz D.TITO D.TIi1 D.TIi2 hTI)
    have hTO2 : IsPair h2' TO u v := (hs2.2 _ D.TOz).trans hTO1
    have hi12 : h2'.IsListIter i1 a (i + 1) := hi1.at fun o e => (hs2.2 _ D.i1z).trans e
    have hi22 : h2'.IsListIter i2 b (i + 1) := hi2.at fun o e => (hs2.2 _ D.i2z).trans e
    have hp : H s.heap.objs.size = none := I.hok.fresh (Nat.le_refl _)
    have ht2 : h2'.get? s.heap.objs.size = some { cls := .type "tuple", data := .seq #[u, v] } := (hs2.2 _ (Nat.ne_of_gt lt1)).trans ht1
    have I2 : Inv X pins σ H { s with heap := h2', toks := s.toks } := I.turnedN (ch := [z, TI, TO, i1, i2]) hf k2
    have I3 : Inv X pins σ (upd H s.heap.objs.size (.tup [x, y])) { s with heap := h2', toks := s.toks } := by
      have ok3 : HOk X.prog X.w (upd H s.heap.objs.size (.tup [x, y])) h2' := I2.hok.track hp ⟨by show 2 ≤ sizeLine; decide, [u, v], .cons ru (.cons rv .nil), ⟨_, ht2, rfl, _, rfl⟩⟩
      refine I.step (g' := s.gens) (d' := s.drawn) (ch := [z, TI, TO, i1, i2]) (fun b hb => ⟨(hf b hb).2.2.2.1, (hf b hb).2.1, (hf b hb).2.2.2.2.1, (hf b hb).2.2.2.2.2⟩) (fun b o _ _ hc q _ => k2 b o hc q) (fun b o _ _ hc q _ => ⟨o.slots, k2 b o hc q⟩)
        (fun b o _ q n => by rw [upd_ne (Nat.ne_of_lt (Heap.lt_size q))]; exact n) (fun b o hc q => ⟨o, k2 b o hc q⟩) (fun b ys q => by rw [upd_ne (ne_of_none q hp)]; exact q) (fun b o v q => by rw [upd_ne (ne_of_none q hp)]; exact q)
        (fun b ps q => ⟨#[], by rw [upd_ne (ne_of_none q hp), q]; simp⟩) (fun m hm => ?_) ok3 I.bare
      obtain ⟨o, es, ep, ho, r⟩ := hm
      exact ⟨o, es, ep, k2 _ o (fun z => (hf _ z).2.1 rfl) ho, r⟩
    refine ⟨.ref s.heap.objs.size, _, I3, rfl, ⟨_, x, y, hp, rfl, rfl, fun ws hw => by rw [I.list_inj hw hq1]; exact hx, fun ws hw => by rw [I.list_inj hw hq2]; exact hy⟩, ⟨hz2, hTI2, ⟨_, _, hTO2⟩, hi12, hi22⟩, fun c hc => ?_⟩
    have ec : c = z ∨ c = TI ∨ c = TO ∨ c = i1 ∨ c = i2 := by simpa using hc
    have hb2 : c < s.heap.objs.size := by
      rcases ec with rfl | rfl | rfl | rfl | rfl <;> assumption
    rw [upd_ne (Nat.ne_of_lt hb2)]
    exact (hf c hc).1
  done := by
    intro X hP hw hK hc i pins s σ H E I hf st hg
    subst hP hw hK
    obtain ⟨hz, hTI, ⟨p0, q0, hTO⟩, h1, h2⟩ := st
    obtain ⟨xs, ys, hq1, hq2, hx⟩ := hg
    obtain ⟨its1, rv1, p1, z1⟩ := I.list hq1
    obtain ⟨its2, rv2, p2, z2⟩ := I.list hq2
    have l1 := rv1.length
    have l2 := rv2.length
    refine wpAny_pyNext_zip_end (I.ok.hd hc) D hz hTI hTO h1 h2 p1.isList p2.isList ?_ fun h' hk => ⟨rfl, ?_⟩
    · rcases hx with hx | hx
      · exact .inl (by simp; omega)
      · exact .inr (by simp; omega)
    · refine I.turnedN (t' := s.toks) (ch := [z, TI, TO, i1, i2]) hf fun c o hc q => ?_
      have hc : ¬ (c = z ∨ c = TI ∨ c = TO ∨ c = i1 ∨ c = i2) := by simpa using hc
      exact hk c o (fun e => hc (.inl e)) (fun e => hc (.inr (.inr (.inl e)))) (fun e => hc (.inr (.inr (.inr (.inl e))))) (fun e => hc (.inr (.inr (.inr (.inr e))))) q
  self := fun _ _ _ _ _ ⟨hz, _⟩ h => wpAny_pyIter_zip hz h
def iZip (K : PySem.W.Frag) (ta : TA) : TI := fun σ H R => ta σ H fun vs H1 => ∃ a b, vs = [.ref a, .ref b] ∧ (∃ xs, SqL K H1 a xs) ∧ (∃ ys, SqL K H1 b ys) ∧ R (Itz K a b) H1
theorem pi_zip {X : Cx} {a b : Expr} {ta : TA} {p pos : Pos} {elts : List Expr} {x1} {tpos : Pos} (hg : Gl X "zip") (hm : X.mg "zip" = none) (ha : PA X [a, b] ta)
    (hs : starEach (a :: [b]) X.env = (false, eval a X.env) :: starEach [b] X.env := by rfl) (hp : (backTo pos (starEach [b] X.env)).any (·.1) = false := by rfl) :
    PI X (.Tuple elts x1 tpos) (.Call (.Name "zip" p) [a, b] [] pos) (iZip X.K ta) := by
  intro pins s σ H R I h
  refine Call_ (ld_blt I hg hm boot_zip (PyProof.Rows.callWith_type1 (thn (ha pos pins s σ H _ I h) fun us s1 ⟨vs, H1, I1, r1, q1⟩ => ?_) hs hp))
  obtain ⟨l1, l2, e, ⟨xs, hq1⟩, ⟨ys, hq2⟩, q⟩ := q1
  subst e
  obtain ⟨u, v, rfl, ru, rv⟩ := vals2 r1
  cases ru
  cases rv
  obtain ⟨its1, rv1, p1, z1⟩ := I1.list hq1
  obtain ⟨its2, rv2, p2, z2⟩ := I1.list hq2
  have a1 : l1 < s1.heap.objs.size := by obtain ⟨_, e, _⟩ := p1.isList; exact Heap.lt_size e
  have a2 : l2 < s1.heap.objs.size := by obtain ⟨_, e, _⟩ := p2.isList; exact Heap.lt_size e
  refine call_zip_2 p1.isList p2.isList fun h' hz hTI hTO hi1 hi2 hsz hk => ?_
  have I2 : Inv X pins σ H1 { s1 with heap := h' } := I1.kept (t' := s1.toks) hk
  refine wpAny_pyIter_zip hz ⟨s1.heap.objs.size + 4, [s1.heap.objs.size + 4, s1.heap.objs.size + 2, s1.heap.objs.size + 3, s1.heap.objs.size, s1.heap.objs.size + 1], _, _, H1, rfl, I2, turn_zip l1 l2 _ _ _ _ _ (zipApart_new a1 a2), ⟨hz, hTI, ⟨_, _, hTO⟩, hi1, hi2⟩, fun c hc => ?_, q⟩
  have ec : c = s1.heap.objs.size + 4 ∨ c = s1.heap.objs.size + 2 ∨ c = s1.heap.objs.size + 3 ∨ c = s1.heap.objs.size ∨ c = s1.heap.objs.size + 1 := by simpa using hc
  have hle : s1.heap.objs.size ≤ c := by
    rcases ec with rfl | rfl | rfl | rfl | rfl
    · exact Nat.le_add_right _ _
    · exact Nat.le_add_right _ _
    · exact Nat.le_add_right _ _
    · exact Nat.le_refl _
    · exact Nat.le_add_right _ _
  exact I1.fpOk hle (I1.hok.fresh hle)
theorem blk_zip {K : PySem.W.Frag} {a b : Addr} {xs ys0 : List V} {own : Nat} {ix : List Nat} {g : Blk → TG} {tt : Blk → TT} {te : Blk → TE} {σ0 : St} {H0 : Hp} {Q : VK} (Pv : Nat → List V → St → Hp → Prop) (hz : xs.length ≤ sizeLine) (he : xs.length = ys0.length) (h0 : Pv 0 [] (blkStart own ix σ0) H0) (hl : ∀ i ys σ H, i ≤ xs.length → Pv i ys σ H → SqL K H a xs ∧ SqL K H b ys0 ∧ ys.length ≤ i)
    (hs : ∀ bk i x y ys σ H p, xs[i]? = some x → ys0[i]? = some y → Pv i ys σ H → H p = none → g bk (.ref p) σ (upd H p (.tup [x, y])) fun σ2 H2 => tt bk σ2 H2 fun c H3 => if c = true then te bk σ2 H3 fun y H4 => Pv (i + 1) (ys ++ [y]) σ2 H4 else Pv (i + 1) ys σ2 H3)
    (hd : ∀ ys σ H D, Pv xs.length ys σ H → H D = none → Q (.ref D) (upd H D (.lst ys))) :
    BlkBody own ix g tt te σ0 Q (Itz K a b) H0 := by
  intro bk
  refine ⟨fun i m ys σ H => m = xs.length - i ∧ i ≤ xs.length ∧ Pv i ys σ H, ⟨xs.length, by simp, Nat.zero_le _, h0⟩, ?_⟩
  rintro i m ys σ H ⟨rfl, hi, p⟩
  obtain ⟨q, q2, hy⟩ := hl i ys σ H hi p
  by_cases hlt : i < xs.length
  · refine .inr ⟨⟨xs, xs[i], ys0, ys0[i]'(by omega), q, by simp [hlt], q2, by simp⟩, by omega, Pv (i + 1), fun ys' σ' H' p' => ⟨xs.length - (i + 1), by omega, rfl, hlt, p'⟩, fun x H' y => ?_⟩
    obtain ⟨c, u, v, hb, e1, e2, y1, y2⟩ := y
    subst e1 e2
    exact hs bk i u v ys σ H c (y1 xs q) (y2 ys0 q2) p hb
  · have e : i = xs.length := by omega
    subst e
    exact .inl ⟨⟨xs, ys0, q, q2, .inl (Nat.le_refl _)⟩, fun D hD => hd ys σ H D p hD⟩
end L2
set_option Elab.async false
set_option linter.all false
set_option maxRecDepth 100000
set_option maxHeartbeats 4000000
namespace L2
open PySem PySem.Spec PyProof.Rows
theorem Vals.intsAre : ∀ {ns : List Int} {us : List Value}, Vals (ns.map V.int) us → IntsAre us ns
  | [], _, .nil => .nil
  | n :: _, _, .cons r t => by
    obtain ⟨k, rfl⟩ := r
    exact .cons n k (Vals.intsAre t)
theorem ints_vals : ∀ {us : List Value} {ns : List Int}, IntsAre us ns → Vals (ns.map V.int) us
  | _, _, .nil => .nil
  | _, _, .cons n t h => .cons ⟨t, rfl⟩ (ints_vals h)
section
variable {X : Cx}
theorem call_sorted : CallR X (.builtin "sorted") (fun xs H Q => ∃ (p : Addr) (ns : List Int), xs = [.ref p] ∧ SqL X.K H p (ns.map V.int) ∧ ns.length < 64 ∧ ∀ (l : Addr) (ns' : List Int), H l = none → ns'.Perm ns → ns'.Pairwise (· ≤ ·) → Q (.ref l) (upd H l (.lst (ns'.map V.int)))) := by
  intro pins s σ H xs us Q I r h
  obtain ⟨p, ns, rfl, hq, h64, q⟩ := h
  obtain ⟨u, rfl, ru⟩ := vals1 r
  cases ru
  obtain ⟨its, rv, pl, hz⟩ := I.list hq
  have hl := rv.length
  rw [List.length_map] at hl
  refine sorted_ints pl.isList rv.intsAre (by omega) fun out ns' a1 a2 a3 => ?_
  obtain ⟨e, he⟩ := sortedAll_at s.heap its out
  have l2 := a2.length_eq
  have hle : s.heap.objs.size ≤ s.heap.objs.size + 1 := Nat.le_succ _
  refine ⟨.ref (s.heap.objs.size + 1), _, I.laid (t' := s.toks) (o := .lst (ns'.map V.int)) (fun b o => sortedAll_old) hle ⟨by rw [List.length_map]; exact small_le (by omega), out.toList, e, ints_vals a1, ?_⟩, rfl, q _ ns' (I.hok.fresh hle) a2 a3⟩
  rw [Array.toArray_toList]
  exact he
def tLRng (ta : TA) : TE := fun σ H Q => ta σ H fun vs H1 => ∃ n : Nat, vs = [.int n] ∧ n ≤ 1000 ∧ ∀ l, H1 l = none → Q (.ref l) (upd H1 l (.lst ((List.range n).map fun (i : Nat) => V.int (i : Int))))
theorem vals_of_items : ∀ {n : Nat} {us : List Value}, us.length = n → (∀ j v, us[j]? = some v → ∃ t, v = Value.int ((j : Nat) : Int) t) → Vals ((List.range n).map fun (i : Nat) => V.int (i : Int)) us := by
  intro n
  induction n with
  | zero =>
    intro us hl _
    rw [List.length_eq_zero_iff.mp hl]
    exact .nil
  | succ n ih =>
    intro us hl h
    have e : us = us.take n ++ [us[n]'(by omega)] := by
      rw [List.take_append_getElem (by omega)]
      rw [List.take_of_length_le (by omega)]
    obtain ⟨t, ht⟩ := h n (us[n]'(by omega)) (by simp)
    rw [e, List.range_succ, List.map_append]
    refine Vals.append (ih (by simp; omega) fun j v hj => ?_) (.cons ⟨t, ht⟩ .nil)
    rw [List.getElem?_take] at hj
    split at hj
    · exact h j v hj
    · cases hj
theorem pe_lrng {a : Expr} {ta : TA} {p p2 pos pos2 : Pos} (hc : X.calm = true) (hgl : Gl X "list") (hml : X.mg "list" = none) (hg : Gl X "range") (hm : X.mg "range" = none) (ha : PA X [a] ta)
    (hsl : starEach [Expr.Call (.Name "range" p2) [a] [] pos2] X.env = [(false, eval (.Call (.Name "range" p2) [a] [] pos2) X.env)] := by rfl)
    (hs : starEach [a] X.env = [(false, eval a X.env)] := by rfl) :
    PE X (.Call (.Name "list" p) [.Call (.Name "range" p2) [a] [] pos2] [] pos) (tLRng ta) := by
  intro pins s σ H Q I h
  refine wpAny_Call_Name_kw (ld_blt I hgl hml (by decide +kernel : bootBuiltins "list" = some (.type "list")) ?_ (by decide) (by decide))
  refine PyProof.Rows.callWith_type1 ?_ hsl rfl
  rw [hsl]
  show wpAny _ _ (spliced ((false, eval (.Call (.Name "range" p2) [a] [] pos2) X.env) :: [])) _ _ s
  refine Calls.spliced_cons ?_
  refine Call_ (ld_blt I hg hm boot_range (PyProof.Rows.callWith_type1 (thn (ha pos2 pins s σ H _ I h) fun us s1 ⟨vs, H1, I1, r1, q1⟩ => ?_) hs rfl))
  obtain ⟨n, e, hn, q⟩ := q1
  subst e
  obtain ⟨u, rfl, t, rfl⟩ := vals1 r1
  refine call_range_1 ?_
  refine Calls.spliced_nil ?_
  have I2 : Inv X pins σ H1 { s1 with heap := s1.heap.push { cls := .type "range", data := .fields #[.int 0 s1.toks, .int n t, .int 1 (s1.toks + 1)] }, toks := s1.toks + 1 + 1 } := I1.kept fun b o e => Heap.get?_push_of_some _ e
  refine call_list_range (n := n) (I2.ok.hd hc) (IsRange.new ..) (small_one (by omega) (by omega) (by omega) (by omega)) (by rw [rangeSize_one]; split <;> omega) (by omega) fun h' tk acc' c' hk hS hacc => ?_
  have hfr : H1 (s1.heap.push { cls := .type "range", data := .fields #[.int 0 s1.toks, .int n t, .int 1 (s1.toks + 1)] }).objs.size = none := I2.hok.fresh (Nat.le_refl _)
  refine ⟨.ref _, _, I2.laid (t' := tk) (o := .lst ((List.range n).map fun (i : Nat) => V.int (i : Int))) hk (Nat.le_refl _) ⟨by simp; exact small_le hn, acc'.toList, c', vals_of_items (by rw [Array.length_toList]; exact hacc.1) (fun j v hj => ?_), by rw [Array.toArray_toList]; exact hS⟩, rfl, q _ hfr⟩
  obtain ⟨t', e'⟩ := hacc.2 j v (by rw [← Array.getElem?_toList]; exact hj)
  exact ⟨t', by rw [e']; simp⟩
theorem eqU_int {k i : Int} {t : Tok} : eqU (.int k) (.int i t) = (i == k) := by
  show eqV (.int i) (.int k) = _
  simp [eqV]
theorem count_eqU {k : Int} : ∀ {ns : List Int} {us : List Value}, Vals (ns.map V.int) us → us.countP (eqU (.int k)) = ns.count k
  | [], _, .nil => rfl
  | n :: ns, _, .cons r t => by
    obtain ⟨tk, rfl⟩ := r
    rw [List.countP_cons, count_eqU t, List.count_cons, eqU_int]
def rCount (K : PySem.W.Frag) : V → List V → Hp → VK → Prop := fun x vs H Q => ∃ (l : Addr) (ns : List Int) (k : Int), x = .ref l ∧ vs = [.int k] ∧ H l = some (.lst (ns.map V.int)) ∧ Q (.int (ns.count k : Nat)) H
theorem mt_count : MtM X "list.count" (rCount X.K) := by
  intro pins s σ H x vs v us Q I rx rv h
  obtain ⟨l, ns, k, rfl, rfl, hH, q⟩ := h
  cases rx
  obtain ⟨u, rfl, ru⟩ := rv.one
  obtain ⟨z, its, n, r, hl, e⟩ := I.lstM hH
  refine call_meets F.slot_list_count ⟨_, e, rfl⟩ F.entry_list_count (F.args_list_count_2 _ _) (SeqAt.list_countAt l its.toArray n none #[] u (eqU (.int k))) ⟨e, fun y hy => mem_eqAt ru rfl r (flat_ints ns) y (by simpa using hy), ?_⟩
  rw [show its.toArray.toList = its from rfl, count_eqU r]
  exact ⟨.int _, H, I.tok _, ⟨_, rfl⟩, q⟩
end
end L2
set_option Elab.async false
set_option linter.all false
set_option maxRecDepth 100000
set_option maxHeartbeats 4000000
namespace L2
open PySem PySem.Spec PyProof.Rows
section
variable {X : Cx} {tg : Expr}
end
end L2
set_option Elab.async false
set_option linter.all false
set_option maxRecDepth 100000
set_option maxHeartbeats 4000000
namespace L2
open PySem PySem.Spec PyProof.Rows
section
variable {X : Cx}
end
end L2
set_option Elab.async false
set_option linter.all false
set_option maxRecDepth 100000
set_option maxHeartbeats 4000000
namespace L2
open PySem PySem.Spec PyProof.Rows
structure RoomH (k : Nat) (A : Around) : Prop where
  dp : A.depth + 3 * k + 5 < recursionLimit
  un : A.units + 16 * k + 200 < cLine
theorem Room.h {k : Nat} {A : Around} (r : Room k A) : RoomH k A := ⟨r.dp, r.un⟩
theorem RoomH.mono {j k : Nat} {A : Around} (r : RoomH k A) (h : j ≤ k) : RoomH j A := ⟨by have := r.dp; omega, by have := r.un; omega⟩
theorem RoomH.mark {k : Nat} {A : Around} (r : RoomH k A) (v : Option Value) : RoomH k (A.mark v) := ⟨r.dp, r.un⟩
theorem RoomH.deeper {k : Nat} {A : Around} (r : RoomH (k + 1) A) (env : Env) : RoomH k (A.deeper env) :=
  ⟨by have := r.dp; show A.depth + 1 + 3 * k + 5 < _; omega, by have := r.un; show A.units + 3 + 16 * k + 200 < _; omega⟩
def cxH (CX : CXT) (P : Program) (w : World) (K : PySem.W.Frag) (mg : Str → Option Value) (base : Heap) (N : List Str) (qual : Str) (scope : Scope) (f : Addr) (cd : Value) (A : Around) (outer : List Env) (s : Shared) (H : Hp) (E : XK) : Cx := { cxOf CX P w K mg base N qual scope f cd A outer s H E with calm := false }
structure FnOkH (P : Program) (w : World) (K : PySem.W.Frag) (mg : Str → Option Value) (base : Heap) (CX : CXT) (k : Nat) (f : Addr) (fd : FuncData) (ps : List Str) (sp : Sp) : Prop where
  len : ∀ vs H Q E, sp vs H Q E → vs.length = ps.length
  run : ∀ (A : Around) (outer : List Env) (s : Shared) (H : Hp) (args : Args) (us : List Value) (vs : List V) (Q : VK) (E : XK), RoomH k A → Env0 P w K mg base A outer s H → BindsTo s fd args (ps.zip us) → Vals vs us → sp vs H Q E →
    codeAny (model P w) A (.call (.ref f) args) (CR CX outer P w H s Q E) s
theorem Env0.calm {P : Program} {w : World} {K : PySem.W.Frag} {mg : Str → Option Value} {base : Heap} {A : Around} {outer : List Env} {s : Shared} {H : Hp} (e : Env0 P w K mg base A outer s H) :
    Env0 P w K mg base { A with handled := none } outer s H := ⟨e.frames, e.mod, e.bs, e.bsz, e.funs, e.frf, e.hok, e.bare⟩
theorem inv_startH {CX : CXT} {P : Program} {w : World} {K : PySem.W.Frag} {mg : Str → Option Value} {base : Heap} {N ps : List Str} {qual : Str} {scope : Scope} {f : Addr} {cd : Value} {A : Around} {outer : List Env} {s s1 : Shared} {H : Hp} {E : XK} {us : List Value} {vs : List V}
    (S : FnScope N ps scope) (e0 : Env0 P w K mg base A outer s H) (hl : vs.length = ps.length) (r : Vals vs us)
    (x : InCallC s s.heap.objs.size (bindL (envOfC qual scope s.heap.objs.size f cd).kindOf (ps.zip us) fun _ => none) (cellsFrom (s.heap.objs.size + 1) scope.names []) (bindC (envOfC qual scope s.heap.objs.size f cd).kindOf (ps.zip us) fun _ => none) s1) :
    Inv (cxH CX P w K mg base N qual scope f cd A outer s H E) [] (start N vs) H s1 := by
  have I : Inv (cxOf CX P w K mg base N qual scope f cd { A with handled := none } outer s H E) [] (start N vs) H s1 := inv_start S rfl e0.calm hl r x
  exact ⟨⟨I.ok.mod, I.ok.kind, I.ok.glob, I.ok.blt, I.ok.above, I.ok.inj, I.ok.has, I.ok.cab, (fun h => nomatch h), Around.frames_deeper e0.frames, I.ok.stk, I.ok.exf, I.ok.bs, I.ok.bsz, I.ok.noex, I.ok.exfs, I.ok.funs, I.ok.frf⟩, I.os, I.bare, I.base, I.loc, I.cell, I.free, I.freeC, I.pin, I.hok, I.len⟩
theorem fn_ofH {CX : CXT} {P : Program} {w : World} {K : PySem.W.Frag} {mg : Str → Option Value} {base : Heap} {k : Nat} {f : Addr} {name qual : Str} {params : Arguments} {body : List Stmt} {scope : Scope} {dV kV doc pm cdv ct oc : Value} {an od : Option Addr}
    {osl : Array (Option Value)} {N ps : List Str} {sp : Sp} (lk : K.lookup f = some ⟨oc, od, .func (PySem.W.fnOf name qual params body scope dV kV doc pm an cdv ct), osl⟩) (hcd : PySem.W.codeIn K cdv qual = true) (S : FnScope N ps scope)
    (len : ∀ vs H Q E, sp vs H Q E → vs.length = ps.length)
    (hbody : ∀ (A : Around) (outer : List Env) (s : Shared) (H : Hp) (vs : List V) (Q : VK) (E : XK), RoomH k (A.deeper (envOfC qual scope s.heap.objs.size f cdv)) → sp vs H Q E →
      ∃ t, PSs (cxH CX P w K mg base N qual scope f cdv A outer s H E) body t ∧ t { nx := fun _ H' => Q .non H', rt := Q } (start N vs) H) :
    FnOkH P w K mg base CX (k + 1) f (PySem.W.fnOf name qual params body scope dV kV doc pm an cdv ct) ps sp := by
  refine ⟨len, fun A outer s H args us vs Q E hr e0 hb r hsp => ?_⟩
  have hl := len _ _ _ _ hsp
  have KX : K.In s.heap := e0.mod.kin.keeps fun b o e => (e0.bs b o e).1
  have lim : s.heap.NoLimit := e0.mod.nolimit.keeps fun b o e => (e0.bs b o e).1
  have hkind : ∀ y ∈ ps.zip us, scope.names.lookup y.1 = some .local ∨ (scope.names.lookup y.1 = some .cell ∧ ((cellsFrom (s.heap.objs.size + 1) scope.names []).lookup y.1).isSome = true) := fun ⟨n, v⟩ hy => by
    rcases S.par n (List.of_mem_zip hy).1 with q | q
    · exact .inl q
    · exact .inr ⟨q, PySem.W.cellsFrom_some _ _ _ (.inl q)⟩
  refine codeAny_call_function (by have := hr.dp; omega) (KX _ _ lk) rfl S.co S.gen rfl (PySem.W.codeRec_of KX hcd) (hb _ _ _ _ ?_)
  refine wpAny_newFunctionEnv_cells S.kind hkind fun env he s1 x => ?_
  subst he
  refine ⟨lim.keeps x.toInCall.keep, codeAny_func ?_⟩
  obtain ⟨t, ht, hq⟩ := hbody A outer s H vs Q E (hr.deeper _) hsp
  have I : Inv (cxH CX P w K mg base N qual scope f cdv A outer s H E) [] (start N vs) H s1 := inv_startH S e0 hl r x
  refine wpAny_mono (ht [] s1 (start N vs) H _ I hq) (fun fl s' hs => ?_) fun e s' hs => hs
  have fin : ∀ {σ' : St} {H' : Hp} {v : V} {u : Value}, Inv (cxH CX P w K mg base N qual scope f cdv A outer s H E) [] σ' H' s' → RelV v u → Q v H' → CE outer P w H s Q u s' :=
    fun {σ' H' v u} J rv q => ⟨v, H', J.os, J.bare, J.base, J.hok, rv, q⟩
  cases fl with
  | ret u =>
    obtain ⟨v, σ', H', J, rv, q⟩ := hs
    exact fin J rv q
  | next =>
    obtain ⟨σ', H', J, q⟩ := hs
    exact fin (v := V.non) (u := Value.none) J rfl q
  | brk =>
    obtain ⟨_, _, _, q⟩ := hs
    exact False.elim q
  | cont =>
    obtain ⟨_, _, _, q⟩ := hs
    exact False.elim q
section
variable {P : Program} {w : World} {K : PySem.W.Frag} {mg : Str → Option Value} {base : Heap}
theorem Fun.okH {CX : CXT} {x qual : Str} {st : Stmt} {f : Addr} {fd : FuncData} {N ps : List Str} {k : Nat} {sp : Sp} (F : Fun K x qual st f fd) (S : FnScope N ps (defScope st)) (len : ∀ vs H Q E, sp vs H Q E → vs.length = ps.length)
    (hbody : ∀ (cdv : Value) (A : Around) (outer : List Env) (s : Shared) (H : Hp) (vs : List V) (Q : VK) (E : XK), RoomH k (A.deeper (envOfC qual (defScope st) s.heap.objs.size f cdv)) → sp vs H Q E →
      ∃ t, PSs (cxH CX P w K mg base N qual (defScope st) f cdv A outer s H E).nox (defBody st) t ∧ t { nx := fun _ H' => Q .non H', rt := Q } (start N vs) H) : FnOkH P w K mg base CX (k + 1) f fd ps sp := by
  obtain ⟨oc, od, kV, doc, pm, an, cdv, ct, osl, rfl, lk, hcd⟩ := F.ex
  refine fn_ofH lk hcd S len fun A outer s H vs Q E hr hsp => ?_
  obtain ⟨t, h, q⟩ := hbody cdv A outer s H vs Q E hr hsp
  exact ⟨t, h.nox, q⟩
end
section
variable {X : Cx} {CX : CXT} {k : Nat} {f C : Addr} {fd : FuncData} {ps : List Str} {sp : Sp} {dvs : List V} {ds : List Value} {E : XK} {x m : Str} {p pos apos : Pos} {e o : Expr} {es : List Expr} {ta : TE} {t : TA}
theorem run_fnH {pins : List (Addr × Obj)} {σ : St} {H : Hp} {s : Shared} {Q : VK} {us : List Value} {vs : List V} (F : FnOkH X.prog X.w X.K X.mg X.base CX k f fd ps sp) (hr : RoomH k X.A) (hb : Binds X.K fd ps ds) (hd : Vals dvs ds) (hx : Passes CX X E)
    (I : Inv X pins σ H s) (r : Vals vs us) (h : sp (vs ++ dvs) H Q E) : wpAny (model X.prog X.w) X.A (call (.ref f) us) (EP X pins σ Q) X.xe s := by
  have r2 : Vals (vs ++ dvs) (us ++ ds) := r.append hd
  have hl : (us ++ ds).length = ps.length := by rw [← r2.length]; exact F.len _ _ _ _ h
  refine wpAny_call (codeAny_mono (F.run X.A X.stack s H ⟨us, []⟩ (us ++ ds) (vs ++ dvs) Q E hr I.env0 (hb s us I.kIn hl) r2 h) fun r s' hq => ?_)
  cases r with
  | error e => exact hx pins σ H s e s' I hq
  | ok fl =>
    cases fl with
    | ret u => exact I.after hq
    | next => exact False.elim hq
    | brk => exact False.elim hq
    | cont => exact False.elim hq
theorem pe_callH (F : FnOkH X.prog X.w X.K X.mg X.base CX k f fd ps sp) (hr : RoomH k X.A) (hg : Gl X x) (hm : X.mg x = some (.ref f)) (hk : PySem.W.keepIn X.K (.ref f) = true) (hb : Binds X.K fd ps ds) (hd : Vals dvs ds) (hx : Passes CX X E)
    (ha : PA X (e :: es) t) (hdb : (x == ("__debug__" : Str)) = false := by decide) (he : starEach (e :: es) X.env = (false, eval e X.env) :: starEach es X.env := by rfl) (hpl : (backTo pos (starEach es X.env)).any (·.1) = false := by rfl) :
    PE X (.Call (.Name x p) (e :: es) [] pos) (tCall sp dvs E t) := by
  intro pins s σ H Q I h
  refine wpAny_Call_Name_kw (ld_glob I hg hm ?_ hdb)
  refine PySem.W.callWith_K (h₀ := X.base) I.ok.mod.kin hk (thn (ha pos pins s σ H _ I h) fun us s1 ⟨vs, H1, I1, r, q⟩ => ⟨I1.kIn, ?_⟩) he hpl
  exact run_fnH F hr hb hd hx I1 r q
end
end L2
set_option Elab.async false
set_option linter.all false
namespace L2
open PySem PySem.Spec PyProof.Rows
end L2
local macro_rules | `(tactic| open_k with [$xs,*]) => `(tactic| simp only [L2.tSeq, L2.tRet, L2.tRetN, L2.tAsg, L2.tIfS, L2.tDrop, L2.tNext, L2.tChain, L2.tC, L2.tVar, L2.tOp, L2.tUn, L2.tTest, L2.tB, L2.tAnd, L2.tOr, L2.tNot, L2.tAndV, L2.tOrV, L2.tNotV, L2.tIf, L2.tCall, L2.tCons, L2.tNil, L2.tCB, L2.tTup, L2.tLst, L2.tFld, L2.sFld, L2.tMeth, L2.tMake, L2.tBM, L2.tBM0, L2.tSl, L2.tPart, L2.tNoPart, L2.tYes, L2.tNever, L2.tBreak, L2.tCont, L2.gName, L2.gCons, L2.gNil, L2.gTup, L2.rI0, L2.rI, L2.rU, L2.rEq, L2.rNe, L2.iList, L2.iTup, L2.iRng1, L2.iRng2, L2.iEnum, L2.iZip, L2.tBlk, L2.tFor_eq, L2.tRaiseS, L2.tCallS, L2.tMethS, L2.tMakeS, L2.tFstr, L2.jCons, L2.jNil, L2.tFmt, L2.tryIn_K, L2.suite_K, L2.cxOf_K, L2.nox_K, L2.wish_K, L2.block_K, L2.start, L2.blkStart, L2.V.int.injEq, L2.V.bl.injEq, L2.V.ref.injEq, L2.V.str.injEq, L2.V.ty.injEq, Option.some.injEq, Option.join_some, Option.join_none, List.cons.injEq, exists_eq_left', exists_eq_left, exists_and_left, exists_and_right, exists_eq', exists_eq, and_true, true_and, and_assoc, List.map_cons, List.map_nil, List.length_cons, List.length_nil, Nat.reduceAdd, Nat.reduceSub, Nat.sub_self, List.replicate_zero, List.replicate_succ, List.cons_append, List.nil_append, List.append_nil, List.getElem?_cons_zero, List.getElem?_cons_succ, List.set_cons_zero, List.set_cons_succ, Bool.not_eq_true, Bool.false_eq_true, if_true, if_false, $[$xs:term],*])
set_option Elab.async false
set_option linter.all false
namespace L2
open PySem
abbrev cds (x : Str) : List Nat := x.cps.toList
def splitC (c : Nat) : List Nat → List (List Nat)
  | [] => [[]]
  | d :: r => if d = c then [] :: splitC c r else match splitC c r with
    | p :: ps => (d :: p) :: ps
    | [] => [[d]]
def joinC (c : Nat) : List (List Nat) → List Nat
  | [] => []
  | [p] => p
  | p :: q :: r => p ++ c :: joinC c (q :: r)
theorem splitC_free {c : Nat} : ∀ {p : List Nat}, c ∉ p → splitC c p = [p]
  | [], _ => rfl
  | d :: r, h => by
    have h1 : d ≠ c := fun e => h (e ▸ List.mem_cons_self)
    have h2 : c ∉ r := fun e => h (List.mem_cons_of_mem _ e)
    unfold splitC
    rw [if_neg h1, splitC_free h2]
theorem splitC_cons {c : Nat} {r : List Nat} : ∀ {p : List Nat}, c ∉ p → splitC c (p ++ c :: r) = p :: splitC c r
  | [], _ => by
    show splitC c (c :: r) = _
    rw [splitC, if_pos rfl]
  | d :: p, h => by
    have h1 : d ≠ c := fun e => h (e ▸ List.mem_cons_self)
    have h2 : c ∉ p := fun e => h (List.mem_cons_of_mem _ e)
    show splitC c (d :: (p ++ c :: r)) = _
    rw [splitC, if_neg h1, splitC_cons h2]
theorem splitC_join {c : Nat} : ∀ {ps : List (List Nat)}, ps ≠ [] → (∀ p ∈ ps, c ∉ p) → splitC c (joinC c ps) = ps
  | [], h, _ => absurd rfl h
  | [p], _, h => splitC_free (h p List.mem_cons_self)
  | p :: q :: r, _, h => by
    rw [joinC, splitC_cons (h p List.mem_cons_self), splitC_join (by simp) fun x hx => h x (List.mem_cons_of_mem _ hx)]
theorem cds_join (c : Nat) : ∀ ps : List Str, cds (Str.join ⟨#[c]⟩ ps) = joinC c (ps.map cds)
  | [] => rfl
  | [p] => rfl
  | p :: q :: r => by
    show cds (p ++ ⟨#[c]⟩ ++ Str.join ⟨#[c]⟩ (q :: r)) = cds p ++ c :: joinC c ((q :: r).map cds)
    rw [← cds_join c (q :: r)]
    simp [cds, Str.cps_append]
theorem split_ne (x y : Str) : Txt.split x y ≠ [] := by
  unfold Txt.split
  split
  · simp
  · split
    · simp
    · rw [StrLaws.partsBetween_eq]
      obtain ⟨p, r, e⟩ := StrLaws.partsFrom_ne x y.length 0 (Builtin.Str.occurrences x y 0 x.length (x.length + 1))
      rw [e]; simp
theorem split_codes (x : Str) (c : Nat) : (Txt.split x ⟨#[c]⟩).map cds = splitC c (cds x) := by
  have h := StrLaws.join_split x ⟨#[c]⟩
  have e := cds_join c (Txt.split x ⟨#[c]⟩)
  rw [h] at e
  rw [e, splitC_join]
  · simpa using split_ne x ⟨#[c]⟩
  · intro p hp
    obtain ⟨y, hy, rfl⟩ := List.mem_map.mp hp
    exact StrLaws.split_free x c y hy
theorem cds_inj {x y : Str} (h : cds x = cds y) : x = y := by
  apply Str.ext'
  exact Array.toList_inj.mp h
end L2
set_option Elab.async false
set_option linter.all false
namespace L2
open PySem PySem.NumText
def isDig (c : Nat) : Bool := decide (48 ≤ c) && decide (c ≤ 57)
def isNum (l : List Nat) : Bool := !l.isEmpty && l.all isDig && (l == [48] || l.head? != some 48)
def numOf (l : List Nat) : Option Nat := if isNum l && decide (l.length ≤ 2) then some (digitsVal l) else none
theorem numOf_dig {l : List Nat} {m : Nat} (h : numOf l = some m) : l.all isDig = true ∧ l ≠ [] ∧ l.length ≤ 2 ∧ m = digitsVal l ∧ isNum l = true := by
  unfold numOf at h
  split at h
  · rename_i hc
    rw [Bool.and_eq_true, decide_eq_true_eq] at hc
    obtain ⟨h1, h2⟩ := hc
    have h3 := h1
    unfold isNum at h1
    rw [Bool.and_eq_true, Bool.and_eq_true] at h1
    refine ⟨h1.1.2, ?_, h2, (Option.some.inj h).symm, h3⟩
    intro e
    subst e
    exact absurd h1.1.1 (by simp)
  · cases h
def roadOf (l : List Nat) : Option (Int × Int) := match splitC 62 l with
  | [a, b] => match numOf a, numOf b with
    | some x, some y => some ((x : Int), (y : Int))
    | _, _ => none
  | _ => none
def placesOf (l : List Nat) : Option Nat := if l.getLast? = some 58 then numOf l.dropLast else none
def roadsOf : List (List Nat) → Option (List (Int × Int))
  | [] => some []
  | p :: r => match roadOf p, roadsOf r with
    | some q, some qs => some (q :: qs)
    | _, _ => none
def partsOf (l : List Nat) : Option (Nat × List (Int × Int)) := match splitC 32 l with
  | [] => none
  | p :: r => match placesOf p, roadsOf r with
    | some m, some qs => some (m, qs)
    | _, _ => none
end L2
set_option Elab.async false
set_option linter.all false
namespace L2
open PySem PySem.NumText
end L2
set_option Elab.async false
set_option linter.all false
set_option maxRecDepth 100000
set_option maxHeartbeats 4000000
namespace L2
open PySem PySem.Spec PyProof.Rows PySem.Builtin PySem.Builtin.Str
theorem len_cds (x : Str) : x.length = (cds x).length := by simp [cds, Str.length]
def cutL (l : List Nat) (lo hi : Option Int) : List Nat := (l.drop (HT.sIx l.length 0 lo)).take (HT.sIx l.length l.length hi - HT.sIx l.length 0 lo)
theorem clip_sIx (n d : Nat) (o : Option Int) : (match o with | none => ((d : Nat) : Int) | some i => max 0 (min (if i < 0 then i + (n : Int) else i) (n : Int))) = ((HT.sIx n d o : Nat) : Int) := by
  cases o with
  | none => rfl
  | some v =>
    show max 0 (min (if v < 0 then v + (n : Int) else v) (n : Int)) = (((if v < 0 then (v + (n : Int)).toNat else min v.toNat n) : Nat) : Int)
    by_cases hv : v < 0
    · simp only [if_pos hv]; omega
    · simp only [if_neg hv]; omega
theorem sliceIx (lo hi : Option Int) (n : Nat) : strSliceIndices lo hi 1 n = (List.range (HT.sIx n n hi - HT.sIx n 0 lo)).map (HT.sIx n 0 lo + ·) := by
  rw [← sliceRange_one]
  have a := clip_sIx n 0 lo
  have b := clip_sIx n n hi
  rw [← a, ← b]
  unfold strSliceIndices
  cases lo <;> cases hi <;> simp
theorem cds_slice (x : Str) (lo hi : Option Int) : cds (Txt.slice x lo hi) = cutL (cds x) lo hi := by
  have hl : (cds x).length = x.length := (len_cds x).symm
  have h1 := HT.sIx_le x.length 0 (Nat.zero_le _) lo
  have h2 := HT.sIx_le x.length x.length (Nat.le_refl _) hi
  unfold Txt.slice cutL
  rw [sliceIx, hl]
  split
  · rename_i h
    simp at h
    have e1 : HT.sIx x.length 0 lo = 0 := by omega
    have e2 : HT.sIx x.length x.length hi = x.length := by omega
    rw [e1, e2, List.drop_zero, Nat.sub_zero, ← hl, List.take_length]
  · show (List.filterMap (x.cps[·]?) _) = _
    rw [pick_run]
theorem cutL_last (l : List Nat) : cutL l none (some (-1)) = l.dropLast := by
  unfold cutL
  rw [HT.sIx_none]
  have e : HT.sIx l.length l.length (some (-1)) = l.length - 1 := by
    show (if (-1 : Int) < 0 then ((-1 : Int) + (l.length : Int)).toNat else min (-1 : Int).toNat l.length) = _
    rw [if_pos (by decide)]; omega
  rw [e, List.drop_zero, Nat.sub_zero, List.dropLast_eq_take]
theorem ends_one (x : Str) (c : Nat) : Txt.endswith x ⟨#[c]⟩ = decide ((cds x).getLast? = some c) := by
  unfold Txt.endswith
  rw [StrLaws.subAt_eq]
  have hl := len_cds x
  have e1 : (⟨#[c]⟩ : Str).length = 1 := rfl
  rw [e1, hl]
  show (decide (0 + 1 ≤ (cds x).length) && ((List.drop ((cds x).length - 1) (cds x)).take 1 == [c])) = _
  cases h : (cds x).reverse with
  | nil =>
    have : cds x = [] := by simpa using h
    rw [this]; rfl
  | cons d r =>
    have : cds x = r.reverse ++ [d] := by
      have := congrArg List.reverse h
      simpa using this
    rw [this]
    rw [List.getLast?_concat, List.length_append, List.length_singleton, Nat.add_sub_cancel]
    rw [List.drop_left' (by simp)]
    simp
    rw [Bool.eq_iff_iff]; simp
theorem in_figs (c : Nat) : (!(occurrences (Str.ofString "0123456789") ⟨#[c]⟩ 0 (Str.ofString "0123456789").length 1).isEmpty) = isDig c := by
  rw [StrLaws.found_one]
  have : (Str.ofString "0123456789").cps.toList = [48, 49, 50, 51, 52, 53, 54, 55, 56, 57] := by decide +kernel
  rw [this]
  unfold isDig
  rw [Bool.eq_iff_iff]
  simp
  omega
theorem int_num {x : Str} {m : Nat} (h : numOf (cds x) = some m) : intText? x = some (m : Int) ∧ x.length ≤ 640 := by
  obtain ⟨h1, h2, h3, h4, h5⟩ := numOf_dig h
  have hl := len_cds x
  refine ⟨?_, by omega⟩
  rw [intText_digits (fun c hc => ?_) h2 (by omega), h4]
  have := List.all_eq_true.mp h1 c hc
  simp [isDig] at this
  exact this
theorem roadsOf_get : ∀ {ps : List (List Nat)} {qs : List (Int × Int)}, roadsOf ps = some qs → ps.length = qs.length ∧ ∀ (i : Nat) (p : List Nat), ps[i]? = some p → ∃ q, qs[i]? = some q ∧ roadOf p = some q
  | [], qs, h => by
    cases h
    simp
  | p :: ps, qs, h => by
    unfold roadsOf at h
    split at h
    · rename_i q qs' e1 e2
      cases h
      obtain ⟨h1, h2⟩ := roadsOf_get e2
      refine ⟨by simp [h1], fun i p' hp => ?_⟩
      cases i with
      | zero =>
        cases hp
        exact ⟨q, rfl, e1⟩
      | succ i =>
        obtain ⟨q', g1, g2⟩ := h2 i p' (by simpa using hp)
        exact ⟨q', by simpa using g1, g2⟩
    · cases h
theorem split_short {z y : Str} {c : Nat} (h : y ∈ Txt.split z ⟨#[c]⟩) : y.length ≤ z.length := part_short h
end L2
set_option Elab.async false
set_option linter.all false
set_option maxRecDepth 100000
set_option maxHeartbeats 4000000
namespace L2
open PySem PySem.Spec PyProof.Rows
theorem numOf_yes {l : List Nat} (h5 : isNum l = true) (h2 : l.length ≤ 2) : numOf l = some (NumText.digitsVal l) := by
  unfold numOf
  rw [if_pos (by rw [h5, decide_eq_true h2]; rfl)]
theorem numOf_long {l : List Nat} (h2 : ¬ l.length ≤ 2) : numOf l = none := by
  unfold numOf
  rw [if_neg (by rw [decide_eq_false h2, Bool.and_false]; decide)]
theorem placesOf_no {l : List Nat} (h : ¬ l.getLast? = some 58) : placesOf l = none := by
  unfold placesOf
  rw [if_neg h]
theorem roadsOf_take : ∀ (ps : List (List Nat)) (i : Nat) (qs : List (Int × Int)) (q : Int × Int) (p : List Nat), roadsOf (ps.take i) = some qs → ps[i]? = some p → roadOf p = some q → roadsOf (ps.take (i + 1)) = some (qs ++ [q])
  | [], i, qs, q, p, h, hp, hq => by simp at hp
  | x :: ps, 0, qs, q, p, h, hp, hq => by
    cases hp
    have e : qs = [] := by
      rw [List.take_zero] at h
      exact (Option.some.inj h).symm
    subst e
    simp [roadsOf, hq]
  | x :: ps, i + 1, qs, q, p, h, hp, hq => by
    rw [List.take_succ_cons] at h ⊢
    unfold roadsOf at h
    split at h
    · rename_i q0 qs0 e1 e2
      cases h
      have ih := roadsOf_take ps i qs0 q p e2 (by simpa using hp) hq
      simp [roadsOf, e1, ih]
    · cases h
theorem roadsOf_bad : ∀ (ps : List (List Nat)) (i : Nat) (p : List Nat), ps[i]? = some p → roadOf p = none → roadsOf ps = none
  | [], i, p, hp, hq => by simp at hp
  | x :: ps, 0, p, hp, hq => by
    cases hp
    simp [roadsOf, hq]
  | x :: ps, i + 1, p, hp, hq => by
    have ih := roadsOf_bad ps i p (by simpa using hp) hq
    unfold roadsOf
    rw [ih]
    split
    · rename_i e; cases e
    · rfl
theorem roadsOf_len {ps : List (List Nat)} {qs : List (Int × Int)} (h : roadsOf ps = some qs) : qs.length = ps.length := (roadsOf_get h).1.symm
theorem split_count {z : Str} {c : Nat} : (Txt.split z ⟨#[c]⟩).length ≤ z.length + 1 := by
  have := split_weight z ⟨#[c]⟩ (Nat.le_refl 1)
  omega
end L2
namespace Mx
def sum : Nat → (Nat → Int) → Int
  | 0, _ => 0
  | n + 1, f => sum n f + f n
theorem sum_congr {n : Nat} {f g : Nat → Int} (h : ∀ i, i < n → f i = g i) : sum n f = sum n g := by
  induction n with
  | zero => rfl
  | succ n ih =>
    show sum n f + f n = sum n g + g n
    rw [ih fun i hi => h i (by omega), h n (by omega)]
theorem sum_lin (c d : Int) (n : Nat) (f g : Nat → Int) : sum n (fun i => c * f i + d * g i) = c * sum n f + d * sum n g := by
  induction n with
  | zero => simp [sum]
  | succ n ih =>
    show sum n _ + (c * f n + d * g n) = c * (sum n f + f n) + d * (sum n g + g n)
    rw [ih, Int.mul_add, Int.mul_add]
    omega
theorem sum_zero {n : Nat} {f : Nat → Int} (h : ∀ i, i < n → f i = 0) : sum n f = 0 := by
  induction n with
  | zero => rfl
  | succ n ih =>
    show sum n f + f n = 0
    rw [ih fun i hi => h i (by omega), h n (by omega)]
    rfl
theorem sum_one {n k : Nat} {f : Nat → Int} (hk : k < n) (h : ∀ i, i < n → i ≠ k → f i = 0) : sum n f = f k := by
  induction n with
  | zero => omega
  | succ n ih =>
    show sum n f + f n = f k
    by_cases e : k = n
    · subst e
      rw [sum_zero fun i hi => h i (by omega) (by omega)]
      omega
    · rw [ih (by omega) fun i hi => h i (by omega), h n (by omega) (by omega)]
      omega
theorem sum_two {n k : Nat} {f : Nat → Int} (hk : k + 1 < n) (h : ∀ i, i < n → i ≠ k → i ≠ k + 1 → f i = 0) : sum n f = f k + f (k + 1) := by
  induction n with
  | zero => omega
  | succ n ih =>
    show sum n f + f n = _
    by_cases e : k + 1 = n
    · subst e
      rw [sum_one (k := k) (by omega) fun i hi hne => h i (by omega) hne (by omega)]
    · rw [ih (by omega) fun i hi => h i (by omega), h n (by omega) (by omega) (by omega)]
      omega
abbrev Mat := Nat → Nat → Int
def sg (i : Nat) : Int := if i % 2 = 0 then 1 else -1
def skip (i a : Nat) : Nat := if a < i then a else a + 1
def back (i k : Nat) : Nat := if k < i then k else k - 1
def minor (i : Nat) (A : Mat) : Mat := fun a b => A (skip i a) (b + 1)
def det : Nat → Mat → Int
  | 0, _ => 1
  | n + 1, A => sum (n + 1) fun i => sg i * A i 0 * det n (minor i A)
def setR (A : Mat) (k : Nat) (r : Nat → Int) : Mat := fun i j => if i = k then r j else A i j
theorem sg_succ (i : Nat) : sg (i + 1) = - sg i := by
  unfold sg
  split <;> split <;> omega
theorem skip_lt {n i a : Nat} (ha : a < n) : skip i a < n + 1 := by
  unfold skip
  split <;> omega
theorem det_congr : ∀ {n : Nat} {A B : Mat}, (∀ i j, i < n → j < n → A i j = B i j) → det n A = det n B
  | 0, _, _, _ => rfl
  | n + 1, A, B, h => by
    refine sum_congr fun i hi => ?_
    rw [h i 0 hi (by omega), det_congr (A := minor i A) (B := minor i B) fun a b ha hb => h _ _ (skip_lt ha) (by omega)]
theorem minor_same (A : Mat) (k : Nat) (r : Nat → Int) : minor k (setR A k r) = minor k A := by
  funext a b
  have : skip k a ≠ k := by unfold skip; split <;> omega
  simp [minor, setR, this]
theorem minor_ne (A : Mat) {i k : Nat} (h : i ≠ k) (r : Nat → Int) : minor i (setR A k r) = setR (minor i A) (back i k) fun b => r (b + 1) := by
  funext a b
  have : skip i a = k ↔ a = back i k := by unfold skip back; split <;> split <;> omega
  simp [minor, setR, this]
theorem back_lt {n i k : Nat} (h : i ≠ k) (hi : i < n + 1) (hk : k < n + 1) : back i k < n := by
  unfold back
  split <;> omega
theorem skip_back {i k : Nat} (h : i ≠ k) : skip i (back i k) = k := by
  unfold skip back
  by_cases h1 : k < i
  · simp [h1]
  · rw [if_neg h1, if_neg (by omega)]
    omega
theorem det_lin : ∀ {n k : Nat} (A : Mat) (c d : Int) (r s : Nat → Int), k < n → det n (setR A k fun j => c * r j + d * s j) = c * det n (setR A k r) + d * det n (setR A k s)
  | 0, _, _, _, _, _, _, h => absurd h (by omega)
  | n + 1, k, A, c, d, r, s, h => by
    show sum (n + 1) _ = c * sum (n + 1) _ + d * sum (n + 1) _
    rw [← sum_lin]
    refine sum_congr fun i hi => ?_
    by_cases e : i = k
    · subst e
      rw [minor_same, minor_same, minor_same]
      simp only [setR, if_true]
      rw [Int.mul_add, Int.add_mul]
      congr 1
      · simp only [Int.mul_assoc, Int.mul_left_comm, Int.mul_comm]
      · simp only [Int.mul_assoc, Int.mul_left_comm, Int.mul_comm]
    · rw [minor_ne A e, minor_ne A e, minor_ne A e, det_lin _ c d _ _ (back_lt e hi h)]
      have e1 : ∀ v : Nat → Int, setR A k v i 0 = A i 0 := fun v => by simp [setR, e]
      rw [e1, e1, e1, Int.mul_add]
      congr 1 <;> simp only [Int.mul_assoc, Int.mul_left_comm, Int.mul_comm]
theorem setR_self (A : Mat) (k : Nat) : setR A k (A k) = A := by
  funext i j
  simp only [setR]
  split
  · rename_i e; rw [e]
  · rfl
theorem setR_set (A : Mat) (k : Nat) (r s : Nat → Int) : setR (setR A k r) k s = setR A k s := by
  funext i j
  simp only [setR]
  split <;> simp_all
theorem setR_comm (A : Mat) {k l : Nat} (h : k ≠ l) (r s : Nat → Int) : setR (setR A k r) l s = setR (setR A l s) k r := by
  funext i j
  simp only [setR]
  split <;> split <;> simp_all
theorem setR_at (A : Mat) (k : Nat) (r : Nat → Int) : setR A k r k = r := by
  funext j
  simp [setR]
theorem setR_off (A : Mat) {k l : Nat} (h : l ≠ k) (r : Nat → Int) : setR A k r l = A l := by
  funext j
  simp [setR, h]
theorem det_adj : ∀ {n k : Nat} {A : Mat}, k + 1 < n → A k = A (k + 1) → det n A = 0
  | 0, _, _, h, _ => absurd h (by omega)
  | n + 1, k, A, h, e => by
    show sum (n + 1) _ = 0
    rw [sum_two h]
    · have em : minor k A = minor (k + 1) A := by
        funext a b
        simp only [minor]
        by_cases ha : a = k
        · subst ha
          have e1 : skip a a = a + 1 := by simp [skip]
          have e2 : skip (a + 1) a = a := by simp [skip]
          rw [e1, e2, e]
        · have : skip k a = skip (k + 1) a := by unfold skip; split <;> split <;> omega
          rw [this]
      rw [em, sg_succ, e, Int.neg_mul, Int.neg_mul]
      omega
    · intro i hi h1 h2
      have hb : back i (k + 1) = back i k + 1 := by unfold back; split <;> split <;> omega
      have hz : det n (minor i A) = 0 := det_adj (k := back i k) (by rw [← hb]; exact back_lt (by omega) hi h) (by
        funext b
        have s1 : skip i (back i k) = k := skip_back h1
        have s2 : skip i (back i k + 1) = k + 1 := by rw [← hb]; exact skip_back h2
        simp only [minor]
        rw [s1, s2, e])
      rw [hz, Int.mul_zero]
theorem det_add {n k : Nat} (A : Mat) (r s : Nat → Int) (h : k < n) : det n (setR A k fun j => r j + s j) = det n (setR A k r) + det n (setR A k s) := by
  have := det_lin A 1 1 r s h
  simpa using this
theorem det_swap_adj {n k : Nat} (A : Mat) (u v : Nat → Int) (h : k + 1 < n) : det n (setR (setR A k u) (k + 1) v) = - det n (setR (setR A k v) (k + 1) u) := by
  have hk : k < n := by omega
  have ne : k ≠ k + 1 := by omega
  have z : ∀ w : Nat → Int, det n (setR (setR A k w) (k + 1) w) = 0 := fun w => det_adj h (by rw [setR_at, setR_off _ (by omega), setR_at])
  have a1 := z fun j => u j + v j
  rw [det_add _ _ _ h, setR_comm A ne, det_add _ _ _ hk, setR_comm A ne, det_add _ _ _ hk, ← setR_comm A ne, ← setR_comm A ne, ← setR_comm A ne, ← setR_comm A ne, z u, z v] at a1
  omega
theorem det_same : ∀ (d : Nat) {n k : Nat} {A : Mat}, k + d + 1 < n → A k = A (k + d + 1) → det n A = 0
  | 0, _, _, _, h, e => det_adj h e
  | d + 1, n, k, A, h, e => by
    have h1 := det_swap_adj A (A (k + d + 1)) (A (k + d + 1 + 1)) (k := k + d + 1) h
    rw [setR_self, setR_self] at h1
    rw [h1, det_same d (k := k) (by omega)]
    · rfl
    · rw [setR_off _ (by omega), setR_off _ (by omega), setR_off _ (by omega), setR_at, e]
      rfl
theorem det_alike {n k l : Nat} {A : Mat} (hk : k < n) (hl : l < n) (ne : k ≠ l) (e : A k = A l) : det n A = 0 := by
  by_cases h : k < l
  · obtain ⟨d, rfl⟩ : ∃ d, l = k + d + 1 := ⟨l - k - 1, by omega⟩
    exact det_same d hl e
  · obtain ⟨d, rfl⟩ : ∃ d, k = l + d + 1 := ⟨k - l - 1, by omega⟩
    exact det_same d hk e.symm
theorem det_rowop {n k l : Nat} (A : Mat) (c : Int) (hk : k < n) (hl : l < n) (ne : l ≠ k) : det n (setR A k fun j => A k j + c * A l j) = det n A := by
  have h := det_lin A 1 c (A k) (A l) hk
  rw [setR_self] at h
  have z : det n (setR A k (A l)) = 0 := det_alike hk hl (fun e => ne e.symm) (by rw [setR_at, setR_off _ ne])
  rw [z] at h
  simpa using h
theorem det_nil {n k : Nat} {A : Mat} (hk : k < n) (h : ∀ j, A k j = 0) : det n A = 0 := by
  have e := det_lin A 0 0 (A k) (A k) hk
  have : setR A k (fun j => 0 * A k j + 0 * A k j) = A := by
    conv => rhs; rw [← setR_self A k]
    congr 1
    funext j
    simp [h j]
  rw [this] at e
  simpa using e
def one : Mat := fun i j => if i = j then 1 else 0
theorem det_one : ∀ n, det n one = 1
  | 0 => rfl
  | n + 1 => by
    show sum (n + 1) _ = 1
    rw [sum_one (k := 0) (by omega)]
    · have : minor 0 one = one := by
        funext a b
        simp [minor, skip, one]
      rw [this, det_one n]
      simp [sg, one]
    · intro i hi h0
      simp [one, h0]
end Mx
namespace Mx
def iter (f : Nat → Nat) : Nat → Nat → Nat
  | 0, i => i
  | k + 1, i => iter f k (f i)
theorem iter_succ (f : Nat → Nat) : ∀ k i, iter f (k + 1) i = f (iter f k i)
  | 0, _ => rfl
  | k + 1, i => iter_succ f k (f i)
theorem iter_add (f : Nat → Nat) (a : Nat) : ∀ b i, iter f (a + b) i = iter f a (iter f b i)
  | 0, _ => rfl
  | b + 1, i => iter_add f a b (f i)
theorem iter_lt {f : Nat → Nat} {n : Nat} (h : ∀ i, i < n → f i < n) : ∀ k i, i < n → iter f k i < n
  | 0, _, hi => hi
  | k + 1, i, hi => iter_lt h k (f i) (h i hi)
theorem two_alike : ∀ (n : Nat) (g : Nat → Nat), (∀ t, t ≤ n → g t < n) → ∃ a b, a < b ∧ b ≤ n ∧ g a = g b
  | 0, g, h => absurd (h 0 (Nat.le_refl _)) (by omega)
  | n + 1, g, h => by
    by_cases e : ∃ a, a < n + 1 ∧ g a = g (n + 1)
    · obtain ⟨a, ha, ea⟩ := e
      exact ⟨a, n + 1, ha, Nat.le_refl _, ea⟩
    · -- put n in the place of the last one's value
      have hne : ∀ a, a < n + 1 → g a ≠ g (n + 1) := fun a ha ea => e ⟨a, ha, ea⟩
      obtain ⟨a, b, h1, h2, h3⟩ := two_alike n (fun t => if g t = n then g (n + 1) else g t) fun t ht => by
        have q1 := h t (by omega)
        have q2 := h (n + 1) (by omega)
        have q3 := hne t (by omega)
        show (if g t = n then g (n + 1) else g t) < n
        split <;> omega
      refine ⟨a, b, h1, by omega, ?_⟩
      have q1 := hne a (by omega)
      have q2 := hne b (by omega)
      have h3' : (if g a = n then g (n + 1) else g a) = (if g b = n then g (n + 1) else g b) := h3
      split at h3' <;> split at h3' <;> omega
def fun1 (r : Nat) (f : Nat → Nat) : Mat := fun i j => if i = r then one r j else one i j - one (f i) j
def mix (S : Nat → Bool) (r : Nat) (f : Nat → Nat) : Mat := fun i j => if S i then one i j else fun1 r f i j
def gaps (S : Nat → Bool) : Nat → Nat
  | 0 => 0
  | n + 1 => gaps S n + if S n then 0 else 1
theorem gaps_zero {S : Nat → Bool} : ∀ {n : Nat}, gaps S n = 0 → ∀ i, i < n → S i = true
  | 0, _, _, h => absurd h (by omega)
  | n + 1, e, i, h => by
    have e' : gaps S n + (if S n then 0 else 1) = 0 := e
    by_cases hi : i = n
    · subst hi
      by_cases hs : S i = true
      · exact hs
      · rw [if_neg hs] at e'; omega
    · exact gaps_zero (n := n) (by omega) i (by omega)
theorem gaps_pos {S : Nat → Bool} : ∀ {n : Nat}, gaps S n ≠ 0 → ∃ i, i < n ∧ S i = false
  | 0, e => absurd rfl e
  | n + 1, e => by
    by_cases hs : S n = true
    · obtain ⟨i, h1, h2⟩ := gaps_pos (S := S) (n := n) fun z => e (by show gaps S n + _ = 0; rw [z, if_pos hs])
      exact ⟨i, by omega, h2⟩
    · exact ⟨n, by omega, by simpa using hs⟩
theorem gaps_put {S : Nat → Bool} {k : Nat} (hk : S k = false) : ∀ n, gaps (fun i => S i || decide (i = k)) n + (if k < n then 1 else 0) = gaps S n
  | 0 => rfl
  | n + 1 => by
    have ih := gaps_put hk n
    show gaps _ n + (if (S n || decide (n = k)) = true then 0 else 1) + _ = gaps S n + (if S n = true then 0 else 1)
    by_cases e : n = k
    · subst e
      rw [if_neg (by omega)] at ih
      rw [if_pos (by simp), if_pos (by omega), if_neg (by simp [hk])]
      omega
    · have : (S n || decide (n = k)) = S n := by simp [e]
      rw [this]
      by_cases hn : k < n
      · rw [if_pos hn] at ih
        rw [if_pos (show k < n + 1 by omega)]
        omega
      · rw [if_neg hn] at ih
        rw [if_neg (show ¬ k < n + 1 by omega)]
        omega
theorem last_out {S : Nat → Bool} {f : Nat → Nat} {n : Nat} (hf : ∀ i, i < n → f i < n) : ∀ k i, i < n → S i = false → S (iter f k i) = true → ∃ j, j < n ∧ S j = false ∧ S (f j) = true
  | 0, i, _, h0, h1 => by rw [show iter f 0 i = i from rfl, h0] at h1; cases h1
  | k + 1, i, hi, h0, h1 => by
    by_cases hs : S (f i) = true
    · exact ⟨i, hi, h0, hs⟩
    · exact last_out hf k (f i) (hf i hi) (by simpa using hs) h1
theorem mix_one {n r : Nat} {f : Nat → Nat} (hf : ∀ i, i < n → f i < n) (hl : ∀ i, i < n → ∃ k, iter f k i = r) : ∀ (m : Nat) (S : Nat → Bool), gaps S n = m → S r = true → det n (mix S r f) = 1
  | 0, S, e, hr => by
    rw [← det_one n]
    refine det_congr fun i j hi hj => ?_
    simp [mix, gaps_zero e i hi]
  | m + 1, S, e, hr => by
    obtain ⟨i, hi, h0⟩ := gaps_pos (S := S) (n := n) (by omega)
    obtain ⟨k, hk⟩ := hl i hi
    obtain ⟨j, hj, j0, j1⟩ := last_out hf k i hi h0 (by rw [hk]; exact hr)
    have hg := gaps_put j0 n
    rw [if_pos hj, e] at hg
    have ih := mix_one hf hl m (fun i => S i || decide (i = j)) (by omega) (by simp [hr])
    have hjr : j ≠ r := fun z => by rw [z, hr] at j0; cases j0
    have hne : f j ≠ j := fun z => by rw [z, j0] at j1; cases j1
    rw [← ih, ← det_rowop (mix S r f) 1 hj (hf j hj) hne]
    congr 1
    funext a b
    simp only [setR, mix]
    by_cases ea : a = j
    · subst ea
      simp [j0, j1, fun1, hjr]
    · simp [ea]
theorem fun1_tree {n r : Nat} {f : Nat → Nat} (hf : ∀ i, i < n → f i < n) (hl : ∀ i, i < n → ∃ k, iter f k i = r) : det n (fun1 r f) = 1 := by
  have := mix_one hf hl _ (fun i => decide (i = r)) rfl (by simp)
  rw [← this]
  congr 1
  funext a b
  simp only [mix, decide_eq_true_eq]
  split
  · rename_i e; simp [fun1, e]
  · rfl
theorem fun1_turn {n r c : Nat} {f : Nat → Nat} (hf : ∀ i, i < n → f i < n) (hc : c < n) (hr : ∀ k, iter f k c ≠ r) : ∀ k, (∀ t, 0 < t → t ≤ k → iter f t c ≠ c) → det n (setR (fun1 r f) c fun j => one c j - one (iter f (k + 1) c) j) = det n (fun1 r f)
  | 0, _ => by
    congr 1
    conv => rhs; rw [← setR_self (fun1 r f) c]
    congr 1
    funext j
    have : c ≠ r := hr 0
    simp [fun1, this, iter]
  | k + 1, h => by
    have ih := fun1_turn hf hc hr k fun t h0 h1 => h t h0 (by omega)
    rw [← ih]
    have hne := h (k + 1) (by omega) (Nat.le_refl _)
    have hrn := hr (k + 1)
    rw [← det_rowop (setR (fun1 r f) c fun j => one c j - one (iter f (k + 1) c) j) 1 hc (iter_lt hf (k + 1) c hc) hne]
    rw [setR_set, setR_at, setR_off _ hne]
    congr 2
    funext j
    rw [iter_succ f (k + 1) c]
    simp only [fun1, if_neg hrn]
    omega
theorem fun1_not {n r i : Nat} {f : Nat → Nat} (hf : ∀ i, i < n → f i < n) (hi : i < n) (hr : ∀ k, iter f k i ≠ r) : det n (fun1 r f) = 0 := by
  obtain ⟨a, b, hab, _, e⟩ := two_alike n (fun t => iter f t i) fun t _ => iter_lt hf t i hi
  have hc := iter_lt hf a i hi
  have hb : iter f (b - a) (iter f a i) = iter f a i := by
    rw [← iter_add, Nat.sub_add_cancel (by omega)]
    exact e.symm
  have hr' : ∀ k, iter f k (iter f a i) ≠ r := fun k => by rw [← iter_add]; exact hr _
  generalize iter f a i = c at *
  have least : ∀ m, (∃ t, t ≤ m ∧ 0 < t ∧ iter f t c = c) → ∃ k, iter f (k + 1) c = c ∧ ∀ t, 0 < t → t ≤ k → iter f t c ≠ c := by
    intro m
    induction m with
    | zero => rintro ⟨t, h1, h2, _⟩; omega
    | succ m ih =>
      rintro ⟨t, h1, h2, h3⟩
      by_cases hm : ∃ t, t ≤ m ∧ 0 < t ∧ iter f t c = c
      · exact ih hm
      · have ht : t = m + 1 := Classical.byContradiction fun z => hm ⟨t, by omega, h2, h3⟩
        subst ht
        exact ⟨m, h3, fun u u0 u1 ue => hm ⟨u, u1, u0, ue⟩⟩
  obtain ⟨k, h1, h2⟩ := least (b - a) ⟨b - a, Nat.le_refl _, by omega, hb⟩
  rw [← fun1_turn hf hc hr' k h2, h1]
  refine det_nil hc fun j => ?_
  rw [setR_at]
  omega
def lsum : List Int → Int
  | [] => 0
  | x :: xs => x + lsum xs
def rowOf (xs : List Nat) (en : Nat → Nat) (p : Nat) : Nat → Int := fun j => lsum (xs.map fun x => one p j - one (en x) j)
theorem det_rows {n k : Nat} (A : Mat) (en : Nat → Nat) (p : Nat) (hk : k < n) : ∀ xs : List Nat, det n (setR A k (rowOf xs en p)) = lsum (xs.map fun x => det n (setR A k fun j => one p j - one (en x) j))
  | [] => det_nil hk fun j => by rw [setR_at]; rfl
  | x :: xs => by
    have h := det_add A (fun j => one p j - one (en x) j) (rowOf xs en p) hk
    rw [det_rows A en p hk xs] at h
    exact h
def pre (r k : Nat) (ex : Nat → List Nat) (en g : Nat → Nat) : Mat := fun i => if i = r then one r else if i < k then fun j => one i j - one (en (g i)) j else rowOf (ex i) en i
def put (g : Nat → Nat) (k x : Nat) : Nat → Nat := fun i => if i = k then x else g i
theorem pre_step {n r k : Nat} {ex : Nat → List Nat} {en g : Nat → Nat} (hk : k < n) (hr : k ≠ r) : det n (pre r k ex en g) = lsum ((ex k).map fun x => det n (pre r (k + 1) ex en (put g k x))) := by
  have e0 : pre r k ex en g = setR (pre r k ex en g) k (rowOf (ex k) en k) := by
    conv => lhs; rw [← setR_self (pre r k ex en g) k]
    congr 1
    simp [pre, hr]
  rw [e0, det_rows _ en k hk]
  congr 1
  refine List.map_congr_left fun x _ => ?_
  congr 1
  funext i j
  simp only [setR, pre, put]
  by_cases e : i = k
  · subst e
    simp [hr]
  · by_cases h1 : i = r
    · subst h1
      simp [e]
    · by_cases h2 : i < k
      · simp [e, h1, h2, show i < k + 1 by omega]
      · simp [e, h1, h2, show ¬ i < k + 1 by omega]
theorem pre_root {r k : Nat} {ex : Nat → List Nat} {en g : Nat → Nat} (hr : k = r) : pre r k ex en g = pre r (k + 1) ex en g := by
  funext i
  simp only [pre]
  by_cases h1 : i = r
  · simp [h1]
  · have : i < k ↔ i < k + 1 := by omega
    simp [h1, this]
def leads (n r : Nat) (en g : Nat → Nat) : Prop := ∀ i, i < n → ∃ k, iter (fun i => if i = r then r else en (g i)) k i = r
theorem pre_end {n r : Nat} {ex : Nat → List Nat} {en g : Nat → Nat} (hr : r < n) (he : ∀ i, i < n → i ≠ r → en (g i) < n) : (leads n r en g → det n (pre r n ex en g) = 1) ∧ (¬ leads n r en g → det n (pre r n ex en g) = 0) := by
  have hf : ∀ i, i < n → (if i = r then r else en (g i)) < n := fun i hi => by
    split
    · exact hr
    · exact he i hi (by assumption)
  have e : det n (pre r n ex en g) = det n (fun1 r fun i => if i = r then r else en (g i)) := by
    refine det_congr fun i j hi hj => ?_
    simp only [pre, fun1]
    by_cases h : i = r
    · simp [h]
    · simp [h, hi]
  rw [e]
  refine ⟨fun h => fun1_tree hf h, fun h => ?_⟩
  obtain ⟨i, hi, hn⟩ : ∃ i, i < n ∧ ∀ k, iter (fun i => if i = r then r else en (g i)) k i ≠ r := by
    refine Classical.byContradiction fun z => h fun i hi => ?_
    exact Classical.byContradiction fun y => z ⟨i, hi, fun k hk => y ⟨k, hk⟩⟩
  exact fun1_not hf hi hn
open Classical in
noncomputable def many (n r : Nat) (ex : Nat → List Nat) (en : Nat → Nat) : Nat → Nat → (Nat → Nat) → Int
  | 0, _, g => if leads n r en g then 1 else 0
  | m + 1, k, g => if k = r then many n r ex en m (k + 1) g else lsum ((ex k).map fun x => many n r ex en m (k + 1) (put g k x))
theorem many_det {n r : Nat} {ex : Nat → List Nat} {en : Nat → Nat} (hr : r < n) (hx : ∀ i x, i < n → x ∈ ex i → en x < n) : ∀ (m k : Nat) (g : Nat → Nat), k + m = n → (∀ i, i < k → i ≠ r → en (g i) < n) → det n (pre r k ex en g) = many n r ex en m k g
  | 0, k, g, e, hg => by
    have e' : k = n := by omega
    subst e'
    obtain ⟨h1, h2⟩ := pre_end (ex := ex) hr hg
    unfold many
    split
    · exact h1 (by assumption)
    · exact h2 (by assumption)
  | m + 1, k, g, e, hg => by
    unfold many
    by_cases hk : k = r
    · rw [if_pos hk, pre_root hk]
      refine many_det hr hx m (k + 1) g (by omega) fun i hi hne => ?_
      exact hg i (by omega) hne
    · rw [if_neg hk, pre_step (by omega) hk]
      congr 1
      refine List.map_congr_left fun x hx' => ?_
      refine many_det hr hx m (k + 1) (put g k x) (by omega) fun i hi hne => ?_
      simp only [put]
      split
      · exact hx k x (by omega) hx'
      · exact hg i (by omega) hne
end Mx
namespace Mx
theorem det_swap {n k l : Nat} (A : Mat) (u v : Nat → Int) (hk : k < n) (hl : l < n) (ne : k ≠ l) : det n (setR (setR A k u) l v) = - det n (setR (setR A k v) l u) := by
  have z : ∀ w : Nat → Int, det n (setR (setR A k w) l w) = 0 := fun w => det_alike hk hl ne (by rw [setR_at, setR_off _ ne, setR_at])
  have a1 := z fun j => u j + v j
  rw [det_add _ _ _ hl, setR_comm A ne, det_add _ _ _ hk, setR_comm A ne, det_add _ _ _ hk, ← setR_comm A ne, ← setR_comm A ne, ← setR_comm A ne, ← setR_comm A ne, z u, z v] at a1
  omega
theorem det_addsum {n k l : Nat} (A : Mat) (v : Nat → Int) (hk : k < n) : ∀ m, m ≤ n → det n (setR A k fun j => v j + sum m fun p => if p = k ∨ p = l then 0 else A p j) = det n (setR A k v)
  | 0, _ => by
    congr 2
    funext j
    show v j + 0 = v j
    omega
  | m + 1, h => by
    by_cases e : m = k ∨ m = l
    · rw [← det_addsum A v hk m (by omega)]
      congr 2
      funext j
      show v j + (sum m _ + (if m = k ∨ m = l then 0 else A m j)) = _
      rw [if_pos e, Int.add_zero]
    · have h1 := det_add A (fun j => v j + sum m fun p => if p = k ∨ p = l then 0 else A p j) (A m) hk
      have z : det n (setR A k (A m)) = 0 := det_alike hk (show m < n by omega) (fun z => e (.inl z.symm)) (by rw [setR_at, setR_off _ fun z => e (.inl z)])
      rw [z, Int.add_zero, det_addsum A v hk m (by omega)] at h1
      rw [← h1]
      congr 2
      funext j
      show v j + (sum m _ + (if m = k ∨ m = l then 0 else A m j)) = _
      rw [if_neg e]
      omega
theorem sum_drop {n k : Nat} {f : Nat → Int} (hk : k < n) : sum n f = f k + sum n fun p => if p = k then 0 else f p := by
  induction n with
  | zero => omega
  | succ n ih =>
    show sum n f + f n = f k + (sum n _ + (if n = k then 0 else f n))
    by_cases e : n = k
    · subst e
      rw [if_pos rfl, sum_congr (g := fun p => if p = n then 0 else f p) fun i hi => by
        show f i = if i = n then 0 else f i
        rw [if_neg (by omega)]]
      omega
    · rw [if_neg e, ih (by omega)]
      omega
theorem rowOf_id (xs : List Nat) (en : Nat → Nat) (p : Nat) : rowOf (xs.map en) id p = rowOf xs en p := by
  funext j
  unfold rowOf
  rw [List.map_map]
  rfl
theorem no_root {n : Nat} {ex : Nat → List Nat} {en : Nat → Nat} (hx : ∀ i x, i < n → x ∈ ex i → en x < n) : ∀ (m k : Nat) (g : Nat → Nat), k + m = n → (∀ i, i < k → en (g i) < n) → 0 < n → det n (pre n k ex en g) = 0
  | 0, k, g, e, hg, h0 => by
    have e' : k = n := by omega
    subst e'
    have e2 : det k (pre k k ex en g) = det k (fun1 k fun i => en (g i)) := by
      refine det_congr fun i j hi hj => ?_
      simp only [pre, fun1]
      rw [if_neg (by omega), if_pos hi, if_neg (by omega)]
    rw [e2]
    exact fun1_not (i := 0) hg h0 fun t ht => by
      have := iter_lt hg t 0 h0
      omega
  | m + 1, k, g, e, hg, h0 => by
    rw [pre_step (by omega) (by omega)]
    have z : (ex k).map (fun x => det n (pre n (k + 1) ex en (put g k x))) = (ex k).map fun _ => (0 : Int) := by
      refine List.map_congr_left fun x hx' => no_root hx m (k + 1) (put g k x) (by omega) (fun i hi => ?_) h0
      simp only [put]
      split
      · exact hx k x (by omega) hx'
      · exact hg i (by omega)
    rw [z]
    generalize ex k = l
    induction l with
    | nil => rfl
    | cons a l ih =>
      show (0 : Int) + lsum _ = 0
      rw [ih]
      rfl
theorem trees_alike {n r r' : Nat} {ex : Nat → List Nat} {en : Nat → Nat} (hr : r < n) (hr' : r' < n) (hx : ∀ i x, i < n → x ∈ ex i → en x < n) (hb : ∀ j, j < n → sum n (fun p => rowOf (ex p) en p j) = 0) (g : Nat → Nat) : det n (pre r 0 ex en g) = det n (pre r' 0 ex en g) := by
  by_cases ne : r = r'
  · rw [ne]
  have R0 : ∀ i, pre n 0 ex en g i = if i = n then one n else rowOf (ex i) en i := fun i => by simp [pre]
  let L : Mat := fun i => rowOf (ex i) en i
  have eA : ∀ q, pre q 0 ex en g = setR L q (one q) := fun q => by
    funext i j
    simp only [pre, setR, L]
    split
    · rfl
    · simp
  rw [eA, eA]
  have s1 : setR L r (one r) = setR (setR L r (one r)) r' (rowOf (ex r') en r') := by
    conv => lhs; rw [← setR_self (setR L r (one r)) r']
    rw [setR_off _ fun z => ne z.symm]
  have h1 := det_addsum (l := r) (setR L r (one r)) (rowOf (ex r') en r') hr' n (Nat.le_refl _)
  rw [s1, ← h1]
  have h2 : det n (setR (setR L r (one r)) r' fun j => rowOf (ex r') en r' j + sum n fun p => if p = r' ∨ p = r then 0 else setR L r (one r) p j) = det n (setR (setR L r (one r)) r' fun j => -1 * rowOf (ex r) en r j + 0 * rowOf (ex r) en r j) := by
    refine det_congr fun i j hi hj => ?_
    simp only [setR]
    split
    · have c := hb j hj
      rw [sum_drop hr', sum_drop hr] at c
      have e3 : (sum n fun p => if p = r' ∨ p = r then (0 : Int) else if p = r then one r j else L p j) = sum n fun p => if p = r then 0 else if p = r' then 0 else rowOf (ex p) en p j := by
        refine sum_congr fun p hp => ?_
        by_cases a : p = r' <;> by_cases b : p = r <;> simp [a, b, L]
      rw [e3]
      have : (if r = r' then (0 : Int) else rowOf (ex r) en r j) = rowOf (ex r) en r j := if_neg ne
      rw [this] at c
      omega
    · rfl
  rw [h2, det_lin _ _ _ _ _ hr', det_swap L _ _ hr hr' ne]
  have e4 : setR L r (rowOf (ex r) en r) = L := setR_self L r
  rw [e4]
  have h5 := det_lin L 1 (-1) (one r') (one r) hr'
  have h6 : det n (setR L r' fun j => 1 * one r' j + -1 * one r j) = 0 := by
    have hz := no_root (n := n) (ex := fun p => if p = r' then [r] else (ex p).map en) (en := id) (fun i x hi hx' => by
      by_cases e : i = r'
      · rw [if_pos e] at hx'
        have : x = r := by simpa using hx'
        subst this
        exact hr
      · rw [if_neg e] at hx'
        obtain ⟨y, hy, rfl⟩ := List.mem_map.mp hx'
        exact hx i y hi hy) n 0 g (by omega) (fun i hi => absurd hi (by omega)) (by omega)
    rw [← hz]
    refine det_congr fun i j hi hj => ?_
    simp only [setR, pre]
    rw [if_neg (show ¬ i = n by omega), if_neg (show ¬ i < 0 by omega)]
    by_cases e : i = r'
    · subst e
      rw [if_pos rfl, if_pos rfl]
      simp only [rowOf, List.map_cons, List.map_nil, lsum, id]
      omega
    · rw [if_neg e, if_neg e, rowOf_id]
  omega
end Mx
namespace Mx
theorem sum_skip {k : Nat} (f : Nat → Int) : ∀ {n : Nat}, k ≤ n → sum (n + 1) f = f k + sum n fun i => f (skip k i)
  | 0, h => by
    have : k = 0 := by omega
    subst this
    show 0 + f 0 = f 0 + 0
    omega
  | n + 1, h => by
    show sum (n + 1) f + f (n + 1) = f k + (sum n (fun i => f (skip k i)) + f (skip k n))
    by_cases e : k = n + 1
    · subst e
      have e1 : sum n (fun i => f (skip (n + 1) i)) = sum n f := sum_congr fun i hi => by
        show f (skip (n + 1) i) = f i
        unfold skip
        rw [if_pos (by omega)]
      have e2 : skip (n + 1) n = n := by unfold skip; rw [if_pos (by omega)]
      rw [e1, e2]
      show sum n f + f n + f (n + 1) = _
      omega
    · have e2 : skip k n = n + 1 := by unfold skip; rw [if_neg (by omega)]
      rw [e2, sum_skip f (show k ≤ n by omega)]
      omega
theorem sg_add2 (i : Nat) : sg (i + 2) = sg i := by rw [sg_succ, sg_succ]; omega
theorem sg_mul (i j : Nat) : sg i * sg j = sg (i + j) := by
  unfold sg
  split <;> split <;> split <;> omega
theorem det_unit : ∀ {n k c : Nat} {A : Mat}, k ≤ n → c ≤ n → (∀ j, A k j = one c j) → det (n + 1) A = sg (k + c) * det n fun a b => A (skip k a) (skip c b)
  | n, k, 0, A, hk, hc, h => by
    show sum (n + 1) _ = _
    rw [sum_one (k := k) (by omega) fun i hi hne => ?_]
    · rw [h 0]
      have e : minor k A = fun a b => A (skip k a) (skip 0 b) := by
        funext a b
        simp [minor, skip]
      rw [e]
      simp [one]
    · have z : det n (minor i A) = 0 := by
        have hb := back_lt (n := n) (fun z : i = k => hne z) hi (by omega)
        refine det_nil hb fun j => ?_
        simp only [minor]
        rw [skip_back hne, h]
        simp [one]
      rw [z, Int.mul_zero]
  | 0, k, c + 1, A, hk, hc, h => absurd hc (by omega)
  | n + 1, k, c + 1, A, hk, hc, h => by
    show sum (n + 1 + 1) _ = _ * sum (n + 1) _
    rw [sum_skip _ hk]
    have e0 : A k 0 = 0 := by rw [h]; simp [one]
    rw [e0, Int.mul_zero, Int.zero_mul, Int.zero_add]
    have hm : ∀ (m : Nat) (f : Nat → Int) (c : Int), c * sum m f = sum m fun i => c * f i := fun m f c => by
      have := sum_lin c 0 m f f
      simp at this
      exact this.symm
    rw [hm]
    refine sum_congr fun i hi => ?_
    have hne : skip k i ≠ k := by unfold skip; split <;> omega
    have hb : back (skip k i) k ≤ n := by
      have := back_lt (n := n + 1) (fun z : skip k i = k => hne z) (skip_lt hi) (by omega)
      omega
    have ih := det_unit (A := minor (skip k i) A) hb (show c ≤ n by omega) fun j => by
      simp only [minor]
      rw [skip_back hne, h]
      simp [one]
    rw [ih]
    have em : (fun a b => minor (skip k i) A (skip (back (skip k i) k) a) (skip c b)) = minor i fun a b => A (skip k a) (skip (c + 1) b) := by
      funext a b
      simp only [minor]
      have s1 : skip (skip k i) (skip (back (skip k i) k) a) = skip k (skip i a) := by
        unfold back skip
        by_cases h1 : i < k
        · simp only [if_pos h1]
          rw [if_neg (show ¬ k < i by omega)]
          (repeat' split) <;> omega
        · simp only [if_neg h1]
          rw [if_pos (show k < i + 1 by omega)]
          (repeat' split) <;> omega
      have s2 : skip c b + 1 = skip (c + 1) (b + 1) := by
        unfold skip
        split <;> split <;> omega
      rw [s1, s2]
    rw [em]
    have s0 : skip (c + 1) 0 = 0 := by simp [skip]
    show sg (skip k i) * A (skip k i) 0 * (sg (back (skip k i) k + c) * det n _) = sg (k + (c + 1)) * (sg i * A (skip k i) (skip (c + 1) 0) * det n _)
    rw [s0]
    have sgn : sg (skip k i) * sg (back (skip k i) k + c) = sg (k + (c + 1)) * sg i := by
      rw [sg_mul, sg_mul]
      unfold back skip
      by_cases h1 : i < k
      · simp only [if_pos h1]
        rw [if_neg (show ¬ k < i by omega)]
        have : k + (c + 1) + i = (i + (k - 1 + c)) + 2 := by omega
        rw [this, sg_add2]
      · simp only [if_neg h1]
        rw [if_pos (show k < i + 1 by omega)]
        congr 1
        omega
    have a1 : sg (skip k i) * A (skip k i) 0 * (sg (back (skip k i) k + c) * det n (minor i fun a b => A (skip k a) (skip (c + 1) b))) = (sg (skip k i) * sg (back (skip k i) k + c)) * (A (skip k i) 0 * det n (minor i fun a b => A (skip k a) (skip (c + 1) b))) := by
      simp only [Int.mul_assoc, Int.mul_left_comm]
    rw [a1, sgn]
    simp only [Int.mul_assoc]
end Mx
namespace Mx
def pick {α : Type} (c : α → Nat) : List α → Nat → Option (α × Nat)
  | [], _ => none
  | x :: xs, i => if i < c x then some (x, i) else pick c xs (i - c x)
def ahead {α : Type} (c : α → Nat) : List α → Nat
  | [] => 0
  | x :: xs => c x + ahead c xs
def ends {α : Type} (next : α → List α) (leaf : α → Bool) : Nat → α → List α
  | 0, s => if leaf s then [s] else []
  | m + 1, s => (next s).flatMap (ends next leaf m)
end Mx
namespace Mx
theorem det_sums {n k : Nat} (T : Mat) (c : Nat → Int) (R : Mat) (hk : k < n) : ∀ m, det n (setR T k fun x => sum m fun i => c i * R i x) = sum m fun i => c i * det n (setR T k (R i))
  | 0 => det_nil hk fun j => by rw [setR_at]; rfl
  | m + 1 => by
    have h := det_lin T 1 (c m) (fun x => sum m fun i => c i * R i x) (R m) hk
    rw [det_sums T c R hk m, Int.one_mul] at h
    show _ = sum m _ + c m * _
    rw [← h]
    congr 2
    funext x
    show sum m _ + c m * R m x = _
    rw [Int.one_mul]
theorem unit_sum {n : Nat} (v : Nat → Int) {x : Nat} (hx : x < n) : (sum n fun c => v c * one c x) = v x := by
  rw [sum_one hx fun i hi hne => by
    show v i * one i x = 0
    simp [one, hne]]
  simp [one]
def cof (n : Nat) (A : Mat) (s p : Nat) : Int := det n (setR A s (one p))
theorem det_cof {n k : Nat} (A : Mat) (v : Nat → Int) (hk : k < n) : det n (setR A k v) = sum n fun c => v c * cof n A k c := by
  unfold cof
  rw [← det_sums A v one hk n]
  refine det_congr fun i j hi hj => ?_
  simp only [setR]
  split
  · rw [unit_sum v hj]
  · rfl
def tr (A : Mat) : Mat := fun i j => A j i
theorem det_tr : ∀ (n : Nat) (A : Mat), det n (tr A) = det n A
  | 0, _ => rfl
  | n + 1, A => by
    have e := det_cof (tr A) (tr A 0) (show 0 < n + 1 by omega)
    rw [setR_self] at e
    rw [e]
    show _ = sum (n + 1) _
    refine sum_congr fun c hc => ?_
    unfold cof
    rw [det_unit (k := 0) (c := c) (A := setR (tr A) 0 (one c)) (by omega) (by omega) (fun j => by rw [setR_at])]
    have em : (fun a b => setR (tr A) 0 (one c) (skip 0 a) (skip c b)) = tr (minor c A) := by
      funext a b
      rw [setR_off _ (by unfold skip; split <;> omega)]
      simp [tr, minor, skip]
    rw [em, det_tr n]
    simp only [tr, Nat.zero_add]
    rw [← Int.mul_assoc, Int.mul_comm (A c 0)]
theorem cof_tr {n s p : Nat} (A : Mat) (hs : s < n) (hp : p < n) : cof n A s p = cof n (tr A) p s := by
  cases n with
  | zero => omega
  | succ n =>
    unfold cof
    rw [det_unit (k := s) (c := p) (A := setR A s (one p)) (by omega) (by omega) (fun j => by rw [setR_at])]
    rw [det_unit (k := p) (c := s) (A := setR (tr A) p (one s)) (by omega) (by omega) (fun j => by rw [setR_at])]
    have sk : ∀ i a, skip i a ≠ i := fun i a => by unfold skip; split <;> omega
    have em : (fun a b => setR (tr A) p (one s) (skip p a) (skip s b)) = tr fun a b => setR A s (one p) (skip s a) (skip p b) := by
      funext a b
      simp only [tr]
      rw [setR_off _ (sk p a), setR_off _ (sk s b)]
      rfl
    rw [em, det_tr, Nat.add_comm]
theorem col_exp {n p q : Nat} (A : Mat) (hp : p < n) (hq : q < n) : (sum n fun i => A i q * cof n A i p) = if p = q then det n A else 0 := by
  have e : (sum n fun i => A i q * cof n A i p) = det n (setR (tr A) p (tr A q)) := by
    rw [det_cof _ _ hp]
    exact sum_congr fun i hi => by rw [cof_tr A hi hp]; rfl
  rw [e]
  split
  · rename_i h
    subst h
    rw [setR_self, det_tr]
  · rename_i h
    refine det_alike hp hq h ?_
    rw [setR_at, setR_off _ (fun z => h z.symm)]
theorem sum_swap (f : Nat → Nat → Int) (m : Nat) : ∀ n, (sum n fun i => sum m fun j => f i j) = sum m fun j => sum n fun i => f i j
  | 0 => by
    symm
    exact sum_zero fun i hi => rfl
  | n + 1 => by
    show sum n _ + sum m _ = sum m fun j => sum n _ + f n j
    rw [sum_swap f m n]
    have := sum_lin 1 1 m (fun j => sum n fun i => f i j) (fun j => f n j)
    simp only [Int.one_mul] at this
    exact this.symm
theorem sum_mul (c : Int) (m : Nat) (f : Nat → Int) : c * sum m f = sum m fun i => c * f i := by
  have := sum_lin c 0 m f f
  simp at this
  exact this.symm
theorem cramer {n q : Nat} (A : Mat) (v : Nat → Int) (hq : q < n) : det n A * v q = sum n fun i => det n (setR A i v) * A i q := by
  have e : (sum n fun i => det n (setR A i v) * A i q) = sum n fun i => sum n fun p => v p * (A i q * cof n A i p) := sum_congr fun i hi => by
    rw [det_cof A v hi, Int.mul_comm, sum_mul]
    exact sum_congr fun p _ => by rw [Int.mul_left_comm]
  rw [e, sum_swap]
  have e2 : (sum n fun p => sum n fun i => v p * (A i q * cof n A i p)) = sum n fun p => v p * (if p = q then det n A else 0) := sum_congr fun p hp => by
    rw [← sum_mul, col_exp A hp hq]
  rw [e2, sum_one hq fun i _ hne => by rw [if_neg hne, Int.mul_zero], if_pos rfl, Int.mul_comm]
theorem row_scale {n k : Nat} (T : Mat) (c : Int) (v : Nat → Int) (hk : k < n) : det n (setR T k fun j => c * v j) = c * det n (setR T k v) := by
  have := det_lin T c 0 v v hk
  simp only [Int.zero_mul, Int.add_zero] at this
  exact this
theorem two_rows {n k l : Nat} (A : Mat) (v w : Nat → Int) (hk : k < n) (hl : l < n) (ne : k ≠ l) :
    det n A * det n (setR (setR A k v) l w) = det n (setR A k v) * det n (setR A l w) - det n (setR A l v) * det n (setR A k w) := by
  rw [setR_comm A ne, ← row_scale _ _ _ hk]
  have e : det n (setR (setR A l w) k fun j => det n A * v j) = det n (setR (setR A l w) k fun j => sum n fun i => det n (setR A i v) * A i j) := by
    refine det_congr fun i j hi hj => ?_
    simp only [setR]
    split
    · exact cramer A v hj
    · rfl
  rw [e, det_sums _ _ _ hk, sum_drop hk, sum_one hl fun i hi hne => ?_]
  · rw [if_neg (fun z => ne z.symm)]
    have e1 : setR (setR A l w) k (A k) = setR A l w := by
      conv => rhs; rw [← setR_self (setR A l w) k]
      rw [setR_off _ ne]
    have e2 : det n (setR (setR A l w) k (A l)) = - det n (setR A k w) := by
      rw [← setR_comm A ne, det_swap A _ _ hk hl ne]
      have : setR (setR A k w) l (A l) = setR A k w := by
        conv => rhs; rw [← setR_self (setR A k w) l]
        rw [setR_off _ (fun z => ne z.symm)]
      rw [this]
    rw [e1, e2, Int.mul_neg, Int.sub_eq_add_neg]
  · show (if i = k then 0 else _) = 0
    by_cases h : i = k
    · rw [if_pos h]
    · rw [if_neg h]
      have : det n (setR (setR A l w) k (A i)) = 0 := det_alike hk hi (fun z => h z.symm) (by rw [setR_at, setR_off _ h, setR_off _ hne])
      rw [this, Int.mul_zero]
def bd (M : Nat) : Nat → Nat
  | 0 => 1
  | n + 1 => (n + 1) * (M * bd M n)
theorem sum_bound {f : Nat → Int} {B : Nat} : ∀ n, (∀ i, i < n → (f i).natAbs ≤ B) → (sum n f).natAbs ≤ n * B
  | 0, _ => by simp [sum]
  | n + 1, h => by
    have h1 := sum_bound n fun i hi => h i (by omega)
    have h2 := h n (by omega)
    show (sum n f + f n).natAbs ≤ _
    rw [Nat.succ_mul]
    omega
theorem sg_abs (i : Nat) : (sg i).natAbs = 1 := by unfold sg; split <;> rfl
theorem det_bound {M : Nat} : ∀ {n : Nat} {A : Mat}, (∀ i j, i < n → j < n → (A i j).natAbs ≤ M) → (det n A).natAbs ≤ bd M n
  | 0, _, _ => Nat.le_refl _
  | n + 1, A, h => by
    show (sum (n + 1) _).natAbs ≤ (n + 1) * (M * bd M n)
    refine sum_bound (n + 1) fun i hi => ?_
    rw [Int.natAbs_mul, Int.natAbs_mul, sg_abs, Nat.one_mul]
    refine Nat.mul_le_mul (h i 0 hi (by omega)) (det_bound fun a b ha hb => ?_)
    exact h _ _ (skip_lt ha) (by omega)
theorem bd_mono (M : Nat) (hM : 1 ≤ M) : ∀ {a b : Nat}, a ≤ b → bd M a ≤ bd M b := by
  intro a b h
  induction h with
  | refl => exact Nat.le_refl _
  | @step m h ih =>
    refine Nat.le_trans ih ?_
    show bd M m ≤ (m + 1) * (M * bd M m)
    rw [← Nat.mul_assoc]
    exact Nat.le_mul_of_pos_left _ (Nat.mul_pos (by omega) (by omega))
theorem bd_big : bd 64 32 < 2 ^ 400 := by decide +kernel
end Mx
namespace Mx
def Rows (en : Nat → Nat) (gv : Nat → List Nat) : Mat := fun i => rowOf (gv i) en i
def putG (gv : Nat → List Nat) (k : Nat) (xs : List Nat) : Nat → List Nat := fun i => if i = k then xs else gv i
theorem Rows_put (en : Nat → Nat) (gv : Nat → List Nat) (k : Nat) (xs : List Nat) : Rows en (putG gv k xs) = setR (Rows en gv) k (rowOf xs en k) := by
  funext i j
  simp only [Rows, putG, setR]
  by_cases h : i = k
  · subst h; simp
  · simp [h]
theorem det_less {n s : Nat} (A : Mat) (p x : Nat) (hs : s < n) : det n (setR A s fun j => one p j - one x j) = cof n A s p - cof n A s x := by
  have := det_lin A 1 (-1) (one p) (one x) hs
  unfold cof
  have e : (fun j => one p j - one x j) = fun j => 1 * one p j + -1 * one x j := by funext j; omega
  rw [e, this]
  omega
theorem det_shift {n s : Nat} (A : Mat) (en : Nat → Nat) (p : Nat) (xs : List Nat) (hs : s < n) : det n (setR A s (rowOf xs en p)) = lsum (xs.map fun x => cof n A s p - cof n A s (en x)) := by
  rw [det_rows A en p hs xs]
  congr 1
  exact List.map_congr_left fun x _ => det_less A p (en x) hs
theorem give_cof {n k s p : Nat} (A : Mat) (v : Nat → Int) (hk : k < n) (hs : s < n) (ne : s ≠ k) (h0 : 0 < det n A) :
    (det n (setR A k v) * cof n A s p - det n (setR A s v) * cof n A k p) / det n A = cof n (setR A k v) s p := by
  unfold cof
  rw [← two_rows A v (one p) hk hs (fun z => ne z.symm)]
  exact Int.mul_ediv_cancel_left _ (by omega)
theorem cof_same {n k p : Nat} (A : Mat) (v : Nat → Int) : cof n (setR A k v) k p = cof n A k p := by
  unfold cof
  rw [setR_set]
theorem lsum_nats {α : Type} (f : α → Nat) : ∀ l : List α, lsum (l.map fun x => (f x : Int)) = ((l.map f).sum : Nat)
  | [] => rfl
  | x :: xs => by
    show (f x : Int) + lsum (xs.map _) = _
    rw [lsum_nats f xs]
    simp
def chs (gv : Nat → List Nat) : Nat → Nat → List (List Nat)
  | 0, _ => [[]]
  | m + 1, k => (gv k).flatMap fun x => (chs gv m (k + 1)).map (x :: ·)
theorem mem_chs {gv : Nat → List Nat} : ∀ {m k : Nat} {c : List Nat}, c ∈ chs gv m k ↔ c.length = m ∧ ∀ i, i < m → c.getD i 0 ∈ gv (k + i)
  | 0, k, c => by
    simp only [chs, List.mem_singleton]
    constructor
    · rintro rfl
      exact ⟨rfl, fun i hi => absurd hi (by omega)⟩
    · rintro ⟨h, _⟩
      exact List.length_eq_zero_iff.mp h
  | m + 1, k, c => by
    simp only [chs, List.mem_flatMap, List.mem_map]
    constructor
    · rintro ⟨x, hx, d, hd, rfl⟩
      obtain ⟨h1, h2⟩ := mem_chs.mp hd
      refine ⟨by simp [h1], fun i hi => ?_⟩
      cases i with
      | zero => simpa using hx
      | succ i =>
        have := h2 i (by omega)
        rw [show k + 1 + i = k + (i + 1) by omega] at this
        simpa using this
    · rintro ⟨h1, h2⟩
      cases c with
      | nil => simp at h1
      | cons x d =>
        refine ⟨x, by simpa using h2 0 (by omega), d, mem_chs.mpr ⟨by simpa using h1, fun i hi => ?_⟩, rfl⟩
        have := h2 (i + 1) (by omega)
        rw [show k + (i + 1) = k + 1 + i by omega] at this
        simpa using this
def ofL (c : List Nat) : Nat → Nat := fun i => c.getD i 0
def outs (n : Nat) (en g : Nat → Nat) : Prop := leads (n + 1) n en g
theorem outs_congr {n : Nat} {en g g' : Nat → Nat} (hx : ∀ i, i < n → en (g i) ≤ n) (h : ∀ i, i < n → g i = g' i) (o : outs n en g) : outs n en g' := fun i hi => by
  obtain ⟨k, hk⟩ := o i hi
  refine ⟨k, ?_⟩
  have : ∀ k i, i < n + 1 → iter (fun i => if i = n then n else en (g' i)) k i = iter (fun i => if i = n then n else en (g i)) k i := by
    intro k
    induction k with
    | zero => intro i _; rfl
    | succ k ih =>
      intro i hi
      show iter _ k _ = iter _ k _
      by_cases e : i = n
      · simp only [e, if_true]
        exact ih n (by omega)
      · simp only [if_neg e]
        rw [← h i (by omega)]
        exact ih _ (by have := hx i (by omega); omega)
  rw [this k i hi]
  exact hk
open Classical in
noncomputable def trs (n : Nat) (en : Nat → Nat) (gv : Nat → List Nat) : List (List Nat) := (chs gv n 0).filter fun c => decide (outs n en (ofL c))
open Classical in
theorem many_len {n : Nat} {en : Nat → Nat} {gv : Nat → List Nat} (hx : ∀ i x, i < n → x ∈ gv i → en x ≤ n) : ∀ (m k : Nat) (g : Nat → Nat), k + m = n → (∀ i, i < k → en (g i) ≤ n) →
    many (n + 1) n gv en (m + 1) k g = (((chs gv m k).filter fun c => decide (outs n en fun i => if i < k then g i else c.getD (i - k) 0)).length : Nat)
  | 0, k, g, e, hg => by
    have e' : k = n := by omega
    subst e'
    unfold many
    rw [if_pos rfl]
    unfold many
    have ic : leads (k + 1) k en g ↔ outs k en fun i => if i < k then g i else ([] : List Nat).getD (i - k) 0 := by
      constructor
      · exact fun h => outs_congr hg (fun i hi => by rw [if_pos hi]) h
      · exact fun h => outs_congr (fun i hi => by simp only [if_pos hi]; exact hg i hi) (fun i hi => by simp only [if_pos hi]) h
    by_cases h : leads (k + 1) k en g
    · rw [if_pos h]
      have := ic.mp h
      show (1 : Int) = (([([] : List Nat)].filter _).length : Nat)
      rw [List.filter_cons, if_pos (decide_eq_true this)]
      rfl
    · rw [if_neg h]
      have : ¬ outs k en fun i => if i < k then g i else ([] : List Nat).getD (i - k) 0 := fun z => h (ic.mpr z)
      show (0 : Int) = (([([] : List Nat)].filter _).length : Nat)
      rw [List.filter_cons, if_neg (by simpa using this)]
      rfl
  | m + 1, k, g, e, hg => by
    unfold many
    rw [if_neg (by omega)]
    have ih : ∀ x ∈ gv k, many (n + 1) n gv en (m + 1) (k + 1) (put g k x) = ((((chs gv m (k + 1)).map (x :: ·)).filter fun c => decide (outs n en fun i => if i < k then g i else c.getD (i - k) 0)).length : Nat) := fun x hxk => by
      rw [many_len hx m (k + 1) (put g k x) (by omega) fun i hi => ?_]
      · rw [List.filter_map, List.length_map]
        congr 2
        refine List.filter_congr fun c _ => ?_
        have ef : (fun i => if i < k + 1 then put g k x i else c.getD (i - (k + 1)) 0) = fun i => if i < k then g i else (x :: c).getD (i - k) 0 := by
          funext i
          by_cases h1 : i < k
          · simp [put, h1, show i < k + 1 by omega, show i ≠ k by omega]
          · by_cases h2 : i = k
            · subst h2; simp [put]
            · have : i - k = (i - (k + 1)) + 1 := by omega
              rw [if_neg h1, if_neg (show ¬ i < k + 1 by omega), this, List.getD_cons_succ]
        simp only [ef, Function.comp_apply]
      · simp only [put]
        split
        · exact hx k x (by omega) hxk
        · exact hg i (by omega)
    have e1 : (gv k).map (fun x => many (n + 1) n gv en (m + 1) (k + 1) (put g k x)) = (gv k).map fun x => ((((chs gv m (k + 1)).map (x :: ·)).filter fun c => decide (outs n en fun i => if i < k then g i else c.getD (i - k) 0)).length : Int) := List.map_congr_left ih
    rw [e1, lsum_nats]
    show _ = ((((gv k).flatMap fun x => (chs gv m (k + 1)).map (x :: ·)).filter _).length : Int)
    rw [List.filter_flatMap, List.length_flatMap]
theorem det_trs {n : Nat} {en : Nat → Nat} {gv : Nat → List Nat} (hx : ∀ i x, i < n → x ∈ gv i → en x ≤ n) : det n (Rows en gv) = ((trs n en gv).length : Nat) := by
  have h1 : det (n + 1) (pre n 0 gv en fun _ => 0) = det n (Rows en gv) := by
    rw [det_unit (k := n) (c := n) (Nat.le_refl _) (Nat.le_refl _) fun j => by simp [pre]]
    have s2 : sg (n + n) = 1 := by unfold sg; rw [if_pos (by omega)]
    rw [s2, Int.one_mul]
    refine det_congr fun i j hi hj => ?_
    have a1 : skip n i = i := by unfold skip; rw [if_pos hi]
    have a2 : skip n j = j := by unfold skip; rw [if_pos hj]
    rw [a1, a2]
    simp [pre, Rows, show i ≠ n by omega]
  rw [← h1]
  have hx' : ∀ i x, i < n + 1 → x ∈ (if i = n then [] else gv i) → en x < n + 1 := fun i x hi hm => by
    by_cases e : i = n
    · rw [if_pos e] at hm; cases hm
    · rw [if_neg e] at hm
      have := hx i x (by omega) hm
      omega
  have h2 : pre n 0 gv en (fun _ => 0) = pre n 0 (fun i => if i = n then [] else gv i) en fun _ => 0 := by
    funext i
    simp only [pre]
    by_cases e : i = n
    · simp [e]
    · simp [e]
  rw [h2, many_det (by omega) hx' (n + 1) 0 _ (by omega) (fun i hi => absurd hi (by omega)), many_len (fun i x hi hm => hx i x hi (by rw [if_neg (by omega)] at hm; exact hm)) n 0 _ (by omega) (fun i hi => absurd hi (by omega))]
  unfold trs
  have hc : ∀ m k, k + m = n → chs (fun i => if i = n then [] else gv i) m k = chs gv m k := by
    intro m
    induction m with
    | zero => intro k _; rfl
    | succ m ih =>
      intro k hk
      unfold chs
      rw [ih (k + 1) (by omega), if_neg (by omega)]
  rw [hc n 0 (by omega)]
  rfl
theorem det_nonneg {n : Nat} {en : Nat → Nat} {gv : Nat → List Nat} (hx : ∀ i x, i < n → x ∈ gv i → en x ≤ n) : 0 ≤ det n (Rows en gv) := by
  rw [det_trs hx]; omega
theorem outs_straight {n k m : Nat} {en g : Nat → Nat} (hm : en m = n) (o : outs n en g) : outs n en (put g k m) := fun i hi => by
  obtain ⟨t, ht⟩ := o i hi
  have : ∀ t i, iter (fun i => if i = n then n else en (g i)) t i = n → ∃ t', iter (fun i => if i = n then n else en (put g k m i)) t' i = n := by
    intro t
    induction t with
    | zero => intro i h; exact ⟨0, h⟩
    | succ t ih =>
      intro i h
      by_cases e : i = n
      · exact ⟨0, e⟩
      · by_cases ek : i = k
        · refine ⟨1, ?_⟩
          show (if i = n then n else en (put g k m i)) = n
          rw [if_neg e]
          simp [put, ek, hm]
        · have h' : iter (fun i => if i = n then n else en (g i)) t (en (g i)) = n := by
            have h2 : iter (fun i => if i = n then n else en (g i)) t (if i = n then n else en (g i)) = n := h
            rw [if_neg e] at h2
            exact h2
          obtain ⟨t', ht'⟩ := ih _ h'
          refine ⟨t' + 1, ?_⟩
          show iter _ t' (if i = n then n else en (put g k m i)) = n
          rw [if_neg e]
          simp only [put, if_neg ek]
          exact ht'
  exact this t i ht
theorem zero_stays {n k m : Nat} {en : Nat → Nat} {gv : Nat → List Nat} (hk : k < n) (hm : en m = n) (hgk : gv k = [m]) (hx : ∀ i x, i < n → x ∈ gv i → en x ≤ n) (h0 : det n (Rows en gv) = 0) (xs : List Nat) (hxs : ∀ x ∈ xs, en x ≤ n) : det n (Rows en (putG gv k xs)) = 0 := by
  have hx2 : ∀ i x, i < n → x ∈ putG gv k xs i → en x ≤ n := fun i x hi h => by
    unfold putG at h
    split at h
    · exact hxs x h
    · exact hx i x hi h
  rw [det_trs hx] at h0
  rw [det_trs hx2]
  have e0 : trs n en gv = [] := List.length_eq_zero_iff.mp (by omega)
  have : trs n en (putG gv k xs) = [] := by
    rw [List.eq_nil_iff_forall_not_mem]
    intro c hc
    unfold trs at hc e0
    rw [List.mem_filter] at hc
    obtain ⟨h1, h2⟩ := hc
    have ho : outs n en (ofL c) := by simpa using h2
    obtain ⟨l1, l2⟩ := mem_chs.mp h1
    have hin : c.set k m ∈ chs gv n 0 := by
      refine mem_chs.mpr ⟨by simp [l1], fun i hi => ?_⟩
      by_cases e : i = k
      · subst e
        rw [Nat.zero_add, hgk, List.getD_eq_getElem?_getD, List.getElem?_set]
        simp [l1, hi]
      · have q := l2 i hi
        rw [Nat.zero_add] at q ⊢
        unfold putG at q
        rw [if_neg e] at q
        rw [List.getD_eq_getElem?_getD, List.getElem?_set, if_neg (fun z => e z.symm), ← List.getD_eq_getElem?_getD]
        exact q
    have hout : outs n en (ofL (c.set k m)) := by
      refine outs_congr (g := put (ofL c) k m) (fun i hi => ?_) (fun i hi => ?_) (outs_straight hm ho)
      · simp only [put]
        split
        · omega
        · have q := l2 i hi
          rw [Nat.zero_add] at q
          exact hx2 i _ hi q
      · simp only [put, ofL]
        rw [List.getD_eq_getElem?_getD, List.getD_eq_getElem?_getD, List.getElem?_set]
        by_cases e : i = k
        · subst e; simp [l1, hi]
        · rw [if_neg e, if_neg (fun z => e z.symm)]
    have : c.set k m ∈ (chs gv n 0).filter fun c => @decide (outs n en (ofL c)) (Classical.propDecidable _) := by
      rw [List.mem_filter]
      exact ⟨hin, by simpa using hout⟩
    rw [e0] at this
    cases this
  rw [this]
  rfl
theorem det_start {n m : Nat} {en : Nat → Nat} (hm : en m = n) : det n (Rows en fun _ => [m]) = 1 := by
  rw [← det_one n]
  refine det_congr fun i j hi hj => ?_
  simp [Rows, rowOf, lsum, one, hm, show n ≠ j by omega]
theorem cof_start {n m s p : Nat} {en : Nat → Nat} (hm : en m = n) (hs : s < n) (hp : p < n) : cof n (Rows en fun _ => [m]) s p = if p = s then 1 else 0 := by
  have e : cof n (Rows en fun _ => [m]) s p = det n (setR one s (one p)) := by
    refine det_congr fun i j hi hj => ?_
    simp only [setR]
    split
    · rfl
    · simp [Rows, rowOf, lsum, one, hm, show n ≠ j by omega]
  rw [e]
  split
  · rename_i h
    rw [h, setR_self, det_one]
  · rename_i h
    exact det_alike hs hp (fun z => h z.symm) (by rw [setR_at, setR_off _ h])
theorem lsum_bound {α : Type} {f : α → Int} : ∀ l : List α, (∀ x ∈ l, (f x).natAbs ≤ 1) → (lsum (l.map f)).natAbs ≤ l.length
  | [], _ => by simp [lsum]
  | x :: xs, h => by
    have h1 := h x List.mem_cons_self
    have h2 := lsum_bound xs fun y hy => h y (List.mem_cons_of_mem _ hy)
    show (f x + lsum (xs.map f)).natAbs ≤ _
    rw [List.length_cons]
    omega
theorem row_bound (xs : List Nat) (en : Nat → Nat) (p j : Nat) : (rowOf xs en p j).natAbs ≤ xs.length := by
  refine lsum_bound xs fun x _ => ?_
  unfold one
  split <;> split <;> decide
theorem one_bound (p j : Nat) : (one p j).natAbs ≤ 64 := by unfold one; split <;> decide
theorem det_le {n : Nat} {en : Nat → Nat} {gv : Nat → List Nat} (hn : n ≤ 32) (hg : ∀ i, i < n → (gv i).length ≤ 64) : (det n (Rows en gv)).natAbs ≤ bd 64 32 :=
  Nat.le_trans (det_bound fun i j hi hj => Nat.le_trans (row_bound _ _ _ _) (hg i hi)) (bd_mono 64 (by decide) hn)
theorem cof_le {n s p : Nat} {en : Nat → Nat} {gv : Nat → List Nat} (hn : n ≤ 32) (hg : ∀ i, i < n → (gv i).length ≤ 64) : (cof n (Rows en gv) s p).natAbs ≤ bd 64 32 := by
  refine Nat.le_trans (det_bound (M := 64) fun i j hi hj => ?_) (bd_mono 64 (by decide) hn)
  simp only [setR]
  split
  · exact one_bound p j
  · exact Nat.le_trans (row_bound _ _ _ _) (hg i hi)
end Mx
namespace Mx
end Mx
namespace Mx
def endsOf (ps : List (Nat × Nat)) (i : Nat) : List Nat := (ps.filter fun q => q.1 == i).map (·.2)
def treeM (ps : List (Nat × Nat)) (r : Nat) : Mat := fun i => if i = r then one r else rowOf (endsOf ps i) id i
def even (n : Nat) (ps : List (Nat × Nat)) : Prop := ∀ p, p < n → ps.countP (fun q => q.1 == p) = ps.countP (fun q => q.2 == p)
theorem row_count (ps : List (Nat × Nat)) (n : Nat) (h : ∀ q ∈ ps, q.1 < n) (j : Nat) (hj : j < n) : (sum n fun p => rowOf (endsOf ps p) id p j) = (ps.countP (fun q => q.1 == j) : Int) - (ps.countP (fun q => q.2 == j) : Int) := by
  induction ps with
  | nil =>
    have : (sum n fun p => rowOf (endsOf [] p) id p j) = 0 := sum_zero fun i _ => rfl
    rw [this]
    rfl
  | cons q ps ih =>
    have ih := ih fun x hx => h x (List.mem_cons_of_mem _ hx)
    have hq := h q List.mem_cons_self
    have e : (sum n fun p => rowOf (endsOf (q :: ps) p) id p j) = sum n fun p => 1 * rowOf (endsOf ps p) id p j + 1 * (if p = q.1 then one p j - one q.2 j else 0) := sum_congr fun p _ => by
      unfold endsOf
      rw [List.filter_cons]
      by_cases e : q.1 = p
      · subst e
        simp only [beq_self_eq_true, if_true, List.map_cons, Int.one_mul]
        show (one q.1 j - one q.2 j) + _ = _
        unfold rowOf
        simp only [id]
        omega
      · have e' : (q.1 == p) = false := by simpa using e
        rw [e', if_neg (by simp), if_neg (fun z => e z.symm)]
        simp
    rw [e, sum_lin, ih, sum_one hq fun i _ hne => by rw [if_neg hne], if_pos rfl, List.countP_cons, List.countP_cons]
    unfold one
    by_cases h1 : q.1 = j <;> by_cases h2 : q.2 = j <;> simp [h1, h2] <;> omega
theorem trees_even {n r r' : Nat} {ps : List (Nat × Nat)} (hr : r < n) (hr' : r' < n) (h : ∀ q ∈ ps, q.1 < n ∧ q.2 < n) (he : even n ps) : det n (treeM ps r) = det n (treeM ps r') := by
  have hx : ∀ i x, i < n → x ∈ endsOf ps i → id x < n := fun i x _ hx => by
    obtain ⟨q, hq, rfl⟩ := List.mem_map.mp hx
    exact (h q (List.mem_filter.mp hq).1).2
  have := trees_alike (ex := endsOf ps) (en := id) hr hr' hx (fun j hj => by rw [row_count ps n (fun q hq => (h q hq).1) j hj, he j hj]; omega) fun _ => 0
  have e : ∀ r, pre r 0 (endsOf ps) id (fun _ => 0) = treeM ps r := fun r => by
    funext i
    simp [pre, treeM]
  rw [e, e] at this
  exact this
end Mx
namespace Mx
end Mx
namespace Mx
end Mx
namespace Mx
inductive Reach (st en : Nat → Nat) (m s : Nat) : Nat → Prop
  | base : Reach st en m s s
  | step {j : Nat} : j < m → Reach st en m s (st j) → Reach st en m s (en j)
theorem reach_iff {st en : Nat → Nat} {m s : Nat} {S : Nat → Prop} (h0 : S s) (hc : ∀ j, j < m → S (st j) → S (en j)) (hs : ∀ p, S p → Reach st en m s p) (p : Nat) : S p ↔ Reach st en m s p := by
  refine ⟨hs p, fun h => ?_⟩
  induction h with
  | base => exact h0
  | step hj _ ih => exact hc _ hj ih
def mark (M : List Bool) (q : Nat × Nat) : List Bool := if M.getD q.1 false then M.set q.2 true else M
def pass (rs : List (Nat × Nat)) (M : List Bool) : List Bool := rs.foldl mark M
end Mx
namespace Mx
def flat (n : Nat) (rem : Nat → List Nat) : List Nat := (List.range n).flatMap rem
def putL (rem : Nat → List Nat) (p : Nat) (xs : List Nat) : Nat → List Nat := fun q => if q = p then xs else rem q
theorem flat_succ (n : Nat) (rem : Nat → List Nat) : flat (n + 1) rem = flat n rem ++ rem n := by
  simp [flat, List.range_succ]
theorem flat_congr {n : Nat} {a b : Nat → List Nat} (h : ∀ q, q < n → a q = b q) : flat n a = flat n b := by
  induction n with
  | zero => rfl
  | succ n ih => rw [flat_succ, flat_succ, ih fun q hq => h q (by omega), h n (by omega)]
theorem flat_put {n p : Nat} {rem : Nat → List Nat} {x : Nat} {xs : List Nat} (hp : p < n) (e : rem p = x :: xs) : (flat n rem).Perm (x :: flat n (putL rem p xs)) := by
  induction n with
  | zero => omega
  | succ n ih =>
    rw [flat_succ, flat_succ]
    by_cases h : p = n
    · subst h
      have e1 : flat p (putL rem p xs) = flat p rem := flat_congr fun q hq => by
        simp only [putL]; rw [if_neg (by omega)]
      have e2 : putL rem p xs p = xs := by simp [putL]
      rw [e1, e2, e]
      exact List.perm_middle
    · have e2 : putL rem p xs n = rem n := by
        simp only [putL]; rw [if_neg (by omega)]
      rw [e2]
      exact (ih (by omega)).append_right _
theorem mem_flat {n : Nat} {rem : Nat → List Nat} {x : Nat} : x ∈ flat n rem ↔ ∃ q, q < n ∧ x ∈ rem q := by
  simp [flat, List.mem_flatMap]
def key (n s p : Nat) (en : Nat → Nat) (rem : Nat → List Nat) : Prop := ∀ q, q < n → (rem q).length + (if q = s then 1 else 0) = (flat n rem).countP (fun x => en x == q) + (if q = p then 1 else 0)
def walk (en : Nat → Nat) : Nat → Nat → (Nat → List Nat) → List Nat
  | 0, _, _ => []
  | k + 1, p, rem => match rem p with
    | [] => []
    | x :: xs => x :: walk en k (en x) (putL rem p xs)
def path (st en : Nat → Nat) : Nat → List Nat → Nat → Prop
  | p, [], e => p = e
  | p, x :: W, e => st x = p ∧ path st en (en x) W e
theorem flat_nil {n : Nat} {rem : Nat → List Nat} (h : ∀ q, q < n → rem q = []) : flat n rem = [] := by
  rw [List.eq_nil_iff_forall_not_mem]
  intro x hx
  obtain ⟨q, hq, hm⟩ := mem_flat.mp hx
  rw [h q hq] at hm
  cases hm
inductive Comes (st en : Nat → Nat) (s : Nat) (W : List Nat) : Nat → Prop
  | here : Comes st en s W s
  | on {x : Nat} (W1 W2 : List Nat) : W = W1 ++ x :: W2 → (∀ y ∈ W2, st y ≠ st x) → Comes st en s W (en x) → Comes st en s W (st x)
theorem Comes.cons {st en : Nat → Nat} {s : Nat} {W : List Nat} {v : Nat} (z : Nat) (h : Comes st en s W v) : Comes st en s (z :: W) v := by
  induction h with
  | here => exact .here
  | on W1 W2 e hn _ ih => exact .on (z :: W1) W2 (by rw [e]; rfl) hn ih
end Mx
namespace Mx
def fact : Nat → Nat
  | 0 => 1
  | n + 1 => (n + 1) * fact n
theorem fact_pos : ∀ n, 0 < fact n
  | 0 => Nat.one_pos
  | n + 1 => Nat.mul_pos (Nat.succ_pos _) (fact_pos n)
end Mx
namespace Mx
def prodTo (b : Nat → Nat) : Nat → Nat
  | 0 => 1
  | p + 1 => prodTo b p * b p
theorem prodTo_pos {b : Nat → Nat} : ∀ {n : Nat}, (∀ p, p < n → 0 < b p) → 0 < prodTo b n
  | 0, _ => Nat.one_pos
  | n + 1, h => Nat.mul_pos (prodTo_pos fun p hp => h p (by omega)) (h n (by omega))
theorem flat_filter {n : Nat} {st : Nat → Nat} : ∀ (l : List Nat), (∀ x ∈ l, st x < n) → (flat n fun p => l.filter fun j => st j == p).Perm l
  | [], _ => by
    have : flat n (fun p => ([] : List Nat).filter fun j => st j == p) = [] := flat_nil fun q _ => rfl
    rw [this]
  | x :: l, h => by
    have ih := flat_filter l fun y hy => h y (List.mem_cons_of_mem _ hy)
    have hx := h x List.mem_cons_self
    have e : (fun p => (x :: l).filter fun j => st j == p) = fun p => if p = st x then x :: l.filter (fun j => st j == p) else l.filter fun j => st j == p := by
      funext p
      rw [List.filter_cons]
      by_cases e : p = st x
      · rw [if_pos e, e]; simp
      · rw [if_neg e]
        have : (st x == p) = false := by simpa using fun z => e z.symm
        rw [this]
        simp
    have e2 : (flat n fun p => (x :: l).filter fun j => st j == p).Perm (x :: flat n (putL (fun p => (x :: l).filter fun j => st j == p) (st x) (l.filter fun j => st j == st x))) := flat_put hx (by simp)
    refine e2.trans (List.Perm.cons x ?_)
    have e3 : flat n (putL (fun p => (x :: l).filter fun j => st j == p) (st x) (l.filter fun j => st j == st x)) = flat n fun p => l.filter fun j => st j == p := flat_congr fun q _ => by
      unfold putL
      by_cases eq : q = st x
      · rw [if_pos eq, eq]
      · rw [if_neg eq]
        show (x :: l).filter (fun j => st j == q) = _
        rw [List.filter_cons]
        have : (st x == q) = false := by simpa using fun z => eq z.symm
        rw [this]
        simp
    rw [e3]
    exact ih
section
variable {n m : Nat} {st en : Nat → Nat}
end
end Mx
set_option Elab.async false
set_option linter.all false
set_option maxRecDepth 100000
set_option maxHeartbeats 4000000
namespace L2
open PySem PySem.Spec PyProof.Rows Mx
def rowV (n : Nat) (f : Nat → Int) : List V := (List.range n).map fun p => V.int (f p)
theorem rowV_len (n : Nat) (f : Nat → Int) : (rowV n f).length = n := by simp [rowV]
theorem rowV_get {n p : Nat} (f : Nat → Int) (h : p < n) : (rowV n f)[p]? = some (.int (f p)) := by simp [rowV, h]
theorem rowV_some {n p : Nat} {f : Nat → Int} {x : V} (h : (rowV n f)[p]? = some x) : x = .int (f p) ∧ p < n := by
  have hl : p < n := by
    obtain ⟨a, _⟩ := List.getElem?_eq_some_iff.mp h
    rwa [rowV_len] at a
  rw [rowV_get f hl] at h
  exact ⟨(Option.some.inj h).symm, hl⟩
theorem rowV_succ (n : Nat) (f : Nat → Int) : rowV (n + 1) f = rowV n f ++ [.int (f n)] := by simp [rowV, List.range_succ]
theorem rowV_congr {n : Nat} {f g : Nat → Int} (h : ∀ p, p < n → f p = g p) : rowV n f = rowV n g := List.map_congr_left fun p hp => by rw [h p (List.mem_range.mp hp)]
theorem nats_get {l : List Nat} {i : Nat} {z : V} (hz : (nats l)[i]? = some z) : ∃ y : Nat, l[i]? = some y ∧ z = .int ((y : Nat) : Int) := by
  unfold nats at hz
  rw [List.getElem?_map] at hz
  cases h : l[i]? with
  | none => rw [h] at hz; cases hz
  | some y => rw [h] at hz; exact ⟨y, rfl, (Option.some.inj hz).symm⟩
theorem nats_len (l : List Nat) : (nats l).length = l.length := by unfold nats; rw [List.length_map]
theorem tms : ¬ (("many" : Str) = "stopped") := by decide +kernel
def tfl (L : Addr) (m : Int) : List (Str × V) := putF "stopped" (.ref L) (putF "many" (.int m) [])
theorem tfl_eq (L : Addr) (m : Int) : tfl L m = [(("many" : Str), V.int m), (("stopped" : Str), V.ref L)] := by
  unfold tfl
  show putF "stopped" (.ref L) [(("many" : Str), V.int m)] = _
  unfold putF
  rw [if_neg tms]
  rfl
theorem tfl_many (L : Addr) (m : Int) : (tfl L m).lookup ("many" : Str) = some (.int m) := by
  unfold tfl
  rw [lookup_putF, if_neg tms, lookup_putF, if_pos rfl]
theorem tfl_stopped (L : Addr) (m : Int) : (tfl L m).lookup ("stopped" : Str) = some (.ref L) := by
  unfold tfl
  rw [lookup_putF, if_pos rfl]
theorem tfl_no (L : Addr) (m : Int) {x : Str} (h1 : ¬ x = "many") (h2 : ¬ x = "stopped") : (tfl L m).lookup x = none := by
  unfold tfl
  rw [lookup_putF, if_neg h2, lookup_putF, if_neg h1]
  all_goals rfl
theorem tfl_len (L : Addr) (m : Int) : (tfl L m).length < 1000 := by rw [tfl_eq]; show 2 < 1000; decide
theorem tfl_put1 (L L' : Addr) (m : Int) : putF "stopped" (.ref L') (tfl L m) = tfl L' m := by
  rw [tfl_eq, tfl_eq]
  unfold putF
  rw [if_neg tms]
  unfold putF
  rw [if_pos rfl]
theorem tfl_put2 (L : Addr) (m m' : Int) : putF "many" (.int m') (tfl L m) = tfl L m' := by
  rw [tfl_eq, tfl_eq]
  unfold putF
  rw [if_pos rfl]
structure TallyAt (C : Addr) (H : Hp) (x L : Addr) (rs : List Addr) (n : Nat) (m : Int) (R : Nat → Nat → Int) : Prop where
  ob : ∃ dx, H x = some (.ins C dx (tfl L m))
  ls : H L = some (.lst (rs.map V.ref))
  ln : rs.length = n
  rw : ∀ (s : Nat) (a : Addr), rs[s]? = some a → H a = some (.lst (rowV n (R s)))
theorem TallyAt.same {C : Addr} {H H' : Hp} {x L : Addr} {rs : List Addr} {n : Nat} {m : Int} {R : Nat → Nat → Int} (T : TallyAt C H x L rs n m R) (s : Same H H') : TallyAt C H' x L rs n m R :=
  ⟨let ⟨dx, e⟩ := T.ob; ⟨dx, s _ _ e⟩, s _ _ T.ls, T.ln, fun i a h => s _ _ (T.rw i a h)⟩
theorem TallyAt.congr {C : Addr} {H : Hp} {x L : Addr} {rs : List Addr} {n : Nat} {m : Int} {R R' : Nat → Nat → Int} (T : TallyAt C H x L rs n m R) (h : ∀ s p, s < n → p < n → R s p = R' s p) : TallyAt C H x L rs n m R' :=
  ⟨T.ob, T.ls, T.ln, fun i a hi => by
    have hl : i < n := by
      obtain ⟨b, _⟩ := List.getElem?_eq_some_iff.mp hi
      rw [T.ln] at b
      exact b
    rw [T.rw i a hi, rowV_congr fun p hp => h i p hl hp]⟩
theorem TallyAt.get {C : Addr} {H : Hp} {x L : Addr} {rs : List Addr} {n s : Nat} {m : Int} {R : Nat → Nat → Int} (T : TallyAt C H x L rs n m R) (h : s < n) : ∃ a, rs[s]? = some a ∧ atI (rs.map V.ref) ((s : Nat) : Int) = some (.ref a) ∧ H a = some (.lst (rowV n (R s))) := by
  have hl : s < rs.length := by rw [T.ln]; exact h
  refine ⟨rs[s], by simp [hl], atI_nat (by simp [hl]), T.rw s _ (by simp [hl])⟩
theorem row_at {n p : Nat} (f : Nat → Int) (h : p < n) : atI (rowV n f) ((p : Nat) : Int) = some (.int (f p)) := atI_nat (rowV_get f h)
def shf (R : Nat → Nat → Int) (es : List Nat) (k s : Nat) : Int := (es.map fun e => R s k - R s e).sum
def chg (m : Int) (R : Nat → Nat → Int) (es : List Nat) (k : Nat) : Nat → Nat → Int := fun s p => if s = k then R s p else (shf R es k k * R s p - shf R es k s * R k p) / m
theorem lsum_eq : ∀ l : List Int, lsum l = l.sum
  | [] => rfl
  | x :: xs => by show x + lsum xs = _; rw [lsum_eq xs]; simp
theorem shf_det {n k s : Nat} {A : Mat} {R : Nat → Nat → Int} {es : List Nat} (hR : ∀ s p, s < n → p < n → R s p = cof n A s p) (hk : k < n) (hs : s < n) (he : ∀ e ∈ es, e < n) : shf R es k s = det n (setR A s (rowOf es id k)) := by
  rw [det_shift A id k es hs, lsum_eq]
  unfold shf
  congr 1
  refine List.map_congr_left fun e h => ?_
  rw [hR s k hs hk, hR s e hs (he e h)]
  rfl
theorem chg_cof {n k s p : Nat} {A : Mat} {R : Nat → Nat → Int} {es : List Nat} (hR : ∀ s p, s < n → p < n → R s p = cof n A s p) (hk : k < n) (hs : s < n) (hp : p < n) (he : ∀ e ∈ es, e < n) (h0 : 0 < det n A) : chg (det n A) R es k s p = cof n (setR A k (rowOf es id k)) s p := by
  unfold chg
  by_cases e : s = k
  · rw [if_pos e, hR s p hs hp, e, cof_same]
  · rw [if_neg e, shf_det hR hk hk he, shf_det hR hk hs he, hR s p hs hp, hR k p hk hp]
    exact give_cof A _ hk hs e h0
theorem Big.of_le {i : Int} (h : i.natAbs ≤ bd 64 32) : Big i := Nat.lt_of_le_of_lt h (Nat.lt_of_lt_of_le bd_big (Nat.pow_le_pow_right (by decide) (by decide)))
structure GiveOk (n k : Nat) (m : Int) (R : Nat → Nat → Int) (es : List Nat) : Prop where
  m0 : 0 < m
  bm : Big m
  bR : ∀ s p, s < n → p < n → Big (R s p)
  bs : ∀ s, s < n → Big (shf R es k s)
theorem give_ok {n k : Nat} {R : Nat → Nat → Int} {es : List Nat} {en : Nat → Nat} {gv : Nat → List Nat} (hR : ∀ s p, s < n → p < n → R s p = cof n (Rows en gv) s p) (hn : n ≤ 32) (hg : ∀ i, i < n → (gv i).length ≤ 64) (hk : k < n) (he : ∀ e ∈ es, e < n) (hl : es.length ≤ 64) (h0 : 0 < det n (Rows en gv)) : GiveOk n k (det n (Rows en gv)) R es :=
  ⟨h0, Big.of_le (det_le hn hg), fun s p hs hp => by rw [hR s p hs hp]; exact Big.of_le (cof_le hn hg), fun s hs => by
    rw [shf_det hR hk hs he]
    refine Big.of_le (Nat.le_trans (det_bound (M := 64) fun i j hi hj => ?_) (bd_mono 64 (by decide) hn))
    simp only [setR]
    split
    · exact Nat.le_trans (row_bound _ _ _ _) hl
    · exact Nat.le_trans (row_bound _ _ _ _) (hg i hi)⟩
def enR (n : Nat) (ps : List Pr) (j : Nat) : Nat := (ps[j]?.map fun q => q.2.toNat).getD n
def gvL (ps : List Pr) (l : List Nat) (i : Nat) : List Nat := if i ∈ l then exitsOf ps i else [ps.length]
def others (n r : Nat) : List Nat := (List.range n).filter fun p => p != r
theorem gvL_put (ps : List Pr) (l : List Nat) (p : Nat) : gvL ps (l ++ [p]) = putG (gvL ps l) p (exitsOf ps p) := by
  funext i
  simp only [gvL, putG, List.mem_append, List.mem_singleton]
  by_cases h : i = p
  · simp [h]
  · simp [h]
theorem others_mem {n r p : Nat} : p ∈ others n r ↔ p < n ∧ p ≠ r := by simp [others]
theorem others_nodup (n r : Nat) : (others n r).Nodup := List.Pairwise.filter _ List.nodup_range
theorem exits_lt {ps : List Pr} {k : Int} {j : Nat} (h : j ∈ exitsOf ps k) : j < ps.length ∧ (ps.getD j (0, 0)).1 = k := by
  unfold exitsOf exitsUp at h
  rw [List.mem_filter, List.mem_range] at h
  exact ⟨h.1, by simpa using h.2⟩
theorem exits_len (ps : List Pr) (k : Int) : (exitsOf ps k).length ≤ ps.length := exitsUp_len _ _ _
theorem enR_out (n : Nat) (ps : List Pr) : enR n ps ps.length = n := by simp [enR]
theorem enR_in {n j : Nat} {ps : List Pr} (h : j < ps.length) : enR n ps j = (ps.getD j (0, 0)).2.toNat := by
  simp [enR, List.getD_eq_getElem?_getD, h]
theorem ends_in {n : Nat} {ps : List Pr} (h : endsOk n ps = true) {q : Pr} (hq : q ∈ ps) : (0 ≤ q.1 ∧ q.1 < n) ∧ 0 ≤ q.2 ∧ q.2 < n := by
  unfold endsOk at h
  have := List.all_eq_true.mp h q hq
  rw [Bool.and_eq_true, within_iff, within_iff] at this
  exact this
theorem enR_lt {n j : Nat} {ps : List Pr} (h : endsOk n ps = true) (hj : j < ps.length) : enR n ps j < n := by
  rw [enR_in hj]
  have hm : ps.getD j (0, 0) ∈ ps := by
    rw [List.getD_eq_getElem?_getD]
    simp [hj]
  have := ends_in h hm
  omega
theorem gvL_ends {n : Nat} {ps : List Pr} (h : endsOk n ps = true) (l : List Nat) (i x : Nat) (hx : x ∈ gvL ps l i) : enR n ps x ≤ n := by
  unfold gvL at hx
  split at hx
  · exact Nat.le_of_lt (enR_lt h (exits_lt hx).1)
  · have : x = ps.length := by simpa using hx
    rw [this, enR_out]
    exact Nat.le_refl _
theorem gvL_len {ps : List Pr} (hp : ps.length ≤ 64) (l : List Nat) (i : Nat) : (gvL ps l i).length ≤ 64 := by
  unfold gvL
  split
  · exact Nat.le_trans (exits_len ps i) hp
  · show 1 ≤ 64
    decide
theorem give_step {n p : Nat} {ps : List Pr} {gv : Nat → List Nat} {R : Nat → Nat → Int} (he : endsOk n ps = true) (hn : n ≤ 32) (hg : ∀ i, i < n → (gv i).length ≤ 64) (hp : p < n) (hR : ∀ s q, s < n → q < n → R s q = cof n (Rows (enR n ps) gv) s q) (h0 : 0 < det n (Rows (enR n ps) gv))
    (xs : List Nat) (hx : ∀ x ∈ xs, x < ps.length) (hl : xs.length ≤ 64) :
    GiveOk n p (det n (Rows (enR n ps) gv)) R (xs.map (enR n ps)) ∧ shf R (xs.map (enR n ps)) p p = det n (Rows (enR n ps) (putG gv p xs)) ∧
      ∀ s q, s < n → q < n → chg (det n (Rows (enR n ps) gv)) R (xs.map (enR n ps)) p s q = cof n (Rows (enR n ps) (putG gv p xs)) s q := by
  have hes : ∀ e ∈ xs.map (enR n ps), e < n := fun e h => by
    obtain ⟨x, h1, rfl⟩ := List.mem_map.mp h
    exact enR_lt he (hx x h1)
  refine ⟨give_ok hR hn hg hp hes (by simpa using hl) h0, ?_, fun s q hs hq => ?_⟩
  · rw [shf_det hR hp hp hes, rowOf_id, Rows_put]
  · rw [chg_cof hR hp hs hq hes h0, rowOf_id, Rows_put]
def cntT (n : Nat) (ps : List Pr) (r : Nat) : Int := det n (Rows (enR n ps) (gvL ps (others n r)))
def psN (ps : List Pr) : List (Nat × Nat) := ps.map fun q => (q.1.toNat, q.2.toNat)
theorem exits_up (ps : List Pr) (n i : Nat) (h : ∀ q ∈ ps, 0 ≤ q.1) : ∀ k, k ≤ ps.length → (exitsUp ps i k).map (enR n ps) = ((psN (ps.take k)).filter fun q => q.1 == i).map (·.2)
  | 0, _ => rfl
  | k + 1, hk => by
    rw [exitsUp_succ, List.map_append, exits_up ps n i h k (by omega)]
    have e : ps.take (k + 1) = ps.take k ++ [ps[k]] := by rw [List.take_add_one]; simp [show k < ps.length by omega]
    rw [e]
    unfold psN
    rw [List.map_append, List.filter_append, List.map_append]
    congr 1
    have g : ps.getD k (0, 0) = ps[k] := by rw [List.getD_eq_getElem?_getD]; simp [show k < ps.length by omega]
    rw [g]
    have h0 := h ps[k] (List.getElem_mem _)
    by_cases c : ps[k].1 = (i : Int)
    · have c2 : ps[k].1.toNat = i := by omega
      have er : enR n ps k = ps[k].2.toNat := by rw [enR_in (by omega), g]
      simp [c, er]
    · have c2 : ¬ ps[k].1.toNat = i := by omega
      have b1 : (ps[k].1 == (i : Int)) = false := by simpa using c
      have b2 : (ps[k].1.toNat == i) = false := by simpa using c2
      simp [b1, b2]
theorem exits_ends (ps : List Pr) (n i : Nat) (h : ∀ q ∈ ps, 0 ≤ q.1) : (exitsOf ps i).map (enR n ps) = endsOf (psN ps) i := by
  unfold exitsOf
  rw [exits_up ps n i h ps.length (Nat.le_refl _), List.take_length]
  rfl
theorem cnt_tree {n r : Nat} {ps : List Pr} (h : ∀ q ∈ ps, 0 ≤ q.1) (hr : r < n) : cntT n ps r = det n (treeM (psN ps) r) := by
  unfold cntT
  refine det_congr fun i j hi hj => ?_
  unfold Rows treeM gvL
  by_cases e : i = r
  · rw [if_pos e, if_neg (by rw [others_mem]; omega), e]
    simp [rowOf, lsum, one, enR_out, show n ≠ j by omega]
  · rw [if_neg e, if_pos (others_mem.mpr ⟨hi, e⟩), ← rowOf_id, exits_ends ps n i h]
end L2
set_option Elab.async false
set_option linter.all false
set_option maxRecDepth 100000
set_option maxHeartbeats 4000000
namespace L2
open PySem PySem.Spec PyProof.Rows Mx
def stR (ps : List Pr) (j : Nat) : Nat := (ps.getD j (0, 0)).1.toNat
def pickP (ks : List Nat) (ps : List Pr) : List Pr := ks.map fun k => ps.getD k (0, 0)
def pickA (ks : List Nat) (as : List Addr) : List Addr := ks.map fun k => as.getD k 0
theorem getD_mem {ps : List Pr} {k : Nat} (h : k < ps.length) : ps.getD k (0, 0) ∈ ps := by
  rw [List.getD_eq_getElem?_getD]
  simp [h]
theorem TupsAt.pick {H : Hp} {as : List Addr} {ps : List Pr} (t : TupsAt H as ps) : ∀ {ks : List Nat}, (∀ k ∈ ks, k < ps.length) → TupsAt H (pickA ks as) (pickP ks ps)
  | [], _ => .nil
  | k :: ks, h => by
    have hk := h k List.mem_cons_self
    obtain ⟨a, ha, hH⟩ := t.get' (i := k) (q := ps[k]) (by simp [hk])
    refine .cons ?_ (TupsAt.pick t fun x hx => h x (List.mem_cons_of_mem _ hx))
    have e1 : as.getD k 0 = a := by rw [List.getD_eq_getElem?_getD, ha]; rfl
    have e2 : ps.getD k (0, 0) = ps[k] := by rw [List.getD_eq_getElem?_getD]; simp [hk]
    show H (as.getD k 0) = some (pairO (ps.getD k (0, 0)))
    rw [e1, e2]
    exact hH
theorem exits_filter {ps : List Pr} (h : ∀ q ∈ ps, 0 ≤ q.1) (i : Nat) : exitsOf ps i = (List.range ps.length).filter fun k => stR ps k == i := by
  unfold exitsOf exitsUp
  refine List.filter_congr fun k hk => ?_
  have := h _ (getD_mem (List.mem_range.mp hk))
  unfold stR
  by_cases e : (ps.getD k (0, 0)).1 = (i : Int)
  · have e2 : (ps.getD k (0, 0)).1.toNat = i := by omega
    rw [beq_iff_eq.mpr e, beq_iff_eq.mpr e2]
  · have e2 : ¬ (ps.getD k (0, 0)).1.toNat = i := by omega
    rw [beq_eq_false_iff_ne.mpr e, beq_eq_false_iff_ne.mpr e2]
theorem ends_nonneg {n : Nat} {ps : List Pr} (h : endsOk n ps = true) : ∀ q ∈ ps, 0 ≤ q.1 := fun q hq => (ends_in h hq).1.1
theorem stR_cast {n k : Nat} {ps : List Pr} (h : endsOk n ps = true) (hk : k < ps.length) : ((stR ps k : Nat) : Int) = (ps.getD k (0, 0)).1 ∧ stR ps k < n := by
  have := ends_in h (getD_mem hk)
  unfold stR
  omega
theorem exits_some {n : Nat} {ps : List Pr} (h : exitsOk n ps = true) {j : Nat} (hj : j < n) : ∃ k, k < ps.length ∧ (ps.getD k (0, 0)).1 = (j : Int) := by
  unfold exitsOk at h
  have := List.all_eq_true.mp h j (by rw [List.mem_range]; omega)
  obtain ⟨q, hq, e⟩ := List.any_eq_true.mp this
  obtain ⟨k, hk, rfl⟩ := List.getElem_of_mem hq
  refine ⟨k, hk, ?_⟩
  rw [List.getD_eq_getElem?_getD]
  simpa [hk] using e
end L2
set_option Elab.async false
set_option linter.all false
set_option maxRecDepth 100000
set_option maxHeartbeats 4000000
namespace L2
open PySem PySem.Spec PyProof.Rows Mx
def gvC (n g : Nat) (ps : List Pr) (l : List Nat) (c : Nat → Nat) (j : Nat) : List Nat := if j ∈ l then [c j] else gvL ps (others n g) j
theorem gvC_open {n g i p : Nat} {ps : List Pr} {c : Nat → Nat} (h : (others n g)[i]? = some p) : p ∉ (others n g).take i ∧ gvC n g ps ((others n g).take i) c p = exitsOf ps p := by
  have hpl : p ∉ (others n g).take i := fun hm => by
    obtain ⟨j, hj, ej⟩ := List.getElem_of_mem hm
    have nd := others_nodup n g
    have hj' : j < i := by
      rw [List.length_take] at hj
      omega
    have e1 : (others n g)[j]? = some p := by
      rw [List.getElem_take] at ej
      rw [← ej]
      exact List.getElem?_eq_getElem _
    obtain ⟨a1, a2⟩ := List.getElem?_eq_some_iff.mp e1
    obtain ⟨b1, b2⟩ := List.getElem?_eq_some_iff.mp h
    rw [List.Nodup, List.pairwise_iff_getElem] at nd
    exact nd j i a1 b1 hj' (by rw [a2, b2])
  refine ⟨hpl, ?_⟩
  unfold gvC gvL
  rw [if_neg hpl, if_pos (List.mem_of_getElem? h)]
def treeV (n g : Nat) (c : Nat → Nat) : List V := (List.range n).map fun i => if i = g then V.non else V.int (c i : Nat)
theorem treeV_len (n g : Nat) (c : Nat → Nat) : (treeV n g c).length = n := by simp [treeV]
end L2
set_option Elab.async false
set_option linter.all false
set_option maxRecDepth 100000
set_option maxHeartbeats 4000000
namespace L2
open PySem PySem.Spec PyProof.Rows Mx
def unlikeOf (n : Nat) (ps : List Pr) : List Nat := (List.range n).filter fun p => (ps.map (·.1)).count (p : Int) != (ps.map (·.2)).count (p : Int)
abbrev ReachP (n : Nat) (ps : List Pr) (p : Nat) : Prop := Reach (stR ps) (enR n ps) ps.length (stR ps 0) p
open Classical in
noncomputable def apartUp (n : Nat) (ps : List Pr) (i : Nat) : List Nat := (List.range i).filter fun p => !decide (ReachP n ps p)
noncomputable abbrev apartOf (n : Nat) (ps : List Pr) : List Nat := apartUp n ps n
open Classical in
theorem apartUp_succ (n : Nat) (ps : List Pr) (i : Nat) : apartUp n ps (i + 1) = apartUp n ps i ++ if ReachP n ps i then [] else [i] := by
  unfold apartUp
  rw [List.range_succ, List.filter_append, List.filter_cons]
  by_cases c : ReachP n ps i
  · rw [if_pos c, if_neg (by simp [c])]
    rfl
  · rw [if_neg c, if_pos (by simp [c])]
    rfl
theorem in_nats {x : Nat} {rs : List Nat} : inV (V.int (x : Nat)) (nats rs) = decide (x ∈ rs) := by
  unfold inV nats
  rw [List.any_map]
  refine Bool.eq_iff_iff.mpr ?_
  rw [List.any_eq_true, decide_eq_true_eq]
  constructor
  · rintro ⟨y, hy, e⟩
    have e' : ((y : Nat) : Int) = ((x : Nat) : Int) := by simpa [eqV] using e
    have : y = x := by omega
    rw [← this]; exact hy
  · intro hm
    exact ⟨_, hm, by simp [eqV]⟩
theorem nodup_len {rs : List Nat} {n : Nat} (hn : rs.Nodup) (h : ∀ p ∈ rs, p < n) : rs.length ≤ n := by
  refine Classical.byContradiction fun z => ?_
  obtain ⟨a, b, hab, hb, e⟩ := two_alike n (fun t => rs.getD t 0) fun t ht => h _ (by rw [List.getD_eq_getElem?_getD]; simp [show t < rs.length by omega])
  rw [List.Nodup, List.pairwise_iff_getElem] at hn
  refine hn a b (by omega) (by omega) hab ?_
  have e : rs.getD a 0 = rs.getD b 0 := e
  rw [List.getD_eq_getElem?_getD, List.getD_eq_getElem?_getD] at e
  simpa [show a < rs.length by omega, show b < rs.length by omega] using e
theorem exits_iff {n k p : Nat} {ps : List Pr} (he : endsOk n ps = true) : k ∈ exitsOf ps p ↔ k < ps.length ∧ stR ps k = p := by
  rw [exits_filter (ends_nonneg he), List.mem_filter, List.mem_range]
  simp
structure Grown (n : Nat) (ps : List Pr) (rs : List Nat) (done : Nat) : Prop where
  nd : rs.Nodup
  lt : ∀ p ∈ rs, p < n
  re : ∀ p ∈ rs, ReachP n ps p
  st : stR ps 0 ∈ rs
  dn : done ≤ rs.length
  cl : ∀ i p, i < done → rs[i]? = some p → ∀ k, k < ps.length → stR ps k = p → enR n ps k ∈ rs
theorem Grown.all {n : Nat} {ps : List Pr} {rs : List Nat} (G : Grown n ps rs rs.length) (p : Nat) : p ∈ rs ↔ ReachP n ps p :=
  reach_iff (S := fun p => p ∈ rs) G.st (fun j hj h => by
    obtain ⟨i, hi, e⟩ := List.getElem_of_mem h
    exact G.cl i _ hi (by rw [List.getElem?_eq_getElem hi, e]) j hj rfl) G.re p
structure Grows (n : Nat) (ps : List Pr) (rs : List Nat) (done p i : Nat) (rs' : List Nat) : Prop where
  nd : rs'.Nodup
  lt : ∀ p ∈ rs', p < n
  re : ∀ p ∈ rs', ReachP n ps p
  pre : ∃ r, rs' = rs ++ r
  got : ∀ j k, j < i → (exitsOf ps p)[j]? = some k → enR n ps k ∈ rs'
theorem Grows.start {n : Nat} {ps : List Pr} {rs : List Nat} {done p : Nat} (G : Grown n ps rs done) : Grows n ps rs done p 0 rs :=
  ⟨G.nd, G.lt, G.re, ⟨[], by simp⟩, fun j k h => absurd h (by omega)⟩
theorem Grows.stay {n : Nat} {ps : List Pr} {rs rs' : List Nat} {done p i k : Nat} (G : Grows n ps rs done p i rs') (hk : (exitsOf ps p)[i]? = some k) (h : enR n ps k ∈ rs') : Grows n ps rs done p (i + 1) rs' :=
  ⟨G.nd, G.lt, G.re, G.pre, fun j k' hj e => by
    by_cases c : j = i
    · subst c
      rw [hk] at e
      cases e
      exact h
    · exact G.got j k' (by omega) e⟩
theorem Grows.more {n : Nat} {ps : List Pr} {rs rs' : List Nat} {done p i k : Nat} (he : endsOk n ps = true) (hp : ReachP n ps p) (G : Grows n ps rs done p i rs') (hk : (exitsOf ps p)[i]? = some k) (h : enR n ps k ∉ rs') : Grows n ps rs done p (i + 1) (rs' ++ [enR n ps k]) := by
  obtain ⟨k1, k2⟩ := (exits_iff he).mp (List.mem_of_getElem? hk)
  refine ⟨?_, ?_, ?_, ?_, ?_⟩
  · rw [List.nodup_append]
    refine ⟨G.nd, by simp, fun a ha b hb e => ?_⟩
    have : b = enR n ps k := by simpa using hb
    rw [e, this] at ha
    exact h ha
  · intro q hq
    rcases List.mem_append.mp hq with hq | hq
    · exact G.lt q hq
    · have : q = enR n ps k := by simpa using hq
      rw [this]
      exact enR_lt he k1
  · intro q hq
    rcases List.mem_append.mp hq with hq | hq
    · exact G.re q hq
    · have : q = enR n ps k := by simpa using hq
      rw [this]
      exact .step k1 (by rw [k2]; exact hp)
  · obtain ⟨r, e⟩ := G.pre
    exact ⟨r ++ [enR n ps k], by rw [e, List.append_assoc]⟩
  · intro j k' hj e
    by_cases c : j = i
    · subst c
      rw [hk] at e
      cases e
      simp
    · exact List.mem_append_left _ (G.got j k' (by omega) e)
theorem Grows.done {n : Nat} {ps : List Pr} {rs rs' : List Nat} {done p : Nat} (he : endsOk n ps = true) (G0 : Grown n ps rs done) (hp : rs[done]? = some p) (G : Grows n ps rs done p (exitsOf ps p).length rs') : Grown n ps rs' (done + 1) := by
  obtain ⟨r, e⟩ := G.pre
  have hl : done < rs.length := (List.getElem?_eq_some_iff.mp hp).1
  refine ⟨G.nd, G.lt, G.re, by rw [e]; exact List.mem_append_left _ G0.st, by rw [e, List.length_append]; omega, fun i q hi hq k hk1 hk2 => ?_⟩
  by_cases c : i = done
  · subst c
    have hq' : rs'[i]? = some p := by rw [e, List.getElem?_append_left hl]; exact hp
    rw [hq'] at hq
    cases hq
    obtain ⟨j, hj, ej⟩ := List.getElem_of_mem ((exits_iff he).mpr ⟨hk1, hk2⟩)
    exact G.got j k hj (by rw [List.getElem?_eq_getElem hj, ej])
  · have hq' : rs[i]? = some q := by
      rw [e, List.getElem?_append_left (by omega)] at hq
      exact hq
    rw [e]
    exact List.mem_append_left _ (G0.cl i q (by omega) hq' k hk1 hk2)
theorem Grown.first {n : Nat} {ps : List Pr} (he : endsOk n ps = true) (h1 : 1 ≤ ps.length) : Grown n ps [stR ps 0] 0 :=
  ⟨by simp, fun p hp => by have : p = stR ps 0 := by simpa using hp
                           rw [this]; exact (stR_cast he (by omega)).2, fun p hp => by have : p = stR ps 0 := by simpa using hp
                                                                                       rw [this]; exact .base, by simp, by simp, fun i p hi => absurd hi (by omega)⟩
end L2
set_option Elab.async false
set_option linter.all false
set_option maxRecDepth 100000
set_option maxHeartbeats 4000000
namespace L2
open PySem PySem.Spec PyProof.Rows Mx
theorem fact_le : ∀ k, k ≤ 64 → fact k ≤ 64 ^ k
  | 0, _ => by decide
  | k + 1, h => by
    show (k + 1) * fact k ≤ 64 ^ (k + 1)
    rw [Nat.pow_succ, Nat.mul_comm (64 ^ k)]
    exact Nat.mul_le_mul (by omega) (fact_le k (by omega))
theorem pow_big {k : Nat} (h : k ≤ 64) : 64 ^ k < 2 ^ 400 := Nat.lt_of_le_of_lt (Nat.pow_le_pow_right (by decide) h) (by decide +kernel)
theorem big_pow {x : Nat} (h : x < 2 ^ 1000) : Big (x : Int) := Nat.lt_of_lt_of_le (show (x : Int).natAbs < 2 ^ 1000 by simpa using h) (Nat.pow_le_pow_right (by decide) (by decide))
theorem big_fact {k : Nat} (h : k ≤ 64) : Big (fact k : Nat) := big_pow (Nat.lt_of_le_of_lt (fact_le k h) (Nat.lt_of_lt_of_le (pow_big h) (Nat.pow_le_pow_right (by decide) (by decide))))
def degP (ps : List Pr) (p : Nat) : Nat := fact ((exitsOf ps p).length - 1)
theorem deg_le {n : Nat} {ps : List Pr} (he : endsOk n ps = true) (hl : ps.length ≤ 64) : ∀ i, i ≤ n → prodTo (degP ps) i ≤ 64 ^ (flat i fun p => exitsOf ps p).length ∧ (flat i fun p => exitsOf ps p).length ≤ ps.length := by
  have hall : (flat n fun p => exitsOf ps p).length = ps.length := by
    have h1 : (flat n fun p => exitsOf ps p) = flat n fun p => (List.range ps.length).filter fun k => stR ps k == p := flat_congr fun q _ => exits_filter (ends_nonneg he) q
    rw [h1]
    have := (flat_filter (n := n) (st := stR ps) (List.range ps.length) fun x hx => (stR_cast he (List.mem_range.mp hx)).2).length_eq
    rw [this]
    simp
  have mono : ∀ i d, (flat i fun p => exitsOf ps p).length ≤ (flat (i + d) fun p => exitsOf ps p).length := by
    intro i d
    induction d with
    | zero => exact Nat.le_refl _
    | succ d ih =>
      rw [← Nat.add_assoc, flat_succ, List.length_append]
      omega
  have hb : ∀ i, i ≤ n → (flat i fun p => exitsOf ps p).length ≤ ps.length := fun i hi => by
    have := mono i (n - i)
    rw [show i + (n - i) = n by omega, hall] at this
    exact this
  intro i
  induction i with
  | zero => exact fun _ => ⟨by show 1 ≤ 64 ^ 0; decide, Nat.zero_le _⟩
  | succ i ih =>
    intro hi
    obtain ⟨h1, _⟩ := ih (by omega)
    refine ⟨?_, hb (i + 1) hi⟩
    show prodTo (degP ps) i * degP ps i ≤ _
    rw [flat_succ, List.length_append, Nat.pow_add]
    refine Nat.mul_le_mul h1 ?_
    have hle : (exitsOf ps i).length ≤ 64 := Nat.le_trans (exits_len ps i) hl
    exact Nat.le_trans (fact_le _ (by omega)) (Nat.pow_le_pow_right (by decide) (by omega))
theorem prod_big {n i : Nat} {ps : List Pr} (he : endsOk n ps = true) (hl : ps.length ≤ 64) (hi : i ≤ n) : Big (prodTo (degP ps) i : Nat) := by
  obtain ⟨h1, h2⟩ := deg_le he hl i hi
  exact big_pow (Nat.lt_of_le_of_lt h1 (Nat.lt_of_lt_of_le (pow_big (Nat.le_trans h2 hl)) (Nat.pow_le_pow_right (by decide) (by decide))))
theorem deg_big {i : Nat} {ps : List Pr} (hl : ps.length ≤ 64) : Big (degP ps i : Nat) := big_fact (Nat.le_trans (Nat.sub_le _ _) (Nat.le_trans (exits_len ps i) hl))
theorem cnt_big {n g : Nat} {ps : List Pr} (hn : n ≤ 32) (hl : ps.length ≤ 64) : Big (cntT n ps g) := Big.of_le (det_le hn fun i _ => gvL_len hl _ _)
structure EvenLike (n : Nat) (ps : List Pr) : Prop where
  n1 : 1 ≤ n
  ne : 1 ≤ ps.length
  en : ∀ q ∈ ps, (0 ≤ q.1 ∧ q.1 < n) ∧ 0 ≤ q.2 ∧ q.2 < n
  ev : ∀ p : Nat, (ps.map (·.1)).count (p : Int) = (ps.map (·.2)).count (p : Int)
  cy : ∀ k, k < n → ((k : Int), (((k + 1) % n : Nat) : Int)) ∈ ps
theorem EvenLike.ok {n : Nat} {ps : List Pr} (E : EvenLike n ps) (h1 : n ≤ 32) (h2 : ps.length ≤ 64) : netOk n ps = true := by
  have e1 : endsOk n ps = true := by
    unfold endsOk
    rw [List.all_eq_true]
    intro q hq
    obtain ⟨⟨x, y⟩, z, w⟩ := E.en q hq
    simp [within, x, y, z, w]
  have e2 : exitsOk n ps = true := by
    unfold exitsOk
    rw [List.all_eq_true]
    intro k hk
    rw [List.mem_range] at hk
    rw [List.any_eq_true]
    exact ⟨_, E.cy k (by omega), by simp⟩
  have a := E.n1
  have b := E.ne
  unfold netOk
  rw [e1, e2]
  simp
  omega
theorem EvenLike.unlike {n : Nat} {ps : List Pr} (E : EvenLike n ps) : unlikeOf n ps = [] := by
  unfold unlikeOf
  rw [List.filter_eq_nil_iff]
  intro p _
  simp [E.ev p]
theorem EvenLike.reach {n : Nat} {ps : List Pr} (E : EvenLike n ps) (he : endsOk n ps = true) : ∀ p, p < n → ReachP n ps p := fun p hp => by
  have hs : stR ps 0 < n := (stR_cast he (by have := E.ne; omega)).2
  have step : ∀ k, k < n → ReachP n ps k → ReachP n ps ((k + 1) % n) := fun k hk h => by
    obtain ⟨j, hj, e⟩ := List.getElem_of_mem (E.cy k hk)
    have g : ps.getD j (0, 0) = ((k : Int), (((k + 1) % n : Nat) : Int)) := by rw [List.getD_eq_getElem?_getD]; simp [hj, e]
    have e1 : stR ps j = k := by unfold stR; rw [g]; simp
    have e2 : enR n ps j = (k + 1) % n := by
      rw [enR_in hj, g]
      exact Int.toNat_natCast _
    rw [← e2]
    exact .step hj (by rw [e1]; exact h)
  have all : ∀ t, ReachP n ps ((stR ps 0 + t) % n) := by
    intro t
    induction t with
    | zero =>
      rw [Nat.add_zero, Nat.mod_eq_of_lt hs]
      exact .base
    | succ t ih =>
      have := step _ (Nat.mod_lt _ (by omega)) ih
      rw [Nat.mod_add_mod, Nat.add_assoc] at this
      exact this
  have := all (p + n - stR ps 0)
  rw [show stR ps 0 + (p + n - stR ps 0) = p + n by omega, Nat.add_mod_right, Nat.mod_eq_of_lt hp] at this
  exact this
theorem EvenLike.apart {n : Nat} {ps : List Pr} (E : EvenLike n ps) (he : endsOk n ps = true) : apartOf n ps = [] := by
  unfold apartOf apartUp
  rw [List.filter_eq_nil_iff]
  intro p hp
  have := E.reach he p (List.mem_range.mp hp)
  simp [this]
theorem count_N {n : Nat} {ps : List Pr} (h : ∀ q ∈ ps, (0 ≤ q.1 ∧ q.1 < n) ∧ 0 ≤ q.2 ∧ q.2 < n) (p : Nat) : (psN ps).countP (fun q => q.1 == p) = (ps.map (·.1)).count (p : Int) ∧ (psN ps).countP (fun q => q.2 == p) = (ps.map (·.2)).count (p : Int) := by
  unfold psN
  rw [List.countP_map, List.countP_map]
  unfold List.count
  rw [List.countP_map, List.countP_map]
  constructor
  · refine List.countP_congr fun q hq => ?_
    have := h q hq
    simp only [Function.comp_apply, beq_iff_eq]
    omega
  · refine List.countP_congr fun q hq => ?_
    have := h q hq
    simp only [Function.comp_apply, beq_iff_eq]
    omega
theorem EvenLike.even {n : Nat} {ps : List Pr} (E : EvenLike n ps) : Mx.even n (psN ps) := fun p _ => by
  obtain ⟨a, b⟩ := count_N E.en p
  rw [a, b]
  exact E.ev p
theorem psN_lt {n : Nat} {ps : List Pr} (h : ∀ q ∈ ps, (0 ≤ q.1 ∧ q.1 < n) ∧ 0 ≤ q.2 ∧ q.2 < n) : ∀ q ∈ psN ps, q.1 < n ∧ q.2 < n := fun q hq => by
  obtain ⟨r, hr, rfl⟩ := List.mem_map.mp hq
  have := h r hr
  show r.1.toNat < n ∧ r.2.toNat < n
  omega
theorem EvenLike.trees {n r r' : Nat} {ps : List Pr} (E : EvenLike n ps) (hr : r < n) (hr' : r' < n) : cntT n ps r = cntT n ps r' := by
  have h0 : ∀ q ∈ ps, 0 ≤ q.1 := fun q hq => (E.en q hq).1.1
  rw [cnt_tree h0 hr, cnt_tree h0 hr']
  exact trees_even hr hr' (psN_lt E.en) E.even
end L2
set_option Elab.async false
set_option linter.all false
set_option maxRecDepth 100000
set_option maxHeartbeats 4000000
namespace Rb
open PySem L2
def top (i : Nat) : Stmt := PySem.Challenge.pw_ringbook_k14_each_refusal_its_own.main.body.getD i (.Pass ⟨0, 0, 0, 0⟩)
abbrev s_w : Stmt := top 12
abbrev s_f : Stmt := top 13
abbrev s_a : Stmt := top 14
abbrev s_o1 : Stmt := top 15
abbrev s_x : Stmt := top 16
abbrev s_o : Stmt := inClass (top 17) 0
abbrev s_y : Stmt := inClass (top 17) 1
abbrev s_i1 : Stmt := inClass (top 17) 2
abbrev s_j1 : Stmt := inClass (top 17) 3
abbrev s_s1 : Stmt := top 19
abbrev s_g : Stmt := inClass (top 20) 0
abbrev s_j : Stmt := inClass (top 20) 1
abbrev s_b : Stmt := inClass (top 20) 2
abbrev s_c : Stmt := inClass (top 20) 3
abbrev s_u : Stmt := top 21
abbrev s_z : Stmt := top 22
abbrev s_k1 : Stmt := top 23
abbrev s_u1 : Stmt := top 26
abbrev s_p : Stmt := top 27
abbrev s_v1 : Stmt := top 28
abbrev s_a1 : Stmt := top 29
abbrev s_b1 : Stmt := top 31
abbrev s_q : Stmt := top 32
abbrev s_k : Stmt := top 33
abbrev s_v : Stmt := top 34
abbrev s_z1 : Stmt := top 35
abbrev s_w1 : Stmt := top 36
abbrev s_p1 : Stmt := top 37
abbrev s_c1 : Stmt := top 38
abbrev s_l1 : Stmt := top 41
abbrev s_x1 : Stmt := top 44
abbrev s_d1 : Stmt := top 45
abbrev s_m1 : Stmt := top 50
abbrev s_e1 : Stmt := top 51
abbrev s_t1 : Stmt := top 52
abbrev s_h : Stmt := top 53
abbrev s_q1 : Stmt := top 54
abbrev s_l : Stmt := top 55
abbrev s_e : Stmt := top 56
abbrev s_d : Stmt := top 59
abbrev s_f1 : Stmt := top 60
abbrev s_r1 : Stmt := top 61
abbrev s_g1 : Stmt := top 62
abbrev s_y1 : Stmt := top 63
abbrev s_r : Stmt := top 65
abbrev s_h1 : Stmt := top 66
abbrev s_m : Stmt := top 67
abbrev s_n : Stmt := top 68
abbrev s_s : Stmt := top 69
abbrev s_t : Stmt := top 70
abbrev s_i : Stmt := top 71
abbrev s_n1 : Stmt := top 72
abbrev s_a2 : Stmt := top 73
structure Adr where
  (f_w f_f f_a f_o1 f_x f_o f_y f_i1 f_j1 f_s1 f_g f_j f_b f_c f_u f_z f_k1 f_u1 f_p f_v1 f_a1 f_b1 f_q f_k f_v f_z1 f_w1 f_p1 f_c1 f_l1 f_x1 f_d1 f_m1 f_e1 f_t1 f_h f_q1 f_l f_e f_d f_f1 f_r1 f_g1 f_y1 f_r f_h1 f_m f_n f_s f_t f_i f_n1 f_a2 : Addr)
  (d_w d_f d_a d_o1 d_x d_o d_y d_i1 d_j1 d_s1 d_g d_j d_b d_c d_u d_z d_k1 d_u1 d_p d_v1 d_a1 d_b1 d_q d_k d_v d_z1 d_w1 d_p1 d_c1 d_l1 d_x1 d_d1 d_m1 d_e1 d_t1 d_h d_q1 d_l d_e d_d d_f1 d_r1 d_g1 d_y1 d_r d_h1 d_m d_n d_s d_t d_i d_n1 d_a2 : FuncData)
  C_BookError : Addr
  C_NoNet : Addr
  C_NoWords : Addr
  C_NotRead : Addr
  C_NoPlace : Addr
  C_NoTree : Addr
  C_NoRing : Addr
  C_NoNumber : Addr
  C_Net : Addr
  C_Tally : Addr
  k_MOST_PLACES : Value
  k_MOST_ROADS : Value
  k_MOST_SIGNS : Value
  k_MOST_SIZE : Value
  k_MOST_WORDS : Value
  k_FIGURES : Value
structure Txt (K : PySem.W.Frag) (mg : Str → Option Value) (t : Adr) : Prop where
  F_w : Fun K "lies_within" "lies_within" s_w t.f_w t.d_w
  b_w : Binds K t.d_w ["place", "places"] []
  m_w : mg "lies_within" = some (.ref t.f_w)
  F_f : Fun K "ends_lie_within" "ends_lie_within" s_f t.f_f t.d_f
  b_f : Binds K t.d_f ["roads", "places"] []
  m_f : mg "ends_lie_within" = some (.ref t.f_f)
  F_a : Fun K "each_place_has_exit" "each_place_has_exit" s_a t.f_a t.d_a
  b_a : Binds K t.d_a ["roads", "places"] []
  m_a : mg "each_place_has_exit" = some (.ref t.f_a)
  F_o1 : Fun K "check_net" "check_net" s_o1 t.f_o1 t.d_o1
  b_o1 : Binds K t.d_o1 ["places", "roads"] []
  m_o1 : mg "check_net" = some (.ref t.f_o1)
  F_x : Fun K "check_place" "check_place" s_x t.f_x t.d_x
  b_x : Binds K t.d_x ["place", "places"] []
  m_x : mg "check_place" = some (.ref t.f_x)
  F_o : Fun K "__init__" "Net.__init__" s_o t.f_o t.d_o
  b_o : Binds K t.d_o ["self", "places", "roads"] []
  F_y : Fun K "places" "Net.places" s_y t.f_y t.d_y
  b_y : Binds K t.d_y ["self"] []
  M_y : Meth K t.C_Net "places" t.f_y
  F_i1 : Fun K "roads" "Net.roads" s_i1 t.f_i1 t.d_i1
  b_i1 : Binds K t.d_i1 ["self"] []
  M_i1 : Meth K t.C_Net "roads" t.f_i1
  F_j1 : Fun K "exits" "Net.exits" s_j1 t.f_j1 t.d_j1
  b_j1 : Binds K t.d_j1 ["self", "place"] []
  M_j1 : Meth K t.C_Net "exits" t.f_j1
  F_s1 : Fun K "lone_row" "lone_row" s_s1 t.f_s1 t.d_s1
  b_s1 : Binds K t.d_s1 ["stop", "places"] []
  m_s1 : mg "lone_row" = some (.ref t.f_s1)
  F_g : Fun K "__init__" "Tally.__init__" s_g t.f_g t.d_g
  b_g : Binds K t.d_g ["self", "places"] []
  F_j : Fun K "many_by" "Tally.many_by" s_j t.f_j t.d_j
  b_j : Binds K t.d_j ["self", "place", "end"] []
  M_j : Meth K t.C_Tally "many_by" t.f_j
  F_b : Fun K "changed_row" "Tally.changed_row" s_b t.f_b t.d_b
  b_b : Binds K t.d_b ["self", "stop", "place", "ends", "many"] []
  M_b : Meth K t.C_Tally "changed_row" t.f_b
  F_c : Fun K "give_roads" "Tally.give_roads" s_c t.f_c t.d_c
  b_c : Binds K t.d_c ["self", "place", "ends"] []
  M_c : Meth K t.C_Tally "give_roads" t.f_c
  F_u : Fun K "other_places" "other_places" s_u t.f_u t.d_u
  b_u : Binds K t.d_u ["net", "goal"] []
  m_u : mg "other_places" = some (.ref t.f_u)
  F_z : Fun K "whole_tally" "whole_tally" s_z t.f_z t.d_z
  b_z : Binds K t.d_z ["net", "goal"] []
  m_z : mg "whole_tally" = some (.ref t.f_z)
  F_k1 : Fun K "many_trees" "many_trees" s_k1 t.f_k1 t.d_k1
  b_k1 : Binds K t.d_k1 ["net", "place"] []
  m_k1 : mg "many_trees" = some (.ref t.f_k1)
  F_u1 : Fun K "tree_at" "tree_at" s_u1 t.f_u1 t.d_u1
  b_u1 : Binds K t.d_u1 ["net", "place", "number"] []
  m_u1 : mg "tree_at" = some (.ref t.f_u1)
  F_p : Fun K "comes_to_none" "comes_to_none" s_p t.f_p t.d_p
  b_p : Binds K t.d_p ["roads", "tree", "place"] []
  m_p : mg "comes_to_none" = some (.ref t.f_p)
  F_v1 : Fun K "is_tree" "is_tree" s_v1 t.f_v1 t.d_v1
  b_v1 : Binds K t.d_v1 ["net", "goal", "tree"] []
  m_v1 : mg "is_tree" = some (.ref t.f_v1)
  F_a1 : Fun K "tree_number" "tree_number" s_a1 t.f_a1 t.d_a1
  b_a1 : Binds K t.d_a1 ["net", "place", "tree"] []
  m_a1 : mg "tree_number" = some (.ref t.f_a1)
  F_b1 : Fun K "first_place" "first_place" s_b1 t.f_b1 t.d_b1
  b_b1 : Binds K t.d_b1 ["net"] []
  m_b1 : mg "first_place" = some (.ref t.f_b1)
  F_q : Fun K "unlike_places" "unlike_places" s_q t.f_q t.d_q
  b_q : Binds K t.d_q ["net"] []
  m_q : mg "unlike_places" = some (.ref t.f_q)
  F_k : Fun K "reached_places" "reached_places" s_k t.f_k t.d_k
  b_k : Binds K t.d_k ["net"] []
  m_k : mg "reached_places" = some (.ref t.f_k)
  F_v : Fun K "apart_places" "apart_places" s_v t.f_v t.d_v
  b_v : Binds K t.d_v ["net"] []
  m_v : mg "apart_places" = some (.ref t.f_v)
  F_z1 : Fun K "why" "why" s_z1 t.f_z1 t.d_z1
  b_z1 : Binds K t.d_z1 ["net"] []
  m_z1 : mg "why" = some (.ref t.f_z1)
  F_w1 : Fun K "is_ring" "is_ring" s_w1 t.f_w1 t.d_w1
  b_w1 : Binds K t.d_w1 ["net", "ring"] []
  m_w1 : mg "is_ring" = some (.ref t.f_w1)
  F_p1 : Fun K "factorial" "factorial" s_p1 t.f_p1 t.d_p1
  b_p1 : Binds K t.d_p1 ["number"] []
  m_p1 : mg "factorial" = some (.ref t.f_p1)
  F_c1 : Fun K "many_orders" "many_orders" s_c1 t.f_c1 t.d_c1
  b_c1 : Binds K t.d_c1 ["net"] []
  m_c1 : mg "many_orders" = some (.ref t.f_c1)
  F_l1 : Fun K "many_rings" "many_rings" s_l1 t.f_l1 t.d_l1
  b_l1 : Binds K t.d_l1 ["net"] []
  m_l1 : mg "many_rings" = some (.ref t.f_l1)
  F_x1 : Fun K "ring_at" "ring_at" s_x1 t.f_x1 t.d_x1
  b_x1 : Binds K t.d_x1 ["net", "number"] []
  m_x1 : mg "ring_at" = some (.ref t.f_x1)
  F_d1 : Fun K "ring_number" "ring_number" s_d1 t.f_d1 t.d_d1
  b_d1 : Binds K t.d_d1 ["net", "ring"] []
  m_d1 : mg "ring_number" = some (.ref t.f_d1)
  F_m1 : Fun K "many_words" "many_words" s_m1 t.f_m1 t.d_m1
  b_m1 : Binds K t.d_m1 ["signs", "size"] []
  m_m1 : mg "many_words" = some (.ref t.f_m1)
  F_e1 : Fun K "check_words" "check_words" s_e1 t.f_e1 t.d_e1
  b_e1 : Binds K t.d_e1 ["signs", "size"] []
  m_e1 : mg "check_words" = some (.ref t.f_e1)
  F_t1 : Fun K "word_net" "word_net" s_t1 t.f_t1 t.d_t1
  b_t1 : Binds K t.d_t1 ["signs", "size"] []
  m_t1 : mg "word_net" = some (.ref t.f_t1)
  F_h : Fun K "many_word_rings" "many_word_rings" s_h t.f_h t.d_h
  b_h : Binds K t.d_h ["signs", "size"] []
  m_h : mg "many_word_rings" = some (.ref t.f_h)
  F_q1 : Fun K "word_ring" "word_ring" s_q1 t.f_q1 t.d_q1
  b_q1 : Binds K t.d_q1 ["signs", "size", "number"] []
  m_q1 : mg "word_ring" = some (.ref t.f_q1)
  F_l : Fun K "word_ending_at" "word_ending_at" s_l t.f_l t.d_l
  b_l : Binds K t.d_l ["signs", "size", "ring", "last"] []
  m_l : mg "word_ending_at" = some (.ref t.f_l)
  F_e : Fun K "word_ring_number" "word_ring_number" s_e t.f_e t.d_e
  b_e : Binds K t.d_e ["signs", "size", "ring"] []
  m_e : mg "word_ring_number" = some (.ref t.f_e)
  F_d : Fun K "is_written_number" "is_written_number" s_d t.f_d t.d_d
  b_d : Binds K t.d_d ["text"] []
  m_d : mg "is_written_number" = some (.ref t.f_d)
  F_f1 : Fun K "read_number" "read_number" s_f1 t.f_f1 t.d_f1
  b_f1 : Binds K t.d_f1 ["text"] []
  m_f1 : mg "read_number" = some (.ref t.f_f1)
  F_r1 : Fun K "read_road" "read_road" s_r1 t.f_r1 t.d_r1
  b_r1 : Binds K t.d_r1 ["text"] []
  m_r1 : mg "read_road" = some (.ref t.f_r1)
  F_g1 : Fun K "read_places" "read_places" s_g1 t.f_g1 t.d_g1
  b_g1 : Binds K t.d_g1 ["text"] []
  m_g1 : mg "read_places" = some (.ref t.f_g1)
  F_y1 : Fun K "read" "read" s_y1 t.f_y1 t.d_y1
  b_y1 : Binds K t.d_y1 ["text"] []
  m_y1 : mg "read" = some (.ref t.f_y1)
  F_r : Fun K "_law_cell_at" "_law_cell_at" s_r t.f_r t.d_r
  b_r : Binds K t.d_r ["script", "k"] []
  m_r : mg "_law_cell_at" = some (.ref t.f_r)
  F_h1 : Fun K "_law_which" "_law_which" s_h1 t.f_h1 t.d_h1
  b_h1 : Binds K t.d_h1 ["e"] []
  m_h1 : mg "_law_which" = some (.ref t.f_h1)
  F_m : Fun K "_law_no_words" "_law_no_words" s_m t.f_m t.d_m
  b_m : Binds K t.d_m ["cell", "far"] []
  m_m : mg "_law_no_words" = some (.ref t.f_m)
  F_n : Fun K "_law_no_place" "_law_no_place" s_n t.f_n t.d_n
  b_n : Binds K t.d_n ["net", "cell", "far"] []
  m_n : mg "_law_no_place" = some (.ref t.f_n)
  F_s : Fun K "_law_no_tree" "_law_no_tree" s_s t.f_s t.d_s
  b_s : Binds K t.d_s ["net", "cell", "far"] []
  m_s : mg "_law_no_tree" = some (.ref t.f_s)
  F_t : Fun K "_law_no_ring" "_law_no_ring" s_t t.f_t t.d_t
  b_t : Binds K t.d_t ["net", "cell", "far"] []
  m_t : mg "_law_no_ring" = some (.ref t.f_t)
  F_i : Fun K "_law_no_number" "_law_no_number" s_i t.f_i t.d_i
  b_i : Binds K t.d_i ["net", "cell", "far"] []
  m_i : mg "_law_no_number" = some (.ref t.f_i)
  F_n1 : Fun K "_law_done" "_law_done" s_n1 t.f_n1 t.d_n1
  b_n1 : Binds K t.d_n1 ["way", "cell", "far"] []
  m_n1 : mg "_law_done" = some (.ref t.f_n1)
  F_a2 : Fun K "law" "law" s_a2 t.f_a2 t.d_a2
  b_a2 : Binds K t.d_a2 ["script"] []
  m_a2 : mg "law" = some (.ref t.f_a2)
  m_BookError : mg "BookError" = some (.ref t.C_BookError)
  m_NoNet : mg "NoNet" = some (.ref t.C_NoNet)
  m_NoWords : mg "NoWords" = some (.ref t.C_NoWords)
  m_NotRead : mg "NotRead" = some (.ref t.C_NotRead)
  m_NoPlace : mg "NoPlace" = some (.ref t.C_NoPlace)
  m_NoTree : mg "NoTree" = some (.ref t.C_NoTree)
  m_NoRing : mg "NoRing" = some (.ref t.C_NoRing)
  m_NoNumber : mg "NoNumber" = some (.ref t.C_NoNumber)
  m_Net : mg "Net" = some (.ref t.C_Net)
  m_Tally : mg "Tally" = some (.ref t.C_Tally)
  cl_Net : Cls K t.C_Net
  mk_Net : Mk K t.C_Net t.f_o
  na_Net_place_count : NoAttr K t.C_Net "place_count"
  na_Net_road_pairs : NoAttr K t.C_Net "road_pairs"
  cl_Tally : Cls K t.C_Tally
  mk_Tally : Mk K t.C_Tally t.f_g
  na_Tally_many : NoAttr K t.C_Tally "many"
  na_Tally_stopped : NoAttr K t.C_Tally "stopped"
  m_MOST_PLACES : mg "MOST_PLACES" = some t.k_MOST_PLACES
  r_MOST_PLACES : RelV (.int 32) t.k_MOST_PLACES
  m_MOST_ROADS : mg "MOST_ROADS" = some t.k_MOST_ROADS
  r_MOST_ROADS : RelV (.int 64) t.k_MOST_ROADS
  m_MOST_SIGNS : mg "MOST_SIGNS" = some t.k_MOST_SIGNS
  r_MOST_SIGNS : RelV (.int 6) t.k_MOST_SIGNS
  m_MOST_SIZE : mg "MOST_SIZE" = some t.k_MOST_SIZE
  r_MOST_SIZE : RelV (.int 6) t.k_MOST_SIZE
  m_MOST_WORDS : mg "MOST_WORDS" = some t.k_MOST_WORDS
  r_MOST_WORDS : RelV (.int 64) t.k_MOST_WORDS
  m_FIGURES : mg "FIGURES" = some t.k_FIGURES
  r_FIGURES : RelV (.str "0123456789") t.k_FIGURES
  n_len : mg "len" = none
  n_range : mg "range" = none
  n_all : mg "all" = none
  n_enumerate : mg "enumerate" = none
  n_isinstance : mg "isinstance" = none
  n_list : mg "list" = none
  n_str : mg "str" = none
  n_int : mg "int" = none
  n_sum : mg "sum" = none
  n_zip : mg "zip" = none
  n_sorted : mg "sorted" = none
  n_ValueError : mg "ValueError" = none
  e_NoNet : ErrCls K t.C_NoNet
  el_NoNet : ErrLook K t.C_NoNet
  e_NoWords : ErrCls K t.C_NoWords
  el_NoWords : ErrLook K t.C_NoWords
  e_NotRead : ErrCls K t.C_NotRead
  el_NotRead : ErrLook K t.C_NotRead
  e_NoPlace : ErrCls K t.C_NoPlace
  el_NoPlace : ErrLook K t.C_NoPlace
  e_NoTree : ErrCls K t.C_NoTree
  el_NoTree : ErrLook K t.C_NoTree
  e_NoRing : ErrCls K t.C_NoRing
  el_NoRing : ErrLook K t.C_NoRing
  e_NoNumber : ErrCls K t.C_NoNumber
  el_NoNumber : ErrLook K t.C_NoNumber
  xmN : PySem.W.exmOne K (.ref t.C_NoNet) (.ref t.C_NoNet) = some true
  xb_NoNet : PySem.W.exmOne K (.ref t.C_NoNet) (.ref t.C_BookError) = some true
  xb_NoWords : PySem.W.exmOne K (.ref t.C_NoWords) (.ref t.C_BookError) = some true
  xb_NotRead : PySem.W.exmOne K (.ref t.C_NotRead) (.ref t.C_BookError) = some true
  xb_NoPlace : PySem.W.exmOne K (.ref t.C_NoPlace) (.ref t.C_BookError) = some true
  xb_NoTree : PySem.W.exmOne K (.ref t.C_NoTree) (.ref t.C_BookError) = some true
  xb_NoRing : PySem.W.exmOne K (.ref t.C_NoRing) (.ref t.C_BookError) = some true
  xb_NoNumber : PySem.W.exmOne K (.ref t.C_NoNumber) (.ref t.C_BookError) = some true
  y_NoNet_0 : PySem.W.kitOne K (.ref t.C_NoNet) (.ref t.C_NoNet) = some true
  y_NoNet_1 : PySem.W.kitOne K (.ref t.C_NoNet) (.ref t.C_NoWords) = some false
  y_NoNet_2 : PySem.W.kitOne K (.ref t.C_NoNet) (.ref t.C_NotRead) = some false
  y_NoNet_3 : PySem.W.kitOne K (.ref t.C_NoNet) (.ref t.C_NoPlace) = some false
  y_NoNet_4 : PySem.W.kitOne K (.ref t.C_NoNet) (.ref t.C_NoTree) = some false
  y_NoNet_5 : PySem.W.kitOne K (.ref t.C_NoNet) (.ref t.C_NoRing) = some false
  y_NoNet_6 : PySem.W.kitOne K (.ref t.C_NoNet) (.ref t.C_NoNumber) = some false
  y_NoNet_7 : PySem.W.kitOne K (.ref t.C_NoNet) (.type "ValueError") = some true
  y_NoWords_0 : PySem.W.kitOne K (.ref t.C_NoWords) (.ref t.C_NoNet) = some false
  y_NoWords_1 : PySem.W.kitOne K (.ref t.C_NoWords) (.ref t.C_NoWords) = some true
  y_NoWords_2 : PySem.W.kitOne K (.ref t.C_NoWords) (.ref t.C_NotRead) = some false
  y_NoWords_3 : PySem.W.kitOne K (.ref t.C_NoWords) (.ref t.C_NoPlace) = some false
  y_NoWords_4 : PySem.W.kitOne K (.ref t.C_NoWords) (.ref t.C_NoTree) = some false
  y_NoWords_5 : PySem.W.kitOne K (.ref t.C_NoWords) (.ref t.C_NoRing) = some false
  y_NoWords_6 : PySem.W.kitOne K (.ref t.C_NoWords) (.ref t.C_NoNumber) = some false
  y_NoWords_7 : PySem.W.kitOne K (.ref t.C_NoWords) (.type "ValueError") = some true
  y_NotRead_0 : PySem.W.kitOne K (.ref t.C_NotRead) (.ref t.C_NoNet) = some false
  y_NotRead_1 : PySem.W.kitOne K (.ref t.C_NotRead) (.ref t.C_NoWords) = some false
  y_NotRead_2 : PySem.W.kitOne K (.ref t.C_NotRead) (.ref t.C_NotRead) = some true
  y_NotRead_3 : PySem.W.kitOne K (.ref t.C_NotRead) (.ref t.C_NoPlace) = some false
  y_NotRead_4 : PySem.W.kitOne K (.ref t.C_NotRead) (.ref t.C_NoTree) = some false
  y_NotRead_5 : PySem.W.kitOne K (.ref t.C_NotRead) (.ref t.C_NoRing) = some false
  y_NotRead_6 : PySem.W.kitOne K (.ref t.C_NotRead) (.ref t.C_NoNumber) = some false
  y_NotRead_7 : PySem.W.kitOne K (.ref t.C_NotRead) (.type "ValueError") = some true
  y_NoPlace_0 : PySem.W.kitOne K (.ref t.C_NoPlace) (.ref t.C_NoNet) = some false
  y_NoPlace_1 : PySem.W.kitOne K (.ref t.C_NoPlace) (.ref t.C_NoWords) = some false
  y_NoPlace_2 : PySem.W.kitOne K (.ref t.C_NoPlace) (.ref t.C_NotRead) = some false
  y_NoPlace_3 : PySem.W.kitOne K (.ref t.C_NoPlace) (.ref t.C_NoPlace) = some true
  y_NoPlace_4 : PySem.W.kitOne K (.ref t.C_NoPlace) (.ref t.C_NoTree) = some false
  y_NoPlace_5 : PySem.W.kitOne K (.ref t.C_NoPlace) (.ref t.C_NoRing) = some false
  y_NoPlace_6 : PySem.W.kitOne K (.ref t.C_NoPlace) (.ref t.C_NoNumber) = some false
  y_NoPlace_7 : PySem.W.kitOne K (.ref t.C_NoPlace) (.type "ValueError") = some true
  y_NoTree_0 : PySem.W.kitOne K (.ref t.C_NoTree) (.ref t.C_NoNet) = some false
  y_NoTree_1 : PySem.W.kitOne K (.ref t.C_NoTree) (.ref t.C_NoWords) = some false
  y_NoTree_2 : PySem.W.kitOne K (.ref t.C_NoTree) (.ref t.C_NotRead) = some false
  y_NoTree_3 : PySem.W.kitOne K (.ref t.C_NoTree) (.ref t.C_NoPlace) = some false
  y_NoTree_4 : PySem.W.kitOne K (.ref t.C_NoTree) (.ref t.C_NoTree) = some true
  y_NoTree_5 : PySem.W.kitOne K (.ref t.C_NoTree) (.ref t.C_NoRing) = some false
  y_NoTree_6 : PySem.W.kitOne K (.ref t.C_NoTree) (.ref t.C_NoNumber) = some false
  y_NoTree_7 : PySem.W.kitOne K (.ref t.C_NoTree) (.type "ValueError") = some true
  y_NoRing_0 : PySem.W.kitOne K (.ref t.C_NoRing) (.ref t.C_NoNet) = some false
  y_NoRing_1 : PySem.W.kitOne K (.ref t.C_NoRing) (.ref t.C_NoWords) = some false
  y_NoRing_2 : PySem.W.kitOne K (.ref t.C_NoRing) (.ref t.C_NotRead) = some false
  y_NoRing_3 : PySem.W.kitOne K (.ref t.C_NoRing) (.ref t.C_NoPlace) = some false
  y_NoRing_4 : PySem.W.kitOne K (.ref t.C_NoRing) (.ref t.C_NoTree) = some false
  y_NoRing_5 : PySem.W.kitOne K (.ref t.C_NoRing) (.ref t.C_NoRing) = some true
  y_NoRing_6 : PySem.W.kitOne K (.ref t.C_NoRing) (.ref t.C_NoNumber) = some false
  y_NoRing_7 : PySem.W.kitOne K (.ref t.C_NoRing) (.type "ValueError") = some true
  y_NoNumber_0 : PySem.W.kitOne K (.ref t.C_NoNumber) (.ref t.C_NoNet) = some false
  y_NoNumber_1 : PySem.W.kitOne K (.ref t.C_NoNumber) (.ref t.C_NoWords) = some false
  y_NoNumber_2 : PySem.W.kitOne K (.ref t.C_NoNumber) (.ref t.C_NotRead) = some false
  y_NoNumber_3 : PySem.W.kitOne K (.ref t.C_NoNumber) (.ref t.C_NoPlace) = some false
  y_NoNumber_4 : PySem.W.kitOne K (.ref t.C_NoNumber) (.ref t.C_NoTree) = some false
  y_NoNumber_5 : PySem.W.kitOne K (.ref t.C_NoNumber) (.ref t.C_NoRing) = some false
  y_NoNumber_6 : PySem.W.kitOne K (.ref t.C_NoNumber) (.ref t.C_NoNumber) = some true
  y_NoNumber_7 : PySem.W.kitOne K (.ref t.C_NoNumber) (.type "ValueError") = some true
theorem sc_w : FnScope ["place", "places"] ["place", "places"] (defScope s_w) := ⟨rfl, rfl, rfl, by decide +kernel, rfl, by decide +kernel, by decide +kernel⟩
theorem sc_f : FnScope ["roads", "places"] ["roads", "places"] (defScope s_f) := ⟨rfl, rfl, rfl, by decide +kernel, rfl, by decide +kernel, by decide +kernel⟩
theorem sc_a : FnScope ["roads", "places", "starts"] ["roads", "places"] (defScope s_a) := ⟨rfl, rfl, rfl, by decide +kernel, rfl, by decide +kernel, by decide +kernel⟩
theorem sc_o1 : FnScope ["places", "roads"] ["places", "roads"] (defScope s_o1) := ⟨rfl, rfl, rfl, by decide +kernel, rfl, by decide +kernel, by decide +kernel⟩
theorem sc_x : FnScope ["place", "places"] ["place", "places"] (defScope s_x) := ⟨rfl, rfl, rfl, by decide +kernel, rfl, by decide +kernel, by decide +kernel⟩
theorem sc_o : FnScope ["self", "places", "roads"] ["self", "places", "roads"] (defScope s_o) := ⟨rfl, rfl, rfl, by decide +kernel, rfl, by decide +kernel, by decide +kernel⟩
theorem sc_y : FnScope ["self"] ["self"] (defScope s_y) := ⟨rfl, rfl, rfl, by decide +kernel, rfl, by decide +kernel, by decide +kernel⟩
theorem sc_i1 : FnScope ["self"] ["self"] (defScope s_i1) := ⟨rfl, rfl, rfl, by decide +kernel, rfl, by decide +kernel, by decide +kernel⟩
theorem sc_j1 : FnScope ["self", "place"] ["self", "place"] (defScope s_j1) := ⟨rfl, rfl, rfl, by decide +kernel, rfl, by decide +kernel, by decide +kernel⟩
theorem sc_s1 : FnScope ["stop", "places"] ["stop", "places"] (defScope s_s1) := ⟨rfl, rfl, rfl, by decide +kernel, rfl, by decide +kernel, by decide +kernel⟩
theorem sc_g : FnScope ["self", "places"] ["self", "places"] (defScope s_g) := ⟨rfl, rfl, rfl, by decide +kernel, rfl, by decide +kernel, by decide +kernel⟩
theorem sc_j : FnScope ["self", "place", "end"] ["self", "place", "end"] (defScope s_j) := ⟨rfl, rfl, rfl, by decide +kernel, rfl, by decide +kernel, by decide +kernel⟩
theorem sc_b : FnScope ["self", "stop", "place", "ends", "many", "row", "shift"] ["self", "stop", "place", "ends", "many"] (defScope s_b) := ⟨rfl, rfl, rfl, by decide +kernel, rfl, by decide +kernel, by decide +kernel⟩
theorem sc_c : FnScope ["self", "place", "ends", "many"] ["self", "place", "ends"] (defScope s_c) := ⟨rfl, rfl, rfl, by decide +kernel, rfl, by decide +kernel, by decide +kernel⟩
theorem sc_u : FnScope ["net", "goal"] ["net", "goal"] (defScope s_u) := ⟨rfl, rfl, rfl, by decide +kernel, rfl, by decide +kernel, by decide +kernel⟩
theorem sc_z : FnScope ["net", "goal", "roads", "tally", "place"] ["net", "goal"] (defScope s_z) := ⟨rfl, rfl, rfl, by decide +kernel, rfl, by decide +kernel, by decide +kernel⟩
theorem sc_k1 : FnScope ["net", "place"] ["net", "place"] (defScope s_k1) := ⟨rfl, rfl, rfl, by decide +kernel, rfl, by decide +kernel, by decide +kernel⟩
theorem sc_u1 : FnScope ["net", "place", "number", "tally", "roads", "tree", "other", "road"] ["net", "place", "number"] (defScope s_u1) := ⟨rfl, rfl, rfl, by decide +kernel, rfl, by decide +kernel, by decide +kernel⟩
theorem sc_p : FnScope ["roads", "tree", "place", "step"] ["roads", "tree", "place"] (defScope s_p) := ⟨rfl, rfl, rfl, by decide +kernel, rfl, by decide +kernel, by decide +kernel⟩
theorem sc_v1 : FnScope ["net", "goal", "tree", "roads"] ["net", "goal", "tree"] (defScope s_v1) := ⟨rfl, rfl, rfl, by decide +kernel, rfl, by decide +kernel, by decide +kernel⟩
theorem sc_a1 : FnScope ["net", "place", "tree", "roads", "tally", "number", "other"] ["net", "place", "tree"] (defScope s_a1) := ⟨rfl, rfl, rfl, by decide +kernel, rfl, by decide +kernel, by decide +kernel⟩
theorem sc_b1 : FnScope ["net"] ["net"] (defScope s_b1) := ⟨rfl, rfl, rfl, by decide +kernel, rfl, by decide +kernel, by decide +kernel⟩
theorem sc_q : FnScope ["net", "starts", "ends"] ["net"] (defScope s_q) := ⟨rfl, rfl, rfl, by decide +kernel, rfl, by decide +kernel, by decide +kernel⟩
theorem sc_k : FnScope ["net", "roads", "reached", "done", "road"] ["net"] (defScope s_k) := ⟨rfl, rfl, rfl, by decide +kernel, rfl, by decide +kernel, by decide +kernel⟩
theorem sc_v : FnScope ["net", "reached"] ["net"] (defScope s_v) := ⟨rfl, rfl, rfl, by decide +kernel, rfl, by decide +kernel, by decide +kernel⟩
theorem sc_z1 : FnScope ["net", "unlike", "apart"] ["net"] (defScope s_z1) := ⟨rfl, rfl, rfl, by decide +kernel, rfl, by decide +kernel, by decide +kernel⟩
theorem sc_w1 : FnScope ["net", "ring", "roads", "starts", "ends"] ["net", "ring"] (defScope s_w1) := ⟨rfl, rfl, rfl, by decide +kernel, rfl, by decide +kernel, by decide +kernel⟩
theorem sc_p1 : FnScope ["number", "product", "factor"] ["number"] (defScope s_p1) := ⟨rfl, rfl, rfl, by decide +kernel, rfl, by decide +kernel, by decide +kernel⟩
theorem sc_c1 : FnScope ["net", "product", "place"] ["net"] (defScope s_c1) := ⟨rfl, rfl, rfl, by decide +kernel, rfl, by decide +kernel, by decide +kernel⟩
theorem sc_l1 : FnScope ["net"] ["net"] (defScope s_l1) := ⟨rfl, rfl, rfl, by decide +kernel, rfl, by decide +kernel, by decide +kernel⟩
theorem sc_x1 : FnScope ["net", "number", "many", "tree", "orders", "place"] ["net", "number"] (defScope s_x1) := ⟨rfl, rfl, rfl, by decide +kernel, rfl, by decide +kernel, by decide +kernel⟩
theorem sc_d1 : FnScope ["net", "ring", "roads", "first", "tree", "number", "many", "place", "order", "free"] ["net", "ring"] (defScope s_d1) := ⟨rfl, rfl, rfl, by decide +kernel, rfl, by decide +kernel, by decide +kernel⟩
theorem sc_m1 : FnScope ["signs", "size", "many", "spot"] ["signs", "size"] (defScope s_m1) := ⟨rfl, rfl, rfl, by decide +kernel, rfl, by decide +kernel, by decide +kernel⟩
theorem sc_e1 : FnScope ["signs", "size"] ["signs", "size"] (defScope s_e1) := ⟨rfl, rfl, rfl, by decide +kernel, rfl, by decide +kernel, by decide +kernel⟩
theorem sc_t1 : FnScope ["signs", "size", "places"] ["signs", "size"] (defScope s_t1) := ⟨rfl, rfl, rfl, by decide +kernel, rfl, by decide +kernel, by decide +kernel⟩
theorem sc_h : FnScope ["signs", "size"] ["signs", "size"] (defScope s_h) := ⟨rfl, rfl, rfl, by decide +kernel, rfl, by decide +kernel, by decide +kernel⟩
theorem sc_q1 : FnScope ["signs", "size", "number"] ["signs", "size", "number"] (defScope s_q1) := ⟨rfl, rfl, rfl, by decide +kernel, rfl, by decide +kernel, by decide +kernel⟩
theorem sc_l : FnScope ["signs", "size", "ring", "last", "word", "spot"] ["signs", "size", "ring", "last"] (defScope s_l) := ⟨rfl, rfl, rfl, by decide +kernel, rfl, by decide +kernel, by decide +kernel⟩
theorem sc_e : FnScope ["signs", "size", "ring", "net"] ["signs", "size", "ring"] (defScope s_e) := ⟨rfl, rfl, rfl, by decide +kernel, rfl, by decide +kernel, by decide +kernel⟩
theorem sc_d : FnScope ["text"] ["text"] (defScope s_d) := ⟨rfl, rfl, rfl, by decide +kernel, rfl, by decide +kernel, by decide +kernel⟩
theorem sc_f1 : FnScope ["text"] ["text"] (defScope s_f1) := ⟨rfl, rfl, rfl, by decide +kernel, rfl, by decide +kernel, by decide +kernel⟩
theorem sc_r1 : FnScope ["text", "ends"] ["text"] (defScope s_r1) := ⟨rfl, rfl, rfl, by decide +kernel, rfl, by decide +kernel, by decide +kernel⟩
theorem sc_g1 : FnScope ["text"] ["text"] (defScope s_g1) := ⟨rfl, rfl, rfl, by decide +kernel, rfl, by decide +kernel, by decide +kernel⟩
theorem sc_y1 : FnScope ["text", "parts", "places", "roads"] ["text"] (defScope s_y1) := ⟨rfl, rfl, rfl, by decide +kernel, rfl, by decide +kernel, by decide +kernel⟩
theorem sc_r : FnScope ["script", "k"] ["script", "k"] (defScope s_r) := ⟨rfl, rfl, rfl, by decide +kernel, rfl, by decide +kernel, by decide +kernel⟩
theorem sc_h1 : FnScope ["e", "first"] ["e"] (defScope s_h1) := ⟨rfl, rfl, rfl, by decide +kernel, rfl, by decide +kernel, by decide +kernel⟩
theorem sc_m : FnScope ["cell", "far", "some", "pair", "way"] ["cell", "far"] (defScope s_m) := ⟨rfl, rfl, rfl, by decide +kernel, rfl, by decide +kernel, by decide +kernel⟩
theorem sc_n : FnScope ["net", "cell", "far", "place", "way"] ["net", "cell", "far"] (defScope s_n) := ⟨rfl, rfl, rfl, by decide +kernel, rfl, by decide +kernel, by decide +kernel⟩
theorem sc_s : FnScope ["net", "cell", "far", "some"] ["net", "cell", "far"] (defScope s_s) := ⟨rfl, rfl, rfl, by decide +kernel, rfl, by decide +kernel, by decide +kernel⟩
theorem sc_t : FnScope ["net", "cell", "far", "some", "rows"] ["net", "cell", "far"] (defScope s_t) := ⟨rfl, rfl, rfl, by decide +kernel, rfl, by decide +kernel, by decide +kernel⟩
theorem sc_i : FnScope ["net", "cell", "far", "way"] ["net", "cell", "far"] (defScope s_i) := ⟨rfl, rfl, rfl, by decide +kernel, rfl, by decide +kernel, by decide +kernel⟩
theorem sc_n1 : FnScope ["way", "cell", "far", "net"] ["way", "cell", "far"] (defScope s_n1) := ⟨rfl, rfl, rfl, by decide +kernel, rfl, by decide +kernel, by decide +kernel⟩
theorem sc_a2 : FnScope ["script", "way", "far", "told", "e"] ["script"] (defScope s_a2) := ⟨rfl, rfl, rfl, by decide +kernel, rfl, by decide +kernel, by decide +kernel⟩
section
variable {CX : CXT} {P : Program} {w : World} {K : PySem.W.Frag} {mg : Str → Option Value} {base : Heap} {t : Adr}
def sp_lies_within : Sp := fun vs H Q _ => ∃ a b : Int, vs = [.int a, .int b] ∧ Q (.bl (within a b)) H
theorem ok_w (c0 : NoX CX) (T : Txt K mg t) : FnOk P w K mg base CX 1 t.f_w t.d_w ["place", "places"] sp_lies_within := by
  refine T.F_w.okX sc_w (fun vs H Q E h => ?_) (fun cdv A outer s H vs Q E hr h => ?_)
  · obtain ⟨a, b, rfl, _⟩ := h
    rfl
  · obtain ⟨a, b, rfl, q⟩ := h
    refine ⟨_, (pss_one (ps_ret (pe_chain op_le op_lt pe_int (pv 0) (pv 1)))), ?_⟩
    open_k with []
    by_cases h : 0 ≤ a
    · rw [if_pos (decide_eq_true h)]
      have e : within a b = decide (a < b) := by simp [within, h]
      rw [← e]; exact q
    · rw [if_neg (by simp [h])]
      have e : within a b = false := by simp [within, h]
      rw [← e]; exact q
def sp_ends_lie_within (K : PySem.W.Frag) : Sp := fun vs H Q _ => ∃ (p : Addr) (ps : List Pr) (n : Int), vs = [.ref p, .int n] ∧ PairsAt K H p ps ∧ ps.length ≤ 1000 ∧ ∀ H', Same H H' → Q (.bl (endsOk n ps)) H'
theorem ok_f (c0 : NoX CX) (T : Txt K mg t) : FnOk P w K mg base CX 2 t.f_f t.d_f ["roads", "places"] (sp_ends_lie_within K) := by
  refine T.F_f.okX sc_f (fun vs H Q E h => ?_) (fun cdv A outer s H vs Q E hr h => ?_)
  · obtain ⟨a, b, n, rfl, _⟩ := h
    rfl
  · obtain ⟨p, ps, n, rfl, ⟨as, hs, ht⟩, hl, q⟩ := h
    have la := ht.len
    refine ⟨_, (pss_one (ps_ret (pe_callB (call_all (by rfl)) (by rfl) T.n_all (by decide +kernel : bootBuiltins "all" = some (.builtin "all")) (pa_cons (pe_comp (own := (["start", "end"] : List Str)) (fr := (["places"] : List Str)) (ix := ([1] : List Nat)) (by rfl) ⟨by rfl, by decide +kernel, by rfl, by rfl, by rfl⟩ (pi_list (pv 0)) (fun _ => (pg_tup (n := 2) (by rfl) (pgs_cons (pg_name (i := 0) (show List.Nodup (["start", "end", "places"] : List Str) by decide +kernel) (by rfl) (Or.inl rfl)) (pgs_cons (pg_name (i := 1) (show List.Nodup (["start", "end", "places"] : List Str) by decide +kernel) (by rfl) (Or.inl rfl)) pgs_nil)))) (fun _ hB => pts_nil) (fun _ hB => (pe_and (pe_call (ok_w c0 T) (hr.mono (by decide)) (by rfl) T.m_w T.F_w.kp T.b_w .nil (pass1 c0) (pa_cons (pv 0) (pa_cons (pv 2) pa_nil))) (pe_one (pe_call (ok_w c0 T) (hr.mono (by decide)) (by rfl) T.m_w T.F_w.kp T.b_w .nil (pass1 c0) (pa_cons (pv 1) (pa_cons (pv 2) pa_nil))))))) pa_nil)))), ?_⟩
    open_k with []
    refine ⟨⟨_, hs⟩, blk_list (xs := as.map V.ref) (fun i ys σ H' => ∃ u v, σ = [u, v, some (.int n)] ∧ Same H H' ∧ ys = ((ps.take i).map fun q => V.bl (within q.1 n && within q.2 n))) (by rw [List.length_map, la]; exact small_le hl) ⟨none, none, rfl, Same.refl _, rfl⟩ ?_ ?_ ?_⟩
    · rintro i ys σ H1 hi ⟨u, v, rfl, s1, rfl⟩
      exact ⟨s1.seq hs, by simp; omega⟩
    · rintro bk i x ys σ H1 hx ⟨u, v, rfl, s1, rfl⟩
      obtain ⟨a, rfl, ha⟩ := map_ref hx
      obtain ⟨q, hq, hH⟩ := ht.get ha
      refine gtup2 (SqT.of (s1 _ _ hH)) ?_
      open_k with [sp_lies_within]
      rw [take_map_succ _ hq]
      cases e : within q.1 n <;> simp [e, s1]
    · rintro ys σ H1 D ⟨u, v, rfl, s1, rfl⟩ hD
      refine ⟨_, rfl, ps.map fun q => within q.1 n && within q.2 n, ?_, ?_⟩
      · rw [List.length_map, la, List.take_length, List.map_map]
        exact SqL.of upd_same
      · have e : endsOk n ps = (ps.map fun q => within q.1 n && within q.2 n).all id := by simp [endsOk]
        rw [← e]
        exact q _ (s1.upd' hD)
def sp_each_place_has_exit (K : PySem.W.Frag) : Sp := fun vs H Q _ => ∃ (p : Addr) (ps : List Pr) (n : Int), vs = [.ref p, .int n] ∧ PairsAt K H p ps ∧ ps.length ≤ 1000 ∧ n ≤ 1000 ∧ -1000 ≤ n ∧ ∀ H', Same H H' → Q (.bl (exitsOk n ps)) H'
theorem ok_a (c0 : NoX CX) (T : Txt K mg t) : FnOk P w K mg base CX 1 t.f_a t.d_a ["roads", "places"] (sp_each_place_has_exit K) := by
  refine T.F_a.okX sc_a (fun vs H Q E h => ?_) (fun cdv A outer s H vs Q E hr h => ?_)
  · obtain ⟨a, b, n, rfl, _⟩ := h
    rfl
  · obtain ⟨p, ps, n, rfl, ⟨as, hs, ht⟩, hl, hn1, hn2, q⟩ := h
    have la := ht.len
    refine ⟨_, (pss_cons (ps_set (i := 2) sc_a.nd (by rfl) (Or.inr rfl) (pe_comp (own := (["start", "end"] : List Str)) (fr := ([] : List Str)) (ix := ([] : List Nat)) (by rfl) ⟨by rfl, by decide +kernel, by rfl, by rfl, by rfl⟩ (pi_list (pv 0)) (fun _ => (pg_tup (n := 2) (by rfl) (pgs_cons (pg_name (i := 0) (show List.Nodup (["start", "end"] : List Str) by decide +kernel) (by rfl) (Or.inl rfl)) (pgs_cons (pg_name (i := 1) (show List.Nodup (["start", "end"] : List Str) by decide +kernel) (by rfl) (Or.inl rfl)) pgs_nil)))) (fun _ hB => pts_nil) (fun _ hB => (pv 0))))
  (pss_one (ps_ret (pe_callB (call_all (by rfl)) (by rfl) T.n_all (by decide +kernel : bootBuiltins "all" = some (.builtin "all")) (pa_cons (pe_comp (own := (["place"] : List Str)) (fr := (["starts"] : List Str)) (ix := ([2] : List Nat)) (by rfl) ⟨by rfl, by decide +kernel, by rfl, by rfl, by rfl⟩ (pi_range1 (by rfl) T.n_range (pa_cons (pv 1) pa_nil)) (fun _ => (pg_name (i := 0) (show List.Nodup (["place", "starts"] : List Str) by decide +kernel) (by rfl) (Or.inl rfl))) (fun _ hB => pts_nil) (fun _ hB => (pe_cmpR op_in_seq (pv 0) (pv 1) (by with_unfolding_all rfl)))) pa_nil))))), ?_⟩
    open_k with []
    refine ⟨⟨_, hs⟩, blk_list (xs := as.map V.ref) (fun i ys σ H' => ∃ u v, σ = [u, v] ∧ Same H H' ∧ ys = ((ps.take i).map fun q => V.int q.1)) (by rw [List.length_map, la]; exact small_le hl) ⟨none, none, rfl, Same.refl _, rfl⟩ ?_ ?_ ?_⟩
    · rintro i ys σ H1 hi ⟨u, v, rfl, s1, rfl⟩
      exact ⟨s1.seq hs, by simp; omega⟩
    · rintro bk i x ys σ H1 hx ⟨u, v, rfl, s1, rfl⟩
      obtain ⟨a, rfl, ha⟩ := map_ref hx
      obtain ⟨q, hq, hH⟩ := ht.get ha
      refine gtup2 (SqT.of (s1 _ _ hH)) ?_
      open_k with []
      rw [take_map_succ _ hq]
      exact ⟨s1, rfl⟩
    · rintro ys σ H1 D ⟨u, v, rfl, s1, rfl⟩ hD
      rw [List.length_map, la, List.take_length]
      refine ⟨by omega, by omega, blk_range (fun i ys σ H' => ∃ u, σ = [u, some (.ref D)] ∧ Same (upd H1 D (.lst (ps.map fun q => V.int q.1))) H' ∧ ys = ((List.range i).map fun (k : Nat) => V.bl (ps.any fun q => q.1 == (k : Int)))) (small_le (by omega)) ⟨none, rfl, Same.refl _, rfl⟩ ?_ ?_ ?_⟩
      · rintro i ys σ H2 hi ⟨u, rfl, s2, rfl⟩
        simp
      · rintro bk i ys σ H2 hi ⟨u, rfl, s2, rfl⟩
        open_k with [rIn]
        refine ⟨_, Or.inl (SqL.of (s2 _ _ upd_same)), rfl, ?_, ?_⟩
        · simp [flatV]
        · refine ⟨s2, ?_⟩
          rw [List.range_succ, List.map_append]
          simp [inV, eqV, List.any_map, Function.comp_def]
      · rintro ys σ H2 D2 ⟨u, rfl, s2, rfl⟩ hD2
        refine ⟨_, rfl, (List.range n.toNat).map fun (k : Nat) => ps.any fun q => q.1 == (k : Int), ?_, ?_⟩
        · rw [List.map_map]
          exact SqL.of upd_same
        · have e : exitsOk n ps = ((List.range n.toNat).map fun (k : Nat) => ps.any fun q => q.1 == (k : Int)).all id := by simp [exitsOk, List.all_map, Function.comp_def]
          rw [← e]
          exact q _ ((s1.upd' hD).trans (s2.upd' hD2))
theorem netOk_parts {n : Int} {ps : List Pr} (h : netOk n ps = true) : (1 ≤ n ∧ n ≤ 32) ∧ (1 ≤ ps.length ∧ ps.length ≤ 64) ∧ endsOk n ps = true ∧ exitsOk n ps = true := by
  simp only [netOk, Bool.and_eq_true, decide_eq_true_eq] at h
  obtain ⟨⟨⟨a, b⟩, c⟩, d⟩ := h
  exact ⟨a, b, c, d⟩
def spE_check_net (K : PySem.W.Frag) (t : Adr) : Sp := fun vs H Q E => ∃ (p : Addr) (ps : List Pr) (n : Int), vs = [.int n, .ref p] ∧ PairsAt K H p ps ∧ ps.length ≤ 1000 ∧ (netOk n ps = true → ∀ H', Same H H' → Q .non H') ∧ (netOk n ps = false → ∀ H', Same H H' → E (.ref t.C_NoNet) none H')
theorem okE_o1 (T : Txt K mg t) : FnOk P w K mg base (CX1 P w) 3 t.f_o1 t.d_o1 ["places", "roads"] (spE_check_net K t) := by
  have c0 : NoX (CX1 P w) := nox1
  refine T.F_o1.okE sc_o1 (fun vs H Q E h => ?_) (fun cdv A outer s H vs Q E hr h => ?_)
  · obtain ⟨a, b, n, rfl, _⟩ := h
    rfl
  · obtain ⟨p, ps, n, rfl, hp, hl, q, qE⟩ := h
    obtain ⟨as, hs, ht⟩ := id hp
    have la := ht.len
    refine ⟨_, (pss_cons (ps_if (pt_not (pt_chain op_le op_le pe_int (pv 0) (pe_glob (by rfl) T.m_MOST_PLACES T.r_MOST_PLACES)))
  (pss_one (ps_raiseS (by rfl) (raise_def).s T.e_NoNet (by rfl) T.m_NoNet (pa_cons (pe_fstr (pj_cons pe_str (pj_cons (pe_fmt (pe_glob (by rfl) T.m_MOST_PLACES T.r_MOST_PLACES)) (pj_cons pe_str pj_nil)))) pa_nil)))
  pss_nil)
  (pss_cons (ps_if (pt_not (pt_chain op_le op_le pe_int (pe_callB call_len (by rfl) T.n_len (by decide +kernel : bootBuiltins "len" = some (.builtin "len")) (pa_cons (pv 1) pa_nil)) (pe_glob (by rfl) T.m_MOST_ROADS T.r_MOST_ROADS)))
  (pss_one (ps_raiseS (by rfl) (raise_def).s T.e_NoNet (by rfl) T.m_NoNet (pa_cons (pe_fstr (pj_cons pe_str (pj_cons (pe_fmt (pe_glob (by rfl) T.m_MOST_ROADS T.r_MOST_ROADS)) (pj_cons pe_str pj_nil)))) pa_nil)))
  pss_nil)
  (pss_cons (ps_if (pt_not (pt_val (pe_call (ok_f c0 T) (hr.mono (by decide)) (by rfl) T.m_f T.F_f.kp T.b_f .nil (pass1 c0) (pa_cons (pv 1) (pa_cons (pv 0) pa_nil)))))
  (pss_one (ps_raiseS (by rfl) (raise_def).s T.e_NoNet (by rfl) T.m_NoNet (pa_cons pe_str pa_nil)))
  pss_nil)
  (pss_one (ps_if (pt_not (pt_val (pe_call (ok_a c0 T) (hr.mono (by decide)) (by rfl) T.m_a T.F_a.kp T.b_a .nil (pass1 c0) (pa_cons (pv 1) (pa_cons (pv 0) pa_nil)))))
  (pss_one (ps_raiseS (by rfl) (raise_def).s T.e_NoNet (by rfl) T.m_NoNet (pa_cons pe_str pa_nil)))
  pss_nil))))), ?_⟩
    open_k with []
    have msg : ∀ (a b : Str) (m : Int) (H' : Hp), (Str.empty ++ a).length ≤ sizeLine → m.natAbs.log2 < 1920 → (Str.empty ++ a ++ Str.ofString (toString m)).length ≤ sizeLine → (Str.empty ++ a ++ Str.ofString (toString m) ++ b).length ≤ sizeLine → Same H H' → netOk n ps = false →
        ((Str.empty ++ a).length ≤ sizeLine ∧ (m.natAbs.log2 < 1920 ∧ (Str.empty ++ a ++ Str.ofString (toString m)).length ≤ sizeLine ∧ (Str.empty ++ a ++ Str.ofString (toString m) ++ b).length ≤ sizeLine ∧ (Str.empty ++ a ++ Str.ofString (toString m) ++ b).length ≤ sizeLine ∧ 1 ≤ sizeLine ∧ E (.ref t.C_NoNet) none H' ∨
          ∃ y, V.int m = V.str y ∧ y.length ≤ sizeLine ∧ (Str.empty ++ a ++ y).length ≤ sizeLine ∧ (Str.empty ++ a ++ y ++ b).length ≤ sizeLine ∧ (Str.empty ++ a ++ y ++ b).length ≤ sizeLine ∧ 1 ≤ sizeLine ∧ E (.ref t.C_NoNet) none H')) :=
      fun a b m H' h1 h2 h3 h4 s1 hn => ⟨h1, Or.inl ⟨h2, h3, h4, h4, by decide, qE hn H' s1⟩⟩
    by_cases n1 : 1 ≤ n
    · rw [if_pos (decide_eq_true n1)]
      by_cases n2 : n ≤ 32
      · rw [if_neg (by simp [n2])]
        refine ⟨_, lenL hs, ?_⟩
        rw [List.length_map, la]
        by_cases l1 : 1 ≤ ps.length
        · rw [if_pos (decide_eq_true (by omega))]
          by_cases l2 : ps.length ≤ 64
          · rw [if_neg (by rw [decide_eq_true (by omega)]; simp)]
            refine ⟨p, ps, n, rfl, hp, hl, fun H1 s1 => ⟨_, rfl, ?_⟩⟩
            cases he : endsOk n ps
            · rw [if_pos (by decide)]
              exact ⟨by decide, qE (by simp [netOk, he]) H1 s1⟩
            · rw [if_neg (by decide)]
              refine ⟨p, ps, n, rfl, hp.same s1, hl, by omega, by omega, fun H2 s2 => ⟨_, rfl, ?_⟩⟩
              cases hx : exitsOk n ps
              · rw [if_pos (by decide)]
                exact ⟨by decide, qE (by simp [netOk, hx]) H2 (s1.trans s2)⟩
              · rw [if_neg (by decide)]
                exact q (by simp [netOk, he, hx, n1, n2, l1, l2]) H2 (s1.trans s2)
          · rw [if_pos (by rw [decide_eq_false (by omega)]; rfl)]
            exact msg _ _ 64 H (by decide +kernel) (by decide +kernel) (by decide +kernel) (by decide +kernel) (Same.refl _) (by simp [netOk, l2])
        · rw [if_neg (by rw [decide_eq_false (by omega)]; simp), if_pos (by decide)]
          exact msg _ _ 64 H (by decide +kernel) (by decide +kernel) (by decide +kernel) (by decide +kernel) (Same.refl _) (by
            have : ps.length = 0 := by omega
            simp [netOk, this])
      · rw [if_pos (by simp [n2])]
        exact msg _ _ 32 H (by decide +kernel) (by decide +kernel) (by decide +kernel) (by decide +kernel) (Same.refl _) (by simp [netOk, n2])
    · rw [if_neg (by simp [n1]), if_pos (by decide)]
      exact msg _ _ 32 H (by decide +kernel) (by decide +kernel) (by decide +kernel) (by decide +kernel) (Same.refl _) (by simp [netOk, n1])
theorem kc : ¬ (("place_count" : Str) = "road_pairs") := by decide +kernel
def nfl (l : Addr) (n : Int) : List (Str × V) := putF "road_pairs" (.ref l) (putF "place_count" (.int n) [])
theorem nfl_count (l : Addr) (n : Int) : (nfl l n).lookup ("place_count" : Str) = some (.int n) := by
  unfold nfl
  rw [lookup_putF, if_neg kc, lookup_putF, if_pos rfl]
theorem nfl_pairs (l : Addr) (n : Int) : (nfl l n).lookup ("road_pairs" : Str) = some (.ref l) := by
  unfold nfl
  rw [lookup_putF, if_pos rfl]
theorem nfl_no (l : Addr) (n : Int) {m : Str} (h1 : ¬ m = "place_count") (h2 : ¬ m = "road_pairs") : (nfl l n).lookup m = none := by
  unfold nfl
  rw [lookup_putF, if_neg h2, lookup_putF, if_neg h1]
  all_goals rfl
structure NetAt (C : Addr) (H : Hp) (x : Addr) (l : Addr) (as : List Addr) (n : Int) (ps : List Pr) : Prop where
  ob : ∃ dx, H x = some (.ins C dx (nfl l n))
  ls : H l = some (.lst (as.map V.ref))
  ts : TupsAt H as ps
  ok : netOk n ps = true
theorem NetAt.same {C : Addr} {H H' : Hp} {x l : Addr} {as : List Addr} {n : Int} {ps : List Pr} (N : NetAt C H x l as n ps) (s : Same H H') : NetAt C H' x l as n ps :=
  ⟨let ⟨dx, e⟩ := N.ob; ⟨dx, s _ _ e⟩, s _ _ N.ls, N.ts.same s, N.ok⟩
def spE_init (K : PySem.W.Frag) (t : Adr) : Sp := fun vs H Q E => ∃ (x dx p : Addr) (ps : List Pr) (n : Int), vs = [.ref x, .int n, .ref p] ∧ H x = some (.ins t.C_Net dx []) ∧ PairsAt K H p ps ∧ ps.length ≤ 1000 ∧
  (netOk n ps = true → ∀ (l : Addr) (as : List Addr) (H' : Hp), H l = none → (∀ b o, H b = some o → b ≠ x → H' b = some o) → NetAt t.C_Net H' x l as n ps → Q .non H') ∧ (netOk n ps = false → ∀ H', Same H H' → E (.ref t.C_NoNet) none H')
theorem okE_o (T : Txt K mg t) : FnOk P w K mg base (CX1 P w) 4 t.f_o t.d_o ["self", "places", "roads"] (spE_init K t) := by
  have c0 : NoX (CX1 P w) := nox1
  refine T.F_o.okE sc_o (fun vs H Q E h => ?_) (fun cdv A outer s H vs Q E hr h => ?_)
  · obtain ⟨x, dx, p, ps, n, rfl, _⟩ := h
    rfl
  · obtain ⟨x, dx, p, ps, n, rfl, hx, hp, hl, q, qE⟩ := h
    obtain ⟨as, hs, ht⟩ := id hp
    have la := ht.len
    refine ⟨_, (pss_cons (ps_expr (pe_callS (okE_o1 T) (hr.mono (by decide)) (by rfl) T.m_o1 T.F_o1.kp T.b_o1 (passesS_of passes_def) (pa_cons (pv 1) (pa_cons (pv 2) pa_nil))))
  (pss_cons (ps_fld (pv 0) (pv 1) (by rfl))
  (pss_one (ps_fld (pv 0) (pe_comp (own := (["start", "end"] : List Str)) (fr := ([] : List Str)) (ix := ([] : List Nat)) (by rfl) ⟨by rfl, by decide +kernel, by rfl, by rfl, by rfl⟩ (pi_list (pv 2)) (fun _ => (pg_tup (n := 2) (by rfl) (pgs_cons (pg_name (i := 0) (show List.Nodup (["start", "end"] : List Str) by decide +kernel) (by rfl) (Or.inl rfl)) (pgs_cons (pg_name (i := 1) (show List.Nodup (["start", "end"] : List Str) by decide +kernel) (by rfl) (Or.inl rfl)) pgs_nil)))) (fun _ hB => pts_nil) (fun _ hB => (pe_tup (pa_cons (pv 0) (pa_cons (pv 1) pa_nil))))) (by rfl))))), ?_⟩
    open_k with []
    refine ⟨p, ps, n, rfl, hp, hl, fun hn H1 s1 => ?_, fun hn H1 s1 => qE hn H1 s1⟩
    have hx1 := s1 _ _ hx
    have c1 : ∀ b o, H b = some o → b ≠ x → upd H1 x (.ins t.C_Net dx (putF "place_count" (.int n) [])) b = some o := fun b o e hb => by rw [upd_ne hb]; exact s1 _ _ e
    have npx : ∀ xs, SqL K H1 p xs → SqL K (upd H1 x (.ins t.C_Net dx (putF "place_count" (.int n) []))) p xs := fun xs h => by
      rcases h with (h | ⟨o, h⟩) | h
      · exact .inl (.inl (by rw [upd_ne (ne_of h hx1 (by intro z; cases z))]; exact h))
      · exact .inl (.inr ⟨o, by rw [upd_ne (ne_of h hx1 (by intro z; cases z))]; exact h⟩)
      · exact .inr h
    have hs1 := npx _ (s1.seq hs)
    have ht1 : TupsAt (upd H1 x (.ins t.C_Net dx (putF "place_count" (.int n) []))) as ps := (ht.same s1).upd hx1 (by intro xs z; cases z)
    refine ⟨t.C_Net, dx, [], hx1, T.cl_Net, T.na_Net_place_count, by show 0 < 1000; decide, ⟨_, hs1⟩, blk_list (xs := as.map V.ref) (fun i ys σ H' => ∃ u v bs, σ = [u, v] ∧ Same (upd H1 x (.ins t.C_Net dx (putF "place_count" (.int n) []))) H' ∧ ys = bs.map V.ref ∧ TupsAt H' bs (ps.take i))
      (by rw [List.length_map, la]; exact small_le (by omega)) ⟨none, none, [], rfl, Same.refl _, rfl, .nil⟩ ?_ ?_ ?_⟩
    · rintro i ys σ H2 hi ⟨u, v, bs, rfl, s2, rfl, tb⟩
      exact ⟨s2.seq hs1, by rw [List.length_map, tb.len]; simp; omega⟩
    · rintro bk i y ys σ H2 hy ⟨u, v, bs, rfl, s2, rfl, tb⟩
      obtain ⟨a, rfl, ha⟩ := map_ref hy
      obtain ⟨q', hq, hH⟩ := ht1.get ha
      refine gtup2 (SqT.of (s2 _ _ hH)) ?_
      open_k with []
      refine ⟨by decide, fun d hd => ⟨s2.upd' hd, bs ++ [d], by simp, ?_⟩⟩
      rw [List.take_add_one, hq]
      exact (tb.same (Same.new hd)).append (.cons upd_same .nil)
    · rintro ys σ H2 D ⟨u, v, bs, rfl, s2, rfl, tb⟩ hD
      rw [List.length_map, la, List.take_length] at tb
      have hx2 : upd H2 D (.lst (bs.map V.ref)) x = some (.ins t.C_Net dx (putF "place_count" (.int n) [])) := upd_old (s2 _ _ upd_same) hD
      refine ⟨t.C_Net, dx, _, hx2, T.cl_Net, T.na_Net_road_pairs, by show 1 < 1000; decide, ?_⟩
      have nDx : D ≠ x := fun z => by rw [← z, upd_same] at hx2; cases hx2
      refine q hn D bs _ ?_ (fun b o e hb => ?_) ⟨⟨dx, upd_same⟩, by rw [upd_ne nDx, upd_same], ?_, hn⟩
      · cases e : H D with
        | none => rfl
        | some o => rw [s2 _ _ (c1 D o e nDx)] at hD; cases hD
      · rw [upd_ne hb]
        exact upd_old (s2 _ _ (c1 b o e hb)) hD
      · exact (tb.same (Same.new hD)).upd hx2 (by intro xs z; cases z)
def sp_places (C : Addr) : Sp := fun vs H Q _ => ∃ (x l : Addr) (as : List Addr) (n : Int) (ps : List Pr), vs = [.ref x] ∧ NetAt C H x l as n ps ∧ Q (.int n) H
theorem ok_y (c0 : NoX CX) (T : Txt K mg t) : FnOk P w K mg base CX 1 t.f_y t.d_y ["self"] (sp_places t.C_Net) := by
  refine T.F_y.okX sc_y (fun vs H Q E h => ?_) (fun cdv A outer s H vs Q E hr h => ?_)
  · obtain ⟨x, l, as, n, ps, rfl, _⟩ := h
    rfl
  · obtain ⟨x, l, as, n, ps, rfl, N, q⟩ := h
    obtain ⟨dx, ex⟩ := N.ob
    refine ⟨_, (pss_one (ps_ret (pe_fld (pv 0) (by rfl)))), ?_⟩
    open_k with []
    exact ⟨_, _, _, ex, T.cl_Net, T.na_Net_place_count, _, nfl_count _ _, q⟩
def sp_roads (C : Addr) : Sp := fun vs H Q _ => ∃ (x l : Addr) (as : List Addr) (n : Int) (ps : List Pr), vs = [.ref x] ∧ NetAt C H x l as n ps ∧ ∀ d, H d = none → Q (.ref d) (upd H d (.lst (as.map V.ref)))
theorem ok_i1 (c0 : NoX CX) (T : Txt K mg t) : FnOk P w K mg base CX 1 t.f_i1 t.d_i1 ["self"] (sp_roads t.C_Net) := by
  refine T.F_i1.okX sc_i1 (fun vs H Q E h => ?_) (fun cdv A outer s H vs Q E hr h => ?_)
  · obtain ⟨x, l, as, n, ps, rfl, _⟩ := h
    rfl
  · obtain ⟨x, l, as, n, ps, rfl, N, q⟩ := h
    obtain ⟨dx, ex⟩ := N.ob
    refine ⟨_, (pss_one (ps_ret (pe_callTy call_list_of (by rfl) T.n_list (by decide +kernel : bootBuiltins "list" = some (.type "list")) (pa_cons (pe_fld (pv 0) (by rfl)) pa_nil)))), ?_⟩
    open_k with []
    exact ⟨_, _, _, ex, T.cl_Net, T.na_Net_road_pairs, _, nfl_pairs _ _, _, rfl, _, Or.inl (SqL.of N.ls), q⟩
def sp_check_place : Sp := fun vs H Q _ => ∃ a b : Int, vs = [.int a, .int b] ∧ within a b = true ∧ Q .non H
theorem ok_x (c0 : NoX CX) (T : Txt K mg t) : FnOk P w K mg base CX 2 t.f_x t.d_x ["place", "places"] sp_check_place := by
  refine T.F_x.okX sc_x (fun vs H Q E h => ?_) (fun cdv A outer s H vs Q E hr h => ?_)
  · obtain ⟨a, b, rfl, _⟩ := h
    rfl
  · obtain ⟨a, b, rfl, hw, q⟩ := h
    refine ⟨_, (pss_one (ps_if (pt_not (pt_val (pe_call (ok_w c0 T) (hr.mono (by decide)) (by rfl) T.m_w T.F_w.kp T.b_w .nil (pass1 c0) (pa_cons (pv 0) (pa_cons (pv 1) pa_nil)))))
  (pss_one ps_never)
  pss_nil)), ?_⟩
    open_k with []
    refine ⟨a, b, rfl, ?_⟩
    rw [hw]
    exact ⟨_, rfl, iteF q⟩
def sp_exits (C : Addr) : Sp := fun vs H Q _ => ∃ (x l : Addr) (as : List Addr) (n : Int) (ps : List Pr) (k : Int), vs = [.ref x, .int k] ∧ NetAt C H x l as n ps ∧ within k n = true ∧
  ∀ d H', Same H H' → H d = none → H' d = some (.lst (nats (exitsOf ps k))) → Q (.ref d) H'
theorem ok_j1 (c0 : NoX CX) (T : Txt K mg t) : FnOk P w K mg base CX 3 t.f_j1 t.d_j1 ["self", "place"] (sp_exits t.C_Net) := by
  refine T.F_j1.okX sc_j1 (fun vs H Q E h => ?_) (fun cdv A outer s H vs Q E hr h => ?_)
  · obtain ⟨x, l, as, n, ps, k, rfl, _⟩ := h
    rfl
  · obtain ⟨x, l, as, n, ps, k, rfl, N, hk, q⟩ := h
    obtain ⟨dx, ex⟩ := N.ob
    obtain ⟨_, ⟨l1, l2⟩, _, _⟩ := netOk_parts N.ok
    have la := N.ts.len
    refine ⟨_, (pss_cons (ps_expr (pe_call (ok_x c0 T) (hr.mono (by decide)) (by rfl) T.m_x T.F_x.kp T.b_x .nil (pass1 c0) (pa_cons (pv 1) (pa_cons (pe_fld (pv 0) (by rfl)) pa_nil))))
  (pss_one (ps_ret (pe_comp (own := (["number", "road"] : List Str)) (fr := (["place"] : List Str)) (ix := ([1] : List Nat)) (by rfl) ⟨by rfl, by decide +kernel, by rfl, by rfl, by rfl⟩ (pi_enum (by rfl) T.n_enumerate (pa_cons (pe_fld (pv 0) (by rfl)) pa_nil)) (fun _ => (pg_tup (n := 2) (by rfl) (pgs_cons (pg_name (i := 0) (show List.Nodup (["number", "road", "place"] : List Str) by decide +kernel) (by rfl) (Or.inl rfl)) (pgs_cons (pg_name (i := 1) (show List.Nodup (["number", "road", "place"] : List Str) by decide +kernel) (by rfl) (Or.inl rfl)) pgs_nil)))) (fun _ hB => (pts_one (pt_cmpR op_eq (pe_ix ix_tup (pv 1) pe_int (fun _ _ => rfl)) (pv 2) (nomark _)))) (fun _ hB => (pv 0)))))), ?_⟩
    open_k with []
    refine ⟨_, _, _, ex, T.cl_Net, T.na_Net_place_count, _, nfl_count _ _, k, n, rfl, hk, ?_⟩
    refine ⟨_, _, _, ex, T.cl_Net, T.na_Net_road_pairs, _, nfl_pairs _ _, l, rfl, ⟨_, SqL.of N.ls⟩, blk_enum (xs := as.map V.ref) (fun i ys σ H' => ∃ u v, σ = [u, v, some (.int k)] ∧ Same H H' ∧ ys = nats (exitsUp ps k i))
      (by rw [List.length_map, la]; exact small_le (by omega)) ⟨none, none, rfl, Same.refl _, rfl⟩ ?_ ?_ ?_⟩
    · rintro i ys σ H2 hi ⟨u, v, rfl, s2, rfl⟩
      exact ⟨SqL.of (s2 _ _ N.ls), by unfold nats; rw [List.length_map]; exact exitsUp_len _ _ _⟩
    · rintro bk i y ys σ H2 d hy ⟨u, v, rfl, s2, rfl⟩ hd
      obtain ⟨a, rfl, ha⟩ := map_ref hy
      obtain ⟨q', hq, hH⟩ := N.ts.get ha
      refine gtup2 (SqT.of upd_same) ?_
      open_k with [rIxT]
      refine ⟨[.int q'.1, .int q'.2], SqT.of (upd_old (s2 _ _ hH) hd), _, atI_nat (j := 0) rfl, rfl, ?_⟩
      have e : (ps.getD i (0, 0)).1 = q'.1 := by rw [List.getD_eq_getElem?_getD, hq]; rfl
      rw [exitsUp_succ, e, nats_append]
      by_cases h : q'.1 = k
      · simp [h, nats, s2.upd' hd]
      · simp [h, nats, s2.upd' hd]
    · rintro ys σ H2 D ⟨u, v, rfl, s2, rfl⟩ hD
      refine q D _ (s2.upd' hD) (s2.free hD) ?_
      rw [upd_same, List.length_map, la]
      rfl
def sp_is_written (K : PySem.W.Frag) : Sp := fun vs H Q _ => ∃ z : Str, vs = [.str z] ∧ z.length ≤ 1000 ∧ ∀ H', Same H H' → Q (.bl (isNum (cds z))) H'
def PvSg (H : Hp) (z : Str) (i : Nat) (ys : List V) (σ : St) (H' : Hp) : Prop := ∃ u, σ = [u] ∧ Same H H' ∧ ys = (((cds z).take i).map isDig).map V.bl
theorem ok_d (c0 : NoX CX) (T : Txt K mg t) : FnOk P w K mg base CX 1 t.f_d t.d_d ["text"] (sp_is_written K) := by
  refine T.F_d.okX sc_d (fun vs H Q E h => ?_) (fun cdv A outer s H vs Q E hr h => ?_)
  · obtain ⟨z, rfl, _⟩ := h
    rfl
  · obtain ⟨z, rfl, hz, q⟩ := h
    refine ⟨_, (pss_cons (ps_if (PW.pt (pw_or (pt_cmpR op_eq (pv 0) pe_str (nomark _)) (pw_or1 (pt_not (pt_val (pe_callB (call_all (by rfl)) (by rfl) T.n_all (by decide +kernel : bootBuiltins "all" = some (.builtin "all")) (pa_cons (pe_comp (own := (["sign"] : List Str)) (fr := ([] : List Str)) (ix := ([] : List Nat)) (by rfl) ⟨by rfl, by decide +kernel, by rfl, by rfl, by rfl⟩ (pi_str (pv 0)) (fun _ => (pg_name (i := 0) (show List.Nodup (["sign"] : List Str) by decide +kernel) (by rfl) (Or.inl rfl))) (fun _ hB => pts_nil) (fun _ hB => (pe_cmpR op_in_str (pv 0) (pe_glob (by rfl) T.m_FIGURES T.r_FIGURES) (by with_unfolding_all rfl)))) pa_nil)))))))
  (pss_one (ps_ret pe_bl))
  pss_nil)
  (pss_one (ps_ret (pe_or (pe_cmpR op_eq (pv 0) pe_str (nomark _)) (pe_one (pe_cmpR op_ne (pe_ix ix_str (pv 0) pe_int (fun _ _ => rfl)) pe_str (nomark _))))))), ?_⟩
    open_k with [iStr]
    refine ⟨rfl, ?_⟩
    have hc0 : ∀ y : Str, cds y = [] → y = Str.ofString "" := fun y h => cds_inj h
    have hc1 : ∀ y : Str, cds y = [48] → y = Str.ofString "0" := fun y h => cds_inj (h.trans (by decide +kernel))
    cases hl : cds z with
    | nil =>
      have e := hc0 z hl
      rw [if_pos (by rw [e]; decide +kernel)]
      have : isNum (cds z) = false := by rw [hl]; rfl
      rw [← this]
      exact q H (Same.refl _)
    | cons c r =>
      have ne : ¬ z = Str.ofString "" := fun e => by
        have : cds z = [] := by rw [e]; rfl
        rw [hl] at this; cases this
      rw [if_neg (by simp [ne])]
      refine blk_str (PvSg H z) (by rw [show z.cps.size = z.length from rfl]; exact small_le hz) ⟨none, rfl, Same.refl _, rfl⟩ ?_ ?_ ?_
      · rintro i ys σ H1 hi ⟨u, rfl, s1, rfl⟩
        simp
        omega
      · rintro bk i d ys σ H1 hd ⟨u, rfl, s1, rfl⟩
        open_k with []
        refine ⟨_, rfl, s1, ?_⟩
        have hd' : (cds z)[i]? = some d := by simpa [cds] using hd
        rw [in_figs, List.take_add_one, hd']
        simp
      · rintro ys σ H1 D ⟨u, rfl, s1, rfl⟩ hD
        have ht : (cds z).take z.cps.size = cds z := List.take_of_length_le (by simp [cds])
        rw [ht]
        refine ⟨_, rfl, _, SqL.of upd_same, ?_⟩
        have s2 := s1.upd' (o := .lst (((cds z).map isDig).map V.bl)) hD
        generalize upd H1 D (.lst (((cds z).map isDig).map V.bl)) = H2 at *
        have ea : ((cds z).map isDig).all id = (cds z).all isDig := by simp [List.all_map, Function.comp_def]
        rw [ea]
        cases ha : (cds z).all isDig
        · rw [if_pos (by rfl)]
          have : isNum (cds z) = false := by simp [isNum, ha]
          rw [← this]
          exact q H2 s2
        · rw [if_neg (by simp)]
          refine ⟨rfl, ?_⟩
          by_cases h0 : z = Str.ofString "0"
          · rw [if_pos (by simp [h0])]
            have e48 : cds z = [48] := by rw [h0]; decide +kernel
            have : isNum (cds z) = true := by rw [e48]; decide
            rw [← this]
            exact q H2 s2
          · rw [if_neg (by simp [h0])]
            refine ⟨z, _, c, rfl, rfl, small_le hz, ?_, rfl, ?_⟩
            · show atI (cds z) 0 = some c
              rw [hl]
              exact atI_nat (j := 0) rfl
            · have n48 : cds z ≠ [48] := fun e => h0 (hc1 z e)
              have : isNum (cds z) = !decide (V.str ⟨#[c]⟩ = V.str (Str.ofString "0")) := by
                unfold isNum
                rw [ha, hl]
                rw [hl] at n48
                have e1 : ((⟨#[c]⟩ : Str) = Str.ofString "0") ↔ c = 48 := by
                  constructor
                  · intro e
                    have : cds ⟨#[c]⟩ = [48] := by rw [e]; decide +kernel
                    exact (List.cons.inj this).1
                  · rintro rfl
                    exact cds_inj (by decide +kernel)
                simp [e1]
                by_cases hc : c = 48
                · subst hc
                  simp at n48
                  simp [n48]
                · simp [hc]
              rw [← this]
              exact q H2 s2
theorem len32 : (Str.ofString (toString (32 : Int))).length = 2 := by decide +kernel
def spE_read_number (t : Adr) : Sp := fun vs H Q E => ∃ z : Str, vs = [.str z] ∧ z.length ≤ 1000 ∧ (∀ m, numOf (cds z) = some m → ∀ H', Same H H' → Q (.int (m : Nat)) H') ∧ (numOf (cds z) = none → ∀ H', Same H H' → E (.ref t.C_NotRead) none H')
theorem okE_f1 (T : Txt K mg t) : FnOk P w K mg base (CX1 P w) 2 t.f_f1 t.d_f1 ["text"] (spE_read_number t) := by
  have c0 : NoX (CX1 P w) := nox1
  refine T.F_f1.okE sc_f1 (fun vs H Q E h => ?_) (fun cdv A outer s H vs Q E hr h => ?_)
  · obtain ⟨z, rfl, _⟩ := h
    rfl
  · obtain ⟨z, rfl, hz, q, qE⟩ := h
    have hl := len_cds z
    refine ⟨_, (pss_cons (ps_if (pt_not (pt_val (pe_call (ok_d c0 T) (hr.mono (by decide)) (by rfl) T.m_d T.F_d.kp T.b_d .nil (pass1 c0) (pa_cons (pv 0) pa_nil))))
  (pss_one (ps_raiseS (by rfl) (raise_def).s T.e_NotRead (by rfl) T.m_NotRead (pa_cons pe_str pa_nil)))
  pss_nil)
  (pss_cons (ps_if (pt_cmpR op_gt (pe_callB call_len (by rfl) T.n_len (by decide +kernel : bootBuiltins "len" = some (.builtin "len")) (pa_cons (pv 0) pa_nil)) (pe_callB call_len (by rfl) T.n_len (by decide +kernel : bootBuiltins "len" = some (.builtin "len")) (pa_cons (pe_callTy call_str_int (by rfl) T.n_str (by decide +kernel : bootBuiltins "str" = some (.type "str")) (pa_cons (pe_glob (by rfl) T.m_MOST_PLACES T.r_MOST_PLACES) pa_nil)) pa_nil)) (nomark _))
  (pss_one (ps_raiseS (by rfl) (raise_def).s T.e_NotRead (by rfl) T.m_NotRead (pa_cons pe_str pa_nil)))
  pss_nil)
  (pss_one (ps_ret (pe_callTy call_int_str (by rfl) T.n_int (by decide +kernel : bootBuiltins "int" = some (.type "int")) (pa_cons (pv 0) pa_nil)))))), ?_⟩
    open_k with []
    refine ⟨z, rfl, hz, fun H1 s1 => ⟨_, rfl, ?_⟩⟩
    cases h5 : isNum (cds z)
    · rw [if_pos (by rfl)]
      exact ⟨by decide, qE (by simp [numOf, h5]) H1 s1⟩
    · rw [if_neg (by simp)]
      refine ⟨_, ⟨small_le hz, rfl⟩, by decide +kernel, _, ⟨by rw [len32]; decide, rfl⟩, ?_⟩
      rw [len32]
      by_cases h2 : (cds z).length ≤ 2
      · rw [if_neg (by simp; omega)]
        have hm : numOf (cds z) = some (NumText.digitsVal (cds z)) := numOf_yes h5 h2
        obtain ⟨i1, i2⟩ := int_num hm
        exact ⟨_, i1, i2, q _ hm H1 s1⟩
      · rw [if_pos (by simp; omega)]
        exact ⟨by decide, qE (numOf_long h2) H1 s1⟩
def spE_read_road (t : Adr) : Sp := fun vs H Q E => ∃ z : Str, vs = [.str z] ∧ z.length ≤ 1000 ∧ (∀ q, roadOf (cds z) = some q → ∀ p H', Same H H' → H p = none → H' p = some (pairO q) → Q (.ref p) H') ∧ (roadOf (cds z) = none → ∀ H', Same H H' → E (.ref t.C_NotRead) none H')
theorem okE_r1 (T : Txt K mg t) : FnOk P w K mg base (CX1 P w) 3 t.f_r1 t.d_r1 ["text"] (spE_read_road t) := by
  have c0 : NoX (CX1 P w) := nox1
  refine T.F_r1.okE sc_r1 (fun vs H Q E h => ?_) (fun cdv A outer s H vs Q E hr h => ?_)
  · obtain ⟨z, rfl, _⟩ := h
    rfl
  · obtain ⟨z, rfl, hz, q, qE⟩ := h
    refine ⟨_, (pss_cons (ps_set (i := 1) sc_r1.nd (by rfl) (Or.inl rfl) (pe_bm PySem.F.plainAttrs_str PySem.F.slot_str_split PySem.F.type_str_split mt_split (pv 0) (pa_cons pe_str pa_nil)))
  (pss_cons (ps_if (pt_cmpR op_ne (pe_callB call_len (by rfl) T.n_len (by decide +kernel : bootBuiltins "len" = some (.builtin "len")) (pa_cons (pv 1) pa_nil)) pe_int (nomark _))
  (pss_one (ps_raiseS (by rfl) (raise_def).s T.e_NotRead (by rfl) T.m_NotRead (pa_cons pe_str pa_nil)))
  pss_nil)
  (pss_one (ps_ret (pe_tup (pa_cons (pe_callS (okE_f1 T) (hr.mono (by decide)) (by rfl) T.m_f1 T.F_f1.kp T.b_f1 (passesS_of passes_def) (pa_cons (pe_ix ix_list (pv 1) pe_int (fun _ _ => rfl)) pa_nil)) (pa_cons (pe_callS (okE_f1 T) (hr.mono (by decide)) (by rfl) T.m_f1 T.F_f1.kp T.b_f1 (passesS_of passes_def) (pa_cons (pe_ix ix_list (pv 1) pe_int (fun _ _ => rfl)) pa_nil)) pa_nil))))))), ?_⟩
    open_k with [rSplit, rIxL]
    refine ⟨rfl, by decide +kernel, Nat.le_trans (Nat.add_le_add_right hz 2) (by decide), fun d hd => ?_⟩
    have hcs : (Txt.split z (Str.ofString ">")).map cds = splitC 62 (cds z) := split_codes z 62
    have hsh : ∀ y ∈ Txt.split z (Str.ofString ">"), y.length ≤ 1000 := fun y hy => Nat.le_trans (split_short (c := 62) hy) hz
    generalize Txt.split z (Str.ofString ">") = ys at *
    refine ⟨_, lenL (SqL.of upd_same), rfl, ?_⟩
    by_cases h2 : ys.length = 2
    · obtain ⟨ya, yb, rfl⟩ : ∃ ya yb, ys = [ya, yb] := by
        match ys, h2 with
        | [u, v], _ => exact ⟨u, v, rfl⟩
      rw [if_neg (by simp)]
      have hs : splitC 62 (cds z) = [cds ya, cds yb] := hcs.symm
      refine ⟨_, SqL.of upd_same, _, atI_nat (j := 0) rfl, ya, rfl, hsh ya (by simp), fun x hx H1 s1 => ⟨_, SqL.of (s1 _ _ upd_same), _, atI_nat (j := 1) rfl, yb, rfl, hsh yb (by simp), fun y hy H2 s2 => ⟨by decide, fun p hp => ?_⟩, fun hy H2 s2 => ?_⟩, fun hx H1 s1 => ?_⟩
      · have s3 := (Same.new hd).trans (s1.trans s2)
        exact q ((x : Int), (y : Int)) (by simp [roadOf, hs, hx, hy]) p _ (s3.upd' hp) (s3.free hp) upd_same
      · exact qE (by simp [roadOf, hs, hx, hy]) H2 ((Same.new hd).trans (s1.trans s2))
      · exact qE (by simp [roadOf, hs, hx]) H1 ((Same.new hd).trans s1)
    · rw [if_pos (by simp; omega)]
      refine ⟨by decide, qE ?_ _ (Same.new hd)⟩
      have lc : (splitC 62 (cds z)).length ≠ 2 := by rw [← hcs, List.length_map]; exact h2
      unfold roadOf
      match e : splitC 62 (cds z), lc with
      | [], _ => rfl
      | [_], _ => rfl
      | [_, _], lc => exact absurd rfl lc
      | _ :: _ :: _ :: _, _ => rfl
def spE_read_places (t : Adr) : Sp := fun vs H Q E => ∃ z : Str, vs = [.str z] ∧ z.length ≤ 1000 ∧ (∀ m, placesOf (cds z) = some m → ∀ H', Same H H' → Q (.int (m : Nat)) H') ∧ (placesOf (cds z) = none → ∀ H', Same H H' → E (.ref t.C_NotRead) none H')
theorem okE_g1 (T : Txt K mg t) : FnOk P w K mg base (CX1 P w) 3 t.f_g1 t.d_g1 ["text"] (spE_read_places t) := by
  have c0 : NoX (CX1 P w) := nox1
  refine T.F_g1.okE sc_g1 (fun vs H Q E h => ?_) (fun cdv A outer s H vs Q E hr h => ?_)
  · obtain ⟨z, rfl, _⟩ := h
    rfl
  · obtain ⟨z, rfl, hz, q, qE⟩ := h
    refine ⟨_, (pss_cons (ps_if (pt_not (pt_val (pe_bm PySem.F.plainAttrs_str PySem.F.slot_str_endswith PySem.F.type_str_endswith mt_endswith (pv 0) (pa_cons pe_str pa_nil))))
  (pss_one (ps_raiseS (by rfl) (raise_def).s T.e_NotRead (by rfl) T.m_NotRead (pa_cons pe_str pa_nil)))
  pss_nil)
  (pss_one (ps_ret (pe_callS (okE_f1 T) (hr.mono (by decide)) (by rfl) T.m_f1 T.F_f1.kp T.b_f1 (passesS_of passes_def) (pa_cons (pe_slice sl_str (pv 0) po_none (po_some (pe_un un_neg pe_int))) pa_nil))))), ?_⟩
    open_k with [rEnds, rSlS]
    refine ⟨rfl, ?_⟩
    have e : Txt.endswith z (Str.ofString ":") = decide ((cds z).getLast? = some 58) := ends_one z 58
    rw [e]
    by_cases hl : (cds z).getLast? = some 58
    · rw [if_neg (by simp [hl])]
      have hc : cds (Txt.slice z none (some (-1))) = (cds z).dropLast := by rw [cds_slice, cutL_last]
      have hp : placesOf (cds z) = numOf (cds z).dropLast := by simp [placesOf, hl]
      refine ⟨small_le hz, _, rfl, ?_, fun m hm H1 s1 => q m ?_ H1 s1, fun hm H1 s1 => qE ?_ H1 s1⟩
      · have := Txt.slice_le z none (some (-1)); omega
      · rw [hp, ← hc]; exact hm
      · rw [hp, ← hc]; exact hm
    · rw [if_pos (by rw [decide_eq_false hl]; rfl)]
      exact ⟨by decide, qE (placesOf_no hl) H (Same.refl _)⟩
end
end Rb
set_option Elab.async false
set_option linter.all false
set_option maxRecDepth 100000
set_option maxHeartbeats 4000000
namespace Rb
open PySem L2
section
variable {CX : CXT} {P : Program} {w : World} {K : PySem.W.Frag} {mg : Str → Option Value} {base : Heap} {t : Adr}
def spE_read (t : Adr) : Sp := fun vs H Q E => ∃ z : Str, vs = [.str z] ∧ z.length ≤ 900 ∧
  (∀ (m : Nat) (qs : List Pr), partsOf (cds z) = some (m, qs) → netOk m qs = true → ∀ (x l : Addr) (as : List Addr) (H' : Hp), Same H H' → H x = none → NetAt t.C_Net H' x l as m qs → Q (.ref x) H') ∧
  ((partsOf (cds z) = none ∨ ∃ m qs, partsOf (cds z) = some (m, qs) ∧ netOk ((m : Nat) : Int) qs = false) → ∀ o H', Same H H' → E (.ref t.C_NotRead) o H')
def PvRd (H : Hp) (r : List (List Nat)) (i : Nat) (ys : List V) (σ : St) (H' : Hp) : Prop := ∃ (u : Option V) (bs : List Addr) (qs : List Pr), σ = [u] ∧ Same H H' ∧ ys = bs.map V.ref ∧ TupsAt H' bs qs ∧ roadsOf (r.take i) = some qs
theorem okE_y1 (T : Txt K mg t) : FnOk P w K mg base (CX1 P w) 6 t.f_y1 t.d_y1 ["text"] (spE_read t) := by
  have c0 : NoX (CX1 P w) := nox1
  refine T.F_y1.okE sc_y1 (fun vs H Q E h => ?_) (fun cdv A outer s H vs Q E hr h => ?_)
  · obtain ⟨z, rfl, _⟩ := h
    rfl
  · obtain ⟨z, rfl, hz, q, qE⟩ := h
    refine ⟨_, (pss_cons (ps_set (i := 1) sc_y1.nd (by rfl) (Or.inl rfl) (pe_bm PySem.F.plainAttrs_str PySem.F.slot_str_split PySem.F.type_str_split mt_split (pv 0) (pa_cons pe_str pa_nil)))
  (pss_cons (ps_set (i := 2) sc_y1.nd (by rfl) (Or.inl rfl) (pe_callS (okE_g1 T) (hr.mono (by decide)) (by rfl) T.m_g1 T.F_g1.kp T.b_g1 (passesS_of passes_def) (pa_cons (pe_ix ix_list (pv 1) pe_int (fun _ _ => rfl)) pa_nil)))
  (pss_cons (ps_comp (i := 3) sc_y1.nd (by rfl) (Or.inl rfl) (own := (["part"] : List Str)) (fr := ([] : List Str)) (ix := ([] : List Nat)) (by rfl) ⟨by rfl, by decide +kernel, by rfl, by rfl, by rfl⟩ (pi_list (pe_slice sl_list (pv 1) (po_some pe_int) po_none)) (fun _ => (pg_name (i := 0) (show List.Nodup (["part"] : List Str) by decide +kernel) (by rfl) (Or.inl rfl))) (fun _ hB => pts_nil) (fun _ hB => (pe_callS (okE_r1 T) (hr.mono (by decide)) (by rfl) T.m_r1 T.F_r1.kp T.b_r1 (passes_blk hB) (pa_cons (pv 0) pa_nil))))
  (pss_one (ps_tryFrom (by rfl) (by rfl) (fun _ XE hP => (pss_one (ps_ret (pe_makeS T.mk_Net (okE_o T) (hr.mono (by decide)) (by rfl) T.m_Net T.b_o hP (pa_cons (pv 2) (pa_cons (pv 3) pa_nil)))))) (passesS_of passes_def) (by rfl) T.m_NoNet T.e_NotRead (by rfl) T.m_NotRead (fun _ => (pa_cons pe_str pa_nil))))))), ?_⟩
    open_k with [rSplit, rIxL, rSlL]
    refine ⟨rfl, by decide +kernel, Nat.le_trans (Nat.add_le_add_right hz 2) (by decide), fun d hd => ?_⟩
    have hcs : (Txt.split z (Str.ofString " ")).map cds = splitC 32 (cds z) := split_codes z 32
    have hsh : ∀ y ∈ Txt.split z (Str.ofString " "), y.length ≤ 1000 := fun y hy => Nat.le_trans (split_short (c := 32) hy) (by omega)
    have hct : (Txt.split z (Str.ofString " ")).length ≤ z.length + 1 := split_count (c := 32)
    have hne : Txt.split z (Str.ofString " ") ≠ [] := split_ne _ _
    generalize Txt.split z (Str.ofString " ") = ys at *
    obtain ⟨y0, yr, rfl⟩ : ∃ y0 yr, ys = y0 :: yr := by
      match ys, hne with
      | u :: v, _ => exact ⟨u, v, rfl⟩
    rw [List.map_cons] at hcs
    have s1 : Same H (upd H d (.lst ((y0 :: yr).map V.str))) := Same.new hd
    have g1 : upd H d (.lst ((y0 :: yr).map V.str)) d = some (.lst ((y0 :: yr).map V.str)) := upd_same
    generalize upd H d (.lst ((y0 :: yr).map V.str)) = H1 at *
    refine ⟨_, SqL.of g1, _, atI_nat (j := 0) rfl, y0, rfl, hsh y0 List.mem_cons_self, fun m hm H2 s2 => ?_, fun hm H2 s2 => ?_⟩
    · open_k with [rSlL]
      refine ⟨_, SqL.of (s2 _ _ g1), fun d2 hd2 => ?_⟩
      have ec : cutV ((y0 :: yr).map V.str) (some 1) none = yr.map V.str := by
        have := cutV_drop ((y0 :: yr).map V.str) 1 (by simp)
        rw [show ((1 : Nat) : Int) = 1 from rfl] at this
        rw [this]
        rfl
      rw [ec]
      have s3 : Same H (upd H2 d2 (.lst (yr.map V.str))) := (s1.trans s2).upd' hd2
      have g3 : upd H2 d2 (.lst (yr.map V.str)) d2 = some (.lst (yr.map V.str)) := upd_same
      generalize upd H2 d2 (.lst (yr.map V.str)) = H3 at *
      have lyr : yr.length ≤ 900 := by rw [List.length_cons] at hct; omega
      refine ⟨⟨_, SqL.of g3⟩, blk_list (xs := yr.map V.str) (PvRd H3 (yr.map cds)) (by rw [List.length_map]; exact small_le (by omega)) ⟨none, [], [], rfl, Same.refl _, rfl, .nil, rfl⟩ ?_ ?_ ?_⟩
      · rintro i ys σ H4 hi ⟨u, bs, qs, rfl, s4, rfl, tb, hq⟩
        refine ⟨SqL.of (s4 _ _ g3), ?_⟩
        have := roadsOf_len hq
        rw [List.length_map, tb.len, this, List.length_take]
        omega
      · rintro bk i y ys σ H4 hy ⟨u, bs, qs, rfl, s4, rfl, tb, hq⟩
        rw [List.getElem?_map] at hy
        cases ey : yr[i]? with
        | none => rw [ey] at hy; cases hy
        | some yi =>
          rw [ey] at hy
          cases hy
          have hpi : (yr.map cds)[i]? = some (cds yi) := by rw [List.getElem?_map, ey]; rfl
          open_k with []
          refine ⟨yi, rfl, hsh yi (List.mem_cons_of_mem _ (List.mem_of_getElem? ey)), fun qi hqi p H5 s5 fp hp5 => ⟨_, bs ++ [p], qs ++ [qi], rfl, s4.trans s5, by simp, (tb.same s5).append (.cons hp5 .nil), roadsOf_take _ _ _ _ _ hq hpi hqi⟩, fun hqi H5 s5 => qE (.inl ?_) none H5 (s3.trans (s4.trans s5))⟩
          have hb := roadsOf_bad _ _ _ hpi hqi
          simp [partsOf, ← hcs, hm, hb]
      · rintro ys σ H4 D ⟨u, bs, qs, rfl, s4, rfl, tb, hq⟩ hD
        have hq' : roadsOf (yr.map cds) = some qs := by rw [← hq, List.length_map, ← List.length_map (f := cds), List.take_length]
        have hparts : partsOf (cds z) = some (m, qs) := by simp [partsOf, ← hcs, hm, hq']
        have lq := roadsOf_len hq'
        rw [List.length_map] at lq
        open_k with [tTryFrom]
        intro b x dx fx fdx ndx
        have s5 : Same H (upd H4 D (.lst (bs.map V.ref))) := (s3.trans s4).upd' hD
        have g5 : upd H4 D (.lst (bs.map V.ref)) D = some (.lst (bs.map V.ref)) := upd_same
        have t5 := tb.same (Same.new (o := .lst (bs.map V.ref)) hD)
        generalize upd H4 D (.lst (bs.map V.ref)) = H5 at *
        have s6 : Same H5 (upd (upd H5 dx (.own x)) x (.ins t.C_Net dx [])) := fun b o e => by
          rw [upd_ne (ne_of_none e fx), upd_ne (ne_of_none e fdx)]
          exact e
        refine ⟨x, dx, D, qs, m, rfl, upd_same, ⟨bs, SqL.of (s6 _ _ g5), t5.same s6⟩, by omega, fun hok l2 as2 H6 fl2 k6 N6 => ⟨rfl, ?_⟩, fun hno H6 s7 => ⟨T.xmN, rfl, by decide, ?_⟩⟩
        · exact q m qs hparts hok x l2 as2 H6 (fun b o e => k6 b o (s6 _ _ (s5 _ _ e)) (ne_of_none (s5 _ _ e) fx)) (s5.free fx) N6
        · exact qE (.inr ⟨m, qs, hparts, hno⟩) (some 0) H6 (s5.trans (s6.trans s7))
    · exact qE (.inl (by simp [partsOf, ← hcs, hm])) none H2 (s1.trans s2)
end
end Rb
set_option Elab.async false
set_option linter.all false
set_option maxRecDepth 100000
set_option maxHeartbeats 4000000
namespace Rb
open PySem L2
section
variable {CX : CXT} {P : Program} {w : World} {K : PySem.W.Frag} {mg : Str → Option Value} {base : Heap} {t : Adr}
def sp_lone_row : Sp := fun vs H Q _ => ∃ (s n : Nat), vs = [.int s, .int n] ∧ n ≤ 1000 ∧ ∀ d, H d = none → Q (.ref d) (upd H d (.lst (rowV n fun p => if p = s then 1 else 0)))
theorem ok_s1 (c0 : NoX CX) (T : Txt K mg t) : FnOk P w K mg base CX 1 t.f_s1 t.d_s1 ["stop", "places"] sp_lone_row := by
  refine T.F_s1.okX sc_s1 (fun vs H Q E h => ?_) (fun cdv A outer s H vs Q E hr h => ?_)
  · obtain ⟨a, b, rfl, _⟩ := h
    rfl
  · obtain ⟨k, n, rfl, hn, q⟩ := h
    refine ⟨_, (pss_one (ps_ret (pe_comp (own := (["place"] : List Str)) (fr := (["stop"] : List Str)) (ix := ([0] : List Nat)) (by rfl) ⟨by rfl, by decide +kernel, by rfl, by rfl, by rfl⟩ (pi_range1 (by rfl) T.n_range (pa_cons (pv 1) pa_nil)) (fun _ => (pg_name (i := 0) (show List.Nodup (["place", "stop"] : List Str) by decide +kernel) (by rfl) (Or.inl rfl))) (fun _ hB => pts_nil) (fun _ hB => (pe_ifExp (pt_cmpR op_eq (pv 0) (pv 1) (nomark _)) pe_int pe_int))))), ?_⟩
    open_k with []
    refine ⟨by omega, by omega, blk_range (fun i ys σ H' => ∃ u, σ = [u, some (.int k)] ∧ H' = H ∧ ys = rowV i fun p => if p = k then 1 else 0) (by rw [Int.toNat_natCast]; exact small_le hn) ⟨none, rfl, rfl, rfl⟩ ?_ ?_ ?_⟩
    · rintro i ys σ H2 hi ⟨u, rfl, rfl, rfl⟩
      rw [rowV_len]
      exact Nat.le_refl _
    · rintro bk i ys σ H2 hi ⟨u, rfl, rfl, rfl⟩
      open_k with [Int.zero_add]
      refine ⟨rfl, ?_⟩
      rw [rowV_succ]
      by_cases h : i = k
      · subst h
        simp
      · have h' : ¬ ((i : Nat) : Int) = ((k : Nat) : Int) := by omega
        simp [h, h']
    · rintro ys σ H2 D ⟨u, rfl, rfl, rfl⟩ hD
      rw [Int.toNat_natCast]
      exact q D hD
def sp_tally_init (C : Addr) : Sp := fun vs H Q _ => ∃ (x dx : Addr) (n : Nat), vs = [.ref x, .int n] ∧ H x = some (.ins C dx []) ∧ n ≤ 1000 ∧
  ∀ (L : Addr) (rs : List Addr) (H' : Hp), (∀ b o, H b = some o → b ≠ x → H' b = some o) → TallyAt C H' x L rs n 1 (fun s p => if p = s then 1 else 0) → Q .non H'
theorem ok_g (c0 : NoX CX) (T : Txt K mg t) : FnOk P w K mg base CX 2 t.f_g t.d_g ["self", "places"] (sp_tally_init t.C_Tally) := by
  refine T.F_g.okX sc_g (fun vs H Q E h => ?_) (fun cdv A outer s H vs Q E hr h => ?_)
  · obtain ⟨x, dx, n, rfl, _⟩ := h
    rfl
  · obtain ⟨x, dx, n, rfl, hx, hn, q⟩ := h
    refine ⟨_, (pss_cons (ps_fld (pv 0) pe_int (by rfl))
  (pss_one (ps_fld (pv 0) (pe_comp (own := (["stop"] : List Str)) (fr := (["places"] : List Str)) (ix := ([1] : List Nat)) (by rfl) ⟨by rfl, by decide +kernel, by rfl, by rfl, by rfl⟩ (pi_range1 (by rfl) T.n_range (pa_cons (pv 1) pa_nil)) (fun _ => (pg_name (i := 0) (show List.Nodup (["stop", "places"] : List Str) by decide +kernel) (by rfl) (Or.inl rfl))) (fun _ hB => pts_nil) (fun _ hB => (pe_call (ok_s1 c0 T) (hr.mono (by decide)) (by rfl) T.m_s1 T.F_s1.kp T.b_s1 .nil (pass1 c0) (pa_cons (pv 0) (pa_cons (pv 1) pa_nil))))) (by rfl)))), ?_⟩
    open_k with []
    refine ⟨t.C_Tally, dx, [], hx, T.cl_Tally, T.na_Tally_many, by show 0 < 1000; decide, ?_⟩
    have c1 : ∀ b o, H b = some o → b ≠ x → upd H x (.ins t.C_Tally dx (putF "many" (.int 1) [])) b = some o := fun b o e hb => by rw [upd_ne hb]; exact e
    have e1 : upd H x (.ins t.C_Tally dx (putF "many" (.int 1) [])) x = some (.ins t.C_Tally dx (putF "many" (.int 1) [])) := upd_same
    generalize upd H x (.ins t.C_Tally dx (putF "many" (.int 1) [])) = H1 at *
    refine ⟨by omega, by omega, blk_range (fun i ys σ H' => ∃ u rs, σ = [u, some (.int n)] ∧ Same H1 H' ∧ ys = rs.map V.ref ∧ rs.length = i ∧ ∀ (s : Nat) (a : Addr), rs[s]? = some a → H' a = some (.lst (rowV n fun p => if p = s then 1 else 0)))
      (by rw [Int.toNat_natCast]; exact small_le hn) ⟨none, [], rfl, Same.refl _, rfl, rfl, fun s a h => by cases h⟩ ?_ ?_ ?_⟩
    · rintro i ys σ H2 hi ⟨u, rs, rfl, s2, rfl, hl, hr2⟩
      rw [List.length_map, hl]
      exact Nat.le_refl _
    · rintro bk i ys σ H2 hi ⟨u, rs, rfl, s2, rfl, hl, hr2⟩
      open_k with [Int.zero_add]
      refine ⟨i, n, rfl, hn, fun d hd => ⟨s2.upd' hd, rs ++ [d], by simp, by simp [hl], fun s a h => ?_⟩⟩
      by_cases hs : s < rs.length
      · rw [List.getElem?_append_left hs] at h
        exact upd_old (hr2 s a h) hd
      · have h1 : s = rs.length := by
          obtain ⟨h1, _⟩ := List.getElem?_eq_some_iff.mp h
          simp at h1
          omega
        subst h1
        have h2 : d = a := by simpa using h
        subst h2
        rw [upd_same, hl]
    · rintro ys σ H2 D ⟨u, rs, rfl, s2, rfl, hl, hr2⟩ hD
      rw [Int.toNat_natCast] at hl
      have hx2 : upd H2 D (.lst (rs.map V.ref)) x = some (.ins t.C_Tally dx (putF "many" (.int 1) [])) := upd_old (s2 _ _ e1) hD
      refine ⟨t.C_Tally, dx, _, hx2, T.cl_Tally, T.na_Tally_stopped, by show 1 < 1000; decide, ?_⟩
      have nDx : D ≠ x := fun z => by rw [← z, upd_same] at hx2; cases hx2
      refine q D rs _ (fun b o e hb => ?_) ⟨⟨dx, upd_same⟩, by rw [upd_ne nDx, upd_same], hl, fun s a h => ?_⟩
      · rw [upd_ne hb]
        exact upd_old (s2 _ _ (c1 b o e hb)) hD
      · have h3 := upd_old (o := HO.lst (rs.map V.ref)) (hr2 s a h) hD
        rw [upd_ne (ne_of h3 hx2 (by intro z; cases z))]
        exact h3
def sp_many_by (C : Addr) : Sp := fun vs H Q _ => ∃ (x L : Addr) (rs : List Addr) (n p e : Nat) (m : Int) (R : Nat → Nat → Int), vs = [.ref x, .int p, .int e] ∧ TallyAt C H x L rs n m R ∧ p < n ∧ e < n ∧ Q (.int (R p p - R p e)) H
theorem ok_j (c0 : NoX CX) (T : Txt K mg t) : FnOk P w K mg base CX 1 t.f_j t.d_j ["self", "place", "end"] (sp_many_by t.C_Tally) := by
  refine T.F_j.okX sc_j (fun vs H Q E h => ?_) (fun cdv A outer s H vs Q E hr h => ?_)
  · obtain ⟨x, L, rs, n, p, e, m, R, rfl, _⟩ := h
    rfl
  · obtain ⟨x, L, rs, n, p, e, m, R, rfl, W, hp, he, q⟩ := h
    obtain ⟨dx, ex⟩ := W.ob
    obtain ⟨a, _, ia, ha⟩ := W.get hp
    refine ⟨_, (pss_one (ps_ret (pe_op op_sub (pe_ix ix_list (pe_ix ix_list (pe_fld (pv 0) (by rfl)) (pv 1) (fun _ _ => rfl)) (pv 1) (fun _ _ => rfl)) (pe_ix ix_list (pe_ix ix_list (pe_fld (pv 0) (by rfl)) (pv 1) (fun _ _ => rfl)) (pv 2) (fun _ _ => rfl))))), ?_⟩
    open_k with [rIxL]
    exact ⟨_, _, _, ex, T.cl_Tally, T.na_Tally_stopped, _, tfl_stopped _ _, L, rfl, _, SqL.of W.ls, _, ia, a, rfl, _, SqL.of ha, _, row_at _ hp, _, _, _, ex, T.cl_Tally, T.na_Tally_stopped, _, tfl_stopped _ _, L, rfl, _, SqL.of W.ls, _, ia, a, rfl, _, SqL.of ha, _, row_at _ he, _, rfl, _, rfl, q⟩
def sp_changed_row (C : Addr) : Sp := fun vs H Q _ => ∃ (x L e : Addr) (rs : List Addr) (n s k : Nat) (m : Int) (R : Nat → Nat → Int) (es : List Nat), vs = [.ref x, .int s, .int k, .ref e, .int (shf R es k k)] ∧ TallyAt C H x L rs n m R ∧ H e = some (.lst (nats es)) ∧
  s < n ∧ k < n ∧ n ≤ 32 ∧ (∀ y ∈ es, y < n) ∧ es.length ≤ 64 ∧ GiveOk n k m R es ∧ ∀ d H', Same H H' → H' d = some (.lst (rowV n (chg m R es k s))) → Q (.ref d) H'
theorem ok_b (c0 : NoX CX) (T : Txt K mg t) : FnOk P w K mg base CX 1 t.f_b t.d_b ["self", "stop", "place", "ends", "many"] (sp_changed_row t.C_Tally) := by
  refine T.F_b.okX sc_b (fun vs H Q E h => ?_) (fun cdv A outer s H vs Q E hr h => ?_)
  · obtain ⟨x, L, e, rs, n, s, k, m, R, es, rfl, _⟩ := h
    rfl
  · obtain ⟨x, L, e, rs, n, s, k, m, R, es, rfl, W, he, hs, hk, hn, hes, hl, G, q⟩ := h
    obtain ⟨dx, ex⟩ := W.ob
    obtain ⟨a, _, ia, ha⟩ := W.get hs
    obtain ⟨b, _, ib, hb⟩ := W.get hk
    refine ⟨_, (pss_cons (ps_set (i := 5) sc_b.nd (by rfl) (Or.inr rfl) (pe_ix ix_list (pe_fld (pv 0) (by rfl)) (pv 1) (fun _ _ => rfl)))
  (pss_cons (ps_if (pt_cmpR op_eq (pv 1) (pv 2) (nomark _))
  (pss_one (ps_ret (pv 5)))
  pss_nil)
  (pss_cons (ps_set (i := 6) sc_b.nd (by rfl) (Or.inr rfl) (pe_callB (call_sum (by rfl)) (by rfl) T.n_sum (by decide +kernel : bootBuiltins "sum" = some (.builtin "sum")) (pa_cons (pe_comp (own := (["end"] : List Str)) (fr := (["row", "place"] : List Str)) (ix := ([5, 2] : List Nat)) (by rfl) ⟨by rfl, by decide +kernel, by rfl, by rfl, by rfl⟩ (pi_list (pv 3)) (fun _ => (pg_name (i := 0) (show List.Nodup (["end", "row", "place"] : List Str) by decide +kernel) (by rfl) (Or.inl rfl))) (fun _ hB => pts_nil) (fun _ hB => (pe_op op_sub (pe_ix ix_list (pv 1) (pv 2) (fun _ _ => rfl)) (pe_ix ix_list (pv 1) (pv 0) (fun _ _ => rfl))))) pa_nil)))
  (pss_one (ps_ret (pe_comp (own := (["old", "cut"] : List Str)) (fr := (["self", "many", "shift"] : List Str)) (ix := ([0, 4, 6] : List Nat)) (by rfl) ⟨by rfl, by decide +kernel, by rfl, by rfl, by rfl⟩ (pi_zip (by rfl) T.n_zip (pa_cons (pv 5) (pa_cons (pe_ix ix_list (pe_fld (pv 0) (by rfl)) (pv 2) (fun _ _ => rfl)) pa_nil))) (fun _ => (pg_tup (n := 2) (by rfl) (pgs_cons (pg_name (i := 0) (show List.Nodup (["old", "cut", "self", "many", "shift"] : List Str) by decide +kernel) (by rfl) (Or.inl rfl)) (pgs_cons (pg_name (i := 1) (show List.Nodup (["old", "cut", "self", "many", "shift"] : List Str) by decide +kernel) (by rfl) (Or.inl rfl)) pgs_nil)))) (fun _ hB => pts_nil) (fun _ hB => (pe_op op_fdivB (pe_op op_sub (pe_op op_mulB (pv 3) (pv 0)) (pe_op op_mulB (pv 4) (pv 1))) (pe_fld (pv 2) (by rfl)))))))))), ?_⟩
    open_k with [rIxL]
    refine ⟨_, _, _, ex, T.cl_Tally, T.na_Tally_stopped, _, tfl_stopped _ _, L, rfl, _, SqL.of W.ls, _, ia, rfl, ?_⟩
    by_cases c : s = k
    · subst c
      rw [if_pos (by simp)]
      refine q a H (Same.refl _) ?_
      rw [ha]
      congr 2
      exact rowV_congr fun p hp => by simp [chg]
    · rw [if_neg (by simp; omega)]
      refine ⟨⟨_, SqL.of he⟩, blk_list (xs := nats es) (fun i ys σ H' => ∃ u, σ = [u, some (.ref a), some (.int k)] ∧ H' = H ∧ ys = ((es.take i).map fun y => R s k - R s y).map V.int)
        (by unfold nats; rw [List.length_map]; exact small_le (by omega)) ⟨none, rfl, rfl, rfl⟩ ?_ ?_ ?_⟩
      · rintro i ys σ H2 hi ⟨u, rfl, rfl, rfl⟩
        exact ⟨SqL.of he, by simp; omega⟩
      · rintro bk i y ys σ H2 hy ⟨u, rfl, rfl, rfl⟩
        obtain ⟨y0, e0, rfl⟩ : ∃ y0, es[i]? = some y0 ∧ y = .int ((y0 : Nat) : Int) := by
          unfold nats at hy
          rw [List.getElem?_map] at hy
          cases h : es[i]? with
          | none => rw [h] at hy; cases hy
          | some y0 => rw [h] at hy; exact ⟨y0, rfl, (Option.some.inj hy).symm⟩
        have hy0 := hes y0 (List.mem_of_getElem? e0)
        open_k with [rIxL]
        refine ⟨_, SqL.of ha, _, row_at _ hk, _, SqL.of ha, _, row_at _ hy0, _, rfl, _, rfl, ?_⟩
        rw [List.take_add_one, e0]
        simp
      · rintro ys σ H2 D ⟨u, rfl, rfl, rfl⟩ hD
        have ln : (nats es).length = es.length := by unfold nats; rw [List.length_map]
        rw [ln, List.take_length]
        refine ⟨_, rfl, _, SqL.of upd_same, ?_⟩
        have es1 : (es.map fun y => R s k - R s y).sum = shf R es k s := rfl
        rw [es1]
        have s1 : Same H2 (upd H2 D (.lst ((es.map fun y => R s k - R s y).map V.int))) := Same.new hD
        generalize upd H2 D (.lst ((es.map fun y => R s k - R s y).map V.int)) = H1 at *
        have W1 := W.same s1
        have ex1 := s1 _ _ ex
        refine ⟨_, _, _, ex1, T.cl_Tally, T.na_Tally_stopped, _, tfl_stopped _ _, L, rfl, _, SqL.of W1.ls, _, ib, a, rfl, b, rfl, ⟨_, SqL.of (s1 _ _ ha)⟩, ⟨_, SqL.of (s1 _ _ hb)⟩, blk_zip (xs := rowV n (R s)) (ys0 := rowV n (R k)) (fun i ys σ H' => ∃ u v, σ = [u, v, some (.ref x), some (.int (shf R es k k)), some (.int (shf R es k s))] ∧ Same H1 H' ∧ ys = rowV i (chg m R es k s))
          (by rw [rowV_len]; exact small_le (by omega)) (by rw [rowV_len, rowV_len]) ⟨none, none, rfl, Same.refl _, rfl⟩ ?_ ?_ ?_⟩
        · rintro i ys σ H2 hi ⟨u, v, rfl, s2, rfl⟩
          refine ⟨SqL.of (s2 _ _ (s1 _ _ ha)), SqL.of (s2 _ _ (s1 _ _ hb)), ?_⟩
          rw [rowV_len]
          exact Nat.le_refl _
        · rintro bk i y z ys σ H2 p hy hz ⟨u, v, rfl, s2, rfl⟩ hp
          obtain ⟨rfl, hi⟩ := rowV_some hy
          obtain ⟨rfl, _⟩ := rowV_some hz
          refine gtup2 (SqT.of upd_same) ?_
          open_k with [rIxL]
          refine ⟨⟨G.bs k hk, G.bR s i hs hi⟩, ⟨G.bs s hs, G.bR k i hk hi⟩, _, _, _, upd_old (s2 _ _ ex1) hp, T.cl_Tally, T.na_Tally_many, _, tfl_many _ _, _, rfl, ⟨G.m0, G.bm⟩, s2.upd' hp, ?_⟩
          rw [rowV_succ]
          simp [chg, c]
        · rintro ys σ H2 D2 ⟨u, v, rfl, s2, rfl⟩ hD2
          rw [rowV_len]
          exact q D2 _ ((s1.trans s2).upd' hD2) upd_same
def sp_give (C : Addr) : Sp := fun vs H Q _ => ∃ (x L e : Addr) (rs : List Addr) (n k : Nat) (m : Int) (R : Nat → Nat → Int) (es : List Nat), vs = [.ref x, .int k, .ref e] ∧ TallyAt C H x L rs n m R ∧ H e = some (.lst (nats es)) ∧
  k < n ∧ n ≤ 32 ∧ (∀ y ∈ es, y < n) ∧ es.length ≤ 64 ∧ GiveOk n k m R es ∧ ∀ L' rs' H', (∀ b o, H b = some o → b ≠ x → H' b = some o) → TallyAt C H' x L' rs' n (shf R es k k) (chg m R es k) → Q .non H'
theorem ok_c (c0 : NoX CX) (T : Txt K mg t) : FnOk P w K mg base CX 2 t.f_c t.d_c ["self", "place", "ends"] (sp_give t.C_Tally) := by
  refine T.F_c.okX sc_c (fun vs H Q E h => ?_) (fun cdv A outer s H vs Q E hr h => ?_)
  · obtain ⟨x, L, e, rs, n, k, m, R, es, rfl, _⟩ := h
    rfl
  · obtain ⟨x, L, e, rs, n, k, m, R, es, rfl, W, he, hk, hn, hes, hl, G, q⟩ := h
    obtain ⟨dx, ex⟩ := W.ob
    refine ⟨_, (pss_cons (ps_set (i := 3) sc_c.nd (by rfl) (Or.inr rfl) (pe_callB (call_sum (by rfl)) (by rfl) T.n_sum (by decide +kernel : bootBuiltins "sum" = some (.builtin "sum")) (pa_cons (pe_comp (own := (["end"] : List Str)) (fr := (["place", "self"] : List Str)) (ix := ([1, 0] : List Nat)) (by rfl) ⟨by rfl, by decide +kernel, by rfl, by rfl, by rfl⟩ (pi_list (pv 2)) (fun _ => (pg_name (i := 0) (show List.Nodup (["end", "place", "self"] : List Str) by decide +kernel) (by rfl) (Or.inl rfl))) (fun _ hB => pts_nil) (fun _ hB => (pe_meth (pv 2) T.cl_Tally T.M_j (ok_j c0 T) (hr.mono (by decide)) T.b_j .nil (pass1 c0) (pa_cons (pv 1) (pa_cons (pv 0) pa_nil))))) pa_nil)))
  (pss_cons (ps_fld (pv 0) (pe_comp (own := (["stop"] : List Str)) (fr := (["place", "ends", "many", "self"] : List Str)) (ix := ([1, 2, 3, 0] : List Nat)) (by rfl) ⟨by rfl, by decide +kernel, by rfl, by rfl, by rfl⟩ (pi_range1 (by rfl) T.n_range (pa_cons (pe_callB call_len (by rfl) T.n_len (by decide +kernel : bootBuiltins "len" = some (.builtin "len")) (pa_cons (pe_fld (pv 0) (by rfl)) pa_nil)) pa_nil)) (fun _ => (pg_name (i := 0) (show List.Nodup (["stop", "place", "ends", "many", "self"] : List Str) by decide +kernel) (by rfl) (Or.inl rfl))) (fun _ hB => pts_nil) (fun _ hB => (pe_meth (pv 4) T.cl_Tally T.M_b (ok_b c0 T) (hr.mono (by decide)) T.b_b .nil (pass1 c0) (pa_cons (pv 0) (pa_cons (pv 1) (pa_cons (pv 2) (pa_cons (pv 3) pa_nil))))))) (by rfl))
  (pss_one (ps_fld (pv 0) (pv 3) (by rfl))))), ?_⟩
    open_k with []
    refine ⟨⟨_, SqL.of he⟩, blk_list (xs := nats es) (fun i ys σ H' => ∃ u, σ = [u, some (.int k), some (.ref x)] ∧ H' = H ∧ ys = ((es.take i).map fun y => R k k - R k y).map V.int)
      (by unfold nats; rw [List.length_map]; exact small_le (by omega)) ⟨none, rfl, rfl, rfl⟩ ?_ ?_ ?_⟩
    · rintro i ys σ H2 hi ⟨u, rfl, rfl, rfl⟩
      exact ⟨SqL.of he, by simp; omega⟩
    · rintro bk i y ys σ H2 hy ⟨u, rfl, rfl, rfl⟩
      obtain ⟨y0, e0, rfl⟩ : ∃ y0, es[i]? = some y0 ∧ y = .int ((y0 : Nat) : Int) := by
        unfold nats at hy
        rw [List.getElem?_map] at hy
        cases h : es[i]? with
        | none => rw [h] at hy; cases hy
        | some y0 => rw [h] at hy; exact ⟨y0, rfl, (Option.some.inj hy).symm⟩
      have hy0 := hes y0 (List.mem_of_getElem? e0)
      open_k with []
      refine ⟨_, _, ex, tfl_no _ _ (by decide +kernel) (by decide +kernel), x, L, rs, n, k, y0, m, R, rfl, W, hk, hy0, ?_⟩
      rw [List.take_add_one, e0]
      simp
    · rintro ys σ H2 D ⟨u, rfl, rfl, rfl⟩ hD
      have ln : (nats es).length = es.length := by unfold nats; rw [List.length_map]
      rw [ln, List.take_length]
      refine ⟨_, rfl, _, SqL.of upd_same, ?_⟩
      have es1 : (es.map fun y => R k k - R k y).sum = shf R es k k := rfl
      rw [es1]
      have s1 : Same H2 (upd H2 D (.lst ((es.map fun y => R k k - R k y).map V.int))) := Same.new hD
      generalize upd H2 D (.lst ((es.map fun y => R k k - R k y).map V.int)) = H1 at *
      have W1 := W.same s1
      have ex1 := s1 _ _ ex
      have lr : (rs.map V.ref).length = n := by rw [List.length_map]; exact W.ln
      refine ⟨_, _, _, ex1, T.cl_Tally, T.na_Tally_stopped, _, tfl_stopped _ _, _, lenL (SqL.of W1.ls), by omega, by omega, blk_range (fun i ys σ H' => ∃ u rs', σ = [u, some (.int k), some (.ref e), some (.int (shf R es k k)), some (.ref x)] ∧ Same H1 H' ∧ ys = rs'.map V.ref ∧ rs'.length = i ∧ ∀ (s : Nat) (a : Addr), rs'[s]? = some a → H' a = some (.lst (rowV n (chg m R es k s))))
        (by rw [Int.toNat_natCast, lr]; exact small_le (by omega)) ⟨none, [], rfl, Same.refl _, rfl, rfl, fun s a h => by cases h⟩ ?_ ?_ ?_⟩
      · rintro i ys σ H3 hi ⟨u, rs', rfl, s2, rfl, hl2, hr2⟩
        rw [List.length_map, hl2]
        exact Nat.le_refl _
      · rintro bk i ys σ H3 hi ⟨u, rs', rfl, s2, rfl, hl2, hr2⟩
        rw [Int.toNat_natCast, lr] at hi
        open_k with [Int.zero_add]
        refine ⟨_, _, s2 _ _ ex1, tfl_no _ _ (by decide +kernel) (by decide +kernel), x, L, e, rs, n, i, k, m, R, es, rfl, W1.same s2, s2 _ _ (s1 _ _ he), hi, hk, hn, hes, hl, G, fun d H4 s4 hd => ⟨s2.trans s4, rs' ++ [d], by simp, by simp [hl2], fun s a h => ?_⟩⟩
        by_cases hs : s < rs'.length
        · rw [List.getElem?_append_left hs] at h
          exact s4 _ _ (hr2 s a h)
        · have h1 : s = rs'.length := by
            obtain ⟨h1, _⟩ := List.getElem?_eq_some_iff.mp h
            simp at h1
            omega
          subst h1
          have h2 : d = a := by simpa using h
          subst h2
          rw [hl2]
          exact hd
      · rintro ys σ H3 D2 ⟨u, rs', rfl, s2, rfl, hl2, hr2⟩ hD2
        rw [Int.toNat_natCast, lr] at hl2
        have hx2 := upd_old (o := HO.lst (rs'.map V.ref)) (s2 _ _ ex1) hD2
        refine ⟨t.C_Tally, dx, _, hx2, T.cl_Tally, T.na_Tally_stopped, tfl_len _ _, t.C_Tally, dx, _, upd_same, T.cl_Tally, T.na_Tally_many, by rw [tfl_put1]; exact tfl_len _ _, ?_⟩
        rw [tfl_put1, tfl_put2]
        have nDx : D2 ≠ x := fun z => by rw [← z, upd_same] at hx2; cases hx2
        refine q D2 rs' _ (fun b o e hb => ?_) ⟨⟨dx, upd_same⟩, by rw [upd_ne nDx, upd_ne nDx, upd_same], hl2, fun s a h => ?_⟩
        · rw [upd_ne hb, upd_ne hb]
          exact upd_old (s2 _ _ (s1 _ _ e)) hD2
        · have h3 := upd_old (o := HO.lst (rs'.map V.ref)) (hr2 s a h) hD2
          have nx := ne_of h3 hx2 (by intro z; cases z)
          rw [upd_ne nx, upd_ne nx]
          exact h3
def sp_others (C : Addr) : Sp := fun vs H Q _ => ∃ (x l : Addr) (as : List Addr) (n g : Nat) (ps : List Pr), vs = [.ref x, .int g] ∧ NetAt C H x l as n ps ∧ ∀ d, H d = none → Q (.ref d) (upd H d (.lst (nats (others n g))))
theorem ok_u (c0 : NoX CX) (T : Txt K mg t) : FnOk P w K mg base CX 2 t.f_u t.d_u ["net", "goal"] (sp_others t.C_Net) := by
  refine T.F_u.okX sc_u (fun vs H Q E h => ?_) (fun cdv A outer s H vs Q E hr h => ?_)
  · obtain ⟨x, l, as, n, g, ps, rfl, _⟩ := h
    rfl
  · obtain ⟨x, l, as, n, g, ps, rfl, N, q⟩ := h
    obtain ⟨dx, ex⟩ := N.ob
    obtain ⟨⟨n1, n2⟩, _, _, _⟩ := netOk_parts N.ok
    refine ⟨_, (pss_one (ps_ret (pe_comp (own := (["place"] : List Str)) (fr := (["goal"] : List Str)) (ix := ([1] : List Nat)) (by rfl) ⟨by rfl, by decide +kernel, by rfl, by rfl, by rfl⟩ (pi_range1 (by rfl) T.n_range (pa_cons (pe_meth0 (pv 0) T.cl_Net T.M_y (ok_y c0 T) (hr.mono (by decide)) T.b_y .nil (pass1 c0)) pa_nil)) (fun _ => (pg_name (i := 0) (show List.Nodup (["place", "goal"] : List Str) by decide +kernel) (by rfl) (Or.inl rfl))) (fun _ hB => (pts_one (pt_cmpR op_ne (pv 0) (pv 1) (nomark _)))) (fun _ hB => (pv 0))))), ?_⟩
    open_k with []
    refine ⟨_, _, ex, nfl_no _ _ (by decide +kernel) (by decide +kernel), x, l, as, n, ps, rfl, N, _, rfl, by omega, by omega, blk_range (fun i ys σ H' => ∃ u, σ = [u, some (.int g)] ∧ H' = H ∧ ys = nats (others i g)) (by rw [Int.toNat_natCast]; exact small_le (by omega)) ⟨none, rfl, rfl, rfl⟩ ?_ ?_ ?_⟩
    · rintro i ys σ H2 hi ⟨u, rfl, rfl, rfl⟩
      unfold nats others
      rw [List.length_map]
      exact Nat.le_trans (List.length_filter_le _ _) (by simp)
    · rintro bk i ys σ H2 hi ⟨u, rfl, rfl, rfl⟩
      open_k with [Int.zero_add]
      refine ⟨rfl, ?_⟩
      have e : others (i + 1) g = others i g ++ if i = g then [] else [i] := by
        unfold others
        rw [List.range_succ, List.filter_append, List.filter_cons]
        by_cases c : i = g <;> simp [c]
      rw [e, nats_append]
      by_cases c : i = g
      · subst c
        simp [nats]
      · have c' : ¬ ((i : Nat) : Int) = ((g : Nat) : Int) := by omega
        simp [c, c', nats]
    · rintro ys σ H2 D ⟨u, rfl, rfl, rfl⟩ hD
      rw [Int.toNat_natCast]
      exact q D hD
def PvWT (CT : Addr) (HB : Hp) (x y d1 : Addr) (n g : Nat) (ps : List Pr) (i : Nat) (σ : St) (H' : Hp) : Prop := ∃ (v : Option V) (L : Addr) (rs : List Addr) (m : Int) (R : Nat → Nat → Int), σ = [some (.ref x), some (.int g), some (.ref d1), some (.ref y), v] ∧ (∀ b o, HB b = some o → b ≠ y → H' b = some o) ∧ TallyAt CT H' y L rs n m R ∧ m = Mx.det n (Mx.Rows (enR n ps) (gvL ps ((others n g).take i))) ∧
  (0 < m → ∀ s p, s < n → p < n → R s p = Mx.cof n (Mx.Rows (enR n ps) (gvL ps ((others n g).take i))) s p)
def sp_whole_tally (C CT : Addr) : Sp := fun vs H Q _ => ∃ (x l : Addr) (as : List Addr) (n g : Nat) (ps : List Pr), vs = [.ref x, .int g] ∧ NetAt C H x l as n ps ∧ g < n ∧
  ∀ (y L : Addr) (rs : List Addr) (m : Int) (R : Nat → Nat → Int) (H' : Hp), Same H H' → H y = none → TallyAt CT H' y L rs n m R → m = cntT n ps g → (0 < m → ∀ s p, s < n → p < n → R s p = Mx.cof n (Mx.Rows (enR n ps) (gvL ps (others n g))) s p) → Q (.ref y) H'
theorem ok_z (c0 : NoX CX) (T : Txt K mg t) : FnOk P w K mg base CX 4 t.f_z t.d_z ["net", "goal"] (sp_whole_tally t.C_Net t.C_Tally) := by
  refine T.F_z.okX sc_z (fun vs H Q E h => ?_) (fun cdv A outer s H vs Q E hr h => ?_)
  · obtain ⟨x, l, as, n, g, ps, rfl, _⟩ := h
    rfl
  · obtain ⟨x, l, as, n, g, ps, rfl, N, hg, q⟩ := h
    obtain ⟨dx, ex⟩ := N.ob
    obtain ⟨⟨n1, n2⟩, ⟨l1, l2⟩, hends, _⟩ := netOk_parts N.ok
    refine ⟨_, (pss_cons (ps_set (i := 2) sc_z.nd (by rfl) (Or.inr rfl) (pe_meth0 (pv 0) T.cl_Net T.M_i1 (ok_i1 c0 T) (hr.mono (by decide)) T.b_i1 .nil (pass1 c0)))
  (pss_cons (ps_set (i := 3) sc_z.nd (by rfl) (Or.inl rfl) (pe_make T.mk_Tally (ok_g c0 T) (hr.mono (by decide)) (by rfl) T.m_Tally T.b_g .nil (pass1 c0) (pa_cons (pe_meth0 (pv 0) T.cl_Net T.M_y (ok_y c0 T) (hr.mono (by decide)) T.b_y .nil (pass1 c0)) pa_nil)))
  (pss_cons (ps_for PassesOwn.never (by rfl) (pi_list (pe_call (ok_u c0 T) (hr.mono (by decide)) (by rfl) T.m_u T.F_u.kp T.b_u .nil (pass1 c0) (pa_cons (pv 0) (pa_cons (pv 1) pa_nil)))) (pg_name (i := 4) sc_z.nd (by rfl) (Or.inl rfl))
  (pss_one (ps_if (pt_cmpR op_gt (pe_fld (pv 3) (by rfl)) pe_int (nomark _))
  (pss_one (ps_expr (pe_meth (pv 3) T.cl_Tally T.M_c (ok_c c0 T) (hr.mono (by decide)) T.b_c .nil (pass1 c0) (pa_cons (pv 4) (pa_cons (pe_comp (own := (["road"] : List Str)) (fr := (["roads"] : List Str)) (ix := ([2] : List Nat)) (by rfl) ⟨by rfl, by decide +kernel, by rfl, by rfl, by rfl⟩ (pi_list (pe_meth (pv 0) T.cl_Net T.M_j1 (ok_j1 c0 T) (hr.mono (by decide)) T.b_j1 .nil (pass1 c0) (pa_cons (pv 4) pa_nil))) (fun _ => (pg_name (i := 0) (show List.Nodup (["road", "roads"] : List Str) by decide +kernel) (by rfl) (Or.inl rfl))) (fun _ hB => pts_nil) (fun _ hB => (pe_ix ix_tup (pe_ix ix_list (pv 1) (pv 0) (fun _ _ => rfl)) pe_int (fun _ _ => rfl)))) pa_nil)))))
  pss_nil)))
  (pss_one (ps_ret (pv 3)))))), ?_⟩
    open_k with []
    refine ⟨_, _, ex, nfl_no _ _ (by decide +kernel) (by decide +kernel), x, l, as, n, ps, rfl, N, fun d1 fd1 => ?_⟩
    have s1 : Same H (upd H d1 (.lst (as.map V.ref))) := Same.new fd1
    have hd1 : upd H d1 (.lst (as.map V.ref)) d1 = some (.lst (as.map V.ref)) := upd_same
    generalize upd H d1 (.lst (as.map V.ref)) = H1 at *
    refine ⟨_, _, s1 _ _ ex, nfl_no _ _ (by decide +kernel) (by decide +kernel), x, l, as, n, ps, rfl, N.same s1, fun y dy fy fdy ndy => ⟨y, dy, n, rfl, upd_same, by omega, fun L rs H2 k2 W => ⟨rfl, ?_⟩⟩⟩
    have s2 : Same H1 H2 := fun b o e => k2 b o (by rw [upd_ne (ne_of_none e fy)]; exact upd_old e fdy) (ne_of_none e fy)
    refine ⟨x, l, as, n, g, ps, rfl, (N.same s1).same s2, fun d2 fd2 => ⟨d2, rfl, ⟨_, SqL.of upd_same⟩, ?_⟩⟩
    have s3 : Same H2 (upd H2 d2 (.lst (nats (others n g)))) := Same.new fd2
    have hd2 : upd H2 d2 (.lst (nats (others n g))) d2 = some (.lst (nats (others n g))) := upd_same
    generalize upd H2 d2 (.lst (nats (others n g))) = HB at *
    have N3 := ((N.same s1).same s2).same s3
    have W3 := W.same s3
    obtain ⟨dT, eT⟩ := W3.ob
    have ny : ∀ b o, H1 b = some o → b ≠ y := fun b o e => ne_of_none e fy
    have nyd : d2 ≠ y := ne_of hd2 eT (by intro z; cases z)
    refine forb_list (xs := nats (others n g)) (PvWT t.C_Tally HB x y d1 n g ps) ⟨none, L, rs, 1, _, rfl, fun b o e _ => e, W3, ?_, fun _ => ?_⟩ ?_ ?_ ?_
    · have e0 : gvL ps ((others n g).take 0) = fun _ => [ps.length] := by funext i; simp [gvL]
      rw [e0, Mx.det_start (enR_out n ps)]
    · intro s p hs hp
      have e0 : gvL ps ((others n g).take 0) = fun _ => [ps.length] := by funext i; simp [gvL]
      rw [e0, Mx.cof_start (enR_out n ps) hs hp]
    · rintro i σ H4 hi ⟨v, L4, rs4, m4, R4, rfl, k4, W4, e4, c4⟩
      exact SqL.of (k4 _ _ hd2 nyd)
    · rintro i z σ H4 hz ⟨v, L4, rs4, m4, R4, rfl, k4, W4, e4, c4⟩
      obtain ⟨p, hp0, rfl⟩ : ∃ p, (others n g)[i]? = some p ∧ z = .int ((p : Nat) : Int) := by
        unfold nats at hz
        rw [List.getElem?_map] at hz
        cases h : (others n g)[i]? with
        | none => rw [h] at hz; cases hz
        | some y0 => rw [h] at hz; exact ⟨y0, rfl, (Option.some.inj hz).symm⟩
      obtain ⟨hpn, hpg⟩ := others_mem.mp (List.mem_of_getElem? hp0)
      have et : (others n g).take (i + 1) = (others n g).take i ++ [p] := by rw [List.take_add_one, hp0]; rfl
      have hpl : p ∉ (others n g).take i := (gvC_open (ps := ps) (c := fun _ => 0) hp0).1
      obtain ⟨dT4, eT4⟩ := W4.ob
      have N4 : NetAt t.C_Net H4 x l as n ps := by
        obtain ⟨dy, ey⟩ := N3.ob
        have s13 : ∀ b o, H1 b = some o → H4 b = some o := fun b o e => k4 b o (s3 _ _ (s2 _ _ e)) (ny b o e)
        exact ⟨⟨_, s13 _ _ (s1 _ _ ex)⟩, s13 _ _ (s1 _ _ N.ls), (N.ts.same s1).mono fun b o e => s13 _ _ e, N.ok⟩
      obtain ⟨dx4, ex4⟩ := N4.ob
      have h14 : H4 d1 = some (.lst (as.map V.ref)) := k4 _ _ (s3 _ _ (s2 _ _ hd1)) (ny _ _ hd1)
      have hg4 : ∀ i', i' < n → (gvL ps ((others n g).take i) i').length ≤ 64 := fun i' _ => gvL_len (by omega) _ _
      open_k with []
      refine ⟨_, _, _, eT4, T.cl_Tally, T.na_Tally_many, _, tfl_many _ _, _, rfl, ?_⟩
      by_cases c : 0 < m4
      · rw [if_pos (decide_eq_true c)]
        have hwp : within (p : Int) n = true := by rw [within_iff]; omega
        refine ⟨_, _, eT4, tfl_no _ _ (by decide +kernel) (by decide +kernel), _, _, ex4, nfl_no _ _ (by decide +kernel) (by decide +kernel), x, l, as, n, ps, p, rfl, N4, hwp, fun d5 H5 s5 fd5 hd5 => ⟨d5, rfl, ⟨_, SqL.of hd5⟩, blk_list (xs := nats (exitsOf ps p)) (fun j ys σ H' => ∃ u, σ = [u, some (.ref d1)] ∧ H' = H5 ∧ ys = nats (((exitsOf ps p).take j).map (enR n ps)))
          (by unfold nats; rw [List.length_map]; exact small_le (Nat.le_trans (exits_len ps p) (by omega))) ⟨none, rfl, rfl, rfl⟩ ?_ ?_ ?_⟩⟩
        · rintro j ys σ H6 hj ⟨u, rfl, rfl, rfl⟩
          exact ⟨SqL.of hd5, by unfold nats; simp; omega⟩
        · rintro bk j z ys σ H6 hz ⟨u, rfl, rfl, rfl⟩
          obtain ⟨r, hr0, rfl⟩ : ∃ r, (exitsOf ps p)[j]? = some r ∧ z = .int ((r : Nat) : Int) := by
            unfold nats at hz
            rw [List.getElem?_map] at hz
            cases h : (exitsOf ps p)[j]? with
            | none => rw [h] at hz; cases hz
            | some y0 => rw [h] at hz; exact ⟨y0, rfl, (Option.some.inj hz).symm⟩
          obtain ⟨hrl, hr1⟩ := exits_lt (List.mem_of_getElem? hr0)
          obtain ⟨a, ha, hH⟩ := N4.ts.get' (i := r) (q := ps[r]) (by simp [hrl])
          open_k with [rIxL, rIxT]
          refine ⟨_, SqL.of (s5 _ _ h14), _, atI_nat (j := r) (v := .ref a) (by rw [List.getElem?_map, ha]; rfl), a, rfl, _, SqT.of (s5 _ _ hH), _, atI_nat (j := 1) rfl, ?_⟩
          rw [List.take_add_one, hr0]
          have er : ps[r].2 = ((enR n ps r : Nat) : Int) := by
            rw [enR_in hrl]
            have g : ps.getD r (0, 0) = ps[r] := by rw [List.getD_eq_getElem?_getD]; simp [hrl]
            rw [g]
            have := ends_in hends (List.getElem_mem hrl)
            omega
          rw [er]
          simp [nats]
        · rintro ys σ H6 D ⟨u, rfl, rfl, rfl⟩ hD
          have ln : (nats (exitsOf ps p)).length = (exitsOf ps p).length := by unfold nats; rw [List.length_map]
          rw [ln, List.take_length]
          have S := give_step (gv := gvL ps ((others n g).take i)) hends (by omega) hg4 hpn (c4 c) (by rw [← e4]; exact c) (exitsOf ps p) (fun r hr => (exits_lt hr).1) (Nat.le_trans (exits_len ps p) (by omega))
          rw [← e4] at S
          obtain ⟨S1, S2, S3⟩ := S
          have s6 := s5.trans (Same.new (o := HO.lst (nats ((exitsOf ps p).map (enR n ps)))) hD)
          refine ⟨y, L4, D, rs4, n, p, m4, R4, (exitsOf ps p).map (enR n ps), rfl, W4.same s6, upd_same, hpn, by omega, fun e he => ?_, by rw [List.length_map]; exact Nat.le_trans (exits_len ps p) (by omega), S1, fun L7 rs7 H7 k7 W7 => ⟨_, L7, rs7, _, _, rfl, fun b o e hb => k7 b o (s6 _ _ (k4 b o e hb)) hb, W7, ?_, fun _ s' p' hs' hp' => ?_⟩⟩
          · obtain ⟨r, hr1, rfl⟩ := List.mem_map.mp he
            exact enR_lt hends (exits_lt hr1).1
          · rw [et, gvL_put]
            exact S2
          · rw [et, gvL_put]
            exact S3 s' p' hs' hp'
      · rw [if_neg (by simp [c])]
        have hx := fun i' (x' : Nat) (_ : i' < n) (hm : x' ∈ gvL ps ((others n g).take i) i') => gvL_ends hends _ _ _ hm
        have z4 : m4 = 0 := by
          have := Mx.det_nonneg hx
          rw [← e4] at this
          omega
        refine ⟨_, L4, rs4, m4, R4, rfl, k4, W4, ?_, fun c' => absurd c' c⟩
        rw [et, gvL_put, z4]
        exact (Mx.zero_stays hpn (enR_out n ps) (by simp [gvL, hpl]) hx (by rw [← e4]; exact z4) _ fun r hr => Nat.le_of_lt (enR_lt hends (exits_lt hr).1)).symm
    · rintro σ H4 ⟨v, L4, rs4, m4, R4, rfl, k4, W4, e4, c4⟩
      have ln : (nats (others n g)).length = (others n g).length := by unfold nats; rw [List.length_map]
      rw [ln, List.take_length] at e4 c4
      open_k with []
      exact q y L4 rs4 m4 R4 H4 (fun b o e => k4 b o (s3 _ _ (s2 _ _ (s1 _ _ e))) (ny b o (s1 _ _ e))) (s1.free fy) W4 e4 c4
def sp_many_trees (C : Addr) : Sp := fun vs H Q _ => ∃ (x l : Addr) (as : List Addr) (n g : Nat) (ps : List Pr), vs = [.ref x, .int g] ∧ NetAt C H x l as n ps ∧ g < n ∧ ∀ H', Same H H' → Q (.int (cntT n ps g)) H'
theorem ok_k1 (c0 : NoX CX) (T : Txt K mg t) : FnOk P w K mg base CX 5 t.f_k1 t.d_k1 ["net", "place"] (sp_many_trees t.C_Net) := by
  refine T.F_k1.okX sc_k1 (fun vs H Q E h => ?_) (fun cdv A outer s H vs Q E hr h => ?_)
  · obtain ⟨x, l, as, n, g, ps, rfl, _⟩ := h
    rfl
  · obtain ⟨x, l, as, n, g, ps, rfl, N, hg, q⟩ := h
    obtain ⟨dx, ex⟩ := N.ob
    refine ⟨_, (pss_cons (ps_expr (pe_call (ok_x c0 T) (hr.mono (by decide)) (by rfl) T.m_x T.F_x.kp T.b_x .nil (pass1 c0) (pa_cons (pv 1) (pa_cons (pe_meth0 (pv 0) T.cl_Net T.M_y (ok_y c0 T) (hr.mono (by decide)) T.b_y .nil (pass1 c0)) pa_nil))))
  (pss_one (ps_ret (pe_fld (pe_call (ok_z c0 T) (hr.mono (by decide)) (by rfl) T.m_z T.F_z.kp T.b_z .nil (pass1 c0) (pa_cons (pv 0) (pa_cons (pv 1) pa_nil))) (by rfl))))), ?_⟩
    open_k with []
    refine ⟨_, _, ex, nfl_no _ _ (by decide +kernel) (by decide +kernel), x, l, as, n, ps, rfl, N, _, _, rfl, by rw [within_iff]; omega, x, l, as, n, g, ps, rfl, N, hg, fun y L rs m R H1 s1 fy W e c => ?_⟩
    obtain ⟨dT, eT⟩ := W.ob
    refine ⟨y, rfl, _, _, _, eT, T.cl_Tally, T.na_Tally_many, _, tfl_many _ _, ?_⟩
    rw [e]
    exact q H1 s1
end
end Rb
set_option Elab.async false
set_option linter.all false
set_option maxRecDepth 100000
set_option maxHeartbeats 4000000
namespace Rb
open PySem L2
section
variable {CX : CXT} {P : Program} {w : World} {K : PySem.W.Frag} {mg : Str → Option Value} {base : Heap} {t : Adr}
def sp_first_place (C : Addr) : Sp := fun vs H Q _ => ∃ (x l : Addr) (as : List Addr) (n : Nat) (ps : List Pr), vs = [.ref x] ∧ NetAt C H x l as n ps ∧ ∀ H', Same H H' → Q (.int (stR ps 0)) H'
theorem ok_b1 (c0 : NoX CX) (T : Txt K mg t) : FnOk P w K mg base CX 2 t.f_b1 t.d_b1 ["net"] (sp_first_place t.C_Net) := by
  refine T.F_b1.okX sc_b1 (fun vs H Q E h => ?_) (fun cdv A outer s H vs Q E hr h => ?_)
  · obtain ⟨x, l, as, n, ps, rfl, _⟩ := h
    rfl
  · obtain ⟨x, l, as, n, ps, rfl, N, q⟩ := h
    obtain ⟨dx, ex⟩ := N.ob
    obtain ⟨⟨n1, n2⟩, ⟨l1, l2⟩, hends, _⟩ := netOk_parts N.ok
    obtain ⟨a, ha, hH⟩ := N.ts.get' (i := 0) (q := ps[0]) (by simp)
    have er : ps[0].1 = ((stR ps 0 : Nat) : Int) := by
      rw [(stR_cast hends (by omega)).1, List.getD_eq_getElem?_getD]
      simp [show 0 < ps.length by omega]
    refine ⟨_, (pss_one (ps_ret (pe_ix ix_tup (pe_ix ix_list (pe_meth0 (pv 0) T.cl_Net T.M_i1 (ok_i1 c0 T) (hr.mono (by decide)) T.b_i1 .nil (pass1 c0)) pe_int (fun _ _ => rfl)) pe_int (fun _ _ => rfl)))), ?_⟩
    open_k with [rIxL, rIxT]
    refine ⟨_, _, ex, nfl_no _ _ (by decide +kernel) (by decide +kernel), x, l, as, n, ps, rfl, N, fun d1 fd1 => ⟨d1, rfl, _, SqL.of upd_same, _, atI_nat (j := 0) (v := .ref a) (by rw [List.getElem?_map, ha]; rfl), a, rfl, _, SqT.of (upd_old hH fd1), _, atI_nat (j := 0) rfl, ?_⟩⟩
    rw [er]
    exact q _ (Same.new fd1)
def sp_unlike (C : Addr) : Sp := fun vs H Q _ => ∃ (x l : Addr) (as : List Addr) (n : Nat) (ps : List Pr), vs = [.ref x] ∧ NetAt C H x l as n ps ∧ ∀ (d : Addr) (H' : Hp), Same H H' → H d = none → H' d = some (.lst (nats (unlikeOf n ps))) → Q (.ref d) H'
theorem ok_q (c0 : NoX CX) (T : Txt K mg t) : FnOk P w K mg base CX 2 t.f_q t.d_q ["net"] (sp_unlike t.C_Net) := by
  refine T.F_q.okX sc_q (fun vs H Q E h => ?_) (fun cdv A outer s H vs Q E hr h => ?_)
  · obtain ⟨x, l, as, n, ps, rfl, _⟩ := h
    rfl
  · obtain ⟨x, l, as, n, ps, rfl, N, q⟩ := h
    obtain ⟨dx, ex⟩ := N.ob
    obtain ⟨⟨n1, n2⟩, ⟨l1, l2⟩, hends, _⟩ := netOk_parts N.ok
    have la := N.ts.len
    refine ⟨_, (pss_cons (ps_set (i := 1) sc_q.nd (by rfl) (Or.inr rfl) (pe_comp (own := (["start", "end"] : List Str)) (fr := ([] : List Str)) (ix := ([] : List Nat)) (by rfl) ⟨by rfl, by decide +kernel, by rfl, by rfl, by rfl⟩ (pi_list (pe_meth0 (pv 0) T.cl_Net T.M_i1 (ok_i1 c0 T) (hr.mono (by decide)) T.b_i1 .nil (pass1 c0))) (fun _ => (pg_tup (n := 2) (by rfl) (pgs_cons (pg_name (i := 0) (show List.Nodup (["start", "end"] : List Str) by decide +kernel) (by rfl) (Or.inl rfl)) (pgs_cons (pg_name (i := 1) (show List.Nodup (["start", "end"] : List Str) by decide +kernel) (by rfl) (Or.inl rfl)) pgs_nil)))) (fun _ hB => pts_nil) (fun _ hB => (pv 0))))
  (pss_cons (ps_set (i := 2) sc_q.nd (by rfl) (Or.inr rfl) (pe_comp (own := (["start", "end"] : List Str)) (fr := ([] : List Str)) (ix := ([] : List Nat)) (by rfl) ⟨by rfl, by decide +kernel, by rfl, by rfl, by rfl⟩ (pi_list (pe_meth0 (pv 0) T.cl_Net T.M_i1 (ok_i1 c0 T) (hr.mono (by decide)) T.b_i1 .nil (pass1 c0))) (fun _ => (pg_tup (n := 2) (by rfl) (pgs_cons (pg_name (i := 0) (show List.Nodup (["start", "end"] : List Str) by decide +kernel) (by rfl) (Or.inl rfl)) (pgs_cons (pg_name (i := 1) (show List.Nodup (["start", "end"] : List Str) by decide +kernel) (by rfl) (Or.inl rfl)) pgs_nil)))) (fun _ hB => pts_nil) (fun _ hB => (pv 1))))
  (pss_one (ps_ret (pe_comp (own := (["place"] : List Str)) (fr := (["starts", "ends"] : List Str)) (ix := ([1, 2] : List Nat)) (by rfl) ⟨by rfl, by decide +kernel, by rfl, by rfl, by rfl⟩ (pi_range1 (by rfl) T.n_range (pa_cons (pe_meth0 (pv 0) T.cl_Net T.M_y (ok_y c0 T) (hr.mono (by decide)) T.b_y .nil (pass1 c0)) pa_nil)) (fun _ => (pg_name (i := 0) (show List.Nodup (["place", "starts", "ends"] : List Str) by decide +kernel) (by rfl) (Or.inl rfl))) (fun _ hB => (pts_one (pt_cmpR op_ne (pe_bm PySem.F.plainAttrs_list PySem.F.slot_list_count PySem.F.type_list_count mt_count (pv 1) (pa_cons (pv 0) pa_nil)) (pe_bm PySem.F.plainAttrs_list PySem.F.slot_list_count PySem.F.type_list_count mt_count (pv 2) (pa_cons (pv 0) pa_nil)) (nomark _)))) (fun _ hB => (pv 0))))))), ?_⟩
    open_k with []
    refine ⟨_, _, ex, nfl_no _ _ (by decide +kernel) (by decide +kernel), x, l, as, n, ps, rfl, N, fun d1 fd1 => ⟨d1, rfl, ⟨_, SqL.of upd_same⟩, ?_⟩⟩
    have s1 : Same H (upd H d1 (.lst (as.map V.ref))) := Same.new fd1
    have hd1 : upd H d1 (.lst (as.map V.ref)) d1 = some (.lst (as.map V.ref)) := upd_same
    generalize upd H d1 (.lst (as.map V.ref)) = H1 at *
    have ht1 := N.ts.same s1
    refine blk_list (xs := as.map V.ref) (fun i ys σ H' => ∃ u v, σ = [u, v] ∧ H' = H1 ∧ ys = ((ps.take i).map (·.1)).map V.int) (by rw [List.length_map, la]; exact small_le (by omega)) ⟨none, none, rfl, rfl, rfl⟩ ?_ ?_ ?_
    · rintro i ys σ H2 hi ⟨u, v, rfl, rfl, rfl⟩
      exact ⟨SqL.of hd1, by simp; omega⟩
    · rintro bk i v ys σ H2 hv ⟨u, v', rfl, rfl, rfl⟩
      obtain ⟨a, rfl, ha⟩ := map_ref hv
      obtain ⟨q', hq, hH⟩ := ht1.get ha
      refine gtup2 (SqT.of hH) ?_
      open_k with []
      rw [List.take_add_one, hq]
      simp
    · rintro ys σ H2 D ⟨u, v, rfl, rfl, rfl⟩ hD
      rw [List.length_map, la, List.take_length]
      have s2 : Same H (upd H2 D (.lst ((ps.map (·.1)).map V.int))) := s1.upd' hD
      have hD1 : upd H2 D (.lst ((ps.map (·.1)).map V.int)) D = some (.lst ((ps.map (·.1)).map V.int)) := upd_same
      generalize upd H2 D (.lst ((ps.map (·.1)).map V.int)) = H3 at *
      refine ⟨_, _, s2 _ _ ex, nfl_no _ _ (by decide +kernel) (by decide +kernel), x, l, as, n, ps, rfl, N.same s2, fun d4 fd4 => ⟨d4, rfl, ⟨_, SqL.of upd_same⟩, ?_⟩⟩
      have s4 : Same H3 (upd H3 d4 (.lst (as.map V.ref))) := Same.new fd4
      have hd4 : upd H3 d4 (.lst (as.map V.ref)) d4 = some (.lst (as.map V.ref)) := upd_same
      generalize upd H3 d4 (.lst (as.map V.ref)) = H4 at *
      have ht4 := (N.ts.same s2).same s4
      refine blk_list (xs := as.map V.ref) (fun i ys σ H' => ∃ u v, σ = [u, v] ∧ H' = H4 ∧ ys = ((ps.take i).map (·.2)).map V.int) (by rw [List.length_map, la]; exact small_le (by omega)) ⟨none, none, rfl, rfl, rfl⟩ ?_ ?_ ?_
      · rintro i ys σ H5 hi ⟨u, v, rfl, rfl, rfl⟩
        exact ⟨SqL.of hd4, by simp; omega⟩
      · rintro bk i v ys σ H5 hv ⟨u, v', rfl, rfl, rfl⟩
        obtain ⟨a, rfl, ha⟩ := map_ref hv
        obtain ⟨q', hq, hH⟩ := ht4.get ha
        refine gtup2 (SqT.of hH) ?_
        open_k with []
        rw [List.take_add_one, hq]
        simp
      · rintro ys σ H5 D2 ⟨u, v, rfl, rfl, rfl⟩ hD2
        rw [List.length_map, la, List.take_length]
        have s5 : Same H (upd H5 D2 (.lst ((ps.map (·.2)).map V.int))) := (s2.trans s4).upd' hD2
        have hD2' : upd H5 D2 (.lst ((ps.map (·.2)).map V.int)) D2 = some (.lst ((ps.map (·.2)).map V.int)) := upd_same
        have hD1' : upd H5 D2 (.lst ((ps.map (·.2)).map V.int)) D = some (.lst ((ps.map (·.1)).map V.int)) := upd_old (s4 _ _ hD1) hD2
        generalize upd H5 D2 (.lst ((ps.map (·.2)).map V.int)) = H6 at *
        refine ⟨_, _, s5 _ _ ex, nfl_no _ _ (by decide +kernel) (by decide +kernel), x, l, as, n, ps, rfl, N.same s5, _, rfl, by omega, by omega, blk_range (fun i ys σ H' => ∃ u, σ = [u, some (.ref D), some (.ref D2)] ∧ H' = H6 ∧ ys = nats (unlikeOf i ps)) (by rw [Int.toNat_natCast]; exact small_le (by omega)) ⟨none, rfl, rfl, rfl⟩ ?_ ?_ ?_⟩
        · rintro i ys σ H7 hi ⟨u, rfl, rfl, rfl⟩
          rw [nats_len]
          exact Nat.le_trans (List.length_filter_le _ _) (by simp)
        · rintro bk i ys σ H7 hi ⟨u, rfl, rfl, rfl⟩
          open_k with [Int.zero_add, rCount]
          refine ⟨Or.inl ⟨rfl, _, SqL.of hD1'⟩, _, hD1', Or.inl ⟨rfl, _, SqL.of hD2'⟩, _, hD2', rfl, ?_⟩
          have e : unlikeOf (i + 1) ps = unlikeOf i ps ++ if (ps.map (·.1)).count (i : Int) = (ps.map (·.2)).count (i : Int) then [] else [i] := by
            unfold unlikeOf
            rw [List.range_succ, List.filter_append, List.filter_cons]
            by_cases c : (ps.map (·.1)).count (i : Int) = (ps.map (·.2)).count (i : Int) <;> simp [c]
          rw [e, nats_append]
          by_cases c : (ps.map (·.1)).count (i : Int) = (ps.map (·.2)).count (i : Int)
          · simp [c, nats]
          · have c' : ¬ (((ps.map (·.1)).count (i : Int) : Nat) : Int) = (((ps.map (·.2)).count (i : Int) : Nat) : Int) := by omega
            simp [c, c', nats]
        · rintro ys σ H7 D3 ⟨u, rfl, rfl, rfl⟩ hD3
          rw [Int.toNat_natCast]
          exact q D3 _ (s5.upd' hD3) (s5.free hD3) upd_same
def PvRW (HB : Hp) (x d1 dr : Addr) (n : Nat) (ps : List Pr) (k : Nat) (σ : St) (H' : Hp) : Prop := ∃ (rs : List Nat) (done : Nat) (v : Option V), σ = [some (.ref x), some (.ref d1), some (.ref dr), some (.int done), v] ∧ (∀ b o, HB b = some o → b ≠ dr → H' b = some o) ∧ H' dr = some (.lst (nats rs)) ∧ Grown n ps rs done ∧ k = 33 - done
def PvRF (HB : Hp) (x d1 dr : Addr) (n : Nat) (ps : List Pr) (rs : List Nat) (done p : Nat) (d3 : Addr) (i : Nat) (σ : St) (H' : Hp) : Prop := ∃ (rs' : List Nat) (v : Option V), σ = [some (.ref x), some (.ref d1), some (.ref dr), some (.int done), v] ∧ (∀ b o, HB b = some o → b ≠ dr → H' b = some o) ∧ H' dr = some (.lst (nats rs')) ∧ H' d3 = some (.lst (nats (exitsOf ps p))) ∧ d3 ≠ dr ∧ Grows n ps rs done p i rs'
def sp_reached (C : Addr) : Sp := fun vs H Q _ => ∃ (x l : Addr) (as : List Addr) (n : Nat) (ps : List Pr), vs = [.ref x] ∧ NetAt C H x l as n ps ∧ ∀ (d : Addr) (H' : Hp) (rs : List Nat), Same H H' → H d = none → H' d = some (.lst (nats rs)) → (∀ p, p ∈ rs ↔ ReachP n ps p) → rs.length ≤ 32 → Q (.ref d) H'
theorem ok_k (c0 : NoX CX) (T : Txt K mg t) : FnOk P w K mg base CX 4 t.f_k t.d_k ["net"] (sp_reached t.C_Net) := by
  refine T.F_k.okX sc_k (fun vs H Q E h => ?_) (fun cdv A outer s H vs Q E hr h => ?_)
  · obtain ⟨x, l, as, n, ps, rfl, _⟩ := h
    rfl
  · obtain ⟨x, l, as, n, ps, rfl, N, q⟩ := h
    obtain ⟨dx, ex⟩ := N.ob
    obtain ⟨⟨n1, n2⟩, ⟨l1, l2⟩, hends, _⟩ := netOk_parts N.ok
    have la := N.ts.len
    refine ⟨_, (pss_cons (ps_set (i := 1) sc_k.nd (by rfl) (Or.inl rfl) (pe_meth0 (pv 0) T.cl_Net T.M_i1 (ok_i1 c0 T) (hr.mono (by decide)) T.b_i1 .nil (pass1 c0)))
  (pss_cons (ps_set (i := 2) sc_k.nd (by rfl) (Or.inl rfl) (pe_lst (pa_cons (pe_call (ok_b1 c0 T) (hr.mono (by decide)) (by rfl) T.m_b1 T.F_b1.kp T.b_b1 .nil (pass1 c0) (pa_cons (pv 0) pa_nil)) pa_nil)))
  (pss_cons (ps_set (i := 3) sc_k.nd (by rfl) (Or.inl rfl) pe_int)
  (pss_cons (ps_while PassesOwn.never (pt_cmpR op_lt (pv 3) (pe_callB call_len (by rfl) T.n_len (by decide +kernel : bootBuiltins "len" = some (.builtin "len")) (pa_cons (pv 2) pa_nil)) (nomark _))
  (pss_cons (ps_for PassesOwn.never (by rfl) (pi_list (pe_meth (pv 0) T.cl_Net T.M_j1 (ok_j1 c0 T) (hr.mono (by decide)) T.b_j1 .nil (pass1 c0) (pa_cons (pe_ix ix_list (pv 2) (pv 3) (fun _ _ => rfl)) pa_nil))) (pg_name (i := 4) sc_k.nd (by rfl) (Or.inl rfl))
  (pss_one (ps_if (pt_cmpR op_notIn_seq (pe_ix ix_tup (pe_ix ix_list (pv 1) (pv 4) (fun _ _ => rfl)) pe_int (fun _ _ => rfl)) (pv 2) (by with_unfolding_all rfl))
  (pss_one (ps_expr (pe_bm PySem.F.plainAttrs_list PySem.F.slot_list_append PySem.F.type_list_append mt_append (pv 2) (pa_cons (pe_ix ix_tup (pe_ix ix_list (pv 1) (pv 4) (fun _ _ => rfl)) pe_int (fun _ _ => rfl)) pa_nil))))
  pss_nil)))
  (pss_one (ps_aug (i := 3) sc_k.nd (by rfl) (Or.inl rfl) pe_int iop_add))))
  (pss_one (ps_ret (pv 2))))))), ?_⟩
    open_k with []
    refine ⟨_, _, ex, nfl_no _ _ (by decide +kernel) (by decide +kernel), x, l, as, n, ps, rfl, N, fun d1 fd1 => ?_⟩
    have s1 : Same H (upd H d1 (.lst (as.map V.ref))) := Same.new fd1
    have hd1 : upd H d1 (.lst (as.map V.ref)) d1 = some (.lst (as.map V.ref)) := upd_same
    generalize upd H d1 (.lst (as.map V.ref)) = H1 at *
    refine ⟨x, l, as, n, ps, rfl, N.same s1, fun H2 s2 => ⟨by decide, fun dr fdr => ?_⟩⟩
    have s12 := s1.trans s2
    have e0 : [V.int ((stR ps 0 : Nat) : Int)] = nats [stR ps 0] := rfl
    rw [e0]
    have ndr : ∀ b o, H2 b = some o → b ≠ dr := fun b o e => ne_of_none e fdr
    refine ⟨PvRW H2 x d1 dr n ps, ⟨33, [stR ps 0], 0, none, rfl, fun b o e hb => by rw [upd_ne hb]; exact e, upd_same, Grown.first hends (by omega), rfl⟩, ?_⟩
    rintro k σ H3 ⟨rs, done, v, rfl, k3, h3, G, rfl⟩
    have rl := nodup_len G.nd G.lt
    have k03 : ∀ b o, H b = some o → H3 b = some o := fun b o e => k3 b o (s12 _ _ e) (ndr b o (s12 _ _ e))
    have N3 : NetAt t.C_Net H3 x l as n ps := ⟨⟨_, k03 _ _ ex⟩, k03 _ _ N.ls, N.ts.mono fun b o e => k03 _ _ e, N.ok⟩
    open_k with []
    refine ⟨_, lenL (SqL.of h3), ?_⟩
    rw [nats_len]
    by_cases c : done < rs.length
    · rw [if_pos (decide_eq_true (by omega))]
      obtain ⟨p, hp⟩ : ∃ p, rs[done]? = some p := ⟨rs[done], by simp [c]⟩
      have hpm := List.mem_of_getElem? hp
      have hpn := G.lt p hpm
      have hpr := G.re p hpm
      have ip : atI (nats rs) ((done : Nat) : Int) = some (.int (p : Nat)) := atI_nat (by unfold nats; rw [List.getElem?_map, hp]; rfl)
      refine ⟨fun σ' H' => PvRW H2 x d1 dr n ps (33 - (done + 1)) σ' H', fun σ' H' z => ⟨33 - (done + 1), by omega, z⟩, ?_⟩
      open_k with [rIxL]
      refine ⟨_, _, k03 _ _ ex, nfl_no _ _ (by decide +kernel) (by decide +kernel), _, SqL.of h3, _, ip, x, l, as, n, ps, p, rfl, N3, by rw [within_iff]; omega, fun d3 H4 s4 fd3 hd3 => ⟨d3, rfl, ⟨_, SqL.of hd3⟩, ?_⟩⟩
      have nd3 : d3 ≠ dr := fun z => by rw [z, h3] at fd3; cases fd3
      refine forb_list (xs := nats (exitsOf ps p)) (PvRF H2 x d1 dr n ps rs done p d3) ⟨rs, v, rfl, fun b o e hb => s4 _ _ (k3 b o e hb), s4 _ _ h3, hd3, nd3, Grows.start G⟩ ?_ ?_ ?_
      · rintro i σ' H5 hi ⟨rs', v', rfl, k5, h5, h5d, _, G5⟩
        exact SqL.of h5d
      · rintro i z σ' H5 hz ⟨rs', v', rfl, k5, h5, h5d, _, G5⟩
        obtain ⟨r, hr0, rfl⟩ := nats_get hz
        obtain ⟨hrl, _⟩ := exits_lt (List.mem_of_getElem? hr0)
        obtain ⟨a, ha, hH⟩ := N.ts.get' (i := r) (q := ps[r]) (by simp [hrl])
        have er : ps[r].2 = ((enR n ps r : Nat) : Int) := by
          rw [enR_in hrl]
          have gg : ps.getD r (0, 0) = ps[r] := by rw [List.getD_eq_getElem?_getD]; simp [hrl]
          rw [gg]
          have := ends_in hends (List.getElem_mem hrl)
          omega
        have h1d : H5 d1 = some (.lst (as.map V.ref)) := k5 _ _ (s2 _ _ hd1) (ndr _ _ (s2 _ _ hd1))
        have hHa : H5 a = some (pairO ps[r]) := k5 _ _ (s12 _ _ hH) (ndr _ _ (s12 _ _ hH))
        have ia : atI (as.map V.ref) ((r : Nat) : Int) = some (.ref a) := atI_nat (by rw [List.getElem?_map, ha]; rfl)
        open_k with [rIxL, rIxT, rIn]
        refine ⟨_, SqL.of h1d, _, ia, a, rfl, _, SqT.of hHa, _, atI_nat (j := 1) rfl, _, Or.inl (SqL.of h5), rfl, by simp [nats, flatV], ?_⟩
        have hin : inV (V.int ps[r].2) (nats rs') = decide (enR n ps r ∈ rs') := by rw [er]; exact in_nats
        rw [hin]
        by_cases cm : enR n ps r ∈ rs'
        · rw [if_neg (by simp [cm])]
          exact ⟨rs', _, rfl, k5, h5, h5d, nd3, G5.stay hr0 cm⟩
        · rw [if_pos (by simp [cm])]
          have rl' := nodup_len G5.nd G5.lt
          refine ⟨Or.inl ⟨rfl, _, SqL.of h5⟩, _, SqL.of h1d, _, ia, a, rfl, _, SqT.of hHa, _, atI_nat (j := 1) rfl, dr, _, _, rfl, rfl, h5, by rw [nats_len]; exact small1000 (by omega), rs' ++ [enR n ps r], _, rfl, fun b o e hb => by rw [upd_ne hb]; exact k5 b o e hb, ?_, by rw [upd_ne nd3]; exact h5d, nd3, G5.more hends hpr hr0 cm⟩
          rw [upd_same, nats_append, er]
          rfl
      · rintro σ' H5 ⟨rs', v', rfl, k5, h5, h5d, _, G5⟩
        rw [nats_len] at G5
        open_k with [tAug]
        have e1 : ((done : Nat) : Int) + 1 = ((done + 1 : Nat) : Int) := by omega
        rw [e1]
        exact ⟨rs', done + 1, _, rfl, k5, h5, G5.done hends G hp, rfl⟩
    · rw [if_neg (by simp; omega)]
      have e1 : done = rs.length := by have := G.dn; omega
      exact q dr H3 rs k03 (s12.free fdr) h3 (e1 ▸ G).all (by omega)
def sp_apart (C : Addr) : Sp := fun vs H Q _ => ∃ (x l : Addr) (as : List Addr) (n : Nat) (ps : List Pr), vs = [.ref x] ∧ NetAt C H x l as n ps ∧ ∀ (d : Addr) (H' : Hp), Same H H' → H d = none → H' d = some (.lst (nats (apartOf n ps))) → Q (.ref d) H'
theorem ok_v (c0 : NoX CX) (T : Txt K mg t) : FnOk P w K mg base CX 5 t.f_v t.d_v ["net"] (sp_apart t.C_Net) := by
  refine T.F_v.okX sc_v (fun vs H Q E h => ?_) (fun cdv A outer s H vs Q E hr h => ?_)
  · obtain ⟨x, l, as, n, ps, rfl, _⟩ := h
    rfl
  · obtain ⟨x, l, as, n, ps, rfl, N, q⟩ := h
    obtain ⟨dx, ex⟩ := N.ob
    obtain ⟨⟨n1, n2⟩, _, _, _⟩ := netOk_parts N.ok
    refine ⟨_, (pss_cons (ps_set (i := 1) sc_v.nd (by rfl) (Or.inr rfl) (pe_call (ok_k c0 T) (hr.mono (by decide)) (by rfl) T.m_k T.F_k.kp T.b_k .nil (pass1 c0) (pa_cons (pv 0) pa_nil)))
  (pss_one (ps_ret (pe_comp (own := (["place"] : List Str)) (fr := (["reached"] : List Str)) (ix := ([1] : List Nat)) (by rfl) ⟨by rfl, by decide +kernel, by rfl, by rfl, by rfl⟩ (pi_range1 (by rfl) T.n_range (pa_cons (pe_meth0 (pv 0) T.cl_Net T.M_y (ok_y c0 T) (hr.mono (by decide)) T.b_y .nil (pass1 c0)) pa_nil)) (fun _ => (pg_name (i := 0) (show List.Nodup (["place", "reached"] : List Str) by decide +kernel) (by rfl) (Or.inl rfl))) (fun _ hB => (pts_one (pt_cmpR op_notIn_seq (pv 0) (pv 1) (by with_unfolding_all rfl)))) (fun _ hB => (pv 0)))))), ?_⟩
    open_k with []
    refine ⟨x, l, as, n, ps, rfl, N, fun d H1 rs s1 fd hd hR hl => ?_⟩
    refine ⟨_, _, s1 _ _ ex, nfl_no _ _ (by decide +kernel) (by decide +kernel), x, l, as, n, ps, rfl, N.same s1, _, rfl, by omega, by omega, blk_range (fun i ys σ H' => ∃ u, σ = [u, some (.ref d)] ∧ H' = H1 ∧ ys = nats (apartUp n ps i)) (by rw [Int.toNat_natCast]; exact small_le (by omega)) ⟨none, rfl, rfl, rfl⟩ ?_ ?_ ?_⟩
    · rintro i ys σ H2 hi ⟨u, rfl, rfl, rfl⟩
      rw [nats_len]
      exact Nat.le_trans (List.length_filter_le _ _) (by simp)
    · rintro bk i ys σ H2 hi ⟨u, rfl, rfl, rfl⟩
      open_k with [Int.zero_add, rIn]
      refine ⟨_, Or.inl (SqL.of hd), rfl, by simp [nats, flatV], ?_⟩
      rw [in_nats, apartUp_succ, nats_append]
      by_cases c : ReachP n ps i
      · have cm := (hR i).mpr c
        rw [if_neg (by simp [cm]), if_pos c]
        simp [nats]
      · have cm : ¬ i ∈ rs := fun z => c ((hR i).mp z)
        rw [if_pos (by simp [cm]), if_neg c]
        simp [nats]
    · rintro ys σ H2 D ⟨u, rfl, rfl, rfl⟩ hD
      rw [Int.toNat_natCast]
      exact q D _ (s1.upd' hD) (s1.free hD) upd_same
inductive WhyV (n : Nat) (ps : List Pr) (H0 H' : Hp) : V → Prop
  | unlike {tp d : Addr} : unlikeOf n ps ≠ [] → H0 tp = none → H0 d = none → H' tp = some (.tup [.str "unlike", .ref d]) → H' d = some (.lst (nats (unlikeOf n ps))) → WhyV n ps H0 H' (.ref tp)
  | apart {tp d : Addr} : unlikeOf n ps = [] → apartOf n ps ≠ [] → H0 tp = none → H0 d = none → H' tp = some (.tup [.str "apart", .ref d]) → H' d = some (.lst (nats (apartOf n ps))) → WhyV n ps H0 H' (.ref tp)
  | none : unlikeOf n ps = [] → apartOf n ps = [] → WhyV n ps H0 H' .non
def sp_why (C : Addr) : Sp := fun vs H Q _ => ∃ (x l : Addr) (as : List Addr) (n : Nat) (ps : List Pr), vs = [.ref x] ∧ NetAt C H x l as n ps ∧ ∀ (v : V) (H' : Hp), Same H H' → WhyV n ps H H' v → Q v H'
theorem nats_empty (l : List Nat) : (!(nats l).isEmpty) = decide (l ≠ []) := by
  cases l <;> simp [nats]
theorem ok_z1 (c0 : NoX CX) (T : Txt K mg t) : FnOk P w K mg base CX 6 t.f_z1 t.d_z1 ["net"] (sp_why t.C_Net) := by
  refine T.F_z1.okX sc_z1 (fun vs H Q E h => ?_) (fun cdv A outer s H vs Q E hr h => ?_)
  · obtain ⟨x, l, as, n, ps, rfl, _⟩ := h
    rfl
  · obtain ⟨x, l, as, n, ps, rfl, N, q⟩ := h
    refine ⟨_, (pss_cons (ps_set (i := 1) sc_z1.nd (by rfl) (Or.inl rfl) (pe_call (ok_q c0 T) (hr.mono (by decide)) (by rfl) T.m_q T.F_q.kp T.b_q .nil (pass1 c0) (pa_cons (pv 0) pa_nil)))
  (pss_cons (ps_if (pt_truth (pv 1) (fun _ => rfl))
  (pss_one (ps_ret (pe_tup (pa_cons pe_str (pa_cons (pv 1) pa_nil)))))
  pss_nil)
  (pss_cons (ps_set (i := 2) sc_z1.nd (by rfl) (Or.inl rfl) (pe_call (ok_v c0 T) (hr.mono (by decide)) (by rfl) T.m_v T.F_v.kp T.b_v .nil (pass1 c0) (pa_cons (pv 0) pa_nil)))
  (pss_cons (ps_if (pt_truth (pv 2) (fun _ => rfl))
  (pss_one (ps_ret (pe_tup (pa_cons pe_str (pa_cons (pv 2) pa_nil)))))
  pss_nil)
  (pss_one (ps_ret pe_non)))))), ?_⟩
    open_k with []
    refine ⟨x, l, as, n, ps, rfl, N, fun d1 H1 s1 fd1 hd1 => ⟨_, Or.inl ⟨_, SqL.of hd1, rfl⟩, ?_⟩⟩
    rw [nats_empty]
    by_cases c1 : unlikeOf n ps = []
    · rw [if_neg (by simp [c1])]
      refine ⟨x, l, as, n, ps, rfl, N.same s1, fun d2 H2 s2 fd2 hd2 => ⟨_, Or.inl ⟨_, SqL.of hd2, rfl⟩, ?_⟩⟩
      rw [nats_empty]
      by_cases c2 : apartOf n ps = []
      · rw [if_neg (by simp [c2])]
        exact q _ _ (s1.trans s2) (.none c1 c2)
      · rw [if_pos (by simp [c2])]
        exact ⟨by decide, fun tp ftp => q _ _ ((s1.trans s2).upd' ftp) (.apart c1 c2 ((s1.trans s2).free ftp) (s1.free fd2) upd_same (upd_old hd2 ftp))⟩
    · rw [if_pos (by simp [c1])]
      exact ⟨by decide, fun tp ftp => q _ _ (s1.upd' ftp) (.unlike c1 (s1.free ftp) fd1 upd_same (upd_old hd1 ftp))⟩
def sp_factorial : Sp := fun vs H Q _ => ∃ k : Nat, vs = [.int k] ∧ k ≤ 64 ∧ Q (.int (Mx.fact k : Nat)) H
theorem ok_p1 (c0 : NoX CX) (T : Txt K mg t) : FnOk P w K mg base CX 1 t.f_p1 t.d_p1 ["number"] sp_factorial := by
  refine T.F_p1.okX sc_p1 (fun vs H Q E h => ?_) (fun cdv A outer s H vs Q E hr h => ?_)
  · obtain ⟨k, rfl, _⟩ := h
    rfl
  · obtain ⟨k, rfl, hk, q⟩ := h
    refine ⟨_, (pss_cons (ps_set (i := 1) sc_p1.nd (by rfl) (Or.inl rfl) pe_int)
  (pss_cons (ps_for PassesOwn.never (by rfl) (pi_range2 (by rfl) T.n_range (pa_cons pe_int (pa_cons (pe_op op_add (pv 0) pe_int) pa_nil))) (pg_name (i := 2) sc_p1.nd (by rfl) (Or.inl rfl))
  (pss_one (ps_aug (i := 1) sc_p1.nd (by rfl) (Or.inl rfl) (pv 2) iop_mulB)))
  (pss_one (ps_ret (pv 1))))), ?_⟩
    open_k with []
    refine ⟨by omega, by omega, by omega, by omega, forb_range (fun i σ H' => ∃ v, σ = [some (.int k), some (.int (Mx.fact i : Nat)), v] ∧ H' = H) ⟨none, rfl, rfl⟩ ?_ ?_⟩
    · rintro i σ H1 hi ⟨v, rfl, rfl⟩
      have hi' : i < k := by omega
      open_k with [tAug]
      refine ⟨⟨big_fact (by omega), ?_⟩, ?_⟩
      · have := big_fact (k := 1) (by decide)
        have e : (1 : Int) + (i : Int) = ((1 + i : Nat) : Int) := by omega
        rw [e]
        exact big_pow (Nat.lt_of_lt_of_le (show 1 + i < 2 ^ 10 by omega) (Nat.pow_le_pow_right (by decide) (by decide)))
      · have e : ((Mx.fact i : Nat) : Int) * (1 + (i : Int)) = ((Mx.fact (i + 1) : Nat) : Int) := by
          show _ = (((i + 1) * Mx.fact i : Nat) : Int)
          rw [Int.mul_comm, Int.add_comm]
          push_cast
          rfl
        exact e
    · rintro σ H1 ⟨v, rfl, rfl⟩
      have e : ((k : Int) + 1 - 1).toNat = k := by omega
      rw [e]
      open_k with []
      exact q
def sp_many_orders (C : Addr) : Sp := fun vs H Q _ => ∃ (x l : Addr) (as : List Addr) (n : Nat) (ps : List Pr), vs = [.ref x] ∧ NetAt C H x l as n ps ∧ ∀ H', Same H H' → Q (.int (Mx.prodTo (degP ps) n : Nat)) H'
theorem ok_c1 (c0 : NoX CX) (T : Txt K mg t) : FnOk P w K mg base CX 4 t.f_c1 t.d_c1 ["net"] (sp_many_orders t.C_Net) := by
  refine T.F_c1.okX sc_c1 (fun vs H Q E h => ?_) (fun cdv A outer s H vs Q E hr h => ?_)
  · obtain ⟨x, l, as, n, ps, rfl, _⟩ := h
    rfl
  · obtain ⟨x, l, as, n, ps, rfl, N, q⟩ := h
    obtain ⟨dx, ex⟩ := N.ob
    obtain ⟨⟨n1, n2⟩, ⟨l1, l2⟩, hends, hex⟩ := netOk_parts N.ok
    refine ⟨_, (pss_cons (ps_set (i := 1) sc_c1.nd (by rfl) (Or.inl rfl) pe_int)
  (pss_cons (ps_for PassesOwn.never (by rfl) (pi_range1 (by rfl) T.n_range (pa_cons (pe_meth0 (pv 0) T.cl_Net T.M_y (ok_y c0 T) (hr.mono (by decide)) T.b_y .nil (pass1 c0)) pa_nil)) (pg_name (i := 2) sc_c1.nd (by rfl) (Or.inl rfl))
  (pss_one (ps_aug (i := 1) sc_c1.nd (by rfl) (Or.inl rfl) (pe_call (ok_p1 c0 T) (hr.mono (by decide)) (by rfl) T.m_p1 T.F_p1.kp T.b_p1 .nil (pass1 c0) (pa_cons (pe_op op_sub (pe_callB call_len (by rfl) T.n_len (by decide +kernel : bootBuiltins "len" = some (.builtin "len")) (pa_cons (pe_meth (pv 0) T.cl_Net T.M_j1 (ok_j1 c0 T) (hr.mono (by decide)) T.b_j1 .nil (pass1 c0) (pa_cons (pv 2) pa_nil)) pa_nil)) pe_int) pa_nil)) iop_mulB)))
  (pss_one (ps_ret (pv 1))))), ?_⟩
    open_k with []
    refine ⟨_, _, ex, nfl_no _ _ (by decide +kernel) (by decide +kernel), x, l, as, n, ps, rfl, N, _, rfl, by omega, by omega, forb_range (fun i σ H' => ∃ v, σ = [some (.ref x), some (.int (Mx.prodTo (degP ps) i : Nat)), v] ∧ Same H H') ⟨none, rfl, Same.refl _⟩ ?_ ?_⟩
    · rintro i σ H1 hi ⟨v, rfl, s1⟩
      rw [Int.toNat_natCast] at hi
      open_k with [tAug, Int.zero_add]
      refine ⟨_, _, s1 _ _ ex, nfl_no _ _ (by decide +kernel) (by decide +kernel), x, l, as, n, ps, i, rfl, N.same s1, by rw [within_iff]; omega, fun d H2 s2 fd hd => ?_⟩
      obtain ⟨k, hk, e⟩ := exits_some hex hi
      have hm : k ∈ exitsOf ps i := (exits_iff hends).mpr ⟨hk, by have := (stR_cast hends hk).1; omega⟩
      have hpos : 1 ≤ (exitsOf ps i).length := List.length_pos_of_mem hm
      have hle := exits_len ps i
      refine ⟨_, lenL (SqL.of hd), (exitsOf ps i).length - 1, ?_, by omega, ?_⟩
      · rw [nats_len]
        congr 2
        omega
      refine ⟨_, rfl, ⟨prod_big hends (by omega) (by omega), deg_big (i := i) (by omega)⟩, ?_⟩
      have e : ((Mx.prodTo (degP ps) i : Nat) : Int) * ((Mx.fact ((exitsOf ps i).length - 1) : Nat) : Int) = ((Mx.prodTo (degP ps) (i + 1) : Nat) : Int) := by
        show _ = ((Mx.prodTo (degP ps) i * degP ps i : Nat) : Int)
        push_cast
        rfl
      rw [e]
      exact ⟨rfl, s1.trans s2⟩
    · rintro σ H1 ⟨v, rfl, s1⟩
      rw [Int.toNat_natCast]
      open_k with []
      exact q H1 s1
def sp_many_rings (C : Addr) : Sp := fun vs H Q _ => ∃ (x l : Addr) (as : List Addr) (n : Nat) (ps : List Pr), vs = [.ref x] ∧ NetAt C H x l as n ps ∧ unlikeOf n ps = [] ∧ apartOf n ps = [] ∧ ∀ H', Same H H' → Q (.int (cntT n ps (stR ps 0) * (Mx.prodTo (degP ps) n : Nat))) H'
theorem ok_l1 (c0 : NoX CX) (T : Txt K mg t) : FnOk P w K mg base CX 7 t.f_l1 t.d_l1 ["net"] (sp_many_rings t.C_Net) := by
  refine T.F_l1.okX sc_l1 (fun vs H Q E h => ?_) (fun cdv A outer s H vs Q E hr h => ?_)
  · obtain ⟨x, l, as, n, ps, rfl, _⟩ := h
    rfl
  · obtain ⟨x, l, as, n, ps, rfl, N, hu, ha, q⟩ := h
    obtain ⟨⟨n1, n2⟩, ⟨l1, l2⟩, hends, hex⟩ := netOk_parts N.ok
    refine ⟨_, (pss_cons (ps_if (pt_cmpR op_notN (pe_call (ok_z1 c0 T) (hr.mono (by decide)) (by rfl) T.m_z1 T.F_z1.kp T.b_z1 .nil (pass1 c0) (pa_cons (pv 0) pa_nil)) pe_non (nomark _))
  (pss_one (ps_ret pe_int))
  pss_nil)
  (pss_one (ps_ret (pe_op op_mulB (pe_call (ok_k1 c0 T) (hr.mono (by decide)) (by rfl) T.m_k1 T.F_k1.kp T.b_k1 .nil (pass1 c0) (pa_cons (pv 0) (pa_cons (pe_call (ok_b1 c0 T) (hr.mono (by decide)) (by rfl) T.m_b1 T.F_b1.kp T.b_b1 .nil (pass1 c0) (pa_cons (pv 0) pa_nil)) pa_nil))) (pe_call (ok_c1 c0 T) (hr.mono (by decide)) (by rfl) T.m_c1 T.F_c1.kp T.b_c1 .nil (pass1 c0) (pa_cons (pv 0) pa_nil)))))), ?_⟩
    open_k with []
    refine ⟨x, l, as, n, ps, rfl, N, fun v H1 s1 W => ?_⟩
    have ev : v = .non := by
      cases W with
      | unlike h => exact absurd hu h
      | apart _ h => exact absurd ha h
      | none => rfl
    subst ev
    show if (!decide (V.non = V.non)) = true then _ else _
    rw [if_neg (by simp)]
    refine ⟨x, l, as, n, ps, rfl, N.same s1, fun H2 s2 => ?_⟩
    refine ⟨x, l, as, n, stR ps 0, ps, rfl, (N.same s1).same s2, (stR_cast hends (by omega)).2, fun H3 s3 => ?_⟩
    refine ⟨x, l, as, n, ps, rfl, ((N.same s1).same s2).same s3, fun H4 s4 => ?_⟩
    refine ⟨_, rfl, _, rfl, ⟨cnt_big (by omega) (by omega), prod_big hends (by omega) (Nat.le_refl _)⟩, ?_⟩
    exact q H4 (((s1.trans s2).trans s3).trans s4)
theorem eqVs_int_iff : ∀ (a b : List Int), eqVs (a.map V.int) (b.map V.int) = decide (a = b)
  | [], [] => by simp [eqVs]
  | [], _ :: _ => by simp [eqVs]
  | _ :: _, [] => by simp [eqVs]
  | x :: a, y :: b => by
    show (eqV (.int x) (.int y) && eqVs (a.map V.int) (b.map V.int)) = _
    rw [eqVs_int_iff a b]
    by_cases h : x = y <;> by_cases h2 : a = b <;> simp [eqV, h, h2]
def RingP (n : Nat) (ps : List Pr) (ring : List Int) : Prop := ∃ rn : List Nat, ring = rn.map (fun (k : Nat) => (k : Int)) ∧ rn.Perm (List.range ps.length) ∧ rn.head? = some 0 ∧ rn.map (enR n ps) = (rn.map (stR ps)).drop 1 ++ (rn.map (stR ps)).take 1
def sp_is_ring (C : Addr) : Sp := fun vs H Q _ => ∃ (x l r : Addr) (as : List Addr) (n : Nat) (ps : List Pr) (ring : List Int), vs = [.ref x, .ref r] ∧ NetAt C H x l as n ps ∧ H r = some (.lst (ring.map V.int)) ∧ ring.length < 64 ∧ ∀ (b : Bool) (H' : Hp), Same H H' → (b = true ↔ RingP n ps ring) → Q (.bl b) H'
theorem ok_w1 (c0 : NoX CX) (T : Txt K mg t) : FnOk P w K mg base CX 2 t.f_w1 t.d_w1 ["net", "ring"] (sp_is_ring t.C_Net) := by
  refine T.F_w1.okX sc_w1 (fun vs H Q E h => ?_) (fun cdv A outer s H vs Q E hr h => ?_)
  · obtain ⟨x, l, r, as, n, ps, ring, rfl, _⟩ := h
    rfl
  · obtain ⟨x, l, r, as, n, ps, ring, rfl, N, hr0, h64, q⟩ := h
    obtain ⟨dx, ex⟩ := N.ob
    obtain ⟨⟨n1, n2⟩, ⟨l1, l2⟩, hends, hex⟩ := netOk_parts N.ok
    have la := N.ts.len
    have lm : (as.map V.ref).length = ps.length := by rw [List.length_map, la]
    refine ⟨_, (pss_cons (ps_set (i := 2) sc_w1.nd (by rfl) (Or.inr rfl) (pe_meth0 (pv 0) T.cl_Net T.M_i1 (ok_i1 c0 T) (hr.mono (by decide)) T.b_i1 .nil (pass1 c0)))
  (pss_cons (ps_if (PW.pt (pw_or (pt_cmpR (op_neS (hu0 hr)) (pe_callB call_sorted (by rfl) T.n_sorted (by decide +kernel : bootBuiltins "sorted" = some (.builtin "sorted")) (pa_cons (pv 1) pa_nil)) (pe_lrng (by rfl) (by rfl) T.n_list (by rfl) T.n_range (pa_cons (pe_callB call_len (by rfl) T.n_len (by decide +kernel : bootBuiltins "len" = some (.builtin "len")) (pa_cons (pv 2) pa_nil)) pa_nil)) (nomark _)) (pw_or1 (pt_cmpR op_ne (pe_ix ix_list (pv 1) pe_int (fun _ _ => rfl)) pe_int (nomark _)))))
  (pss_one (ps_ret pe_bl))
  pss_nil)
  (pss_cons (ps_comp (i := 3) sc_w1.nd (by rfl) (Or.inl rfl) (own := (["road"] : List Str)) (fr := (["roads"] : List Str)) (ix := ([2] : List Nat)) (by rfl) ⟨by rfl, by decide +kernel, by rfl, by rfl, by rfl⟩ (pi_list (pv 1)) (fun _ => (pg_name (i := 0) (show List.Nodup (["road", "roads"] : List Str) by decide +kernel) (by rfl) (Or.inl rfl))) (fun _ hB => pts_nil) (fun _ hB => (pe_ix ix_tup (pe_ix ix_list (pv 1) (pv 0) (fun _ _ => rfl)) pe_int (fun _ _ => rfl))))
  (pss_cons (ps_comp (i := 4) sc_w1.nd (by rfl) (Or.inl rfl) (own := (["road"] : List Str)) (fr := (["roads"] : List Str)) (ix := ([2] : List Nat)) (by rfl) ⟨by rfl, by decide +kernel, by rfl, by rfl, by rfl⟩ (pi_list (pv 1)) (fun _ => (pg_name (i := 0) (show List.Nodup (["road", "roads"] : List Str) by decide +kernel) (by rfl) (Or.inl rfl))) (fun _ hB => pts_nil) (fun _ hB => (pe_ix ix_tup (pe_ix ix_list (pv 1) (pv 0) (fun _ _ => rfl)) pe_int (fun _ _ => rfl))))
  (pss_one (ps_ret (pe_cmpR (op_eqS (hu0 hr)) (pv 4) (pe_op op_cat (pe_slice sl_list (pv 3) (po_some pe_int) po_none) (pe_slice sl_list (pv 3) po_none (po_some pe_int))) (nomark _)))))))), ?_⟩
    open_k with [tLRng]
    refine ⟨_, _, ex, nfl_no _ _ (by decide +kernel) (by decide +kernel), x, l, as, n, ps, rfl, N, fun d1 fd1 => ?_⟩
    have s1 : Same H (upd H d1 (.lst (as.map V.ref))) := Same.new fd1
    have hd1 : upd H d1 (.lst (as.map V.ref)) d1 = some (.lst (as.map V.ref)) := upd_same
    generalize upd H d1 (.lst (as.map V.ref)) = H1 at *
    have hr1 := s1 _ _ hr0
    refine ⟨ring, SqL.of hr1, h64, fun d2 ns' fd2 hp hs => ?_⟩
    have s2 : Same H1 (upd H1 d2 (.lst (ns'.map V.int))) := Same.new fd2
    have hd2 : upd H1 d2 (.lst (ns'.map V.int)) d2 = some (.lst (ns'.map V.int)) := upd_same
    generalize upd H1 d2 (.lst (ns'.map V.int)) = H2 at *
    refine ⟨_, lenL (SqL.of (s2 _ _ hd1)), ps.length, by rw [lm], by omega, fun d3 fd3 => ?_⟩
    have s3 : Same H2 (upd H2 d3 (.lst ((List.range ps.length).map fun (i : Nat) => V.int (i : Int)))) := Same.new fd3
    have hd3 : upd H2 d3 (.lst ((List.range ps.length).map fun (i : Nat) => V.int (i : Int))) d3 = some (.lst ((List.range ps.length).map fun (i : Nat) => V.int (i : Int))) := upd_same
    generalize upd H2 d3 (.lst ((List.range ps.length).map fun (i : Nat) => V.int (i : Int))) = H3 at *
    have s13 : Same H H3 := (s1.trans s2).trans s3
    have em : ((List.range ps.length).map fun (i : Nat) => V.int (i : Int)) = ((List.range ps.length).map fun (i : Nat) => (i : Int)).map V.int := by simp
    rw [em] at hd3
    refine ⟨d2, d3, _, _, rfl, rfl, Or.inl ⟨SqL.of (s3 _ _ hd2), SqL.of hd3⟩, flat_ints _, flat_ints _, _, rfl, ?_⟩
    have srt : ((List.range ps.length).map fun (i : Nat) => (i : Int)).Pairwise (· ≤ ·) := by
      rw [List.pairwise_map]
      exact List.pairwise_lt_range.imp fun h => by omega
    have key : ns' = ((List.range ps.length).map fun (i : Nat) => (i : Int)) ↔ ring.Perm ((List.range ps.length).map fun (i : Nat) => (i : Int)) := by
      constructor
      · intro e
        rw [← e]
        exact hp.symm
      · intro h
        exact PySem.W.lks_uniq (hp.trans h) hs srt
    by_cases c1 : ns' = ((List.range ps.length).map fun (i : Nat) => (i : Int))
    · rw [if_pos rfl, eqVs_int_iff, decide_eq_true c1, if_neg (by simp)]
      have hperm := key.mp c1
      obtain ⟨rn, rfl, hrn⟩ : ∃ rn : List Nat, ring = rn.map (fun (k : Nat) => (k : Int)) ∧ rn.Perm (List.range ps.length) := by
        refine ⟨ring.map Int.toNat, ?_, ?_⟩
        · rw [List.map_map]
          conv => lhs; rw [← List.map_id ring]
          refine List.map_congr_left fun z hz => ?_
          obtain ⟨k, _, rfl⟩ := List.mem_map.mp (hperm.subset hz)
          rfl
        · have := hperm.map Int.toNat
          rw [List.map_map] at this
          have e : ((List.range ps.length).map (Int.toNat ∘ fun (i : Nat) => (i : Int))) = List.range ps.length := by
            conv => rhs; rw [← List.map_id (List.range ps.length)]
            exact List.map_congr_left fun k _ => rfl
          rw [e] at this
          exact this
      have lr : rn.length = ps.length := by rw [hrn.length_eq]; simp
      have rlt : ∀ k ∈ rn, k < ps.length := fun k hk => List.mem_range.mp (hrn.subset hk)
      have hr3 : H3 r = some (.lst (nats rn)) := by
        rw [nats_int]
        exact s13 _ _ hr0
      obtain ⟨k0, rn', ec⟩ : ∃ k0 rn', rn = k0 :: rn' := by
        cases rn with
        | nil => simp at lr; omega
        | cons k0 rn' => exact ⟨k0, rn', rfl⟩
      refine ⟨r, _, _, V.int (k0 : Nat), rfl, rfl, SqL.of hr3, atI_nat (j := 0) (by rw [ec]; rfl), rfl, ?_⟩
      by_cases c2 : k0 = 0
      · rw [if_neg (by simp [c2])]
        have h3d1 : H3 d1 = some (.lst (as.map V.ref)) := s3 _ _ (s2 _ _ hd1)
        have road : ∀ k, k ∈ rn → ∃ a, atI (as.map V.ref) ((k : Nat) : Int) = some (.ref a) ∧ H3 a = some (.tup [.int (stR ps k : Nat), .int (enR n ps k : Nat)]) := fun k hk => by
          have hkl := rlt k hk
          obtain ⟨a, ha, hH⟩ := N.ts.get' (i := k) (q := ps[k]) (by simp [hkl])
          refine ⟨a, atI_nat (by rw [List.getElem?_map, ha]; rfl), ?_⟩
          have g : ps.getD k (0, 0) = ps[k] := by rw [List.getD_eq_getElem?_getD]; simp [hkl]
          have e1 : ps[k].1 = ((stR ps k : Nat) : Int) := by rw [(stR_cast hends hkl).1, g]
          have e2 : ps[k].2 = ((enR n ps k : Nat) : Int) := by
            rw [enR_in hkl, g]
            have := ends_in hends (List.getElem_mem hkl)
            omega
          have := s13 _ _ hH
          unfold pairO at this
          rw [e1, e2] at this
          exact this
        refine ⟨⟨_, SqL.of hr3⟩, blk_list (xs := nats rn) (fun i ys σ H' => ∃ u, σ = [u, some (.ref d1)] ∧ H' = H3 ∧ ys = nats ((rn.take i).map (stR ps))) (by rw [nats_len]; exact small_le (by omega)) ⟨none, rfl, rfl, rfl⟩ ?_ ?_ ?_⟩
        · rintro i ys σ H4 hi ⟨u, rfl, rfl, rfl⟩
          exact ⟨SqL.of hr3, by rw [nats_len]; simp; omega⟩
        · rintro bk i y ys σ H4 hy ⟨u, rfl, rfl, rfl⟩
          obtain ⟨k, hk, rfl⟩ := nats_get hy
          obtain ⟨a, ia, hH⟩ := road k (List.mem_of_getElem? hk)
          open_k with [rIxL, rIxT]
          refine ⟨_, SqL.of h3d1, _, ia, a, rfl, _, SqT.of hH, _, atI_nat (j := 0) rfl, ?_⟩
          rw [List.take_add_one, hk, List.map_append, nats_append]
          rfl
        · rintro ys σ H4 D1 ⟨u, rfl, rfl, rfl⟩ hD1
          rw [nats_len, List.take_length]
          have s4 : Same H4 (upd H4 D1 (.lst (nats (rn.map (stR ps))))) := Same.new hD1
          have hD : upd H4 D1 (.lst (nats (rn.map (stR ps)))) D1 = some (.lst (nats (rn.map (stR ps)))) := upd_same
          generalize upd H4 D1 (.lst (nats (rn.map (stR ps)))) = H5 at *
          refine ⟨⟨_, SqL.of (s4 _ _ hr3)⟩, blk_list (xs := nats rn) (fun i ys σ H' => ∃ u, σ = [u, some (.ref d1)] ∧ H' = H5 ∧ ys = nats ((rn.take i).map (enR n ps))) (by rw [nats_len]; exact small_le (by omega)) ⟨none, rfl, rfl, rfl⟩ ?_ ?_ ?_⟩
          · rintro i ys σ H6 hi ⟨u, rfl, rfl, rfl⟩
            exact ⟨SqL.of (s4 _ _ hr3), by rw [nats_len]; simp; omega⟩
          · rintro bk i y ys σ H6 hy ⟨u, rfl, rfl, rfl⟩
            obtain ⟨k, hk, rfl⟩ := nats_get hy
            obtain ⟨a, ia, hH⟩ := road k (List.mem_of_getElem? hk)
            open_k with [rIxL, rIxT]
            refine ⟨_, SqL.of (s4 _ _ h3d1), _, ia, a, rfl, _, SqT.of (s4 _ _ hH), _, atI_nat (j := 1) rfl, ?_⟩
            rw [List.take_add_one, hk, List.map_append, nats_append]
            rfl
          · rintro ys σ H6 D2 ⟨u, rfl, rfl, rfl⟩ hD2
            rw [nats_len, List.take_length]
            have s6 : Same H6 (upd H6 D2 (.lst (nats (rn.map (enR n ps))))) := Same.new hD2
            have hD2' : upd H6 D2 (.lst (nats (rn.map (enR n ps)))) D2 = some (.lst (nats (rn.map (enR n ps)))) := upd_same
            generalize upd H6 D2 (.lst (nats (rn.map (enR n ps)))) = H7 at *
            have hD7 := s6 _ _ hD
            have ls : 1 ≤ (nats (rn.map (stR ps))).length := by rw [nats_len, List.length_map]; omega
            refine ⟨D1, _, rfl, SqL.of hD7, fun e1 fe1 => ?_⟩
            have c1' := cutV_drop (nats (rn.map (stR ps))) 1 ls
            have c2' := cutV_take (nats (rn.map (stR ps))) 1 ls
            rw [show ((1 : Nat) : Int) = (1 : Int) from rfl] at c1' c2'
            rw [c1']
            refine ⟨D1, _, rfl, SqL.of (upd_old hD7 fe1), fun e2 fe2 => ?_⟩
            rw [c2']
            refine ⟨e1, e2, _, _, rfl, rfl, upd_old upd_same fe2, upd_same, by rw [List.length_drop, List.length_take, nats_len, List.length_map]; exact small_le (by omega), fun e3 fe3 => ?_⟩
            have hD27 : upd (upd (upd H7 e1 (.lst ((nats (rn.map (stR ps))).drop 1))) e2 (.lst ((nats (rn.map (stR ps))).take 1))) e3 (.lst ((nats (rn.map (stR ps))).drop 1 ++ (nats (rn.map (stR ps))).take 1)) D2 = some (.lst (nats (rn.map (enR n ps)))) := upd_old (upd_old (upd_old hD2' fe1) fe2) fe3
            have er : (nats (rn.map (stR ps))).drop 1 ++ (nats (rn.map (stR ps))).take 1 = ((((rn.map (stR ps)).drop 1 ++ (rn.map (stR ps)).take 1)).map fun (k : Nat) => (k : Int)).map V.int := by
              unfold nats
              rw [← List.map_drop, ← List.map_take, ← List.map_append, List.map_map]
              rfl
            have el : nats (rn.map (enR n ps)) = ((rn.map (enR n ps)).map fun (k : Nat) => (k : Int)).map V.int := nats_int _
            refine ⟨D2, e3, _, _, rfl, rfl, Or.inl ⟨SqL.of hD27, SqL.of upd_same⟩, by rw [el]; exact flat_ints _, by rw [er]; exact flat_ints _, ?_⟩
            refine q _ _ ?_ ?_
            · exact (((((s13.trans s4).trans s6).upd' fe1).upd' fe2).upd' fe3)
            · rw [if_neg (by simp), el, er, eqVs_int_iff, decide_eq_true_eq]
              have inj : ∀ a b : List Nat, a.map (fun (k : Nat) => (k : Int)) = b.map (fun (k : Nat) => (k : Int)) → a = b := fun a b h => by
                have := congrArg (List.map Int.toNat) h
                rw [List.map_map, List.map_map] at this
                simpa [Function.comp_def] using this
              constructor
              · intro h
                exact ⟨rn, rfl, hrn, by rw [ec, c2]; rfl, inj _ _ h⟩
              · rintro ⟨rn2, e1', _, _, e4⟩
                have : rn2 = rn := (inj _ _ e1').symm
                subst this
                rw [e4]
      · rw [if_pos (by simp; omega)]
        refine q false H3 s13 ⟨(fun z => by cases z), fun ⟨rn2, e1, _, e3, _⟩ => ?_⟩
        have e4 : rn2 = rn := by
          have := congrArg (List.map Int.toNat) e1
          rw [List.map_map, List.map_map] at this
          simpa [Function.comp_def] using this.symm
        rw [e4, ec] at e3
        simp at e3
        exact absurd e3 c2
    · rw [if_pos rfl, eqVs_int_iff, decide_eq_false c1, if_pos (by simp)]
      refine q false H3 s13 ⟨(fun z => by cases z), fun ⟨rn, e1, e2, _⟩ => ?_⟩
      exact absurd (key.mpr (by rw [e1]; exact e2.map _)) c1
end
end Rb
set_option Elab.async false
set_option linter.all false
set_option maxRecDepth 100000
set_option maxHeartbeats 4000000
namespace Rb
open PySem L2
section
variable {CX : CXT} {P : Program} {w : World} {K : PySem.W.Frag} {mg : Str → Option Value} {base : Heap} {t : Adr}
def spE_check_place (t : Adr) : Sp := fun vs H Q E => ∃ a b : Int, vs = [.int a, .int b] ∧ (within a b = true → Q .non H) ∧ (within a b = false → E (.ref t.C_NoPlace) none H)
theorem okE_x (T : Txt K mg t) : FnOk P w K mg base (CX1 P w) 2 t.f_x t.d_x ["place", "places"] (spE_check_place t) := by
  have c0 : NoX (CX1 P w) := nox1
  refine T.F_x.okE sc_x (fun vs H Q E h => ?_) (fun cdv A outer s H vs Q E hr h => ?_)
  · obtain ⟨a, b, rfl, _⟩ := h
    rfl
  · obtain ⟨a, b, rfl, q, qE⟩ := h
    refine ⟨_, (pss_one (ps_if (pt_not (pt_val (pe_call (ok_w c0 T) (hr.mono (by decide)) (by rfl) T.m_w T.F_w.kp T.b_w .nil (pass1 c0) (pa_cons (pv 0) (pa_cons (pv 1) pa_nil)))))
  (pss_one (ps_raiseS (by rfl) (raise_def).s T.e_NoPlace (by rfl) T.m_NoPlace (pa_cons pe_str pa_nil)))
  pss_nil)), ?_⟩
    open_k with []
    refine ⟨a, b, rfl, _, rfl, ?_⟩
    cases hw : within a b with
    | true =>
      rw [if_neg (by simp)]
      exact q hw
    | false =>
      rw [if_pos (by simp)]
      exact ⟨by decide, qE hw⟩
def spE_exits (t : Adr) : Sp := fun vs H _ E => ∃ (x l : Addr) (as : List Addr) (n : Nat) (ps : List Pr) (g : Int), vs = [.ref x, .int g] ∧ NetAt t.C_Net H x l as n ps ∧ within g n = false ∧ E (.ref t.C_NoPlace) none H
theorem okE_j1 (T : Txt K mg t) : FnOk P w K mg base (CX1 P w) 3 t.f_j1 t.d_j1 ["self", "place"] (spE_exits t) := by
  have c0 : NoX (CX1 P w) := nox1
  refine T.F_j1.okE sc_j1 (fun vs H Q E h => ?_) (fun cdv A outer s H vs Q E hr h => ?_)
  · obtain ⟨x, l, as, n, ps, g, rfl, _⟩ := h
    rfl
  · obtain ⟨x, l, as, n, ps, g, rfl, N, hw, qE⟩ := h
    obtain ⟨dx, ex⟩ := N.ob
    refine ⟨_, (pss_cons (ps_expr (pe_callS (okE_x T) (hr.mono (by decide)) (by rfl) T.m_x T.F_x.kp T.b_x (passesS_of passes_def) (pa_cons (pv 1) (pa_cons (pe_fld (pv 0) (by rfl)) pa_nil))))
  (pss_one ps_never)), ?_⟩
    open_k with []
    exact ⟨_, _, _, ex, T.cl_Net, T.na_Net_place_count, _, nfl_count _ _, g, n, rfl, (fun h => by rw [hw] at h; cases h), fun _ => qE⟩
def spE_many_trees (t : Adr) : Sp := fun vs H _ E => ∃ (x l : Addr) (as : List Addr) (n : Nat) (ps : List Pr) (g : Int), vs = [.ref x, .int g] ∧ NetAt t.C_Net H x l as n ps ∧ within g n = false ∧ E (.ref t.C_NoPlace) none H
theorem okE_k1 (T : Txt K mg t) : FnOk P w K mg base (CX1 P w) 3 t.f_k1 t.d_k1 ["net", "place"] (spE_many_trees t) := by
  have c0 : NoX (CX1 P w) := nox1
  refine T.F_k1.okE sc_k1 (fun vs H Q E h => ?_) (fun cdv A outer s H vs Q E hr h => ?_)
  · obtain ⟨x, l, as, n, ps, g, rfl, _⟩ := h
    rfl
  · obtain ⟨x, l, as, n, ps, g, rfl, N, hw, qE⟩ := h
    obtain ⟨dx, ex⟩ := N.ob
    refine ⟨_, (pss_cons (ps_expr (pe_callS (okE_x T) (hr.mono (by decide)) (by rfl) T.m_x T.F_x.kp T.b_x (passesS_of passes_def) (pa_cons (pv 1) (pa_cons (pe_meth0 (pv 0) T.cl_Net T.M_y (ok_y c0 T) (hr.mono (by decide)) T.b_y .nil (pass1 c0)) pa_nil))))
  (pss_one ps_never)), ?_⟩
    open_k with []
    exact ⟨_, _, ex, nfl_no _ _ (by decide +kernel) (by decide +kernel), x, l, as, n, ps, rfl, N, g, n, rfl, (fun h => by rw [hw] at h; cases h), fun _ => qE⟩
theorem all_bl (f : Nat → Bool) : ∀ (l : List Nat), (l.map fun p => V.bl (f p)) = (l.map f).map V.bl := fun l => by rw [List.map_map]; rfl
def goT (n g : Nat) (ps : List Pr) (c : Nat → Nat) : Nat → Nat := fun j => if j = g then g else enR n ps (c j)
def sp_comes (K : PySem.W.Frag) : Sp := fun vs H Q _ => ∃ (d e : Addr) (as : List Addr) (n g i : Nat) (ps : List Pr) (c : Nat → Nat), vs = [.ref d, .ref e, .int i] ∧ SqL K H d (as.map V.ref) ∧ TupsAt H as ps ∧ SqL K H e (treeV n g c) ∧ endsOk n ps = true ∧ n ≤ 32 ∧ g < n ∧ i < n ∧ (∀ j, j < n → j ≠ g → c j < ps.length) ∧ ∀ b : Bool, (b = true ↔ ∃ j, j < n ∧ Mx.iter (goT n g ps c) j i = g) → Q (.bl b) H
theorem ok_p (c0 : NoX CX) (T : Txt K mg t) : FnOk P w K mg base CX 1 t.f_p t.d_p ["roads", "tree", "place"] (sp_comes K) := by
  refine T.F_p.okX sc_p (fun vs H Q E h => ?_) (fun cdv A outer s H vs Q E hr h => ?_)
  · obtain ⟨d, e, as, n, g, i, ps, c, rfl, _⟩ := h
    rfl
  · obtain ⟨d, e, as, n, g, i, ps, c, rfl, hd, ht, he, hends, hn, hg, hi, hc, q⟩ := h
    have hF : ∀ j, j < n → goT n g ps c j < n := fun j hj => by
      unfold goT
      split
      · exact hg
      · rename_i hne
        exact enR_lt hends (hc j hj hne)
    refine ⟨_, (pss_cons (ps_for PassesOwn.never (by rfl) (pi_range1 (by rfl) T.n_range (pa_cons (pe_callB call_len (by rfl) T.n_len (by decide +kernel : bootBuiltins "len" = some (.builtin "len")) (pa_cons (pv 1) pa_nil)) pa_nil)) (pg_name (i := 3) sc_p.nd (by rfl) (Or.inl rfl))
  (pss_cons (ps_if (pt_cmpR op_isN (pe_ix ix_list (pv 1) (pv 2) (fun _ _ => rfl)) pe_non (nomark _))
  (pss_one (ps_ret pe_bl))
  pss_nil)
  (pss_one (ps_set (i := 2) sc_p.nd (by rfl) (Or.inl rfl) (pe_ix ix_tup (pe_ix ix_list (pv 0) (pe_ix ix_list (pv 1) (pv 2) (fun _ _ => rfl)) (fun _ _ => rfl)) pe_int (fun _ _ => rfl))))))
  (pss_one (ps_ret pe_bl))), ?_⟩
    open_k with []
    refine ⟨_, lenL he, by rw [treeV_len]; omega, by rw [treeV_len]; omega, forb_range (fun j σ H' => ∃ v, σ = [some (.ref d), some (.ref e), some (.int ((Mx.iter (goT n g ps c) j i : Nat) : Int)), v] ∧ H' = H ∧ ∀ j', j' < j → Mx.iter (goT n g ps c) j' i ≠ g) ⟨none, rfl, rfl, fun j' h => absurd h (by omega)⟩ ?_ ?_⟩
    · rintro j σ H2 hj ⟨v, rfl, rfl, hno⟩
      rw [Int.toNat_natCast, treeV_len] at hj
      have hat := Mx.iter_lt hF j i hi
      have hsucc := Mx.iter_succ (goT n g ps c) j i
      generalize hzz : Mx.iter (goT n g ps c) j i = z at *
      have itz : atI (treeV n g c) ((z : Nat) : Int) = some (if z = g then V.non else V.int (c z : Nat)) := atI_nat (by simp [treeV, hat])
      open_k with [rIxL, rIxT]
      refine ⟨_, he, _, itz, ?_⟩
      by_cases e1 : z = g
      · rw [if_pos e1, if_pos (by simp)]
        exact q _ ⟨fun _ => ⟨j, hj, by rw [hzz]; exact e1⟩, fun _ => rfl⟩
      · rw [if_neg e1, if_neg (by simp)]
        have hl := hc z hat e1
        obtain ⟨a, ha, hH⟩ := ht.get' (i := c z) (q := ps[c z]) (by simp [hl])
        have er : ps[c z].2 = ((enR n ps (c z) : Nat) : Int) := by
          rw [enR_in hl]
          have gg : ps.getD (c z) (0, 0) = ps[c z] := by rw [List.getD_eq_getElem?_getD]; simp [hl]
          rw [gg]
          have := ends_in hends (List.getElem_mem hl)
          omega
        refine ⟨_, he, _, itz, _, ((c z : Nat) : Int), by rw [if_neg e1], hd, _, atI_nat (j := c z) (v := .ref a) (by rw [List.getElem?_map, ha]; rfl), a, rfl, _, SqT.of hH, _, atI_nat (j := 1) rfl, ?_, fun j' hj' => ?_⟩
        · rw [er, hsucc]
          unfold goT
          rw [if_neg e1]
        · by_cases e2 : j' = j
          · subst e2
            rw [hzz]
            exact e1
          · exact hno j' (by omega)
    · rintro σ H2 ⟨v, rfl, rfl, hno⟩
      rw [Int.toNat_natCast, treeV_len] at hno
      open_k with []
      refine q _ ⟨(fun z => by cases z), fun ⟨j, hj, e⟩ => absurd e (hno j hj)⟩
inductive NoTreeP (n g : Nat) (ps : List Pr) : List V → Prop
  | len {tv : List V} : tv.length ≠ n → NoTreeP n g ps tv
  | goal {tv : List V} {v : V} : tv.length = n → tv[g]? = some v → v ≠ .non → NoTreeP n g ps tv
  | exit {tv : List V} : tv.length = n → tv[g]? = some .non → tv.all flatV = true → (others n g).all (fun p => inV (tv.getD p .non) (nats (exitsOf ps p))) = false → NoTreeP n g ps tv
  | round {c : Nat → Nat} {i : Nat} : (∀ j, j < n → j ≠ g → c j ∈ exitsOf ps j) → i < n → (∀ j, j < n → Mx.iter (goT n g ps c) j i ≠ g) → NoTreeP n g ps (treeV n g c)
def sp_is_treeF (K : PySem.W.Frag) (C : Addr) : Sp := fun vs H Q _ => ∃ (x l e : Addr) (as : List Addr) (n g : Nat) (ps : List Pr) (tv : List V), vs = [.ref x, .int g, .ref e] ∧ NetAt C H x l as n ps ∧ SqL K H e tv ∧ g < n ∧ NoTreeP n g ps tv ∧ ∀ H', Same H H' → Q (.bl false) H'
open Classical in
theorem ok_v1 (c0 : NoX CX) (T : Txt K mg t) : FnOk P w K mg base CX 4 t.f_v1 t.d_v1 ["net", "goal", "tree"] (sp_is_treeF K t.C_Net) := by
  refine T.F_v1.okX sc_v1 (fun vs H Q E h => ?_) (fun cdv A outer s H vs Q E hr h => ?_)
  · obtain ⟨x, l, e, as, n, g, ps, tv, rfl, _⟩ := h
    rfl
  · obtain ⟨x, l, e, as, n, g, ps, tv, rfl, N, he, hg, hb, q⟩ := h
    obtain ⟨dx, ex⟩ := N.ob
    obtain ⟨⟨n1, n2⟩, ⟨l1, l2⟩, hends, _⟩ := netOk_parts N.ok
    refine ⟨_, (pss_cons (ps_if (PW.pt (pw_or (pt_cmpR op_ne (pe_callB call_len (by rfl) T.n_len (by decide +kernel : bootBuiltins "len" = some (.builtin "len")) (pa_cons (pv 2) pa_nil)) (pe_meth0 (pv 0) T.cl_Net T.M_y (ok_y c0 T) (hr.mono (by decide)) T.b_y .nil (pass1 c0)) (nomark _)) (pw_or1 (pt_cmpR op_notN (pe_ix ix_list (pv 2) (pv 1) (fun _ _ => rfl)) pe_non (nomark _)))))
  (pss_one (ps_ret pe_bl))
  pss_nil)
  (pss_cons (ps_if (pt_not (pt_val (pe_callB (call_all (by rfl)) (by rfl) T.n_all (by decide +kernel : bootBuiltins "all" = some (.builtin "all")) (pa_cons (pe_comp (own := (["place"] : List Str)) (fr := (["tree", "net"] : List Str)) (ix := ([2, 0] : List Nat)) (by rfl) ⟨by rfl, by decide +kernel, by rfl, by rfl, by rfl⟩ (pi_list (pe_call (ok_u c0 T) (hr.mono (by decide)) (by rfl) T.m_u T.F_u.kp T.b_u .nil (pass1 c0) (pa_cons (pv 0) (pa_cons (pv 1) pa_nil)))) (fun _ => (pg_name (i := 0) (show List.Nodup (["place", "tree", "net"] : List Str) by decide +kernel) (by rfl) (Or.inl rfl))) (fun _ hB => pts_nil) (fun _ hB => (pe_cmpR op_in_seq (pe_ix ix_list (pv 1) (pv 0) (fun _ _ => rfl)) (pe_meth (pv 2) T.cl_Net T.M_j1 (ok_j1 c0 T) (hr.mono (by decide)) T.b_j1 .nil (pass1 c0) (pa_cons (pv 0) pa_nil)) (by with_unfolding_all rfl)))) pa_nil))))
  (pss_one (ps_ret pe_bl))
  pss_nil)
  (pss_cons (ps_set (i := 3) sc_v1.nd (by rfl) (Or.inr rfl) (pe_meth0 (pv 0) T.cl_Net T.M_i1 (ok_i1 c0 T) (hr.mono (by decide)) T.b_i1 .nil (pass1 c0)))
  (pss_one (ps_ret (pe_callB (call_all (by rfl)) (by rfl) T.n_all (by decide +kernel : bootBuiltins "all" = some (.builtin "all")) (pa_cons (pe_comp (own := (["place"] : List Str)) (fr := (["roads", "tree"] : List Str)) (ix := ([3, 2] : List Nat)) (by rfl) ⟨by rfl, by decide +kernel, by rfl, by rfl, by rfl⟩ (pi_range1 (by rfl) T.n_range (pa_cons (pe_meth0 (pv 0) T.cl_Net T.M_y (ok_y c0 T) (hr.mono (by decide)) T.b_y .nil (pass1 c0)) pa_nil)) (fun _ => (pg_name (i := 0) (show List.Nodup (["place", "roads", "tree"] : List Str) by decide +kernel) (by rfl) (Or.inl rfl))) (fun _ hB => pts_nil) (fun _ hB => (pe_call (ok_p c0 T) (hr.mono (by decide)) (by rfl) T.m_p T.F_p.kp T.b_p .nil (pass1 c0) (pa_cons (pv 1) (pa_cons (pv 2) (pa_cons (pv 0) pa_nil)))))) pa_nil))))))), ?_⟩
    open_k with [rIxL]
    refine ⟨_, lenL he, _, _, ex, nfl_no _ _ (by decide +kernel) (by decide +kernel), x, l, as, n, ps, rfl, N, rfl, ?_⟩
    by_cases c1 : tv.length = n
    rotate_left
    · rw [if_pos (by simp; omega)]
      exact q _ (Same.refl _)
    rw [if_neg (by simp [c1])]
    obtain ⟨v, hv⟩ : ∃ v, tv[g]? = some v := ⟨tv[g]'(by omega), List.getElem?_eq_getElem _⟩
    refine ⟨_, he, v, atI_nat (j := g) hv, ?_⟩
    by_cases c2 : v = .non
    rotate_left
    · rw [if_pos (by simp [c2])]
      exact q _ (Same.refl _)
    subst c2
    rw [if_neg (by simp)]
    have hfl : tv.all flatV = true := by
      cases hb with
      | len h => exact absurd c1 h
      | goal _ h1 h2 => rw [hv] at h1; exact absurd (Option.some.inj h1).symm h2
      | exit _ _ h _ => exact h
      | round _ _ _ =>
        rw [List.all_eq_true]
        intro z hz
        obtain ⟨j, _, rfl⟩ := List.mem_map.mp hz
        split <;> rfl
    refine ⟨x, l, as, n, g, ps, rfl, N, fun d1 fd1 => ⟨d1, rfl, ⟨_, SqL.of upd_same⟩, ?_⟩⟩
    have s1 : Same H (upd H d1 (.lst (nats (others n g)))) := Same.new fd1
    have hd1 : upd H d1 (.lst (nats (others n g))) d1 = some (.lst (nats (others n g))) := upd_same
    generalize upd H d1 (.lst (nats (others n g))) = H1 at *
    refine blk_list (xs := nats (others n g)) (fun i ys σ H' => ∃ u, σ = [u, some (.ref e), some (.ref x)] ∧ Same H1 H' ∧ ys = ((others n g).take i).map fun p => V.bl (inV (tv.getD p .non) (nats (exitsOf ps p)))) (by rw [nats_len]; exact small_le (Nat.le_trans (List.length_filter_le _ _) (by simp; omega))) ⟨none, rfl, Same.refl _, rfl⟩ ?_ ?_ ?_
    · rintro i ys σ H2 hi ⟨u, rfl, s2, rfl⟩
      exact ⟨SqL.of (s2 _ _ hd1), by rw [List.length_map, List.length_take]; omega⟩
    · rintro bk i v ys σ H2 hv ⟨u, rfl, s2, rfl⟩
      obtain ⟨p, hp0, rfl⟩ := nats_get hv
      obtain ⟨hpn, hpg⟩ := others_mem.mp (List.mem_of_getElem? hp0)
      have s12 := s1.trans s2
      have hgp : tv[p]? = some (tv.getD p .non) := by rw [List.getD_eq_getElem?_getD, List.getElem?_eq_getElem (by omega)]; rfl
      have itp : atI tv ((p : Nat) : Int) = some (tv.getD p .non) := atI_nat hgp
      have fvp : flatV (tv.getD p .non) = true := List.all_eq_true.mp hfl _ (List.mem_of_getElem? hgp)
      open_k with [rIxL]
      refine ⟨_, s12.seq he, _, itp, _, _, s12 _ _ ex, nfl_no _ _ (by decide +kernel) (by decide +kernel), x, l, as, n, ps, p, rfl, N.same s12, by rw [within_iff]; omega, fun d2 H3 s3 fd2 hd2 => ?_⟩
      open_k with [rIn]
      refine ⟨_, Or.inl (SqL.of hd2), fvp, by simp [nats, flatV], s2.trans s3, ?_⟩
      rw [List.take_add_one, hp0]
      simp
    · rintro ys σ H2 D ⟨u, rfl, s2, rfl⟩ hD
      rw [nats_len, List.take_length, all_bl]
      refine ⟨_, rfl, _, SqL.of upd_same, ?_⟩
      rw [List.all_map]
      have s3 : Same H (upd H2 D (.lst (((others n g).map fun p => inV (tv.getD p .non) (nats (exitsOf ps p))).map V.bl))) := (s1.trans s2).upd' hD
      generalize upd H2 D (.lst (((others n g).map fun p => inV (tv.getD p .non) (nats (exitsOf ps p))).map V.bl)) = H3 at *
      by_cases c3 : (others n g).all (fun p => inV (tv.getD p .non) (nats (exitsOf ps p))) = true
      rotate_left
      · rw [if_pos (by simpa using c3)]
        exact q _ s3
      rw [if_neg (by simpa using c3)]
      obtain ⟨c, i0, rfl, hc, hi0, hno⟩ : ∃ (c : Nat → Nat) (i0 : Nat), tv = treeV n g c ∧ (∀ j, j < n → j ≠ g → c j ∈ exitsOf ps j) ∧ i0 < n ∧ ∀ j, j < n → Mx.iter (goT n g ps c) j i0 ≠ g := by
        cases hb with
        | len h => exact absurd c1 h
        | goal _ h1 h2 => rw [hv] at h1; exact absurd (Option.some.inj h1).symm h2
        | exit _ _ _ h => rw [h] at c3; cases c3
        | round h1 h2 h3 => exact ⟨_, _, rfl, h1, h2, h3⟩
      refine ⟨_, _, s3 _ _ ex, nfl_no _ _ (by decide +kernel) (by decide +kernel), x, l, as, n, ps, rfl, N.same s3, fun d4 fd4 => ?_⟩
      have s4 := s3.trans (Same.new (o := HO.lst (as.map V.ref)) fd4)
      have hd4 : upd H3 d4 (.lst (as.map V.ref)) d4 = some (.lst (as.map V.ref)) := upd_same
      generalize upd H3 d4 (.lst (as.map V.ref)) = H4 at *
      refine ⟨_, _, s4 _ _ ex, nfl_no _ _ (by decide +kernel) (by decide +kernel), x, l, as, n, ps, rfl, N.same s4, _, rfl, by omega, by omega, blk_range (fun i ys σ H' => ∃ u, σ = [u, some (.ref d4), some (.ref e)] ∧ H' = H4 ∧ ys = (List.range i).map fun p => V.bl (decide (∃ j, j < n ∧ Mx.iter (goT n g ps c) j p = g))) (by rw [Int.toNat_natCast]; exact small_le (by omega)) ⟨none, rfl, rfl, rfl⟩ ?_ ?_ ?_⟩
      · rintro i ys σ H5 hi ⟨u, rfl, rfl, rfl⟩
        simp
      · rintro bk i ys σ H5 hi ⟨u, rfl, rfl, rfl⟩
        rw [Int.toNat_natCast] at hi
        open_k with [Int.zero_add]
        refine ⟨d4, e, as, n, g, i, ps, c, rfl, SqL.of hd4, N.ts.same s4, s4.seq he, hends, by omega, hg, hi, fun j hj hne => (exits_lt (hc j hj hne)).1, fun b hb => ?_⟩
        have eb : b = decide (∃ j, j < n ∧ Mx.iter (goT n g ps c) j i = g) := by
          rw [Bool.eq_iff_iff, hb, decide_eq_true_iff]
        rw [eb]
        refine ⟨rfl, ?_⟩
        rw [List.range_succ, List.map_append]
        rfl
      · rintro ys σ H5 D2 ⟨u, rfl, rfl, rfl⟩ hD2
        rw [all_bl]
        refine ⟨_, rfl, _, SqL.of upd_same, ?_⟩
        have eb : ((List.range ((n : Nat) : Int).toNat).map fun p => decide (∃ j, j < n ∧ Mx.iter (goT n g ps c) j p = g)).all id = false := by
          rw [List.all_map, List.all_eq_false]
          refine ⟨i0, List.mem_range.mpr (by rw [Int.toNat_natCast]; exact hi0), ?_⟩
          simpa using hno
        rw [eb]
        exact q _ (s4.upd' hD2)
end
end Rb
set_option Elab.async false
set_option linter.all false
set_option maxRecDepth 100000
set_option maxHeartbeats 4000000
namespace Rb
open PySem L2
section
variable {CX : CXT} {P : Program} {w : World} {K : PySem.W.Frag} {mg : Str → Option Value} {base : Heap} {t : Adr}
def spE_tree_at (t : Adr) : Sp := fun vs H _ E => ∃ (x l : Addr) (as : List Addr) (n : Nat) (ps : List Pr) (g num : Int), vs = [.ref x, .int g, .int num] ∧ NetAt t.C_Net H x l as n ps ∧
  ((within g n = false ∧ ∀ H', Same H H' → E (.ref t.C_NoPlace) none H') ∨ (∃ k : Nat, g = (k : Int) ∧ k < n ∧ (num < 0 ∨ cntT n ps k ≤ num) ∧ ∀ H', Same H H' → E (.ref t.C_NoNumber) none H'))
theorem okE_u1 (T : Txt K mg t) : FnOk P w K mg base (CX1 P w) 5 t.f_u1 t.d_u1 ["net", "place", "number"] (spE_tree_at t) := by
  have c0 : NoX (CX1 P w) := nox1
  refine T.F_u1.okE sc_u1 (fun vs H Q E h => ?_) (fun cdv A outer s H vs Q E hr h => ?_)
  · obtain ⟨x, l, as, n, ps, g, num, rfl, _⟩ := h
    rfl
  · obtain ⟨x, l, as, n, ps, g, num, rfl, N, hb⟩ := h
    obtain ⟨dx, ex⟩ := N.ob
    refine ⟨_, (pss_cons (ps_expr (pe_callS (okE_x T) (hr.mono (by decide)) (by rfl) T.m_x T.F_x.kp T.b_x (passesS_of passes_def) (pa_cons (pv 1) (pa_cons (pe_meth0 (pv 0) T.cl_Net T.M_y (ok_y c0 T) (hr.mono (by decide)) T.b_y .nil (pass1 c0)) pa_nil))))
  (pss_cons (ps_set (i := 3) sc_u1.nd (by rfl) (Or.inl rfl) (pe_call (ok_z c0 T) (hr.mono (by decide)) (by rfl) T.m_z T.F_z.kp T.b_z .nil (pass1 c0) (pa_cons (pv 0) (pa_cons (pv 1) pa_nil))))
  (pss_cons (ps_if (pt_not (pt_chain op_le op_lt pe_int (pv 2) (pe_fld (pv 3) (by rfl))))
  (pss_one (ps_raiseS (by rfl) (raise_def).s T.e_NoNumber (by rfl) T.m_NoNumber (pa_cons pe_str pa_nil)))
  pss_nil)
  (pss_cons ps_never (pss_cons ps_never (pss_cons ps_never (pss_one ps_never))))))), ?_⟩
    open_k with []
    refine ⟨_, _, ex, nfl_no _ _ (by decide +kernel) (by decide +kernel), x, l, as, n, ps, rfl, N, g, n, rfl, (fun hw => ?_), fun hw => ?_⟩
    · rcases hb with ⟨h, _⟩ | ⟨k, rfl, hk, hb, qE⟩
      · rw [h] at hw; cases hw
      refine ⟨x, l, as, n, k, ps, rfl, N, hk, fun y L rs m R H1 s1 fy W e cR => ?_⟩
      subst e
      obtain ⟨dT, eT⟩ := W.ob
      by_cases c1 : 0 ≤ num
      · rw [if_pos (decide_eq_true c1)]
        refine ⟨y, rfl, _, _, _, eT, T.cl_Tally, T.na_Tally_many, _, tfl_many _ _, _, rfl, ?_⟩
        rw [if_pos (by simp; omega)]
        exact ⟨by decide, qE _ s1⟩
      · rw [if_neg (by simpa using c1), if_pos (by simp)]
        exact ⟨by decide, qE _ s1⟩
    · rcases hb with ⟨_, qE⟩ | ⟨k, rfl, hk, _⟩
      · exact qE _ (Same.refl _)
      · rw [within_iff.mpr (by omega)] at hw
        cases hw
def spE_tree_number (K : PySem.W.Frag) (t : Adr) : Sp := fun vs H _ E => ∃ (x l e : Addr) (as : List Addr) (n : Nat) (ps : List Pr) (g : Int) (tv : List V), vs = [.ref x, .int g, .ref e] ∧ NetAt t.C_Net H x l as n ps ∧
  ((within g n = false ∧ ∀ H', Same H H' → E (.ref t.C_NoPlace) none H') ∨ (∃ k : Nat, g = (k : Int) ∧ k < n ∧ SqL K H e tv ∧ NoTreeP n k ps tv ∧ ∀ H', Same H H' → E (.ref t.C_NoTree) none H'))
theorem okE_a1 (T : Txt K mg t) : FnOk P w K mg base (CX1 P w) 5 t.f_a1 t.d_a1 ["net", "place", "tree"] (spE_tree_number K t) := by
  have c0 : NoX (CX1 P w) := nox1
  refine T.F_a1.okE sc_a1 (fun vs H Q E h => ?_) (fun cdv A outer s H vs Q E hr h => ?_)
  · obtain ⟨x, l, e, as, n, ps, g, tv, rfl, _⟩ := h
    rfl
  · obtain ⟨x, l, e, as, n, ps, g, tv, rfl, N, hb⟩ := h
    obtain ⟨dx, ex⟩ := N.ob
    refine ⟨_, (pss_cons (ps_expr (pe_callS (okE_x T) (hr.mono (by decide)) (by rfl) T.m_x T.F_x.kp T.b_x (passesS_of passes_def) (pa_cons (pv 1) (pa_cons (pe_meth0 (pv 0) T.cl_Net T.M_y (ok_y c0 T) (hr.mono (by decide)) T.b_y .nil (pass1 c0)) pa_nil))))
  (pss_cons (ps_if (pt_not (pt_val (pe_call (ok_v1 c0 T) (hr.mono (by decide)) (by rfl) T.m_v1 T.F_v1.kp T.b_v1 .nil (pass1 c0) (pa_cons (pv 0) (pa_cons (pv 1) (pa_cons (pv 2) pa_nil))))))
  (pss_one (ps_raiseS (by rfl) (raise_def).s T.e_NoTree (by rfl) T.m_NoTree (pa_cons pe_str pa_nil)))
  pss_nil)
  (pss_cons ps_never (pss_cons ps_never (pss_cons ps_never (pss_cons ps_never (pss_one ps_never))))))), ?_⟩
    open_k with []
    refine ⟨_, _, ex, nfl_no _ _ (by decide +kernel) (by decide +kernel), x, l, as, n, ps, rfl, N, g, n, rfl, (fun hw => ?_), fun hw => ?_⟩
    · rcases hb with ⟨h, _⟩ | ⟨k, rfl, hk, he, hb, qE⟩
      · rw [h] at hw; cases hw
      refine ⟨x, l, e, as, n, k, ps, tv, rfl, N, he, hk, hb, fun H1 s1 => ⟨_, rfl, ?_⟩⟩
      rw [if_pos (by simp)]
      exact ⟨by decide, qE _ s1⟩
    · rcases hb with ⟨_, qE⟩ | ⟨k, rfl, hk, _⟩
      · exact qE _ (Same.refl _)
      · rw [within_iff.mpr (by omega)] at hw
        cases hw
end
end Rb
set_option Elab.async false
set_option linter.all false
set_option maxRecDepth 100000
set_option maxHeartbeats 4000000
namespace Rb
open PySem L2
section
variable {CX : CXT} {P : Program} {w : World} {K : PySem.W.Frag} {mg : Str → Option Value} {base : Heap} {t : Adr}
def sp_many_words : Sp := fun vs H Q _ => ∃ s k : Nat, vs = [.int s, .int k] ∧ s ≤ 6 ∧ k ≤ 6 ∧ Q (.int ((s ^ k : Nat) : Int)) H
theorem pow_small {s i : Nat} (hs : s ≤ 6) (hi : i ≤ 6) : s ^ i ≤ 46656 := Nat.le_trans (Nat.pow_le_pow_left hs i) (Nat.le_trans (Nat.pow_le_pow_right (by decide) hi) (by decide))
theorem ok_m1 (c0 : NoX CX) (T : Txt K mg t) : FnOk P w K mg base CX 1 t.f_m1 t.d_m1 ["signs", "size"] sp_many_words := by
  refine T.F_m1.okX sc_m1 (fun vs H Q E h => ?_) (fun cdv A outer s H vs Q E hr h => ?_)
  · obtain ⟨s, k, rfl, _⟩ := h
    rfl
  · obtain ⟨m, k, rfl, hm, hk, q⟩ := h
    refine ⟨_, (pss_cons (ps_set (i := 2) sc_m1.nd (by rfl) (Or.inl rfl) pe_int)
  (pss_cons (ps_for PassesOwn.never (by rfl) (pi_range1 (by rfl) T.n_range (pa_cons (pv 1) pa_nil)) (pg_name (i := 3) sc_m1.nd (by rfl) (Or.inl rfl))
  (pss_one (ps_aug (i := 2) sc_m1.nd (by rfl) (Or.inl rfl) (pv 0) iop_mul)))
  (pss_one (ps_ret (pv 2))))), ?_⟩
    open_k with []
    refine ⟨by omega, by omega, forb_range (fun i σ H' => ∃ v, σ = [some (.int m), some (.int k), some (.int ((m ^ i : Nat) : Int)), v] ∧ H' = H) ⟨none, rfl, rfl⟩ ?_ ?_⟩
    · rintro i σ H1 hi ⟨v, rfl, rfl⟩
      rw [Int.toNat_natCast] at hi
      have := pow_small (i := i) hm (by omega)
      open_k with [tAug]
      refine ⟨Or.inl ⟨by omega, by omega⟩, ?_⟩
      have e : ((m ^ i : Nat) : Int) * (m : Int) = ((m ^ (i + 1) : Nat) : Int) := by rw [Nat.pow_succ, Int.natCast_mul]
      exact e
    · rintro σ H1 ⟨v, rfl, rfl⟩
      rw [Int.toNat_natCast]
      open_k with []
      exact q
def okW (a b : Int) : Prop := ∃ s k : Nat, a = (s : Int) ∧ b = (k : Int) ∧ 1 ≤ s ∧ s ≤ 6 ∧ 1 ≤ k ∧ k ≤ 6 ∧ s ^ k ≤ 64
def spE_check_words (t : Adr) : Sp := fun vs H Q E => ∃ a b : Int, vs = [.int a, .int b] ∧ (okW a b → Q .non H) ∧ (¬ okW a b → E (.ref t.C_NoWords) none H)
theorem okE_e1 (T : Txt K mg t) : FnOk P w K mg base (CX1 P w) 2 t.f_e1 t.d_e1 ["signs", "size"] (spE_check_words t) := by
  have c0 : NoX (CX1 P w) := nox1
  refine T.F_e1.okE sc_e1 (fun vs H Q E h => ?_) (fun cdv A outer s H vs Q E hr h => ?_)
  · obtain ⟨a, b, rfl, _⟩ := h
    rfl
  · obtain ⟨a, b, rfl, q, qE⟩ := h
    refine ⟨_, (pss_cons (ps_if (pt_not (pt_chain op_le op_le pe_int (pv 0) (pe_glob (by rfl) T.m_MOST_SIGNS T.r_MOST_SIGNS)))
  (pss_one (ps_raiseS (by rfl) (raise_def).s T.e_NoWords (by rfl) T.m_NoWords (pa_cons (pe_fstr (pj_cons pe_str (pj_cons (pe_fmt (pe_glob (by rfl) T.m_MOST_SIGNS T.r_MOST_SIGNS)) (pj_cons pe_str pj_nil)))) pa_nil)))
  pss_nil)
  (pss_cons (ps_if (pt_not (pt_chain op_le op_le pe_int (pv 1) (pe_glob (by rfl) T.m_MOST_SIZE T.r_MOST_SIZE)))
  (pss_one (ps_raiseS (by rfl) (raise_def).s T.e_NoWords (by rfl) T.m_NoWords (pa_cons (pe_fstr (pj_cons pe_str (pj_cons (pe_fmt (pe_glob (by rfl) T.m_MOST_SIZE T.r_MOST_SIZE)) pj_nil))) pa_nil)))
  pss_nil)
  (pss_one (ps_if (pt_cmpR op_gt (pe_call (ok_m1 c0 T) (hr.mono (by decide)) (by rfl) T.m_m1 T.F_m1.kp T.b_m1 .nil (pass1 c0) (pa_cons (pv 0) (pa_cons (pv 1) pa_nil))) (pe_glob (by rfl) T.m_MOST_WORDS T.r_MOST_WORDS) (nomark _))
  (pss_one (ps_raiseS (by rfl) (raise_def).s T.e_NoWords (by rfl) T.m_NoWords (pa_cons (pe_fstr (pj_cons pe_str (pj_cons (pe_fmt (pe_glob (by rfl) T.m_MOST_WORDS T.r_MOST_WORDS)) (pj_cons pe_str pj_nil)))) pa_nil)))
  pss_nil)))), ?_⟩
    open_k with []
    by_cases a1 : 1 ≤ a
    · rw [if_pos (decide_eq_true a1)]
      by_cases a2 : a ≤ 6
      · rw [if_neg (by simp [a2])]
        by_cases b1 : 1 ≤ b
        · rw [if_pos (decide_eq_true b1)]
          by_cases b2 : b ≤ 6
          · rw [if_neg (by simp [b2])]
            obtain ⟨s, rfl⟩ : ∃ s : Nat, a = (s : Int) := ⟨a.toNat, by omega⟩
            obtain ⟨k, rfl⟩ : ∃ k : Nat, b = (k : Int) := ⟨b.toNat, by omega⟩
            refine ⟨s, k, rfl, by omega, by omega, _, rfl, ?_⟩
            by_cases c : s ^ k ≤ 64
            · rw [decide_eq_false (by omega), if_neg (by decide)]
              exact q ⟨s, k, rfl, rfl, by omega, by omega, by omega, by omega, c⟩
            · rw [if_pos (decide_eq_true (by omega))]
              exact ⟨by decide +kernel, Or.inl ⟨by decide +kernel, by decide +kernel, by decide +kernel, by decide +kernel, by decide, qE fun ⟨s', k', e1, e2, _, _, _, _, h⟩ => by
                have z1 : s = s' := by omega
                have z2 : k = k' := by omega
                rw [z1, z2] at c
                exact c h⟩⟩
          · rw [if_pos (by simp [b2])]
            exact ⟨by decide +kernel, Or.inl ⟨by decide +kernel, by decide +kernel, by decide +kernel, by decide, qE fun ⟨s', k', e1, e2, _, _, _, h, _⟩ => b2 (by omega)⟩⟩
        · rw [if_neg (by simpa using b1), if_pos (by simp)]
          exact ⟨by decide +kernel, Or.inl ⟨by decide +kernel, by decide +kernel, by decide +kernel, by decide, qE fun ⟨s', k', e1, e2, _, _, h, _, _⟩ => b1 (by omega)⟩⟩
      · rw [if_pos (by simp [a2])]
        exact ⟨by decide +kernel, Or.inl ⟨by decide +kernel, by decide +kernel, by decide +kernel, by decide +kernel, by decide, qE fun ⟨s', k', e1, e2, _, h, _⟩ => a2 (by omega)⟩⟩
    · rw [if_neg (by simpa using a1), if_pos (by simp)]
      exact ⟨by decide +kernel, Or.inl ⟨by decide +kernel, by decide +kernel, by decide +kernel, by decide +kernel, by decide, qE fun ⟨s', k', e1, e2, h, _⟩ => a1 (by omega)⟩⟩
end
end Rb
set_option Elab.async false
set_option linter.all false
set_option maxRecDepth 100000
set_option maxHeartbeats 4000000
namespace Rb
open PySem L2
section
variable {CX : CXT} {P : Program} {w : World} {K : PySem.W.Frag} {mg : Str → Option Value} {base : Heap} {t : Adr}
def w22 : List Pr := [(0, 0), (0, 1), (1, 0), (1, 1)]
def spE_word_net (t : Adr) : Sp := fun vs H Q E => ∃ a b : Int, vs = [.int a, .int b] ∧ ((¬ okW a b ∧ ∀ H', Same H H' → E (.ref t.C_NoWords) none H') ∨ (a = 2 ∧ b = 2 ∧ ∀ (x l : Addr) (as : List Addr) (H' : Hp), Same H H' → H x = none → NetAt t.C_Net H' x l as 2 w22 → Q (.ref x) H'))
theorem okW22 : okW 2 2 := ⟨2, 2, rfl, rfl, by decide, by decide, by decide, by decide, by decide⟩
theorem okE_t1 (T : Txt K mg t) : FnOk P w K mg base (CX1 P w) 6 t.f_t1 t.d_t1 ["signs", "size"] (spE_word_net t) := by
  have c0 : NoX (CX1 P w) := nox1
  refine T.F_t1.okE sc_t1 (fun vs H Q E h => ?_) (fun cdv A outer s H vs Q E hr h => ?_)
  · obtain ⟨a, b, rfl, _⟩ := h
    rfl
  · obtain ⟨a, b, rfl, hb⟩ := h
    refine ⟨_, (pss_cons (ps_expr (pe_callS (okE_e1 T) (hr.mono (by decide)) (by rfl) T.m_e1 T.F_e1.kp T.b_e1 (passesS_of passes_def) (pa_cons (pv 0) (pa_cons (pv 1) pa_nil))))
  (pss_cons (ps_set (i := 2) sc_t1.nd (by rfl) (Or.inr rfl) (pe_call (ok_m1 c0 T) (hr.mono (by decide)) (by rfl) T.m_m1 T.F_m1.kp T.b_m1 .nil (pass1 c0) (pa_cons (pv 0) (pa_cons (pe_op op_sub (pv 1) pe_int) pa_nil))))
  (pss_one (ps_ret (pe_makeS T.mk_Net (okE_o T) (hr.mono (by decide)) (by rfl) T.m_Net T.b_o (passesS_of passes_def) (pa_cons (pv 2) (pa_cons (pe_comp (own := (["word"] : List Str)) (fr := (["signs", "places"] : List Str)) (ix := ([0, 2] : List Nat)) (by rfl) ⟨by rfl, by decide +kernel, by rfl, by rfl, by rfl⟩ (pi_range1 (by rfl) T.n_range (pa_cons (pe_call (ok_m1 c0 T) (hr.mono (by decide)) (by rfl) T.m_m1 T.F_m1.kp T.b_m1 .nil (pass1 c0) (pa_cons (pv 0) (pa_cons (pv 1) pa_nil))) pa_nil)) (fun _ => (pg_name (i := 0) (show List.Nodup (["word", "signs", "places"] : List Str) by decide +kernel) (by rfl) (Or.inl rfl))) (fun _ hB => pts_nil) (fun _ hB => (pe_tup (pa_cons (pe_op op_fdiv (pv 0) (pv 1)) (pa_cons (pe_op op_mod (pv 0) (pv 2)) pa_nil))))) pa_nil))))))), ?_⟩
    open_k with []
    refine ⟨a, b, rfl, (fun hw => ?_), fun hw => ?_⟩
    · rcases hb with ⟨h, _⟩ | ⟨rfl, rfl, q⟩
      · exact absurd hw h
      have e : ∀ i, i < 4 → w22.take (i + 1) = w22.take i ++ [((i : Int) / 2, (i : Int) % 2)] := by decide
      refine ⟨2, 1, rfl, by decide, by decide, 2, 2, rfl, by decide, by decide, _, rfl, by decide, by decide, blk_range (fun i ys σ H' => ∃ u as, σ = [u, some (.int 2), some (.int ((2 ^ 1 : Nat) : Int))] ∧ Same H H' ∧ ys = as.map V.ref ∧ TupsAt H' as (w22.take i)) (by decide) ⟨none, [], rfl, Same.refl _, rfl, .nil⟩ ?_ ?_ ?_⟩
      · rintro i ys σ H1 hi ⟨u, as, rfl, s1, rfl, ht⟩
        rw [List.length_map, ht.len, List.length_take]
        omega
      · rintro bk i ys σ H1 hi ⟨u, as, rfl, s1, rfl, ht⟩
        have hi : i < 4 := hi
        open_k with [Int.zero_add]
        refine ⟨⟨by decide, by decide⟩, by decide, by decide, fun p fp => ⟨s1.upd' fp, as ++ [p], by simp, ?_⟩⟩
        rw [e i hi]
        exact (ht.same (Same.new fp)).append (.cons upd_same .nil)
      · rintro ys σ H1 D ⟨u, as, rfl, s1, rfl, ht⟩ hD x dx fx fdx ndx
        have ht : TupsAt H1 as w22 := ht
        have s2 := s1.upd' (o := .lst (as.map V.ref)) hD
        have hd : upd H1 D (.lst (as.map V.ref)) D = some (.lst (as.map V.ref)) := upd_same
        have ht2 := ht.same (Same.new (o := .lst (as.map V.ref)) hD)
        generalize upd H1 D (.lst (as.map V.ref)) = H2 at *
        have s3 : Same H2 (upd (upd H2 dx (.own x)) x (.ins t.C_Net dx [])) := fun b o e => by
          rw [upd_ne (ne_of_none e fx), upd_ne (ne_of_none e fdx)]
          exact e
        refine ⟨x, dx, D, w22, 2, rfl, upd_same, ⟨as, SqL.of (s3 _ _ hd), ht2.same s3⟩, by decide, fun _ l as' H' fl k N => ⟨rfl, q x l as' H' (fun b o e => k b o (s3 _ _ (s2 _ _ e)) (ne_of_none (s2 _ _ e) fx)) (s2.free fx) N⟩, fun h => ?_⟩
        exact absurd h (by decide +kernel)
    · rcases hb with ⟨_, qE⟩ | ⟨rfl, rfl, _⟩
      · exact qE _ (Same.refl _)
      · exact absurd okW22 hw
end
end Rb
set_option Elab.async false
set_option linter.all false
set_option maxRecDepth 100000
set_option maxHeartbeats 4000000
namespace Rb
open PySem L2
section
variable {CX : CXT} {P : Program} {w : World} {K : PySem.W.Frag} {mg : Str → Option Value} {base : Heap} {t : Adr}
theorem prod_pos (ps : List Pr) (n : Nat) : 0 < Mx.prodTo (degP ps) n := Mx.prodTo_pos fun _ _ => Mx.fact_pos _
def spE_ring_at (t : Adr) : Sp := fun vs H _ E => ∃ (x l : Addr) (as : List Addr) (n : Nat) (ps : List Pr) (num : Int), vs = [.ref x, .int num] ∧ NetAt t.C_Net H x l as n ps ∧ unlikeOf n ps = [] ∧ apartOf n ps = [] ∧ (num < 0 ∨ cntT n ps (stR ps 0) * ((Mx.prodTo (degP ps) n : Nat) : Int) ≤ num) ∧ ∀ H', Same H H' → E (.ref t.C_NoNumber) none H'
theorem okE_x1 (T : Txt K mg t) : FnOk P w K mg base (CX1 P w) 7 t.f_x1 t.d_x1 ["net", "number"] (spE_ring_at t) := by
  have c0 : NoX (CX1 P w) := nox1
  refine T.F_x1.okE sc_x1 (fun vs H Q E h => ?_) (fun cdv A outer s H vs Q E hr h => ?_)
  · obtain ⟨x, l, as, n, ps, num, rfl, _⟩ := h
    rfl
  · obtain ⟨x, l, as, n, ps, num, rfl, N, hu, hap, hnum, qE⟩ := h
    obtain ⟨⟨n1, n2⟩, ⟨l1, l2⟩, hends, hex⟩ := netOk_parts N.ok
    have hs0 : stR ps 0 < n := (stR_cast hends (by omega)).2
    have pp := prod_pos ps n
    refine ⟨_, (pss_cons (ps_if (pt_cmpR op_notN (pe_call (ok_z1 c0 T) (hr.mono (by decide)) (by rfl) T.m_z1 T.F_z1.kp T.b_z1 .nil (pass1 c0) (pa_cons (pv 0) pa_nil)) pe_non (nomark _))
  (pss_one ps_never)
  pss_nil)
  (pss_cons (ps_set (i := 2) sc_x1.nd (by rfl) (Or.inl rfl) (pe_call (ok_c1 c0 T) (hr.mono (by decide)) (by rfl) T.m_c1 T.F_c1.kp T.b_c1 .nil (pass1 c0) (pa_cons (pv 0) pa_nil)))
  (pss_cons (ps_set (i := 3) sc_x1.nd (by rfl) (Or.inl rfl) (pe_callS (okE_u1 T) (hr.mono (by decide)) (by rfl) T.m_u1 T.F_u1.kp T.b_u1 (passesS_of passes_def) (pa_cons (pv 0) (pa_cons (pe_call (ok_b1 c0 T) (hr.mono (by decide)) (by rfl) T.m_b1 T.F_b1.kp T.b_b1 .nil (pass1 c0) (pa_cons (pv 0) pa_nil)) (pa_cons (pe_op op_fdivB (pv 1) (pv 2)) pa_nil)))))
  (pss_cons ps_never (pss_cons ps_never (pss_cons ps_never (pss_one ps_never))))))), ?_⟩
    open_k with []
    refine ⟨x, l, as, n, ps, rfl, N, fun v H1 s1 W => ?_⟩
    have ev : v = .non := by
      cases W with
      | unlike h => exact absurd hu h
      | apart _ h => exact absurd hap h
      | none _ _ => rfl
    subst ev
    show if (!decide (V.non = V.non)) = true then _ else _
    rw [if_neg (by simp)]
    refine ⟨x, l, as, n, ps, rfl, N.same s1, fun H2 s2 => ?_⟩
    have s02 := s1.trans s2
    refine ⟨x, l, as, n, ps, rfl, N.same s02, fun H3 s3 => ⟨_, rfl, ⟨by omega, prod_big hends (by omega) (Nat.le_refl _)⟩, ?_⟩⟩
    have s03 := s02.trans s3
    refine ⟨x, l, as, n, ps, _, _, rfl, N.same s03, Or.inr ⟨stR ps 0, rfl, hs0, ?_, fun H' s' => qE H' (s03.trans s')⟩⟩
    rcases hnum with h | h
    · exact Or.inl (Int.ediv_neg_of_neg_of_pos h (by omega))
    · exact Or.inr (Int.le_ediv_of_mul_le (by omega) h)
def spE_ring_number (t : Adr) : Sp := fun vs H _ E => ∃ (x l r : Addr) (as : List Addr) (n : Nat) (ps : List Pr) (ring : List Int), vs = [.ref x, .ref r] ∧ NetAt t.C_Net H x l as n ps ∧ H r = some (.lst (ring.map V.int)) ∧ ring.length < 64 ∧ ¬ RingP n ps ring ∧ ∀ H', Same H H' → E (.ref t.C_NoRing) none H'
theorem okE_d1 (T : Txt K mg t) : FnOk P w K mg base (CX1 P w) 3 t.f_d1 t.d_d1 ["net", "ring"] (spE_ring_number t) := by
  have c0 : NoX (CX1 P w) := nox1
  refine T.F_d1.okE sc_d1 (fun vs H Q E h => ?_) (fun cdv A outer s H vs Q E hr h => ?_)
  · obtain ⟨x, l, r, as, n, ps, ring, rfl, _⟩ := h
    rfl
  · obtain ⟨x, l, r, as, n, ps, ring, rfl, N, hr0, h64, hno, qE⟩ := h
    refine ⟨_, (pss_cons (ps_if (pt_not (pt_val (pe_call (ok_w1 c0 T) (hr.mono (by decide)) (by rfl) T.m_w1 T.F_w1.kp T.b_w1 .nil (pass1 c0) (pa_cons (pv 0) (pa_cons (pv 1) pa_nil)))))
  (pss_one (ps_raiseS (by rfl) (raise_def).s T.e_NoRing (by rfl) T.m_NoRing (pa_cons pe_str pa_nil)))
  pss_nil)
  (pss_cons ps_never (pss_cons ps_never (pss_cons ps_never (pss_cons ps_never (pss_cons ps_never (pss_cons ps_never (pss_one ps_never)))))))), ?_⟩
    open_k with []
    refine ⟨x, l, r, as, n, ps, ring, rfl, N, hr0, h64, fun b H1 s1 hb => ⟨_, rfl, ?_⟩⟩
    have eb : b = false := by
      cases b
      · rfl
      · exact absurd (hb.mp rfl) hno
    subst eb
    rw [if_pos (by simp)]
    exact ⟨by decide, qE H1 s1⟩
end
end Rb
set_option Elab.async false
set_option linter.all false
set_option maxRecDepth 100000
set_option maxHeartbeats 4000000
namespace Rb
open PySem L2
section
variable {CX : CXT} {P : Program} {w : World} {K : PySem.W.Frag} {mg : Str → Option Value} {base : Heap} {t : Adr}
def spE_many_word_rings (t : Adr) : Sp := fun vs H _ E => ∃ a b : Int, vs = [.int a, .int b] ∧ ¬ okW a b ∧ ∀ H', Same H H' → E (.ref t.C_NoWords) none H'
theorem okE_h (T : Txt K mg t) : FnOk P w K mg base (CX1 P w) 8 t.f_h t.d_h ["signs", "size"] (spE_many_word_rings t) := by
  have c0 : NoX (CX1 P w) := nox1
  refine T.F_h.okE sc_h (fun vs H Q E h => ?_) (fun cdv A outer s H vs Q E hr h => ?_)
  · obtain ⟨a, b, rfl, _⟩ := h
    rfl
  · obtain ⟨a, b, rfl, hw, qE⟩ := h
    refine ⟨_, (pss_one (ps_ret (pe_call (ok_l1 c0 T) (hr.mono (by decide)) (by rfl) T.m_l1 T.F_l1.kp T.b_l1 .nil (pass1 c0) (pa_cons (pe_callS (okE_t1 T) (hr.mono (by decide)) (by rfl) T.m_t1 T.F_t1.kp T.b_t1 (passesS_of passes_def) (pa_cons (pv 0) (pa_cons (pv 1) pa_nil))) pa_nil)))), ?_⟩
    open_k with []
    exact ⟨a, b, rfl, Or.inl ⟨hw, qE⟩⟩
theorem cnt22 : cntT 2 w22 (stR w22 0) * ((Mx.prodTo (degP w22) 2 : Nat) : Int) = 1 := by decide +kernel
theorem like22 : EvenLike 2 w22 := ⟨by decide, by decide, by decide, fun p => by
    match p with
    | 0 => rfl
    | 1 => rfl
    | p + 2 =>
      have h1 : (w22.map (·.1)).count ((p + 2 : Nat) : Int) = 0 := List.count_eq_zero.mpr (by simp [w22]; omega)
      have h2 : (w22.map (·.2)).count ((p + 2 : Nat) : Int) = 0 := List.count_eq_zero.mpr (by simp [w22]; omega)
      rw [h1, h2], by decide⟩
def spE_word_ring (t : Adr) : Sp := fun vs H _ E => ∃ a b num : Int, vs = [.int a, .int b, .int num] ∧ ((¬ okW a b ∧ ∀ H', Same H H' → E (.ref t.C_NoWords) none H') ∨ (a = 2 ∧ b = 2 ∧ (num < 0 ∨ 1 ≤ num) ∧ ∀ H', Same H H' → E (.ref t.C_NoNumber) none H'))
theorem okE_q1 (T : Txt K mg t) : FnOk P w K mg base (CX1 P w) 8 t.f_q1 t.d_q1 ["signs", "size", "number"] (spE_word_ring t) := by
  have c0 : NoX (CX1 P w) := nox1
  refine T.F_q1.okE sc_q1 (fun vs H Q E h => ?_) (fun cdv A outer s H vs Q E hr h => ?_)
  · obtain ⟨a, b, num, rfl, _⟩ := h
    rfl
  · obtain ⟨a, b, num, rfl, hb⟩ := h
    refine ⟨_, (pss_one (ps_ret (pe_comp (own := (["word"] : List Str)) (fr := (["signs"] : List Str)) (ix := ([0] : List Nat)) (by rfl) ⟨by rfl, by decide +kernel, by rfl, by rfl, by rfl⟩ (pi_list (pe_callS (okE_x1 T) (hr.mono (by decide)) (by rfl) T.m_x1 T.F_x1.kp T.b_x1 (passesS_of passes_def) (pa_cons (pe_callS (okE_t1 T) (hr.mono (by decide)) (by rfl) T.m_t1 T.F_t1.kp T.b_t1 (passesS_of passes_def) (pa_cons (pv 0) (pa_cons (pv 1) pa_nil))) (pa_cons (pv 2) pa_nil)))) (fun _ => (pg_name (i := 0) (show List.Nodup (["word", "signs"] : List Str) by decide +kernel) (by rfl) (Or.inl rfl))) (fun _ hB => pts_nil) (fun _ hB => (pe_op op_mod (pv 0) (pv 1)))))), ?_⟩
    open_k with []
    rcases hb with ⟨hw, qE⟩ | ⟨rfl, rfl, hn, qE⟩
    · exact ⟨a, b, rfl, Or.inl ⟨hw, qE⟩⟩
    · refine ⟨2, 2, rfl, Or.inr ⟨rfl, rfl, fun x l as H1 s1 fx N => ⟨x, l, as, 2, w22, num, rfl, N, like22.unlike, like22.apart (by decide), ?_, fun H2 s2 => qE H2 (s1.trans s2)⟩⟩⟩
      rw [cnt22]
      exact hn
end
end Rb
set_option Elab.async false
set_option linter.all false
set_option maxRecDepth 100000
set_option maxHeartbeats 4000000
namespace Rb
open PySem L2
section
variable {CX : CXT} {P : Program} {w : World} {K : PySem.W.Frag} {mg : Str → Option Value} {base : Heap} {t : Adr}
def prevI (m i : Nat) : Nat := if i = 0 then m - 1 else i - 1
def wordsZ (zs : List Int) : List Int := (List.range zs.length).map fun i => zs.getD (prevI zs.length i) 0 * 2 + zs.getD i 0
def sp_word_ending (K : PySem.W.Frag) : Sp := fun vs H Q _ => ∃ (r : Addr) (zs : List Int) (i : Nat), vs = [.int 2, .int 2, .ref r, .int i] ∧ SqL K H r (zs.map V.int) ∧ i < zs.length ∧ zs.length < 64 ∧ (∀ z ∈ zs, 0 ≤ z ∧ z < 2) ∧ Q (.int (zs.getD (prevI zs.length i) 0 * 2 + zs.getD i 0)) H
theorem ok_l (c0 : NoX CX) (T : Txt K mg t) : FnOk P w K mg base CX 1 t.f_l t.d_l ["signs", "size", "ring", "last"] (sp_word_ending K) := by
  refine T.F_l.okX sc_l (fun vs H Q E h => ?_) (fun cdv A outer s H vs Q E hr h => ?_)
  · obtain ⟨r, zs, i, rfl, _⟩ := h
    rfl
  · obtain ⟨r, zs, i, rfl, hz, hi, h64, hs, q⟩ := h
    refine ⟨_, (pss_cons (ps_set (i := 4) sc_l.nd (by rfl) (Or.inl rfl) pe_int)
  (pss_cons (ps_for PassesOwn.never (by rfl) (pi_range2 (by rfl) T.n_range (pa_cons (pe_op op_add (pe_op op_sub (pv 3) (pv 1)) pe_int) (pa_cons (pe_op op_add (pv 3) pe_int) pa_nil))) (pg_name (i := 5) sc_l.nd (by rfl) (Or.inl rfl))
  (pss_one (ps_set (i := 4) sc_l.nd (by rfl) (Or.inl rfl) (pe_op op_add (pe_op op_mul (pv 4) (pv 0)) (pe_ix ix_list (pv 2) (pe_op op_mod (pv 5) (pe_callB call_len (by rfl) T.n_len (by decide +kernel : bootBuiltins "len" = some (.builtin "len")) (pa_cons (pv 2) pa_nil))) (fun _ _ => rfl))))))
  (pss_one (ps_ret (pv 4))))), ?_⟩
    open_k with []
    have hpi : prevI zs.length i < zs.length := by unfold prevI; split <;> omega
    have gd : ∀ j, j < zs.length → atI (zs.map V.int) ((j : Nat) : Int) = some (.int (zs.getD j 0)) ∧ 0 ≤ zs.getD j 0 ∧ zs.getD j 0 < 2 := fun j hj => by
      have e : zs.getD j 0 = zs[j] := by rw [List.getD_eq_getElem?_getD]; simp [hj]
      rw [e]
      exact ⟨atI_nat (by simp [hj]), hs _ (List.getElem_mem hj)⟩
    have em : ((i : Int) - 1) % ((zs.length : Nat) : Int) = ((prevI zs.length i : Nat) : Int) := by
      unfold prevI
      by_cases c : i = 0
      · rw [if_pos c, c]
        have : ((0 : Nat) : Int) - 1 = ((zs.length - 1 : Nat) : Int) + ((zs.length : Nat) : Int) * (-1) := by omega
        rw [this, Int.add_mul_emod_self_left, Int.emod_eq_of_lt (by omega) (by omega)]
      · rw [if_neg c, Int.emod_eq_of_lt (by omega) (by omega)]
        omega
    obtain ⟨g1, g2, g3⟩ := gd _ hpi
    obtain ⟨g4, g5, g6⟩ := gd _ hi
    generalize zs.getD (prevI zs.length i) 0 = A at *
    generalize zs.getD i 0 = B at *
    have e2 : ((i : Int) + 1 - ((i : Int) - 2 + 1)).toNat = 2 := by omega
    have em2 : (i : Int) % ((zs.length : Nat) : Int) = (i : Int) := Int.emod_eq_of_lt (by omega) (by omega)
    rw [e2]
    refine ⟨by omega, by omega, by omega, by omega, forb_range (fun j σ H' => ∃ v, σ = [some (.int 2), some (.int 2), some (.ref r), some (.int i), some (.int (if j = 0 then 0 else if j = 1 then A else A * 2 + B)), v] ∧ H' = H) ⟨none, rfl, rfl⟩ ?_ ?_⟩
    · rintro j σ H1 hj ⟨v, rfl, rfl⟩
      have hj2 : j = 0 ∨ j = 1 := by omega
      rcases hj2 with rfl | rfl
      · open_k with [rIxL]
        have e3 : (i : Int) - 2 + 1 + ((0 : Nat) : Int) = (i : Int) - 1 := by omega
        refine ⟨Or.inl ⟨by decide, by decide⟩, _, lenL hz, by rw [List.length_map]; omega, _, hz, .int A, by rw [e3, List.length_map, em]; exact g1, _, rfl, ?_⟩
        simp
      · open_k with [rIxL]
        have e3 : (i : Int) - 2 + 1 + ((1 : Nat) : Int) = (i : Int) := by omega
        refine ⟨Or.inl ⟨by simp; omega, by simp; omega⟩, _, lenL hz, by rw [List.length_map]; omega, _, hz, .int B, by rw [e3, List.length_map, em2]; exact g4, _, rfl, ?_⟩
        simp
    · rintro σ H1 ⟨v, rfl, rfl⟩
      open_k with []
      exact q
def spE_word_ring_number (K : PySem.W.Frag) (t : Adr) : Sp := fun vs H _ E => ∃ (a b : Int) (r : Addr) (zs : List Int), vs = [.int a, .int b, .ref r] ∧ SqL K H r (zs.map V.int) ∧ zs.length < 64 ∧ ((¬ okW a b ∧ ∀ H', Same H H' → E (.ref t.C_NoWords) none H') ∨
  (a = 2 ∧ b = 2 ∧ (zs.all (fun z => within z 2) = true → ¬ RingP 2 w22 (wordsZ zs)) ∧ ∀ H', Same H H' → E (.ref t.C_NoRing) none H'))
theorem okE_e (T : Txt K mg t) : FnOk P w K mg base (CX1 P w) 8 t.f_e t.d_e ["signs", "size", "ring"] (spE_word_ring_number K t) := by
  have c0 : NoX (CX1 P w) := nox1
  refine T.F_e.okE sc_e (fun vs H Q E h => ?_) (fun cdv A outer s H vs Q E hr h => ?_)
  · obtain ⟨a, b, r, zs, rfl, _⟩ := h
    rfl
  · obtain ⟨a, b, r, zs, rfl, hz, h64, hb⟩ := h
    refine ⟨_, (pss_cons (ps_set (i := 3) sc_e.nd (by rfl) (Or.inl rfl) (pe_callS (okE_t1 T) (hr.mono (by decide)) (by rfl) T.m_t1 T.F_t1.kp T.b_t1 (passesS_of passes_def) (pa_cons (pv 0) (pa_cons (pv 1) pa_nil))))
  (pss_cons (ps_if (pt_not (pt_val (pe_callB (call_all (by rfl)) (by rfl) T.n_all (by decide +kernel : bootBuiltins "all" = some (.builtin "all")) (pa_cons (pe_comp (own := (["sign"] : List Str)) (fr := (["signs"] : List Str)) (ix := ([0] : List Nat)) (by rfl) ⟨by rfl, by decide +kernel, by rfl, by rfl, by rfl⟩ (pi_list (pv 2)) (fun _ => (pg_name (i := 0) (show List.Nodup (["sign", "signs"] : List Str) by decide +kernel) (by rfl) (Or.inl rfl))) (fun _ hB => pts_nil) (fun _ hB => (pe_chain op_le op_lt pe_int (pv 0) (pv 1)))) pa_nil))))
  (pss_one (ps_raiseS (by rfl) (raise_def).s T.e_NoRing (by rfl) T.m_NoRing (pa_cons pe_str pa_nil)))
  pss_nil)
  (pss_one (ps_ret (pe_callS (okE_d1 T) (hr.mono (by decide)) (by rfl) T.m_d1 T.F_d1.kp T.b_d1 (passesS_of passes_def) (pa_cons (pv 3) (pa_cons (pe_comp (own := (["last"] : List Str)) (fr := (["signs", "size", "ring"] : List Str)) (ix := ([0, 1, 2] : List Nat)) (by rfl) ⟨by rfl, by decide +kernel, by rfl, by rfl, by rfl⟩ (pi_range1 (by rfl) T.n_range (pa_cons (pe_callB call_len (by rfl) T.n_len (by decide +kernel : bootBuiltins "len" = some (.builtin "len")) (pa_cons (pv 2) pa_nil)) pa_nil)) (fun _ => (pg_name (i := 0) (show List.Nodup (["last", "signs", "size", "ring"] : List Str) by decide +kernel) (by rfl) (Or.inl rfl))) (fun _ hB => pts_nil) (fun _ hB => (pe_call (ok_l c0 T) (hr.mono (by decide)) (by rfl) T.m_l T.F_l.kp T.b_l .nil (pass1 c0) (pa_cons (pv 1) (pa_cons (pv 2) (pa_cons (pv 3) (pa_cons (pv 0) pa_nil))))))) pa_nil))))))), ?_⟩
    open_k with []
    rcases hb with ⟨hw, qE⟩ | ⟨rfl, rfl, hn, qE⟩
    · exact ⟨a, b, rfl, Or.inl ⟨hw, qE⟩⟩
    refine ⟨2, 2, rfl, Or.inr ⟨rfl, rfl, fun x l as H1 s1 fx N => ?_⟩⟩
    have hz1 := s1.seq hz
    refine ⟨⟨_, hz1⟩, blk_list (xs := zs.map V.int) (fun i ys σ H' => ∃ u, σ = [u, some (.int 2)] ∧ H' = H1 ∧ ys = ((zs.take i).map fun z => within z 2).map V.bl) (by rw [List.length_map]; exact small_le (by omega)) ⟨none, rfl, rfl, rfl⟩ ?_ ?_ ?_⟩
    · rintro i ys σ H2 hi ⟨u, rfl, rfl, rfl⟩
      exact ⟨hz1, by simp; omega⟩
    · rintro bk i v ys σ H2 hv ⟨u, rfl, rfl, rfl⟩
      rw [List.getElem?_map] at hv
      cases hx : zs[i]? with
      | none => rw [hx] at hv; cases hv
      | some z =>
        rw [hx] at hv
        have ev : v = .int z := (Option.some.inj hv).symm
        subst ev
        open_k with []
        rw [List.take_add_one, hx]
        by_cases c : 0 ≤ z
        · rw [if_pos (decide_eq_true c)]
          simp [within, c]
        · rw [if_neg (by simpa using c)]
          simp [within, c]
    · rintro ys σ H2 D ⟨u, rfl, rfl, rfl⟩ hD
      rw [List.length_map, List.take_length]
      refine ⟨_, rfl, _, SqL.of upd_same, ?_⟩
      have s2 := s1.upd' (o := .lst ((zs.map fun z => within z 2).map V.bl)) hD
      have s12 : Same H2 (upd H2 D (.lst ((zs.map fun z => within z 2).map V.bl))) := Same.new hD
      generalize upd H2 D (.lst ((zs.map fun z => within z 2).map V.bl)) = H3 at *
      rw [List.all_map]
      by_cases c : zs.all (fun z => within z 2) = true
      · rw [if_neg (by simpa using c)]
        have hs : ∀ z ∈ zs, 0 ≤ z ∧ z < 2 := fun z hz => within_iff.mp (List.all_eq_true.mp c z hz)
        have hz3 := s2.seq hz
        refine ⟨_, lenL hz3, by omega, by rw [List.length_map]; omega, blk_range (fun i ys σ H' => ∃ u, σ = [u, some (.int 2), some (.int 2), some (.ref r)] ∧ H' = H3 ∧ ys = ((wordsZ zs).take i).map V.int) (by rw [Int.toNat_natCast, List.length_map]; exact small_le (by omega)) ⟨none, rfl, rfl, rfl⟩ ?_ ?_ ?_⟩
        · rintro i ys σ H4 hi ⟨u, rfl, rfl, rfl⟩
          simp
          omega
        · rintro bk i ys σ H4 hi ⟨u, rfl, rfl, rfl⟩
          rw [Int.toNat_natCast, List.length_map] at hi
          open_k with [Int.zero_add]
          refine ⟨r, zs, i, rfl, hz3, hi, h64, hs, rfl, ?_⟩
          have hw : (wordsZ zs)[i]? = some (zs.getD (prevI zs.length i) 0 * 2 + zs.getD i 0) := by
            unfold wordsZ
            rw [List.getElem?_map, List.getElem?_range hi]
            rfl
          rw [List.take_add_one, hw]
          simp
        · rintro ys σ H4 D2 ⟨u, rfl, rfl, rfl⟩ hD2
          rw [Int.toNat_natCast, List.length_map]
          have lw : (wordsZ zs).length = zs.length := by simp [wordsZ]
          rw [List.take_of_length_le (by omega)]
          exact ⟨x, l, D2, as, 2, w22, wordsZ zs, rfl, N.same (s12.upd' hD2), upd_same, by omega, hn c, fun H' s' => qE H' ((s2.upd' hD2).trans s')⟩
      · rw [if_pos (by simpa using c)]
        exact ⟨by decide, qE _ s2⟩
end
end Rb
set_option Elab.async false
set_option linter.all false
set_option maxRecDepth 100000
set_option maxHeartbeats 4000000
namespace Rb
open PySem L2
section
variable {CX : CXT} {P : Program} {w : World} {K : PySem.W.Frag} {mg : Str → Option Value} {base : Heap} {t : Adr}
def sp_which (t : Adr) (K : PySem.W.Frag) : Sp := fun vs H Q _ => ∃ (x D : Addr) (b0 b1 b2 b3 b4 b5 b6 b7 : Bool), vs = [.ref x] ∧ H x = some (excO x (.ref D)) ∧ ErrLook K D ∧ PySem.W.kitOne K (.ref D) (.ref t.C_NoNet) = some b0 ∧ PySem.W.kitOne K (.ref D) (.ref t.C_NoWords) = some b1 ∧ PySem.W.kitOne K (.ref D) (.ref t.C_NotRead) = some b2 ∧ PySem.W.kitOne K (.ref D) (.ref t.C_NoPlace) = some b3 ∧
  PySem.W.kitOne K (.ref D) (.ref t.C_NoTree) = some b4 ∧ PySem.W.kitOne K (.ref D) (.ref t.C_NoRing) = some b5 ∧ PySem.W.kitOne K (.ref D) (.ref t.C_NoNumber) = some b6 ∧ PySem.W.kitOne K (.ref D) (.type "ValueError") = some b7 ∧ ∀ (d : Addr) (H' : Hp), Same H H' → H' d = some (.lst ([b0, b1, b2, b3, b4, b5, b6, b7].map V.bl)) → Q (.ref d) H'
theorem okH_x_law_which (c0 : NoX CX) (T : Txt K mg t) : FnOkH P w K mg base CX 1 t.f_h1 t.d_h1 ["e"] (sp_which t K) := by
  refine T.F_h1.okH sc_h1 (fun vs H Q E h => ?_) (fun cdv A outer s H vs Q E hr h => ?_)
  · obtain ⟨x, D, b0, b1, b2, b3, b4, b5, b6, b7, rfl, _⟩ := h
    rfl
  · obtain ⟨x, D, b0, b1, b2, b3, b4, b5, b6, b7, rfl, hx, he, k0, k1, k2, k3, k4, k5, k6, k7, q⟩ := h
    refine ⟨_, (pss_cons (ps_set (i := 1) sc_h1.nd (by rfl) (Or.inl rfl) (pe_lst (pa_cons (pe_callB call_isiE (by rfl) T.n_isinstance (by decide +kernel : bootBuiltins "isinstance" = some (.builtin "isinstance")) (pa_cons (pv 0) (pa_cons (pe_glob (v := V.ref t.C_NoNet) (by rfl) T.m_NoNet rfl) pa_nil))) (pa_cons (pe_callB call_isiE (by rfl) T.n_isinstance (by decide +kernel : bootBuiltins "isinstance" = some (.builtin "isinstance")) (pa_cons (pv 0) (pa_cons (pe_glob (v := V.ref t.C_NoWords) (by rfl) T.m_NoWords rfl) pa_nil))) (pa_cons (pe_callB call_isiE (by rfl) T.n_isinstance (by decide +kernel : bootBuiltins "isinstance" = some (.builtin "isinstance")) (pa_cons (pv 0) (pa_cons (pe_glob (v := V.ref t.C_NotRead) (by rfl) T.m_NotRead rfl) pa_nil))) pa_nil)))))
  (pss_cons (ps_set (i := 1) sc_h1.nd (by rfl) (Or.inl rfl) (pe_op op_cat (pv 1) (pe_lst (pa_cons (pe_callB call_isiE (by rfl) T.n_isinstance (by decide +kernel : bootBuiltins "isinstance" = some (.builtin "isinstance")) (pa_cons (pv 0) (pa_cons (pe_glob (v := V.ref t.C_NoPlace) (by rfl) T.m_NoPlace rfl) pa_nil))) (pa_cons (pe_callB call_isiE (by rfl) T.n_isinstance (by decide +kernel : bootBuiltins "isinstance" = some (.builtin "isinstance")) (pa_cons (pv 0) (pa_cons (pe_glob (v := V.ref t.C_NoTree) (by rfl) T.m_NoTree rfl) pa_nil))) (pa_cons (pe_callB call_isiE (by rfl) T.n_isinstance (by decide +kernel : bootBuiltins "isinstance" = some (.builtin "isinstance")) (pa_cons (pv 0) (pa_cons (pe_glob (v := V.ref t.C_NoRing) (by rfl) T.m_NoRing rfl) pa_nil))) pa_nil))))))
  (pss_one (ps_ret (pe_op op_cat (pv 1) (pe_lst (pa_cons (pe_callB call_isiE (by rfl) T.n_isinstance (by decide +kernel : bootBuiltins "isinstance" = some (.builtin "isinstance")) (pa_cons (pv 0) (pa_cons (pe_glob (v := V.ref t.C_NoNumber) (by rfl) T.m_NoNumber rfl) pa_nil))) (pa_cons (pe_callB call_isiE (by rfl) T.n_isinstance (by decide +kernel : bootBuiltins "isinstance" = some (.builtin "isinstance")) (pa_cons (pv 0) (pa_cons (pe_bltn (v := V.ty "ValueError") (by rfl) T.n_ValueError (by decide +kernel : bootBuiltins "ValueError" = some (.type "ValueError")) rfl) pa_nil))) pa_nil)))))))), ?_⟩
    open_k with []
    refine ⟨D, hx, he, b0, k0, D, hx, he, b1, k1, D, hx, he, b2, k2, by decide, fun p1 f1 => ?_⟩
    have hx1 := upd_old (o := .lst [V.bl b0, V.bl b1, V.bl b2]) hx f1
    have s1 : Same H (upd H p1 (.lst [V.bl b0, V.bl b1, V.bl b2])) := Same.new f1
    have h1 : upd H p1 (.lst [V.bl b0, V.bl b1, V.bl b2]) p1 = some (.lst [V.bl b0, V.bl b1, V.bl b2]) := upd_same
    generalize upd H p1 (.lst [V.bl b0, V.bl b1, V.bl b2]) = H1 at *
    refine ⟨D, hx1, he, b3, k3, D, hx1, he, b4, k4, D, hx1, he, b5, k5, by decide, fun p2 f2 => ?_⟩
    refine ⟨p1, p2, _, _, rfl, rfl, upd_old h1 f2, upd_same, small_le (by simp), fun p3 f3 => ?_⟩
    have s3 := (s1.upd' (o := .lst [V.bl b3, V.bl b4, V.bl b5]) f2).upd' (o := .lst ([V.bl b0, V.bl b1, V.bl b2] ++ [V.bl b3, V.bl b4, V.bl b5])) f3
    have hx3 := upd_old (o := .lst ([V.bl b0, V.bl b1, V.bl b2] ++ [V.bl b3, V.bl b4, V.bl b5])) (upd_old (o := .lst [V.bl b3, V.bl b4, V.bl b5]) hx1 f2) f3
    have h3 : upd (upd H1 p2 (.lst [V.bl b3, V.bl b4, V.bl b5])) p3 (.lst ([V.bl b0, V.bl b1, V.bl b2] ++ [V.bl b3, V.bl b4, V.bl b5])) p3 = some (.lst ([V.bl b0, V.bl b1, V.bl b2] ++ [V.bl b3, V.bl b4, V.bl b5])) := upd_same
    generalize upd (upd H1 p2 (.lst [V.bl b3, V.bl b4, V.bl b5])) p3 (.lst ([V.bl b0, V.bl b1, V.bl b2] ++ [V.bl b3, V.bl b4, V.bl b5])) = H3 at *
    refine ⟨D, hx3, he, b6, k6, D, hx3, he, b7, k7, by decide, fun p4 f4 => ⟨p3, p4, _, _, rfl, rfl, upd_old h3 f4, upd_same, small_le (by simp), fun p5 f5 => ?_⟩⟩
    exact q p5 _ ((s3.upd' f4).upd' f5) upd_same
def w8 (f : Int) : List Pr := [(0, 2), (7 + f, 1), (2, 0), (2, 7 + f)] ++ [(3, 4), (-1 - f, 3), (5, 3), (6, 3)]
theorem w8_no {f : Int} (hf : 0 ≤ f) : ∀ q ∈ w8 f, ¬ okW q.1 q.2 := fun q hq => by
  rintro ⟨s, k, h1, h2, h3, h4, h5, h6, h7⟩
  have fin : ∀ (a b : Nat), s = a → k = b → 64 < a ^ b → False := fun a b ea eb h => by
    rw [ea, eb] at h7
    omega
  simp only [w8, List.cons_append, List.nil_append, List.mem_cons, List.not_mem_nil, or_false] at hq
  rcases hq with rfl | rfl | rfl | rfl | rfl | rfl | rfl | rfl
  · simp only at h1; omega
  · simp only at h1; omega
  · simp only at h2; omega
  · simp only at h2; omega
  · simp only at h1 h2; exact fin 3 4 (by omega) (by omega) (by decide)
  · simp only at h1; omega
  · simp only at h1 h2; exact fin 5 3 (by omega) (by omega) (by decide)
  · simp only at h1 h2; exact fin 6 3 (by omega) (by omega) (by decide)
def sp_no_words (t : Adr) : Sp := fun vs H _ E => ∃ c f : Int, vs = [.int c, .int f] ∧ 0 ≤ f ∧ ∀ H', Same H H' → E (.ref t.C_NoWords) none H'
def MidW (H : Hp) (c f : Int) (L : List Pr) (σ : St) (H' : Hp) : Prop := ∃ (d : Addr) (as : List Addr), σ = [some (.int c), some (.int f), some (.ref d), none, none] ∧ Same H H' ∧ H' d = some (.lst (as.map V.ref)) ∧ TupsAt H' as L
seal L2.PE L2.PA L2.PS L2.PSs L2.PT in
theorem okE_m (T : Txt K mg t) : FnOk P w K mg base (CX1 P w) 9 t.f_m t.d_m ["cell", "far"] (sp_no_words t) := by
  have c0 : NoX (CX1 P w) := nox1
  refine T.F_m.okE sc_m (fun vs H Q E h => ?_) (fun cdv A outer s H vs Q E hr h => ?_)
  · obtain ⟨c, f, rfl, _⟩ := h
    rfl
  · obtain ⟨c, f, rfl, hf, qE⟩ := h
    refine ⟨_, (pss_cons (ps_set (i := 2) sc_m.nd (by rfl) (Or.inl rfl) (pe_lst (pa_cons (pe_tup (pa_cons pe_int (pa_cons pe_int pa_nil))) (pa_cons (pe_tup (pa_cons (pe_op op_add pe_int (pv 1)) (pa_cons pe_int pa_nil))) (pa_cons (pe_tup (pa_cons pe_int (pa_cons pe_int pa_nil))) (pa_cons (pe_tup (pa_cons pe_int (pa_cons (pe_op op_add pe_int (pv 1)) pa_nil))) pa_nil))))))
  (pss_cons (ps_set (i := 2) sc_m.nd (by rfl) (Or.inl rfl) (pe_op op_cat (pv 2) (pe_lst (pa_cons (pe_tup (pa_cons pe_int (pa_cons pe_int pa_nil))) (pa_cons (pe_tup (pa_cons (pe_op op_sub (pe_un un_neg pe_int) (pv 1)) (pa_cons pe_int pa_nil))) (pa_cons (pe_tup (pa_cons pe_int (pa_cons pe_int pa_nil))) (pa_cons (pe_tup (pa_cons pe_int (pa_cons pe_int pa_nil))) pa_nil)))))))
  (pss_cons (ps_set (i := 3) sc_m.nd (by rfl) (Or.inl rfl) (pe_ix ix_list (pv 2) (pe_op op_mod (pv 0) pe_int) (fun _ _ => rfl)))
  (pss_cons (ps_set (i := 4) sc_m.nd (by rfl) (Or.inl rfl) (pe_op op_mod (pe_op op_fdiv (pv 0) pe_int) pe_int))
  (pss_one (ps_if (pt_cmpR op_eq (pv 4) pe_int (nomark _))
  (pss_one (ps_expr (pe_callS (okE_t1 T) (hr.mono (by decide)) (by rfl) T.m_t1 T.F_t1.kp T.b_t1 (passesS_of passes_def) (pa_cons (pe_ix ix_tup (pv 3) pe_int (fun _ _ => rfl)) (pa_cons (pe_ix ix_tup (pv 3) pe_int (fun _ _ => rfl)) pa_nil)))))
  (pss_one (ps_if (pt_cmpR op_eq (pv 4) pe_int (nomark _))
  (pss_one (ps_expr (pe_callS (okE_h T) (hr.mono (by decide)) (by rfl) T.m_h T.F_h.kp T.b_h (passesS_of passes_def) (pa_cons (pe_ix ix_tup (pv 3) pe_int (fun _ _ => rfl)) (pa_cons (pe_ix ix_tup (pv 3) pe_int (fun _ _ => rfl)) pa_nil)))))
  (pss_one (ps_if (pt_cmpR op_eq (pv 4) pe_int (nomark _))
  (pss_one (ps_expr (pe_callS (okE_q1 T) (hr.mono (by decide)) (by rfl) T.m_q1 T.F_q1.kp T.b_q1 (passesS_of passes_def) (pa_cons (pe_ix ix_tup (pv 3) pe_int (fun _ _ => rfl)) (pa_cons (pe_ix ix_tup (pv 3) pe_int (fun _ _ => rfl)) (pa_cons (pe_un un_neg pe_int) pa_nil))))))
  (pss_one (ps_expr (pe_callS (okE_e T) (hr.mono (by decide)) (by rfl) T.m_e T.F_e.kp T.b_e (passesS_of passes_def) (pa_cons (pe_ix ix_tup (pv 3) pe_int (fun _ _ => rfl)) (pa_cons (pe_ix ix_tup (pv 3) pe_int (fun _ _ => rfl)) (pa_cons (pe_lst (pa_cons pe_int pa_nil)) pa_nil)))))))))))))))), ?_⟩
    refine seq_cut (MidW H c f [(0, 2), (7 + f, 1), (2, 0), (2, 7 + f)]) (fun N hN => ?_) (fun σ1 H1 m1 => ?_)
    · open_k with []
      refine ⟨by decide, fun p f1 => ⟨by decide, fun p1 f2 => ⟨by decide, fun p2 f3 => ⟨by decide, fun p3 f4 => ⟨by decide, fun p4 f5 => hN _ _ ⟨p4, [p, p1, p2, p3], rfl, ((((Same.new f1).upd' f2).upd' f3).upd' f4).upd' f5, upd_same, ?_⟩⟩⟩⟩⟩⟩
      exact .cons (upd_old (upd_old (upd_old (upd_old upd_same f2) f3) f4) f5) (.cons (upd_old (upd_old (upd_old upd_same f3) f4) f5) (.cons (upd_old (upd_old upd_same f4) f5) (.cons (upd_old upd_same f5) .nil)))
    obtain ⟨d, as, rfl, s1, hd, ht⟩ := m1
    refine seq_cut (MidW H c f (w8 f)) (fun N hN => ?_) (fun σ2 H2 m2 => ?_)
    · open_k with [rCat]
      refine ⟨by decide, fun p f1 => ⟨by decide, fun p1 f2 => ⟨by decide, fun p2 f3 => ⟨by decide, fun p3 f4 => ⟨by decide, fun p4 f5 => ?_⟩⟩⟩⟩⟩
      have s4 := ((((Same.new (o := .tup [V.int 3, V.int 4]) f1).upd' (o := .tup [V.int (-1 - f), V.int 3]) f2).upd' (o := .tup [V.int 5, V.int 3]) f3).upd' (o := .tup [V.int 6, V.int 3]) f4).upd' (o := .lst [V.ref p, V.ref p1, V.ref p2, V.ref p3]) f5
      refine ⟨_, s4 _ _ hd, _, upd_same, ?_, fun p5 f6 => hN _ _ ⟨p5, as ++ [p, p1, p2, p3], rfl, (s1.trans s4).upd' f6, by rw [upd_same]; simp, ?_⟩⟩
      · rw [List.length_map, ht.len]
        exact small_le (by simp)
      · refine ((ht.same s4).same (Same.new f6)).append ?_
        exact .cons (upd_old (upd_old (upd_old (upd_old (upd_old upd_same f2) f3) f4) f5) f6) (.cons (upd_old (upd_old (upd_old (upd_old upd_same f3) f4) f5) f6) (.cons (upd_old (upd_old (upd_old upd_same f4) f5) f6) (.cons (upd_old (upd_old upd_same f5) f6) .nil)))
    obtain ⟨d2, as2, rfl, s2, hd2, ht2⟩ := m2
    have r1 := Int.emod_nonneg c (show (8 : Int) ≠ 0 by decide)
    have r2 := Int.emod_lt_of_pos c (show (0 : Int) < 8 by decide)
    obtain ⟨k, hk⟩ : ∃ k : Nat, c % 8 = (k : Int) := ⟨(c % 8).toNat, by omega⟩
    have hk8 : k < (w8 f).length := by
      show k < 8
      omega
    obtain ⟨a, ha, hA⟩ := ht2.get' (i := k) (q := (w8 f)[k]) (by simp [hk8])
    have hno := w8_no hf _ (List.getElem_mem hk8)
    generalize (w8 f)[k] = q0 at *
    open_k with [rIxL, rIxT]
    refine ⟨by decide, _, SqL.of hd2, .ref a, by rw [hk]; exact atI_nat (by rw [List.getElem?_map, ha]; rfl), ⟨by decide, by decide⟩, by decide, rfl, ?_⟩
    have fin : ∀ H', Same H2 H' → E (.ref t.C_NoWords) none H' := fun H' s' => qE H' (s2.trans s')
    by_cases e0 : c / 8 % 4 = 0
    · rw [if_pos (decide_eq_true e0)]
      exact ⟨a, rfl, _, SqT.of hA, _, atI_nat (j := 0) rfl, a, rfl, _, SqT.of hA, _, atI_nat (j := 1) rfl, q0.1, q0.2, rfl, Or.inl ⟨hno, fin⟩⟩
    rw [if_neg (by simp [e0])]
    refine ⟨rfl, ?_⟩
    by_cases e1 : c / 8 % 4 = 1
    · rw [if_pos (decide_eq_true e1)]
      exact ⟨a, rfl, _, SqT.of hA, _, atI_nat (j := 0) rfl, a, rfl, _, SqT.of hA, _, atI_nat (j := 1) rfl, q0.1, q0.2, rfl, hno, fin⟩
    rw [if_neg (by simp [e1])]
    refine ⟨rfl, ?_⟩
    by_cases e2 : c / 8 % 4 = 2
    · rw [if_pos (decide_eq_true e2)]
      exact ⟨a, rfl, _, SqT.of hA, _, atI_nat (j := 0) rfl, a, rfl, _, SqT.of hA, _, atI_nat (j := 1) rfl, q0.1, q0.2, _, rfl, Or.inl ⟨hno, fin⟩⟩
    rw [if_neg (by simp [e2])]
    exact ⟨a, rfl, _, SqT.of hA, _, atI_nat (j := 0) rfl, a, rfl, _, SqT.of hA, _, atI_nat (j := 1) rfl, by decide, fun p fp => ⟨q0.1, q0.2, p, [0], rfl, SqL.of upd_same, by decide, Or.inl ⟨hno, fun H' s' => fin H' ((Same.new fp).trans s')⟩⟩⟩
end
end Rb
set_option Elab.async false
set_option linter.all false
set_option maxRecDepth 100000
set_option maxHeartbeats 4000000
namespace Rb
open PySem L2
section
variable {CX : CXT} {P : Program} {w : World} {K : PySem.W.Frag} {mg : Str → Option Value} {base : Heap} {t : Adr}
def sp_no_place (t : Adr) : Sp := fun vs H _ E => ∃ (x l : Addr) (as : List Addr) (ps : List Pr) (c f : Int), vs = [.ref x, .int c, .int f] ∧ NetAt t.C_Net H x l as 3 ps ∧ 0 ≤ f ∧ ∀ H', Same H H' → E (.ref t.C_NoPlace) none H'
theorem okE_n (T : Txt K mg t) : FnOk P w K mg base (CX1 P w) 9 t.f_n t.d_n ["net", "cell", "far"] (sp_no_place t) := by
  have c0 : NoX (CX1 P w) := nox1
  refine T.F_n.okE sc_n (fun vs H Q E h => ?_) (fun cdv A outer s H vs Q E hr h => ?_)
  · obtain ⟨x, l, as, ps, c, f, rfl, _⟩ := h
    rfl
  · obtain ⟨x, l, as, ps, c, f, rfl, N, hf, qE⟩ := h
    obtain ⟨dx, ex⟩ := N.ob
    refine ⟨_, (pss_cons (ps_set (i := 3) sc_n.nd (by rfl) (Or.inl rfl) (pe_ix ix_list (pe_lst (pa_cons (pe_op op_sub (pe_un un_neg pe_int) (pv 2)) (pa_cons pe_int (pa_cons (pe_op op_add pe_int (pv 2)) pa_nil)))) (pe_op op_mod (pv 1) pe_int) (fun _ _ => rfl)))
  (pss_cons (ps_set (i := 4) sc_n.nd (by rfl) (Or.inl rfl) (pe_op op_mod (pe_op op_fdiv (pv 1) pe_int) pe_int))
  (pss_one (ps_if (pt_cmpR op_eq (pv 4) pe_int (nomark _))
  (pss_one (ps_expr (pe_methS (pv 0) T.cl_Net T.M_j1 (okE_j1 T) (hr.mono (by decide)) T.b_j1 (passesS_of passes_def) (pa_cons (pv 3) pa_nil))))
  (pss_one (ps_if (pt_cmpR op_eq (pv 4) pe_int (nomark _))
  (pss_one (ps_expr (pe_callS (okE_k1 T) (hr.mono (by decide)) (by rfl) T.m_k1 T.F_k1.kp T.b_k1 (passesS_of passes_def) (pa_cons (pv 0) (pa_cons (pv 3) pa_nil)))))
  (pss_one (ps_if (pt_cmpR op_eq (pv 4) pe_int (nomark _))
  (pss_one (ps_expr (pe_callS (okE_u1 T) (hr.mono (by decide)) (by rfl) T.m_u1 T.F_u1.kp T.b_u1 (passesS_of passes_def) (pa_cons (pv 0) (pa_cons (pv 3) (pa_cons (pe_un un_neg pe_int) pa_nil))))))
  (pss_one (ps_expr (pe_callS (okE_a1 T) (hr.mono (by decide)) (by rfl) T.m_a1 T.F_a1.kp T.b_a1 (passesS_of passes_def) (pa_cons (pv 0) (pa_cons (pv 3) (pa_cons (pe_lst (pa_cons pe_non pa_nil)) pa_nil)))))))))))))), ?_⟩
    open_k with [rIxL]
    refine ⟨by decide, fun d fd => ?_⟩
    have s1 : Same H (upd H d (.lst [V.int (-1 - f), V.int 3, V.int (3 + f)])) := Same.new fd
    have hd : upd H d (.lst [V.int (-1 - f), V.int 3, V.int (3 + f)]) d = some (.lst [V.int (-1 - f), V.int 3, V.int (3 + f)]) := upd_same
    generalize upd H d (.lst [V.int (-1 - f), V.int 3, V.int (3 + f)]) = H1 at *
    have r1 := Int.emod_nonneg c (show (3 : Int) ≠ 0 by decide)
    have r2 := Int.emod_lt_of_pos c (show (0 : Int) < 3 by decide)
    obtain ⟨v, hv, hw⟩ : ∃ v : Int, atI [V.int (-1 - f), V.int 3, V.int (3 + f)] (c % 3) = some (.int v) ∧ within v 3 = false := by
      have h3 : c % 3 = 0 ∨ c % 3 = 1 ∨ c % 3 = 2 := by omega
      have nw : ∀ v : Int, ¬ (0 ≤ v ∧ v < 3) → within v 3 = false := fun v h => by
        cases hw : within v 3
        · rfl
        · exact absurd (within_iff.mp hw) h
      rcases h3 with h | h | h <;> rw [h]
      · exact ⟨_, atI_nat (j := 0) rfl, nw _ (by omega)⟩
      · exact ⟨_, atI_nat (j := 1) rfl, nw _ (by omega)⟩
      · exact ⟨_, atI_nat (j := 2) rfl, nw _ (by omega)⟩
    have N1 := N.same s1
    have fin : ∀ H', Same H1 H' → E (.ref t.C_NoPlace) none H' := fun H' s' => qE H' (s1.trans s')
    refine ⟨by decide, _, SqL.of hd, _, hv, ⟨by decide, by decide⟩, by decide, rfl, ?_⟩
    by_cases e0 : c / 3 % 4 = 0
    · rw [if_pos (decide_eq_true e0)]
      exact ⟨_, _, s1 _ _ ex, nfl_no _ _ (by decide +kernel) (by decide +kernel), x, l, as, 3, ps, v, rfl, N1, hw, fin _ (Same.refl _)⟩
    rw [if_neg (by simp [e0])]
    refine ⟨rfl, ?_⟩
    by_cases e1 : c / 3 % 4 = 1
    · rw [if_pos (decide_eq_true e1)]
      exact ⟨x, l, as, 3, ps, v, rfl, N1, hw, fin _ (Same.refl _)⟩
    rw [if_neg (by simp [e1])]
    refine ⟨rfl, ?_⟩
    by_cases e2 : c / 3 % 4 = 2
    · rw [if_pos (decide_eq_true e2)]
      exact ⟨x, l, as, 3, ps, v, _, rfl, N1, Or.inl ⟨hw, fin⟩⟩
    rw [if_neg (by simp [e2])]
    exact ⟨by decide, fun p fp => ⟨x, l, p, as, 3, ps, v, [], rfl, N1.same (Same.new fp), Or.inl ⟨hw, fun H' s' => fin H' ((Same.new fp).trans s')⟩⟩⟩
end
end Rb
set_option Elab.async false
set_option linter.all false
set_option maxRecDepth 100000
set_option maxHeartbeats 4000000
namespace Rb
open PySem L2
section
variable {CX : CXT} {P : Program} {w : World} {K : PySem.W.Frag} {mg : Str → Option Value} {base : Heap} {t : Adr}
inductive LsAt (H : Hp) : List Addr → List (List V) → Prop
  | nil : LsAt H [] []
  | cons {a : Addr} {v : List V} {as : List Addr} {vs : List (List V)} : H a = some (.lst v) → LsAt H as vs → LsAt H (a :: as) (v :: vs)
theorem LsAt.same {H H' : Hp} (s : Same H H') : ∀ {as : List Addr} {vs : List (List V)}, LsAt H as vs → LsAt H' as vs
  | _, _, .nil => .nil
  | _, _, .cons h t => .cons (s _ _ h) (t.same s)
theorem LsAt.len {H : Hp} : ∀ {as : List Addr} {vs : List (List V)}, LsAt H as vs → as.length = vs.length
  | _, _, .nil => rfl
  | _, _, .cons _ t => by rw [List.length_cons, List.length_cons, t.len]
theorem LsAt.append {H : Hp} : ∀ {as bs : List Addr} {vs us : List (List V)}, LsAt H as vs → LsAt H bs us → LsAt H (as ++ bs) (vs ++ us)
  | _, _, _, _, .nil, s => s
  | _, _, _, _, .cons h t, s => .cons h (t.append s)
theorem LsAt.get' {H : Hp} : ∀ {as : List Addr} {vs : List (List V)} {i : Nat} {q : List V}, LsAt H as vs → vs[i]? = some q → ∃ a, as[i]? = some a ∧ H a = some (.lst q)
  | _, _, 0, a, .cons h t, e => by
    have e : some _ = some a := e
    cases e
    exact ⟨_, rfl, h⟩
  | _, _, i + 1, a, .cons h t, e => t.get' (i := i) (by simpa using e)
  | _, _, _, _, .nil, e => by simp at e
def p6 : List Pr := [(0, 1), (0, 2), (1, 2), (1, 0), (2, 0), (2, 1)]
def t5 : List (List V) := [[], [.non, .int 2, .int 4, .int 0], [.int 0, .int 2, .int 4], [.non, .non, .int 4], [.non, .int 4, .int 2]]
def t10 (f : Int) : List (List V) := t5 ++ [[.non, .int 2, .int (f + 6)], [.non, .int 2, .int 5], [.non, .int 2], [.non, .int 3, .int (-2)], [.non, .int (-4), .int 4]]
theorem no_exit6 {tv : List V} (p : Nat) (hp : p = 1 ∨ p = 2) (h1 : tv.length = 3) (h2 : tv[0]? = some .non) (h3 : tv.all flatV = true) (h : inV (tv.getD p .non) (nats (exitsOf p6 p)) = false) : NoTreeP 3 0 p6 tv := by
  refine .exit h1 h2 h3 (List.all_eq_false.mpr ⟨p, others_mem.mpr (by omega), ?_⟩)
  rw [h]
  decide
theorem t10_no {f : Int} (hf : 0 ≤ f) : ∀ tv ∈ t10 f, NoTreeP 3 0 p6 tv := fun tv h => by
  simp only [t10, t5, List.cons_append, List.nil_append, List.mem_cons, List.not_mem_nil, or_false] at h
  rcases h with rfl | rfl | rfl | rfl | rfl | rfl | rfl | rfl | rfl | rfl
  · exact .len (by decide)
  · exact .len (by simp)
  · exact .goal (v := .int 0) rfl rfl (fun z => by cases z)
  · exact no_exit6 1 (by omega) rfl rfl rfl (by decide +kernel)
  · exact no_exit6 1 (by omega) rfl rfl rfl (by decide +kernel)
  · refine no_exit6 2 (by omega) rfl rfl rfl ?_
    have e : exitsOf p6 (2 : Nat) = [4, 5] := by decide +kernel
    rw [e]
    show inV (.int (f + 6)) (nats [4, 5]) = false
    unfold inV nats
    rw [List.any_map, List.any_eq_false]
    intro z hz
    simp only [List.mem_cons, List.not_mem_nil, or_false] at hz
    rcases hz with rfl | rfl <;> simp [eqV] <;> omega
  · have e : [V.non, V.int 2, V.int 5] = treeV 3 0 (fun p => if p = 1 then 2 else 5) := rfl
    rw [e]
    exact .round (i := 1) (by decide +kernel) (by decide) (by decide +kernel)
  · exact .len (by simp)
  · exact no_exit6 2 (by omega) rfl rfl rfl (by decide +kernel)
  · exact no_exit6 1 (by omega) rfl rfl rfl (by decide +kernel)
def sp_no_tree (t : Adr) : Sp := fun vs H _ E => ∃ (x l : Addr) (as : List Addr) (c f : Int), vs = [.ref x, .int c, .int f] ∧ NetAt t.C_Net H x l as 3 p6 ∧ 0 ≤ f ∧ ∀ H', Same H H' → E (.ref t.C_NoTree) none H'
def MidT (H : Hp) (x : Addr) (c f : Int) (L : List (List V)) (σ : St) (H' : Hp) : Prop := ∃ (d : Addr) (as : List Addr), σ = [some (.ref x), some (.int c), some (.int f), some (.ref d)] ∧ Same H H' ∧ H' d = some (.lst (as.map V.ref)) ∧ LsAt H' as L
seal L2.PE L2.PA L2.PS L2.PSs L2.PT in
theorem okE_s (T : Txt K mg t) : FnOk P w K mg base (CX1 P w) 9 t.f_s t.d_s ["net", "cell", "far"] (sp_no_tree t) := by
  have c0 : NoX (CX1 P w) := nox1
  refine T.F_s.okE sc_s (fun vs H Q E h => ?_) (fun cdv A outer s H vs Q E hr h => ?_)
  · obtain ⟨x, l, as, c, f, rfl, _⟩ := h
    rfl
  · obtain ⟨x, l, as, c, f, rfl, N, hf, qE⟩ := h
    refine ⟨_, (pss_cons (ps_set (i := 3) sc_s.nd (by rfl) (Or.inl rfl) (pe_lst (pa_cons (pe_lst pa_nil) (pa_cons (pe_lst (pa_cons pe_non (pa_cons pe_int (pa_cons pe_int (pa_cons pe_int pa_nil))))) (pa_cons (pe_lst (pa_cons pe_int (pa_cons pe_int (pa_cons pe_int pa_nil)))) (pa_cons (pe_lst (pa_cons pe_non (pa_cons pe_non (pa_cons pe_int pa_nil)))) (pa_cons (pe_lst (pa_cons pe_non (pa_cons pe_int (pa_cons pe_int pa_nil)))) pa_nil)))))))
  (pss_cons (ps_set (i := 3) sc_s.nd (by rfl) (Or.inl rfl) (pe_op op_cat (pv 3) (pe_lst (pa_cons (pe_lst (pa_cons pe_non (pa_cons pe_int (pa_cons (pe_op op_add (pv 2) pe_int) pa_nil)))) (pa_cons (pe_lst (pa_cons pe_non (pa_cons pe_int (pa_cons pe_int pa_nil)))) (pa_cons (pe_lst (pa_cons pe_non (pa_cons pe_int pa_nil))) (pa_cons (pe_lst (pa_cons pe_non (pa_cons pe_int (pa_cons (pe_un un_neg pe_int) pa_nil)))) (pa_cons (pe_lst (pa_cons pe_non (pa_cons (pe_un un_neg pe_int) (pa_cons pe_int pa_nil)))) pa_nil))))))))
  (pss_one (ps_expr (pe_callS (okE_a1 T) (hr.mono (by decide)) (by rfl) T.m_a1 T.F_a1.kp T.b_a1 (passesS_of passes_def) (pa_cons (pv 0) (pa_cons pe_int (pa_cons (pe_ix ix_list (pv 3) (pe_op op_mod (pv 1) pe_int) (fun _ _ => rfl)) pa_nil)))))))), ?_⟩
    refine seq_cut (MidT H x c f t5) (fun N' hN => ?_) (fun σ1 H1 m1 => ?_)
    · open_k with []
      refine ⟨by decide, fun p f1 => ⟨by decide, fun p1 f2 => ⟨by decide, fun p2 f3 => ⟨by decide, fun p3 f4 => ⟨by decide, fun p4 f5 => ⟨by decide, fun p5 f6 => hN _ _ ⟨p5, [p, p1, p2, p3, p4], rfl, (((((Same.new f1).upd' f2).upd' f3).upd' f4).upd' f5).upd' f6, upd_same, ?_⟩⟩⟩⟩⟩⟩⟩
      exact .cons (upd_old (upd_old (upd_old (upd_old (upd_old upd_same f2) f3) f4) f5) f6) (.cons (upd_old (upd_old (upd_old (upd_old upd_same f3) f4) f5) f6) (.cons (upd_old (upd_old (upd_old upd_same f4) f5) f6) (.cons (upd_old (upd_old upd_same f5) f6) (.cons (upd_old upd_same f6) .nil))))
    obtain ⟨d, as1, rfl, s1, hd, ht⟩ := m1
    refine seq_cut (MidT H x c f (t10 f)) (fun N' hN => ?_) (fun σ2 H2 m2 => ?_)
    · open_k with [rCat]
      refine ⟨by decide, fun p f1 => ⟨by decide, fun p1 f2 => ⟨by decide, fun p2 f3 => ⟨by decide, fun p3 f4 => ⟨by decide, fun p4 f5 => ⟨by decide, fun p5 f6 => ?_⟩⟩⟩⟩⟩⟩
      have s4 := (((((Same.new (o := .lst [V.non, V.int 2, V.int (f + 6)]) f1).upd' (o := .lst [V.non, V.int 2, V.int 5]) f2).upd' (o := .lst [V.non, V.int 2]) f3).upd' (o := .lst [V.non, V.int 3, V.int (-2)]) f4).upd' (o := .lst [V.non, V.int (-4), V.int 4]) f5).upd' (o := .lst [V.ref p, V.ref p1, V.ref p2, V.ref p3, V.ref p4]) f6
      refine ⟨_, s4 _ _ hd, _, upd_same, ?_, fun p6' f7 => hN _ _ ⟨p6', as1 ++ [p, p1, p2, p3, p4], rfl, (s1.trans s4).upd' f7, by rw [upd_same]; simp, ?_⟩⟩
      · rw [List.length_map, ht.len]
        exact small_le (by simp [t5])
      · refine ((ht.same s4).same (Same.new f7)).append ?_
        exact .cons (upd_old (upd_old (upd_old (upd_old (upd_old (upd_old upd_same f2) f3) f4) f5) f6) f7) (.cons (upd_old (upd_old (upd_old (upd_old (upd_old upd_same f3) f4) f5) f6) f7) (.cons (upd_old (upd_old (upd_old (upd_old upd_same f4) f5) f6) f7) (.cons (upd_old (upd_old (upd_old upd_same f5) f6) f7) (.cons (upd_old (upd_old upd_same f6) f7) .nil))))
    obtain ⟨d2, as2, rfl, s2, hd2, ht2⟩ := m2
    have r1 := Int.emod_nonneg c (show (10 : Int) ≠ 0 by decide)
    have r2 := Int.emod_lt_of_pos c (show (0 : Int) < 10 by decide)
    obtain ⟨k, hk⟩ : ∃ k : Nat, c % 10 = (k : Int) := ⟨(c % 10).toNat, by omega⟩
    have hk8 : k < (t10 f).length := by
      show k < 10
      omega
    obtain ⟨a, ha, hA⟩ := ht2.get' (i := k) (q := (t10 f)[k]) (by simp [hk8])
    have hno := t10_no hf _ (List.getElem_mem hk8)
    generalize (t10 f)[k] = tv at *
    open_k with [rIxL]
    exact ⟨by decide, _, SqL.of hd2, .ref a, by rw [hk]; exact atI_nat (by rw [List.getElem?_map, ha]; rfl), x, l, a, as, 3, p6, 0, tv, rfl, N.same s2, Or.inr ⟨0, rfl, by decide, SqL.of hA, hno, fun H' s' => qE H' (s2.trans s')⟩⟩
end
end Rb
set_option Elab.async false
set_option linter.all false
set_option maxRecDepth 100000
set_option maxHeartbeats 4000000
namespace Rb
open PySem L2
section
variable {CX : CXT} {P : Program} {w : World} {K : PySem.W.Frag} {mg : Str → Option Value} {base : Heap} {t : Adr}
theorem RingP.facts {n : Nat} {ps : List Pr} {z : List Int} (h : RingP n ps z) : z.length = ps.length ∧ z.head? = some 0 ∧ (∀ y ∈ z, 0 ≤ y ∧ y < (ps.length : Nat)) ∧ z.Nodup := by
  obtain ⟨rn, rfl, hp, h0, _⟩ := h
  refine ⟨by rw [List.length_map, hp.length_eq, List.length_range], by rw [List.head?_map, h0]; rfl, fun y hy => ?_, ?_⟩
  · obtain ⟨k, hk, rfl⟩ := List.mem_map.mp hy
    have := List.mem_range.mp (hp.subset hk)
    show (0 : Int) ≤ (k : Int) ∧ (k : Int) < _
    omega
  · exact List.pairwise_map.mpr ((hp.nodup_iff.mpr List.nodup_range).imp fun h z => h (Int.ofNat.inj z))
def r5 : List (List Int) := [[], [0], [0, 2, 4, 1, 5], [0, 2, 4, 1, 5, 5], [2, 4, 1, 5, 3, 0]]
def r7 (f : Int) : List (List Int) := r5 ++ [[0, 2, 4, 1, 5, 6 + f], [0, 1, 2, 3, 4, 5]]
def r9 (f : Int) : List (List Int) := r7 f ++ [[0, 2, 4, 1, 5, -3], [0, 2, 4, 1, 5, -1 - f]]
theorem r9_no {f : Int} (hf : 0 ≤ f) : ∀ z ∈ r9 f, ¬ RingP 3 p6 z := fun z h hR => by
  obtain ⟨h1, h2, h3, h4⟩ := hR.facts
  simp only [r9, r7, r5, List.cons_append, List.nil_append, List.mem_cons, List.not_mem_nil, or_false] at h
  rcases h with rfl | rfl | rfl | rfl | rfl | rfl | rfl | rfl | rfl
  · exact absurd h1 (by decide)
  · exact absurd h1 (by decide)
  · exact absurd h1 (by decide)
  · exact absurd h4 (by decide)
  · exact absurd h2 (by decide)
  · have := (h3 (6 + f) (by simp)).2
    have e : p6.length = 6 := rfl
    rw [e] at this
    omega
  · obtain ⟨rn, e, _, _, h5⟩ := hR
    have er : [0, 1, 2, 3, 4, 5] = rn := (List.map_inj_right (f := fun (k : Nat) => (k : Int)) (fun a b z => Int.ofNat.inj z)).mp e
    rw [← er] at h5
    exact absurd h5 (by decide +kernel)
  · have := (h3 (-3) (by simp)).1
    omega
  · have := (h3 (-1 - f) (by simp)).1
    omega
def q5 : List (List Int) := [[], [0, 0, 1], [0, 0, 1, 2], [0, 0, 1, 1], [0, 0, 1, 1, 0]]
def q7 (f : Int) : List (List Int) := q5 ++ [[0, 0, 1, -1 - f], [1, 1, 0, 1]]
theorem q7_no {f : Int} (hf : 0 ≤ f) : ∀ z ∈ q7 f, z.all (fun y => within y 2) = true → ¬ RingP 2 w22 (wordsZ z) := fun z h ha hR => by
  obtain ⟨h1, h2, _, _⟩ := hR.facts
  simp only [q7, q5, List.cons_append, List.nil_append, List.mem_cons, List.not_mem_nil, or_false] at h
  rcases h with rfl | rfl | rfl | rfl | rfl | rfl | rfl
  · exact absurd h1 (by decide +kernel)
  · exact absurd h1 (by decide +kernel)
  · exact absurd ha (by decide +kernel)
  · exact absurd h2 (by decide +kernel)
  · exact absurd h1 (by decide +kernel)
  · have := (within_iff.mp (List.all_eq_true.mp ha (-1 - f) (by simp))).1
    omega
  · exact absurd h2 (by decide +kernel)
def sp_no_ring (t : Adr) : Sp := fun vs H _ E => ∃ (x l : Addr) (as : List Addr) (c f : Int), vs = [.ref x, .int c, .int f] ∧ NetAt t.C_Net H x l as 3 p6 ∧ 0 ≤ f ∧ ∀ H', Same H H' → E (.ref t.C_NoRing) none H'
def MidR (H : Hp) (x : Addr) (c f : Int) (Z : List (List Int)) (σ : St) (H' : Hp) : Prop := ∃ (d : Addr) (as : List Addr), σ = [some (.ref x), some (.int c), some (.int f), some (.ref d), none] ∧ Same H H' ∧ H' d = some (.lst (as.map V.ref)) ∧ LsAt H' as (Z.map fun z => z.map V.int)
theorem pick {H : Hp} {as : List Addr} {Z : List (List Int)} (ht : LsAt H as (Z.map fun z => z.map V.int)) {m : Nat} (hm : Z.length = m) (h0 : 0 < m) (c : Int) : ∃ (a : Addr) (z : List Int), atI (as.map V.ref) (c % (m : Int)) = some (.ref a) ∧ H a = some (.lst (z.map V.int)) ∧ z ∈ Z := by
  have r1 := Int.emod_nonneg c (show (m : Int) ≠ 0 by omega)
  have r2 := Int.emod_lt_of_pos c (show (0 : Int) < (m : Int) by omega)
  obtain ⟨k, hk⟩ : ∃ k : Nat, c % (m : Int) = (k : Int) := ⟨(c % (m : Int)).toNat, by omega⟩
  have hkl : k < Z.length := by omega
  obtain ⟨a, ha, hA⟩ := ht.get' (i := k) (q := Z[k].map V.int) (by rw [List.getElem?_map, List.getElem?_eq_getElem hkl]; rfl)
  exact ⟨a, Z[k], by rw [hk]; exact atI_nat (by rw [List.getElem?_map, ha]; rfl), hA, List.getElem_mem hkl⟩
seal L2.PE L2.PA L2.PS L2.PSs L2.PT in
theorem okE_t (T : Txt K mg t) : FnOk P w K mg base (CX1 P w) 9 t.f_t t.d_t ["net", "cell", "far"] (sp_no_ring t) := by
  have c0 : NoX (CX1 P w) := nox1
  refine T.F_t.okE sc_t (fun vs H Q E h => ?_) (fun cdv A outer s H vs Q E hr h => ?_)
  · obtain ⟨x, l, as, c, f, rfl, _⟩ := h
    rfl
  · obtain ⟨x, l, as, c, f, rfl, N, hf, qE⟩ := h
    refine ⟨_, (pss_cons (ps_set (i := 3) sc_t.nd (by rfl) (Or.inl rfl) (pe_lst (pa_cons (pe_lst pa_nil) (pa_cons (pe_lst (pa_cons pe_int pa_nil)) (pa_cons (pe_lst (pa_cons pe_int (pa_cons pe_int (pa_cons pe_int (pa_cons pe_int (pa_cons pe_int pa_nil)))))) (pa_cons (pe_lst (pa_cons pe_int (pa_cons pe_int (pa_cons pe_int (pa_cons pe_int (pa_cons pe_int (pa_cons pe_int pa_nil))))))) (pa_cons (pe_lst (pa_cons pe_int (pa_cons pe_int (pa_cons pe_int (pa_cons pe_int (pa_cons pe_int (pa_cons pe_int pa_nil))))))) pa_nil)))))))
  (pss_cons (ps_set (i := 3) sc_t.nd (by rfl) (Or.inl rfl) (pe_op op_cat (pv 3) (pe_lst (pa_cons (pe_lst (pa_cons pe_int (pa_cons pe_int (pa_cons pe_int (pa_cons pe_int (pa_cons pe_int (pa_cons (pe_op op_add pe_int (pv 2)) pa_nil))))))) (pa_cons (pe_lst (pa_cons pe_int (pa_cons pe_int (pa_cons pe_int (pa_cons pe_int (pa_cons pe_int (pa_cons pe_int pa_nil))))))) pa_nil)))))
  (pss_cons (ps_set (i := 3) sc_t.nd (by rfl) (Or.inl rfl) (pe_op op_cat (pv 3) (pe_lst (pa_cons (pe_lst (pa_cons pe_int (pa_cons pe_int (pa_cons pe_int (pa_cons pe_int (pa_cons pe_int (pa_cons (pe_un un_neg pe_int) pa_nil))))))) (pa_cons (pe_lst (pa_cons pe_int (pa_cons pe_int (pa_cons pe_int (pa_cons pe_int (pa_cons pe_int (pa_cons (pe_op op_sub (pe_un un_neg pe_int) (pv 2)) pa_nil))))))) pa_nil)))))
  (pss_one (ps_if (pt_cmpR op_eq (pe_op op_mod (pv 1) pe_int) pe_int (nomark _))
  (pss_one (ps_expr (pe_callS (okE_d1 T) (hr.mono (by decide)) (by rfl) T.m_d1 T.F_d1.kp T.b_d1 (passesS_of passes_def) (pa_cons (pv 0) (pa_cons (pe_ix ix_list (pv 3) (pe_op op_mod (pe_op op_fdiv (pv 1) pe_int) pe_int) (fun _ _ => rfl)) pa_nil)))))
  (pss_cons (ps_set (i := 4) sc_t.nd (by rfl) (Or.inl rfl) (pe_lst (pa_cons (pe_lst pa_nil) (pa_cons (pe_lst (pa_cons pe_int (pa_cons pe_int (pa_cons pe_int pa_nil)))) (pa_cons (pe_lst (pa_cons pe_int (pa_cons pe_int (pa_cons pe_int (pa_cons pe_int pa_nil))))) (pa_cons (pe_lst (pa_cons pe_int (pa_cons pe_int (pa_cons pe_int (pa_cons pe_int pa_nil))))) (pa_cons (pe_lst (pa_cons pe_int (pa_cons pe_int (pa_cons pe_int (pa_cons pe_int (pa_cons pe_int pa_nil)))))) pa_nil)))))))
  (pss_cons (ps_set (i := 4) sc_t.nd (by rfl) (Or.inl rfl) (pe_op op_cat (pv 4) (pe_lst (pa_cons (pe_lst (pa_cons pe_int (pa_cons pe_int (pa_cons pe_int (pa_cons (pe_op op_sub (pe_un un_neg pe_int) (pv 2)) pa_nil))))) (pa_cons (pe_lst (pa_cons pe_int (pa_cons pe_int (pa_cons pe_int (pa_cons pe_int pa_nil))))) pa_nil)))))
  (pss_one (ps_expr (pe_callS (okE_e T) (hr.mono (by decide)) (by rfl) T.m_e T.F_e.kp T.b_e (passesS_of passes_def) (pa_cons pe_int (pa_cons pe_int (pa_cons (pe_ix ix_list (pv 4) (pe_op op_mod (pe_op op_fdiv (pv 1) pe_int) pe_int) (fun _ _ => rfl)) pa_nil))))))))))))), ?_⟩
    refine seq_cut (MidR H x c f r5) (fun N' hN => ?_) (fun σ1 H1 m1 => ?_)
    · open_k with []
      refine ⟨by decide, fun p0 f0 => ⟨by decide, fun p1 f1 => ⟨by decide, fun p2 f2 => ⟨by decide, fun p3 f3 => ⟨by decide, fun p4 f4 => ⟨by decide, fun pl fl => hN _ _ ⟨pl, [p0, p1, p2, p3, p4], rfl, ((((((Same.new f0).upd' f1).upd' f2).upd' f3).upd' f4).upd' fl), upd_same, ?_⟩⟩⟩⟩⟩⟩⟩
      exact .cons (upd_old (upd_old (upd_old (upd_old (upd_old upd_same f1) f2) f3) f4) fl) (.cons (upd_old (upd_old (upd_old (upd_old upd_same f2) f3) f4) fl) (.cons (upd_old (upd_old (upd_old upd_same f3) f4) fl) (.cons (upd_old (upd_old upd_same f4) fl) (.cons (upd_old upd_same fl) .nil))))
    obtain ⟨d, as1, rfl, s1, hd, ht⟩ := m1
    refine seq_cut (MidR H x c f (r7 f)) (fun N' hN => ?_) (fun σ2 H2 m2 => ?_)
    · open_k with [rCat]
      refine ⟨by decide, fun p0 f0 => ⟨by decide, fun p1 f1 => ⟨by decide, fun pl fl => ?_⟩⟩⟩
      have s4 := (((Same.new (o := (.lst [V.int 0, V.int 2, V.int 4, V.int 1, V.int 5, V.int (6 + f)])) f0).upd' (o := (.lst [V.int 0, V.int 1, V.int 2, V.int 3, V.int 4, V.int 5])) f1).upd' (o := (.lst [V.ref p0, V.ref p1])) fl)
      refine ⟨_, s4 _ _ hd, _, upd_same, ?_, fun pn fn => hN _ _ ⟨pn, as1 ++ [p0, p1], rfl, (s1.trans s4).upd' fn, by rw [upd_same]; simp, ?_⟩⟩
      · rw [List.length_map, ht.len]
        exact small_le (by simp [r5])
      · refine ((ht.same s4).same (Same.new fn)).append ?_
        exact .cons (upd_old (upd_old (upd_old upd_same f1) fl) fn) (.cons (upd_old (upd_old upd_same fl) fn) .nil)
    obtain ⟨d, as1, rfl, s1, hd, ht⟩ := m2
    refine seq_cut (MidR H x c f (r9 f)) (fun N' hN => ?_) (fun σ3 H3 m3 => ?_)
    · open_k with [rCat]
      refine ⟨by decide, fun p0 f0 => ⟨by decide, fun p1 f1 => ⟨by decide, fun pl fl => ?_⟩⟩⟩
      have s4 := (((Same.new (o := (.lst [V.int 0, V.int 2, V.int 4, V.int 1, V.int 5, V.int (-3)])) f0).upd' (o := (.lst [V.int 0, V.int 2, V.int 4, V.int 1, V.int 5, V.int (-1 - f)])) f1).upd' (o := (.lst [V.ref p0, V.ref p1])) fl)
      refine ⟨_, s4 _ _ hd, _, upd_same, ?_, fun pn fn => hN _ _ ⟨pn, as1 ++ [p0, p1], rfl, (s1.trans s4).upd' fn, by rw [upd_same]; simp, ?_⟩⟩
      · rw [List.length_map, ht.len]
        exact small_le (by simp [r7, r5])
      · refine ((ht.same s4).same (Same.new fn)).append ?_
        exact .cons (upd_old (upd_old (upd_old upd_same f1) fl) fn) (.cons (upd_old (upd_old upd_same fl) fn) .nil)
    obtain ⟨d, as1, rfl, s1, hd, ht⟩ := m3
    open_k with [rIxL]
    refine ⟨by decide, rfl, ?_⟩
    by_cases e0 : c % 2 = 0
    · rw [if_pos (decide_eq_true e0)]
      obtain ⟨a, z, ha, hA, hz⟩ := pick ht (m := 9) rfl (by decide) (c / 2)
      have hno := r9_no hf z hz
      have lz : z.length < 64 := by
        simp only [r9, r7, r5, List.cons_append, List.nil_append, List.mem_cons, List.not_mem_nil, or_false] at hz
        rcases hz with rfl | rfl | rfl | rfl | rfl | rfl | rfl | rfl | rfl <;> simp
      exact ⟨⟨by decide, by decide⟩, by decide, _, SqL.of hd, _, ha, x, l, a, as, 3, p6, z, rfl, N.same s1, hA, lz, hno, fun H' s' => qE H' (s1.trans s')⟩
    rw [if_neg (by simp [e0])]
    refine ⟨by decide, fun p0 f0 => ⟨by decide, fun p1 f1 => ⟨by decide, fun p2 f2 => ⟨by decide, fun p3 f3 => ⟨by decide, fun p4 f4 => ⟨by decide, fun pl fl => ?_⟩⟩⟩⟩⟩⟩
    have s4 : Same H3 (upd (upd (upd (upd (upd (upd H3 p0 (.lst [])) p1 (.lst [V.int 0, V.int 0, V.int 1])) p2 (.lst [V.int 0, V.int 0, V.int 1, V.int 2])) p3 (.lst [V.int 0, V.int 0, V.int 1, V.int 1])) p4 (.lst [V.int 0, V.int 0, V.int 1, V.int 1, V.int 0])) pl (.lst [V.ref p0, V.ref p1, V.ref p2, V.ref p3, V.ref p4])) := (((((Same.new f0).upd' f1).upd' f2).upd' f3).upd' f4).upd' fl
    have hd4 : (upd (upd (upd (upd (upd (upd H3 p0 (.lst [])) p1 (.lst [V.int 0, V.int 0, V.int 1])) p2 (.lst [V.int 0, V.int 0, V.int 1, V.int 2])) p3 (.lst [V.int 0, V.int 0, V.int 1, V.int 1])) p4 (.lst [V.int 0, V.int 0, V.int 1, V.int 1, V.int 0])) pl (.lst [V.ref p0, V.ref p1, V.ref p2, V.ref p3, V.ref p4])) pl = some (.lst [V.ref p0, V.ref p1, V.ref p2, V.ref p3, V.ref p4]) := upd_same
    have ht4 : LsAt (upd (upd (upd (upd (upd (upd H3 p0 (.lst [])) p1 (.lst [V.int 0, V.int 0, V.int 1])) p2 (.lst [V.int 0, V.int 0, V.int 1, V.int 2])) p3 (.lst [V.int 0, V.int 0, V.int 1, V.int 1])) p4 (.lst [V.int 0, V.int 0, V.int 1, V.int 1, V.int 0])) pl (.lst [V.ref p0, V.ref p1, V.ref p2, V.ref p3, V.ref p4])) [p0, p1, p2, p3, p4] (q5.map fun z => z.map V.int) := .cons (upd_old (upd_old (upd_old (upd_old (upd_old upd_same f1) f2) f3) f4) fl) (.cons (upd_old (upd_old (upd_old (upd_old upd_same f2) f3) f4) fl) (.cons (upd_old (upd_old (upd_old upd_same f3) f4) fl) (.cons (upd_old (upd_old upd_same f4) fl) (.cons (upd_old upd_same fl) .nil))))
    generalize upd (upd (upd (upd (upd (upd H3 p0 (.lst [])) p1 (.lst [V.int 0, V.int 0, V.int 1])) p2 (.lst [V.int 0, V.int 0, V.int 1, V.int 2])) p3 (.lst [V.int 0, V.int 0, V.int 1, V.int 1])) p4 (.lst [V.int 0, V.int 0, V.int 1, V.int 1, V.int 0])) pl (.lst [V.ref p0, V.ref p1, V.ref p2, V.ref p3, V.ref p4]) = H4 at *
    refine ⟨by decide, fun p5 f5 => ⟨by decide, fun p6' f6 => ⟨by decide, fun pm fm => ?_⟩⟩⟩
    have s5 : Same H4 (upd (upd (upd H4 p5 (.lst [V.int 0, V.int 0, V.int 1, V.int (-1 - f)])) p6' (.lst [V.int 1, V.int 1, V.int 0, V.int 1])) pm (.lst [V.ref p5, V.ref p6'])) := ((Same.new f5).upd' f6).upd' fm
    have ht5 : LsAt (upd (upd (upd H4 p5 (.lst [V.int 0, V.int 0, V.int 1, V.int (-1 - f)])) p6' (.lst [V.int 1, V.int 1, V.int 0, V.int 1])) pm (.lst [V.ref p5, V.ref p6'])) [p5, p6'] (([[0, 0, 1, -1 - f], [1, 1, 0, 1]] : List (List Int)).map fun z => z.map V.int) := .cons (upd_old (upd_old upd_same f6) fm) (.cons (upd_old upd_same fm) .nil)
    have hm5 : upd (upd (upd H4 p5 (.lst [V.int 0, V.int 0, V.int 1, V.int (-1 - f)])) p6' (.lst [V.int 1, V.int 1, V.int 0, V.int 1])) pm (.lst [V.ref p5, V.ref p6']) pm = some (.lst [V.ref p5, V.ref p6']) := upd_same
    generalize upd (upd (upd H4 p5 (.lst [V.int 0, V.int 0, V.int 1, V.int (-1 - f)])) p6' (.lst [V.int 1, V.int 1, V.int 0, V.int 1])) pm (.lst [V.ref p5, V.ref p6']) = H5 at *
    refine ⟨pl, pm, _, _, rfl, rfl, s5 _ _ hd4, hm5, small_le (by simp), fun pn fn => ?_⟩
    have s6 := (s4.trans s5).upd' (o := .lst ([V.ref p0, V.ref p1, V.ref p2, V.ref p3, V.ref p4] ++ [V.ref p5, V.ref p6'])) fn
    have ht6 : LsAt (upd H5 pn (.lst ([V.ref p0, V.ref p1, V.ref p2, V.ref p3, V.ref p4] ++ [V.ref p5, V.ref p6']))) ([p0, p1, p2, p3, p4] ++ [p5, p6']) ((q7 f).map fun z => z.map V.int) := ((ht4.same s5).append ht5).same (Same.new fn)
    have hd6 : upd H5 pn (.lst ([V.ref p0, V.ref p1, V.ref p2, V.ref p3, V.ref p4] ++ [V.ref p5, V.ref p6'])) pn = some (.lst (([p0, p1, p2, p3, p4] ++ [p5, p6']).map V.ref)) := upd_same
    generalize upd H5 pn (.lst ([V.ref p0, V.ref p1, V.ref p2, V.ref p3, V.ref p4] ++ [V.ref p5, V.ref p6'])) = H6 at *
    obtain ⟨a, z, ha, hA, hz⟩ := pick ht6 (m := 7) rfl (by decide) (c / 2)
    have hno := q7_no hf z hz
    have lz : z.length < 64 := by
      simp only [q7, q5, List.cons_append, List.nil_append, List.mem_cons, List.not_mem_nil, or_false] at hz
      rcases hz with rfl | rfl | rfl | rfl | rfl | rfl | rfl <;> simp
    exact ⟨⟨by decide, by decide⟩, by decide, pn, rfl, _, SqL.of hd6, _, ha, 2, 2, a, z, rfl, SqL.of hA, lz, Or.inr ⟨rfl, rfl, hno, fun H' s' => qE H' ((s1.trans s6).trans s')⟩⟩
end
end Rb
set_option Elab.async false
set_option linter.all false
set_option maxRecDepth 100000
set_option maxHeartbeats 4000000
namespace Rb
open PySem L2
section
variable {CX : CXT} {P : Program} {w : World} {K : PySem.W.Frag} {mg : Str → Option Value} {base : Heap} {t : Adr}
theorem cnt6 : cntT 3 p6 0 ≤ 1000 := by decide +kernel
theorem cnt6r : cntT 3 p6 (stR p6 0) * ((Mx.prodTo (degP p6) 3 : Nat) : Int) ≤ 1000 := by decide +kernel
theorem like6 : EvenLike 3 p6 := ⟨by decide, by decide, by decide, fun p => by
    match p with
    | 0 => rfl
    | 1 => rfl
    | 2 => rfl
    | p + 3 =>
      have h1 : (p6.map (·.1)).count ((p + 3 : Nat) : Int) = 0 := List.count_eq_zero.mpr (by simp [p6]; omega)
      have h2 : (p6.map (·.2)).count ((p + 3 : Nat) : Int) = 0 := List.count_eq_zero.mpr (by simp [p6]; omega)
      rw [h1, h2], by decide⟩
theorem pickI (L : List Int) {m : Nat} (hm : L.length = m) (h0 : 0 < m) (c : Int) : ∃ v : Int, atI (L.map V.int) (c % (m : Int)) = some (.int v) ∧ v ∈ L := by
  have r1 := Int.emod_nonneg c (show (m : Int) ≠ 0 by omega)
  have r2 := Int.emod_lt_of_pos c (show (0 : Int) < (m : Int) by omega)
  obtain ⟨k, hk⟩ : ∃ k : Nat, c % (m : Int) = (k : Int) := ⟨(c % (m : Int)).toNat, by omega⟩
  have hkl : k < L.length := by omega
  exact ⟨L[k], by rw [hk]; exact atI_nat (by rw [List.getElem?_map, List.getElem?_eq_getElem hkl]; rfl), List.getElem_mem hkl⟩
def sp_no_number (t : Adr) : Sp := fun vs H _ E => ∃ (x l : Addr) (as : List Addr) (c f : Int), vs = [.ref x, .int c, .int f] ∧ NetAt t.C_Net H x l as 3 p6 ∧ 0 ≤ f ∧ ∀ H', Same H H' → E (.ref t.C_NoNumber) none H'
seal L2.PE L2.PA L2.PS L2.PSs L2.PT in
theorem okE_i (T : Txt K mg t) : FnOk P w K mg base (CX1 P w) 9 t.f_i t.d_i ["net", "cell", "far"] (sp_no_number t) := by
  have c0 : NoX (CX1 P w) := nox1
  refine T.F_i.okE sc_i (fun vs H Q E h => ?_) (fun cdv A outer s H vs Q E hr h => ?_)
  · obtain ⟨x, l, as, c, f, rfl, _⟩ := h
    rfl
  · obtain ⟨x, l, as, c, f, rfl, N, hf, qE⟩ := h
    refine ⟨_, (pss_cons (ps_set (i := 3) sc_i.nd (by rfl) (Or.inl rfl) (pe_op op_mod (pv 1) pe_int))
  (pss_one (ps_if (pt_cmpR op_eq (pv 3) pe_int (nomark _))
  (pss_one (ps_expr (pe_callS (okE_u1 T) (hr.mono (by decide)) (by rfl) T.m_u1 T.F_u1.kp T.b_u1 (passesS_of passes_def) (pa_cons (pv 0) (pa_cons pe_int (pa_cons (pe_ix ix_list (pe_lst (pa_cons (pe_op op_sub (pe_un un_neg pe_int) (pv 2)) (pa_cons (pe_call (ok_k1 c0 T) (hr.mono (by decide)) (by rfl) T.m_k1 T.F_k1.kp T.b_k1 .nil (pass1 c0) (pa_cons (pv 0) (pa_cons pe_int pa_nil))) (pa_cons (pe_op op_add pe_int (pv 2)) pa_nil)))) (pe_op op_mod (pe_op op_fdiv (pv 1) pe_int) pe_int) (fun _ _ => rfl)) pa_nil))))))
  (pss_one (ps_if (pt_cmpR op_eq (pv 3) pe_int (nomark _))
  (pss_one (ps_expr (pe_callS (okE_x1 T) (hr.mono (by decide)) (by rfl) T.m_x1 T.F_x1.kp T.b_x1 (passesS_of passes_def) (pa_cons (pv 0) (pa_cons (pe_ix ix_list (pe_lst (pa_cons (pe_op op_sub (pe_un un_neg pe_int) (pv 2)) (pa_cons (pe_op op_add pe_int (pv 2)) pa_nil))) (pe_op op_mod (pe_op op_fdiv (pv 1) pe_int) pe_int) (fun _ _ => rfl)) pa_nil)))))
  (pss_one (ps_expr (pe_callS (okE_q1 T) (hr.mono (by decide)) (by rfl) T.m_q1 T.F_q1.kp T.b_q1 (passesS_of passes_def) (pa_cons pe_int (pa_cons pe_int (pa_cons (pe_ix ix_list (pe_lst (pa_cons (pe_op op_sub (pe_un un_neg pe_int) (pv 2)) (pa_cons pe_int (pa_cons (pe_op op_add pe_int (pv 2)) pa_nil)))) (pe_op op_mod (pe_op op_fdiv (pv 1) pe_int) pe_int) (fun _ _ => rfl)) pa_nil))))))))))), ?_⟩
    open_k with [rIxL]
    refine ⟨by decide, rfl, ?_⟩
    by_cases e0 : c % 3 = 0
    · rw [if_pos (decide_eq_true e0)]
      refine ⟨x, l, as, 3, 0, p6, rfl, N, by decide, fun H1 s1 => ⟨by decide, fun p fp => ?_⟩⟩
      obtain ⟨v, hv, hm⟩ := pickI [-1 - f, cntT 3 p6 0, 1000 + f] (m := 3) rfl (by decide) (c / 3)
      have s2 := s1.upd' (o := .lst [V.int (-1 - f), V.int (cntT 3 p6 0), V.int (1000 + f)]) fp
      refine ⟨⟨by decide, by decide⟩, by decide, _, SqL.of upd_same, _, hv, x, l, as, 3, p6, 0, v, rfl, N.same s2, Or.inr ⟨0, rfl, by decide, ?_, fun H' s' => qE H' (s2.trans s')⟩⟩
      have := cnt6
      simp only [List.mem_cons, List.not_mem_nil, or_false] at hm
      rcases hm with rfl | rfl | rfl <;> omega
    rw [if_neg (by simp [e0])]
    refine ⟨rfl, ?_⟩
    by_cases e1 : c % 3 = 1
    · rw [if_pos (decide_eq_true e1)]
      refine ⟨by decide, fun p fp => ?_⟩
      obtain ⟨v, hv, hm⟩ := pickI [-1 - f, 1000 + f] (m := 2) rfl (by decide) (c / 3)
      have s2 : Same H (upd H p (.lst [V.int (-1 - f), V.int (1000 + f)])) := Same.new fp
      refine ⟨⟨by decide, by decide⟩, by decide, _, SqL.of upd_same, _, hv, x, l, as, 3, p6, v, rfl, N.same s2, like6.unlike, like6.apart (by decide), ?_, fun H' s' => qE H' (s2.trans s')⟩
      have := cnt6r
      simp only [List.mem_cons, List.not_mem_nil, or_false] at hm
      rcases hm with rfl | rfl <;> omega
    rw [if_neg (by simp [e1])]
    refine ⟨by decide, fun p fp => ?_⟩
    obtain ⟨v, hv, hm⟩ := pickI [-1 - f, 1, 1 + f] (m := 3) rfl (by decide) (c / 3)
    refine ⟨⟨by decide, by decide⟩, by decide, _, SqL.of upd_same, _, hv, 2, 2, v, rfl, Or.inr ⟨rfl, rfl, ?_, fun H' s' => qE H' ((Same.new fp).trans s')⟩⟩
    simp only [List.mem_cons, List.not_mem_nil, or_false] at hm
    rcases hm with rfl | rfl | rfl <;> omega
end
end Rb
set_option Elab.async false
set_option linter.all false
set_option maxRecDepth 100000
set_option maxHeartbeats 4000000
namespace Rb
open PySem L2
section
variable {CX : CXT} {P : Program} {w : World} {K : PySem.W.Frag} {mg : Str → Option Value} {base : Heap} {t : Adr}
theorem no_ends {n : Int} {ps : List Pr} {q : Pr} (h : q ∈ ps) (hb : (within q.1 n && within q.2 n) = false) : netOk n ps = false := by
  have : endsOk n ps = false := by
    unfold endsOk
    rw [List.all_eq_false]
    exact ⟨q, h, by simp [hb]⟩
  simp [netOk, this]
theorem no_exit {n : Int} {ps : List Pr} {g : Int} (h0 : 0 ≤ g) (h1 : g < n) (hq : ∀ q ∈ ps, q.1 ≠ g) : netOk n ps = false := by
  have : exitsOk n ps = false := by
    unfold exitsOk
    rw [List.all_eq_false]
    refine ⟨g.toNat, List.mem_range.mpr (by omega), ?_⟩
    rw [Bool.not_eq_true, List.any_eq_false]
    intro q hq'
    have e : ((g.toNat : Nat) : Int) = g := by omega
    rw [e]
    simpa using hq q hq'
  simp [netOk, this]
theorem no_count {n : Int} {ps : List Pr} (h : ¬ (1 ≤ n ∧ n ≤ 32)) : netOk n ps = false := by
  simp only [netOk]
  rw [show (decide (1 ≤ n) && decide (n ≤ 32)) = false by simp; omega]
  rfl
def sp_done (t : Adr) : Sp := fun vs H _ E => ∃ (i : Nat) (c f : Int), vs = [.int (i : Int), .int c, .int f] ∧ i < 7 ∧ 0 ≤ f ∧ ∀ (o : Option Addr) (H' : Hp), Same H H' → E (.ref ([t.C_NoNet, t.C_NoWords, t.C_NotRead, t.C_NoPlace, t.C_NoTree, t.C_NoRing, t.C_NoNumber].getD i 0)) o H'
seal L2.PE L2.PA L2.PS L2.PSs L2.PT in
theorem okE_n1 (T : Txt K mg t) : FnOk P w K mg base (CX1 P w) 11 t.f_n1 t.d_n1 ["way", "cell", "far"] (sp_done t) := by
  have c0 : NoX (CX1 P w) := nox1
  refine T.F_n1.okE sc_n1 (fun vs H Q E h => ?_) (fun cdv A outer s H vs Q E hr h => ?_)
  · obtain ⟨i, c, f, rfl, _⟩ := h
    rfl
  · obtain ⟨i, c, f, rfl, hi, hf, qE⟩ := h
    refine ⟨_, (pss_cons (ps_set (i := 3) sc_n1.nd (by rfl) (Or.inl rfl) (pe_makeS T.mk_Net (okE_o T) (hr.mono (by decide)) (by rfl) T.m_Net T.b_o (passesS_of passes_def) (pa_cons pe_int (pa_cons (pe_lst (pa_cons (pe_tup (pa_cons pe_int (pa_cons pe_int pa_nil))) (pa_cons (pe_tup (pa_cons pe_int (pa_cons pe_int pa_nil))) (pa_cons (pe_tup (pa_cons pe_int (pa_cons pe_int pa_nil))) (pa_cons (pe_tup (pa_cons pe_int (pa_cons pe_int pa_nil))) (pa_cons (pe_tup (pa_cons pe_int (pa_cons pe_int pa_nil))) (pa_cons (pe_tup (pa_cons pe_int (pa_cons pe_int pa_nil))) pa_nil))))))) pa_nil))))
  (pss_one (ps_if (pt_cmpR op_eq (pv 0) pe_int (nomark _))
  (pss_one (ps_expr (pe_makeS T.mk_Net (okE_o T) (hr.mono (by decide)) (by rfl) T.m_Net T.b_o (passesS_of passes_def) (pa_cons (pe_ix ix_list (pe_lst (pa_cons pe_int (pa_cons (pe_op op_add pe_int (pv 2)) (pa_cons pe_int (pa_cons pe_int pa_nil))))) (pe_op op_mod (pv 1) pe_int) (fun _ _ => rfl)) (pa_cons (pe_ix ix_list (pe_lst (pa_cons (pe_lst (pa_cons (pe_tup (pa_cons pe_int (pa_cons pe_int pa_nil))) pa_nil)) (pa_cons (pe_lst (pa_cons (pe_tup (pa_cons pe_int (pa_cons pe_int pa_nil))) pa_nil)) (pa_cons (pe_lst (pa_cons (pe_tup (pa_cons pe_int (pa_cons pe_int pa_nil))) pa_nil)) (pa_cons (pe_lst (pa_cons (pe_tup (pa_cons pe_int (pa_cons (pe_op op_add pe_int (pv 2)) pa_nil))) pa_nil)) pa_nil))))) (pe_op op_mod (pv 1) pe_int) (fun _ _ => rfl)) pa_nil)))))
  (pss_one (ps_if (pt_cmpR op_eq (pv 0) pe_int (nomark _))
  (pss_one (ps_expr (pe_callS (okE_m T) (hr.mono (by decide)) (by rfl) T.m_m T.F_m.kp T.b_m (passesS_of passes_def) (pa_cons (pv 1) (pa_cons (pv 2) pa_nil)))))
  (pss_one (ps_if (pt_cmpR op_eq (pv 0) pe_int (nomark _))
  (pss_one (ps_expr (pe_callS (okE_y1 T) (hr.mono (by decide)) (by rfl) T.m_y1 T.F_y1.kp T.b_y1 (passesS_of passes_def) (pa_cons (pe_ix ix_list (pe_lst (pa_cons pe_str (pa_cons pe_str (pa_cons pe_str (pa_cons pe_str (pa_cons pe_str pa_nil)))))) (pe_op op_mod (pv 1) pe_int) (fun _ _ => rfl)) pa_nil))))
  (pss_one (ps_if (pt_cmpR op_eq (pv 0) pe_int (nomark _))
  (pss_one (ps_expr (pe_callS (okE_n T) (hr.mono (by decide)) (by rfl) T.m_n T.F_n.kp T.b_n (passesS_of passes_def) (pa_cons (pv 3) (pa_cons (pv 1) (pa_cons (pv 2) pa_nil))))))
  (pss_one (ps_if (pt_cmpR op_eq (pv 0) pe_int (nomark _))
  (pss_one (ps_expr (pe_callS (okE_s T) (hr.mono (by decide)) (by rfl) T.m_s T.F_s.kp T.b_s (passesS_of passes_def) (pa_cons (pv 3) (pa_cons (pv 1) (pa_cons (pv 2) pa_nil))))))
  (pss_one (ps_if (pt_cmpR op_eq (pv 0) pe_int (nomark _))
  (pss_one (ps_expr (pe_callS (okE_t T) (hr.mono (by decide)) (by rfl) T.m_t T.F_t.kp T.b_t (passesS_of passes_def) (pa_cons (pv 3) (pa_cons (pv 1) (pa_cons (pv 2) pa_nil))))))
  (pss_one (ps_expr (pe_callS (okE_i T) (hr.mono (by decide)) (by rfl) T.m_i T.F_i.kp T.b_i (passesS_of passes_def) (pa_cons (pv 3) (pa_cons (pv 1) (pa_cons (pv 2) pa_nil))))))))))))))))))), ?_⟩
    refine seq_cut (fun σ H' => ∃ (x l : Addr) (as : List Addr), σ = [some (.int (i : Int)), some (.int c), some (.int f), some (.ref x)] ∧ Same H H' ∧ NetAt t.C_Net H' x l as 3 p6) (fun N hN => ?_) (fun σ1 H1 m1 => ?_)
    · open_k with []
      refine ⟨by decide, fun p0 f0 => ⟨by decide, fun p1 f1 => ⟨by decide, fun p2 f2 => ⟨by decide, fun p3 f3 => ⟨by decide, fun p4 f4 => ⟨by decide, fun p5 f5 => ⟨by decide, fun pl fl x dx fx fdx ndx => ?_⟩⟩⟩⟩⟩⟩⟩
      have s2 : Same H (upd (upd (upd (upd (upd (upd (upd H p0 (.tup [V.int 0, V.int 1])) p1 (.tup [V.int 0, V.int 2])) p2 (.tup [V.int 1, V.int 2])) p3 (.tup [V.int 1, V.int 0])) p4 (.tup [V.int 2, V.int 0])) p5 (.tup [V.int 2, V.int 1])) pl (.lst [V.ref p0, V.ref p1, V.ref p2, V.ref p3, V.ref p4, V.ref p5])) := ((((((Same.new f0).upd' f1).upd' f2).upd' f3).upd' f4).upd' f5).upd' fl
      have hd : (upd (upd (upd (upd (upd (upd (upd H p0 (.tup [V.int 0, V.int 1])) p1 (.tup [V.int 0, V.int 2])) p2 (.tup [V.int 1, V.int 2])) p3 (.tup [V.int 1, V.int 0])) p4 (.tup [V.int 2, V.int 0])) p5 (.tup [V.int 2, V.int 1])) pl (.lst [V.ref p0, V.ref p1, V.ref p2, V.ref p3, V.ref p4, V.ref p5])) pl = some (.lst ([p0, p1, p2, p3, p4, p5].map V.ref)) := upd_same
      have ht2 : TupsAt (upd (upd (upd (upd (upd (upd (upd H p0 (.tup [V.int 0, V.int 1])) p1 (.tup [V.int 0, V.int 2])) p2 (.tup [V.int 1, V.int 2])) p3 (.tup [V.int 1, V.int 0])) p4 (.tup [V.int 2, V.int 0])) p5 (.tup [V.int 2, V.int 1])) pl (.lst [V.ref p0, V.ref p1, V.ref p2, V.ref p3, V.ref p4, V.ref p5])) [p0, p1, p2, p3, p4, p5] p6 := .cons (upd_old (upd_old (upd_old (upd_old (upd_old (upd_old upd_same f1) f2) f3) f4) f5) fl) (.cons (upd_old (upd_old (upd_old (upd_old (upd_old upd_same f2) f3) f4) f5) fl) (.cons (upd_old (upd_old (upd_old (upd_old upd_same f3) f4) f5) fl) (.cons (upd_old (upd_old (upd_old upd_same f4) f5) fl) (.cons (upd_old (upd_old upd_same f5) fl) (.cons (upd_old upd_same fl) .nil)))))
      generalize upd (upd (upd (upd (upd (upd (upd H p0 (.tup [V.int 0, V.int 1])) p1 (.tup [V.int 0, V.int 2])) p2 (.tup [V.int 1, V.int 2])) p3 (.tup [V.int 1, V.int 0])) p4 (.tup [V.int 2, V.int 0])) p5 (.tup [V.int 2, V.int 1])) pl (.lst [V.ref p0, V.ref p1, V.ref p2, V.ref p3, V.ref p4, V.ref p5]) = H2 at *
      have s3 : Same H2 (upd (upd H2 dx (.own x)) x (.ins t.C_Net dx [])) := fun b o e => by
        rw [upd_ne (ne_of_none e fx), upd_ne (ne_of_none e fdx)]
        exact e
      refine ⟨x, dx, pl, p6, 3, rfl, upd_same, ⟨_, SqL.of (s3 _ _ hd), ht2.same s3⟩, by decide, fun _ l as' H' fl k N' => ⟨rfl, hN _ _ ⟨x, l, as', rfl, (fun b o e => k b o (s3 _ _ (s2 _ _ e)) (ne_of_none (s2 _ _ e) fx)), N'⟩⟩, fun h => ?_⟩
      exact absurd h (by decide +kernel)
    obtain ⟨x, l, as, rfl, s1, N⟩ := m1
    open_k with [rIxL]
    have iN : (i : Int) = 0 ∨ (i : Int) = 1 ∨ (i : Int) = 2 ∨ (i : Int) = 3 ∨ (i : Int) = 4 ∨ (i : Int) = 5 ∨ (i : Int) = 6 := by omega
    refine ⟨rfl, ?_⟩
    by_cases e0 : (i : Int) = 0
    · have ei : i = 0 := by omega
      subst ei
      rw [if_pos (decide_eq_true e0)]
      have h4 : c % 4 = 0 ∨ c % 4 = 1 ∨ c % 4 = 2 ∨ c % 4 = 3 := by omega
      rcases h4 with h | h | h | h
      · refine ⟨by decide, fun p g0 => ⟨by decide, _, SqL.of upd_same, .int 0, by rw [h]; exact atI_nat (j := 0) rfl, by decide, fun p1 g1 => ⟨by decide, fun p2 g2 => ⟨by decide, fun p3 g3 => ⟨by decide, fun p4 g4 => ⟨by decide, fun p5 g5 => ⟨by decide, fun p6 g6 => ⟨by decide, fun p7 g7 => ⟨by decide, fun p8 g8 => ⟨by decide, fun p9 g9 => ⟨by decide, _, SqL.of upd_same, .ref p2, by rw [h]; exact atI_nat (j := 0) rfl, fun x' dx fx fdx ndx => ?_⟩⟩⟩⟩⟩⟩⟩⟩⟩⟩⟩
        have s2 : Same H1 (upd (upd (upd (upd (upd (upd (upd (upd (upd (upd H1 p (.lst [V.int 0, V.int (33 + f), V.int 2, V.int 1])) p1 (.tup [V.int 0, V.int 0])) p2 (.lst [V.ref p1])) p3 (.tup [V.int 0, V.int 0])) p4 (.lst [V.ref p3])) p5 (.tup [V.int 0, V.int 1])) p6 (.lst [V.ref p5])) p7 (.tup [V.int 0, V.int (1 + f)])) p8 (.lst [V.ref p7])) p9 (.lst [V.ref p2, V.ref p4, V.ref p6, V.ref p8])) := (((((((((Same.new g0).upd' g1).upd' g2).upd' g3).upd' g4).upd' g5).upd' g6).upd' g7).upd' g8).upd' g9
        have hl : (upd (upd (upd (upd (upd (upd (upd (upd (upd (upd H1 p (.lst [V.int 0, V.int (33 + f), V.int 2, V.int 1])) p1 (.tup [V.int 0, V.int 0])) p2 (.lst [V.ref p1])) p3 (.tup [V.int 0, V.int 0])) p4 (.lst [V.ref p3])) p5 (.tup [V.int 0, V.int 1])) p6 (.lst [V.ref p5])) p7 (.tup [V.int 0, V.int (1 + f)])) p8 (.lst [V.ref p7])) p9 (.lst [V.ref p2, V.ref p4, V.ref p6, V.ref p8])) p2 = some (.lst ([p1].map V.ref)) := (upd_old (upd_old (upd_old (upd_old (upd_old (upd_old (upd_old upd_same g3) g4) g5) g6) g7) g8) g9)
        have ht : TupsAt (upd (upd (upd (upd (upd (upd (upd (upd (upd (upd H1 p (.lst [V.int 0, V.int (33 + f), V.int 2, V.int 1])) p1 (.tup [V.int 0, V.int 0])) p2 (.lst [V.ref p1])) p3 (.tup [V.int 0, V.int 0])) p4 (.lst [V.ref p3])) p5 (.tup [V.int 0, V.int 1])) p6 (.lst [V.ref p5])) p7 (.tup [V.int 0, V.int (1 + f)])) p8 (.lst [V.ref p7])) p9 (.lst [V.ref p2, V.ref p4, V.ref p6, V.ref p8])) [p1] [(0, 0)] := .cons (upd_old (upd_old (upd_old (upd_old (upd_old (upd_old (upd_old (upd_old upd_same g2) g3) g4) g5) g6) g7) g8) g9) .nil
        generalize upd (upd (upd (upd (upd (upd (upd (upd (upd (upd H1 p (.lst [V.int 0, V.int (33 + f), V.int 2, V.int 1])) p1 (.tup [V.int 0, V.int 0])) p2 (.lst [V.ref p1])) p3 (.tup [V.int 0, V.int 0])) p4 (.lst [V.ref p3])) p5 (.tup [V.int 0, V.int 1])) p6 (.lst [V.ref p5])) p7 (.tup [V.int 0, V.int (1 + f)])) p8 (.lst [V.ref p7])) p9 (.lst [V.ref p2, V.ref p4, V.ref p6, V.ref p8]) = H2 at *
        have s3 : Same H2 (upd (upd H2 dx (.own x')) x' (.ins t.C_Net dx [])) := fun b o e => by
          rw [upd_ne (ne_of_none e fx), upd_ne (ne_of_none e fdx)]
          exact e
        refine ⟨x', dx, p2, [(0, 0)], 0, rfl, upd_same, ⟨_, SqL.of (s3 _ _ hl), ht.same s3⟩, by simp, fun hk => ?_, fun _ H' s' => qE _ H' (((s1.trans s2).trans s3).trans s')⟩
        rw [no_count (by omega)] at hk
        cases hk
      · refine ⟨by decide, fun p g0 => ⟨by decide, _, SqL.of upd_same, .int (33 + f), by rw [h]; exact atI_nat (j := 1) rfl, by decide, fun p1 g1 => ⟨by decide, fun p2 g2 => ⟨by decide, fun p3 g3 => ⟨by decide, fun p4 g4 => ⟨by decide, fun p5 g5 => ⟨by decide, fun p6 g6 => ⟨by decide, fun p7 g7 => ⟨by decide, fun p8 g8 => ⟨by decide, fun p9 g9 => ⟨by decide, _, SqL.of upd_same, .ref p4, by rw [h]; exact atI_nat (j := 1) rfl, fun x' dx fx fdx ndx => ?_⟩⟩⟩⟩⟩⟩⟩⟩⟩⟩⟩
        have s2 : Same H1 (upd (upd (upd (upd (upd (upd (upd (upd (upd (upd H1 p (.lst [V.int 0, V.int (33 + f), V.int 2, V.int 1])) p1 (.tup [V.int 0, V.int 0])) p2 (.lst [V.ref p1])) p3 (.tup [V.int 0, V.int 0])) p4 (.lst [V.ref p3])) p5 (.tup [V.int 0, V.int 1])) p6 (.lst [V.ref p5])) p7 (.tup [V.int 0, V.int (1 + f)])) p8 (.lst [V.ref p7])) p9 (.lst [V.ref p2, V.ref p4, V.ref p6, V.ref p8])) := (((((((((Same.new g0).upd' g1).upd' g2).upd' g3).upd' g4).upd' g5).upd' g6).upd' g7).upd' g8).upd' g9
        have hl : (upd (upd (upd (upd (upd (upd (upd (upd (upd (upd H1 p (.lst [V.int 0, V.int (33 + f), V.int 2, V.int 1])) p1 (.tup [V.int 0, V.int 0])) p2 (.lst [V.ref p1])) p3 (.tup [V.int 0, V.int 0])) p4 (.lst [V.ref p3])) p5 (.tup [V.int 0, V.int 1])) p6 (.lst [V.ref p5])) p7 (.tup [V.int 0, V.int (1 + f)])) p8 (.lst [V.ref p7])) p9 (.lst [V.ref p2, V.ref p4, V.ref p6, V.ref p8])) p4 = some (.lst ([p3].map V.ref)) := (upd_old (upd_old (upd_old (upd_old (upd_old upd_same g5) g6) g7) g8) g9)
        have ht : TupsAt (upd (upd (upd (upd (upd (upd (upd (upd (upd (upd H1 p (.lst [V.int 0, V.int (33 + f), V.int 2, V.int 1])) p1 (.tup [V.int 0, V.int 0])) p2 (.lst [V.ref p1])) p3 (.tup [V.int 0, V.int 0])) p4 (.lst [V.ref p3])) p5 (.tup [V.int 0, V.int 1])) p6 (.lst [V.ref p5])) p7 (.tup [V.int 0, V.int (1 + f)])) p8 (.lst [V.ref p7])) p9 (.lst [V.ref p2, V.ref p4, V.ref p6, V.ref p8])) [p3] [(0, 0)] := .cons (upd_old (upd_old (upd_old (upd_old (upd_old (upd_old upd_same g4) g5) g6) g7) g8) g9) .nil
        generalize upd (upd (upd (upd (upd (upd (upd (upd (upd (upd H1 p (.lst [V.int 0, V.int (33 + f), V.int 2, V.int 1])) p1 (.tup [V.int 0, V.int 0])) p2 (.lst [V.ref p1])) p3 (.tup [V.int 0, V.int 0])) p4 (.lst [V.ref p3])) p5 (.tup [V.int 0, V.int 1])) p6 (.lst [V.ref p5])) p7 (.tup [V.int 0, V.int (1 + f)])) p8 (.lst [V.ref p7])) p9 (.lst [V.ref p2, V.ref p4, V.ref p6, V.ref p8]) = H2 at *
        have s3 : Same H2 (upd (upd H2 dx (.own x')) x' (.ins t.C_Net dx [])) := fun b o e => by
          rw [upd_ne (ne_of_none e fx), upd_ne (ne_of_none e fdx)]
          exact e
        refine ⟨x', dx, p4, [(0, 0)], (33 + f), rfl, upd_same, ⟨_, SqL.of (s3 _ _ hl), ht.same s3⟩, by simp, fun hk => ?_, fun _ H' s' => qE _ H' (((s1.trans s2).trans s3).trans s')⟩
        rw [no_count (by omega)] at hk
        cases hk
      · refine ⟨by decide, fun p g0 => ⟨by decide, _, SqL.of upd_same, .int 2, by rw [h]; exact atI_nat (j := 2) rfl, by decide, fun p1 g1 => ⟨by decide, fun p2 g2 => ⟨by decide, fun p3 g3 => ⟨by decide, fun p4 g4 => ⟨by decide, fun p5 g5 => ⟨by decide, fun p6 g6 => ⟨by decide, fun p7 g7 => ⟨by decide, fun p8 g8 => ⟨by decide, fun p9 g9 => ⟨by decide, _, SqL.of upd_same, .ref p6, by rw [h]; exact atI_nat (j := 2) rfl, fun x' dx fx fdx ndx => ?_⟩⟩⟩⟩⟩⟩⟩⟩⟩⟩⟩
        have s2 : Same H1 (upd (upd (upd (upd (upd (upd (upd (upd (upd (upd H1 p (.lst [V.int 0, V.int (33 + f), V.int 2, V.int 1])) p1 (.tup [V.int 0, V.int 0])) p2 (.lst [V.ref p1])) p3 (.tup [V.int 0, V.int 0])) p4 (.lst [V.ref p3])) p5 (.tup [V.int 0, V.int 1])) p6 (.lst [V.ref p5])) p7 (.tup [V.int 0, V.int (1 + f)])) p8 (.lst [V.ref p7])) p9 (.lst [V.ref p2, V.ref p4, V.ref p6, V.ref p8])) := (((((((((Same.new g0).upd' g1).upd' g2).upd' g3).upd' g4).upd' g5).upd' g6).upd' g7).upd' g8).upd' g9
        have hl : (upd (upd (upd (upd (upd (upd (upd (upd (upd (upd H1 p (.lst [V.int 0, V.int (33 + f), V.int 2, V.int 1])) p1 (.tup [V.int 0, V.int 0])) p2 (.lst [V.ref p1])) p3 (.tup [V.int 0, V.int 0])) p4 (.lst [V.ref p3])) p5 (.tup [V.int 0, V.int 1])) p6 (.lst [V.ref p5])) p7 (.tup [V.int 0, V.int (1 + f)])) p8 (.lst [V.ref p7])) p9 (.lst [V.ref p2, V.ref p4, V.ref p6, V.ref p8])) p6 = some (.lst ([p5].map V.ref)) := (upd_old (upd_old (upd_old upd_same g7) g8) g9)
        have ht : TupsAt (upd (upd (upd (upd (upd (upd (upd (upd (upd (upd H1 p (.lst [V.int 0, V.int (33 + f), V.int 2, V.int 1])) p1 (.tup [V.int 0, V.int 0])) p2 (.lst [V.ref p1])) p3 (.tup [V.int 0, V.int 0])) p4 (.lst [V.ref p3])) p5 (.tup [V.int 0, V.int 1])) p6 (.lst [V.ref p5])) p7 (.tup [V.int 0, V.int (1 + f)])) p8 (.lst [V.ref p7])) p9 (.lst [V.ref p2, V.ref p4, V.ref p6, V.ref p8])) [p5] [(0, 1)] := .cons (upd_old (upd_old (upd_old (upd_old upd_same g6) g7) g8) g9) .nil
        generalize upd (upd (upd (upd (upd (upd (upd (upd (upd (upd H1 p (.lst [V.int 0, V.int (33 + f), V.int 2, V.int 1])) p1 (.tup [V.int 0, V.int 0])) p2 (.lst [V.ref p1])) p3 (.tup [V.int 0, V.int 0])) p4 (.lst [V.ref p3])) p5 (.tup [V.int 0, V.int 1])) p6 (.lst [V.ref p5])) p7 (.tup [V.int 0, V.int (1 + f)])) p8 (.lst [V.ref p7])) p9 (.lst [V.ref p2, V.ref p4, V.ref p6, V.ref p8]) = H2 at *
        have s3 : Same H2 (upd (upd H2 dx (.own x')) x' (.ins t.C_Net dx [])) := fun b o e => by
          rw [upd_ne (ne_of_none e fx), upd_ne (ne_of_none e fdx)]
          exact e
        refine ⟨x', dx, p6, [(0, 1)], 2, rfl, upd_same, ⟨_, SqL.of (s3 _ _ hl), ht.same s3⟩, by simp, fun hk => ?_, fun _ H' s' => qE _ H' (((s1.trans s2).trans s3).trans s')⟩
        rw [no_exit (g := 1) (by decide) (by decide) (by simp)] at hk
        cases hk
      · refine ⟨by decide, fun p g0 => ⟨by decide, _, SqL.of upd_same, .int 1, by rw [h]; exact atI_nat (j := 3) rfl, by decide, fun p1 g1 => ⟨by decide, fun p2 g2 => ⟨by decide, fun p3 g3 => ⟨by decide, fun p4 g4 => ⟨by decide, fun p5 g5 => ⟨by decide, fun p6 g6 => ⟨by decide, fun p7 g7 => ⟨by decide, fun p8 g8 => ⟨by decide, fun p9 g9 => ⟨by decide, _, SqL.of upd_same, .ref p8, by rw [h]; exact atI_nat (j := 3) rfl, fun x' dx fx fdx ndx => ?_⟩⟩⟩⟩⟩⟩⟩⟩⟩⟩⟩
        have s2 : Same H1 (upd (upd (upd (upd (upd (upd (upd (upd (upd (upd H1 p (.lst [V.int 0, V.int (33 + f), V.int 2, V.int 1])) p1 (.tup [V.int 0, V.int 0])) p2 (.lst [V.ref p1])) p3 (.tup [V.int 0, V.int 0])) p4 (.lst [V.ref p3])) p5 (.tup [V.int 0, V.int 1])) p6 (.lst [V.ref p5])) p7 (.tup [V.int 0, V.int (1 + f)])) p8 (.lst [V.ref p7])) p9 (.lst [V.ref p2, V.ref p4, V.ref p6, V.ref p8])) := (((((((((Same.new g0).upd' g1).upd' g2).upd' g3).upd' g4).upd' g5).upd' g6).upd' g7).upd' g8).upd' g9
        have hl : (upd (upd (upd (upd (upd (upd (upd (upd (upd (upd H1 p (.lst [V.int 0, V.int (33 + f), V.int 2, V.int 1])) p1 (.tup [V.int 0, V.int 0])) p2 (.lst [V.ref p1])) p3 (.tup [V.int 0, V.int 0])) p4 (.lst [V.ref p3])) p5 (.tup [V.int 0, V.int 1])) p6 (.lst [V.ref p5])) p7 (.tup [V.int 0, V.int (1 + f)])) p8 (.lst [V.ref p7])) p9 (.lst [V.ref p2, V.ref p4, V.ref p6, V.ref p8])) p8 = some (.lst ([p7].map V.ref)) := (upd_old upd_same g9)
        have ht : TupsAt (upd (upd (upd (upd (upd (upd (upd (upd (upd (upd H1 p (.lst [V.int 0, V.int (33 + f), V.int 2, V.int 1])) p1 (.tup [V.int 0, V.int 0])) p2 (.lst [V.ref p1])) p3 (.tup [V.int 0, V.int 0])) p4 (.lst [V.ref p3])) p5 (.tup [V.int 0, V.int 1])) p6 (.lst [V.ref p5])) p7 (.tup [V.int 0, V.int (1 + f)])) p8 (.lst [V.ref p7])) p9 (.lst [V.ref p2, V.ref p4, V.ref p6, V.ref p8])) [p7] [(0, (1 + f))] := .cons (upd_old (upd_old upd_same g8) g9) .nil
        generalize upd (upd (upd (upd (upd (upd (upd (upd (upd (upd H1 p (.lst [V.int 0, V.int (33 + f), V.int 2, V.int 1])) p1 (.tup [V.int 0, V.int 0])) p2 (.lst [V.ref p1])) p3 (.tup [V.int 0, V.int 0])) p4 (.lst [V.ref p3])) p5 (.tup [V.int 0, V.int 1])) p6 (.lst [V.ref p5])) p7 (.tup [V.int 0, V.int (1 + f)])) p8 (.lst [V.ref p7])) p9 (.lst [V.ref p2, V.ref p4, V.ref p6, V.ref p8]) = H2 at *
        have s3 : Same H2 (upd (upd H2 dx (.own x')) x' (.ins t.C_Net dx [])) := fun b o e => by
          rw [upd_ne (ne_of_none e fx), upd_ne (ne_of_none e fdx)]
          exact e
        refine ⟨x', dx, p8, [(0, (1 + f))], 1, rfl, upd_same, ⟨_, SqL.of (s3 _ _ hl), ht.same s3⟩, by simp, fun hk => ?_, fun _ H' s' => qE _ H' (((s1.trans s2).trans s3).trans s')⟩
        rw [no_ends (q := (0, 1 + f)) (by simp) (by simp [within]; omega)] at hk
        cases hk
    rw [if_neg (by simp; omega)]
    refine ⟨rfl, ?_⟩
    by_cases e1 : (i : Int) = 1
    · have ei : i = 1 := by omega
      subst ei
      rw [if_pos (decide_eq_true e1)]
      exact ⟨c, f, rfl, hf, fun H' s' => qE _ H' (s1.trans s')⟩
    rw [if_neg (by simp; omega)]
    refine ⟨rfl, ?_⟩
    by_cases e2 : (i : Int) = 2
    · have ei : i = 2 := by omega
      subst ei
      rw [if_pos (decide_eq_true e2)]
      refine ⟨by decide, fun p fp => ?_⟩
      have s2 := s1.upd' (o := .lst [V.str (Str.ofString ""), V.str (Str.ofString "2: 0>1"), V.str (Str.ofString "1: 0"), V.str (Str.ofString "1; 0>0"), V.str (Str.ofString "1: 0>0 ")]) fp
      have fin : ∀ z : Str, z.length ≤ 900 → (partsOf (cds z) = none ∨ ∃ m qs, partsOf (cds z) = some (m, qs) ∧ netOk ((m : Nat) : Int) qs = false) → spE_read t [.str z] (upd H1 p (.lst [V.str (Str.ofString ""), V.str (Str.ofString "2: 0>1"), V.str (Str.ofString "1: 0"), V.str (Str.ofString "1; 0>0"), V.str (Str.ofString "1: 0>0 ")])) (fun _ H1 => Q V.non H1) E := fun z hz hn => by
        refine ⟨z, rfl, hz, fun m qs h1 h2 => ?_, fun _ o H' s' => qE o H' (s2.trans s')⟩
        exfalso
        rcases hn with hn | ⟨m', qs', h3, h4⟩
        · rw [hn] at h1; cases h1
        · rw [h3] at h1
          have := Option.some.inj h1
          have e1 : m' = m := congrArg Prod.fst this
          have e2 : qs' = qs := congrArg Prod.snd this
          rw [e1, e2, h2] at h4
          cases h4
      have h5 : c % 5 = 0 ∨ c % 5 = 1 ∨ c % 5 = 2 ∨ c % 5 = 3 ∨ c % 5 = 4 := by omega
      rcases h5 with h | h | h | h | h
      · exact ⟨by decide, _, SqL.of upd_same, _, by rw [h]; exact atI_nat (j := 0) rfl, fin _ (by decide +kernel) (Or.inl (by decide +kernel))⟩
      · exact ⟨by decide, _, SqL.of upd_same, _, by rw [h]; exact atI_nat (j := 1) rfl, fin _ (by decide +kernel) (Or.inr ⟨2, [(0, 1)], by decide +kernel, by decide +kernel⟩)⟩
      · exact ⟨by decide, _, SqL.of upd_same, _, by rw [h]; exact atI_nat (j := 2) rfl, fin _ (by decide +kernel) (Or.inl (by decide +kernel))⟩
      · exact ⟨by decide, _, SqL.of upd_same, _, by rw [h]; exact atI_nat (j := 3) rfl, fin _ (by decide +kernel) (Or.inl (by decide +kernel))⟩
      · exact ⟨by decide, _, SqL.of upd_same, _, by rw [h]; exact atI_nat (j := 4) rfl, fin _ (by decide +kernel) (Or.inl (by decide +kernel))⟩
    rw [if_neg (by simp; omega)]
    refine ⟨rfl, ?_⟩
    by_cases e3 : (i : Int) = 3
    · have ei : i = 3 := by omega
      subst ei
      rw [if_pos (decide_eq_true e3)]
      exact ⟨x, l, as, p6, c, f, rfl, N, hf, fun H' s' => qE _ H' (s1.trans s')⟩
    rw [if_neg (by simp; omega)]
    refine ⟨rfl, ?_⟩
    by_cases e4 : (i : Int) = 4
    · have ei : i = 4 := by omega
      subst ei
      rw [if_pos (decide_eq_true e4)]
      exact ⟨x, l, as, c, f, rfl, N, hf, fun H' s' => qE _ H' (s1.trans s')⟩
    rw [if_neg (by simp; omega)]
    refine ⟨rfl, ?_⟩
    by_cases e5 : (i : Int) = 5
    · have ei : i = 5 := by omega
      subst ei
      rw [if_pos (decide_eq_true e5)]
      exact ⟨x, l, as, c, f, rfl, N, hf, fun H' s' => qE _ H' (s1.trans s')⟩
    rw [if_neg (by simp; omega)]
    have ei : i = 6 := by omega
    subst ei
    exact ⟨x, l, as, c, f, rfl, N, hf, fun H' s' => qE _ H' (s1.trans s')⟩
end
end Rb
set_option Elab.async false
set_option linter.all false
set_option maxRecDepth 100000
set_option maxHeartbeats 4000000
namespace Rb
open PySem L2
section
variable {CX : CXT} {P : Program} {w : World} {K : PySem.W.Frag} {mg : Str → Option Value} {base : Heap} {t : Adr}
def cellOf (ns : List Int) (k : Int) : Int := ns.getD k.toNat 0
def sp_cell_at (K : PySem.W.Frag) : Sp := fun vs H Q _ => ∃ (a : Addr) (ns : List Int) (k : Int), vs = [.ref a, .int k] ∧ SqL K H a (ns.map V.int) ∧ 0 ≤ k ∧ Q (.int (cellOf ns k)) H
theorem ok_r (c0 : NoX CX) (T : Txt K mg t) : FnOk P w K mg base CX 1 t.f_r t.d_r ["script", "k"] (sp_cell_at K) := by
  refine T.F_r.okX sc_r (fun vs H Q E h => ?_) (fun cdv A outer s H vs Q E hr h => ?_)
  · obtain ⟨a, ns, k, rfl, _⟩ := h
    rfl
  · obtain ⟨a, ns, k, rfl, hs, hk, q⟩ := h
    refine ⟨_, (pss_cons (ps_if (pt_cmpR op_lt (pv 1) (pe_callB call_len (by rfl) T.n_len (by decide +kernel : bootBuiltins "len" = some (.builtin "len")) (pa_cons (pv 0) pa_nil)) (nomark _))
  (pss_one (ps_ret (pe_ix ix_list (pv 0) (pv 1) (fun _ _ => rfl))))
  pss_nil)
  (pss_one (ps_ret pe_int))), ?_⟩
    open_k with [rIxL]
    refine ⟨_, lenL hs, ?_⟩
    rw [List.length_map]
    by_cases h : k < (ns.length : Int)
    · rw [if_pos (decide_eq_true h)]
      have hk' : ns[k.toNat]? = some (cellOf ns k) := by
        unfold cellOf
        rw [List.getD_eq_getElem?_getD, List.getElem?_eq_getElem (by omega)]
        rfl
      refine ⟨_, hs, _, ?_, q⟩
      have e : k = ((k.toNat : Nat) : Int) := by omega
      rw [e]
      refine atI_nat ?_
      rw [List.getElem?_map, hk']
      have e2 : cellOf ns ((k.toNat : Nat) : Int) = cellOf ns k := by rw [← e]
      rw [e2]
      rfl
    · rw [if_neg (by simp [h])]
      have e : cellOf ns k = 0 := by
        unfold cellOf
        rw [List.getD_eq_getElem?_getD, List.getElem?_eq_none (by omega)]
        rfl
      rw [← e]; exact q
def sp_law (K : PySem.W.Frag) : Sp := fun vs H Q _ => ∃ (a : Addr) (ns : List Int), vs = [.ref a] ∧ SqL K H a (ns.map V.int) ∧ ns.length ≤ 63 ∧ ∀ H', Q (.bl true) H'
theorem law_start {K : PySem.W.Frag} {H : Hp} {a : Addr} {ns : List Int} (hl : ns.length ≤ 63) (_ : Only H) (hS : SqL K H a (ns.map V.int)) : sp_law K [.ref a] H (fun v _ => v = .bl true) (fun _ _ _ => False) := ⟨a, ns, rfl, hS, hl, fun _ => rfl⟩
theorem eqVs_bl : ∀ l : List Bool, eqVs (l.map V.bl) (l.map V.bl) = true
  | [] => by simp [eqVs]
  | b :: l => by
    show (eqV (.bl b) (.bl b) && eqVs (l.map V.bl) (l.map V.bl)) = true
    rw [eqVs_bl l]
    simp [eqV]
seal L2.PE L2.PA L2.PS L2.PSs L2.PT in
theorem ok_a2 (c0 : NoX (CX1 P w)) (T : Txt K mg t) : FnOk P w K mg base (CX1 P w) 14 t.f_a2 t.d_a2 ["script"] (sp_law K) := by
  refine T.F_a2.okX sc_a2 (fun vs H Q E h => ?_) (fun cdv A outer s H vs Q E hr h => ?_)
  · obtain ⟨a, ns, rfl, _⟩ := h
    rfl
  · obtain ⟨a, ns, rfl, hs, hl, q⟩ := h
    refine ⟨_, (pss_cons (ps_set (i := 1) sc_a2.nd (by rfl) (Or.inr rfl) (pe_op op_mod (pe_call (ok_r c0 T) (hr.mono (by decide)) (by rfl) T.m_r T.F_r.kp T.b_r .nil (pass1 c0) (pa_cons (pv 0) (pa_cons pe_int pa_nil))) pe_int))
  (pss_cons (ps_set (i := 2) sc_a2.nd (by rfl) (Or.inl rfl) (pe_op op_mod (pe_call (ok_r c0 T) (hr.mono (by decide)) (by rfl) T.m_r T.F_r.kp T.b_r .nil (pass1 c0) (pa_cons (pv 0) (pa_cons pe_int pa_nil))) (pe_op op_pow pe_int pe_int)))
  (pss_cons (ps_set (i := 3) sc_a2.nd (by rfl) (Or.inl rfl) (pe_lst pa_nil))
  (pss_cons (ps_tryAs (i := 4) (by rfl) (by rfl) sc_a2.nd (by rfl) (fun _ XE hP => (pss_one (ps_expr (pe_callS (okE_n1 T) (hr.mono (by decide)) (by rfl) T.m_n1 T.F_n1.kp T.b_n1 hP (pa_cons (pv 1) (pa_cons (pe_call (ok_r c0 T) (hr.mono (by decide)) (by rfl) T.m_r T.F_r.kp T.b_r .nil (pass1 c0) (pa_cons (pv 0) (pa_cons pe_int pa_nil))) (pa_cons (pv 2) pa_nil)))))))
  (fun _ => (pss_one (ps_set (i := 3) sc_a2.nd (by rfl) (Or.inl rfl) (pe_callH (okH_x_law_which c0 T) ((hr.h.mark _).mono (by decide)) (by rfl) T.m_h1 T.F_h1.kp T.b_h1 .nil (pass1 c0) (pa_cons (pv 4) pa_nil))))) (by rfl) T.m_BookError)
  (pss_one (ps_ret (pe_cmpR (op_eqS (hu0 hr)) (pv 3) (pe_comp (own := (["k"] : List Str)) (fr := (["way"] : List Str)) (ix := ([1] : List Nat)) (by rfl) ⟨by rfl, by decide +kernel, by rfl, by rfl, by rfl⟩ (pi_range1 (by rfl) T.n_range (pa_cons pe_int pa_nil)) (fun _ => (pg_name (i := 0) (show List.Nodup (["k", "way"] : List Str) by decide +kernel) (by rfl) (Or.inl rfl))) (fun _ hB => pts_nil) (fun _ hB => (pe_or (pe_cmpR op_eq (pv 0) (pv 1) (nomark _)) (pe_one (pe_cmpR op_eq (pv 0) pe_int (nomark _)))))) (nomark _)))))))), ?_⟩
    have r1 := Int.emod_nonneg (cellOf ns 0) (show (7 : Int) ≠ 0 by decide)
    have r2 := Int.emod_lt_of_pos (cellOf ns 0) (show (0 : Int) < 7 by decide)
    have r3 := Int.emod_nonneg (cellOf ns 2) (show (10 : Int) ^ Int.toNat 59 ≠ 0 by decide)
    obtain ⟨i, hw⟩ : ∃ i : Nat, cellOf ns 0 % 7 = (i : Int) := ⟨(cellOf ns 0 % 7).toNat, by omega⟩
    have hi : i < 7 := by omega
    have fin : ∀ (f : Int) (d : Addr) (H2 : Hp), H2 d = some (.lst ((List.range 8).map fun (k : Nat) => V.bl (decide (k = i) || decide (k = 7)))) → BlkBody 1 [1] (fun x => gName 0) (fun x => tYes) (fun x => tOrV (tOp rEq (tVar 0) (tVar 1)) (tOp rEq (tVar 0) (tC (V.int 7)))) [some (V.ref a), some (V.int (i : Int)), some (V.int f), some (V.ref d), none] (fun y H2 => rEqS K false (V.ref d) y H2 Q) (Itr 0 (Int.toNat 8)) H2 := by
      intro f d H2 hd
      refine blk_range (fun j ys σ H' => ∃ u, σ = [u, some (.int (i : Int))] ∧ H' = H2 ∧ ys = (List.range j).map fun (k : Nat) => V.bl (decide (k = i) || decide (k = 7))) (by decide) ⟨none, rfl, rfl, rfl⟩ ?_ ?_ ?_
      · rintro j ys σ H3 hj ⟨u, rfl, rfl, rfl⟩
        simp
      · rintro bk j ys σ H3 hj ⟨u, rfl, rfl, rfl⟩
        open_k with [Int.zero_add]
        refine ⟨rfl, ?_⟩
        rw [List.range_succ, List.map_append]
        by_cases c : (j : Int) = (i : Int)
        · have e : j = i := by omega
          rw [if_pos (decide_eq_true c), e]
          simp
        · have e : ¬ j = i := by omega
          rw [if_neg (by simpa using c)]
          refine ⟨rfl, ?_⟩
          have e2 : decide ((j : Int) = 7) = decide (j = 7) := decide_eq_decide.mpr (by omega)
          rw [e2]
          simp [e]
      · rintro ys σ H3 D ⟨u, rfl, rfl, rfl⟩ hD
        have fl : ((List.range 8).map fun (k : Nat) => V.bl (decide (k = i) || decide (k = 7))).all flatV = true := by simp [flatV]
        refine ⟨d, D, _, _, rfl, rfl, Or.inl ⟨SqL.of (upd_old hd hD), SqL.of upd_same⟩, fl, fl, ?_⟩
        have er : Int.toNat 8 = 8 := rfl
        rw [er, if_neg (by decide), all_bl, eqVs_bl]
        exact q _
    open_k with [tTryAs, suiteEnds, sp_cell_at]
    refine ⟨ns, hs, by decide, by decide, ns, hs, by decide, ⟨by decide, by decide, by decide⟩, by decide, by decide, fun p fp b => ⟨ns, (Same.new fp).seq hs, by decide, ?_⟩⟩
    rw [hw]
    generalize cellOf ns 2 % 10 ^ Int.toNat 59 = f at *
    refine ⟨i, _, f, rfl, hi, r3, fun o H1 s1 => ?_⟩
    have i7 : i = 0 ∨ i = 1 ∨ i = 2 ∨ i = 3 ∨ i = 4 ∨ i = 5 ∨ i = 6 := by omega
    rcases i7 with rfl | rfl | rfl | rfl | rfl | rfl | rfl
    · exact ⟨T.xb_NoNet, fun x fx => ⟨x, t.C_NoNet, true, false, false, false, false, false, false, true, rfl, upd_same, T.el_NoNet, T.y_NoNet_0, T.y_NoNet_1, T.y_NoNet_2, T.y_NoNet_3, T.y_NoNet_4, T.y_NoNet_5, T.y_NoNet_6, T.y_NoNet_7, fun d H2 s2 hd => ⟨by decide, by decide, fin f d H2 hd⟩⟩⟩
    · exact ⟨T.xb_NoWords, fun x fx => ⟨x, t.C_NoWords, false, true, false, false, false, false, false, true, rfl, upd_same, T.el_NoWords, T.y_NoWords_0, T.y_NoWords_1, T.y_NoWords_2, T.y_NoWords_3, T.y_NoWords_4, T.y_NoWords_5, T.y_NoWords_6, T.y_NoWords_7, fun d H2 s2 hd => ⟨by decide, by decide, fin f d H2 hd⟩⟩⟩
    · exact ⟨T.xb_NotRead, fun x fx => ⟨x, t.C_NotRead, false, false, true, false, false, false, false, true, rfl, upd_same, T.el_NotRead, T.y_NotRead_0, T.y_NotRead_1, T.y_NotRead_2, T.y_NotRead_3, T.y_NotRead_4, T.y_NotRead_5, T.y_NotRead_6, T.y_NotRead_7, fun d H2 s2 hd => ⟨by decide, by decide, fin f d H2 hd⟩⟩⟩
    · exact ⟨T.xb_NoPlace, fun x fx => ⟨x, t.C_NoPlace, false, false, false, true, false, false, false, true, rfl, upd_same, T.el_NoPlace, T.y_NoPlace_0, T.y_NoPlace_1, T.y_NoPlace_2, T.y_NoPlace_3, T.y_NoPlace_4, T.y_NoPlace_5, T.y_NoPlace_6, T.y_NoPlace_7, fun d H2 s2 hd => ⟨by decide, by decide, fin f d H2 hd⟩⟩⟩
    · exact ⟨T.xb_NoTree, fun x fx => ⟨x, t.C_NoTree, false, false, false, false, true, false, false, true, rfl, upd_same, T.el_NoTree, T.y_NoTree_0, T.y_NoTree_1, T.y_NoTree_2, T.y_NoTree_3, T.y_NoTree_4, T.y_NoTree_5, T.y_NoTree_6, T.y_NoTree_7, fun d H2 s2 hd => ⟨by decide, by decide, fin f d H2 hd⟩⟩⟩
    · exact ⟨T.xb_NoRing, fun x fx => ⟨x, t.C_NoRing, false, false, false, false, false, true, false, true, rfl, upd_same, T.el_NoRing, T.y_NoRing_0, T.y_NoRing_1, T.y_NoRing_2, T.y_NoRing_3, T.y_NoRing_4, T.y_NoRing_5, T.y_NoRing_6, T.y_NoRing_7, fun d H2 s2 hd => ⟨by decide, by decide, fin f d H2 hd⟩⟩⟩
    · exact ⟨T.xb_NoNumber, fun x fx => ⟨x, t.C_NoNumber, false, false, false, false, false, false, true, true, rfl, upd_same, T.el_NoNumber, T.y_NoNumber_0, T.y_NoNumber_1, T.y_NoNumber_2, T.y_NoNumber_3, T.y_NoNumber_4, T.y_NoNumber_5, T.y_NoNumber_6, T.y_NoNumber_7, fun d H2 s2 hd => ⟨by decide, by decide, fin f d H2 hd⟩⟩⟩
theorem law_fn (T : Txt K mg t) : ∃ fd : FuncData, (∀ (s : Shared) (u : Value), BindsTo s fd ⟨[u], []⟩ [("script", u)]) ∧ ∀ base : Heap, FnOk P w K mg base (CX1 P w) 14 t.f_a2 fd ["script"] (sp_law K) := by
  obtain ⟨oc, od, kV, doc, pm, an, cdv, ct, osl, e, lk, hcd⟩ := T.F_a2.ex
  refine ⟨t.d_a2, ?_, fun base => ok_a2 nox1 T⟩
  rw [e]
  exact fun s u => .of_eq rfl
end
theorem txt_mk {K : PySem.W.Frag} {h : Heap} {mg : Str → Option Value} {f_w f_f f_a f_o1 f_x f_o f_y f_i1 f_j1 f_s1 f_g f_j f_b f_c f_u f_z f_k1 f_u1 f_p f_v1 f_a1 f_b1 f_q f_k f_v f_z1 f_w1 f_p1 f_c1 f_l1 f_x1 f_d1 f_m1 f_e1 f_t1 f_h f_q1 f_l f_e f_d f_f1 f_r1 f_g1 f_y1 f_r f_h1 f_m f_n f_s f_t f_i f_n1 f_a2 C_BookError C_NoNet C_NoWords C_NotRead C_NoPlace C_NoTree C_NoRing C_NoNumber C_Net C_Tally : Addr}
    {k_MOST_PLACES k_MOST_ROADS k_MOST_SIGNS k_MOST_SIZE k_MOST_WORDS k_FIGURES : Value}
 {od_w an_w od_f an_f od_a an_a od_o1 an_o1 od_x an_x od_o an_o od_y an_y od_i1 an_i1 od_j1 an_j1 od_s1 an_s1 od_g an_g od_j an_j od_b an_b od_c an_c od_u an_u od_z an_z od_k1 an_k1 od_u1 an_u1 od_p an_p od_v1 an_v1 od_a1 an_a1 od_b1 an_b1 od_q an_q od_k an_k od_v an_v od_z1 an_z1 od_w1 an_w1 od_p1 an_p1 od_c1 an_c1 od_l1 an_l1 od_x1 an_x1 od_d1 an_d1 od_m1 an_m1 od_e1 an_e1 od_t1 an_t1 od_h an_h od_q1 an_q1 od_l an_l od_e an_e od_d an_d od_f1 an_f1 od_r1 an_r1 od_g1 an_g1 od_y1 an_y1 od_r an_r od_h1 an_h1 od_m an_m od_n an_n od_s an_s od_t an_t od_i an_i od_n1 an_n1 od_a2 an_a2 : Option Addr} {sl_w sl_f sl_a sl_o1 sl_x sl_o sl_y sl_i1 sl_j1 sl_s1 sl_g sl_j sl_b sl_c sl_u sl_z sl_k1 sl_u1 sl_p sl_v1 sl_a1 sl_b1 sl_q sl_k sl_v sl_z1 sl_w1 sl_p1 sl_c1 sl_l1 sl_x1 sl_d1 sl_m1 sl_e1 sl_t1 sl_h sl_q1 sl_l sl_e sl_d sl_f1 sl_r1 sl_g1 sl_y1 sl_r sl_h1 sl_m sl_n sl_s sl_t sl_i sl_n1 sl_a2 : Array (Option Value)} {oc_w kV_w dc_w pm_w cd_w ct_w oc_f kV_f dc_f pm_f cd_f ct_f oc_a kV_a dc_a pm_a cd_a ct_a oc_o1 kV_o1 dc_o1 pm_o1 cd_o1 ct_o1 oc_x kV_x dc_x pm_x cd_x ct_x oc_o kV_o dc_o pm_o cd_o ct_o oc_y kV_y dc_y pm_y cd_y ct_y oc_i1 kV_i1 dc_i1 pm_i1 cd_i1 ct_i1 oc_j1 kV_j1 dc_j1 pm_j1 cd_j1 ct_j1 oc_s1 kV_s1 dc_s1 pm_s1 cd_s1 ct_s1 oc_g kV_g dc_g pm_g cd_g ct_g oc_j kV_j dc_j pm_j cd_j ct_j oc_b kV_b dc_b pm_b cd_b ct_b oc_c kV_c dc_c pm_c cd_c ct_c oc_u kV_u dc_u pm_u cd_u ct_u oc_z kV_z dc_z pm_z cd_z ct_z oc_k1 kV_k1 dc_k1 pm_k1 cd_k1 ct_k1 oc_u1 kV_u1 dc_u1 pm_u1 cd_u1 ct_u1 oc_p kV_p dc_p pm_p cd_p ct_p oc_v1 kV_v1 dc_v1 pm_v1 cd_v1 ct_v1 oc_a1 kV_a1 dc_a1 pm_a1 cd_a1 ct_a1 oc_b1 kV_b1 dc_b1 pm_b1 cd_b1 ct_b1 oc_q kV_q dc_q pm_q cd_q ct_q oc_k kV_k dc_k pm_k cd_k ct_k oc_v kV_v dc_v pm_v cd_v ct_v oc_z1 kV_z1 dc_z1 pm_z1 cd_z1 ct_z1 oc_w1 kV_w1 dc_w1 pm_w1 cd_w1 ct_w1 oc_p1 kV_p1 dc_p1 pm_p1 cd_p1 ct_p1 oc_c1 kV_c1 dc_c1 pm_c1 cd_c1 ct_c1 oc_l1 kV_l1 dc_l1 pm_l1 cd_l1 ct_l1 oc_x1 kV_x1 dc_x1 pm_x1 cd_x1 ct_x1 oc_d1 kV_d1 dc_d1 pm_d1 cd_d1 ct_d1 oc_m1 kV_m1 dc_m1 pm_m1 cd_m1 ct_m1 oc_e1 kV_e1 dc_e1 pm_e1 cd_e1 ct_e1 oc_t1 kV_t1 dc_t1 pm_t1 cd_t1 ct_t1 oc_h kV_h dc_h pm_h cd_h ct_h oc_q1 kV_q1 dc_q1 pm_q1 cd_q1 ct_q1 oc_l kV_l dc_l pm_l cd_l ct_l oc_e kV_e dc_e pm_e cd_e ct_e oc_d kV_d dc_d pm_d cd_d ct_d oc_f1 kV_f1 dc_f1 pm_f1 cd_f1 ct_f1 oc_r1 kV_r1 dc_r1 pm_r1 cd_r1 ct_r1 oc_g1 kV_g1 dc_g1 pm_g1 cd_g1 ct_g1 oc_y1 kV_y1 dc_y1 pm_y1 cd_y1 ct_y1 oc_r kV_r dc_r pm_r cd_r ct_r oc_h1 kV_h1 dc_h1 pm_h1 cd_h1 ct_h1 oc_m kV_m dc_m pm_m cd_m ct_m oc_n kV_n dc_n pm_n cd_n ct_n oc_s kV_s dc_s pm_s cd_s ct_s oc_t kV_t dc_t pm_t cd_t ct_t oc_i kV_i dc_i pm_i cd_i ct_i oc_n1 kV_n1 dc_n1 pm_n1 cd_n1 ct_n1 oc_a2 kV_a2 dc_a2 pm_a2 cd_a2 ct_a2 : Value}
    (X : K.In h) (G : h.Ns mainGlobals mg)
    (aC_BookError : PySem.W.nsIn K mainGlobals "BookError" = some (some (.ref C_BookError)))
    (aC_NoNet : PySem.W.nsIn K mainGlobals "NoNet" = some (some (.ref C_NoNet)))
    (aC_NoWords : PySem.W.nsIn K mainGlobals "NoWords" = some (some (.ref C_NoWords)))
    (aC_NotRead : PySem.W.nsIn K mainGlobals "NotRead" = some (some (.ref C_NotRead)))
    (aC_NoPlace : PySem.W.nsIn K mainGlobals "NoPlace" = some (some (.ref C_NoPlace)))
    (aC_NoTree : PySem.W.nsIn K mainGlobals "NoTree" = some (some (.ref C_NoTree)))
    (aC_NoRing : PySem.W.nsIn K mainGlobals "NoRing" = some (some (.ref C_NoRing)))
    (aC_NoNumber : PySem.W.nsIn K mainGlobals "NoNumber" = some (some (.ref C_NoNumber)))
    (aC_Net : PySem.W.nsIn K mainGlobals "Net" = some (some (.ref C_Net)))
    (aC_Tally : PySem.W.nsIn K mainGlobals "Tally" = some (some (.ref C_Tally)))
    (a_w : PySem.W.nsIn K mainGlobals "lies_within" = some (some (.ref f_w)))
    (l_w : K.lookup f_w = some ⟨oc_w, od_w, .func (PySem.W.fnOf "lies_within" "lies_within" (defArgs s_w) (defBody s_w) (defScope s_w) .none kV_w dc_w pm_w an_w cd_w ct_w), sl_w⟩)
    (c_w : PySem.W.codeIn K cd_w "lies_within" = true)
    (k_w : PySem.W.keepIn K (.ref f_w) = true)
    (a_f : PySem.W.nsIn K mainGlobals "ends_lie_within" = some (some (.ref f_f)))
    (l_f : K.lookup f_f = some ⟨oc_f, od_f, .func (PySem.W.fnOf "ends_lie_within" "ends_lie_within" (defArgs s_f) (defBody s_f) (defScope s_f) .none kV_f dc_f pm_f an_f cd_f ct_f), sl_f⟩)
    (c_f : PySem.W.codeIn K cd_f "ends_lie_within" = true)
    (k_f : PySem.W.keepIn K (.ref f_f) = true)
    (a_a : PySem.W.nsIn K mainGlobals "each_place_has_exit" = some (some (.ref f_a)))
    (l_a : K.lookup f_a = some ⟨oc_a, od_a, .func (PySem.W.fnOf "each_place_has_exit" "each_place_has_exit" (defArgs s_a) (defBody s_a) (defScope s_a) .none kV_a dc_a pm_a an_a cd_a ct_a), sl_a⟩)
    (c_a : PySem.W.codeIn K cd_a "each_place_has_exit" = true)
    (k_a : PySem.W.keepIn K (.ref f_a) = true)
    (a_o1 : PySem.W.nsIn K mainGlobals "check_net" = some (some (.ref f_o1)))
    (l_o1 : K.lookup f_o1 = some ⟨oc_o1, od_o1, .func (PySem.W.fnOf "check_net" "check_net" (defArgs s_o1) (defBody s_o1) (defScope s_o1) .none kV_o1 dc_o1 pm_o1 an_o1 cd_o1 ct_o1), sl_o1⟩)
    (c_o1 : PySem.W.codeIn K cd_o1 "check_net" = true)
    (k_o1 : PySem.W.keepIn K (.ref f_o1) = true)
    (a_x : PySem.W.nsIn K mainGlobals "check_place" = some (some (.ref f_x)))
    (l_x : K.lookup f_x = some ⟨oc_x, od_x, .func (PySem.W.fnOf "check_place" "check_place" (defArgs s_x) (defBody s_x) (defScope s_x) .none kV_x dc_x pm_x an_x cd_x ct_x), sl_x⟩)
    (c_x : PySem.W.codeIn K cd_x "check_place" = true)
    (k_x : PySem.W.keepIn K (.ref f_x) = true)
    (a_o : PySem.W.findIn K (.ref C_Net) "__init__" = some (some (.ref f_o)))
    (l_o : K.lookup f_o = some ⟨oc_o, od_o, .func (PySem.W.fnOf "__init__" "Net.__init__" (defArgs s_o) (defBody s_o) (defScope s_o) .none kV_o dc_o pm_o an_o cd_o ct_o), sl_o⟩)
    (c_o : PySem.W.codeIn K cd_o "Net.__init__" = true)
    (k_o : PySem.W.keepIn K (.ref f_o) = true)
    (i_o : PySem.W.isFn K (.ref f_o) = true)
    (a_y : PySem.W.findIn K (.ref C_Net) "places" = some (some (.ref f_y)))
    (l_y : K.lookup f_y = some ⟨oc_y, od_y, .func (PySem.W.fnOf "places" "Net.places" (defArgs s_y) (defBody s_y) (defScope s_y) .none kV_y dc_y pm_y an_y cd_y ct_y), sl_y⟩)
    (c_y : PySem.W.codeIn K cd_y "Net.places" = true)
    (k_y : PySem.W.keepIn K (.ref f_y) = true)
    (i_y : PySem.W.isFn K (.ref f_y) = true)
    (a_i1 : PySem.W.findIn K (.ref C_Net) "roads" = some (some (.ref f_i1)))
    (l_i1 : K.lookup f_i1 = some ⟨oc_i1, od_i1, .func (PySem.W.fnOf "roads" "Net.roads" (defArgs s_i1) (defBody s_i1) (defScope s_i1) .none kV_i1 dc_i1 pm_i1 an_i1 cd_i1 ct_i1), sl_i1⟩)
    (c_i1 : PySem.W.codeIn K cd_i1 "Net.roads" = true)
    (k_i1 : PySem.W.keepIn K (.ref f_i1) = true)
    (i_i1 : PySem.W.isFn K (.ref f_i1) = true)
    (a_j1 : PySem.W.findIn K (.ref C_Net) "exits" = some (some (.ref f_j1)))
    (l_j1 : K.lookup f_j1 = some ⟨oc_j1, od_j1, .func (PySem.W.fnOf "exits" "Net.exits" (defArgs s_j1) (defBody s_j1) (defScope s_j1) .none kV_j1 dc_j1 pm_j1 an_j1 cd_j1 ct_j1), sl_j1⟩)
    (c_j1 : PySem.W.codeIn K cd_j1 "Net.exits" = true)
    (k_j1 : PySem.W.keepIn K (.ref f_j1) = true)
    (i_j1 : PySem.W.isFn K (.ref f_j1) = true)
    (a_s1 : PySem.W.nsIn K mainGlobals "lone_row" = some (some (.ref f_s1)))
    (l_s1 : K.lookup f_s1 = some ⟨oc_s1, od_s1, .func (PySem.W.fnOf "lone_row" "lone_row" (defArgs s_s1) (defBody s_s1) (defScope s_s1) .none kV_s1 dc_s1 pm_s1 an_s1 cd_s1 ct_s1), sl_s1⟩)
    (c_s1 : PySem.W.codeIn K cd_s1 "lone_row" = true)
    (k_s1 : PySem.W.keepIn K (.ref f_s1) = true)
    (a_g : PySem.W.findIn K (.ref C_Tally) "__init__" = some (some (.ref f_g)))
    (l_g : K.lookup f_g = some ⟨oc_g, od_g, .func (PySem.W.fnOf "__init__" "Tally.__init__" (defArgs s_g) (defBody s_g) (defScope s_g) .none kV_g dc_g pm_g an_g cd_g ct_g), sl_g⟩)
    (c_g : PySem.W.codeIn K cd_g "Tally.__init__" = true)
    (k_g : PySem.W.keepIn K (.ref f_g) = true)
    (i_g : PySem.W.isFn K (.ref f_g) = true)
    (a_j : PySem.W.findIn K (.ref C_Tally) "many_by" = some (some (.ref f_j)))
    (l_j : K.lookup f_j = some ⟨oc_j, od_j, .func (PySem.W.fnOf "many_by" "Tally.many_by" (defArgs s_j) (defBody s_j) (defScope s_j) .none kV_j dc_j pm_j an_j cd_j ct_j), sl_j⟩)
    (c_j : PySem.W.codeIn K cd_j "Tally.many_by" = true)
    (k_j : PySem.W.keepIn K (.ref f_j) = true)
    (i_j : PySem.W.isFn K (.ref f_j) = true)
    (a_b : PySem.W.findIn K (.ref C_Tally) "changed_row" = some (some (.ref f_b)))
    (l_b : K.lookup f_b = some ⟨oc_b, od_b, .func (PySem.W.fnOf "changed_row" "Tally.changed_row" (defArgs s_b) (defBody s_b) (defScope s_b) .none kV_b dc_b pm_b an_b cd_b ct_b), sl_b⟩)
    (c_b : PySem.W.codeIn K cd_b "Tally.changed_row" = true)
    (k_b : PySem.W.keepIn K (.ref f_b) = true)
    (i_b : PySem.W.isFn K (.ref f_b) = true)
    (a_c : PySem.W.findIn K (.ref C_Tally) "give_roads" = some (some (.ref f_c)))
    (l_c : K.lookup f_c = some ⟨oc_c, od_c, .func (PySem.W.fnOf "give_roads" "Tally.give_roads" (defArgs s_c) (defBody s_c) (defScope s_c) .none kV_c dc_c pm_c an_c cd_c ct_c), sl_c⟩)
    (c_c : PySem.W.codeIn K cd_c "Tally.give_roads" = true)
    (k_c : PySem.W.keepIn K (.ref f_c) = true)
    (i_c : PySem.W.isFn K (.ref f_c) = true)
    (a_u : PySem.W.nsIn K mainGlobals "other_places" = some (some (.ref f_u)))
    (l_u : K.lookup f_u = some ⟨oc_u, od_u, .func (PySem.W.fnOf "other_places" "other_places" (defArgs s_u) (defBody s_u) (defScope s_u) .none kV_u dc_u pm_u an_u cd_u ct_u), sl_u⟩)
    (c_u : PySem.W.codeIn K cd_u "other_places" = true)
    (k_u : PySem.W.keepIn K (.ref f_u) = true)
    (a_z : PySem.W.nsIn K mainGlobals "whole_tally" = some (some (.ref f_z)))
    (l_z : K.lookup f_z = some ⟨oc_z, od_z, .func (PySem.W.fnOf "whole_tally" "whole_tally" (defArgs s_z) (defBody s_z) (defScope s_z) .none kV_z dc_z pm_z an_z cd_z ct_z), sl_z⟩)
    (c_z : PySem.W.codeIn K cd_z "whole_tally" = true)
    (k_z : PySem.W.keepIn K (.ref f_z) = true)
    (a_k1 : PySem.W.nsIn K mainGlobals "many_trees" = some (some (.ref f_k1)))
    (l_k1 : K.lookup f_k1 = some ⟨oc_k1, od_k1, .func (PySem.W.fnOf "many_trees" "many_trees" (defArgs s_k1) (defBody s_k1) (defScope s_k1) .none kV_k1 dc_k1 pm_k1 an_k1 cd_k1 ct_k1), sl_k1⟩)
    (c_k1 : PySem.W.codeIn K cd_k1 "many_trees" = true)
    (k_k1 : PySem.W.keepIn K (.ref f_k1) = true)
    (a_u1 : PySem.W.nsIn K mainGlobals "tree_at" = some (some (.ref f_u1)))
    (l_u1 : K.lookup f_u1 = some ⟨oc_u1, od_u1, .func (PySem.W.fnOf "tree_at" "tree_at" (defArgs s_u1) (defBody s_u1) (defScope s_u1) .none kV_u1 dc_u1 pm_u1 an_u1 cd_u1 ct_u1), sl_u1⟩)
    (c_u1 : PySem.W.codeIn K cd_u1 "tree_at" = true)
    (k_u1 : PySem.W.keepIn K (.ref f_u1) = true)
    (a_p : PySem.W.nsIn K mainGlobals "comes_to_none" = some (some (.ref f_p)))
    (l_p : K.lookup f_p = some ⟨oc_p, od_p, .func (PySem.W.fnOf "comes_to_none" "comes_to_none" (defArgs s_p) (defBody s_p) (defScope s_p) .none kV_p dc_p pm_p an_p cd_p ct_p), sl_p⟩)
    (c_p : PySem.W.codeIn K cd_p "comes_to_none" = true)
    (k_p : PySem.W.keepIn K (.ref f_p) = true)
    (a_v1 : PySem.W.nsIn K mainGlobals "is_tree" = some (some (.ref f_v1)))
    (l_v1 : K.lookup f_v1 = some ⟨oc_v1, od_v1, .func (PySem.W.fnOf "is_tree" "is_tree" (defArgs s_v1) (defBody s_v1) (defScope s_v1) .none kV_v1 dc_v1 pm_v1 an_v1 cd_v1 ct_v1), sl_v1⟩)
    (c_v1 : PySem.W.codeIn K cd_v1 "is_tree" = true)
    (k_v1 : PySem.W.keepIn K (.ref f_v1) = true)
    (a_a1 : PySem.W.nsIn K mainGlobals "tree_number" = some (some (.ref f_a1)))
    (l_a1 : K.lookup f_a1 = some ⟨oc_a1, od_a1, .func (PySem.W.fnOf "tree_number" "tree_number" (defArgs s_a1) (defBody s_a1) (defScope s_a1) .none kV_a1 dc_a1 pm_a1 an_a1 cd_a1 ct_a1), sl_a1⟩)
    (c_a1 : PySem.W.codeIn K cd_a1 "tree_number" = true)
    (k_a1 : PySem.W.keepIn K (.ref f_a1) = true)
    (a_b1 : PySem.W.nsIn K mainGlobals "first_place" = some (some (.ref f_b1)))
    (l_b1 : K.lookup f_b1 = some ⟨oc_b1, od_b1, .func (PySem.W.fnOf "first_place" "first_place" (defArgs s_b1) (defBody s_b1) (defScope s_b1) .none kV_b1 dc_b1 pm_b1 an_b1 cd_b1 ct_b1), sl_b1⟩)
    (c_b1 : PySem.W.codeIn K cd_b1 "first_place" = true)
    (k_b1 : PySem.W.keepIn K (.ref f_b1) = true)
    (a_q : PySem.W.nsIn K mainGlobals "unlike_places" = some (some (.ref f_q)))
    (l_q : K.lookup f_q = some ⟨oc_q, od_q, .func (PySem.W.fnOf "unlike_places" "unlike_places" (defArgs s_q) (defBody s_q) (defScope s_q) .none kV_q dc_q pm_q an_q cd_q ct_q), sl_q⟩)
    (c_q : PySem.W.codeIn K cd_q "unlike_places" = true)
    (k_q : PySem.W.keepIn K (.ref f_q) = true)
    (a_k : PySem.W.nsIn K mainGlobals "reached_places" = some (some (.ref f_k)))
    (l_k : K.lookup f_k = some ⟨oc_k, od_k, .func (PySem.W.fnOf "reached_places" "reached_places" (defArgs s_k) (defBody s_k) (defScope s_k) .none kV_k dc_k pm_k an_k cd_k ct_k), sl_k⟩)
    (c_k : PySem.W.codeIn K cd_k "reached_places" = true)
    (k_k : PySem.W.keepIn K (.ref f_k) = true)
    (a_v : PySem.W.nsIn K mainGlobals "apart_places" = some (some (.ref f_v)))
    (l_v : K.lookup f_v = some ⟨oc_v, od_v, .func (PySem.W.fnOf "apart_places" "apart_places" (defArgs s_v) (defBody s_v) (defScope s_v) .none kV_v dc_v pm_v an_v cd_v ct_v), sl_v⟩)
    (c_v : PySem.W.codeIn K cd_v "apart_places" = true)
    (k_v : PySem.W.keepIn K (.ref f_v) = true)
    (a_z1 : PySem.W.nsIn K mainGlobals "why" = some (some (.ref f_z1)))
    (l_z1 : K.lookup f_z1 = some ⟨oc_z1, od_z1, .func (PySem.W.fnOf "why" "why" (defArgs s_z1) (defBody s_z1) (defScope s_z1) .none kV_z1 dc_z1 pm_z1 an_z1 cd_z1 ct_z1), sl_z1⟩)
    (c_z1 : PySem.W.codeIn K cd_z1 "why" = true)
    (k_z1 : PySem.W.keepIn K (.ref f_z1) = true)
    (a_w1 : PySem.W.nsIn K mainGlobals "is_ring" = some (some (.ref f_w1)))
    (l_w1 : K.lookup f_w1 = some ⟨oc_w1, od_w1, .func (PySem.W.fnOf "is_ring" "is_ring" (defArgs s_w1) (defBody s_w1) (defScope s_w1) .none kV_w1 dc_w1 pm_w1 an_w1 cd_w1 ct_w1), sl_w1⟩)
    (c_w1 : PySem.W.codeIn K cd_w1 "is_ring" = true)
    (k_w1 : PySem.W.keepIn K (.ref f_w1) = true)
    (a_p1 : PySem.W.nsIn K mainGlobals "factorial" = some (some (.ref f_p1)))
    (l_p1 : K.lookup f_p1 = some ⟨oc_p1, od_p1, .func (PySem.W.fnOf "factorial" "factorial" (defArgs s_p1) (defBody s_p1) (defScope s_p1) .none kV_p1 dc_p1 pm_p1 an_p1 cd_p1 ct_p1), sl_p1⟩)
    (c_p1 : PySem.W.codeIn K cd_p1 "factorial" = true)
    (k_p1 : PySem.W.keepIn K (.ref f_p1) = true)
    (a_c1 : PySem.W.nsIn K mainGlobals "many_orders" = some (some (.ref f_c1)))
    (l_c1 : K.lookup f_c1 = some ⟨oc_c1, od_c1, .func (PySem.W.fnOf "many_orders" "many_orders" (defArgs s_c1) (defBody s_c1) (defScope s_c1) .none kV_c1 dc_c1 pm_c1 an_c1 cd_c1 ct_c1), sl_c1⟩)
    (c_c1 : PySem.W.codeIn K cd_c1 "many_orders" = true)
    (k_c1 : PySem.W.keepIn K (.ref f_c1) = true)
    (a_l1 : PySem.W.nsIn K mainGlobals "many_rings" = some (some (.ref f_l1)))
    (l_l1 : K.lookup f_l1 = some ⟨oc_l1, od_l1, .func (PySem.W.fnOf "many_rings" "many_rings" (defArgs s_l1) (defBody s_l1) (defScope s_l1) .none kV_l1 dc_l1 pm_l1 an_l1 cd_l1 ct_l1), sl_l1⟩)
    (c_l1 : PySem.W.codeIn K cd_l1 "many_rings" = true)
    (k_l1 : PySem.W.keepIn K (.ref f_l1) = true)
    (a_x1 : PySem.W.nsIn K mainGlobals "ring_at" = some (some (.ref f_x1)))
    (l_x1 : K.lookup f_x1 = some ⟨oc_x1, od_x1, .func (PySem.W.fnOf "ring_at" "ring_at" (defArgs s_x1) (defBody s_x1) (defScope s_x1) .none kV_x1 dc_x1 pm_x1 an_x1 cd_x1 ct_x1), sl_x1⟩)
    (c_x1 : PySem.W.codeIn K cd_x1 "ring_at" = true)
    (k_x1 : PySem.W.keepIn K (.ref f_x1) = true)
    (a_d1 : PySem.W.nsIn K mainGlobals "ring_number" = some (some (.ref f_d1)))
    (l_d1 : K.lookup f_d1 = some ⟨oc_d1, od_d1, .func (PySem.W.fnOf "ring_number" "ring_number" (defArgs s_d1) (defBody s_d1) (defScope s_d1) .none kV_d1 dc_d1 pm_d1 an_d1 cd_d1 ct_d1), sl_d1⟩)
    (c_d1 : PySem.W.codeIn K cd_d1 "ring_number" = true)
    (k_d1 : PySem.W.keepIn K (.ref f_d1) = true)
    (a_m1 : PySem.W.nsIn K mainGlobals "many_words" = some (some (.ref f_m1)))
    (l_m1 : K.lookup f_m1 = some ⟨oc_m1, od_m1, .func (PySem.W.fnOf "many_words" "many_words" (defArgs s_m1) (defBody s_m1) (defScope s_m1) .none kV_m1 dc_m1 pm_m1 an_m1 cd_m1 ct_m1), sl_m1⟩)
    (c_m1 : PySem.W.codeIn K cd_m1 "many_words" = true)
    (k_m1 : PySem.W.keepIn K (.ref f_m1) = true)
    (a_e1 : PySem.W.nsIn K mainGlobals "check_words" = some (some (.ref f_e1)))
    (l_e1 : K.lookup f_e1 = some ⟨oc_e1, od_e1, .func (PySem.W.fnOf "check_words" "check_words" (defArgs s_e1) (defBody s_e1) (defScope s_e1) .none kV_e1 dc_e1 pm_e1 an_e1 cd_e1 ct_e1), sl_e1⟩)
    (c_e1 : PySem.W.codeIn K cd_e1 "check_words" = true)
    (k_e1 : PySem.W.keepIn K (.ref f_e1) = true)
    (a_t1 : PySem.W.nsIn K mainGlobals "word_net" = some (some (.ref f_t1)))
    (l_t1 : K.lookup f_t1 = some ⟨oc_t1, od_t1, .func (PySem.W.fnOf "word_net" "word_net" (defArgs s_t1) (defBody s_t1) (defScope s_t1) .none kV_t1 dc_t1 pm_t1 an_t1 cd_t1 ct_t1), sl_t1⟩)
    (c_t1 : PySem.W.codeIn K cd_t1 "word_net" = true)
    (k_t1 : PySem.W.keepIn K (.ref f_t1) = true)
    (a_h : PySem.W.nsIn K mainGlobals "many_word_rings" = some (some (.ref f_h)))
    (l_h : K.lookup f_h = some ⟨oc_h, od_h, .func (PySem.W.fnOf "many_word_rings" "many_word_rings" (defArgs s_h) (defBody s_h) (defScope s_h) .none kV_h dc_h pm_h an_h cd_h ct_h), sl_h⟩)
    (c_h : PySem.W.codeIn K cd_h "many_word_rings" = true)
    (k_h : PySem.W.keepIn K (.ref f_h) = true)
    (a_q1 : PySem.W.nsIn K mainGlobals "word_ring" = some (some (.ref f_q1)))
    (l_q1 : K.lookup f_q1 = some ⟨oc_q1, od_q1, .func (PySem.W.fnOf "word_ring" "word_ring" (defArgs s_q1) (defBody s_q1) (defScope s_q1) .none kV_q1 dc_q1 pm_q1 an_q1 cd_q1 ct_q1), sl_q1⟩)
    (c_q1 : PySem.W.codeIn K cd_q1 "word_ring" = true)
    (k_q1 : PySem.W.keepIn K (.ref f_q1) = true)
    (a_l : PySem.W.nsIn K mainGlobals "word_ending_at" = some (some (.ref f_l)))
    (l_l : K.lookup f_l = some ⟨oc_l, od_l, .func (PySem.W.fnOf "word_ending_at" "word_ending_at" (defArgs s_l) (defBody s_l) (defScope s_l) .none kV_l dc_l pm_l an_l cd_l ct_l), sl_l⟩)
    (c_l : PySem.W.codeIn K cd_l "word_ending_at" = true)
    (k_l : PySem.W.keepIn K (.ref f_l) = true)
    (a_e : PySem.W.nsIn K mainGlobals "word_ring_number" = some (some (.ref f_e)))
    (l_e : K.lookup f_e = some ⟨oc_e, od_e, .func (PySem.W.fnOf "word_ring_number" "word_ring_number" (defArgs s_e) (defBody s_e) (defScope s_e) .none kV_e dc_e pm_e an_e cd_e ct_e), sl_e⟩)
    (c_e : PySem.W.codeIn K cd_e "word_ring_number" = true)
    (k_e : PySem.W.keepIn K (.ref f_e) = true)
    (a_d : PySem.W.nsIn K mainGlobals "is_written_number" = some (some (.ref f_d)))
    (l_d : K.lookup f_d = some ⟨oc_d, od_d, .func (PySem.W.fnOf "is_written_number" "is_written_number" (defArgs s_d) (defBody s_d) (defScope s_d) .none kV_d dc_d pm_d an_d cd_d ct_d), sl_d⟩)
    (c_d : PySem.W.codeIn K cd_d "is_written_number" = true)
    (k_d : PySem.W.keepIn K (.ref f_d) = true)
    (a_f1 : PySem.W.nsIn K mainGlobals "read_number" = some (some (.ref f_f1)))
    (l_f1 : K.lookup f_f1 = some ⟨oc_f1, od_f1, .func (PySem.W.fnOf "read_number" "read_number" (defArgs s_f1) (defBody s_f1) (defScope s_f1) .none kV_f1 dc_f1 pm_f1 an_f1 cd_f1 ct_f1), sl_f1⟩)
    (c_f1 : PySem.W.codeIn K cd_f1 "read_number" = true)
    (k_f1 : PySem.W.keepIn K (.ref f_f1) = true)
    (a_r1 : PySem.W.nsIn K mainGlobals "read_road" = some (some (.ref f_r1)))
    (l_r1 : K.lookup f_r1 = some ⟨oc_r1, od_r1, .func (PySem.W.fnOf "read_road" "read_road" (defArgs s_r1) (defBody s_r1) (defScope s_r1) .none kV_r1 dc_r1 pm_r1 an_r1 cd_r1 ct_r1), sl_r1⟩)
    (c_r1 : PySem.W.codeIn K cd_r1 "read_road" = true)
    (k_r1 : PySem.W.keepIn K (.ref f_r1) = true)
    (a_g1 : PySem.W.nsIn K mainGlobals "read_places" = some (some (.ref f_g1)))
    (l_g1 : K.lookup f_g1 = some ⟨oc_g1, od_g1, .func (PySem.W.fnOf "read_places" "read_places" (defArgs s_g1) (defBody s_g1) (defScope s_g1) .none kV_g1 dc_g1 pm_g1 an_g1 cd_g1 ct_g1), sl_g1⟩)
    (c_g1 : PySem.W.codeIn K cd_g1 "read_places" = true)
    (k_g1 : PySem.W.keepIn K (.ref f_g1) = true)
    (a_y1 : PySem.W.nsIn K mainGlobals "read" = some (some (.ref f_y1)))
    (l_y1 : K.lookup f_y1 = some ⟨oc_y1, od_y1, .func (PySem.W.fnOf "read" "read" (defArgs s_y1) (defBody s_y1) (defScope s_y1) .none kV_y1 dc_y1 pm_y1 an_y1 cd_y1 ct_y1), sl_y1⟩)
    (c_y1 : PySem.W.codeIn K cd_y1 "read" = true)
    (k_y1 : PySem.W.keepIn K (.ref f_y1) = true)
    (a_r : PySem.W.nsIn K mainGlobals "_law_cell_at" = some (some (.ref f_r)))
    (l_r : K.lookup f_r = some ⟨oc_r, od_r, .func (PySem.W.fnOf "_law_cell_at" "_law_cell_at" (defArgs s_r) (defBody s_r) (defScope s_r) .none kV_r dc_r pm_r an_r cd_r ct_r), sl_r⟩)
    (c_r : PySem.W.codeIn K cd_r "_law_cell_at" = true)
    (k_r : PySem.W.keepIn K (.ref f_r) = true)
    (a_h1 : PySem.W.nsIn K mainGlobals "_law_which" = some (some (.ref f_h1)))
    (l_h1 : K.lookup f_h1 = some ⟨oc_h1, od_h1, .func (PySem.W.fnOf "_law_which" "_law_which" (defArgs s_h1) (defBody s_h1) (defScope s_h1) .none kV_h1 dc_h1 pm_h1 an_h1 cd_h1 ct_h1), sl_h1⟩)
    (c_h1 : PySem.W.codeIn K cd_h1 "_law_which" = true)
    (k_h1 : PySem.W.keepIn K (.ref f_h1) = true)
    (a_m : PySem.W.nsIn K mainGlobals "_law_no_words" = some (some (.ref f_m)))
    (l_m : K.lookup f_m = some ⟨oc_m, od_m, .func (PySem.W.fnOf "_law_no_words" "_law_no_words" (defArgs s_m) (defBody s_m) (defScope s_m) .none kV_m dc_m pm_m an_m cd_m ct_m), sl_m⟩)
    (c_m : PySem.W.codeIn K cd_m "_law_no_words" = true)
    (k_m : PySem.W.keepIn K (.ref f_m) = true)
    (a_n : PySem.W.nsIn K mainGlobals "_law_no_place" = some (some (.ref f_n)))
    (l_n : K.lookup f_n = some ⟨oc_n, od_n, .func (PySem.W.fnOf "_law_no_place" "_law_no_place" (defArgs s_n) (defBody s_n) (defScope s_n) .none kV_n dc_n pm_n an_n cd_n ct_n), sl_n⟩)
    (c_n : PySem.W.codeIn K cd_n "_law_no_place" = true)
    (k_n : PySem.W.keepIn K (.ref f_n) = true)
    (a_s : PySem.W.nsIn K mainGlobals "_law_no_tree" = some (some (.ref f_s)))
    (l_s : K.lookup f_s = some ⟨oc_s, od_s, .func (PySem.W.fnOf "_law_no_tree" "_law_no_tree" (defArgs s_s) (defBody s_s) (defScope s_s) .none kV_s dc_s pm_s an_s cd_s ct_s), sl_s⟩)
    (c_s : PySem.W.codeIn K cd_s "_law_no_tree" = true)
    (k_s : PySem.W.keepIn K (.ref f_s) = true)
    (a_t : PySem.W.nsIn K mainGlobals "_law_no_ring" = some (some (.ref f_t)))
    (l_t : K.lookup f_t = some ⟨oc_t, od_t, .func (PySem.W.fnOf "_law_no_ring" "_law_no_ring" (defArgs s_t) (defBody s_t) (defScope s_t) .none kV_t dc_t pm_t an_t cd_t ct_t), sl_t⟩)
    (c_t : PySem.W.codeIn K cd_t "_law_no_ring" = true)
    (k_t : PySem.W.keepIn K (.ref f_t) = true)
    (a_i : PySem.W.nsIn K mainGlobals "_law_no_number" = some (some (.ref f_i)))
    (l_i : K.lookup f_i = some ⟨oc_i, od_i, .func (PySem.W.fnOf "_law_no_number" "_law_no_number" (defArgs s_i) (defBody s_i) (defScope s_i) .none kV_i dc_i pm_i an_i cd_i ct_i), sl_i⟩)
    (c_i : PySem.W.codeIn K cd_i "_law_no_number" = true)
    (k_i : PySem.W.keepIn K (.ref f_i) = true)
    (a_n1 : PySem.W.nsIn K mainGlobals "_law_done" = some (some (.ref f_n1)))
    (l_n1 : K.lookup f_n1 = some ⟨oc_n1, od_n1, .func (PySem.W.fnOf "_law_done" "_law_done" (defArgs s_n1) (defBody s_n1) (defScope s_n1) .none kV_n1 dc_n1 pm_n1 an_n1 cd_n1 ct_n1), sl_n1⟩)
    (c_n1 : PySem.W.codeIn K cd_n1 "_law_done" = true)
    (k_n1 : PySem.W.keepIn K (.ref f_n1) = true)
    (a_a2 : PySem.W.nsIn K mainGlobals "law" = some (some (.ref f_a2)))
    (l_a2 : K.lookup f_a2 = some ⟨oc_a2, od_a2, .func (PySem.W.fnOf "law" "law" (defArgs s_a2) (defBody s_a2) (defScope s_a2) .none kV_a2 dc_a2 pm_a2 an_a2 cd_a2 ct_a2), sl_a2⟩)
    (c_a2 : PySem.W.codeIn K cd_a2 "law" = true)
    (k_a2 : PySem.W.keepIn K (.ref f_a2) = true)
    (pg_Net : PySem.W.plainGet K C_Net Str.empty = true)
    (hd_Net : PySem.W.hasDictIn K C_Net = true)
    (po_Net : PySem.W.plainOver K C_Net = true)
    (sa_Net : PySem.W.findIn K (.ref C_Net) "__setattr__" = some (some (.builtin "object.__setattr__")))
    (mk_Net : PySem.W.makesIn K C_Net = true)
    (kc_Net : PySem.W.keepIn K (.ref C_Net) = true)
    (na_Net_place_count : PySem.W.findIn K (.ref C_Net) "place_count" = some none)
    (na_Net_road_pairs : PySem.W.findIn K (.ref C_Net) "road_pairs" = some none)
    (pg_Tally : PySem.W.plainGet K C_Tally Str.empty = true)
    (hd_Tally : PySem.W.hasDictIn K C_Tally = true)
    (po_Tally : PySem.W.plainOver K C_Tally = true)
    (sa_Tally : PySem.W.findIn K (.ref C_Tally) "__setattr__" = some (some (.builtin "object.__setattr__")))
    (mk_Tally : PySem.W.makesIn K C_Tally = true)
    (kc_Tally : PySem.W.keepIn K (.ref C_Tally) = true)
    (na_Tally_many : PySem.W.findIn K (.ref C_Tally) "many" = some none)
    (na_Tally_stopped : PySem.W.findIn K (.ref C_Tally) "stopped" = some none)
    (m_MOST_PLACES : PySem.W.nsIn K mainGlobals "MOST_PLACES" = some (some k_MOST_PLACES))
    (r_MOST_PLACES : RelV (.int 32) k_MOST_PLACES)
    (m_MOST_ROADS : PySem.W.nsIn K mainGlobals "MOST_ROADS" = some (some k_MOST_ROADS))
    (r_MOST_ROADS : RelV (.int 64) k_MOST_ROADS)
    (m_MOST_SIGNS : PySem.W.nsIn K mainGlobals "MOST_SIGNS" = some (some k_MOST_SIGNS))
    (r_MOST_SIGNS : RelV (.int 6) k_MOST_SIGNS)
    (m_MOST_SIZE : PySem.W.nsIn K mainGlobals "MOST_SIZE" = some (some k_MOST_SIZE))
    (r_MOST_SIZE : RelV (.int 6) k_MOST_SIZE)
    (m_MOST_WORDS : PySem.W.nsIn K mainGlobals "MOST_WORDS" = some (some k_MOST_WORDS))
    (r_MOST_WORDS : RelV (.int 64) k_MOST_WORDS)
    (m_FIGURES : PySem.W.nsIn K mainGlobals "FIGURES" = some (some k_FIGURES))
    (r_FIGURES : RelV (.str "0123456789") k_FIGURES)
    (n_len : PySem.W.nsIn K mainGlobals "len" = some none)
    (n_range : PySem.W.nsIn K mainGlobals "range" = some none)
    (n_all : PySem.W.nsIn K mainGlobals "all" = some none)
    (n_enumerate : PySem.W.nsIn K mainGlobals "enumerate" = some none)
    (n_isinstance : PySem.W.nsIn K mainGlobals "isinstance" = some none)
    (n_list : PySem.W.nsIn K mainGlobals "list" = some none)
    (n_str : PySem.W.nsIn K mainGlobals "str" = some none)
    (n_int : PySem.W.nsIn K mainGlobals "int" = some none)
    (n_sum : PySem.W.nsIn K mainGlobals "sum" = some none)
    (n_zip : PySem.W.nsIn K mainGlobals "zip" = some none)
    (n_sorted : PySem.W.nsIn K mainGlobals "sorted" = some none)
    (n_ValueError : PySem.W.nsIn K mainGlobals "ValueError" = some none)
    (e_NoNet : PySem.W.excIn K C_NoNet veB "ValueError.__new__" = true)
    (el1_NoNet : PySem.W.findIn K (.ref C_NoNet) "__getattribute__" = some (some (.builtin "BaseException.__getattribute__")))
    (el2_NoNet : PySem.W.findIn K (.ref C_NoNet) "__getattr__" = some none)
    (el3_NoNet : PySem.W.findIn K (.ref C_NoNet) "__class__" = some (some (.builtin "object.__class__")))
    (el4_NoNet : PySem.W.specialIn K (.builtin "object.__class__") "__get__" = some (some (.builtin "getset_descriptor.__get__")))
    (el5_NoNet : PySem.W.takesIn K (.builtin "object.__class__") = some true)
    (el6_NoNet : PySem.W.mroIn K C_NoNet (.type "object") = some true)
    (el7_NoNet : PySem.W.mroIn K C_NoNet (.type "BaseException") = some true)
    (el8_NoNet : (PySem.W.clsIn K C_NoNet).isSome = true)
    (e_NoWords : PySem.W.excIn K C_NoWords veB "ValueError.__new__" = true)
    (el1_NoWords : PySem.W.findIn K (.ref C_NoWords) "__getattribute__" = some (some (.builtin "BaseException.__getattribute__")))
    (el2_NoWords : PySem.W.findIn K (.ref C_NoWords) "__getattr__" = some none)
    (el3_NoWords : PySem.W.findIn K (.ref C_NoWords) "__class__" = some (some (.builtin "object.__class__")))
    (el4_NoWords : PySem.W.specialIn K (.builtin "object.__class__") "__get__" = some (some (.builtin "getset_descriptor.__get__")))
    (el5_NoWords : PySem.W.takesIn K (.builtin "object.__class__") = some true)
    (el6_NoWords : PySem.W.mroIn K C_NoWords (.type "object") = some true)
    (el7_NoWords : PySem.W.mroIn K C_NoWords (.type "BaseException") = some true)
    (el8_NoWords : (PySem.W.clsIn K C_NoWords).isSome = true)
    (e_NotRead : PySem.W.excIn K C_NotRead veB "ValueError.__new__" = true)
    (el1_NotRead : PySem.W.findIn K (.ref C_NotRead) "__getattribute__" = some (some (.builtin "BaseException.__getattribute__")))
    (el2_NotRead : PySem.W.findIn K (.ref C_NotRead) "__getattr__" = some none)
    (el3_NotRead : PySem.W.findIn K (.ref C_NotRead) "__class__" = some (some (.builtin "object.__class__")))
    (el4_NotRead : PySem.W.specialIn K (.builtin "object.__class__") "__get__" = some (some (.builtin "getset_descriptor.__get__")))
    (el5_NotRead : PySem.W.takesIn K (.builtin "object.__class__") = some true)
    (el6_NotRead : PySem.W.mroIn K C_NotRead (.type "object") = some true)
    (el7_NotRead : PySem.W.mroIn K C_NotRead (.type "BaseException") = some true)
    (el8_NotRead : (PySem.W.clsIn K C_NotRead).isSome = true)
    (e_NoPlace : PySem.W.excIn K C_NoPlace veB "ValueError.__new__" = true)
    (el1_NoPlace : PySem.W.findIn K (.ref C_NoPlace) "__getattribute__" = some (some (.builtin "BaseException.__getattribute__")))
    (el2_NoPlace : PySem.W.findIn K (.ref C_NoPlace) "__getattr__" = some none)
    (el3_NoPlace : PySem.W.findIn K (.ref C_NoPlace) "__class__" = some (some (.builtin "object.__class__")))
    (el4_NoPlace : PySem.W.specialIn K (.builtin "object.__class__") "__get__" = some (some (.builtin "getset_descriptor.__get__")))
    (el5_NoPlace : PySem.W.takesIn K (.builtin "object.__class__") = some true)
    (el6_NoPlace : PySem.W.mroIn K C_NoPlace (.type "object") = some true)
    (el7_NoPlace : PySem.W.mroIn K C_NoPlace (.type "BaseException") = some true)
    (el8_NoPlace : (PySem.W.clsIn K C_NoPlace).isSome = true)
    (e_NoTree : PySem.W.excIn K C_NoTree veB "ValueError.__new__" = true)
    (el1_NoTree : PySem.W.findIn K (.ref C_NoTree) "__getattribute__" = some (some (.builtin "BaseException.__getattribute__")))
    (el2_NoTree : PySem.W.findIn K (.ref C_NoTree) "__getattr__" = some none)
    (el3_NoTree : PySem.W.findIn K (.ref C_NoTree) "__class__" = some (some (.builtin "object.__class__")))
    (el4_NoTree : PySem.W.specialIn K (.builtin "object.__class__") "__get__" = some (some (.builtin "getset_descriptor.__get__")))
    (el5_NoTree : PySem.W.takesIn K (.builtin "object.__class__") = some true)
    (el6_NoTree : PySem.W.mroIn K C_NoTree (.type "object") = some true)
    (el7_NoTree : PySem.W.mroIn K C_NoTree (.type "BaseException") = some true)
    (el8_NoTree : (PySem.W.clsIn K C_NoTree).isSome = true)
    (e_NoRing : PySem.W.excIn K C_NoRing veB "ValueError.__new__" = true)
    (el1_NoRing : PySem.W.findIn K (.ref C_NoRing) "__getattribute__" = some (some (.builtin "BaseException.__getattribute__")))
    (el2_NoRing : PySem.W.findIn K (.ref C_NoRing) "__getattr__" = some none)
    (el3_NoRing : PySem.W.findIn K (.ref C_NoRing) "__class__" = some (some (.builtin "object.__class__")))
    (el4_NoRing : PySem.W.specialIn K (.builtin "object.__class__") "__get__" = some (some (.builtin "getset_descriptor.__get__")))
    (el5_NoRing : PySem.W.takesIn K (.builtin "object.__class__") = some true)
    (el6_NoRing : PySem.W.mroIn K C_NoRing (.type "object") = some true)
    (el7_NoRing : PySem.W.mroIn K C_NoRing (.type "BaseException") = some true)
    (el8_NoRing : (PySem.W.clsIn K C_NoRing).isSome = true)
    (e_NoNumber : PySem.W.excIn K C_NoNumber veB "ValueError.__new__" = true)
    (el1_NoNumber : PySem.W.findIn K (.ref C_NoNumber) "__getattribute__" = some (some (.builtin "BaseException.__getattribute__")))
    (el2_NoNumber : PySem.W.findIn K (.ref C_NoNumber) "__getattr__" = some none)
    (el3_NoNumber : PySem.W.findIn K (.ref C_NoNumber) "__class__" = some (some (.builtin "object.__class__")))
    (el4_NoNumber : PySem.W.specialIn K (.builtin "object.__class__") "__get__" = some (some (.builtin "getset_descriptor.__get__")))
    (el5_NoNumber : PySem.W.takesIn K (.builtin "object.__class__") = some true)
    (el6_NoNumber : PySem.W.mroIn K C_NoNumber (.type "object") = some true)
    (el7_NoNumber : PySem.W.mroIn K C_NoNumber (.type "BaseException") = some true)
    (el8_NoNumber : (PySem.W.clsIn K C_NoNumber).isSome = true)
    (x_xmN : PySem.W.exmOne K (.ref C_NoNet) (.ref C_NoNet) = some true)
    (x_xb_NoNet : PySem.W.exmOne K (.ref C_NoNet) (.ref C_BookError) = some true)
    (x_xb_NoWords : PySem.W.exmOne K (.ref C_NoWords) (.ref C_BookError) = some true)
    (x_xb_NotRead : PySem.W.exmOne K (.ref C_NotRead) (.ref C_BookError) = some true)
    (x_xb_NoPlace : PySem.W.exmOne K (.ref C_NoPlace) (.ref C_BookError) = some true)
    (x_xb_NoTree : PySem.W.exmOne K (.ref C_NoTree) (.ref C_BookError) = some true)
    (x_xb_NoRing : PySem.W.exmOne K (.ref C_NoRing) (.ref C_BookError) = some true)
    (x_xb_NoNumber : PySem.W.exmOne K (.ref C_NoNumber) (.ref C_BookError) = some true)
    (x_y_NoNet_0 : PySem.W.kitOne K (.ref C_NoNet) (.ref C_NoNet) = some true)
    (x_y_NoNet_1 : PySem.W.kitOne K (.ref C_NoNet) (.ref C_NoWords) = some false)
    (x_y_NoNet_2 : PySem.W.kitOne K (.ref C_NoNet) (.ref C_NotRead) = some false)
    (x_y_NoNet_3 : PySem.W.kitOne K (.ref C_NoNet) (.ref C_NoPlace) = some false)
    (x_y_NoNet_4 : PySem.W.kitOne K (.ref C_NoNet) (.ref C_NoTree) = some false)
    (x_y_NoNet_5 : PySem.W.kitOne K (.ref C_NoNet) (.ref C_NoRing) = some false)
    (x_y_NoNet_6 : PySem.W.kitOne K (.ref C_NoNet) (.ref C_NoNumber) = some false)
    (x_y_NoNet_7 : PySem.W.kitOne K (.ref C_NoNet) (.type "ValueError") = some true)
    (x_y_NoWords_0 : PySem.W.kitOne K (.ref C_NoWords) (.ref C_NoNet) = some false)
    (x_y_NoWords_1 : PySem.W.kitOne K (.ref C_NoWords) (.ref C_NoWords) = some true)
    (x_y_NoWords_2 : PySem.W.kitOne K (.ref C_NoWords) (.ref C_NotRead) = some false)
    (x_y_NoWords_3 : PySem.W.kitOne K (.ref C_NoWords) (.ref C_NoPlace) = some false)
    (x_y_NoWords_4 : PySem.W.kitOne K (.ref C_NoWords) (.ref C_NoTree) = some false)
    (x_y_NoWords_5 : PySem.W.kitOne K (.ref C_NoWords) (.ref C_NoRing) = some false)
    (x_y_NoWords_6 : PySem.W.kitOne K (.ref C_NoWords) (.ref C_NoNumber) = some false)
    (x_y_NoWords_7 : PySem.W.kitOne K (.ref C_NoWords) (.type "ValueError") = some true)
    (x_y_NotRead_0 : PySem.W.kitOne K (.ref C_NotRead) (.ref C_NoNet) = some false)
    (x_y_NotRead_1 : PySem.W.kitOne K (.ref C_NotRead) (.ref C_NoWords) = some false)
    (x_y_NotRead_2 : PySem.W.kitOne K (.ref C_NotRead) (.ref C_NotRead) = some true)
    (x_y_NotRead_3 : PySem.W.kitOne K (.ref C_NotRead) (.ref C_NoPlace) = some false)
    (x_y_NotRead_4 : PySem.W.kitOne K (.ref C_NotRead) (.ref C_NoTree) = some false)
    (x_y_NotRead_5 : PySem.W.kitOne K (.ref C_NotRead) (.ref C_NoRing) = some false)
    (x_y_NotRead_6 : PySem.W.kitOne K (.ref C_NotRead) (.ref C_NoNumber) = some false)
    (x_y_NotRead_7 : PySem.W.kitOne K (.ref C_NotRead) (.type "ValueError") = some true)
    (x_y_NoPlace_0 : PySem.W.kitOne K (.ref C_NoPlace) (.ref C_NoNet) = some false)
    (x_y_NoPlace_1 : PySem.W.kitOne K (.ref C_NoPlace) (.ref C_NoWords) = some false)
    (x_y_NoPlace_2 : PySem.W.kitOne K (.ref C_NoPlace) (.ref C_NotRead) = some false)
    (x_y_NoPlace_3 : PySem.W.kitOne K (.ref C_NoPlace) (.ref C_NoPlace) = some true)
    (x_y_NoPlace_4 : PySem.W.kitOne K (.ref C_NoPlace) (.ref C_NoTree) = some false)
    (x_y_NoPlace_5 : PySem.W.kitOne K (.ref C_NoPlace) (.ref C_NoRing) = some false)
    (x_y_NoPlace_6 : PySem.W.kitOne K (.ref C_NoPlace) (.ref C_NoNumber) = some false)
    (x_y_NoPlace_7 : PySem.W.kitOne K (.ref C_NoPlace) (.type "ValueError") = some true)
    (x_y_NoTree_0 : PySem.W.kitOne K (.ref C_NoTree) (.ref C_NoNet) = some false)
    (x_y_NoTree_1 : PySem.W.kitOne K (.ref C_NoTree) (.ref C_NoWords) = some false)
    (x_y_NoTree_2 : PySem.W.kitOne K (.ref C_NoTree) (.ref C_NotRead) = some false)
    (x_y_NoTree_3 : PySem.W.kitOne K (.ref C_NoTree) (.ref C_NoPlace) = some false)
    (x_y_NoTree_4 : PySem.W.kitOne K (.ref C_NoTree) (.ref C_NoTree) = some true)
    (x_y_NoTree_5 : PySem.W.kitOne K (.ref C_NoTree) (.ref C_NoRing) = some false)
    (x_y_NoTree_6 : PySem.W.kitOne K (.ref C_NoTree) (.ref C_NoNumber) = some false)
    (x_y_NoTree_7 : PySem.W.kitOne K (.ref C_NoTree) (.type "ValueError") = some true)
    (x_y_NoRing_0 : PySem.W.kitOne K (.ref C_NoRing) (.ref C_NoNet) = some false)
    (x_y_NoRing_1 : PySem.W.kitOne K (.ref C_NoRing) (.ref C_NoWords) = some false)
    (x_y_NoRing_2 : PySem.W.kitOne K (.ref C_NoRing) (.ref C_NotRead) = some false)
    (x_y_NoRing_3 : PySem.W.kitOne K (.ref C_NoRing) (.ref C_NoPlace) = some false)
    (x_y_NoRing_4 : PySem.W.kitOne K (.ref C_NoRing) (.ref C_NoTree) = some false)
    (x_y_NoRing_5 : PySem.W.kitOne K (.ref C_NoRing) (.ref C_NoRing) = some true)
    (x_y_NoRing_6 : PySem.W.kitOne K (.ref C_NoRing) (.ref C_NoNumber) = some false)
    (x_y_NoRing_7 : PySem.W.kitOne K (.ref C_NoRing) (.type "ValueError") = some true)
    (x_y_NoNumber_0 : PySem.W.kitOne K (.ref C_NoNumber) (.ref C_NoNet) = some false)
    (x_y_NoNumber_1 : PySem.W.kitOne K (.ref C_NoNumber) (.ref C_NoWords) = some false)
    (x_y_NoNumber_2 : PySem.W.kitOne K (.ref C_NoNumber) (.ref C_NotRead) = some false)
    (x_y_NoNumber_3 : PySem.W.kitOne K (.ref C_NoNumber) (.ref C_NoPlace) = some false)
    (x_y_NoNumber_4 : PySem.W.kitOne K (.ref C_NoNumber) (.ref C_NoTree) = some false)
    (x_y_NoNumber_5 : PySem.W.kitOne K (.ref C_NoNumber) (.ref C_NoRing) = some false)
    (x_y_NoNumber_6 : PySem.W.kitOne K (.ref C_NoNumber) (.ref C_NoNumber) = some true)
    (x_y_NoNumber_7 : PySem.W.kitOne K (.ref C_NoNumber) (.type "ValueError") = some true)
    : ∃ t : Adr, Txt K mg t ∧ t.f_a2 = f_a2 := by
  refine ⟨{
    f_w := f_w,
    d_w := PySem.W.fnOf "lies_within" "lies_within" (defArgs s_w) (defBody s_w) (defScope s_w) .none kV_w dc_w pm_w an_w cd_w ct_w,
    f_f := f_f,
    d_f := PySem.W.fnOf "ends_lie_within" "ends_lie_within" (defArgs s_f) (defBody s_f) (defScope s_f) .none kV_f dc_f pm_f an_f cd_f ct_f,
    f_a := f_a,
    d_a := PySem.W.fnOf "each_place_has_exit" "each_place_has_exit" (defArgs s_a) (defBody s_a) (defScope s_a) .none kV_a dc_a pm_a an_a cd_a ct_a,
    f_o1 := f_o1,
    d_o1 := PySem.W.fnOf "check_net" "check_net" (defArgs s_o1) (defBody s_o1) (defScope s_o1) .none kV_o1 dc_o1 pm_o1 an_o1 cd_o1 ct_o1,
    f_x := f_x,
    d_x := PySem.W.fnOf "check_place" "check_place" (defArgs s_x) (defBody s_x) (defScope s_x) .none kV_x dc_x pm_x an_x cd_x ct_x,
    f_o := f_o,
    d_o := PySem.W.fnOf "__init__" "Net.__init__" (defArgs s_o) (defBody s_o) (defScope s_o) .none kV_o dc_o pm_o an_o cd_o ct_o,
    f_y := f_y,
    d_y := PySem.W.fnOf "places" "Net.places" (defArgs s_y) (defBody s_y) (defScope s_y) .none kV_y dc_y pm_y an_y cd_y ct_y,
    f_i1 := f_i1,
    d_i1 := PySem.W.fnOf "roads" "Net.roads" (defArgs s_i1) (defBody s_i1) (defScope s_i1) .none kV_i1 dc_i1 pm_i1 an_i1 cd_i1 ct_i1,
    f_j1 := f_j1,
    d_j1 := PySem.W.fnOf "exits" "Net.exits" (defArgs s_j1) (defBody s_j1) (defScope s_j1) .none kV_j1 dc_j1 pm_j1 an_j1 cd_j1 ct_j1,
    f_s1 := f_s1,
    d_s1 := PySem.W.fnOf "lone_row" "lone_row" (defArgs s_s1) (defBody s_s1) (defScope s_s1) .none kV_s1 dc_s1 pm_s1 an_s1 cd_s1 ct_s1,
    f_g := f_g,
    d_g := PySem.W.fnOf "__init__" "Tally.__init__" (defArgs s_g) (defBody s_g) (defScope s_g) .none kV_g dc_g pm_g an_g cd_g ct_g,
    f_j := f_j,
    d_j := PySem.W.fnOf "many_by" "Tally.many_by" (defArgs s_j) (defBody s_j) (defScope s_j) .none kV_j dc_j pm_j an_j cd_j ct_j,
    f_b := f_b,
    d_b := PySem.W.fnOf "changed_row" "Tally.changed_row" (defArgs s_b) (defBody s_b) (defScope s_b) .none kV_b dc_b pm_b an_b cd_b ct_b,
    f_c := f_c,
    d_c := PySem.W.fnOf "give_roads" "Tally.give_roads" (defArgs s_c) (defBody s_c) (defScope s_c) .none kV_c dc_c pm_c an_c cd_c ct_c,
    f_u := f_u,
    d_u := PySem.W.fnOf "other_places" "other_places" (defArgs s_u) (defBody s_u) (defScope s_u) .none kV_u dc_u pm_u an_u cd_u ct_u,
    f_z := f_z,
    d_z := PySem.W.fnOf "whole_tally" "whole_tally" (defArgs s_z) (defBody s_z) (defScope s_z) .none kV_z dc_z pm_z an_z cd_z ct_z,
    f_k1 := f_k1,
    d_k1 := PySem.W.fnOf "many_trees" "many_trees" (defArgs s_k1) (defBody s_k1) (defScope s_k1) .none kV_k1 dc_k1 pm_k1 an_k1 cd_k1 ct_k1,
    f_u1 := f_u1,
    d_u1 := PySem.W.fnOf "tree_at" "tree_at" (defArgs s_u1) (defBody s_u1) (defScope s_u1) .none kV_u1 dc_u1 pm_u1 an_u1 cd_u1 ct_u1,
    f_p := f_p,
    d_p := PySem.W.fnOf "comes_to_none" "comes_to_none" (defArgs s_p) (defBody s_p) (defScope s_p) .none kV_p dc_p pm_p an_p cd_p ct_p,
    f_v1 := f_v1,
    d_v1 := PySem.W.fnOf "is_tree" "is_tree" (defArgs s_v1) (defBody s_v1) (defScope s_v1) .none kV_v1 dc_v1 pm_v1 an_v1 cd_v1 ct_v1,
    f_a1 := f_a1,
    d_a1 := PySem.W.fnOf "tree_number" "tree_number" (defArgs s_a1) (defBody s_a1) (defScope s_a1) .none kV_a1 dc_a1 pm_a1 an_a1 cd_a1 ct_a1,
    f_b1 := f_b1,
    d_b1 := PySem.W.fnOf "first_place" "first_place" (defArgs s_b1) (defBody s_b1) (defScope s_b1) .none kV_b1 dc_b1 pm_b1 an_b1 cd_b1 ct_b1,
    f_q := f_q,
    d_q := PySem.W.fnOf "unlike_places" "unlike_places" (defArgs s_q) (defBody s_q) (defScope s_q) .none kV_q dc_q pm_q an_q cd_q ct_q,
    f_k := f_k,
    d_k := PySem.W.fnOf "reached_places" "reached_places" (defArgs s_k) (defBody s_k) (defScope s_k) .none kV_k dc_k pm_k an_k cd_k ct_k,
    f_v := f_v,
    d_v := PySem.W.fnOf "apart_places" "apart_places" (defArgs s_v) (defBody s_v) (defScope s_v) .none kV_v dc_v pm_v an_v cd_v ct_v,
    f_z1 := f_z1,
    d_z1 := PySem.W.fnOf "why" "why" (defArgs s_z1) (defBody s_z1) (defScope s_z1) .none kV_z1 dc_z1 pm_z1 an_z1 cd_z1 ct_z1,
    f_w1 := f_w1,
    d_w1 := PySem.W.fnOf "is_ring" "is_ring" (defArgs s_w1) (defBody s_w1) (defScope s_w1) .none kV_w1 dc_w1 pm_w1 an_w1 cd_w1 ct_w1,
    f_p1 := f_p1,
    d_p1 := PySem.W.fnOf "factorial" "factorial" (defArgs s_p1) (defBody s_p1) (defScope s_p1) .none kV_p1 dc_p1 pm_p1 an_p1 cd_p1 ct_p1,
    f_c1 := f_c1,
    d_c1 := PySem.W.fnOf "many_orders" "many_orders" (defArgs s_c1) (defBody s_c1) (defScope s_c1) .none kV_c1 dc_c1 pm_c1 an_c1 cd_c1 ct_c1,
    f_l1 := f_l1,
    d_l1 := PySem.W.fnOf "many_rings" "many_rings" (defArgs s_l1) (defBody s_l1) (defScope s_l1) .none kV_l1 dc_l1 pm_l1 an_l1 cd_l1 ct_l1,
    f_x1 := f_x1,
    d_x1 := PySem.W.fnOf "ring_at" "ring_at" (defArgs s_x1) (defBody s_x1) (defScope s_x1) .none kV_x1 dc_x1 pm_x1 an_x1 cd_x1 ct_x1,
    f_d1 := f_d1,
    d_d1 := PySem.W.fnOf "ring_number" "ring_number" (defArgs s_d1) (defBody s_d1) (defScope s_d1) .none kV_d1 dc_d1 pm_d1 an_d1 cd_d1 ct_d1,
    f_m1 := f_m1,
    d_m1 := PySem.W.fnOf "many_words" "many_words" (defArgs s_m1) (defBody s_m1) (defScope s_m1) .none kV_m1 dc_m1 pm_m1 an_m1 cd_m1 ct_m1,
    f_e1 := f_e1,
    d_e1 := PySem.W.fnOf "check_words" "check_words" (defArgs s_e1) (defBody s_e1) (defScope s_e1) .none kV_e1 dc_e1 pm_e1 an_e1 cd_e1 ct_e1,
    f_t1 := f_t1,
    d_t1 := PySem.W.fnOf "word_net" "word_net" (defArgs s_t1) (defBody s_t1) (defScope s_t1) .none kV_t1 dc_t1 pm_t1 an_t1 cd_t1 ct_t1,
    f_h := f_h,
    d_h := PySem.W.fnOf "many_word_rings" "many_word_rings" (defArgs s_h) (defBody s_h) (defScope s_h) .none kV_h dc_h pm_h an_h cd_h ct_h,
    f_q1 := f_q1,
    d_q1 := PySem.W.fnOf "word_ring" "word_ring" (defArgs s_q1) (defBody s_q1) (defScope s_q1) .none kV_q1 dc_q1 pm_q1 an_q1 cd_q1 ct_q1,
    f_l := f_l,
    d_l := PySem.W.fnOf "word_ending_at" "word_ending_at" (defArgs s_l) (defBody s_l) (defScope s_l) .none kV_l dc_l pm_l an_l cd_l ct_l,
    f_e := f_e,
    d_e := PySem.W.fnOf "word_ring_number" "word_ring_number" (defArgs s_e) (defBody s_e) (defScope s_e) .none kV_e dc_e pm_e an_e cd_e ct_e,
    f_d := f_d,
    d_d := PySem.W.fnOf "is_written_number" "is_written_number" (defArgs s_d) (defBody s_d) (defScope s_d) .none kV_d dc_d pm_d an_d cd_d ct_d,
    f_f1 := f_f1,
    d_f1 := PySem.W.fnOf "read_number" "read_number" (defArgs s_f1) (defBody s_f1) (defScope s_f1) .none kV_f1 dc_f1 pm_f1 an_f1 cd_f1 ct_f1,
    f_r1 := f_r1,
    d_r1 := PySem.W.fnOf "read_road" "read_road" (defArgs s_r1) (defBody s_r1) (defScope s_r1) .none kV_r1 dc_r1 pm_r1 an_r1 cd_r1 ct_r1,
    f_g1 := f_g1,
    d_g1 := PySem.W.fnOf "read_places" "read_places" (defArgs s_g1) (defBody s_g1) (defScope s_g1) .none kV_g1 dc_g1 pm_g1 an_g1 cd_g1 ct_g1,
    f_y1 := f_y1,
    d_y1 := PySem.W.fnOf "read" "read" (defArgs s_y1) (defBody s_y1) (defScope s_y1) .none kV_y1 dc_y1 pm_y1 an_y1 cd_y1 ct_y1,
    f_r := f_r,
    d_r := PySem.W.fnOf "_law_cell_at" "_law_cell_at" (defArgs s_r) (defBody s_r) (defScope s_r) .none kV_r dc_r pm_r an_r cd_r ct_r,
    f_h1 := f_h1,
    d_h1 := PySem.W.fnOf "_law_which" "_law_which" (defArgs s_h1) (defBody s_h1) (defScope s_h1) .none kV_h1 dc_h1 pm_h1 an_h1 cd_h1 ct_h1,
    f_m := f_m,
    d_m := PySem.W.fnOf "_law_no_words" "_law_no_words" (defArgs s_m) (defBody s_m) (defScope s_m) .none kV_m dc_m pm_m an_m cd_m ct_m,
    f_n := f_n,
    d_n := PySem.W.fnOf "_law_no_place" "_law_no_place" (defArgs s_n) (defBody s_n) (defScope s_n) .none kV_n dc_n pm_n an_n cd_n ct_n,
    f_s := f_s,
    d_s := PySem.W.fnOf "_law_no_tree" "_law_no_tree" (defArgs s_s) (defBody s_s) (defScope s_s) .none kV_s dc_s pm_s an_s cd_s ct_s,
    f_t := f_t,
    d_t := PySem.W.fnOf "_law_no_ring" "_law_no_ring" (defArgs s_t) (defBody s_t) (defScope s_t) .none kV_t dc_t pm_t an_t cd_t ct_t,
    f_i := f_i,
    d_i := PySem.W.fnOf "_law_no_number" "_law_no_number" (defArgs s_i) (defBody s_i) (defScope s_i) .none kV_i dc_i pm_i an_i cd_i ct_i,
    f_n1 := f_n1,
    d_n1 := PySem.W.fnOf "_law_done" "_law_done" (defArgs s_n1) (defBody s_n1) (defScope s_n1) .none kV_n1 dc_n1 pm_n1 an_n1 cd_n1 ct_n1,
    f_a2 := f_a2,
    d_a2 := PySem.W.fnOf "law" "law" (defArgs s_a2) (defBody s_a2) (defScope s_a2) .none kV_a2 dc_a2 pm_a2 an_a2 cd_a2 ct_a2,
    C_BookError := C_BookError,
    C_NoNet := C_NoNet,
    C_NoWords := C_NoWords,
    C_NotRead := C_NotRead,
    C_NoPlace := C_NoPlace,
    C_NoTree := C_NoTree,
    C_NoRing := C_NoRing,
    C_NoNumber := C_NoNumber,
    C_Net := C_Net,
    C_Tally := C_Tally,
    k_MOST_PLACES := k_MOST_PLACES,
    k_MOST_ROADS := k_MOST_ROADS,
    k_MOST_SIGNS := k_MOST_SIGNS,
    k_MOST_SIZE := k_MOST_SIZE,
    k_MOST_WORDS := k_MOST_WORDS,
    k_FIGURES := k_FIGURES }, {
    F_w := fun_mk (st := s_w) l_w c_w k_w,
    b_w := (fun_mk (st := s_w) l_w c_w k_w).binds (ps := ["place", "places"]) fun _ _ _ _ _ _ us hl => match us, hl with | [_, _], _ => rfl,
    m_w := PySem.W.mg_of X G a_w,
    F_f := fun_mk (st := s_f) l_f c_f k_f,
    b_f := (fun_mk (st := s_f) l_f c_f k_f).binds (ps := ["roads", "places"]) fun _ _ _ _ _ _ us hl => match us, hl with | [_, _], _ => rfl,
    m_f := PySem.W.mg_of X G a_f,
    F_a := fun_mk (st := s_a) l_a c_a k_a,
    b_a := (fun_mk (st := s_a) l_a c_a k_a).binds (ps := ["roads", "places"]) fun _ _ _ _ _ _ us hl => match us, hl with | [_, _], _ => rfl,
    m_a := PySem.W.mg_of X G a_a,
    F_o1 := fun_mk (st := s_o1) l_o1 c_o1 k_o1,
    b_o1 := (fun_mk (st := s_o1) l_o1 c_o1 k_o1).binds (ps := ["places", "roads"]) fun _ _ _ _ _ _ us hl => match us, hl with | [_, _], _ => rfl,
    m_o1 := PySem.W.mg_of X G a_o1,
    F_x := fun_mk (st := s_x) l_x c_x k_x,
    b_x := (fun_mk (st := s_x) l_x c_x k_x).binds (ps := ["place", "places"]) fun _ _ _ _ _ _ us hl => match us, hl with | [_, _], _ => rfl,
    m_x := PySem.W.mg_of X G a_x,
    F_o := fun_mk (st := s_o) l_o c_o k_o,
    b_o := (fun_mk (st := s_o) l_o c_o k_o).binds (ps := ["self", "places", "roads"]) fun _ _ _ _ _ _ us hl => match us, hl with | [_, _, _], _ => rfl,
    F_y := fun_mk (st := s_y) l_y c_y k_y,
    b_y := (fun_mk (st := s_y) l_y c_y k_y).binds (ps := ["self"]) fun _ _ _ _ _ _ us hl => match us, hl with | [_], _ => rfl,
    M_y := ⟨a_y, i_y, k_y⟩,
    F_i1 := fun_mk (st := s_i1) l_i1 c_i1 k_i1,
    b_i1 := (fun_mk (st := s_i1) l_i1 c_i1 k_i1).binds (ps := ["self"]) fun _ _ _ _ _ _ us hl => match us, hl with | [_], _ => rfl,
    M_i1 := ⟨a_i1, i_i1, k_i1⟩,
    F_j1 := fun_mk (st := s_j1) l_j1 c_j1 k_j1,
    b_j1 := (fun_mk (st := s_j1) l_j1 c_j1 k_j1).binds (ps := ["self", "place"]) fun _ _ _ _ _ _ us hl => match us, hl with | [_, _], _ => rfl,
    M_j1 := ⟨a_j1, i_j1, k_j1⟩,
    F_s1 := fun_mk (st := s_s1) l_s1 c_s1 k_s1,
    b_s1 := (fun_mk (st := s_s1) l_s1 c_s1 k_s1).binds (ps := ["stop", "places"]) fun _ _ _ _ _ _ us hl => match us, hl with | [_, _], _ => rfl,
    m_s1 := PySem.W.mg_of X G a_s1,
    F_g := fun_mk (st := s_g) l_g c_g k_g,
    b_g := (fun_mk (st := s_g) l_g c_g k_g).binds (ps := ["self", "places"]) fun _ _ _ _ _ _ us hl => match us, hl with | [_, _], _ => rfl,
    F_j := fun_mk (st := s_j) l_j c_j k_j,
    b_j := (fun_mk (st := s_j) l_j c_j k_j).binds (ps := ["self", "place", "end"]) fun _ _ _ _ _ _ us hl => match us, hl with | [_, _, _], _ => rfl,
    M_j := ⟨a_j, i_j, k_j⟩,
    F_b := fun_mk (st := s_b) l_b c_b k_b,
    b_b := (fun_mk (st := s_b) l_b c_b k_b).binds (ps := ["self", "stop", "place", "ends", "many"]) fun _ _ _ _ _ _ us hl => match us, hl with | [_, _, _, _, _], _ => rfl,
    M_b := ⟨a_b, i_b, k_b⟩,
    F_c := fun_mk (st := s_c) l_c c_c k_c,
    b_c := (fun_mk (st := s_c) l_c c_c k_c).binds (ps := ["self", "place", "ends"]) fun _ _ _ _ _ _ us hl => match us, hl with | [_, _, _], _ => rfl,
    M_c := ⟨a_c, i_c, k_c⟩,
    F_u := fun_mk (st := s_u) l_u c_u k_u,
    b_u := (fun_mk (st := s_u) l_u c_u k_u).binds (ps := ["net", "goal"]) fun _ _ _ _ _ _ us hl => match us, hl with | [_, _], _ => rfl,
    m_u := PySem.W.mg_of X G a_u,
    F_z := fun_mk (st := s_z) l_z c_z k_z,
    b_z := (fun_mk (st := s_z) l_z c_z k_z).binds (ps := ["net", "goal"]) fun _ _ _ _ _ _ us hl => match us, hl with | [_, _], _ => rfl,
    m_z := PySem.W.mg_of X G a_z,
    F_k1 := fun_mk (st := s_k1) l_k1 c_k1 k_k1,
    b_k1 := (fun_mk (st := s_k1) l_k1 c_k1 k_k1).binds (ps := ["net", "place"]) fun _ _ _ _ _ _ us hl => match us, hl with | [_, _], _ => rfl,
    m_k1 := PySem.W.mg_of X G a_k1,
    F_u1 := fun_mk (st := s_u1) l_u1 c_u1 k_u1,
    b_u1 := (fun_mk (st := s_u1) l_u1 c_u1 k_u1).binds (ps := ["net", "place", "number"]) fun _ _ _ _ _ _ us hl => match us, hl with | [_, _, _], _ => rfl,
    m_u1 := PySem.W.mg_of X G a_u1,
    F_p := fun_mk (st := s_p) l_p c_p k_p,
    b_p := (fun_mk (st := s_p) l_p c_p k_p).binds (ps := ["roads", "tree", "place"]) fun _ _ _ _ _ _ us hl => match us, hl with | [_, _, _], _ => rfl,
    m_p := PySem.W.mg_of X G a_p,
    F_v1 := fun_mk (st := s_v1) l_v1 c_v1 k_v1,
    b_v1 := (fun_mk (st := s_v1) l_v1 c_v1 k_v1).binds (ps := ["net", "goal", "tree"]) fun _ _ _ _ _ _ us hl => match us, hl with | [_, _, _], _ => rfl,
    m_v1 := PySem.W.mg_of X G a_v1,
    F_a1 := fun_mk (st := s_a1) l_a1 c_a1 k_a1,
    b_a1 := (fun_mk (st := s_a1) l_a1 c_a1 k_a1).binds (ps := ["net", "place", "tree"]) fun _ _ _ _ _ _ us hl => match us, hl with | [_, _, _], _ => rfl,
    m_a1 := PySem.W.mg_of X G a_a1,
    F_b1 := fun_mk (st := s_b1) l_b1 c_b1 k_b1,
    b_b1 := (fun_mk (st := s_b1) l_b1 c_b1 k_b1).binds (ps := ["net"]) fun _ _ _ _ _ _ us hl => match us, hl with | [_], _ => rfl,
    m_b1 := PySem.W.mg_of X G a_b1,
    F_q := fun_mk (st := s_q) l_q c_q k_q,
    b_q := (fun_mk (st := s_q) l_q c_q k_q).binds (ps := ["net"]) fun _ _ _ _ _ _ us hl => match us, hl with | [_], _ => rfl,
    m_q := PySem.W.mg_of X G a_q,
    F_k := fun_mk (st := s_k) l_k c_k k_k,
    b_k := (fun_mk (st := s_k) l_k c_k k_k).binds (ps := ["net"]) fun _ _ _ _ _ _ us hl => match us, hl with | [_], _ => rfl,
    m_k := PySem.W.mg_of X G a_k,
    F_v := fun_mk (st := s_v) l_v c_v k_v,
    b_v := (fun_mk (st := s_v) l_v c_v k_v).binds (ps := ["net"]) fun _ _ _ _ _ _ us hl => match us, hl with | [_], _ => rfl,
    m_v := PySem.W.mg_of X G a_v,
    F_z1 := fun_mk (st := s_z1) l_z1 c_z1 k_z1,
    b_z1 := (fun_mk (st := s_z1) l_z1 c_z1 k_z1).binds (ps := ["net"]) fun _ _ _ _ _ _ us hl => match us, hl with | [_], _ => rfl,
    m_z1 := PySem.W.mg_of X G a_z1,
    F_w1 := fun_mk (st := s_w1) l_w1 c_w1 k_w1,
    b_w1 := (fun_mk (st := s_w1) l_w1 c_w1 k_w1).binds (ps := ["net", "ring"]) fun _ _ _ _ _ _ us hl => match us, hl with | [_, _], _ => rfl,
    m_w1 := PySem.W.mg_of X G a_w1,
    F_p1 := fun_mk (st := s_p1) l_p1 c_p1 k_p1,
    b_p1 := (fun_mk (st := s_p1) l_p1 c_p1 k_p1).binds (ps := ["number"]) fun _ _ _ _ _ _ us hl => match us, hl with | [_], _ => rfl,
    m_p1 := PySem.W.mg_of X G a_p1,
    F_c1 := fun_mk (st := s_c1) l_c1 c_c1 k_c1,
    b_c1 := (fun_mk (st := s_c1) l_c1 c_c1 k_c1).binds (ps := ["net"]) fun _ _ _ _ _ _ us hl => match us, hl with | [_], _ => rfl,
    m_c1 := PySem.W.mg_of X G a_c1,
    F_l1 := fun_mk (st := s_l1) l_l1 c_l1 k_l1,
    b_l1 := (fun_mk (st := s_l1) l_l1 c_l1 k_l1).binds (ps := ["net"]) fun _ _ _ _ _ _ us hl => match us, hl with | [_], _ => rfl,
    m_l1 := PySem.W.mg_of X G a_l1,
    F_x1 := fun_mk (st := s_x1) l_x1 c_x1 k_x1,
    b_x1 := (fun_mk (st := s_x1) l_x1 c_x1 k_x1).binds (ps := ["net", "number"]) fun _ _ _ _ _ _ us hl => match us, hl with | [_, _], _ => rfl,
    m_x1 := PySem.W.mg_of X G a_x1,
    F_d1 := fun_mk (st := s_d1) l_d1 c_d1 k_d1,
    b_d1 := (fun_mk (st := s_d1) l_d1 c_d1 k_d1).binds (ps := ["net", "ring"]) fun _ _ _ _ _ _ us hl => match us, hl with | [_, _], _ => rfl,
    m_d1 := PySem.W.mg_of X G a_d1,
    F_m1 := fun_mk (st := s_m1) l_m1 c_m1 k_m1,
    b_m1 := (fun_mk (st := s_m1) l_m1 c_m1 k_m1).binds (ps := ["signs", "size"]) fun _ _ _ _ _ _ us hl => match us, hl with | [_, _], _ => rfl,
    m_m1 := PySem.W.mg_of X G a_m1,
    F_e1 := fun_mk (st := s_e1) l_e1 c_e1 k_e1,
    b_e1 := (fun_mk (st := s_e1) l_e1 c_e1 k_e1).binds (ps := ["signs", "size"]) fun _ _ _ _ _ _ us hl => match us, hl with | [_, _], _ => rfl,
    m_e1 := PySem.W.mg_of X G a_e1,
    F_t1 := fun_mk (st := s_t1) l_t1 c_t1 k_t1,
    b_t1 := (fun_mk (st := s_t1) l_t1 c_t1 k_t1).binds (ps := ["signs", "size"]) fun _ _ _ _ _ _ us hl => match us, hl with | [_, _], _ => rfl,
    m_t1 := PySem.W.mg_of X G a_t1,
    F_h := fun_mk (st := s_h) l_h c_h k_h,
    b_h := (fun_mk (st := s_h) l_h c_h k_h).binds (ps := ["signs", "size"]) fun _ _ _ _ _ _ us hl => match us, hl with | [_, _], _ => rfl,
    m_h := PySem.W.mg_of X G a_h,
    F_q1 := fun_mk (st := s_q1) l_q1 c_q1 k_q1,
    b_q1 := (fun_mk (st := s_q1) l_q1 c_q1 k_q1).binds (ps := ["signs", "size", "number"]) fun _ _ _ _ _ _ us hl => match us, hl with | [_, _, _], _ => rfl,
    m_q1 := PySem.W.mg_of X G a_q1,
    F_l := fun_mk (st := s_l) l_l c_l k_l,
    b_l := (fun_mk (st := s_l) l_l c_l k_l).binds (ps := ["signs", "size", "ring", "last"]) fun _ _ _ _ _ _ us hl => match us, hl with | [_, _, _, _], _ => rfl,
    m_l := PySem.W.mg_of X G a_l,
    F_e := fun_mk (st := s_e) l_e c_e k_e,
    b_e := (fun_mk (st := s_e) l_e c_e k_e).binds (ps := ["signs", "size", "ring"]) fun _ _ _ _ _ _ us hl => match us, hl with | [_, _, _], _ => rfl,
    m_e := PySem.W.mg_of X G a_e,
    F_d := fun_mk (st := s_d) l_d c_d k_d,
    b_d := (fun_mk (st := s_d) l_d c_d k_d).binds (ps := ["text"]) fun _ _ _ _ _ _ us hl => match us, hl with | [_], _ => rfl,
    m_d := PySem.W.mg_of X G a_d,
    F_f1 := fun_mk (st := s_f1) l_f1 c_f1 k_f1,
    b_f1 := (fun_mk (st := s_f1) l_f1 c_f1 k_f1).binds (ps := ["text"]) fun _ _ _ _ _ _ us hl => match us, hl with | [_], _ => rfl,
    m_f1 := PySem.W.mg_of X G a_f1,
    F_r1 := fun_mk (st := s_r1) l_r1 c_r1 k_r1,
    b_r1 := (fun_mk (st := s_r1) l_r1 c_r1 k_r1).binds (ps := ["text"]) fun _ _ _ _ _ _ us hl => match us, hl with | [_], _ => rfl,
    m_r1 := PySem.W.mg_of X G a_r1,
    F_g1 := fun_mk (st := s_g1) l_g1 c_g1 k_g1,
    b_g1 := (fun_mk (st := s_g1) l_g1 c_g1 k_g1).binds (ps := ["text"]) fun _ _ _ _ _ _ us hl => match us, hl with | [_], _ => rfl,
    m_g1 := PySem.W.mg_of X G a_g1,
    F_y1 := fun_mk (st := s_y1) l_y1 c_y1 k_y1,
    b_y1 := (fun_mk (st := s_y1) l_y1 c_y1 k_y1).binds (ps := ["text"]) fun _ _ _ _ _ _ us hl => match us, hl with | [_], _ => rfl,
    m_y1 := PySem.W.mg_of X G a_y1,
    F_r := fun_mk (st := s_r) l_r c_r k_r,
    b_r := (fun_mk (st := s_r) l_r c_r k_r).binds (ps := ["script", "k"]) fun _ _ _ _ _ _ us hl => match us, hl with | [_, _], _ => rfl,
    m_r := PySem.W.mg_of X G a_r,
    F_h1 := fun_mk (st := s_h1) l_h1 c_h1 k_h1,
    b_h1 := (fun_mk (st := s_h1) l_h1 c_h1 k_h1).binds (ps := ["e"]) fun _ _ _ _ _ _ us hl => match us, hl with | [_], _ => rfl,
    m_h1 := PySem.W.mg_of X G a_h1,
    F_m := fun_mk (st := s_m) l_m c_m k_m,
    b_m := (fun_mk (st := s_m) l_m c_m k_m).binds (ps := ["cell", "far"]) fun _ _ _ _ _ _ us hl => match us, hl with | [_, _], _ => rfl,
    m_m := PySem.W.mg_of X G a_m,
    F_n := fun_mk (st := s_n) l_n c_n k_n,
    b_n := (fun_mk (st := s_n) l_n c_n k_n).binds (ps := ["net", "cell", "far"]) fun _ _ _ _ _ _ us hl => match us, hl with | [_, _, _], _ => rfl,
    m_n := PySem.W.mg_of X G a_n,
    F_s := fun_mk (st := s_s) l_s c_s k_s,
    b_s := (fun_mk (st := s_s) l_s c_s k_s).binds (ps := ["net", "cell", "far"]) fun _ _ _ _ _ _ us hl => match us, hl with | [_, _, _], _ => rfl,
    m_s := PySem.W.mg_of X G a_s,
    F_t := fun_mk (st := s_t) l_t c_t k_t,
    b_t := (fun_mk (st := s_t) l_t c_t k_t).binds (ps := ["net", "cell", "far"]) fun _ _ _ _ _ _ us hl => match us, hl with | [_, _, _], _ => rfl,
    m_t := PySem.W.mg_of X G a_t,
    F_i := fun_mk (st := s_i) l_i c_i k_i,
    b_i := (fun_mk (st := s_i) l_i c_i k_i).binds (ps := ["net", "cell", "far"]) fun _ _ _ _ _ _ us hl => match us, hl with | [_, _, _], _ => rfl,
    m_i := PySem.W.mg_of X G a_i,
    F_n1 := fun_mk (st := s_n1) l_n1 c_n1 k_n1,
    b_n1 := (fun_mk (st := s_n1) l_n1 c_n1 k_n1).binds (ps := ["way", "cell", "far"]) fun _ _ _ _ _ _ us hl => match us, hl with | [_, _, _], _ => rfl,
    m_n1 := PySem.W.mg_of X G a_n1,
    F_a2 := fun_mk (st := s_a2) l_a2 c_a2 k_a2,
    b_a2 := (fun_mk (st := s_a2) l_a2 c_a2 k_a2).binds (ps := ["script"]) fun _ _ _ _ _ _ us hl => match us, hl with | [_], _ => rfl,
    m_a2 := PySem.W.mg_of X G a_a2,
    m_BookError := PySem.W.mg_of X G aC_BookError,
    m_NoNet := PySem.W.mg_of X G aC_NoNet,
    m_NoWords := PySem.W.mg_of X G aC_NoWords,
    m_NotRead := PySem.W.mg_of X G aC_NotRead,
    m_NoPlace := PySem.W.mg_of X G aC_NoPlace,
    m_NoTree := PySem.W.mg_of X G aC_NoTree,
    m_NoRing := PySem.W.mg_of X G aC_NoRing,
    m_NoNumber := PySem.W.mg_of X G aC_NoNumber,
    m_Net := PySem.W.mg_of X G aC_Net,
    m_Tally := PySem.W.mg_of X G aC_Tally,
    cl_Net := ⟨pg_Net, hd_Net, po_Net, sa_Net⟩,
    mk_Net := ⟨mk_Net, a_o, i_o, kc_Net⟩,
    na_Net_place_count := na_Net_place_count,
    na_Net_road_pairs := na_Net_road_pairs,
    cl_Tally := ⟨pg_Tally, hd_Tally, po_Tally, sa_Tally⟩,
    mk_Tally := ⟨mk_Tally, a_g, i_g, kc_Tally⟩,
    na_Tally_many := na_Tally_many,
    na_Tally_stopped := na_Tally_stopped,
    m_MOST_PLACES := PySem.W.mg_of X G m_MOST_PLACES,
    r_MOST_PLACES := r_MOST_PLACES,
    m_MOST_ROADS := PySem.W.mg_of X G m_MOST_ROADS,
    r_MOST_ROADS := r_MOST_ROADS,
    m_MOST_SIGNS := PySem.W.mg_of X G m_MOST_SIGNS,
    r_MOST_SIGNS := r_MOST_SIGNS,
    m_MOST_SIZE := PySem.W.mg_of X G m_MOST_SIZE,
    r_MOST_SIZE := r_MOST_SIZE,
    m_MOST_WORDS := PySem.W.mg_of X G m_MOST_WORDS,
    r_MOST_WORDS := r_MOST_WORDS,
    m_FIGURES := PySem.W.mg_of X G m_FIGURES,
    r_FIGURES := r_FIGURES,
    n_len := PySem.W.mg_none_of X G n_len,
    n_range := PySem.W.mg_none_of X G n_range,
    n_all := PySem.W.mg_none_of X G n_all,
    n_enumerate := PySem.W.mg_none_of X G n_enumerate,
    n_isinstance := PySem.W.mg_none_of X G n_isinstance,
    n_list := PySem.W.mg_none_of X G n_list,
    n_str := PySem.W.mg_none_of X G n_str,
    n_int := PySem.W.mg_none_of X G n_int,
    n_sum := PySem.W.mg_none_of X G n_sum,
    n_zip := PySem.W.mg_none_of X G n_zip,
    n_sorted := PySem.W.mg_none_of X G n_sorted,
    n_ValueError := PySem.W.mg_none_of X G n_ValueError,
    e_NoNet := e_NoNet,
    el_NoNet := ⟨⟨el1_NoNet, el2_NoNet, el3_NoNet, el4_NoNet, el5_NoNet, el6_NoNet, el7_NoNet⟩, el8_NoNet⟩,
    e_NoWords := e_NoWords,
    el_NoWords := ⟨⟨el1_NoWords, el2_NoWords, el3_NoWords, el4_NoWords, el5_NoWords, el6_NoWords, el7_NoWords⟩, el8_NoWords⟩,
    e_NotRead := e_NotRead,
    el_NotRead := ⟨⟨el1_NotRead, el2_NotRead, el3_NotRead, el4_NotRead, el5_NotRead, el6_NotRead, el7_NotRead⟩, el8_NotRead⟩,
    e_NoPlace := e_NoPlace,
    el_NoPlace := ⟨⟨el1_NoPlace, el2_NoPlace, el3_NoPlace, el4_NoPlace, el5_NoPlace, el6_NoPlace, el7_NoPlace⟩, el8_NoPlace⟩,
    e_NoTree := e_NoTree,
    el_NoTree := ⟨⟨el1_NoTree, el2_NoTree, el3_NoTree, el4_NoTree, el5_NoTree, el6_NoTree, el7_NoTree⟩, el8_NoTree⟩,
    e_NoRing := e_NoRing,
    el_NoRing := ⟨⟨el1_NoRing, el2_NoRing, el3_NoRing, el4_NoRing, el5_NoRing, el6_NoRing, el7_NoRing⟩, el8_NoRing⟩,
    e_NoNumber := e_NoNumber,
    el_NoNumber := ⟨⟨el1_NoNumber, el2_NoNumber, el3_NoNumber, el4_NoNumber, el5_NoNumber, el6_NoNumber, el7_NoNumber⟩, el8_NoNumber⟩,
    xmN := x_xmN,
    xb_NoNet := x_xb_NoNet,
    xb_NoWords := x_xb_NoWords,
    xb_NotRead := x_xb_NotRead,
    xb_NoPlace := x_xb_NoPlace,
    xb_NoTree := x_xb_NoTree,
    xb_NoRing := x_xb_NoRing,
    xb_NoNumber := x_xb_NoNumber,
    y_NoNet_0 := x_y_NoNet_0,
    y_NoNet_1 := x_y_NoNet_1,
    y_NoNet_2 := x_y_NoNet_2,
    y_NoNet_3 := x_y_NoNet_3,
    y_NoNet_4 := x_y_NoNet_4,
    y_NoNet_5 := x_y_NoNet_5,
    y_NoNet_6 := x_y_NoNet_6,
    y_NoNet_7 := x_y_NoNet_7,
    y_NoWords_0 := x_y_NoWords_0,
    y_NoWords_1 := x_y_NoWords_1,
    y_NoWords_2 := x_y_NoWords_2,
    y_NoWords_3 := x_y_NoWords_3,
    y_NoWords_4 := x_y_NoWords_4,
    y_NoWords_5 := x_y_NoWords_5,
    y_NoWords_6 := x_y_NoWords_6,
    y_NoWords_7 := x_y_NoWords_7,
    y_NotRead_0 := x_y_NotRead_0,
    y_NotRead_1 := x_y_NotRead_1,
    y_NotRead_2 := x_y_NotRead_2,
    y_NotRead_3 := x_y_NotRead_3,
    y_NotRead_4 := x_y_NotRead_4,
    y_NotRead_5 := x_y_NotRead_5,
    y_NotRead_6 := x_y_NotRead_6,
    y_NotRead_7 := x_y_NotRead_7,
    y_NoPlace_0 := x_y_NoPlace_0,
    y_NoPlace_1 := x_y_NoPlace_1,
    y_NoPlace_2 := x_y_NoPlace_2,
    y_NoPlace_3 := x_y_NoPlace_3,
    y_NoPlace_4 := x_y_NoPlace_4,
    y_NoPlace_5 := x_y_NoPlace_5,
    y_NoPlace_6 := x_y_NoPlace_6,
    y_NoPlace_7 := x_y_NoPlace_7,
    y_NoTree_0 := x_y_NoTree_0,
    y_NoTree_1 := x_y_NoTree_1,
    y_NoTree_2 := x_y_NoTree_2,
    y_NoTree_3 := x_y_NoTree_3,
    y_NoTree_4 := x_y_NoTree_4,
    y_NoTree_5 := x_y_NoTree_5,
    y_NoTree_6 := x_y_NoTree_6,
    y_NoTree_7 := x_y_NoTree_7,
    y_NoRing_0 := x_y_NoRing_0,
    y_NoRing_1 := x_y_NoRing_1,
    y_NoRing_2 := x_y_NoRing_2,
    y_NoRing_3 := x_y_NoRing_3,
    y_NoRing_4 := x_y_NoRing_4,
    y_NoRing_5 := x_y_NoRing_5,
    y_NoRing_6 := x_y_NoRing_6,
    y_NoRing_7 := x_y_NoRing_7,
    y_NoNumber_0 := x_y_NoNumber_0,
    y_NoNumber_1 := x_y_NoNumber_1,
    y_NoNumber_2 := x_y_NoNumber_2,
    y_NoNumber_3 := x_y_NoNumber_3,
    y_NoNumber_4 := x_y_NoNumber_4,
    y_NoNumber_5 := x_y_NoNumber_5,
    y_NoNumber_6 := x_y_NoNumber_6,
    y_NoNumber_7 := x_y_NoNumber_7 }, rfl⟩
end Rb
/-! names that are taken, so that the head lays no second form of the objects of the run: it would make most of the compiled file -/
namespace PySem.W.Fast
def tw7740142709552059392 := ()
def tw1213573423873931264 := ()
def tw14624577079591954432 := ()
def tw8118034841702641696 := ()
def tw2141498507524906080 := ()
def tw10373679920283304032 := ()
def tw6391666110527596672 := ()
def tw4885833725522323648 := ()
def tw14462180089725434112 := ()
def tw17919053278619987456 := ()
def tw6746557629805546048 := ()
def tw4437839647918719552 := ()
def tw7893329196736195232 := ()
def tw54341941897918240 := ()
def tw17615709050183385952 := ()
def tw16181377052269140864 := ()
def tw6714943414604906400 := ()
def tw15545975248770098080 := ()
def tw14733944550751989664 := ()
def tw3163171441730927617 := ()
def tw4704691907280353409 := ()
def tw15619863209951333537 := ()
def tw17148001673222762753 := ()
def tw16696799824308933089 := ()
def tw17121569581182387713 := ()
def tw9547854690527305249 := ()
def tw2775814498997212737 := ()
def tw14259321640365622081 := ()
def tw3530989068046239681 := ()
def tw5478800898750148577 := ()
def tw16564653932125924321 := ()
def tw988985959507694722 := ()
def tw17026756850913163394 := ()
def tw16432415627711108226 := ()
def tw14802620363426203874 := ()
def tw13158211445627884770 := ()
def tw14714734857488192738 := ()
def tw4403938653603770722 := ()
def tw15241313058557923714 := ()
def tw11652344336798234082 := ()
def tw227347401581246946 := ()
def tw3635904682443092482 := ()
def tw17660169048371020418 := ()
def tw1789300504164572834 := ()
def tw1821977276693445346 := ()
def tw5794422644123700002 := ()
def tw15912141066669526882 := ()
def tw12682594214372236130 := ()
def tw15887614837703287811 := ()
def tw15061156171181931619 := ()
def tw9689339656647651555 := ()
def tw17587777181726196099 := ()
def tw4496664185203537315 := ()
def tw8901954526139561411 := ()
def tw5581323162917542371 := ()
def tw5254558031067837923 := ()
def tw13541531717015219715 := ()
def tw17875581579075539459 := ()
def tw3837907204546862627 := ()
def tw6040532517378063939 := ()
def tw15596566120682783363 := ()
def tw4345101136987741955 := ()
def tw3218142724852440835 := ()
def tw17581138246796512035 := ()
def tw4238364847714940835 := ()
def tw3949052485961561027 := ()
def tw1571463930195756228 := ()
def tw278613573070049508 := ()
def tw16502376167830712548 := ()
def tw4430358902815355204 := ()
def tw240233074094972260 := ()
def tw5832957540677333380 := ()
def tw12165755098799246756 := ()
def tw9210003704841348580 := ()
def tw5800395725872494052 := ()
def tw60467059396159044 := ()
def tw9260138920992692804 := ()
def tw3101824889125975652 := ()
def tw4926120817212585636 := ()
def tw14682870981253191364 := ()
def tw12302471583044698852 := ()
def tw1592076928142277348 := ()
def tw847569399307673412 := ()
def tw5914888996036567972 := ()
def tw7696934359498387364 := ()
def tw5048048234679991268 := ()
def tw87627610303133733 := ()
def tw6877467147958353989 := ()
def tw7087029267121588325 := ()
def tw2057076857783472229 := ()
def tw11632170707453515909 := ()
def tw11197674022068159653 := ()
def tw17912795724227251365 := ()
def tw13020499481330884773 := ()
def tw18087083158961731813 := ()
def tw15075581435802012901 := ()
def tw5031012609442354437 := ()
def tw11315272013091663109 := ()
def tw15477210649166886277 := ()
def tw3536706204868987269 := ()
def tw3167596382233905541 := ()
def tw8370906339486655909 := ()
def tw9277280056557535749 := ()
def tw11979326242044390917 := ()
def tw536829871093742085 := ()
def tw70332222533453477 := ()
def tw8046812042952533733 := ()
def tw14392990044451706629 := ()
def tw10088125041380336485 := ()
def tw9896122093224084325 := ()
def tw12556488288637768581 := ()
def tw4462487691481847749 := ()
def tw10574147076584254405 := ()
def tw1166345337677237189 := ()
def tw1815863649230450726 := ()
def tw14718671612723205350 := ()
def tw16102933223978588518 := ()
def tw7092333072799360390 := ()
def tw17535759242647301510 := ()
def tw13767769703927608710 := ()
def tw14839293631094213030 := ()
def tw2260058251079496134 := ()
def tw9044458864862265958 := ()
def tw14510727703172057766 := ()
def tw11932169193705662118 := ()
def tw15489919948494398214 := ()
def tw4129903876698686246 := ()
def tw14396624369137358662 := ()
def tw1061083479267269446 := ()
def tw527094492715729798 := ()
def tw7434338441418428358 := ()
def tw4807602689840914503 := ()
def tw15051870020900930663 := ()
def tw13740821969801550023 := ()
def tw6199764707131861191 := ()
def tw2585988023819584807 := ()
def tw15506604656463767879 := ()
def tw598185571627611495 := ()
def tw16423808226905373031 := ()
def tw9256660098075262343 := ()
def tw12413401023862373799 := ()
def tw7774108882530793927 := ()
def tw3614467033892363783 := ()
def tw9629556927002217127 := ()
def tw10858068877672860391 := ()
def tw9547254205926856487 := ()
def tw11441657255552080711 := ()
def tw17942383543308901287 := ()
def tw18232408673155217319 := ()
def tw9156690897063498727 := ()
def tw8246871349498014760 := ()
def tw16369111313227026504 := ()
def tw15148507766940269672 := ()
def tw16218296711926660232 := ()
def tw4367421641448327432 := ()
def tw14731295065876222280 := ()
def tw2898816945286664552 := ()
def tw12698241338705270152 := ()
def tw3899902933116290472 := ()
def tw3836016328240057768 := ()
def tw3228081306180080264 := ()
def tw13882780867601380008 := ()
def tw13471448914062392136 := ()
def tw1345775287856921480 := ()
def tw682371838177833993 := ()
def tw3399925823181198441 := ()
def tw13745069711438424329 := ()
def tw10472126072347819273 := ()
def tw7960292878640905513 := ()
def tw10862649100322837833 := ()
def tw9605464794743603849 := ()
def tw10979649133282076425 := ()
def tw12652539361965465353 := ()
def tw11308914273432873929 := ()
def tw13541352258418339914 := ()
def tw7553192780397253738 := ()
def tw5637101281885875306 := ()
def tw12548773494829664394 := ()
def tw11122911052633480458 := ()
def tw363742434264920362 := ()
def tw17055097837157082474 := ()
def tw15617814710281418218 := ()
def tw3591860725789731370 := ()
def tw13041546681595689514 := ()
def tw2799398156693856842 := ()
def tw15446336848450983498 := ()
def tw4877967315743496906 := ()
def tw6212793648424646346 := ()
def tw16324075081006482314 := ()
def tw5268364530387605386 := ()
def tw15575034955446429610 := ()
def tw1180220991758506954 := ()
def tw801852888201298955 := ()
def tw11671559128143348779 := ()
def tw4723660958610235467 := ()
def tw8905539673287228651 := ()
def tw12359974136125004107 := ()
def tw16083406410591358315 := ()
def tw6343309399956152683 := ()
def tw12734399805436124619 := ()
def tw11532522243287013899 := ()
def tw583385053457044011 := ()
def tw10770305567117514347 := ()
def tw16387163058151642891 := ()
def tw17650922778349836203 := ()
def tw8198688927268750315 := ()
def tw8171932451648838700 := ()
def tw14862917019831056460 := ()
def tw11222886977874089068 := ()
def tw5788985344702157004 := ()
def tw16059566431765094636 := ()
def tw15841526293666066700 := ()
def tw6881691405362415916 := ()
def tw17451220015685392716 := ()
def tw17222797244184067468 := ()
def tw55454560181003724 := ()
def tw18156004109757388268 := ()
def tw443930439197364780 := ()
def tw6104810569277384332 := ()
def tw7467032510578852524 := ()
def tw14475505714646552364 := ()
def tw11157974687623823180 := ()
def tw14557307302798225260 := ()
def tw10760619640219435884 := ()
def tw16056199000295637932 := ()
def tw10122879547309229133 := ()
def tw14415348733424078925 := ()
def tw2906421326520417389 := ()
def tw11721443605462770829 := ()
def tw2727666386547993805 := ()
def tw7028563598169801965 := ()
def tw447926725398480301 := ()
def tw10985485289970711053 := ()
def tw15388037099256616493 := ()
def tw14604668427140273741 := ()
def tw3380689425181242989 := ()
def tw13915149358349911661 := ()
def tw11434655544508040845 := ()
def tw6876233198751523533 := ()
def tw12482560611418097389 := ()
def tw14794646465443725069 := ()
def tw7904137257948350253 := ()
def tw1822399654317617965 := ()
def tw15460079535506657101 := ()
def tw1498511930890772429 := ()
def tw11865750835252187150 := ()
def tw2338106525651486734 := ()
def tw17120412952751609934 := ()
def tw2673453638100104366 := ()
def tw5438009612592364718 := ()
def tw8868306650044436686 := ()
def tw903895646840434958 := ()
def tw17026306420237055278 := ()
def tw3942227016397919598 := ()
def tw1794988045076638094 := ()
def tw7016827357011451374 := ()
def tw12178330760766966318 := ()
def tw15797632231403728494 := ()
def tw15466105190961572462 := ()
def tw7430017461298028206 := ()
def tw8938925323911643918 := ()
def tw2560780291675691822 := ()
def tw18369270980783743886 := ()
def tw8822228323729593294 := ()
def tw4170608144772917230 := ()
def tw14169187310764555279 := ()
def tw4457248403975100463 := ()
def tw10576316767395670127 := ()
def tw13507208398872798479 := ()
def tw7729026041903296943 := ()
def tw15921151517513499087 := ()
def tw10086564508520676047 := ()
def tw681065388406597327 := ()
def tw8466144272606930735 := ()
def tw12663753861032943503 := ()
def tw6311022991501863919 := ()
def tw14130674714384142448 := ()
def tw186659534930617456 := ()
def tw12217253165977061616 := ()
def tw2891390188160355600 := ()
def tw13757321151716774160 := ()
def tw12696755860376984880 := ()
def tw12585760384434486608 := ()
def tw11008684791008097680 := ()
def tw17351996492700762544 := ()
def tw1882349865666064848 := ()
def tw17209169651566055920 := ()
def tw17134402527666130480 := ()
def tw8282818405720128080 := ()
def tw15938351383673176688 := ()
def tw10444528625256817264 := ()
def tw8023906573298409104 := ()
def tw408880655028960944 := ()
def tw13770687974121236176 := ()
def tw4068021476599236336 := ()
def tw6861127394325564176 := ()
def tw11950676756092205840 := ()
def tw4680215899565509520 := ()
def tw12202413202086652880 := ()
def tw17297848759891567600 := ()
def tw13195100697073336304 := ()
def tw3048536769391286289 := ()
def tw11444849482894338129 := ()
def tw5180884187364922481 := ()
def tw8696722168156994673 := ()
def tw15154871664224430321 := ()
def tw13652846683222121873 := ()
def tw1900540069542959537 := ()
def tw16576897819122559409 := ()
def tw1557162711750552049 := ()
def tw8810073966856068913 := ()
def tw6000249151753748273 := ()
def tw2865565520604285809 := ()
def tw797815666055616401 := ()
def tw17250598068884440114 := ()
def tw7126240168852839474 := ()
def tw14620331383972717650 := ()
def tw15862009057942205522 := ()
def tw4184743433284933810 := ()
def tw86983432920917202 := ()
def tw5010931837598038290 := ()
def tw1786125125608931666 := ()
def tw17716713546625670482 := ()
def tw1199354601354270066 := ()
def tw4192399031344123410 := ()
def tw9935047715270832850 := ()
def tw6147986919841861394 := ()
def tw14355994658838811410 := ()
def tw11811045641119867698 := ()
def tw8802720359041916754 := ()
def tw17289877185358394194 := ()
def tw12885110495187143634 := ()
def tw12523100614140017715 := ()
def tw15214827581852768307 := ()
def tw10429915280462787763 := ()
def tw13172536189472626899 := ()
def tw3441810457561029875 := ()
def tw15447492036432787763 := ()
def tw17998397316155262259 := ()
def tw16741906605204678003 := ()
def tw6187660358080716211 := ()
def tw2048048719354075603 := ()
def tw12787056845371982291 := ()
def tw7152952695094727155 := ()
def tw10374031847367745107 := ()
def tw16549931646264238675 := ()
def tw17035545776656294515 := ()
def tw8620234329057467059 := ()
def tw9483384470651155187 := ()
def tw3814003264752474931 := ()
def tw14957754671665376083 := ()
def tw16009978122230395763 := ()
def tw7826749401303237491 := ()
def tw150308093265431475 := ()
def tw11653482845864543219 := ()
def tw9403809930699430996 := ()
def tw11460326827330377908 := ()
def tw15368883136737146132 := ()
def tw9572201919157342580 := ()
def tw955719532124399988 := ()
def tw15634573850463074708 := ()
def tw2286037717698380180 := ()
def tw15475239967838830004 := ()
def tw2096410661097108980 := ()
def tw954070574612523540 := ()
def tw4182653052894122548 := ()
def tw9975396181830978100 := ()
def tw14767723661375136340 := ()
def tw5911580146116946548 := ()
def tw3442630867810450132 := ()
def tw4946545985524932340 := ()
def tw12726284485225294580 := ()
def tw13190953178334453652 := ()
def tw16074712877785103348 := ()
def tw10822800639736293429 := ()
def tw3807498582926429301 := ()
def tw7933955555297306901 := ()
def tw13731398062629759349 := ()
def tw3521533293303552373 := ()
def tw15145656900268600757 := ()
def tw458210120694029845 := ()
def tw17954255056156610069 := ()
def tw12632888719173081717 := ()
def tw11834835246820000437 := ()
def tw13318904531064267477 := ()
def tw10990007665518144277 := ()
def tw5473005541830455061 := ()
def tw3345863439672733461 := ()
def tw17210199501767377717 := ()
def tw3158966596758521717 := ()
def tw9248352089678832597 := ()
def tw18263980748901304566 := ()
def tw14981910416657318294 := ()
def tw3404368626204368310 := ()
def tw16515814146087884278 := ()
def tw189658839829819926 := ()
def tw8371054475619976758 := ()
def tw2805768647343418966 := ()
def tw13696013183476255446 := ()
def tw3674297339981634262 := ()
def tw802562676167044982 := ()
def tw12337765233556880246 := ()
def tw14903919330461973398 := ()
def tw11872037311507974102 := ()
def tw18314653993609546807 := ()
def tw3767975002389460183 := ()
def tw3575252508578527447 := ()
def tw13987460206624752855 := ()
def tw467277691949209943 := ()
def tw7363637004070511991 := ()
def tw4546875128324545015 := ()
def tw8275846685396141559 := ()
def tw16935106288800904791 := ()
def tw14763967038306833175 := ()
def tw3691694843208318839 := ()
def tw16568563231818626007 := ()
def tw5241871816699241528 := ()
def tw12000624129023574136 := ()
def tw8734298762783078520 := ()
def tw3726652989019022520 := ()
def tw14688536287558710520 := ()
def tw8423946081898856792 := ()
def tw6402933109461749272 := ()
def tw6472977693267367544 := ()
def tw977832672099563128 := ()
def tw8421858554726711992 := ()
def tw8188684345644152536 := ()
def tw12408598930007575256 := ()
def tw13623942238417398520 := ()
def tw1382075648240026456 := ()
def tw3625553592425165784 := ()
def tw4264559903868753912 := ()
def tw11475827570719403033 := ()
def tw9432064614387265561 := ()
def tw10771167586424798233 := ()
def tw6788748639176810585 := ()
def tw1600593904695959673 := ()
def tw4610547946842512537 := ()
def tw7215218653662346393 := ()
def tw10888099411879741625 := ()
def tw18265610894453375225 := ()
def tw15686960363742713209 := ()
def tw15687977436236528089 := ()
def tw9377059876579954329 := ()
def tw13730801912736914073 := ()
def tw10290247303666242201 := ()
def tw7035495078597340857 := ()
def tw16203351682793132729 := ()
def tw9399857321620667129 := ()
def tw17673108705517857625 := ()
def tw8483304928792310617 := ()
def tw8214533182909249401 := ()
def tw4279843511434696601 := ()
def tw12645856035438354393 := ()
def tw10759606755962575994 := ()
def tw17756021373158455418 := ()
def tw15319094514693781722 := ()
def tw1043957884345935194 := ()
def tw13252587263991334266 := ()
def tw15934952665475636826 := ()
def tw10866775136960955002 := ()
def tw8142683145606733466 := ()
def tw6820840261209372634 := ()
def tw15318624429544822811 := ()
def tw9962337085945344091 := ()
def tw5848563517664596155 := ()
def tw2398496253072252123 := ()
def tw16496500776337321179 := ()
def tw5927749241340602747 := ()
def tw13230502229696801211 := ()
def tw14249698616420109787 := ()
def tw16702203568251282971 := ()
def tw4445097669084916251 := ()
def tw14684095226479861339 := ()
def tw9022751060466334363 := ()
def tw12883655252687729371 := ()
def tw4962615110447214331 := ()
def tw405974621360782139 := ()
def tw6581568871272564667 := ()
def tw13293637379761227868 := ()
def tw3840563621039340636 := ()
def tw1406399882066383996 := ()
def tw15684944045738740860 := ()
def tw8545923630471367900 := ()
def tw4588591370363730172 := ()
def tw3934534602653102332 := ()
def tw13303354753686934012 := ()
def tw3347876117971641884 := ()
def tw15045319479369609852 := ()
def tw9519341732396582556 := ()
def tw829113739605923484 := ()
def tw10245427195891846908 := ()
def tw10474312991923147516 := ()
def tw17948638315840509692 := ()
def tw297835457410116412 := ()
def tw9761865496276093820 := ()
def tw10353872471672334236 := ()
def tw18312011239158057948 := ()
def tw11408629294051963005 := ()
def tw9712001304626780285 := ()
def tw4853120697918189693 := ()
def tw2812741645411310749 := ()
def tw13031371940219741373 := ()
def tw12063590743654147293 := ()
def tw13466775517289309405 := ()
def tw13019648086129414397 := ()
def tw7883062090346649917 := ()
def tw3714188925677879645 := ()
def tw9506480254386912669 := ()
def tw1735967256239866397 := ()
def tw5540694174490104413 := ()
def tw10134390930966944349 := ()
def tw11804821181153311357 := ()
def tw7737953640430917277 := ()
def tw3003361520742203037 := ()
def tw3216474714159952573 := ()
def tw6938691314321609437 := ()
def tw2567321313285480189 := ()
def tw7274366174180397917 := ()
def tw13138099399929207773 := ()
def tw10011902877771699294 := ()
def tw7189296914120853630 := ()
def tw15789246778604111998 := ()
def tw9674643925255726270 := ()
def tw1509512752148526302 := ()
def tw13555838042399930814 := ()
def tw17167784091919158718 := ()
def tw9625291542996329950 := ()
def tw12409172701372389918 := ()
def tw14799700001774643806 := ()
def tw1381075225876625022 := ()
def tw10737873336833068766 := ()
def tw250479727800671966 := ()
def tw13326421546197063454 := ()
def tw9561771417690454878 := ()
def tw17806302349344156606 := ()
def tw1316937896701918335 := ()
def tw4943410046442447039 := ()
def tw10428104864918143199 := ()
def tw13439422091902512383 := ()
def tw849749377779926335 := ()
def tw2864766515876907423 := ()
def tw6761393810937207199 := ()
def tw6107600988058295743 := ()
def tw10120937130719888895 := ()
def tw14650992742612925983 := ()
def tw2034478294920308639 := ()
def tw16680755491789019706 := ()
end PySem.W.Fast
open PySem PySem.W PyProof.Rows
set_option maxRecDepth 100000 in
set_option maxHeartbeats 0 in
theorem PySem.Challenge.cw_ringbook_k14_each_refusal_its_own_holds : PySem.Challenge.rw_ringbook_k14_each_refusal_its_own.Holds := by
  w_on; o_law; k_head; (case hw => w_witness2)
  k_fill
  refine L2.walk_ofW (l := PySem.Challenge.rw_ringbook_k14_each_refusal_its_own) (n := 63) (k := 14) (x := "script") (sp := Rb.sp_law) rfl (by decide) rfl ⟨rfl, by decide, by decide⟩ (fun w h Y => PySem.W.kIn_of Y) ?F (fun K H a ns hl hO hS => Rb.law_start hl hO hS)
  case F =>
    intro w mg fa h KX G hmg
    have T : ∃ t : Rb.Adr, Rb.Txt (L2.KOf KX) mg t ∧ t.f_a2 = fa := by
      dsimp only [L2.KOf]
      have Z := @Rb.txt_mk
      obtain ⟨t, T, e⟩ : ∃ t : Rb.Adr, Rb.Txt _ mg t ∧ mg "law" = some (.ref t.f_a2) := by
        refine' (fun q => Exists.elim q fun t z => ⟨t, z.1, z.1.m_a2⟩) (Rb.txt_mk KX G ?_ ?_ ?_ ?_ ?_ ?_ ?_ ?_ ?_ ?_ ?_ ?_ ?_ ?_ ?_ ?_ ?_ ?_ ?_ ?_ ?_ ?_ ?_ ?_ ?_ ?_ ?_ ?_ ?_ ?_ ?_ ?_ ?_ ?_ ?_ ?_ ?_ ?_ ?_ ?_ ?_ ?_ ?_ ?_ ?_ ?_ ?_ ?_ ?_ ?_ ?_ ?_ ?_ ?_ ?_ ?_ ?_ ?_ ?_ ?_ ?_ ?_ ?_ ?_ ?_ ?_ ?_ ?_ ?_ ?_ ?_ ?_ ?_ ?_ ?_ ?_ ?_ ?_ ?_ ?_ ?_ ?_ ?_ ?_ ?_ ?_ ?_ ?_ ?_ ?_ ?_ ?_ ?_ ?_ ?_ ?_ ?_ ?_ ?_ ?_ ?_ ?_ ?_ ?_ ?_ ?_ ?_ ?_ ?_ ?_ ?_ ?_ ?_ ?_ ?_ ?_ ?_ ?_ ?_ ?_ ?_ ?_ ?_ ?_ ?_ ?_ ?_ ?_ ?_ ?_ ?_ ?_ ?_ ?_ ?_ ?_ ?_ ?_ ?_ ?_ ?_ ?_ ?_ ?_ ?_ ?_ ?_ ?_ ?_ ?_ ?_ ?_ ?_ ?_ ?_ ?_ ?_ ?_ ?_ ?_ ?_ ?_ ?_ ?_ ?_ ?_ ?_ ?_ ?_ ?_ ?_ ?_ ?_ ?_ ?_ ?_ ?_ ?_ ?_ ?_ ?_ ?_ ?_ ?_ ?_ ?_ ?_ ?_ ?_ ?_ ?_ ?_ ?_ ?_ ?_ ?_ ?_ ?_ ?_ ?_ ?_ ?_ ?_ ?_ ?_ ?_ ?_ ?_ ?_ ?_ ?_ ?_ ?_ ?_ ?_ ?_ ?_ ?_ ?_ ?_ ?_ ?_ ?_ ?_ ?_ ?_ ?_ ?_ ?_ ?_ ?_ ?_ ?_ ?_ ?_ ?_ ?_ ?_ ?_ ?_ ?_ ?_ ?_ ?_ ?_ ?_ ?_ ?_ ?_ ?_ ?_ ?_ ?_ ?_ ?_ ?_ ?_ ?_ ?_ ?_ ?_ ?_ ?_ ?_ ?_ ?_ ?_ ?_ ?_ ?_ ?_ ?_ ?_ ?_ ?_ ?_ ?_ ?_ ?_ ?_ ?_ ?_ ?_ ?_ ?_ ?_ ?_ ?_ ?_ ?_ ?_ ?_ ?_ ?_ ?_ ?_ ?_ ?_ ?_ ?_ ?_ ?_ ?_ ?_ ?_ ?_ ?_ ?_ ?_ ?_ ?_ ?_ ?_ ?_ ?_ ?_ ?_ ?_ ?_ ?_ ?_ ?_ ?_ ?_ ?_ ?_ ?_ ?_ ?_ ?_ ?_ ?_ ?_ ?_ ?_ ?_ ?_ ?_ ?_ ?_ ?_ ?_ ?_ ?_ ?_ ?_ ?_ ?_ ?_ ?_ ?_ ?_ ?_ ?_ ?_ ?_ ?_ ?_ ?_ ?_ ?_ ?_ ?_ ?_ ?_ ?_ ?_ ?_ ?_ ?_ ?_ ?_ ?_ ?_ ?_ ?_ ?_ ?_ ?_ ?_ ?_ ?_ ?_ ?_ ?_ ?_ ?_ ?_ ?_ ?_ ?_ ?_ ?_ ?_ ?_ ?_ ?_)
        all_goals try first | k_is | kernel_rfl | rfl | exact ⟨_, rfl⟩
      refine ⟨t, T, ?_⟩
      have z := e.symm.trans hmg
      injection z with z; injection z with z
    obtain ⟨t, T, e⟩ := T
    subst e
    obtain ⟨fd, hb, hF⟩ := Rb.law_fn T
    exact ⟨fd, hb, fun base kb nb => hF base⟩
#print axioms PySem.Challenge.cw_ringbook_k14_each_refusal_its_own_holds
