import PyProof.Rows.All
import Wide.All
import OpenK.AllK
import Wide.FinOn
import Lean
import PyProof.EqAt
import PyProof.EqKinds
import PyProof.TupleCall
import KE.KRevIter
import PyProof.StationsW
import PyProof.ExcBaseAll.ValueError
import PyProof.ExcInit
import PyProof.InstStoreFacts
import KE.KTryMore
import PyProof.NsDelKeeps
import KE.KIsAll
import PySem.Challenge.RW_lettercell_k06_what_is_refused
-- CHANGE: your row's module here, as the last of these rows
set_option Elab.async false
set_option linter.all false
set_option maxRecDepth 100000
/-! THE HAND LAYER, for ints, bools, texts, own classes, LISTS and tuples (index, slices, in, append, pop ..), calls, loops. Paste it whole ahead of your own text; what your proof does not reach may be deleted. -/
namespace L2
open PySem PySem.Spec PyProof.Rows

/-- a key: an int or a str -/
abbrev Key := Sum Int Str
def keyIs : Key → Value → Bool
  | .inl k, v => Value.isInt k v
  | .inr x, v => Value.isStrOf x v
def keyH (w : World) : Key → Int
  | .inl k => hashInt k
  | .inr x => hashStr w x
theorem keyIs_shape : ∀ {k : Key} {v : Value}, keyIs k v = true → (∃ i t, k = Sum.inl i ∧ v = Value.int i t) ∨ (∃ x t, k = Sum.inr x ∧ v = Value.str x t)
  | .inl i, v, h => by
    obtain ⟨t, e⟩ := Value.isInt_shape (k := i) (v := v) h
    exact .inl ⟨i, t, rfl, e⟩
  | .inr x, v, h => by
    obtain ⟨t, e⟩ := Value.isStrOf_shape (x := x) (v := v) h
    exact .inr ⟨x, t, rfl, e⟩
theorem keyIs_int (i : Int) (t : Tok) : keyIs (.inl i) (.int i t) = true := by simp [keyIs, Value.isInt]
theorem keyIs_str (x : Str) (t : Tok) : keyIs (.inr x) (.str x t) = true := by simp [keyIs, Value.isStrOf]
theorem key_ll (a b : Int) : decide ((Sum.inl a : Key) = Sum.inl b) = (a == b) := by
  by_cases e : a = b
  · subst e; simp
  · have h : ¬ (Sum.inl a : Key) = Sum.inl b := fun q => e (Sum.inl.inj q)
    rw [decide_eq_false h]
    exact (beq_eq_false_iff_ne.mpr e).symm
theorem key_rr (a b : Str) : decide ((Sum.inr a : Key) = Sum.inr b) = decide (a = b) := by
  by_cases e : a = b
  · subst e; simp
  · have h : ¬ (Sum.inr a : Key) = Sum.inr b := fun q => e (Sum.inr.inj q)
    rw [decide_eq_false h, decide_eq_false e]
theorem key_lr (a : Int) (b : Str) : decide ((Sum.inl a : Key) = Sum.inr b) = false := decide_eq_false (fun q => nomatch q)
theorem key_rl (a : Str) (b : Int) : decide ((Sum.inr a : Key) = Sum.inl b) = false := decide_eq_false (fun q => nomatch q)

def mixKind (prog : Program) (w : World) : PySem.KeyKind prog w Key where
  is := keyIs
  hash := keyH w
  inj := fun v a b ha hb => by
    rcases keyIs_shape ha with ⟨i, t, rfl, rfl⟩ | ⟨x, t, rfl, rfl⟩
    · rcases keyIs_shape hb with ⟨j, u, rfl, e⟩ | ⟨y, u, rfl, e⟩
      · injection e with e1 _; rw [e1]
      · exact nomatch e
    · rcases keyIs_shape hb with ⟨j, u, rfl, e⟩ | ⟨y, u, rfl, e⟩
      · exact nomatch e
      · injection e with e1 _; rw [e1]
  byValue := fun k v h => by
    rcases keyIs_shape h with ⟨i, t, rfl, rfl⟩ | ⟨x, t, rfl, rfl⟩ <;> rfl
  pyHash := fun hv h => by
    rcases keyIs_shape hv with ⟨i, t, rfl, rfl⟩ | ⟨x, t, rfl, rfl⟩
    · exact wpAny_pyHash_int h
    · exact wpAny_pyHash_str h
  eqBool := fun hu hv h => by
    rcases keyIs_shape hu with ⟨i, t, rfl, rfl⟩ | ⟨x, t, rfl, rfl⟩
    · rcases keyIs_shape hv with ⟨j, u, rfl, rfl⟩ | ⟨y, u, rfl, rfl⟩
      · rw [key_ll] at h; exact wpAny_eqBool_int h
      · rw [key_lr] at h; exact SeqAt.EqAt.int_str i t y u _ _ _ _ h
    · rcases keyIs_shape hv with ⟨j, u, rfl, rfl⟩ | ⟨y, u, rfl, rfl⟩
      · rw [key_rl] at h; exact SeqAt.EqAt.str_int x t j u _ _ _ _ h
      · rw [key_rr] at h; exact wpAny_eqBool_str h
  «strs» := fun k x t v h => by
    rcases keyIs_shape h with ⟨i, u, rfl, e⟩ | ⟨y, u, rfl, e⟩
    · exact nomatch e
    · injection e with e1 _
      subst e1
      cases v <;> rfl

theorem mixKind_int (prog : Program) (w : World) (i : Int) (t : Tok) : (mixKind prog w).is (.inl i) (.int i t) = true := keyIs_int i t
theorem mixKind_str (prog : Program) (w : World) (x : Str) (t : Tok) : (mixKind prog w).is (.inr x) (.str x t) = true := keyIs_str x t
end L2

namespace L2
open PySem PySem.Spec PyProof.Rows

/-- a value, without the heap -/
inductive V where
  | non | bl (b : Bool) | int (i : Int) | str (x : Str) | byt (b : Array UInt8) | flt (b : UInt64) | ref (a : Addr) | ty (n : String)
  deriving DecidableEq

def RelV : V → Value → Prop
  | .non, u => u = Value.none
  | .bl b, u => u = Value.bool b
  | .int i, u => ∃ t, u = Value.int i t
  | .str x, u => ∃ t, u = Value.str x t
  | .byt b, u => ∃ t, u = Value.bytes b t
  | .flt b, u => ∃ t, u = Value.float b t
  | .ref a, u => u = Value.ref a
  | .ty n, u => u = Value.type n

abbrev Vals : List V → List Value → Prop := Paired RelV
theorem Vals.length {xs : List V} {us : List Value} (r : Vals xs us) : xs.length = us.length := Paired.length r
theorem Vals.get : ∀ {xs : List V} {us : List Value} {i : Nat} {x : V}, Vals xs us → xs[i]? = some x → ∃ u, us[i]? = some u ∧ RelV x u
  | _, _, _, _, .nil, e => by simp at e
  | _, _, 0, _, .cons r _, e => by simp at e; subst e; exact ⟨_, rfl, r⟩
  | _, _, i + 1, x, .cons _ t, e => by
    obtain ⟨u, h1, h2⟩ := Vals.get (i := i) (x := x) t (by simpa using e)
    exact ⟨u, by simpa using h1, h2⟩
theorem Vals.set {x : V} {u : Value} (r : RelV x u) : ∀ {xs : List V} {us : List Value} (i : Nat), Vals xs us → Vals (xs.set i x) (us.set i u)
  | _, _, _, .nil => .nil
  | _, _, 0, .cons _ t => .cons r t
  | _, _, i + 1, .cons q t => .cons q (Vals.set r i t)
theorem Vals.append : ∀ {xs ys : List V} {us ws : List Value}, Vals xs us → Vals ys ws → Vals (xs ++ ys) (us ++ ws)
  | _, _, _, _, .nil, s => s
  | _, _, _, _, .cons r t, s => .cons r (Vals.append t s)
theorem Vals.take : ∀ {xs : List V} {us : List Value} (n : Nat), Vals xs us → Vals (xs.take n) (us.take n)
  | _, _, 0, _ => .nil
  | _, _, _ + 1, .nil => .nil
  | _, _, n + 1, .cons r t => .cons r (Vals.take n t)
theorem Vals.drop : ∀ {xs : List V} {us : List Value} (n : Nat), Vals xs us → Vals (xs.drop n) (us.drop n)
  | _, _, 0, r => r
  | _, _, _ + 1, .nil => .nil
  | _, _, n + 1, .cons _ t => Vals.drop n t
theorem Vals.none_of : ∀ {xs : List V} {us : List Value} {i : Nat}, Vals xs us → xs[i]? = none → us[i]? = none := fun {xs us i} r e => by
  have h1 := r.length
  have h2 : xs.length ≤ i := List.getElem?_eq_none_iff.mp e
  exact List.getElem?_eq_none_iff.mpr (by omega)

def RelO : Option V → Option Value → Prop
  | some v, some u => RelV v u
  | none, none => True
  | _, _ => False
def KV {κ : Type} : List (κ × V) → List (κ × Value) → Prop := Paired fun (p : κ × V) (q : κ × Value) => p.1 = q.1 ∧ RelV p.2 q.2

/-- a key of a dict (00_mix): an int or a text -/
def kV : Key → V
  | .inl i => .int i
  | .inr x => .str x

/-- what stands at a tracked address -/
inductive HO where
  /-- a list -/
  | lst (xs : List V)
  /-- a tuple (never changes) -/
  | tup (xs : List V)
  /-- a dict whose keys are ints and texts; one whose keys are tuples of ints and texts (the empty one is both) -/
  | dK (kvs : List (Key × V)) | dT (kvs : List (List Key × V))
  /-- a set of ints: its members, its size -/
  | set (S : Int → Bool) (n : Nat)
  /-- an instance of the class at C, its dict at dx, its attributes -/
  | ins (C dx : Addr) (fs : List (Str × V))
  /-- the dict of the instance at x -/
  | own (x : Addr)
  /-- the dict of an exception -/
  | xd (fs : List (Str × V))
  /-- a bound method, f of x -/
  | met (f x : Addr)
  /-- a range object lo, lo + 1, .. below hi -/
  | rng (lo hi : Int)
  /-- a thing that is known to the object (the script; a dict while a loop walks it): read, never written while it is so -/
  | frz (o : Obj) (u : HO)
  /-- a code object's table -/
  | tbl (ps : Array Value)
  /-- any other thing, by what is true of its one object (a def of one's own: SetO a S n := HO.ext fun h => ..) -/
  | ext (φ : Heap → Prop)

abbrev Hp := Addr → Option HO
def upd (H : Hp) (a : Addr) (o : HO) : Hp := fun b => if b = a then some o else H b
theorem upd_same {H : Hp} {a : Addr} {o : HO} : upd H a o a = some o := by unfold upd; rw [if_pos rfl]
theorem upd_ne {H : Hp} {a b : Addr} {o : HO} (h : b ≠ a) : upd H a o b = H b := by unfold upd; rw [if_neg h]
/-- two objects of different content stand apart -/
theorem ne_of {H : Hp} {a b : Addr} {o u : HO} (h : H a = some o) (h' : H b = some u) (d : o ≠ u) : a ≠ b := by
  intro e; subst e; rw [h] at h'; exact d (Option.some.inj h')
theorem ne_of_none {H : Hp} {a b : Addr} {o : HO} (h : H a = some o) (h' : H b = none) : a ≠ b := by
  intro e; subst e; rw [h] at h'; cases h'

section
variable (P : Program) (w : World)
def ObjOk (H : Hp) (h : Heap) (a : Addr) : HO → Prop
  | .lst xs => xs.length ≤ sizeLine ∧ ∃ (its : List Value) (n : Nat), Vals xs its ∧ h.get? a = some { cls := .type "list", data := .seq its.toArray n }
  | .tup xs => xs.length ≤ sizeLine ∧ ∃ its : List Value, Vals xs its ∧ IsTup h a its.toArray
  | .dK kvs => kvs.length ≤ sizeLine ∧ (a == sysModules) = false ∧ ∃ vs, KV kvs vs ∧ h.DictOf (mixKind P w) a vs
  | .dT kvs => kvs.length ≤ sizeLine ∧ (a == sysModules) = false ∧ ∃ xs : List (List Key × Addr × Value),
      Paired (fun (p : List Key × V) (q : List Key × Addr × Value) => p.1 = q.1 ∧ H q.2.1 = some (.tup (p.1.map kV)) ∧ RelV p.2 q.2.2) kvs xs ∧
      ∃ o es ep, h.get? a = some o ∧ o.ExactDict ∧ o.data = .dict es ep ∧ es.toList = xs.map (entryOfKey (tupleKind (mixKind P w))) ∧ (xs.map (·.1)).Nodup
  | .set S n => h.SetOf (intKind P w) a S n
  | .ins C dx fs => H dx = some (.own a) ∧ fs.length ≤ 1000 ∧ dx ≠ a ∧ h.get? a = some (PySem.W.instObj C dx) ∧
      ∃ mA, h.Ns1 dx mA ∧ (∀ f, RelO (fs.lookup f) (mA f)) ∧ PySem.Within mA (fs.map (·.1))
  | .own _ => ∃ o, h.get? a = some o
  | .xd fs => ∃ mA, h.Ns1 a mA ∧ ∀ f, RelO (fs.lookup f) (mA f)
  | .rng lo hi => ∃ t u v, h.get? a = some { cls := .type "range", data := .fields #[.int lo t, .int hi u, .int 1 v] }
  | .frz o u => h.get? a = some o ∧ ObjOk H h a u
  | .tbl ps => h.get? a = some { cls := .none, data := .fields ps }
  | .met f x => h.get? a = some (PySem.W.methodObj (.ref f) (.ref x))
  | .ext φ => φ h ∧ (∃ o, h.get? a = some o) ∧ ∀ h1 h2 : Heap, φ h1 → (∀ o, h1.get? a = some o → h2.get? a = some o) → φ h2
/-- the abstract heap is held -/
def HOk (H : Hp) (h : Heap) : Prop := ∀ a o, H a = some o → ObjOk P w H h a o
end

section
variable {P : Program} {w : World} {H H' : Hp} {h h' : Heap} {a : Addr} {o : HO}
theorem ObjOk.lt (x : ObjOk P w H h a o) : a < h.objs.size := by
  cases o with
  | lst xs => obtain ⟨_, _, _, _, e⟩ := x; exact Heap.lt_size e
  | tup xs => obtain ⟨_, _, _, p⟩ := x; exact p.lt
  | dK kvs => obtain ⟨_, _, _, _, o, _, _, e, _⟩ := x; exact Heap.lt_size e
  | dT kvs => obtain ⟨_, _, _, _, o, _, _, e, _⟩ := x; exact Heap.lt_size e
  | set S n => obtain ⟨o, _, _, _, e, _⟩ := x; exact Heap.lt_size e
  | ins C dx fs => obtain ⟨_, _, _, e, _⟩ := x; exact Heap.lt_size e
  | own y => obtain ⟨_, e⟩ := x; exact Heap.lt_size e
  | xd fs => obtain ⟨_, ⟨_, _, _, e, _⟩, _⟩ := x; exact Heap.lt_size e
  | rng lo hi => obtain ⟨_, _, _, e⟩ := x; exact Heap.lt_size e
  | frz ob u => obtain ⟨e, _⟩ := x; exact Heap.lt_size e
  | tbl ps => exact Heap.lt_size (show h.get? a = some _ from x)
  | met f y => exact Heap.lt_size (show h.get? a = some _ from x)
  | ext φ => obtain ⟨_, ⟨_, e⟩, _⟩ := x; exact Heap.lt_size e
theorem Paired.mapP {α β : Type} {F G : α → β → Prop} : ∀ {l₁ : List α} {l₂ : List β}, Paired F l₁ l₂ → (∀ a b, F a b → G a b) → Paired G l₁ l₂
  | _, _, .nil, _ => .nil
  | _, _, .cons r t, f => .cons (f _ _ r) (Paired.mapP t f)
/-- what an object's description leans on: its own object, its own dict, the tuples -/
theorem ObjOk.stay (x : ObjOk P w H h a o) (k : ∀ b u, (b = a ∨ H b = some (.own a)) → h.get? b = some u → h'.get? b = some u)
    (ho : ∀ b, H b = some (.own a) → H' b = some (.own a)) (ht : ∀ b xs, H b = some (.tup xs) → H' b = some (.tup xs)) : ObjOk P w H' h' a o := by
  induction o with
  | lst xs => obtain ⟨z, its, n, r, e⟩ := x; exact ⟨z, its, n, r, k _ _ (.inl rfl) e⟩
  | tup xs => obtain ⟨z, its, r, ob, e, c⟩ := x; exact ⟨z, its, r, ob, k _ _ (.inl rfl) e, c⟩
  | dK kvs => obtain ⟨z, y, vs, r, ob, es, ep, e, c⟩ := x; exact ⟨z, y, vs, r, ob, es, ep, k _ _ (.inl rfl) e, c⟩
  | dT kvs =>
    obtain ⟨z, y, xs, r, ob, es, ep, e, c⟩ := x
    exact ⟨z, y, xs, Paired.mapP r fun p q z => ⟨z.1, ht _ _ z.2.1, z.2.2⟩, ob, es, ep, k _ _ (.inl rfl) e, c⟩
  | set S n => obtain ⟨ob, es, ep, t, e, c⟩ := x; exact ⟨ob, es, ep, t, k _ _ (.inl rfl) e, c⟩
  | ins C dx fs =>
    obtain ⟨d, z, ne, e, mA, ⟨od, es, ep, e2, c⟩, r⟩ := x
    exact ⟨ho _ d, z, ne, k _ _ (.inl rfl) e, mA, ⟨od, es, ep, k _ _ (.inr d) e2, c⟩, r⟩
  | own y => obtain ⟨ob, e⟩ := x; exact ⟨ob, k _ _ (.inl rfl) e⟩
  | xd fs => obtain ⟨mA, ⟨od, es, ep, e, c⟩, r⟩ := x; exact ⟨mA, ⟨od, es, ep, k _ _ (.inl rfl) e, c⟩, r⟩
  | rng lo hi => obtain ⟨t, u, v, e⟩ := x; exact ⟨t, u, v, k _ _ (.inl rfl) e⟩
  | frz ob u ih => obtain ⟨e, q⟩ := x; exact ⟨k _ _ (.inl rfl) e, ih q⟩
  | tbl ps =>
    have e : h.get? a = some { cls := .none, data := .fields ps } := x
    show h'.get? a = some { cls := .none, data := .fields ps }
    exact k a _ (.inl rfl) e
  | met f y =>
    have e : h.get? a = some (PySem.W.methodObj (.ref f) (.ref y)) := x
    show h'.get? a = some (PySem.W.methodObj (.ref f) (.ref y))
    exact k a _ (.inl rfl) e
  | ext φ => obtain ⟨p, ⟨o, e⟩, st⟩ := x; exact ⟨st _ _ p fun o q => k _ _ (.inl rfl) q, ⟨o, k _ _ (.inl rfl) e⟩, st⟩
theorem HOk.lt (x : HOk P w H h) (e : H a = some o) : a < h.objs.size := (x a o e).lt
theorem HOk.fresh (x : HOk P w H h) (e : h.objs.size ≤ a) : H a = none := by
  cases q : H a with
  | none => rfl
  | some u => exact absurd (Nat.lt_of_lt_of_le (x.lt q) e) (Nat.lt_irrefl _)
/-- every object of the heap is kept -/
theorem HOk.kept (x : HOk P w H h) (k : ∀ b u, h.get? b = some u → h'.get? b = some u) : HOk P w H h' := fun a o e =>
  (x a o e).stay (fun b u _ q => k b u q) (fun _ q => q) fun _ _ q => q
/-- a new object is laid and tracked -/
theorem HOk.laid (x : HOk P w H h) (k : ∀ b u, h.get? b = some u → h'.get? b = some u) (hp : h.objs.size ≤ a) (new : ObjOk P w (upd H a o) h' a o) : HOk P w (upd H a o) h' := fun b u e => by
  have hn := x.fresh hp
  by_cases hb : b = a
  · subst hb; rw [upd_same] at e; cases e; exact new
  · rw [upd_ne hb] at e
    exact (x b u e).stay (fun c v _ q => k c v q) (fun c q => by rw [upd_ne (ne_of_none q hn)]; exact q) fun c xs q => by rw [upd_ne (ne_of_none q hn)]; exact q
end

/-- what may be read as u: it is u, or a known u -/
def Rd (H : Hp) (a : Addr) (u : HO) : Prop := H a = some u ∨ ∃ o, H a = some (.frz o u)
theorem Rd.of {H : Hp} {a : Addr} {u : HO} (h : H a = some u) : Rd H a u := .inl h
theorem Rd.ok {P : Program} {w : World} {H : Hp} {h : Heap} {a : Addr} {u : HO} (r : Rd H a u) (x : HOk P w H h) : ObjOk P w H h a u := by
  rcases r with r | ⟨o, r⟩
  · exact x a u r
  · obtain ⟨_, q⟩ := x a _ r
    exact q
/-- what may be written -/
def Mut : Option HO → Prop
  | some (.lst _) => True
  | some (.dK _) => True
  | some (.dT _) => True
  | some (.set _ _) => True
  | some (.ins _ _ _) => True
  | some (.ext _) => True
  | _ => False
section
variable {P : Program} {w : World} {H : Hp} {h h' : Heap} {x e : Addr} {o' : HO}
/-- the object at e is changed: x itself, or the dict of the instance x -/
theorem HOk.write (ok : HOk P w H h) (mu : Mut (H x)) (he : e = x ∨ H e = some (.own x)) (k : ∀ b u, b ≠ e → h.get? b = some u → h'.get? b = some u) (heo : ∃ u, h'.get? e = some u)
    (new : ObjOk P w (upd H x o') h' x o') : HOk P w (upd H x o') h' := fun b u q => by
  have nown : ∀ c y, H c = some (.own y) → c ≠ x := fun c y r z => by subst z; rw [r] at mu; exact mu
  have ntup : ∀ c xs, H c = some (.tup xs) → c ≠ x := fun c xs r z => by subst z; rw [r] at mu; exact mu
  by_cases hb : b = x
  · subst hb; rw [upd_same] at q; cases q; exact new
  · rw [upd_ne hb] at q
    by_cases hbe : b = e
    · have q' : H b = some (.own x) := by
        rcases he with z | z
        · exact absurd (hbe.trans z) hb
        · rw [hbe]; exact z
      rw [q] at q'; cases q'
      obtain ⟨v, hv⟩ := heo
      exact ⟨v, by rw [hbe]; exact hv⟩
    · refine (ok b u q).stay (fun c v hc r => k c v ?_ r) (fun c r => by rw [upd_ne (nown c b r)]; exact r) fun c xs r => by rw [upd_ne (ntup c xs r)]; exact r
      rcases hc with rfl | hc
      · exact hbe
      · rintro rfl
        rcases he with z | z
        · exact nown c b hc z
        · rw [hc] at z; cases z; exact hb rfl
end

/-! ### kept unless tracked; of the frames at fs (the callers') the slots may change (an exception that passes writes there); of the records at ex (iterators) nothing is said -/
structure Un (fs ex : List Addr) (H H' : Hp) (h h' : Heap) : Prop where
  keep : ∀ b o, h.get? b = some o → H b = none → b ∉ fs → b ∉ ex → h'.get? b = some o
  slot : ∀ b o, h.get? b = some o → H b = none → b ∈ fs → b ∉ ex → ∃ sl, h'.get? b = some { o with slots := sl }
  free : ∀ b o, h.get? b = some o → H b = none → b ∉ ex → H' b = none
  there : ∀ b o, h.get? b = some o → b ∉ ex → ∃ o', h'.get? b = some o'
  tups : ∀ b xs, H b = some (.tup xs) → H' b = some (.tup xs)
  frzs : ∀ b o u, H b = some (.frz o u) → H' b = some (.frz o u)
  tbls : ∀ b ps, H b = some (.tbl ps) → ∃ more, H' b = some (.tbl (ps ++ more))
section
variable {fs fs' ex ex' : List Addr} {H H1 H2 : Hp} {h h1 h2 h' : Heap} {a x e : Addr} {o : HO}
theorem Un.any (u : Un fs ex H H1 h h1) {b : Addr} {ob : Obj} (q : h.get? b = some ob) (n : H b = none) (hx : b ∉ ex) : ∃ sl, h1.get? b = some { ob with slots := sl } := by
  by_cases hb : b ∈ fs
  · exact u.slot b ob q n hb hx
  · exact ⟨ob.slots, u.keep b ob q n hb hx⟩
theorem Un.trans (a : Un fs ex H H1 h h1) (b : Un fs ex H1 H2 h1 h2) : Un fs ex H H2 h h2 where
  keep := fun c ob q n hc hx => b.keep c ob (a.keep c ob q n hc hx) (a.free c ob q n hx) hc hx
  slot := fun c ob q n hc hx => by
    obtain ⟨sl, e1⟩ := a.slot c ob q n hc hx
    obtain ⟨sl', e2⟩ := b.slot c _ e1 (a.free c ob q n hx) hc hx
    exact ⟨sl', e2⟩
  free := fun c ob q n hx => by
    obtain ⟨o', e1⟩ := a.there c ob q hx
    exact b.free c o' e1 (a.free c ob q n hx) hx
  there := fun c ob q hx => by
    obtain ⟨o', e1⟩ := a.there c ob q hx
    exact b.there c o' e1 hx
  tups := fun c xs q => b.tups c xs (a.tups c xs q)
  frzs := fun c ob xs q => b.frzs c ob xs (a.frzs c ob xs q)
  tbls := fun c ps q => by
    obtain ⟨m1, e1⟩ := a.tbls c ps q
    obtain ⟨m2, e2⟩ := b.tbls c _ e1
    exact ⟨m1 ++ m2, by rw [e2, Array.append_assoc]⟩
theorem Un.kept (k : ∀ b u, h.get? b = some u → h'.get? b = some u) : Un fs ex H H h h' :=
  ⟨fun b ob q _ _ _ => k b ob q, fun b ob q _ _ _ => ⟨ob.slots, k b ob q⟩, fun _ _ _ n _ => n, fun b ob q _ => ⟨ob, k b ob q⟩, fun _ _ q => q, fun _ _ _ q => q, fun _ ps q => ⟨#[], by rw [q]; simp⟩⟩
theorem Un.refl : Un fs ex H H h h := Un.kept fun _ _ q => q
theorem Un.laid (k : ∀ b u, h.get? b = some u → h'.get? b = some u) (hp : h.objs.size ≤ a) (hn : H a = none) : Un fs ex H (upd H a o) h h' where
  keep := fun b u q _ _ _ => k b u q
  slot := fun b u q _ _ _ => ⟨u.slots, k b u q⟩
  free := fun b u q n _ => by rw [upd_ne (Nat.ne_of_lt (Nat.lt_of_lt_of_le (Heap.lt_size q) hp))]; exact n
  there := fun b u q _ => ⟨u, k b u q⟩
  tups := fun b xs q => by rw [upd_ne (ne_of_none q hn)]; exact q
  frzs := fun b u xs q => by rw [upd_ne (ne_of_none q hn)]; exact q
  tbls := fun b ps q => ⟨#[], by rw [upd_ne (ne_of_none q hn), q]; simp⟩
theorem Un.write (mu : Mut (H x)) (he : e = x ∨ H e = some (.own x)) (k : ∀ b u, b ≠ e → h.get? b = some u → h'.get? b = some u) (heo : ∃ u, h'.get? e = some u) : Un fs ex H (upd H x o) h h' := by
  have hx : ∀ b, H b = none → b ≠ x := fun b n z => by subst z; rw [n] at mu; exact mu
  have hb : ∀ b, H b = none → b ≠ e := fun b n z => by
    subst z
    rcases he with r | r
    · exact hx b n r
    · rw [n] at r; cases r
  have hm : ∀ b u, H b = some u → ¬ Mut (some u) → b ≠ x := fun b u q nm z => by subst z; rw [q] at mu; exact nm mu
  refine ⟨fun b u q n _ _ => k b u (hb b n) q, fun b u q n _ _ => ⟨u.slots, k b u (hb b n) q⟩, fun b u q n _ => by rw [upd_ne (hx b n)]; exact n, fun b u q _ => ?_,
    fun b xs q => by rw [upd_ne (hm b _ q fun z => z)]; exact q, fun b u xs q => by rw [upd_ne (hm b _ q fun z => z)]; exact q, fun b ps q => ⟨#[], by rw [upd_ne (hm b _ q fun z => z), q]; simp⟩⟩
  by_cases hbe : b = e
  · subst hbe; exact heo
  · exact ⟨u, k b u hbe q⟩
theorem Un.mono (u : Un fs ex H H1 h h1) (hs : ∀ b ∈ fs, b ∈ fs') (hx : ∀ b ∈ ex, b ∈ ex') : Un fs' ex' H H1 h h1 :=
  ⟨fun b ob q n hb he => u.keep b ob q n (fun z => hb (hs b z)) fun z => he (hx b z), fun _ _ q n _ he => u.any q n fun z => he (hx _ z), fun b ob q n he => u.free b ob q n fun z => he (hx b z), fun b ob q he => u.there b ob q fun z => he (hx b z), u.tups, u.frzs, u.tbls⟩
end

/-! ### the heap without what is tracked -/
def trk (h : Heap) (H : Hp) : List Addr := (List.range h.objs.size).filter fun a => (H a).isSome
def hidT (h : Heap) (H : Hp) : Heap := PySem.W.hideAll h (trk h H)
theorem hidT_size (h : Heap) (H : Hp) : (hidT h H).objs.size = h.objs.size := PySem.W.hideAll_size _ _
theorem hidT_get {h : Heap} {H : Hp} {b : Addr} {o : Obj} (e : h.get? b = some o) (n : H b = none) : (hidT h H).get? b = some o :=
  PySem.W.hideAll_get _ e fun hm => by
    have q : (H b).isSome = true := (List.mem_filter.mp hm).2
    rw [n] at q; simp at q
theorem of_hidT {h : Heap} {H : Hp} {b : Addr} {o : Obj} (e : (hidT h H).get? b = some o) : h.get? b = some o ∧ H b = none := by
  have e' : h.get? b = some o := PySem.W.of_hideAll (trk h H) e
  refine ⟨e', ?_⟩
  cases q : H b with
  | none => rfl
  | some x =>
    have hm : b ∈ trk h H := List.mem_filter.mpr ⟨List.mem_range.mpr (Heap.lt_size e'), by simp [q]⟩
    have z : (hidT h H).get? b = none := PySem.W.hideAll_none (trk h H) hm
    rw [z] at e; cases e

/-! ### OpenK's ledger, filled with every new object but one -/
def allNews (g h : Heap) (L : Addr) : List (Addr × Obj) := (List.range h.objs.size).filterMap fun a => if a = L ∨ (g.get? a).isSome = true then none else (h.get? a).map fun o => (a, o)
def rest (g h : Heap) (L d : Addr) : List (Addr × Obj) := (allNews g h L).filter fun p => decide (p.1 ≠ d)
end L2

namespace L2
open PySem PySem.Spec PyProof.Rows

/-- the module's facts, over the base: the heap at the law's entry without what is tracked there -/
structure Mod (K : PySem.W.Frag) (mg : Str → Option Value) (base : Heap) : Prop where
  kin : K.In base
  glob : base.Ns mainGlobals mg
  blt : ∃ mb, base.Ns builtinsNs mb ∧ ∀ x : Str, x ≠ "__name__" → mb x = bootBuiltins x
  nolimit : base.NoLimit

/-- the context: a def's body (or a comprehension's block) running. base: fixed through the whole law; s₀, H₀: the entry; outer: the frames whose slots others may change (a def's callers); stack: all frames that run;
   ex: iterators that were made ahead of the entry and are walked here (a comprehension's); fn: the names whose cells were made at the entry (a def: all; a comprehension's block: its own); calm: not within an except suite; pn: pins that every state bears; xe: what is wanted of an exception that leaves the code -/
structure Cx where
  prog : Program
  w : World
  K : PySem.W.Frag
  mg : Str → Option Value
  base : Heap
  A : Around
  N : List Str
  s₀ : Shared
  H₀ : Hp
  env : Env
  outer : List Env
  stack : List Env
  ex : List Addr
  fn : Str → Bool
  calm : Bool
  pn : List (Addr × Obj)
  xe : Value → Shared → Prop
/-- the callers' frames -/
def frs (l : List Env) : List Addr := l.filterMap (·.frame)
abbrev Cx.fs (X : Cx) : List Addr := frs X.outer

def Vis (sc : Scope) (x : Str) : Prop := sc.names.lookup x = some .local ∨ sc.names.lookup x = some .cell ∨ sc.names.lookup x = some .free
def Loc (sc : Scope) (x : Str) : Prop := sc.names.lookup x = some .local ∨ sc.names.lookup x = some .cell
def Look (env : Env) (h : Heap) (m : Str → Option Value) (x : Str) (u : Value) : Prop :=
  (env.kindOf x = some .local ∧ m x = some u) ∨ ((env.kindOf x = some .cell ∨ env.kindOf x = some .free) ∧ ∃ c, env.cells.lookup x = some c ∧ h.IsCell c (some u))

structure Cx.Ok (X : Cx) : Prop where
  mod : Mod X.K X.mg X.base
  kind : X.env.scope.kind = .function
  glob : X.env.globals = mainGlobals
  blt : X.env.builtins = builtinsNs
  above : X.s₀.heap.objs.size ≤ X.env.locals
  inj : ∀ x y c, X.env.cells.lookup x = some c → X.env.cells.lookup y = some c → x = y
  has : ∀ x, (X.env.kindOf x = some .cell ∨ X.env.kindOf x = some .free) → ∃ c, X.env.cells.lookup x = some c
  cab : ∀ x c, X.fn x = true → X.env.cells.lookup x = some c → X.s₀.heap.objs.size ≤ c
  hd : X.calm = true → X.A.handled = none
  frames : X.A.frames = some X.stack
  stk : X.stack = X.outer ∨ (X.stack = X.env :: X.outer ∧ X.env.frame = some X.env.locals)
  exf : ∀ b ∈ X.ex, b ≠ X.env.locals ∧ ∀ x c, X.env.cells.lookup x = some c → c ≠ b
  bs : ∀ b o, X.base.get? b = some o → X.s₀.heap.get? b = some o ∧ X.H₀ b = none
  bsz : X.base.objs.size ≤ X.s₀.heap.objs.size
  noex : ∀ b o, X.base.get? b = some o → b ∉ X.ex
  exfs : ∀ b ∈ X.ex, b ∉ X.fs
  funs : X.s₀.heap.FunFrames X.base X.outer
  frf : ∀ b ∈ X.fs, X.H₀ b = none

structure Inv (X : Cx) (pins : List (Addr × Obj)) (σ : List (Option V)) (H : Hp) (s : Shared) : Prop where
  ok : X.Ok
  os : s.os = X.s₀.os
  bare : AllBare s.gens
  base : Un X.fs X.ex X.H₀ H X.s₀.heap s.heap
  loc : ∃ m, s.heap.Ns X.env.locals m ∧ ∀ (i : Nat) (x : Str) (v : V), X.N[i]? = some x → σ[i]? = some (some v) → Vis X.env.scope x → ∃ u, RelV v u ∧ Look X.env s.heap m x u
  cell : ∀ x c, X.env.cells.lookup x = some c → ∃ v, s.heap.IsCell c v
  free : H X.env.locals = none
  freeC : ∀ x c, X.env.cells.lookup x = some c → H c = none
  pin : ∀ p ∈ X.pn ++ pins, s.heap.get? p.1 = some p.2 ∧ H p.1 = none ∧ p.1 ≠ X.env.locals ∧ p.1 ∉ X.fs ∧ ∀ v, p.2.data ≠ .cell v
  hok : HOk X.prog X.w H s.heap
  len : σ.length = X.N.length

section
variable {X : Cx} {pins : List (Addr × Obj)} {σ : List (Option V)} {H H' : Hp} {s : Shared} {h' : Heap}

theorem Cx.Ok.nofr (ok : X.Ok) {b : Addr} {o : Obj} (e : X.base.get? b = some o) : b ∉ X.fs := fun hb => by
  have := (ok.funs.mem hb).1
  rw [e] at this; cases this
theorem Inv.bs (I : Inv X pins σ H s) : ∀ b o, X.base.get? b = some o → s.heap.get? b = some o ∧ H b = none := fun b o e =>
  ⟨I.base.keep b o (I.ok.bs b o e).1 (I.ok.bs b o e).2 (I.ok.nofr e) (I.ok.noex b o e), I.base.free b o (I.ok.bs b o e).1 (I.ok.bs b o e).2 (I.ok.noex b o e)⟩
theorem Inv.bk (I : Inv X pins σ H s) : ∀ b o, X.base.get? b = some o → s.heap.get? b = some o := fun b o e => (I.bs b o e).1
theorem Inv.mod (I : Inv X pins σ H s) : Mod X.K X.mg X.base := I.ok.mod
theorem Inv.kIn (I : Inv X pins σ H s) : X.K.In s.heap := I.ok.mod.kin.keeps I.bk
theorem Inv.nolimit (I : Inv X pins σ H s) : s.heap.NoLimit := I.ok.mod.nolimit.keeps I.bk
/-- the frame over the base: for OpenK's rules (K.In X.base is I.mod.kin) -/
theorem Inv.fr (I : Inv X pins σ H s) : ∃ m, Fr X.base X.env.locals s.heap m :=
  let ⟨m, hn, _⟩ := I.loc
  ⟨m, hn, I.bk, Nat.le_trans I.ok.bsz I.ok.above⟩
theorem Inv.lt (I : Inv X pins σ H s) : X.env.locals < s.heap.objs.size := let ⟨_, hn, _⟩ := I.loc; hn.lt
theorem Inv.sz (I : Inv X pins σ H s) : X.s₀.heap.objs.size ≤ s.heap.objs.size := Nat.le_trans I.ok.above (Nat.le_of_lt I.lt)
theorem Inv.nofs (I : Inv X pins σ H s) {a : Addr} (h : s.heap.objs.size ≤ a) : a ∉ X.fs := fun hb => by
  obtain ⟨_, o, ho, _⟩ := I.ok.funs.mem hb
  exact absurd (Nat.lt_of_lt_of_le (Heap.lt_size ho) (Nat.le_trans I.sz h)) (Nat.lt_irrefl _)
theorem Inv.cne (I : Inv X pins σ H s) : ∀ x c, X.env.cells.lookup x = some c → c ≠ X.env.locals := fun x c e z => by
  obtain ⟨v, o, ho, hd⟩ := I.cell x c e
  obtain ⟨m, ⟨o', es, ep, ho', hd', _⟩, _⟩ := I.loc
  rw [z, ho'] at ho; cases ho; rw [hd'] at hd; cases hd
theorem Inv.funs (I : Inv X pins σ H s) : s.heap.FunFrames X.base X.outer := by
  have all : ∀ (l : List Env), (∀ b ∈ frs l, b ∈ X.fs) → X.s₀.heap.FunFrames X.base l → s.heap.FunFrames X.base l := by
    intro l
    induction l with
    | nil => intro _ _; trivial
    | cons env r ih =>
      intro hs hl
      obtain ⟨hk, ⟨L, o, hf, hn, ho, hd⟩, hr⟩ := hl
      have hL : L ∈ X.fs := hs L (by unfold frs; rw [List.filterMap_cons, hf]; exact List.mem_cons_self)
      obtain ⟨sl, e⟩ := I.base.slot L o ho (I.ok.frf L hL) hL fun z => I.ok.exfs L z hL
      exact ⟨hk, ⟨L, _, hf, hn, e, hd⟩, ih (fun b hb => hs b (by unfold frs; rw [List.filterMap_cons, hf]; exact List.mem_cons_of_mem _ hb)) hr⟩
  exact all X.outer (fun _ hb => hb) I.ok.funs

/-- the frames that run, for a call -/
theorem Inv.stack (I : Inv X pins σ H s) : s.heap.FunFrames X.base X.stack := by
  rcases I.ok.stk with e | ⟨e, hf⟩
  · rw [e]; exact I.funs
  · rw [e]
    obtain ⟨m, hn, _⟩ := I.loc
    refine .cons (by rw [I.ok.kind]; decide) hf hn ?_ I.funs
    exact Heap.get?_none_of_le (Nat.le_trans I.ok.bsz I.ok.above)
theorem Inv.stkSub (I : Inv X pins σ H s) : ∀ b ∈ frs X.stack, b ∈ X.env.locals :: X.fs := fun b hb => by
  rcases I.ok.stk with e | ⟨e, hf⟩
  · rw [e] at hb; exact List.mem_cons_of_mem _ hb
  · rw [e] at hb
    unfold frs at hb
    rw [List.filterMap_cons, hf] at hb
    exact hb
theorem Inv.stkFree (I : Inv X pins σ H s) : ∀ b ∈ frs X.stack, H b = none := fun b hb => by
  rcases List.mem_cons.mp (I.stkSub b hb) with e | hb
  · rw [e]; exact I.free
  · obtain ⟨_, o, ho, _⟩ := I.ok.funs.mem hb
    exact I.base.free b o ho (I.ok.frf b hb) fun z => I.ok.exfs b z hb

/-- THE STEP: the untracked objects but the frame and the records at ch are kept (the callers' frames up to slots), the frame's map is kept, the new abstract heap is held -/
theorem Inv.step {g' : Array GenState} {t' : Nat} {d' : Drawn} {ch : List Addr} (I : Inv X pins σ H s)
    (hch : ∀ b ∈ ch, (b ∈ X.ex ∨ X.s₀.heap.objs.size ≤ b) ∧ b ≠ X.env.locals ∧ (∀ x c, X.env.cells.lookup x = some c → c ≠ b) ∧ ∀ p ∈ X.pn ++ pins, p.1 ≠ b)
    (keep : ∀ b o, b ≠ X.env.locals → b ∉ X.fs → b ∉ ch → s.heap.get? b = some o → H b = none → h'.get? b = some o)
    (slot : ∀ b o, b ≠ X.env.locals → b ∈ X.fs → b ∉ ch → s.heap.get? b = some o → H b = none → ∃ sl, h'.get? b = some { o with slots := sl }) (free : ∀ b o, b ∉ ch → s.heap.get? b = some o → H b = none → H' b = none)
    (there : ∀ b o, b ∉ ch → s.heap.get? b = some o → ∃ o', h'.get? b = some o')
    (tups : ∀ b xs, H b = some (.tup xs) → H' b = some (.tup xs)) (frzs : ∀ b o u, H b = some (.frz o u) → H' b = some (.frz o u)) (tbls : ∀ b ps, H b = some (.tbl ps) → ∃ more, H' b = some (.tbl (ps ++ more)))
    (ns : ∀ m, s.heap.Ns X.env.locals m → h'.Ns X.env.locals m) (hok : HOk X.prog X.w H' h') (hg : AllBare g') :
    Inv X pins σ H' { s with heap := h', gens := g', drawn := d', toks := t' } := by
  have neL : ∀ b o, X.s₀.heap.get? b = some o → b ≠ X.env.locals := fun b o e => Nat.ne_of_lt (Nat.lt_of_lt_of_le (Heap.lt_size e) I.ok.above)
  have neC : ∀ b o, X.s₀.heap.get? b = some o → b ∉ X.ex → b ∉ ch := fun b o e hx hb => by
    rcases (hch b hb).1 with z | z
    · exact hx z
    · exact absurd (Nat.lt_of_lt_of_le (Heap.lt_size e) z) (Nat.lt_irrefl _)
  have cellK : ∀ x c, X.env.cells.lookup x = some c → ∀ v, s.heap.IsCell c v → h'.IsCell c v := fun x c e v ⟨o, ho, hd⟩ => by
    have nch : c ∉ ch := fun z => (hch c z).2.2.1 x c e rfl
    by_cases hc : c ∈ X.fs
    · obtain ⟨sl, q⟩ := slot c o (I.cne x c e) hc nch ho (I.freeC x c e)
      exact ⟨_, q, hd⟩
    · exact ⟨o, keep c o (I.cne x c e) hc nch ho (I.freeC x c e), hd⟩
  refine ⟨I.ok, I.os, hg, ⟨fun b o e n hb hx => ?_, fun b o e n hb hx => ?_, fun b o e n hx => ?_, fun b o e hx => ?_, fun b xs e => tups b xs (I.base.tups b xs e), fun b o xs e => frzs b o xs (I.base.frzs b o xs e), fun b ps e => ?_⟩, ?_, fun x c e => ?_, ?_, fun x c e => ?_, fun p hp => ?_, hok, I.len⟩
  · exact keep b o (neL b o e) hb (neC b o e hx) (I.base.keep b o e n hb hx) (I.base.free b o e n hx)
  · obtain ⟨sl, e1⟩ := I.base.slot b o e n hb hx
    obtain ⟨sl', e2⟩ := slot b _ (neL b o e) hb (neC b o e hx) e1 (I.base.free b o e n hx)
    exact ⟨sl', e2⟩
  · obtain ⟨o', e1⟩ := I.base.there b o e hx
    exact free b o' (neC b o e hx) e1 (I.base.free b o e n hx)
  · obtain ⟨o', e1⟩ := I.base.there b o e hx
    exact there b o' (neC b o e hx) e1
  · obtain ⟨m1, e1⟩ := I.base.tbls b ps e
    obtain ⟨m2, e2⟩ := tbls b _ e1
    exact ⟨m1 ++ m2, by rw [e2, Array.append_assoc]⟩
  · obtain ⟨m, hn, hl⟩ := I.loc
    refine ⟨m, ns m hn, fun i x v e1 e2 e3 => ?_⟩
    obtain ⟨u, r, l⟩ := hl i x v e1 e2 e3
    refine ⟨u, r, ?_⟩
    rcases l with l | ⟨k, c, e, z⟩
    · exact .inl l
    · exact .inr ⟨k, c, e, cellK x c e _ z⟩
  · obtain ⟨v, z⟩ := I.cell x c e
    exact ⟨v, cellK x c e v z⟩
  · obtain ⟨m, ⟨o, _, _, ho, _⟩, _⟩ := I.loc
    exact free _ o (fun z => (hch _ z).2.1 rfl) ho I.free
  · obtain ⟨v, o, ho, hd⟩ := I.cell x c e
    exact free c o (fun z => (hch c z).2.2.1 x c e rfl) ho (I.freeC x c e)
  · obtain ⟨e, n, ne, nf, d⟩ := I.pin p hp
    have nch : p.1 ∉ ch := fun z => (hch p.1 z).2.2.2 p hp rfl
    exact ⟨keep p.1 p.2 ne nf nch e n, free p.1 p.2 nch e n, ne, nf, d⟩
/-- .. where the frame's own object is kept too -/
theorem Inv.un {t' : Nat} (I : Inv X pins σ H s) (u : Un X.fs [] H H' s.heap h') (hok : HOk X.prog X.w H' h') : Inv X pins σ H' { s with heap := h', toks := t' } := by
  obtain ⟨m, ⟨o, es, ep, ho, r⟩, _⟩ := id I.loc
  obtain ⟨sl, hL⟩ := u.any ho I.free (by simp)
  exact I.step (g' := s.gens) (d' := s.drawn) (ch := []) (fun _ z => nomatch z) (fun b o _ hb _ e n => u.keep b o e n hb (by simp)) (fun b o _ hb _ e n => u.slot b o e n hb (by simp)) (fun b o _ e n => u.free b o e n (by simp)) (fun b o _ e => u.there b o e (by simp)) u.tups u.frzs u.tbls (fun m' hm => by
    obtain ⟨o', es', ep', ho', r'⟩ := hm
    rw [ho] at ho'; cases ho'
    exact ⟨_, es', ep', hL, r'⟩) hok I.bare
/-- behind a call (or a comprehension's block): the slots of this frame may have changed too, the records at ch may have turned -/
theorem Inv.call {g' : Array GenState} {t' : Nat} {d' : Drawn} {ch : List Addr} (I : Inv X pins σ H s) (u : Un (frs X.stack) ch H H' s.heap h') (hok : HOk X.prog X.w H' h') (hg : AllBare g')
    (hch : ∀ b ∈ ch, (b ∈ X.ex ∨ X.s₀.heap.objs.size ≤ b) ∧ b ≠ X.env.locals ∧ (∀ x c, X.env.cells.lookup x = some c → c ≠ b) ∧ ∀ p ∈ X.pn ++ pins, p.1 ≠ b) :
    Inv X pins σ H' { s with heap := h', gens := g', drawn := d', toks := t' } := by
  obtain ⟨m, ⟨o, es, ep, ho, r⟩, _⟩ := id I.loc
  obtain ⟨sl, hL⟩ := u.any ho I.free fun z => (hch _ z).2.1 rfl
  exact I.step (ch := ch) hch (fun b o hL hb hc e n => u.keep b o e n (fun z => (List.mem_cons.mp (I.stkSub b z)).elim hL hb) hc) (fun b o _ _ hc e n => u.any e n hc) (fun b o hc e n => u.free b o e n hc) (fun b o hc e => u.there b o e hc) u.tups u.frzs u.tbls (fun m' hm => by
    obtain ⟨o', es', ep', ho', r'⟩ := hm
    rw [ho] at ho'; cases ho'
    exact ⟨_, es', ep', hL, r'⟩) hok hg
/-- an untracked record of ours (an iterator) has turned -/
theorem Inv.turned {t' : Nat} {it : Addr} (I : Inv X pins σ H s) (k : ∀ b o, b ≠ it → s.heap.get? b = some o → h'.get? b = some o) (hn : H it = none) (hL : it ≠ X.env.locals)
    (h1 : it ∈ X.ex ∨ X.s₀.heap.objs.size ≤ it) (h2 : ∀ x c, X.env.cells.lookup x = some c → c ≠ it) (h3 : ∀ p ∈ X.pn ++ pins, p.1 ≠ it) : Inv X pins σ H { s with heap := h', toks := t' } := by
  have nit : ∀ b u, H b = some u → b ≠ it := fun b u e z => by rw [z, hn] at e; cases e
  refine I.step (g' := s.gens) (d' := s.drawn) (ch := [it]) (fun b hb => ?_) (fun b o _ _ hc e _ => k b o (fun z => hc (by simp [z])) e) (fun b o _ _ hc e _ => ⟨o.slots, k b o (fun z => hc (by simp [z])) e⟩) (fun _ _ _ _ n => n)
    (fun b o hc e => ⟨o, k b o (fun z => hc (by simp [z])) e⟩) (fun _ _ e => e) (fun _ _ _ e => e) (fun b ps e => ⟨#[], by rw [e]; simp⟩) (fun m hm => ?_) (fun b u e => ?_) I.bare
  · have e : b = it := by simpa using hb
    subst e
    exact ⟨h1, hL, h2, h3⟩
  · obtain ⟨o, es, ep, ho, r⟩ := hm
    exact ⟨o, es, ep, k _ o (Ne.symm hL) ho, r⟩
  · refine (I.hok b u e).stay (fun c v hc q => k c v ?_ q) (fun _ q => q) fun _ _ q => q
    rcases hc with z | z
    · rw [z]; exact nit b u e
    · exact nit c _ z
theorem Inv.tok (I : Inv X pins σ H s) (t : Nat) : Inv X pins σ H { s with toks := t } := I.un (h' := s.heap) (t' := t) Un.refl I.hok
/-- all objects kept -/
theorem Inv.kept {t' : Nat} (I : Inv X pins σ H s) (k : ∀ b u, s.heap.get? b = some u → h'.get? b = some u) : Inv X pins σ H { s with heap := h', toks := t' } := I.un (Un.kept k) (I.hok.kept k)
/-- a new object laid and tracked -/
theorem Inv.laid {a : Addr} {o : HO} {t' : Nat} (I : Inv X pins σ H s) (k : ∀ b u, s.heap.get? b = some u → h'.get? b = some u) (hp : s.heap.objs.size ≤ a) (new : ObjOk X.prog X.w (upd H a o) h' a o) :
    Inv X pins σ (upd H a o) { s with heap := h', toks := t' } := I.un (Un.laid k hp (I.hok.fresh hp)) (I.hok.laid k hp new)
/-- an object written -/
theorem Inv.write {x e : Addr} {o : HO} {t' : Nat} (I : Inv X pins σ H s) (mu : Mut (H x)) (he : e = x ∨ H e = some (.own x)) (k : ∀ b u, b ≠ e → s.heap.get? b = some u → h'.get? b = some u) (heo : ∃ u, h'.get? e = some u)
    (new : ObjOk X.prog X.w (upd H x o) h' x o) : Inv X pins σ (upd H x o) { s with heap := h', toks := t' } := I.un (Un.write mu he k heo) (I.hok.write mu he k heo new)
theorem Inv.pins_of {pins' : List (Addr × Obj)} (I : Inv X pins σ H s) (h : ∀ p ∈ pins', s.heap.get? p.1 = some p.2 ∧ H p.1 = none ∧ p.1 ≠ X.env.locals ∧ p.1 ∉ X.fs ∧ ∀ v, p.2.data ≠ .cell v) : Inv X pins' σ H s :=
  ⟨I.ok, I.os, I.bare, I.base, I.loc, I.cell, I.free, I.freeC, fun p hp => (List.mem_append.mp hp).elim (fun z => I.pin p (List.mem_append_left _ z)) (h p), I.hok, I.len⟩

theorem nodup_ix {N : List Str} (hN : N.Nodup) {i j : Nat} {x : Str} (a : N[i]? = some x) (b : N[j]? = some x) : i = j := by
  obtain ⟨h1, e1⟩ := List.getElem?_eq_some_iff.mp a
  obtain ⟨h2, e2⟩ := List.getElem?_eq_some_iff.mp b
  exact (List.getElem_inj hN).mp (e1.trans e2.symm)

/-- a name is stored; what changed -/
theorem store_ok2 {M : Model} {A : Around} {E : Value → Shared → Prop} {i : Nat} {x : Str} {v : V} {u : Value} {Q : Unit → Shared → Prop} (I : Inv X pins σ H s) (hN : X.N.Nodup) (hi : X.N[i]? = some x) (hx : Loc X.env.scope x) (r : RelV v u)
    (h : ∀ s', Inv X pins (σ.set i (some v)) H s' → (∃ a, Heap.SameBut a s.heap s'.heap ∧ (a = X.env.locals ∨ X.env.cells.lookup x = some a)) → Q () s') (hf : X.fn x = true ∨ X.env.scope.names.lookup x = some .local := by first | exact .inl rfl | exact .inr rfl | assumption) : wpAny M A (storeName X.env x u) Q E s := by
  obtain ⟨m, hn, hl⟩ := id I.loc
  have hcls : (X.env.scope.kind == .class || (X.env.scope.kind == .module && X.env.locals != X.env.globals)) = false := by rw [I.ok.kind]; rfl
  have hiσ : i < σ.length := by rw [I.len]; exact (List.getElem?_eq_some_iff.mp hi).1
  have cne := I.cne
  have tracked : ∀ {a : Addr} {h' : Heap}, (∃ o, s.heap.get? a = some o ∧ H a = none) → Heap.SameBut a s.heap h' → HOk X.prog X.w H h' := fun {a h'} ha hs b ob e => by
    obtain ⟨_, _, hfree⟩ := ha
    refine (I.hok b ob e).stay (fun c w' hc q => (hs.2 c ?_).trans q) (fun _ q => q) fun _ _ q => q
    rintro rfl
    rcases hc with rfl | hc
    · rw [hfree] at e; cases e
    · rw [hfree] at hc; cases hc
  rcases hx with hk | hk
  · refine wpAny_storeName_local hk hn (fun h' hn' hs => ?_) hcls
    obtain ⟨oL, _, _, hoL, _⟩ := id hn
    refine h _ ⟨I.ok, I.os, I.bare, ⟨fun b o e n hb hx => ?_, fun b o e n hb hx => ?_, I.base.free, fun b o e hx => ?_, I.base.tups, I.base.frzs, I.base.tbls⟩, ⟨_, hn', fun j y v' e1 e2 e3 => ?_⟩, fun y c e => ?_, I.free, I.freeC, fun p hp => ?_, tracked ⟨oL, hoL, I.free⟩ hs, by simpa using I.len⟩ ⟨_, hs, .inl rfl⟩
    · exact (hs.2 b (Nat.ne_of_lt (Nat.lt_of_lt_of_le (Heap.lt_size e) I.ok.above))).trans (I.base.keep b o e n hb hx)
    · obtain ⟨sl, e1⟩ := I.base.slot b o e n hb hx
      exact ⟨sl, (hs.2 b (Nat.ne_of_lt (Nat.lt_of_lt_of_le (Heap.lt_size e) I.ok.above))).trans e1⟩
    · obtain ⟨o', e1⟩ := I.base.there b o e hx
      exact ⟨o', (hs.2 b (Nat.ne_of_lt (Nat.lt_of_lt_of_le (Heap.lt_size e) I.ok.above))).trans e1⟩
    · by_cases hj : j = i
      · subst hj
        rw [hi] at e1; cases e1
        rw [List.getElem?_set_self hiσ] at e2
        cases e2
        exact ⟨u, r, .inl ⟨hk, by simp⟩⟩
      · rw [List.getElem?_set_ne (Ne.symm hj)] at e2
        obtain ⟨u', r', q⟩ := hl j y v' e1 e2 e3
        refine ⟨u', r', ?_⟩
        rcases q with ⟨k, e⟩ | ⟨k, c, e, z⟩
        · refine .inl ⟨k, ?_⟩
          have : y ≠ x := fun e => hj (nodup_ix hN e1 (e ▸ hi))
          simp [this, e]
        · exact .inr ⟨k, c, e, z.sameBut hs (cne y c e)⟩
    · obtain ⟨w', z⟩ := I.cell y c e
      exact ⟨w', z.sameBut hs (cne y c e)⟩
    · obtain ⟨e, n, ne, nf, d⟩ := I.pin p hp
      exact ⟨(hs.2 p.1 ne).trans e, n, ne, nf, d⟩
  · have hfn : X.fn x = true := by
      rcases hf with z | z
      · exact z
      · rw [z] at hk; cases hk
    obtain ⟨c, hc⟩ := I.ok.has x (.inl hk)
    obtain ⟨w', z⟩ := I.cell x c hc
    refine wpAny_storeName_cell I.ok.kind hk hc z (fun h' hc' hs => ?_)
    obtain ⟨oc, hoc, hocd⟩ := id z
    refine h { s with heap := h' } ⟨I.ok, I.os, I.bare, ⟨fun b o e n hb hx => ?_, fun b o e n hb hx => ?_, I.base.free, fun b o e hx => ?_, I.base.tups, I.base.frzs, I.base.tbls⟩, ⟨m, hn.sameBut hs (Ne.symm (cne x c hc)), fun j y v' e1 e2 e3 => ?_⟩, fun y c' e => ?_, I.free, I.freeC, fun p hp => ?_, tracked ⟨oc, hoc, I.freeC x c hc⟩ hs, by simpa using I.len⟩ ⟨c, hs, .inr hc⟩
    · exact (hs.2 b (Nat.ne_of_lt (Nat.lt_of_lt_of_le (Heap.lt_size e) (I.ok.cab x c hfn hc)))).trans (I.base.keep b o e n hb hx)
    · obtain ⟨sl, e1⟩ := I.base.slot b o e n hb hx
      exact ⟨sl, (hs.2 b (Nat.ne_of_lt (Nat.lt_of_lt_of_le (Heap.lt_size e) (I.ok.cab x c hfn hc)))).trans e1⟩
    · obtain ⟨o', e1⟩ := I.base.there b o e hx
      exact ⟨o', (hs.2 b (Nat.ne_of_lt (Nat.lt_of_lt_of_le (Heap.lt_size e) (I.ok.cab x c hfn hc)))).trans e1⟩
    · by_cases hj : j = i
      · subst hj
        rw [hi] at e1; cases e1
        rw [List.getElem?_set_self hiσ] at e2
        cases e2
        exact ⟨u, r, .inr ⟨.inl hk, c, hc, hc'⟩⟩
      · rw [List.getElem?_set_ne (Ne.symm hj)] at e2
        obtain ⟨u', r', q⟩ := hl j y v' e1 e2 e3
        refine ⟨u', r', ?_⟩
        rcases q with q | ⟨k, c', e, z'⟩
        · exact .inl q
        · refine .inr ⟨k, c', e, z'.sameBut hs ?_⟩
          rintro rfl
          exact hj (nodup_ix hN e1 (I.ok.inj _ _ _ e hc ▸ hi))
    · by_cases hcc : c' = c
      · subst hcc; exact ⟨_, hc'⟩
      · obtain ⟨w2, z2⟩ := I.cell y c' e
        exact ⟨w2, z2.sameBut hs hcc⟩
    · obtain ⟨e, n, ne, nf, d⟩ := I.pin p hp
      refine ⟨(hs.2 p.1 ?_).trans e, n, ne, nf, d⟩
      intro q
      rw [q, hoc] at e
      have q' : oc = p.2 := Option.some.inj e
      exact d w' (by rw [← q']; exact hocd)
theorem store_ok {M : Model} {A : Around} {E : Value → Shared → Prop} {i : Nat} {x : Str} {v : V} {u : Value} {Q : Unit → Shared → Prop} (I : Inv X pins σ H s) (hN : X.N.Nodup) (hi : X.N[i]? = some x) (hx : Loc X.env.scope x) (r : RelV v u)
    (h : ∀ s', Inv X pins (σ.set i (some v)) H s' → Q () s') (hf : X.fn x = true ∨ X.env.scope.names.lookup x = some .local := by first | exact .inl rfl | exact .inr rfl | assumption) : wpAny M A (storeName X.env x u) Q E s :=
  store_ok2 I hN hi hx r (fun s' I' _ => h s' I') hf
/-- behind a call or a block, the state as it is -/
theorem Inv.call' {s' : Shared} {ch : List Addr} (I : Inv X pins σ H s) (ho : s'.os = s.os) (u : Un (frs X.stack) ch H H' s.heap s'.heap) (hok : HOk X.prog X.w H' s'.heap) (hg : AllBare s'.gens)
    (hch : ∀ b ∈ ch, (b ∈ X.ex ∨ X.s₀.heap.objs.size ≤ b) ∧ b ≠ X.env.locals ∧ (∀ x c, X.env.cells.lookup x = some c → c ≠ b) ∧ ∀ p ∈ X.pn ++ pins, p.1 ≠ b) : Inv X pins σ H' s' := by
  obtain ⟨h', g', d', t', o'⟩ := s'
  have e : o' = s.os := ho
  subst e
  exact I.call (g' := g') (t' := t') (d' := d') u hok hg hch
end

/-! ### the judgements -/
/-- an exception: its class, its own dict's address (where it has one), the abstract heap behind it -/
abbrev XK := Value → Option Addr → Hp → Prop
abbrev St := List (Option V)
abbrev VK := V → Hp → Prop
/-- an expression's reading; a test's; an argument list's -/
abbrev TE := St → Hp → VK → Prop
abbrev TT := St → Hp → (Bool → Hp → Prop) → Prop
abbrev TA := St → Hp → (List V → Hp → Prop) → Prop
/-- what is wanted behind a statement -/
structure Ends where
  nx : St → Hp → Prop
  rt : VK
  bk : St → Hp → Prop := fun _ _ => False
  ct : St → Hp → Prop := fun _ _ => False
abbrev TS := Ends → St → Hp → Prop

def EP (X : Cx) (pins : List (Addr × Obj)) (σ : St) (Q : VK) (u : Value) (s' : Shared) : Prop := ∃ v H', Inv X pins σ H' s' ∧ RelV v u ∧ Q v H'
def TP (X : Cx) (pins : List (Addr × Obj)) (σ : St) (Q : Bool → Hp → Prop) (b : Bool) (s' : Shared) : Prop := ∃ H', Inv X pins σ H' s' ∧ Q b H'
def AP (X : Cx) (pins : List (Addr × Obj)) (σ : St) (Q : List V → Hp → Prop) (us : List Value) (s' : Shared) : Prop := ∃ vs H', Inv X pins σ H' s' ∧ Vals vs us ∧ Q vs H'
def SP (X : Cx) (pins : List (Addr × Obj)) (D : Ends) (f : Flow) (s' : Shared) : Prop :=
  match f with
  | .next => ∃ σ' H', Inv X pins σ' H' s' ∧ D.nx σ' H'
  | .brk => ∃ σ' H', Inv X pins σ' H' s' ∧ D.bk σ' H'
  | .cont => ∃ σ' H', Inv X pins σ' H' s' ∧ D.ct σ' H'
  | .ret u => ∃ v σ' H', Inv X pins σ' H' s' ∧ RelV v u ∧ D.rt v H'

def PE (X : Cx) (e : Expr) (t : TE) : Prop :=
  ∀ (pins : List (Addr × Obj)) (s : Shared) (σ : St) (H : Hp) (Q : VK), Inv X pins σ H s → t σ H Q → wpAny (model X.prog X.w) X.A (eval e X.env) (EP X pins σ Q) X.xe s
def PT (X : Cx) (e : Expr) (t : TT) : Prop :=
  ∀ (pins : List (Addr × Obj)) (s : Shared) (σ : St) (H : Hp) (Q : Bool → Hp → Prop), Inv X pins σ H s → t σ H Q → wpAny (model X.prog X.w) X.A (isTrue e X.env (eval e X.env)) (TP X pins σ Q) X.xe s
/-- a test whatever its 'whole' is (and, or) -/
def PW (X : Cx) (e : Expr) (t : TT) : Prop :=
  ∀ (whole : Sem Value) (pins : List (Addr × Obj)) (s : Shared) (σ : St) (H : Hp) (Q : Bool → Hp → Prop), Inv X pins σ H s → t σ H Q → wpAny (model X.prog X.w) X.A (isTrue e X.env whole) (TP X pins σ Q) X.xe s
/-- an argument list (no star), from the left -/
def PA (X : Cx) (es : List Expr) (t : TA) : Prop :=
  ∀ (pos : Pos) (pins : List (Addr × Obj)) (s : Shared) (σ : St) (H : Hp) (Q : List V → Hp → Prop), Inv X pins σ H s → t σ H Q → wpAny (model X.prog X.w) X.A (spliced (backTo pos (starEach es X.env))) (AP X pins σ Q) X.xe s
def PS (X : Cx) (st : Stmt) (t : TS) : Prop :=
  ∀ (pins : List (Addr × Obj)) (s : Shared) (σ : St) (H : Hp) (D : Ends), Inv X pins σ H s → t D σ H → wpAny (model X.prog X.w) X.A (exec st X.env) (SP X pins D) X.xe s
def PSs (X : Cx) (st : List Stmt) (t : TS) : Prop :=
  ∀ (pins : List (Addr × Obj)) (s : Shared) (σ : St) (H : Hp) (D : Ends), Inv X pins σ H s → t D σ H → wpAny (model X.prog X.w) X.A (execs st X.env) (SP X pins D) X.xe s
/-- weaken the end -/
theorem thn {α : Type} {t : Sem α} {Q Q' : α → Shared → Prop} {M : Model} {A : Around} {E : Value → Shared → Prop} {s : Shared} (h : wpAny M A t Q E s) (hQ : ∀ a s, Q a s → Q' a s) : wpAny M A t Q' E s := wpAny_mono h hQ fun _ _ x => x
end L2

namespace L2
open PySem PySem.Spec PyProof.Rows
section
variable {X : Cx}

/-! ### names and constants -/
def tVar (i : Nat) : TE := fun σ H Q => ∃ v, σ[i]? = some (some v) ∧ Q v H
def tC (v : V) : TE := fun _ H Q => Q v H
theorem pe_var {i : Nat} {x : Str} {pos : Pos} (hN : X.N[i]? = some x) (hv : Vis X.env.scope x) (hd : (x == ("__debug__" : Str)) = false := by decide) (hcd : (x == ("__classdict__" : Str)) = false := by decide) : PE X (.Name x pos) (tVar i) := by
  intro pins s σ H Q I h
  obtain ⟨v, e, h⟩ := h
  obtain ⟨m, hn, hl⟩ := I.loc
  obtain ⟨u, r, l⟩ := hl i x v hN e hv
  have fin : EP X pins σ Q u s := ⟨v, H, I, r, h⟩
  rcases l with ⟨hk, hm⟩ | ⟨hk, c, hc, hcell⟩
  · exact wpAny_Name (wpAny_loadName_local I.ok.kind hk hn hm fin) hd
  · rcases hk with hk | hk
    · exact wpAny_Name (wpAny_loadName_cell I.ok.kind hk hc hcell fin) hd
    · exact wpAny_Name (wpAny_loadName_free I.ok.kind hk hc hcell fin hcd) hd
theorem pe_int {i j pos} : PE X (.Constant (.int i) j pos) (tC (.int i)) := fun _ _ _ H _ I h => wpAny_Constant_int ⟨.int i, H, I.tok _, ⟨_, rfl⟩, h⟩
theorem pe_bl {b j pos} : PE X (.Constant (.bool b) j pos) (tC (.bl b)) := fun _ _ _ H _ I h => Constant_bool ⟨.bl b, H, I, rfl, h⟩
theorem pe_non {j pos} : PE X (.Constant .none j pos) (tC .non) := fun _ _ _ H _ I h => Constant_none ⟨.non, H, I, rfl, h⟩
theorem pe_str {x j pos} : PE X (.Constant (.str x) j pos) (tC (.str x)) := fun _ _ _ H _ I h => Calls.Constant_str ⟨.str x, H, I.tok _, ⟨_, rfl⟩, h⟩

/-- a global name of the def -/
def Gl (X : Cx) (x : Str) : Prop := X.env.kindOf x = some .globalImplicit
theorem ld_glob {E : Value → Shared → Prop} {pins : List (Addr × Obj)} {s : Shared} {σ : St} {H : Hp} {x : Str} {u : Value} {pos : Pos} {Q : Value → Shared → Prop} (I : Inv X pins σ H s) (hg : Gl X x) (hm : X.mg x = some u) (h : Q u s)
    (hd : (x == ("__debug__" : Str)) = false := by decide) : wpAny (model X.prog X.w) X.A (eval (.Name x pos) X.env) Q E s :=
  Calls.Name_function_global I.ok.kind hg (Calls.loadGlobal_global (by rw [I.ok.glob]; exact I.mod.glob.keeps I.bk) hm h) hd
theorem ld_blt {E : Value → Shared → Prop} {pins : List (Addr × Obj)} {s : Shared} {σ : St} {H : Hp} {x : Str} {u : Value} {pos : Pos} {Q : Value → Shared → Prop} (I : Inv X pins σ H s) (hg : Gl X x) (hm : X.mg x = none) (hv : bootBuiltins x = some u) (h : Q u s)
    (hn : x ≠ "__name__" := by decide) (hd : (x == ("__debug__" : Str)) = false := by decide) : wpAny (model X.prog X.w) X.A (eval (.Name x pos) X.env) Q E s := by
  obtain ⟨mb, h1, h2⟩ := I.mod.blt
  exact Calls.Name_function_global I.ok.kind hg (Calls.loadGlobal_builtin (by rw [I.ok.glob]; exact I.mod.glob.keeps I.bk) hm (by rw [I.ok.blt]; exact h1.keeps I.bk) ((h2 x hn).trans hv) h) hd
/-- a module's constant, a class, a function, as a value -/
theorem pe_glob {x : Str} {v : V} {u : Value} {pos : Pos} (hg : Gl X x) (hm : X.mg x = some u) (r : RelV v u) (hd : (x == ("__debug__" : Str)) = false := by decide) : PE X (.Name x pos) (tC v) :=
  fun _ _ _ H _ I h => ld_glob I hg hm ⟨v, H, I, r, h⟩ hd
theorem pe_bltn {x : Str} {v : V} {u : Value} {pos : Pos} (hg : Gl X x) (hm : X.mg x = none) (hv : bootBuiltins x = some u) (r : RelV v u) (hn : x ≠ "__name__" := by decide) (hd : (x == ("__debug__" : Str)) = false := by decide) : PE X (.Name x pos) (tC v) :=
  fun _ _ _ H _ I h => ld_blt I hg hm hv ⟨v, H, I, r, h⟩ hn hd

/-! ### arithmetic -/
/-- two ints -/
def t2I (ta tb : TE) (k : Int → Int → Hp → Prop) : St → Hp → Prop := fun σ H => ta σ H fun x H1 => tb σ H1 fun y H2 => ∃ i j, x = .int i ∧ y = .int j ∧ k i j H2
def tAdd (ta tb : TE) : TE := fun σ H Q => t2I ta tb (fun i j H2 => Q (.int (i + j)) H2) σ H
def tSub (ta tb : TE) : TE := fun σ H Q => t2I ta tb (fun i j H2 => Q (.int (i - j)) H2) σ H
/-- the left factor below 2^64 -/
def tMul (ta tb : TE) : TE := fun σ H Q => t2I ta tb (fun i j H2 => (-(2 ^ 64) < i ∧ i < 2 ^ 64) ∧ Q (.int (i * j)) H2) σ H
variable {a b : Expr} {ta tb : TE} {pos : Pos}
/-! ### comparisons -/
def PC (X : Cx) (op : CmpOp) (a b : Expr) (t : TE) : Prop :=
  ∀ (pins : List (Addr × Obj)) (s : Shared) (σ : St) (H : Hp) (Q : VK), Inv X pins σ H s → t σ H Q →
    wpAny (model X.prog X.w) X.A (eval a X.env) (fun v s₁ => wpAny (model X.prog X.w) X.A (eval b X.env) (fun u s₂ => wpAny (model X.prog X.w) X.A (compareOp op v u) (EP X pins σ Q) X.xe s₂) X.xe s₁) X.xe s
def tCmp (p : Int → Int → Bool) (ta tb : TE) : TE := fun σ H Q => t2I ta tb (fun i j H2 => Q (.bl (p i j)) H2) σ H
abbrev tLt : TE → TE → TE := tCmp fun i j => decide (i < j)
abbrev tLe : TE → TE → TE := tCmp fun i j => decide (i ≤ j)
abbrev tGt : TE → TE → TE := tCmp fun i j => decide (j < i)
abbrev tGe : TE → TE → TE := tCmp fun i j => decide (j ≤ i)
abbrev tEqI : TE → TE → TE := tCmp fun i j => decide (i = j)
abbrev tNeI : TE → TE → TE := tCmp fun i j => !decide (i = j)
/-- is None -/
def tIsN (ta : TE) : TE := fun σ H Q => ta σ H fun x H1 => Q (.bl (decide (x = .non))) H1
def tNotN (ta : TE) : TE := fun σ H Q => ta σ H fun x H1 => Q (.bl (!decide (x = .non))) H1
/-- a comparison as a value, as a test -/
def tB (t : TE) : TT := fun σ H Q => t σ H fun x H1 => ∃ c, x = .bl c ∧ Q c H1
/-! ### and, or, not -/
variable {tA tB' : TT} {rest : List Expr}
def tAnd (t u : TT) : TT := fun σ H Q => t σ H fun c H1 => if c = true then u σ H1 Q else Q false H1
def tOr (t u : TT) : TT := fun σ H Q => t σ H fun c H1 => if c = true then Q true H1 else u σ H1 Q
def tNot (t : TT) : TT := fun σ H Q => t σ H fun c H1 => Q (!c) H1
/-- .. as values (bools) -/
def tAndV (ta tb : TE) : TE := fun σ H Q => ta σ H fun x H1 => ∃ c, x = .bl c ∧ if c = true then tb σ H1 Q else Q (.bl false) H1
def tOrV (ta tb : TE) : TE := fun σ H Q => ta σ H fun x H1 => ∃ c, x = .bl c ∧ if c = true then Q (.bl true) H1 else tb σ H1 Q
def tNotV (ta : TE) : TE := fun σ H Q => ta σ H fun x H1 => ∃ c, x = .bl c ∧ Q (.bl (!c)) H1
/-- a if t else b -/
def tIf (t : TT) (ta tb : TE) : TE := fun σ H Q => t σ H fun c H1 => if c = true then ta σ H1 Q else tb σ H1 Q
end
end L2

namespace L2
open PySem PySem.Spec PyProof.Rows

/-! ### a list, a tuple that is read: tracked, frozen, or an object of the module -/
def SqL (K : PySem.W.Frag) (H : Hp) (a : Addr) (xs : List V) : Prop :=
  Rd H a (.lst xs) ∨
    ∃ (o : Obj) (its : Array Value) (n : Nat), K.lookup a = some o ∧ o.cls = .type "list" ∧ o.dict = none ∧ o.data = .seq its n ∧ its.size ≤ sizeLine ∧ Vals xs its.toList
def SqT (K : PySem.W.Frag) (H : Hp) (a : Addr) (xs : List V) : Prop :=
  Rd H a (.tup xs) ∨
    ∃ (o : Obj) (its : Array Value) (n : Nat), K.lookup a = some o ∧ o.cls = .type "tuple" ∧ o.data = .seq its n ∧ its.size ≤ sizeLine ∧ Vals xs its.toList
def absV : Value → Option V
  | .none => some .non
  | .bool b => some (.bl b)
  | .int i _ => some (.int i)
  | .str x _ => some (.str x)
  | .bytes b _ => some (.byt b)
  | .float b _ => some (.flt b)
  | .ref a => some (.ref a)
  | .type n => some (.ty n)
  | _ => none
theorem RelV.abs {x : V} {u : Value} (r : RelV x u) : absV u = some x := by
  cases x with
  | non => cases r; rfl
  | bl _ => cases r; rfl
  | int _ => obtain ⟨t, rfl⟩ := r; rfl
  | str _ => obtain ⟨t, rfl⟩ := r; rfl
  | byt _ => obtain ⟨t, rfl⟩ := r; rfl
  | flt _ => obtain ⟨t, rfl⟩ := r; rfl
  | ref _ => cases r; rfl
  | ty _ => cases r; rfl
theorem RelV.inj {x y : V} {u : Value} (r : RelV x u) (q : RelV y u) : x = y := Option.some.inj (r.abs.symm.trans q.abs)
theorem Vals.inj : ∀ {xs ys : List V} {us : List Value}, Vals xs us → Vals ys us → xs = ys
  | _, _, _, .nil, .nil => rfl
  | _, _, _, .cons r t, .cons r' t' => by rw [r.inj r', Vals.inj t t']
section
variable {X : Cx} {pins : List (Addr × Obj)} {σ : St} {H : Hp} {s : Shared} {a : Addr} {xs ys : List V}
theorem SqL.of {K : PySem.W.Frag} (h : H a = some (.lst xs)) : SqL K H a xs := .inl (.inl h)
theorem SqT.of {K : PySem.W.Frag} (h : H a = some (.tup xs)) : SqT K H a xs := .inl (.inl h)
theorem Inv.list (I : Inv X pins σ H s) (h : SqL X.K H a xs) : ∃ its : List Value, Vals xs its ∧ PlainL s.heap a its.toArray ∧ xs.length ≤ sizeLine := by
  rcases h with h | ⟨o, its, n, hk, hc, hd, hs, hz, r⟩
  · obtain ⟨z, its, n, r, e⟩ := h.ok I.hok
    exact ⟨its, r, ⟨_, n, e, rfl, rfl, rfl⟩, z⟩
  · refine ⟨its.toList, r, ⟨o, n, I.kIn a o hk, hc, hd, by simpa using hs⟩, ?_⟩
    have e := r.length
    simp only [Array.length_toList] at e
    omega
theorem Inv.tuple (I : Inv X pins σ H s) (h : SqT X.K H a xs) : ∃ its : List Value, Vals xs its ∧ IsTup s.heap a its.toArray ∧ xs.length ≤ sizeLine := by
  rcases h with h | ⟨o, its, n, hk, hc, hs, hz, r⟩
  · obtain ⟨z, its, r, p⟩ := h.ok I.hok
    exact ⟨its, r, p, z⟩
  · refine ⟨its.toList, r, ⟨o, I.kIn a o hk, hc, n, by simpa using hs⟩, ?_⟩
    have e := r.length
    simp only [Array.length_toList] at e
    omega
end

/-! ### another wish about exceptions -/
abbrev Cx.wish (X : Cx) (E : Value → Shared → Prop) : Cx := { X with xe := E }
/-- no exception leaves -/
abbrev Cx.nox (X : Cx) : Cx := X.wish fun _ _ => False
theorem Cx.Ok.wish {X : Cx} (ok : X.Ok) (E : Value → Shared → Prop) : (X.wish E).Ok :=
  ⟨ok.mod, ok.kind, ok.glob, ok.blt, ok.above, ok.inj, ok.has, ok.cab, ok.hd, ok.frames, ok.stk, ok.exf, ok.bs, ok.bsz, ok.noex, ok.exfs, ok.funs, ok.frf⟩
theorem Cx.Ok.unwish {X : Cx} {E : Value → Shared → Prop} (ok : (X.wish E).Ok) : X.Ok :=
  ⟨ok.mod, ok.kind, ok.glob, ok.blt, ok.above, ok.inj, ok.has, ok.cab, ok.hd, ok.frames, ok.stk, ok.exf, ok.bs, ok.bsz, ok.noex, ok.exfs, ok.funs, ok.frf⟩
section
variable {X : Cx} {pins : List (Addr × Obj)} {σ : St} {H : Hp} {s : Shared} {E : Value → Shared → Prop}
theorem Inv.wish (I : Inv X pins σ H s) (E : Value → Shared → Prop) : Inv (X.wish E) pins σ H s := ⟨I.ok.wish E, I.os, I.bare, I.base, I.loc, I.cell, I.free, I.freeC, I.pin, I.hok, I.len⟩
theorem Inv.unwish (I : Inv (X.wish E) pins σ H s) : Inv X pins σ H s := ⟨I.ok.unwish, I.os, I.bare, I.base, I.loc, I.cell, I.free, I.freeC, I.pin, I.hok, I.len⟩
theorem SP.unwish {D : Ends} {f : Flow} {s' : Shared} (h : SP (X.wish E) pins D f s') : SP X pins D f s' := by
  cases f with
  | next => obtain ⟨σ', H', I, q⟩ := h; exact ⟨σ', H', I.unwish, q⟩
  | brk => obtain ⟨σ', H', I, q⟩ := h; exact ⟨σ', H', I.unwish, q⟩
  | cont => obtain ⟨σ', H', I, q⟩ := h; exact ⟨σ', H', I.unwish, q⟩
  | ret u => obtain ⟨v, σ', H', I, r, q⟩ := h; exact ⟨v, σ', H', I.unwish, r, q⟩
theorem PE.nox {e : Expr} {t : TE} (h : PE X.nox e t) : PE X e t := fun pins s σ H Q I hw =>
  wpAny_mono (h pins s σ H Q (I.wish _) hw) (fun _ _ ⟨v, H', I', r, q⟩ => ⟨v, H', I'.unwish, r, q⟩) fun _ _ z => False.elim z
theorem PT.nox {e : Expr} {t : TT} (h : PT X.nox e t) : PT X e t := fun pins s σ H Q I hw =>
  wpAny_mono (h pins s σ H Q (I.wish _) hw) (fun _ _ ⟨H', I', q⟩ => ⟨H', I'.unwish, q⟩) fun _ _ z => False.elim z
theorem PSs.nox {st : List Stmt} {t : TS} (h : PSs X.nox st t) : PSs X st t := fun pins s σ H D I hw =>
  wpAny_mono (h pins s σ H D (I.wish _) hw) (fun _ _ q => q.unwish) fun _ _ z => False.elim z
end

/-! ### blocks and small statements -/
section
variable {X : Cx} {st : Stmt} {rest : List Stmt} {t u : TS} {e : Expr} {te : TE} {pos : Pos}
def tNext : TS := fun D σ H => D.nx σ H
def tSeq (t u : TS) : TS := fun D σ H => t { D with nx := u D } σ H
theorem pss_nil : PSs X [] tNext := fun _ _ σ H _ I h => wpAny_execs_nil ⟨σ, H, I, h⟩
theorem pss_cons (h1 : PS X st t) (h2 : PSs X rest u) : PSs X (st :: rest) (tSeq t u) := by
  intro pins s σ H D I h
  refine wpAny_execs_cons (thn (h1 pins s σ H { D with nx := u D } I h) fun f s1 q => ?_)
  cases f with
  | next =>
    obtain ⟨σ', H', I', q⟩ := q
    exact h2 pins s1 σ' H' D I' q
  | ret v => exact q
  | brk => exact q
  | cont => exact q
theorem pss_one (h1 : PS X st t) : PSs X [st] t := by
  intro pins s σ H D I h
  refine wpAny_execs_cons (thn (h1 pins s σ H D I h) fun f s1 q => ?_)
  cases f with
  | next => exact wpAny_execs_nil q
  | ret v => exact q
  | brk => exact q
  | cont => exact q
def tBreak : TS := fun D σ H => D.bk σ H
def tCont : TS := fun D σ H => D.ct σ H
/-- in a def's body nothing is shown -/
theorem Inv.quiet {pins : List (Addr × Obj)} {σ : St} {H : Hp} {s : Shared} (I : Inv X pins σ H s) : interactive X.env = false := by simp [interactive, I.ok.kind]
/-- an expression whose value is dropped -/
def tDrop (te : TE) : TS := fun D σ H => te σ H fun _ H1 => D.nx σ H1
theorem ps_expr (he : PE X e te) (hs : swapsWith e none pos.line X.env = pure false := by rfl) : PS X (.Expr e pos) (tDrop te) := by
  intro pins s σ H D I h
  exact wpAny_Expr_any (thn (he pins s σ H _ I h) fun v s1 ⟨x, H1, I1, r1, q1⟩ => ⟨σ, H1, I1, q1⟩) I.quiet hs
def tRet (te : TE) : TS := fun D σ H => te σ H D.rt
theorem ps_ret (he : PE X e te) : PS X (.Return (some e) pos) (tRet te) := by
  intro pins s σ H D I h
  exact wpAny_Return_some (thn (he pins s σ H _ I h) fun v s1 ⟨x, H1, I1, r1, q1⟩ => ⟨x, σ, H1, I1, r1, q1⟩)
def tRetN : TS := fun D _ H => D.rt .non H
def tIfS (c : TT) (t u : TS) : TS := fun D σ H => c σ H fun b H1 => if b = true then t D σ H1 else u D σ H1
theorem ps_if {c : Expr} {a b : List Stmt} {tc : TT} (hc : PT X c tc) (ha : PSs X a t) (hb : PSs X b u) : PS X (.If c a b pos) (tIfS tc t u) := by
  intro pins s σ H D I h
  refine wpAny_If (thn (hc pins s σ H _ I h) fun d s1 ⟨H1, I1, q1⟩ => ?_)
  cases d with
  | true => exact ha pins s1 σ H1 D I1 q1
  | false => exact hb pins s1 σ H1 D I1 q1
/-- code that the proof never comes to -/
def tNever : TS := fun _ _ _ => False
end

/-! ### targets -/
abbrev TG := V → St → Hp → (St → Hp → Prop) → Prop
abbrev TGs := List V → St → Hp → (St → Hp → Prop) → Prop
def PG (X : Cx) (target : Expr) (t : TG) : Prop :=
  ∀ (pins : List (Addr × Obj)) (s : Shared) (σ : St) (H : Hp) (v : V) (u : Value) (Q : St → Hp → Prop), Inv X pins σ H s → RelV v u → t v σ H Q →
    wpAny (model X.prog X.w) X.A (assign target X.env u) (fun _ s' => ∃ σ' H', Inv X pins σ' H' s' ∧ Q σ' H') X.xe s
/-- several targets, one after another -/
def PGs (X : Cx) (ts : List Expr) (t : TGs) : Prop :=
  ∀ (pins : List (Addr × Obj)) (s : Shared) (σ : St) (H : Hp) (vs : List V) (us : List Value) (Q : St → Hp → Prop), Inv X pins σ H s → Vals vs us → t vs σ H Q →
    wpAny (model X.prog X.w) X.A (assignInOrder ((assignEach ts X.env).map (·.2)) us) (fun _ s' => ∃ σ' H', Inv X pins σ' H' s' ∧ Q σ' H') X.xe s
/-- o[i] = v, by values -/
abbrev TSet := V → V → V → Hp → (Hp → Prop) → Prop
def PSet (X : Cx) (t : TSet) : Prop :=
  ∀ (pins : List (Addr × Obj)) (s : Shared) (σ : St) (H : Hp) (o i v : V) (ov iv u : Value) (Q : Hp → Prop), Inv X pins σ H s → RelV o ov → RelV i iv → RelV v u → t o i v H Q →
    wpAny (model X.prog X.w) X.A (setItem ov iv u) (fun _ s' => ∃ H', Inv X pins σ H' s' ∧ Q H') X.xe s
/-- a op= b, by values -/
abbrev TIp := V → V → Hp → VK → Prop
def PIp (X : Cx) (op : Operator) (t : TIp) : Prop :=
  ∀ (pins : List (Addr × Obj)) (s : Shared) (σ : St) (H : Hp) (x y : V) (v u : Value) (Q : VK), Inv X pins σ H s → RelV x v → RelV y u → t x y H Q →
    wpAny (model X.prog X.w) X.A (inplaceOp op v u) (EP X pins σ Q) X.xe s
section
variable {X : Cx} {pos : Pos}
def gName (i : Nat) : TG := fun v σ H Q => Q (σ.set i (some v)) H
theorem pg_name {i : Nat} {x : Str} (hN : X.N.Nodup) (hi : X.N[i]? = some x) (hx : Loc X.env.scope x) (hf : X.fn x = true ∨ X.env.scope.names.lookup x = some .local := by first | exact .inl rfl | exact .inr rfl | assumption) : PG X (.Name x pos) (gName i) := by
  intro pins s σ H v u Q I r h
  exact wpAny_assign_Name (store_ok I hN hi hx r (fun s' I' => ⟨_, H, I', h⟩) hf)
def gNil : TGs := fun vs σ H Q => vs = [] ∧ Q σ H
def gCons (t : TG) (u : TGs) : TGs := fun vs σ H Q => ∃ v r, vs = v :: r ∧ t v σ H fun σ' H' => u r σ' H' Q
/-- (a, b, ..) = a tuple of that length -/
def gTup (K : PySem.W.Frag) (n : Nat) (t : TGs) : TG := fun v σ H Q => ∃ a xs, v = .ref a ∧ SqT K H a xs ∧ xs.length = n ∧ t xs σ H Q
/-- o[i] = .. -/
def gSub (to ti : TE) (t : TSet) : TG := fun v σ H Q => to σ H fun o H1 => ti σ H1 fun i H2 => t o i v H2 fun H3 => Q σ H3
/-- target = value -/
def tAsg (te : TE) (g : TG) : TS := fun D σ H => te σ H fun x H1 => g x σ H1 D.nx
/-- name = value -/
theorem ps_set {i : Nat} {x : Str} {e : Expr} {te : TE} {pos' : Pos} (hN : X.N.Nodup) (hi : X.N[i]? = some x) (hx : Loc X.env.scope x) (he : PE X e te) (hs : swapsWith e (some (.Name x pos')) pos.line X.env = pure false := by rfl) (hf : X.fn x = true ∨ X.env.scope.names.lookup x = some .local := by first | exact .inl rfl | exact .inr rfl | assumption) :
    PS X (.Assign [.Name x pos'] e pos) (tAsg te (gName i)) := by
  intro pins s σ H D I h
  refine wpAny_Assign_Name (thn (he pins s σ H _ I h) fun v s1 ⟨y, H1, I1, r1, q1⟩ => ?_) hs
  exact store_ok I1 hN hi hx r1 (fun s2 I2 => ⟨_, H1, I2, q1⟩) hf
/-- a, b = x, y with plain local names: stored from the right; the pair itself is not tracked (the opening rows as in PyProof/Rows/TupAssign.lean:23) -/
def tPar (i j : Nat) (ta : TA) : TS := fun D σ H => ta σ H fun vs H1 => ∃ v w, vs = [v, w] ∧ D.nx ((σ.set i (some v)).set j (some w)) H1
/-- name op= e -/
def tAug (i : Nat) (te : TE) (ti : TIp) : TS := fun D σ H => ∃ x, σ[i]? = some (some x) ∧ te σ H fun y H1 => ti x y H1 fun z H2 => D.nx (σ.set i (some z)) H2
/-- o[i] op= e -/
def tAugS (to ti te : TE) (tget : V → V → Hp → VK → Prop) (tip : TIp) (tset : TSet) : TS := fun D σ H => to σ H fun o H1 => ti σ H1 fun i H2 => tget o i H2 fun x H3 => te σ H3 fun y H4 => tip x y H4 fun z H5 => tset o i z H5 fun H6 => D.nx σ H6
/-- o[i], by values -/
def PGet (X : Cx) (t : V → V → Hp → VK → Prop) : Prop :=
  ∀ (pins : List (Addr × Obj)) (s : Shared) (σ : St) (H : Hp) (o i : V) (ov iv : Value) (Q : VK), Inv X pins σ H s → RelV o ov → RelV i iv → t o i H Q →
    wpAny (model X.prog X.w) X.A (getItem ov iv) (EP X pins σ Q) X.xe s
/-- ints -/
def ipI (f : Int → Int → Int) : TIp := fun x y H Q => ∃ i j, x = .int i ∧ y = .int j ∧ Q (.int (f i j)) H
end

/-! ### while -/
section
variable {X : Cx} {pos : Pos}
/-- the invariant W with its measure -/
def tWhile (c : TT) (tb : TS) : TS := fun D σ H => ∃ W : Nat → St → Hp → Prop, (∃ m, W m σ H) ∧ ∀ m σ H, W m σ H →
  c σ H fun b H1 => if b = true then ∃ N : St → Hp → Prop, (∀ σ' H', N σ' H' → ∃ m', m' < m ∧ W m' σ' H') ∧ tb { D with nx := N, ct := N, bk := D.nx } σ H1 else D.nx σ H1
end

/-! ### what a loop or a comprehension walks -/
/-- at turn i: it yields x (the heap may grow), or it stops -/
structure It where
  go : Nat → Hp → Prop
  yld : Nat → Hp → V → Hp → Prop
  stop : Nat → Hp → Prop
/-- the iterator's own objects may turn: they are not the frame's, not pinned, younger than the entry (or a comprehension's own) -/
def FpOk (X : Cx) (pins : List (Addr × Obj)) (H : Hp) (b : Addr) : Prop :=
  H b = none ∧ b ≠ X.env.locals ∧ b ∉ X.fs ∧ (b ∈ X.ex ∨ X.s₀.heap.objs.size ≤ b) ∧ (∀ x c, X.env.cells.lookup x = some c → c ≠ b) ∧ ∀ p ∈ X.pn ++ pins, p.1 ≠ b
theorem Inv.fpOk {X : Cx} {pins : List (Addr × Obj)} {σ : St} {H H' : Hp} {s : Shared} {b : Addr} (I : Inv X pins σ H s) (hb : s.heap.objs.size ≤ b) (hn : H' b = none) : FpOk X pins H' b := by
  refine ⟨hn, Nat.ne_of_gt (Nat.lt_of_lt_of_le I.lt hb), I.nofs hb, .inr (Nat.le_trans I.sz hb), fun x c e z => ?_, fun p hp z => ?_⟩
  · obtain ⟨v, q⟩ := I.cell x c e
    exact absurd (Nat.lt_of_lt_of_le q.lt (by rw [z]; exact hb)) (Nat.lt_irrefl _)
  · exact absurd (Nat.lt_of_lt_of_le (Heap.lt_size (I.pin p hp).1) (by rw [z]; exact hb)) (Nat.lt_irrefl _)
structure Turn (P : Program) (w : World) (K : PySem.W.Frag) (tg : Expr) (J : It) (fp : List Addr) (it : Addr) (tn : Nat → Heap → Prop) : Prop where
  mem : it ∈ fp
  obj : ∀ i h, tn i h → ∀ b ∈ fp, ∃ o, h.get? b = some o ∧ ∀ v, o.data ≠ .cell v
  keep : ∀ i h h', tn i h → (∀ b ∈ fp, ∀ o, h.get? b = some o → h'.get? b = some o) → tn i h'
  item : ∀ (X : Cx), X.prog = P → X.w = w → X.K = K → X.calm = true → ∀ (i : Nat) (pins : List (Addr × Obj)) (s : Shared) (σ : St) (H : Hp) (E : Value → Shared → Prop), Inv X pins σ H s → (∀ b ∈ fp, FpOk X pins H b) → tn i s.heap → J.go i H →
    wpAny (model P w) X.A (pyNext (.ref it)) (fun r s1 => ∃ u, r = some u ∧
      wpAny (model P w) X.A (letOwnedTupleGo tg (.ref it) u) (fun _ s2 => ∃ x H', Inv X pins σ H' s2 ∧ RelV x u ∧ J.yld i H x H' ∧ tn (i + 1) s2.heap ∧ ∀ b ∈ fp, H' b = none) E s1) E s
  done : ∀ (X : Cx), X.prog = P → X.w = w → X.K = K → X.calm = true → ∀ (i : Nat) (pins : List (Addr × Obj)) (s : Shared) (σ : St) (H : Hp) (E : Value → Shared → Prop), Inv X pins σ H s → (∀ b ∈ fp, FpOk X pins H b) → tn i s.heap → J.stop i H →
    wpAny (model P w) X.A (pyNext (.ref it)) (fun r s1 => r = none ∧ Inv X pins σ H s1) E s
  self : ∀ (A : Around) (i : Nat) (s : Shared) (Q : Value → Shared → Prop) (E : Value → Shared → Prop), tn i s.heap → Q (.ref it) s → wpAny (model P w) A (pyIter (.ref it)) Q E s
abbrev TI := St → Hp → (It → Hp → Prop) → Prop
/-- an iterator has come -/
def PIE (X : Cx) (pins : List (Addr × Obj)) (σ : St) (tg : Expr) (R : It → Hp → Prop) (itv : Value) (s2 : Shared) : Prop :=
  ∃ (it : Addr) (fp : List Addr) (tn : Nat → Heap → Prop) (J : It) (H' : Hp), itv = .ref it ∧ Inv X pins σ H' s2 ∧ Turn X.prog X.w X.K tg J fp it tn ∧ tn 0 s2.heap ∧ (∀ b ∈ fp, FpOk X pins H' b) ∧ R J H'
def PI (X : Cx) (tg iter : Expr) (wi : TI) : Prop :=
  ∀ (pins : List (Addr × Obj)) (s : Shared) (σ : St) (H : Hp) (R : It → Hp → Prop), Inv X pins σ H s → wi σ H R →
    wpAny (model X.prog X.w) X.A (eval iter X.env) (fun v s1 => wpAny (model X.prog X.w) X.A (pyIter v) (PIE X pins σ tg R) X.xe s1) X.xe s

/-- the step ahead of the store is nothing for an iterator that keeps no tuple -/
theorem go_of {M : Model} {A : Around} {E : Value → Shared → Prop} {s : Shared} {tg : Expr} {it : Addr} {u : Value} {o : Obj} {n : String} {vs : Array Value} {Q : Unit → Shared → Prop} (ho : s.heap.get? it = some o) (hc : o.cls = .type n) (hd : o.data = .fields vs)
    (hn : ["enumerate", "zip", "dict_itemiterator", "dict_reverseitemiterator", "odict_iterator", "itertools.zip_longest", "itertools.pairwise"].contains n = false) (hQ : Q () s) : wpAny M A (letOwnedTupleGo tg (.ref it) u) Q E s := by
  unfold letOwnedTupleGo
  cases tg <;> first
    | exact wpAny_pure hQ
    | (cases u <;> first
        | exact wpAny_pure hQ
        | (refine wpAny_bind (wpAny_load ho ?_)
           rw [hc, hd]
           show wpAny M A (if (["enumerate", "zip", "dict_itemiterator", "dict_reverseitemiterator", "odict_iterator", "itertools.zip_longest", "itertools.pairwise"].contains n && vs[0]? == some (rawInt _)) = true then _ else _) Q E s
           rw [if_neg (by intro h; rw [hn, Bool.false_and] at h; cases h)]
           exact wpAny_pure hQ))

/-- the list at a, as it stands at each turn (a loop may append to it) -/
def Itl (K : PySem.W.Frag) (a : Addr) : It :=
  ⟨fun i H => ∃ xs x, SqL K H a xs ∧ xs[i]? = some x, fun i H x H' => H' = H ∧ ∀ xs, SqL K H a xs → xs[i]? = some x, fun i H => ∃ xs, SqL K H a xs ∧ xs.length ≤ i⟩
def Itt (K : PySem.W.Frag) (a : Addr) : It :=
  ⟨fun i H => ∃ xs x, SqT K H a xs ∧ xs[i]? = some x, fun i H x H' => H' = H ∧ ∀ xs, SqT K H a xs → xs[i]? = some x, fun i H => ∃ xs, SqT K H a xs ∧ xs.length ≤ i⟩
/-- lo, lo + 1, .. (n of them) -/
def Itr (lo : Int) (n : Nat) : It := ⟨fun i _ => i < n, fun i H x H' => H' = H ∧ x = .int (lo + i), fun i _ => n ≤ i⟩
theorem turn_range {P : Program} {w : World} {K : PySem.W.Frag} {tg : Expr} (it : Addr) (lo : Int) (n : Nat) : Turn P w K tg (Itr lo n) [it] it (fun i h => IsRangeIter h it (lo + (i : Nat) * 1) ((n : Int) - (i : Nat)) 1) where
  mem := by simp
  obj := fun i h st b hb => by
    have e : b = it := by simpa using hb
    subst e
    exact ⟨_, st, fun v z => by
      have z' : Data.fields _ = Data.cell v := z
      cases z'⟩
  keep := fun i h h' st k => k it (by simp) _ st
  item := by
    intro X hP hw hK hc i pins s σ H E I hf st hg
    subst hP hw hK
    obtain ⟨f0, f1, f2, f3, f4, f5⟩ := hf it (by simp)
    have W := Walks.range (prog := X.prog) (w := X.w) (I.ok.hd hc) it lo 1 n
    refine W.item i s _ _ hg st fun v h' tk hv st' kk => ?_
    obtain ⟨t, rfl⟩ := hv
    have I1 : Inv X pins σ H { s with heap := h', toks := tk } := I.turned (fun b o hb e => kk b o (by simpa using hb) e) f0 f1 f3 f4 f5
    refine ⟨_, rfl, go_of (s := { s with heap := h', toks := tk }) (n := "range_iterator") st' rfl rfl (by decide) ⟨.int (lo + i), H, I1, ⟨t, ?_⟩, ⟨rfl, rfl⟩, st', fun b hb => (hf b hb).1⟩⟩
    rw [Int.mul_one]
  done := by
    intro X hP hw hK hc i pins s σ H E I hf st hg
    subst hP hw hK
    obtain ⟨f0, f1, f2, f3, f4, f5⟩ := hf it (by simp)
    exact wpAny_pyNext_range_end (I.ok.hd hc) st (by have : n ≤ i := hg; omega) fun h' eb => ⟨rfl, I.turned (t' := s.toks) (fun b o hb e => eb b o hb e) f0 f1 f3 f4 f5⟩
  self := fun _ _ _ _ _ st h => wpAny_pyIter_rangeiter st h
end L2

namespace L2
open PySem PySem.Spec PyProof.Rows
section
variable {X : Cx} {tg : Expr}
def iList (K : PySem.W.Frag) (tl : TE) : TI := fun σ H R => tl σ H fun x H1 => ∃ a, x = .ref a ∧ (∃ xs, SqL K H1 a xs) ∧ R (Itl K a) H1
def iTup (K : PySem.W.Frag) (tl : TE) : TI := fun σ H R => tl σ H fun x H1 => ∃ a, x = .ref a ∧ (∃ xs, SqT K H1 a xs) ∧ R (Itt K a) H1
/-- a range object just made, walked -/
theorem range_it {pins : List (Addr × Obj)} {σ : St} {H : Hp} {s : Shared} {R : It → Hp → Prop} {E : Value → Shared → Prop} {lo hi : Int} {t u v : Tok} {tk : Nat} (I : Inv X pins σ H s) (h1 : -(2 ^ 62) ≤ lo) (h2 : lo < 2 ^ 62) (h3 : -(2 ^ 62) ≤ hi) (h4 : hi < 2 ^ 62)
    (q : R (Itr lo (hi - lo).toNat) H) : wpAny (model X.prog X.w) X.A (pyIter (.ref s.heap.objs.size)) (PIE X pins σ tg R) E { s with heap := s.heap.push { cls := .type "range", data := .fields #[.int lo t, .int hi u, .int 1 v] }, toks := tk } := by
  refine wpAny_pyIter_range (IsRange.new ..) (small_one h1 h2 h3 h4) ?_
  have I1 : Inv X pins σ H { s with heap := s.heap.push { cls := .type "range", data := .fields #[.int lo t, .int hi u, .int 1 v] }, toks := tk } := I.kept fun b o e => Heap.get?_push_of_some _ e
  refine ⟨(s.heap.push { cls := .type "range", data := .fields #[.int lo t, .int hi u, .int 1 v] }).objs.size, [(s.heap.push { cls := .type "range", data := .fields #[.int lo t, .int hi u, .int 1 v] }).objs.size], _, _, H, rfl,
    I1.kept (t' := tk) fun b o e => Heap.get?_push_of_some _ e, turn_range _ lo (hi - lo).toNat, ?_, fun b hb => ?_, q⟩
  · have e1 : lo + ((0 : Nat) : Int) * 1 = lo := by simp
    have e2 : (((hi - lo).toNat : Nat) : Int) - ((0 : Nat) : Int) = Builtin.Range.rangeSize lo hi 1 := by rw [rangeSize_one]; split <;> omega
    show IsRangeIter _ _ (lo + ((0 : Nat) : Int) * 1) ((((hi - lo).toNat : Nat) : Int) - ((0 : Nat) : Int)) 1
    rw [e1, e2]
    exact Heap.get?_push_size _ rfl
  · have e : b = (s.heap.push { cls := .type "range", data := .fields #[.int lo t, .int hi u, .int 1 v] }).objs.size := by simpa using hb
    subst e
    exact I1.fpOk (Nat.le_refl _) (I1.hok.fresh (Nat.le_refl _))
def iRng1 (ta : TA) : TI := fun σ H R => ta σ H fun vs H1 => ∃ j : Int, vs = [.int j] ∧ -(2 ^ 62) ≤ j ∧ j < 2 ^ 62 ∧ R (Itr 0 j.toNat) H1
def iRng2 (ta : TA) : TI := fun σ H R => ta σ H fun vs H1 => ∃ i j : Int, vs = [.int i, .int j] ∧ (-(2 ^ 62) ≤ i ∧ i < 2 ^ 62 ∧ -(2 ^ 62) ≤ j ∧ j < 2 ^ 62) ∧ R (Itr i (j - i).toNat) H1
theorem pi_range1 {a : Expr} {ta : TA} {p pos : Pos} (hg : Gl X "range") (hm : X.mg "range" = none) (ha : PA X [a] ta) (hs : starEach [a] X.env = [(false, eval a X.env)] := by rfl) : PI X tg (.Call (.Name "range" p) [a] [] pos) (iRng1 ta) := by
  intro pins s σ H R I h
  refine Call_ (ld_blt I hg hm boot_range (PyProof.Rows.callWith_type1 (thn (ha pos pins s σ H _ I h) fun us s1 ⟨vs, H1, I1, r1, q1⟩ => ?_) hs rfl))
  obtain ⟨j, e, q1, q2, q⟩ := q1
  subst e
  cases r1 with
  | cons r rr =>
    cases rr
    obtain ⟨t, rfl⟩ := r
    exact call_range_1 (range_it I1 (by omega) (by omega) q1 q2 (by simpa using q))
/-! ### for -/
/-- W: the invariant by the turn and a measure; N: what the body is to reach -/
def tFor (wi : TI) (g : TG) (tb : TS) : TS := fun D σ H => wi σ H fun J H1 => ∃ W : Nat → Nat → St → Hp → Prop, (∃ m, W 0 m σ H1) ∧ ∀ i m σ H, W i m σ H →
  (J.stop i H ∧ D.nx σ H) ∨ (J.go i H ∧ ∃ N : St → Hp → Prop, (∀ σ' H', N σ' H' → ∃ m', m' < m ∧ W (i + 1) m' σ' H') ∧ ∀ x H', J.yld i H x H' → g x σ H' fun σ2 H2 => tb { D with nx := N, ct := N, bk := D.nx } σ2 H2)
/-- the records at fp as they stand -/
def pinsAt (fp : List Addr) (h : Heap) : List (Addr × Obj) := fp.filterMap fun b => (h.get? b).map fun o => (b, o)
theorem mem_pinsAt {fp : List Addr} {h : Heap} {b : Addr} {o : Obj} (hb : b ∈ fp) (e : h.get? b = some o) : (b, o) ∈ pinsAt fp h := List.mem_filterMap.mpr ⟨b, hb, by rw [e]; rfl⟩
theorem of_pinsAt {fp : List Addr} {h : Heap} {p : Addr × Obj} (hp : p ∈ pinsAt fp h) : p.1 ∈ fp ∧ h.get? p.1 = some p.2 := by
  obtain ⟨b, hb, e⟩ := List.mem_filterMap.mp hp
  cases q : h.get? b with
  | none => rw [q] at e; cases e
  | some o =>
    rw [q] at e
    have e' : (b, o) = p := Option.some.inj e
    subst e'
    exact ⟨hb, q⟩
theorem Inv.pinned {pins : List (Addr × Obj)} {σ : St} {H : Hp} {s : Shared} {fp : List Addr} (I : Inv X pins σ H s) (hf : ∀ b ∈ fp, FpOk X pins H b) (ho : ∀ b ∈ fp, ∃ o, s.heap.get? b = some o ∧ ∀ v, o.data ≠ .cell v) : Inv X (pins ++ pinsAt fp s.heap) σ H s :=
  I.pins_of fun p hp => (List.mem_append.mp hp).elim (fun z => I.pin p (List.mem_append_right _ z)) fun z => by
    obtain ⟨hb, e⟩ := of_pinsAt z
    obtain ⟨f0, f1, f2, _⟩ := hf p.1 hb
    obtain ⟨o, e', d⟩ := ho p.1 hb
    rw [e] at e'; cases e'
    exact ⟨e, f0, f1, f2, d⟩
theorem Inv.unpinned {pins pl : List (Addr × Obj)} {σ : St} {H : Hp} {s : Shared} (I : Inv X (pins ++ pl) σ H s) : Inv X pins σ H s := I.pins_of fun p hp => I.pin p (List.mem_append_right _ (List.mem_append_left _ hp))
theorem ps_for {iter : Expr} {body : List Stmt} {wi : TI} {g : TG} {tb : TS} {pos : Pos} (hp : PassesOwn (model X.prog X.w) X.A X.env X.xe) (hc : X.calm = true) (hi : PI X tg iter wi) (hg : PG X tg g) (hb : PSs X body tb)
    (hs : ∀ x, foldedSetIterable iter X.env x = pure x := by intro _; rfl) : PS X (.For tg iter body [] pos) (tFor wi g tb) := by
  intro pins s σ H D I h
  refine wpAny_For (thn (hi pins s σ H _ I h) fun v s1 h1 => thn h1 fun itv s2 h2 => ?_) hs
  obtain ⟨it, fp, tn, J, H2, e, I2, T, st2, f2, W, ⟨m0, w0⟩, turn⟩ := h2
  subst e
  -- what stays true of the iterator's objects through the loop
  have stat : ∀ {H' : Hp}, (∀ b ∈ fp, H' b = none) → ∀ b ∈ fp, FpOk X pins H' b := fun hn b hb => ⟨hn b hb, (f2 b hb).2⟩
  refine codeAny_forLoop_any (fun n s' => ∃ i σ' H', Inv X pins σ' H' s' ∧ tn i s'.heap ∧ (∀ b ∈ fp, H' b = none) ∧ W i n σ' H') ?_ m0 ⟨0, σ, H2, I2, st2, fun b hb => (f2 b hb).1, w0⟩
  rintro n s3 ⟨i, σ3, H3, I3, st3, fr3, w3⟩
  rcases turn i n σ3 H3 w3 with ⟨stop, qn⟩ | ⟨go, N, hN, step⟩
  · refine wpAny_passesOwn hp (thn (T.done X rfl rfl rfl hc i pins s3 σ3 H3 X.xe I3 (stat fr3) st3 stop) fun r s4 ⟨hr, I4⟩ => ?_)
    subst hr
    exact wpAny_execs_nil ⟨σ3, H3, I4, qn⟩
  · refine wpAny_passesOwn hp (thn (T.item X rfl rfl rfl hc i pins s3 σ3 H3 X.xe I3 (stat fr3) st3 go) fun r s4 ⟨u, hr, h4⟩ => ?_)
    subst hr
    refine wpAny_passesOwn hp (thn h4 fun _ s5 ⟨x, H5, I5, r5, y5, st5, fr5⟩ => ?_)
    have I5' := I5.pinned (stat fr5) (T.obj _ _ st5)
    refine wpAny_passesOwn hp (thn (hg _ s5 σ3 H5 x u _ I5' r5 (step x H5 y5)) fun _ s6 ⟨σ6, H6, I6, q6⟩ => ?_)
    refine wpAny_passesOwn hp (thn (hb _ s6 σ6 H6 _ I6 q6) fun f s7 q7 => ?_)
    have again : ∀ {σ7 : St} {H7 : Hp}, Inv X (pins ++ pinsAt fp s5.heap) σ7 H7 s7 → N σ7 H7 → ∃ m, m < n ∧ ∃ i σ' H', Inv X pins σ' H' s7 ∧ tn i s7.heap ∧ (∀ b ∈ fp, H' b = none) ∧ W i m σ' H' := fun {σ7 H7} I7 n7 => by
      obtain ⟨m', hm, w7⟩ := hN σ7 H7 n7
      refine ⟨m', hm, i + 1, σ7, H7, I7.unpinned, T.keep _ _ _ st5 fun b hb o e => (I7.pin (b, o) (List.mem_append_right _ (List.mem_append_right _ (mem_pinsAt hb e)))).1, fun b hb => ?_, w7⟩
      obtain ⟨o, e, d⟩ := T.obj _ _ st5 b hb
      exact (I7.pin (b, o) (List.mem_append_right _ (List.mem_append_right _ (mem_pinsAt hb e)))).2.1
    cases f with
    | next => obtain ⟨σ7, H7, I7, n7⟩ := q7; exact again I7 n7
    | cont => obtain ⟨σ7, H7, I7, n7⟩ := q7; exact again I7 n7
    | brk => obtain ⟨σ7, H7, I7, q7⟩ := q7; exact ⟨σ7, H7, I7.unpinned, q7⟩
    | ret v => obtain ⟨x7, σ7, H7, I7, r7, q7⟩ := q7; exact ⟨x7, σ7, H7, I7.unpinned, r7, q7⟩
end

/-! ### the forms one uses -/
theorem for_range {lo : Int} {n : Nat} {g : TG} {tb : TS} {D : Ends} {σ : St} {H : Hp} (Pv : Nat → St → Hp → Prop) (h0 : Pv 0 σ H)
    (hs : ∀ i σ H, i < n → Pv i σ H → g (.int (lo + i)) σ H fun σ2 H2 => tb { D with nx := Pv (i + 1), ct := Pv (i + 1), bk := D.nx } σ2 H2) (hd : ∀ σ H, Pv n σ H → D.nx σ H) :
    ∃ W : Nat → Nat → St → Hp → Prop, (∃ m, W 0 m σ H) ∧ ∀ i m σ H, W i m σ H →
      ((Itr lo n).stop i H ∧ D.nx σ H) ∨ ((Itr lo n).go i H ∧ ∃ N : St → Hp → Prop, (∀ σ' H', N σ' H' → ∃ m', m' < m ∧ W (i + 1) m' σ' H') ∧ ∀ x H', (Itr lo n).yld i H x H' → g x σ H' fun σ2 H2 => tb { D with nx := N, ct := N, bk := D.nx } σ2 H2) := by
  refine ⟨fun i m σ H => m = n - i ∧ i ≤ n ∧ Pv i σ H, ⟨n, by simp, Nat.zero_le _, h0⟩, ?_⟩
  rintro i m σ H ⟨rfl, hi, p⟩
  by_cases hlt : i < n
  · refine .inr ⟨hlt, Pv (i + 1), fun σ' H' p' => ⟨n - (i + 1), by omega, rfl, hlt, p'⟩, fun x H' y => ?_⟩
    obtain ⟨e, y⟩ := y
    subst e y
    exact hs i σ _ hlt p
  · have e : i = n := by omega
    subst e
    exact .inl ⟨Nat.le_refl _, hd σ H p⟩
end L2

namespace L2
open PySem PySem.Spec PyProof.Rows

abbrev R2 := V → V → Hp → VK → Prop
/-- a two-place operation on values: f is binaryOp op, inplaceOp op or compareOp op -/
def OpR (X : Cx) (f : Value → Value → Sem Value) (r : R2) : Prop :=
  ∀ (pins : List (Addr × Obj)) (s : Shared) (σ : St) (H : Hp) (x y : V) (v u : Value) (Q : VK), Inv X pins σ H s → RelV x v → RelV y u → r x y H Q →
    wpAny (model X.prog X.w) X.A (f v u) (EP X pins σ Q) X.xe s
/-- a one-place operation -/
def UnR (X : Cx) (f : Value → Sem Value) (r : V → Hp → VK → Prop) : Prop :=
  ∀ (pins : List (Addr × Obj)) (s : Shared) (σ : St) (H : Hp) (x : V) (v : Value) (Q : VK), Inv X pins σ H s → RelV x v → r x H Q →
    wpAny (model X.prog X.w) X.A (f v) (EP X pins σ Q) X.xe s
/-- a call of a value that is known (a builtin, a type) with values -/
def CallR (X : Cx) (f : Value) (r : List V → Hp → VK → Prop) : Prop :=
  ∀ (pins : List (Addr × Obj)) (s : Shared) (σ : St) (H : Hp) (xs : List V) (us : List Value) (Q : VK), Inv X pins σ H s → Vals xs us → r xs H Q →
    wpAny (model X.prog X.w) X.A (call f us) (EP X pins σ Q) X.xe s
/-- a value's truth -/
def TruR (X : Cx) (r : V → Hp → (Bool → Hp → Prop) → Prop) : Prop :=
  ∀ (pins : List (Addr × Obj)) (s : Shared) (σ : St) (H : Hp) (x : V) (v : Value) (Q : Bool → Hp → Prop), Inv X pins σ H s → RelV x v → r x H Q →
    wpAny (model X.prog X.w) X.A (truthy v) (TP X pins σ Q) X.xe s

def tOp (r : R2) (ta tb : TE) : TE := fun σ H Q => ta σ H fun x H1 => tb σ H1 fun y H2 => r x y H2 Q
def tUn (r : V → Hp → VK → Prop) (ta : TE) : TE := fun σ H Q => ta σ H fun x H1 => r x H1 Q
/-- ints in, under C, and a value out -/
def rI (C : Int → Int → Prop) (g : Int → Int → V) : R2 := fun x y H Q => ∃ i j, x = .int i ∧ y = .int j ∧ C i j ∧ Q (g i j) H
def rI0 (g : Int → Int → V) : R2 := fun x y H Q => ∃ i j, x = .int i ∧ y = .int j ∧ Q (g i j) H
def rU (g : Int → V) : V → Hp → VK → Prop := fun x H Q => ∃ i, x = .int i ∧ Q (g i) H

section
variable {X : Cx} {a b c : Expr} {ta tb tc : TE} {pos : Pos}

theorem binT (ha : PE X a ta) (hb : PE X b tb) {pins : List (Addr × Obj)} {s : Shared} {σ : St} {H : Hp} {R : V → V → Hp → Prop} (I : Inv X pins σ H s)
    (h : ta σ H fun x H1 => tb σ H1 fun y H2 => R x y H2) {Q : Value → Shared → Prop} {f : Value → Value → Sem Value}
    (hf : ∀ v u s2 x y H2, Inv X pins σ H2 s2 → RelV x v → RelV y u → R x y H2 → wpAny (model X.prog X.w) X.A (f v u) Q X.xe s2) :
    wpAny (model X.prog X.w) X.A (eval a X.env) (fun v s₁ => wpAny (model X.prog X.w) X.A (eval b X.env) (fun u s₂ => wpAny (model X.prog X.w) X.A (f v u) Q X.xe s₂) X.xe s₁) X.xe s := by
  refine thn (ha pins s σ H _ I h) fun v s1 ⟨x, H1, I1, r1, q1⟩ => ?_
  refine thn (hb pins s1 σ H1 _ I1 q1) fun u s2 ⟨y, H2, I2, r2, q2⟩ => ?_
  exact hf v u s2 x y H2 I2 r1 r2 q2

theorem pe_op {op : Operator} {r : R2} (ho : OpR X (binaryOp op) r) (ha : PE X a ta) (hb : PE X b tb) : PE X (.BinOp a op b pos) (tOp r ta tb) := by
  intro pins s σ H Q I h
  exact wpAny_BinOp (binT ha hb I h fun v u s2 x y H2 I2 rx ry q => ho pins s2 σ H2 x y v u Q I2 rx ry q)
/-! ### ints -/
theorem opI {f : Value → Value → Sem Value} {C : Int → Int → Prop} {g : Int → Int → Int}
    (rule : ∀ (i j : Int) (t u : Tok) (s : Shared) (Q : Value → Shared → Prop) (E : Value → Shared → Prop), C i j → Q (.int (g i j) s.toks) { s with toks := s.toks + 1 } → wpAny (model X.prog X.w) X.A (f (.int i t) (.int j u)) Q E s) :
    OpR X f (rI C fun i j => .int (g i j)) := by
  intro pins s σ H x y v u Q I rx ry h
  obtain ⟨i, j, rfl, rfl, hc, q⟩ := h
  obtain ⟨t, rfl⟩ := rx
  obtain ⟨t', rfl⟩ := ry
  exact rule i j t t' s _ _ hc ⟨.int (g i j), H, I.tok _, ⟨_, rfl⟩, q⟩
theorem opI0 {f : Value → Value → Sem Value} {g : Int → Int → Int}
    (rule : ∀ (i j : Int) (t u : Tok) (s : Shared) (Q : Value → Shared → Prop) (E : Value → Shared → Prop), Q (.int (g i j) s.toks) { s with toks := s.toks + 1 } → wpAny (model X.prog X.w) X.A (f (.int i t) (.int j u)) Q E s) :
    OpR X f (rI0 fun i j => .int (g i j)) := by
  intro pins s σ H x y v u Q I rx ry h
  obtain ⟨i, j, rfl, rfl, q⟩ := h
  obtain ⟨t, rfl⟩ := rx
  obtain ⟨t', rfl⟩ := ry
  exact rule i j t t' s _ _ ⟨.int (g i j), H, I.tok _, ⟨_, rfl⟩, q⟩
theorem opB0 {f : Value → Value → Sem Value} {g : Int → Int → Bool}
    (rule : ∀ (i j : Int) (t u : Tok) (s : Shared) (Q : Value → Shared → Prop) (E : Value → Shared → Prop), Q (.bool (g i j)) s → wpAny (model X.prog X.w) X.A (f (.int i t) (.int j u)) Q E s) :
    OpR X f (rI0 fun i j => .bl (g i j)) := by
  intro pins s σ H x y v u Q I rx ry h
  obtain ⟨i, j, rfl, rfl, q⟩ := h
  obtain ⟨t, rfl⟩ := rx
  obtain ⟨t', rfl⟩ := ry
  exact rule i j t t' s _ _ ⟨.bl (g i j), H, I, rfl, q⟩

def CDiv (i j : Int) : Prop := 0 < j ∧ j < 1073741824
def CDivN (i j : Int) : Prop := j ≠ 0 ∧ j.natAbs < 1073741824
def CPow (i j : Int) : Prop := 0 ≤ j ∧ j ≤ 1000000 ∧ i.natAbs < 2 ^ 64
def CMul (i j : Int) : Prop := (-(2 ^ 64) < i ∧ i < 2 ^ 64) ∨ (-(2 ^ 64) < j ∧ j < 2 ^ 64)
theorem CMul.ok {i j : Int} (h : CMul i j) : IntMulOk i j := by
  rcases h with ⟨h1, h2⟩ | ⟨h1, h2⟩
  · exact .of_left (intBits_le_64 h1 h2)
  · exact .of_right (intBits_le_64 h1 h2)
theorem op_add : OpR X (binaryOp .Add) (rI0 fun i j => .int (i + j)) := opI0 fun _ _ _ _ _ _ _ q => add_int q
theorem op_mul : OpR X (binaryOp .Mult) (rI CMul fun i j => .int (i * j)) := opI fun _ _ _ _ _ _ _ hc q => mul_int q hc.ok
/-- % by a positive divisor of any size -/
theorem op_mod : OpR X (binaryOp .Mod) (rI (fun _ j => 0 < j) fun i j => .int (i % j)) := opI fun i j _ _ _ _ _ hc q => by
  have h1 : (0 : Int) < j := hc
  exact mod_int' (by omega) (by rw [Int.fmod_eq_emod_of_nonneg i (by omega)]; exact q)
theorem op_pow : OpR X (binaryOp .Pow) (rI CPow fun i j => .int (i ^ j.toNat)) := opI fun _ _ _ _ _ _ _ hc q => pow_int_small hc.1 hc.2.1 hc.2.2 q
/-! ### bools among ints: n += (a < b) -/
end

/-! ### comparisons -/
/-- the scalars that == tells apart as data does -/
def scal : V → V → Bool
  | .non, .non => true | .non, .int _ => true | .int _, .non => true | .non, .bl _ => true | .bl _, .non => true | .non, .str _ => true | .str _, .non => true
  | .int _, .int _ => true | .bl _, .bl _ => true | .str _, .str _ => true | .byt _, .byt _ => true
  | .int _, .str _ => true | .str _, .int _ => true | .bl _, .str _ => true | .str _, .bl _ => true
  | _, _ => false
def rEq : R2 := fun x y H Q => scal x y = true ∧ Q (.bl (decide (x = y))) H
def rNe : R2 := fun x y H Q => scal x y = true ∧ Q (.bl (!decide (x = y))) H

theorem dec_int {i j : Int} : decide (V.int i = V.int j) = (i == j) := by
  rw [Bool.eq_iff_iff]
  simp
theorem dec_bl {i j : Bool} : decide (V.bl i = V.bl j) = (i == j) := by
  rw [Bool.eq_iff_iff]
  simp
theorem dec_str {i j : Str} : decide (V.str i = V.str j) = (i == j) := by
  rw [Bool.eq_iff_iff]
  simp
theorem dec_byt {i j : Array UInt8} : decide (V.byt i = V.byt j) = (i.toList == j.toList) := by
  rw [Bool.eq_iff_iff]
  cases i
  cases j
  simp

section
variable {X : Cx} {a b c : Expr} {ta tb tc : TE} {pos : Pos}
theorem fin_bl {pins : List (Addr × Obj)} {σ : St} {H : Hp} {s : Shared} {Q : VK} {k k' : Bool} (I : Inv X pins σ H s) (q : Q (.bl k) H) (e : k = k') : EP X pins σ Q (.bool k') s := by
  subst e
  exact ⟨.bl k, H, I, rfl, q⟩
theorem op_eq : OpR X (compareOp .Eq) rEq := by
  intro pins s σ H x y v u Q I rx ry h
  obtain ⟨hs, q⟩ := h
  cases x with
  | non =>
    cases rx
    cases y with
    | non => cases ry; exact PySem.EqNone.eq_none_none (fin_bl I q (by simp))
    | bl j => cases ry; exact PySem.EqNone.eq_none_bool (fin_bl I q (by simp))
    | int j => obtain ⟨t', rfl⟩ := ry; exact PySem.EqNone.eq_none_int (fin_bl I q (by simp))
    | str j => obtain ⟨t', rfl⟩ := ry; exact PySem.EqNone.eq_none_str (fin_bl I q (by simp))
    | _ => exact absurd (show false = true from hs) Bool.false_ne_true
  | bl i =>
    cases rx
    cases y with
    | non => cases ry; exact PySem.EqNone.eq_bool_none (fin_bl I q (by simp))
    | bl j => cases ry; exact eq_bool (fin_bl I q dec_bl)
    | str j => obtain ⟨t', rfl⟩ := ry; exact PySem.EqMixed.eq_bool_str (fin_bl I q (by simp))
    | _ => exact absurd (show false = true from hs) Bool.false_ne_true
  | int i =>
    obtain ⟨t, rfl⟩ := rx
    cases y with
    | non => cases ry; exact PySem.EqNone.eq_int_none (fin_bl I q (by simp))
    | int j => obtain ⟨t', rfl⟩ := ry; exact eq_int (fin_bl I q dec_int)
    | str j => obtain ⟨t', rfl⟩ := ry; exact PySem.EqMixed.eq_int_str (fin_bl I q (by simp))
    | _ => exact absurd (show false = true from hs) Bool.false_ne_true
  | str i =>
    obtain ⟨t, rfl⟩ := rx
    cases y with
    | non => cases ry; exact PySem.EqNone.eq_str_none (fin_bl I q (by simp))
    | bl j => cases ry; exact PySem.EqMixed.eq_str_bool (fin_bl I q (by simp))
    | int j => obtain ⟨t', rfl⟩ := ry; exact PySem.EqMixed.eq_str_int (fin_bl I q (by simp))
    | str j => obtain ⟨t', rfl⟩ := ry; exact eq_str (fin_bl I q dec_str)
    | _ => exact absurd (show false = true from hs) Bool.false_ne_true
  | byt i =>
    obtain ⟨t, rfl⟩ := rx
    cases y with
    | byt j => obtain ⟨t', rfl⟩ := ry; exact PySem.W.eq_bytes (fin_bl I q dec_byt)
    | _ => exact absurd (show false = true from hs) Bool.false_ne_true
  | _ => cases y <;> exact absurd (show false = true from hs) Bool.false_ne_true
theorem op_ne : OpR X (compareOp .NotEq) rNe := by
  intro pins s σ H x y v u Q I rx ry h
  obtain ⟨hs, q⟩ := h
  cases x with
  | non =>
    cases rx
    cases y with
    | non => cases ry; exact PySem.EqNone.ne_none_none (fin_bl I q (by simp))
    | bl j => cases ry; exact PySem.EqNone.ne_none_bool (fin_bl I q (by simp))
    | int j => obtain ⟨t', rfl⟩ := ry; exact PySem.EqNone.ne_none_int (fin_bl I q (by simp))
    | str j => obtain ⟨t', rfl⟩ := ry; exact PySem.EqNone.ne_none_str (fin_bl I q (by simp))
    | _ => exact absurd (show false = true from hs) Bool.false_ne_true
  | bl i =>
    cases rx
    cases y with
    | non => cases ry; exact PySem.EqNone.ne_bool_none (fin_bl I q (by simp))
    | bl j => cases ry; exact ne_bool (fin_bl I q (congrArg not dec_bl))
    | str j => obtain ⟨t', rfl⟩ := ry; exact PySem.EqMixed.ne_bool_str (fin_bl I q (by simp))
    | _ => exact absurd (show false = true from hs) Bool.false_ne_true
  | int i =>
    obtain ⟨t, rfl⟩ := rx
    cases y with
    | non => cases ry; exact PySem.EqNone.ne_int_none (fin_bl I q (by simp))
    | int j => obtain ⟨t', rfl⟩ := ry; exact ne_int (fin_bl I q (congrArg not dec_int))
    | str j => obtain ⟨t', rfl⟩ := ry; exact PySem.EqMixed.ne_int_str (fin_bl I q (by simp))
    | _ => exact absurd (show false = true from hs) Bool.false_ne_true
  | str i =>
    obtain ⟨t, rfl⟩ := rx
    cases y with
    | non => cases ry; exact PySem.EqNone.ne_str_none (fin_bl I q (by simp))
    | bl j => cases ry; exact PySem.EqMixed.ne_str_bool (fin_bl I q (by simp))
    | int j => obtain ⟨t', rfl⟩ := ry; exact PySem.EqMixed.ne_str_int (fin_bl I q (by simp))
    | str j => obtain ⟨t', rfl⟩ := ry; exact ne_str (fin_bl I q (congrArg not dec_str))
    | _ => exact absurd (show false = true from hs) Bool.false_ne_true
  | byt i =>
    obtain ⟨t, rfl⟩ := rx
    cases y with
    | byt j => obtain ⟨t', rfl⟩ := ry; exact PySem.W.ne_bytes (fin_bl I q (congrArg not dec_byt))
    | _ => exact absurd (show false = true from hs) Bool.false_ne_true
  | _ => cases y <;> exact absurd (show false = true from hs) Bool.false_ne_true

theorem op_lt : OpR X (compareOp .Lt) (rI0 fun i j => .bl (decide (i < j))) := opB0 fun _ _ _ _ _ _ _ q => lt_int q
/-- the one string within the other -/
theorem op_in_str : OpR X (compareOp .In) (fun x y H Q => ∃ i j, x = .str i ∧ y = .str j ∧ Q (.bl (!(Builtin.Str.occurrences j i 0 j.length 1).isEmpty)) H) := by
  intro pins s σ H x y v u Q I rx ry h
  obtain ⟨i, j, rfl, rfl, q⟩ := h
  obtain ⟨t, rfl⟩ := rx
  obtain ⟨t', rfl⟩ := ry
  exact in_str (fin_bl I q rfl)

/-- is, is not of two objects that are tracked lists or instances -/
def isObj : HO → Bool
  | .lst _ => true
  | .ins _ _ _ => true
  | _ => false
/-- two rules for one operation: by cases -/
theorem OpR.or {f : Value → Value → Sem Value} {r r' : R2} (h : OpR X f r) (h' : OpR X f r') : OpR X f (fun x y H Q => r x y H Q ∨ r' x y H Q) := by
  intro pins s σ H x y v u Q I rx ry q
  rcases q with q | q
  · exact h pins s σ H x y v u Q I rx ry q
  · exact h' pins s σ H x y v u Q I rx ry q

theorem nomark (b : Expr) {op : CmpOp} (h : op ≠ .In := by decide) (h2 : op ≠ .NotIn := by decide) : behindInMarks op b = false := by
  have e1 : (op == CmpOp.In) = false := by cases op <;> first | rfl | exact absurd rfl h
  have e2 : (op == CmpOp.NotIn) = false := by cases op <;> first | rfl | exact absurd rfl h2
  cases b <;> simp [behindInMarks, e1, e2]
/-- a comparison as a value; hm: nomark b, or (for in, not in) by with_unfolding_all rfl -/
theorem pe_cmpR {op : CmpOp} {r : R2} (ho : OpR X (compareOp op) r) (ha : PE X a ta) (hb : PE X b tb) (hm : behindInMarks op b = false) : PE X (.Compare a [op] [b] pos) (tOp r ta tb) := by
  intro pins s σ H Q I h
  exact wpAny_Compare1 (binT ha hb I h fun v u s2 x y H2 I2 rx ry q => ho pins s2 σ H2 x y v u Q I2 rx ry q) hm
/-- a reading of a value as a test -/
def tTest (t : TE) : TT := fun σ H Q => t σ H fun x H' => ∃ k, x = .bl k ∧ Q k H'
theorem pt_cmpR {op : CmpOp} {r : R2} (ho : OpR X (compareOp op) r) (ha : PE X a ta) (hb : PE X b tb) (hm : behindInMarks op b = false) : PT X (.Compare a [op] [b] pos) (tTest (tOp r ta tb)) := by
  intro pins s σ H Q I h
  refine wpAny_isTrue_Compare1 (thn (ha pins s σ H _ I h) fun v s1 ⟨x, H1, I1, r1, q1⟩ => thn (hb pins s1 σ H1 _ I1 q1) fun u s2 ⟨y, H2, I2, r2, q2⟩ =>
    thn (ho pins s2 σ H2 x y v u _ I2 r1 r2 q2) fun c s3 ⟨z, H3, I3, r3, k, e, q3⟩ => ?_) hm
  subst e
  cases r3
  exact wpAny_truthy_bool ⟨H3, I3, q3⟩
/-- a op1 b op2 c -/
def tChain (r r' : R2) (ta tb tc : TE) : TE := fun σ H Q => ta σ H fun x H1 => tb σ H1 fun y H2 => r x y H2 fun z H3 => ∃ k, z = .bl k ∧
  (if k = true then tc σ H3 fun w' H4 => r' y w' H4 Q else Q (.bl false) H3)
/-! ### truth -/
/-- a value's truth by the abstract heap -/
def TruV (K : PySem.W.Frag) (x : V) (H : Hp) (k : Bool) : Prop :=
  match x with
  | .non => k = false
  | .bl b => k = b
  | .int i => k = (i != 0)
  | .str y => y.length ≤ sizeLine ∧ k = ((y.length : Int) != 0)
  | .byt y => y.size ≤ sizeLine ∧ k = ((y.size : Int) != 0)
  | .ref p => (∃ xs, SqL K H p xs ∧ k = !xs.isEmpty) ∨ (∃ xs, SqT K H p xs ∧ k = !xs.isEmpty) ∨ ∃ kvs, H p = some (.dK kvs) ∧ k = !kvs.isEmpty
  | _ => False
theorem isEmpty_kv {κ : Type} {kvs : List (κ × V)} {vs : List (κ × Value)} (r : KV kvs vs) : (!vs.isEmpty) = !kvs.isEmpty := by
  cases r <;> rfl
theorem isEmpty_of {xs : List V} {its : List Value} (r : Vals xs its) : (!its.toArray.isEmpty) = !xs.isEmpty := by
  cases r <;> simp
theorem line63 : (sizeLine : Nat) < 2 ^ 63 := by rw [sizeLine_eq]; decide
theorem tru_ok : TruR X (fun x H Q => ∃ k, TruV X.K x H k ∧ Q k H) := by
  intro pins s σ H x v Q I rx h
  obtain ⟨k, e, q⟩ := h
  have hl := line63
  have hs : sizeLine = 16777216 := sizeLine_eq
  cases x with
  | non =>
    cases rx
    have e' : k = false := e
    subst e'
    exact truthy_none ⟨H, I, q⟩
  | bl b =>
    cases rx
    have e' : k = b := e
    subst e'
    exact wpAny_truthy_bool ⟨H, I, q⟩
  | int i =>
    obtain ⟨t, rfl⟩ := rx
    have e' : k = (i != 0) := e
    subst e'
    exact PySem.P.truthy_int ⟨H, I, q⟩
  | str y =>
    obtain ⟨t, rfl⟩ := rx
    obtain ⟨hy, e'⟩ : y.length ≤ sizeLine ∧ k = ((y.length : Int) != 0) := e
    subst e'
    exact PySem.P.truthy_str (by omega) ⟨H, I.tok _, q⟩
  | byt y =>
    obtain ⟨t, rfl⟩ := rx
    obtain ⟨hy, e'⟩ : y.size ≤ sizeLine ∧ k = ((y.size : Int) != 0) := e
    subst e'
    exact PySem.W.truthy_bytes (by omega) ⟨H, I.tok _, q⟩
  | ref p =>
    cases rx
    have e' : (∃ xs, SqL X.K H p xs ∧ k = !xs.isEmpty) ∨ (∃ xs, SqT X.K H p xs ∧ k = !xs.isEmpty) ∨ ∃ kvs, H p = some (.dK kvs) ∧ k = !kvs.isEmpty := e
    rcases e' with ⟨xs, hx, e'⟩ | ⟨xs, hx, e'⟩ | ⟨kvs, hx, e'⟩
    · subst e'
      obtain ⟨its, r, pl, hz⟩ := I.list hx
      have hlen := r.length
      exact wpAny_truthy_list pl.isList (by simp only [List.size_toArray]; omega) ⟨H, I.tok _, by rw [isEmpty_of r]; exact q⟩
    · subst e'
      obtain ⟨its, r, pl, hz⟩ := I.tuple hx
      have hlen := r.length
      exact truthy_tuple pl (by simp only [List.size_toArray]; omega) ⟨H, I.tok _, by rw [isEmpty_of r]; exact q⟩
    · subst e'
      obtain ⟨hz, hS, vs, r, m⟩ : kvs.length ≤ sizeLine ∧ (p == sysModules) = false ∧ ∃ vs, KV kvs vs ∧ s.heap.DictOf (mixKind X.prog X.w) p vs := I.hok p _ hx
      have hlen : kvs.length = vs.length := Paired.length r
      exact wpAny_truthy_dict hS m (by omega) ⟨H, I.tok _, by rw [isEmpty_kv r]; exact q⟩
  | _ => exact (show False from e).elim
/-- any expression whose test is its value's truth (a name, a call, a subscript, a field ..: he by fun _ => rfl) -/
theorem pt_truth (ha : PE X a ta) (he : ∀ whole, isTrue a X.env whole = (do let v ← whole; standAt a.pos; holding [v] (truthy v))) :
    PT X a (fun σ H Q => ta σ H fun x H' => ∃ k, TruV X.K x H' k ∧ Q k H') := by
  intro pins s σ H Q I h
  exact isTrue_plain (thn (ha pins s σ H _ I h) fun v s1 ⟨x, H1, I1, r1, q1⟩ => tru_ok pins s1 σ H1 x v Q I1 r1 q1) (he _)

/-! ### strs and bytes -/
theorem op_add_str : OpR X (binaryOp .Add) (fun x y H Q => ∃ i j, x = .str i ∧ y = .str j ∧ i.length + j.length ≤ sizeLine ∧ Q (.str (i ++ j)) H) := by
  intro pins s σ H x y v u Q I rx ry h
  obtain ⟨i, j, rfl, rfl, hz, q⟩ := h
  obtain ⟨t, rfl⟩ := rx
  obtain ⟨t', rfl⟩ := ry
  exact add_str (fun t' tk => ⟨.str (i ++ j), H, I.tok _, ⟨_, rfl⟩, q⟩) hz
def PlainIxT (b : Expr) : Prop := ∀ o i, subscripted b false o i = operate [o, i] (getItem o i)
/-! ### scalar builtins, by CallR -/
theorem vals1 {x : V} {us : List Value} (r : Vals [x] us) : ∃ u, us = [u] ∧ RelV x u := by
  cases r with
  | cons r1 r2 => cases r2; exact ⟨_, rfl, r1⟩
theorem vals2 {x y : V} {us : List Value} (r : Vals [x, y] us) : ∃ u w', us = [u, w'] ∧ RelV x u ∧ RelV y w' := by
  cases r with
  | cons r1 r2 =>
    cases r2 with
    | cons r3 r4 => cases r4; exact ⟨_, _, rfl, r1, r3⟩
theorem call_str_int : CallR X (.type "str") (fun xs H Q => ∃ i, xs = [.int i] ∧ i.natAbs.log2 < 1920 ∧ Q (.str (toString i)) H) := by
  intro pins s σ H xs us Q I r h
  obtain ⟨i, rfl, hz, q⟩ := h
  obtain ⟨u, rfl, t, rfl⟩ := vals1 r
  exact PySem.P.str_of_int hz ⟨.str _, H, I.tok _, ⟨_, rfl⟩, q⟩
/-- len of a str, a bytes, a list, a tuple -/
def LenV (K : PySem.W.Frag) (x : V) (H : Hp) (n : Nat) : Prop :=
  match x with
  | .str y => y.length ≤ sizeLine ∧ n = y.length
  | .byt y => y.size ≤ sizeLine ∧ n = y.size
  | .ref p => (∃ xs, SqL K H p xs ∧ n = xs.length) ∨ ∃ xs, SqT K H p xs ∧ n = xs.length
  | _ => False
end
end L2

namespace L2
open PySem PySem.Spec PyProof.Rows

/-! ### an instance, its attributes a map -/
structure ObjM (h : Heap) (x dx C : Addr) (mA : Str → Option Value) : Prop where
  obj : h.get? x = some (PySem.W.instObj C dx)
  ns : h.Ns1 dx mA
  ne : dx ≠ x

theorem lookIn_ns {h : Heap} {dx : Addr} {mA : Str → Option Value} (n : h.Ns1 dx mA) : ∃ od, h.get? dx = some od ∧ ∀ name, PySem.W.lookIn name od = some (mA name) := by
  obtain ⟨o, es, ep, ho, hd, hk, _, hm⟩ := n
  refine ⟨o, ho, fun name => ?_⟩
  have e := hm name
  unfold nsFind findBy at e
  rw [← Array.find?_toList] at e
  unfold PySem.W.lookIn
  rw [hd]
  dsimp only
  split
  · rename_i y q
    rw [q] at e
    exact congrArg some e
  · rename_i q
    rw [q] at e
    have a : es.toList.any (·.refKey) = false := by
      rw [List.any_eq_false]
      intro y hy
      obtain ⟨z, t, hkey⟩ := hk y (Array.mem_toList_iff.mp hy)
      simp [DictEntry.refKey, hkey]
    have a' : ¬ es.toList.any (·.refKey) = true := by rw [a]; exact Bool.false_ne_true
    rw [if_neg a']
    exact congrArg some e

section
variable {prog : Program} {w : World} {A : Around} {E : Value → Shared → Prop} {s : Shared} {K : PySem.W.Frag} {x dx C f : Addr} {mA : Str → Option Value} {name : Str} {v : Value}

end

/-! ### the attributes as a list of pairs -/
def putF (f : Str) (v : V) : List (Str × V) → List (Str × V)
  | [] => [(f, v)]
  | (g, x) :: r => if g = f then (g, v) :: r else (g, x) :: putF f v r
theorem lookup_putF (f g : Str) (v : V) : ∀ fs : List (Str × V), (putF f v fs).lookup g = if g = f then some v else fs.lookup g
  | [] => by
    show List.lookup g [(f, v)] = _
    by_cases h : g = f
    · have hb : (g == f) = true := beq_iff_eq.mpr h
      simp only [List.lookup, hb, if_pos h]
    · have hb : (g == f) = false := beq_eq_false_iff_ne.mpr h
      simp only [List.lookup, hb, if_neg h]
  | (k, x) :: r => by
    have ih := lookup_putF f g v r
    rw [show putF f v ((k, x) :: r) = (if k = f then (k, v) :: r else (k, x) :: putF f v r) from rfl]
    by_cases hk : k = f
    · rw [if_pos hk]
      by_cases h : g = k
      · have hb : (g == k) = true := beq_iff_eq.mpr h
        simp only [List.lookup, hb, if_pos (h.trans hk)]
      · have hb : (g == k) = false := beq_eq_false_iff_ne.mpr h
        simp only [List.lookup, hb, if_neg (fun e : g = f => h (e.trans hk.symm))]
    · rw [if_neg hk]
      by_cases h : g = k
      · have hb : (g == k) = true := beq_iff_eq.mpr h
        simp only [List.lookup, hb, if_neg (fun e : g = f => hk (h.symm.trans e))]
      · have hb : (g == k) = false := beq_eq_false_iff_ne.mpr h
        simp only [List.lookup, hb]
        exact ih
theorem RelO.some_of {v : V} {o : Option Value} (r : RelO (some v) o) : ∃ u, o = some u ∧ RelV v u := by
  cases o with
  | none => exact (show False from r).elim
  | some u => exact ⟨u, rfl, r⟩
theorem RelO.none_of {o : Option Value} (r : RelO none o) : o = none := by
  cases o with
  | none => rfl
  | some u => exact (show False from r).elim
theorem handed_of {v : V} {u : Value} (r : RelV v u) : PySem.W.handedIn u = true := by
  cases v with
  | non => cases (show u = Value.none from r); rfl
  | bl b => cases (show u = Value.bool b from r); rfl
  | int i => obtain ⟨t, e⟩ := (show ∃ t, u = Value.int i t from r); cases e; rfl
  | str x => obtain ⟨t, e⟩ := (show ∃ t, u = Value.str x t from r); cases e; rfl
  | byt b => obtain ⟨t, e⟩ := (show ∃ t, u = Value.bytes b t from r); cases e; rfl
  | flt b => obtain ⟨t, e⟩ := (show ∃ t, u = Value.float b t from r); cases e; rfl
  | ref a => cases (show u = Value.ref a from r); rfl
  | ty n => cases (show u = Value.type n from r); rfl

section
variable {P : Program} {w : World} {H H' : Hp} {h h' : Heap} {a C dx : Addr} {fs fs' : List (Str × V)}
end

/-! ### what of the text a class must have -/
structure Cls (K : PySem.W.Frag) (C : Addr) : Prop where
  pg : PySem.W.plainGet K C Str.empty = true
  hd : PySem.W.hasDictIn K C = true
  po : PySem.W.plainOver K C = true
  sa : PySem.W.findIn K (.ref C) "__setattr__" = some (some (.builtin "object.__setattr__"))
theorem Cls.get {K : PySem.W.Frag} {C : Addr} (c : Cls K C) (f : Str) : PySem.W.plainGet K C f = true := c.pg
/-- no class of it has the name -/
def NoAttr (K : PySem.W.Frag) (C : Addr) (f : Str) : Prop := PySem.W.findIn K (.ref C) f = some none
theorem NoAttr.taker {K : PySem.W.Frag} {C : Addr} {f : Str} (n : NoAttr K C f) : PySem.W.takerIn K C f = some none := by
  unfold PySem.W.takerIn
  rw [show PySem.W.findIn K (.ref C) f = some none from n]
  rfl
/-- a constant of the class -/
structure Con (K : PySem.W.Frag) (C : Addr) (f : Str) (v : V) (u : Value) : Prop where
  at_ : PySem.W.findIn K (.ref C) f = some (some u)
  rel : RelV v u
  get : PySem.W.specialIn K u "__get__" = some none
  cp : PySem.W.copiedNames.contains f = false
/-- a method: a plain def of the class or of one above it -/
structure Meth (K : PySem.W.Frag) (C : Addr) (m : Str) (f : Addr) : Prop where
  at_ : PySem.W.findIn K (.ref C) m = some (some (.ref f))
  fn : PySem.W.isFn K (.ref f) = true
  kp : PySem.W.keepIn K (.ref f) = true

section
variable {X : Cx} {pins : List (Addr × Obj)} {σ : St} {H : Hp} {s : Shared} {a C dx : Addr} {fs : List (Str × V)} {f : Str} {v : V} {A : Around} {E : Value → Shared → Prop}

/-- a new instance, tracked, without attributes -/
theorem Inv.made (I : Inv X pins σ H s) : Inv X pins σ (upd (upd H s.heap.objs.size (.own (s.heap.objs.size + 1))) (s.heap.objs.size + 1) (.ins C s.heap.objs.size []))
    { s with heap := (s.heap.push PySem.W.emptyDict).push (PySem.W.instObj C s.heap.objs.size) } := by
  have e1 : (s.heap.push PySem.W.emptyDict).get? s.heap.objs.size = some PySem.W.emptyDict := Heap.get?_push_size s.heap rfl
  have e2 : ((s.heap.push PySem.W.emptyDict).push (PySem.W.instObj C s.heap.objs.size)).get? (s.heap.objs.size + 1) = some (PySem.W.instObj C s.heap.objs.size) := by
    have := Heap.get?_push_size (s.heap.push PySem.W.emptyDict) (o := PySem.W.instObj C s.heap.objs.size) rfl
    rwa [Heap.size_push] at this
  have e3 : (s.heap.push PySem.W.emptyDict).Ns s.heap.objs.size (fun _ => none) := ⟨PySem.W.emptyDict, #[], _, e1, rfl, (fun e he => absurd he (by simp)), fun _ => rfl⟩
  have I1 := I.laid (a := s.heap.objs.size) (o := .own (s.heap.objs.size + 1)) (h' := s.heap.push PySem.W.emptyDict) (t' := s.toks) (fun b u q => Heap.get?_push_of_some _ q) (Nat.le_refl _) ⟨_, e1⟩
  refine I1.laid (a := s.heap.objs.size + 1) (o := .ins C s.heap.objs.size []) (t' := s.toks) (fun b u q => Heap.get?_push_of_some _ q) (Nat.le_of_eq (Heap.size_push _ _)) ?_
  have ne : s.heap.objs.size ≠ s.heap.objs.size + 1 := Nat.ne_of_lt (Nat.lt_succ_self _)
  refine ⟨by rw [upd_ne ne, upd_same], Nat.zero_le _, ne, e2, fun _ => none, (Heap.Ns1.of_empty e3).at fun o q => Heap.get?_push_of_some _ q, fun _ => True.intro, fun y hy => absurd rfl hy⟩

/-- e.f where nothing but the object is asked: through attributeBase (super) and the last hold -/
theorem attr_of {prog : Program} {w : World} {env : Env} {e : Expr} {f : Str} {pos : Pos} {s : Shared} {Q : Value → Shared → Prop} (hb : attributeBase e f env (eval e env) = eval e env)
    (h : wpAny (model prog w) A (eval e env) (fun o s₁ => wpAny (model prog w) A (getAttr o f true) Q E s₁) E s) : wpAny (model prog w) A (eval (.Attribute e f pos) env) Q E s :=
  Attribute_any_ h (by rw [arm_eval_Attribute, hb])
end

/-! ### readings and rules -/
/-- e.f, an attribute of the instance -/
def tFld (K : PySem.W.Frag) (ta : TE) (f : Str) : TE := fun σ H Q => ta σ H fun x H1 => ∃ a C dx fs v, x = .ref a ∧ H1 a = some (.ins C dx fs) ∧ Cls K C ∧ NoAttr K C f ∧ fs.lookup f = some v ∧ Q v H1
/-- e.f, a constant of the class -/
def tCon (K : PySem.W.Frag) (ta : TE) (f : Str) : TE := fun σ H Q => ta σ H fun x H1 => ∃ a C dx fs v u, x = .ref a ∧ H1 a = some (.ins C dx fs) ∧ Cls K C ∧ Con K C f v u ∧ fs.lookup f = none ∧ Q v H1
/-- e.f = value -/
def sFld (K : PySem.W.Frag) (ta tv : TE) (f : Str) : TS := fun D σ H => tv σ H fun y H1 => ta σ H1 fun x H2 => ∃ a C dx fs, x = .ref a ∧ H2 a = some (.ins C dx fs) ∧ Cls K C ∧ NoAttr K C f ∧ fs.length < 1000 ∧
  D.nx σ (upd H2 a (.ins C dx (putF f y fs)))
/-- an augmented operator on two values -/
def InOp (X : Cx) (op : Operator) (rd : V → V → Hp → VK → Prop) : Prop :=
  ∀ (pins : List (Addr × Obj)) (s : Shared) (σ : St) (H : Hp) (x y : V) (u v : Value) (Q : VK), Inv X pins σ H s → RelV x u → RelV y v → rd x y H Q → wpAny (model X.prog X.w) X.A (inplaceOp op u v) (EP X pins σ Q) X.xe s
/-- e.f op= value -/
def sFldAug (K : PySem.W.Frag) (ta tv : TE) (rd : V → V → Hp → VK → Prop) (f : Str) : TS := fun D σ H => ta σ H fun x H1 => ∃ a C dx fs v, x = .ref a ∧ H1 a = some (.ins C dx fs) ∧ Cls K C ∧ NoAttr K C f ∧ fs.lookup f = some v ∧
  tv σ H1 fun y H2 => rd v y H2 fun z H3 => ∃ dx' fs', H3 a = some (.ins C dx' fs') ∧ fs'.length < 1000 ∧ D.nx σ (upd H3 a (.ins C dx' (putF f z fs')))

section
variable {X : Cx} {o e value : Expr} {f : Str} {pos pos' tpos : Pos} {ta tv : TE}
def rAdd : V → V → Hp → VK → Prop := fun x y H Q => ∃ i j, x = .int i ∧ y = .int j ∧ Q (.int (i + j)) H
def rSub : V → V → Hp → VK → Prop := fun x y H Q => ∃ i j, x = .int i ∧ y = .int j ∧ Q (.int (i - j)) H
end

/-! ### isinstance -/
section
variable {X : Cx} {pins : List (Addr × Obj)} {σ : St} {H : Hp} {s : Shared} {A : Around} {E : Value → Shared → Prop} {Q : Value → Shared → Prop} {c : Value} {b : Bool}
/-- the type of a value, as the fragment's deciders take it; for an instance its class -/
inductive TyOf (K : PySem.W.Frag) (H : Hp) : V → Value → Prop where
  | non : TyOf K H .non (.type "NoneType")
  | bl (x : Bool) : TyOf K H (.bl x) (.type "bool")
  | int (i : Int) : TyOf K H (.int i) (.type "int")
  | str (x : Str) : TyOf K H (.str x) (.type "str")
  | flt (x : UInt64) : TyOf K H (.flt x) (.type "float")
  | lst {a : Addr} {xs : List V} (e : H a = some (.lst xs)) : TyOf K H (.ref a) (.type "list")
  | frz {a : Addr} {o : Obj} {xs : List V} (e : H a = some (.frz o (.lst xs))) : TyOf K H (.ref a) (.type "list")
  | tup {a : Addr} {xs : List V} (e : H a = some (.tup xs)) : TyOf K H (.ref a) (.type "tuple")
  | dK {a : Addr} {kvs : List (Key × V)} (e : H a = some (.dK kvs)) : TyOf K H (.ref a) (.type "dict")
  | dT {a : Addr} {kvs : List (List Key × V)} (e : H a = some (.dT kvs)) : TyOf K H (.ref a) (.type "dict")
  | ins {a C dx : Addr} {fs : List (Str × V)} (e : H a = some (.ins C dx fs)) (cl : Cls K C) (ha : PySem.W.findIn K (.ref C) "__class__" = some (some (.builtin "object.__class__")))
      (hn : PySem.W.specialIn K (.builtin "object.__class__") "__get__" = some (some (.builtin "getset_descriptor.__get__"))) (htk : PySem.W.takesIn K (.builtin "object.__class__") = some true)
      (hm : PySem.W.mroIn K C (.type "object") = some true) : TyOf K H (.ref a) (.ref C)
end
end L2

namespace L2
open PySem PySem.Spec PyProof.Rows

/-! ### room -/
structure Room (k : Nat) (A : Around) : Prop where
  hd : A.handled = none
  dp : A.depth + 3 * k + 5 < recursionLimit
  un : A.units + 16 * k + 200 < cLine
theorem Room.mono {j k : Nat} {A : Around} (r : Room k A) (h : j ≤ k) : Room j A := ⟨r.hd, by have := r.dp; omega, by have := r.un; omega⟩
theorem Room.deeper {k : Nat} {A : Around} (r : Room (k + 1) A) (env : Env) : Room k (A.deeper env) :=
  ⟨r.hd, by have := r.dp; show A.depth + 1 + 3 * k + 5 < _; omega, by have := r.un; show A.units + 3 + 16 * k + 200 < _; omega⟩
theorem Room.in1 {k : Nat} {A : Around} (r : Room (k + 1) A) : Room k A.in1 :=
  ⟨r.hd, by have := r.dp; show A.depth + 3 * k + 5 < _; omega, by have := r.un; show A.units + 1 + 16 * k + 200 < _; omega⟩
theorem make_depth {A : Around} {C : Addr} {us : List Value} {kw : List (Str × Value)} : (A.under (.builtin "type.__call__" ⟨.ref C :: us, kw⟩)).depth = A.depth + 1 := by
  first | rfl | simp [Around.under, Code.weight, Code.isCreation, Code.isGuard, Code.isCaller, Code.frames, Code.isFrame, guardIds]
theorem make_units {A : Around} {C : Addr} {us : List Value} {kw : List (Str × Value)} : (A.under (.builtin "type.__call__" ⟨.ref C :: us, kw⟩)).units = A.units + 1 := by
  first | rfl | simp [Around.under, Code.cUnits, Code.frames, Code.isFrame]
theorem Room.make {k : Nat} {A : Around} (r : Room (k + 1) A) (C : Addr) (us : List Value) (kw : List (Str × Value)) : Room k (A.under (.builtin "type.__call__" ⟨.ref C :: us, kw⟩)) :=
  ⟨r.hd, by have := r.dp; rw [make_depth]; omega, by have := r.un; rw [make_units]; omega⟩
theorem Room.depth {k : Nat} {A : Around} (r : Room k A) : A.depth < recursionLimit := by have := r.dp; omega
theorem Room.units {k : Nat} {A : Around} (r : Room k A) : A.units + 64 < cLine := by have := r.un; omega
/-! ### argument lists and displays -/
def tNil : TA := fun _ H Q => Q [] H
def tCons (ta : TE) (tr : TA) : TA := fun σ H Q => ta σ H fun x H1 => tr σ H1 fun xs H2 => Q (x :: xs) H2
section
variable {X : Cx} {e : Expr} {es : List Expr} {te : TE} {t : TA} {pos : Pos}
theorem pa_nil : PA X [] tNil := fun _ _ _ _ H Q I h => Calls.spliced_nil ⟨[], H, I, .nil, h⟩
theorem pa_cons (ha : PE X e te) (hr : PA X es t) (hs : starEach (e :: es) X.env = (false, eval e X.env) :: starEach es X.env := by rfl) : PA X (e :: es) (tCons te t) := by
  intro pos pins s σ H Q I h
  rw [hs]
  show wpAny _ _ (spliced ((false, eval e X.env) :: backTo pos (starEach es X.env))) _ _ s
  refine Calls.spliced_cons (thn (ha pins s σ H _ I h) fun u s1 ⟨x, H1, I1, r1, q1⟩ => ?_)
  exact thn (hr pos pins s1 σ H1 _ I1 q1) fun us s2 ⟨xs, H2, I2, r2, q2⟩ => ⟨x :: xs, H2, I2, .cons r1 r2, q2⟩

/-- a tuple, a list of written items -/
def tTup (t : TA) : TE := fun σ H Q => t σ H fun xs H1 => xs.length ≤ sizeLine ∧ ∀ p, H1 p = none → Q (.ref p) (upd H1 p (.tup xs))
def tLst (t : TA) : TE := fun σ H Q => t σ H fun xs H1 => xs.length ≤ sizeLine ∧ ∀ p, H1 p = none → Q (.ref p) (upd H1 p (.lst xs))
theorem pe_tup {x1} (h : PA X es t) : PE X (.Tuple es x1 pos) (tTup t) := by
  intro pins s σ H Q I hq
  refine wpAny_Tuple_spliced (thn (h pos pins s σ H _ I hq) fun us s1 ⟨xs, H1, I1, r, z, q⟩ => ⟨by rw [← r.length]; exact z, ?_⟩)
  have hf : H1 s1.heap.objs.size = none := I1.hok.fresh (Nat.le_refl _)
  refine ⟨.ref s1.heap.objs.size, upd H1 s1.heap.objs.size (.tup xs), I1.laid (t' := s1.toks) (fun b u e => Heap.get?_push_of_some _ e) (Nat.le_refl _) ?_, rfl, q _ hf⟩
  exact ⟨z, us, r, ⟨_, Heap.get?_push_size _ rfl, rfl, _, rfl⟩⟩
theorem pe_lst (h : PA X es t) : PE X (.List es pos) (tLst t) := by
  intro pins s σ H Q I hq
  refine wpAny_List_spliced (thn (h pos pins s σ H _ I hq) fun us s1 ⟨xs, H1, I1, r, z, q⟩ => ⟨by rw [← r.length]; exact z, ?_⟩)
  have hf : H1 s1.heap.objs.size = none := I1.hok.fresh (Nat.le_refl _)
  refine ⟨.ref s1.heap.objs.size, upd H1 s1.heap.objs.size (.lst xs), I1.laid (t' := s1.toks) (fun b u e => Heap.get?_push_of_some _ e) (Nat.le_refl _) ?_, rfl, q _ hf⟩
  exact ⟨z, us, 0, r, Heap.get?_push_size _ rfl⟩
end

/-! ### what a def promises -/
/-- a def's promise: the bound arguments in the parameters' order, the heap, the wanted end, the wanted exception -/
abbrev Sp := List V → Hp → VK → XK → Prop
/-- how an exception lies behind a call (file 08 gives it): the callers' frames, abstract heap and state ahead of the call, the wish, the exception, the state -/
abbrev CXT := List Env → Hp → Shared → XK → Value → Shared → Prop

/-- the state at a call -/
structure Env0 (P : Program) (w : World) (K : PySem.W.Frag) (mg : Str → Option Value) (base : Heap) (A : Around) (outer : List Env) (s : Shared) (H : Hp) : Prop where
  frames : A.frames = some outer
  mod : Mod K mg base
  bs : ∀ b o, base.get? b = some o → s.heap.get? b = some o ∧ H b = none
  bsz : base.objs.size ≤ s.heap.objs.size
  funs : s.heap.FunFrames base outer
  frf : ∀ b ∈ frs outer, H b = none
  hok : HOk P w H s.heap
  bare : AllBare s.gens
/-- a call's end -/
def CE (outer : List Env) (P : Program) (w : World) (H : Hp) (s : Shared) (Q : VK) (u : Value) (s' : Shared) : Prop :=
  ∃ v H', s'.os = s.os ∧ AllBare s'.gens ∧ Un (frs outer) [] H H' s.heap s'.heap ∧ HOk P w H' s'.heap ∧ RelV v u ∧ Q v H'
def CR (CX : CXT) (outer : List Env) (P : Program) (w : World) (H : Hp) (s : Shared) (Q : VK) (E : XK) (r : Result) (s' : Shared) : Prop :=
  match r with
  | .ok (.ret u) => CE outer P w H s Q u s'
  | .ok _ => False
  | .error e => CX outer H s E e s'
structure FnOk (P : Program) (w : World) (K : PySem.W.Frag) (mg : Str → Option Value) (base : Heap) (CX : CXT) (k : Nat) (f : Addr) (fd : FuncData) (ps : List Str) (sp : Sp) : Prop where
  len : ∀ vs H Q E, sp vs H Q E → vs.length = ps.length
  run : ∀ (A : Around) (outer : List Env) (s : Shared) (H : Hp) (args : Args) (us : List Value) (vs : List V) (Q : VK) (E : XK), Room k A → Env0 P w K mg base A outer s H → BindsTo s fd args (ps.zip us) → Vals vs us → sp vs H Q E →
    codeAny (model P w) A (.call (.ref f) args) (CR CX outer P w H s Q E) s
theorem FnOk.mono {P : Program} {w : World} {K : PySem.W.Frag} {mg : Str → Option Value} {base : Heap} {CX : CXT} {j k : Nat} {f : Addr} {fd : FuncData} {ps : List Str} {sp : Sp} (F : FnOk P w K mg base CX j f fd ps sp) (h : j ≤ k) :
    FnOk P w K mg base CX k f fd ps sp := ⟨F.len, fun A outer s H args us vs Q E hr => F.run A outer s H args us vs Q E (hr.mono h)⟩
theorem Env0.make {P : Program} {w : World} {K : PySem.W.Frag} {mg : Str → Option Value} {base : Heap} {A : Around} {outer : List Env} {s : Shared} {H : Hp} (e : Env0 P w K mg base A outer s H) (C : Addr) (us : List Value) (kw : List (Str × Value)) :
    Env0 P w K mg base (A.under (.builtin "type.__call__" ⟨.ref C :: us, kw⟩)) outer s H := ⟨by first | exact e.frames | (simpa [Around.under, Code.envs, Code.isFrame, pushEnvs] using e.frames), e.mod, e.bs, e.bsz, e.funs, e.frf, e.hok, e.bare⟩
theorem Env0.in1 {P : Program} {w : World} {K : PySem.W.Frag} {mg : Str → Option Value} {base : Heap} {A : Around} {outer : List Env} {s : Shared} {H : Hp} (e : Env0 P w K mg base A outer s H) :
    Env0 P w K mg base A.in1 outer s H := ⟨e.frames, e.mod, e.bs, e.bsz, e.funs, e.frf, e.hok, e.bare⟩

section
variable {X : Cx} {pins : List (Addr × Obj)} {σ : St} {H : Hp} {s s' : Shared}
/-- from a body: what a callee wants -/
theorem Inv.env0 (I : Inv X pins σ H s) : Env0 X.prog X.w X.K X.mg X.base X.A X.stack s H :=
  ⟨I.ok.frames, I.ok.mod, I.bs, Nat.le_trans I.ok.bsz I.sz, I.stack, I.stkFree, I.hok, I.bare⟩
/-- behind a call -/
theorem Inv.after {Q : VK} {u : Value} (I : Inv X pins σ H s) (h : CE X.stack X.prog X.w H s Q u s') : EP X pins σ Q u s' := by
  obtain ⟨v, H', os, bare, un, hok, r, q⟩ := h
  obtain ⟨hh, g, d, t, os'⟩ := s'
  obtain rfl : os' = s.os := os
  exact ⟨v, H', I.call (h' := hh) (g' := g) (d' := d) (t' := t) (ch := []) un hok bare (fun b z => absurd z (by simp)), r, q⟩
end

/-! ### calls -/
/-- f(..): the written arguments, then the defaults dvs; E: what is wanted of an exception -/
def tCall (sp : Sp) (dvs : List V) (E : XK) (t : TA) : TE := fun σ H Q => t σ H fun vs H1 => sp (vs ++ dvs) H1 Q E
/-- o.m(..) of an instance of the class at C -/
def tMeth (C : Addr) (m : Str) (sp : Sp) (dvs : List V) (E : XK) (ta : TE) (t : TA) : TE := fun σ H Q => ta σ H fun x H1 => ∃ a dx fs, x = .ref a ∧ H1 a = some (.ins C dx fs) ∧ fs.lookup m = none ∧
  t σ H1 fun vs H2 => sp (x :: (vs ++ dvs)) H2 Q E
/-- C(..): a new instance and its dict, then __init__ -/
def tMake (C : Addr) (sp : Sp) (dvs : List V) (E : XK) (t : TA) : TE := fun σ H Q => t σ H fun vs H1 => ∀ x dx, H1 x = none → H1 dx = none → dx ≠ x →
  sp (.ref x :: (vs ++ dvs)) (upd (upd H1 dx (.own x)) x (.ins C dx [])) (fun v H2 => v = .non ∧ Q (.ref x) H2) E

/-- how the parameters are bound: us the positional arguments, kw the keywords' values by name, ds the defaults that fill up -/
def Binds (K : PySem.W.Frag) (fd : FuncData) (ps : List Str) (ds : List Value) : Prop :=
  ∀ (s : Shared) (us : List Value), K.In s.heap → (us ++ ds).length = ps.length → BindsTo s fd ⟨us, []⟩ (ps.zip (us ++ ds))
/-- every parameter is given -/
theorem Binds.all {K : PySem.W.Frag} {fd : FuncData} {ps : List Str} (h : ∀ us : List Value, us.length = ps.length → bindArgs fd ⟨us, []⟩ = pure (ps.zip us)) : Binds K fd ps [] := fun s us _ hl => by
  rw [List.append_nil] at hl ⊢
  exact .of_eq (h us hl)

/-- an exception of a callee reaches what this body wants of exceptions -/
def Passes (CX : CXT) (X : Cx) (E : XK) : Prop := ∀ (pins : List (Addr × Obj)) (σ : St) (H : Hp) (s : Shared) (e : Value) (s' : Shared), Inv X pins σ H s → CX X.stack H s E e s' → X.xe e s'

section
variable {X : Cx} {CX : CXT} {k : Nat} {f C : Addr} {fd : FuncData} {ps : List Str} {sp : Sp} {dvs : List V} {ds : List Value} {E : XK} {x m : Str} {p pos apos : Pos} {e o : Expr} {es : List Expr} {ta : TE} {t : TA}

/-- the callee runs -/
theorem run_fn {pins : List (Addr × Obj)} {σ : St} {H : Hp} {s : Shared} {Q : VK} {us : List Value} {vs : List V} (F : FnOk X.prog X.w X.K X.mg X.base CX k f fd ps sp) (hr : Room k X.A) (hb : Binds X.K fd ps ds) (hd : Vals dvs ds) (hx : Passes CX X E)
    (I : Inv X pins σ H s) (r : Vals vs us) (h : sp (vs ++ dvs) H Q E) : wpAny (model X.prog X.w) X.A (call (.ref f) us) (EP X pins σ Q) X.xe s := by
  have r2 : Vals (vs ++ dvs) (us ++ ds) := r.append hd
  have hl : (us ++ ds).length = ps.length := by rw [← r2.length]; exact F.len _ _ _ _ h
  refine wpAny_call (codeAny_mono (F.run X.A X.stack s H ⟨us, []⟩ (us ++ ds) (vs ++ dvs) Q E hr I.env0 (hb s us I.kIn hl) r2 h) fun r s' hq => ?_)
  cases r with
  | error e => exact hx pins σ H s e s' I hq
  | ok fl =>
    cases fl with
    | ret u => exact I.after hq
    | next => exact False.elim hq
    | brk => exact False.elim hq
    | cont => exact False.elim hq

theorem pe_call (F : FnOk X.prog X.w X.K X.mg X.base CX k f fd ps sp) (hr : Room k X.A) (hg : Gl X x) (hm : X.mg x = some (.ref f)) (hk : PySem.W.keepIn X.K (.ref f) = true) (hb : Binds X.K fd ps ds) (hd : Vals dvs ds) (hx : Passes CX X E)
    (ha : PA X (e :: es) t) (hdb : (x == ("__debug__" : Str)) = false := by decide) (he : starEach (e :: es) X.env = (false, eval e X.env) :: starEach es X.env := by rfl) (hpl : (backTo pos (starEach es X.env)).any (·.1) = false := by rfl) :
    PE X (.Call (.Name x p) (e :: es) [] pos) (tCall sp dvs E t) := by
  intro pins s σ H Q I h
  refine wpAny_Call_Name_kw (ld_glob I hg hm ?_ hdb)
  refine PySem.W.callWith_K (h₀ := X.base) I.ok.mod.kin hk (thn (ha pos pins s σ H _ I h) fun us s1 ⟨vs, H1, I1, r, q⟩ => ⟨I1.kIn, ?_⟩) he hpl
  exact run_fn F hr hb hd hx I1 r q
/-- what a class must have to be made -/
structure Mk (K : PySem.W.Frag) (C f : Addr) : Prop where
  makes : PySem.W.makesIn K C = true
  init : PySem.W.findIn K (.ref C) "__init__" = some (some (.ref f))
  fn : PySem.W.isFn K (.ref f) = true
  kp : PySem.W.keepIn K (.ref C) = true

end

/-! ### keywords -/
/-- the values of the keywords, from the left -/
def PK (X : Cx) (kws : List Keyword) (t : TA) : Prop :=
  ∀ (pos : Pos) (pins : List (Addr × Obj)) (s : Shared) (σ : St) (H : Hp) (Q : List V → Hp → Prop), Inv X pins σ H s → t σ H Q → wpAny (model X.prog X.w) X.A (evalAll ((backToKw pos (keywordEach kws X.env)).map (·.2))) (AP X pins σ Q) X.xe s
section
variable {X : Cx} {CX : CXT} {k : Nat} {f C : Addr} {fd : FuncData} {ps ks : List Str} {sp : Sp} {E : XK} {x m : Str} {p pos apos kpos : Pos} {e o : Expr} {es : List Expr} {kws : List Keyword} {te ta : TE} {t tk : TA} {nm : Option Str}
/-- how a call with keywords binds: g puts the positional values us and the keywords' values ws (names ks) in the parameters' order, defaults among them -/
structure KBinds (K : PySem.W.Frag) (fd : FuncData) (ps ks : List Str) (g : List Value → List Value → List Value) (gV : List V → List V → List V) : Prop where
  to : ∀ (s : Shared) (us ws : List Value), K.In s.heap → (g us ws).length = ps.length → BindsTo s fd ⟨us, ks.zip ws⟩ (ps.zip (g us ws))
  rel : ∀ {vs : List V} {us : List Value} {zs : List V} {ws : List Value}, Vals vs us → Vals zs ws → Vals (gV vs zs) (g us ws)
def tCallK (sp : Sp) (gV : List V → List V → List V) (E : XK) (t tk : TA) : TE := fun σ H Q => t σ H fun vs H1 => tk σ H1 fun zs H2 => sp (gV vs zs) H2 Q E
variable {g : List Value → List Value → List Value} {gV : List V → List V → List V}
end

/-! ### a def's body keeps its promise -/
/-- names: the parameters first -/
structure FnScope (N P : List Str) (sc : Scope) : Prop where
  kind : sc.kind = .function
  co : sc.isCoroutine = false
  gen : sc.isGenerator = false
  nd : N.Nodup
  pre : N.take P.length = P
  par : ∀ x ∈ P, sc.names.lookup x = some .local ∨ sc.names.lookup x = some .cell
  nofree : ∀ y ∈ sc.names, y.2 ≠ .free

theorem bindL_out {kindOf : Str → Option NameKind} {x : Str} : ∀ {binds : List (Str × Value)} {m : Str → Option Value}, (∀ v, (x, v) ∉ binds) → bindL kindOf binds m x = m x
  | [], _, _ => rfl
  | (n, v) :: r, m, h => by
    unfold bindL
    rw [bindL_out fun w hw => h w (List.mem_cons_of_mem _ hw)]
    split
    · have : x ≠ n := by rintro rfl; exact h v List.mem_cons_self
      simp [this]
    · rfl
theorem bindC_out {kindOf : Str → Option NameKind} {x : Str} : ∀ {binds : List (Str × Value)} {m : Str → Option Value}, (∀ v, (x, v) ∉ binds) → bindC kindOf binds m x = m x
  | [], _, _ => rfl
  | (n, v) :: r, m, h => by
    unfold bindC
    rw [bindC_out fun w hw => h w (List.mem_cons_of_mem _ hw)]
    split
    · rfl
    · have : x ≠ n := by rintro rfl; exact h v List.mem_cons_self
      simp [this]
theorem bindL_get {kindOf : Str → Option NameKind} {x : Str} {v : Value} : ∀ {P : List Str} {vs : List Value} {i : Nat} {m : Str → Option Value}, P.Nodup → P[i]? = some x → vs[i]? = some v → kindOf x = some .local →
    bindL kindOf (P.zip vs) m x = some v
  | [], _, _, _, _, h, _, _ => by simp at h
  | _ :: _, [], _, _, _, _, h, _ => by simp at h
  | p :: P, w :: vs, 0, m, nd, h1, h2, hk => by
    simp at h1 h2; subst h1; subst h2
    show bindL kindOf ((p, w) :: P.zip vs) m p = _
    unfold bindL
    rw [bindL_out fun v hv => (List.nodup_cons.mp nd).1 (List.of_mem_zip hv).1, if_pos hk]
    simp
  | p :: P, w :: vs, i + 1, m, nd, h1, h2, hk => by
    show bindL kindOf ((p, w) :: P.zip vs) m x = _
    unfold bindL
    exact bindL_get (i := i) (List.nodup_cons.mp nd).2 (by simpa using h1) (by simpa using h2) hk
theorem bindC_get {kindOf : Str → Option NameKind} {x : Str} {v : Value} : ∀ {P : List Str} {vs : List Value} {i : Nat} {m : Str → Option Value}, P.Nodup → P[i]? = some x → vs[i]? = some v → kindOf x ≠ some .local →
    bindC kindOf (P.zip vs) m x = some v
  | [], _, _, _, _, h, _, _ => by simp at h
  | _ :: _, [], _, _, _, _, h, _ => by simp at h
  | p :: P, w :: vs, 0, m, nd, h1, h2, hk => by
    simp at h1 h2; subst h1; subst h2
    show bindC kindOf ((p, w) :: P.zip vs) m p = _
    unfold bindC
    rw [bindC_out fun v hv => (List.nodup_cons.mp nd).1 (List.of_mem_zip hv).1, if_neg hk]
    simp
  | p :: P, w :: vs, i + 1, m, nd, h1, h2, hk => by
    show bindC kindOf ((p, w) :: P.zip vs) m x = _
    unfold bindC
    exact bindC_get (i := i) (List.nodup_cons.mp nd).2 (by simpa using h1) (by simpa using h2) hk

/-- the names' values at the entry -/
def start (N : List Str) (vs : List V) : St := vs.map some ++ List.replicate (N.length - vs.length) none

/-- the context of a def's body, at its entry; an exception leaves the frame, then lies as CX says -/
def cxOf (CX : CXT) (P : Program) (w : World) (K : PySem.W.Frag) (mg : Str → Option Value) (base : Heap) (N : List Str) (qual : Str) (scope : Scope) (f : Addr) (cd : Value) (A : Around) (outer : List Env) (s : Shared) (H : Hp) (E : XK) : Cx where
  prog := P
  w := w
  K := K
  mg := mg
  base := base
  A := A.deeper (envOfC qual scope s.heap.objs.size f cd)
  N := N
  s₀ := s
  H₀ := H
  env := envOfC qual scope s.heap.objs.size f cd
  outer := outer
  stack := envOfC qual scope s.heap.objs.size f cd :: outer
  ex := []
  calm := true
  fn := fun _ => true
  pn := []
  xe := fun e s' => wpAny (model P w) (A.deeper (envOfC qual scope s.heap.objs.size f cd)) (leaving (envOfC qual scope s.heap.objs.size f cd) e) (fun _ s'' => CX outer H s E e s'') (fun e' s'' => CX outer H s E e' s'') s'

theorem cell_has {sc : Scope} {n : Nat} {x : Str} (h : sc.names.lookup x = some .cell) : ∃ c, (cellsFrom n sc.names []).lookup x = some c := by
  have q := PySem.W.cellsFrom_some sc.names n [] (.inl h)
  exact Option.isSome_iff_exists.mp q

theorem inv_start {CX : CXT} {P : Program} {w : World} {K : PySem.W.Frag} {mg : Str → Option Value} {base : Heap} {N ps : List Str} {qual : Str} {scope : Scope} {f : Addr} {cd : Value} {A : Around} {outer : List Env} {s s1 : Shared} {H : Hp} {E : XK} {us : List Value} {vs : List V}
    (S : FnScope N ps scope) (hd : A.handled = none) (e0 : Env0 P w K mg base A outer s H) (hl : vs.length = ps.length) (r : Vals vs us)
    (x : InCallC s s.heap.objs.size (bindL (envOfC qual scope s.heap.objs.size f cd).kindOf (ps.zip us) fun _ => none) (cellsFrom (s.heap.objs.size + 1) scope.names []) (bindC (envOfC qual scope s.heap.objs.size f cd).kindOf (ps.zip us) fun _ => none) s1) :
    Inv (cxOf CX P w K mg base N qual scope f cd A outer s H E) [] (start N vs) H s1 := by
  have hpl : ps.length ≤ N.length := by have := congrArg List.length S.pre; rw [List.length_take] at this; omega
  obtain ⟨h1, tk, rfl, hk⟩ := x.done
  have noA : ∀ b : Addr, b ∉ (cxOf CX P w K mg base N qual scope f cd A outer s H E).ex := fun b z => absurd (show b ∈ ([] : List Addr) from z) (by simp)
  refine ⟨⟨e0.mod, S.kind, rfl, rfl, Nat.le_refl _, fun y z c h1 h2 => ?_, fun y hy => ?_, fun y c _ h => ?_, fun _ => hd, Around.frames_deeper e0.frames, .inr ⟨rfl, rfl⟩, fun b z => absurd z (noA b), e0.bs, e0.bsz, fun b _ _ => noA b, fun b z => absurd z (noA b), e0.funs, e0.frf⟩,
    rfl, e0.bare, Un.kept hk, ⟨_, x.toInCall.ns, fun i y v h1 h2 h3 => ?_⟩, fun y c h => ⟨_, x.cell y c h⟩, e0.hok.fresh (Nat.le_refl _), fun y c h => ?_, fun p hp => absurd (show p ∈ ([] : List (Addr × Obj)) from hp) (by simp), e0.hok.kept hk, ?_⟩
  · exact name_of_addr x.apart (PySem.mem_of_lookup h1) (PySem.mem_of_lookup h2)
  · have hy : scope.names.lookup y = some .cell ∨ scope.names.lookup y = some .free := hy
    rcases hy with hy | hy
    · exact cell_has hy
    · exact absurd rfl (S.nofree _ (PySem.mem_of_lookup hy))
  · exact Nat.le_of_lt (x.above y c (PySem.mem_of_lookup h))
  · have hi : i < vs.length := by
      unfold start at h2
      by_cases hi : i < vs.length
      · exact hi
      · rw [List.getElem?_append_right (by simpa using hi)] at h2
        rw [List.getElem?_replicate] at h2
        split at h2 <;> cases h2
    have ha : vs[i]? = some v := by
      unfold start at h2
      rw [List.getElem?_append_left (by simpa using hi), List.getElem?_map] at h2
      cases e : vs[i]? with
      | none => rw [e] at h2; cases h2
      | some a => rw [e] at h2; cases h2; rfl
    obtain ⟨u, hu, rv⟩ := r.get ha
    have hp : ps[i]? = some y := by
      rw [← S.pre, List.getElem?_take_of_lt (by omega)]; exact h1
    have ndP : ps.Nodup := by rw [← S.pre]; exact S.nd.sublist (List.take_sublist _ _)
    refine ⟨u, rv, ?_⟩
    rcases S.par y (List.mem_of_getElem? hp) with k | k
    · exact .inl ⟨k, bindL_get ndP hp hu k⟩
    · obtain ⟨c, e⟩ := cell_has (n := s.heap.objs.size + 1) k
      refine .inr ⟨.inl k, c, e, ?_⟩
      have q := x.cell y c e
      rw [bindC_get ndP hp hu (by show scope.names.lookup y ≠ _; rw [k]; decide)] at q
      exact q
  · exact e0.hok.fresh (Nat.le_of_lt (x.above y c (PySem.mem_of_lookup h)))
  · unfold start
    show _ = N.length
    rw [List.length_append, List.length_map, List.length_replicate]
    omega

/-- THE RULE: a def (or a method) of the text, by its body. The body's reading t is chosen for each entry; it is run at the parameters' values -/
theorem fn_of {CX : CXT} {P : Program} {w : World} {K : PySem.W.Frag} {mg : Str → Option Value} {base : Heap} {k : Nat} {f : Addr} {name qual : Str} {params : Arguments} {body : List Stmt} {scope : Scope} {dV kV doc pm cdv ct oc : Value} {an od : Option Addr}
    {osl : Array (Option Value)} {N ps : List Str} {sp : Sp} (lk : K.lookup f = some ⟨oc, od, .func (PySem.W.fnOf name qual params body scope dV kV doc pm an cdv ct), osl⟩) (hcd : PySem.W.codeIn K cdv qual = true) (S : FnScope N ps scope)
    (len : ∀ vs H Q E, sp vs H Q E → vs.length = ps.length)
    (hbody : ∀ (A : Around) (outer : List Env) (s : Shared) (H : Hp) (vs : List V) (Q : VK) (E : XK), Room k (A.deeper (envOfC qual scope s.heap.objs.size f cdv)) → sp vs H Q E →
      ∃ t, PSs (cxOf CX P w K mg base N qual scope f cdv A outer s H E) body t ∧ t { nx := fun _ H' => Q .non H', rt := Q } (start N vs) H) :
    FnOk P w K mg base CX (k + 1) f (PySem.W.fnOf name qual params body scope dV kV doc pm an cdv ct) ps sp := by
  refine ⟨len, fun A outer s H args us vs Q E hr e0 hb r hsp => ?_⟩
  have hl := len _ _ _ _ hsp
  have KX : K.In s.heap := e0.mod.kin.keeps fun b o e => (e0.bs b o e).1
  have lim : s.heap.NoLimit := e0.mod.nolimit.keeps fun b o e => (e0.bs b o e).1
  have hkind : ∀ y ∈ ps.zip us, scope.names.lookup y.1 = some .local ∨ (scope.names.lookup y.1 = some .cell ∧ ((cellsFrom (s.heap.objs.size + 1) scope.names []).lookup y.1).isSome = true) := fun ⟨n, v⟩ hy => by
    rcases S.par n (List.of_mem_zip hy).1 with q | q
    · exact .inl q
    · exact .inr ⟨q, PySem.W.cellsFrom_some _ _ _ (.inl q)⟩
  refine codeAny_call_function hr.depth (KX _ _ lk) rfl S.co S.gen rfl (PySem.W.codeRec_of KX hcd) (hb _ _ _ _ ?_)
  refine wpAny_newFunctionEnv_cells S.kind hkind fun env he s1 x => ?_
  subst he
  refine ⟨lim.keeps x.toInCall.keep, codeAny_func ?_⟩
  obtain ⟨t, ht, hq⟩ := hbody A outer s H vs Q E (hr.deeper _) hsp
  have I : Inv (cxOf CX P w K mg base N qual scope f cdv A outer s H E) [] (start N vs) H s1 := inv_start S hr.hd e0 hl r x
  refine wpAny_mono (ht [] s1 (start N vs) H _ I hq) (fun fl s' hs => ?_) fun e s' hs => hs
  have fin : ∀ {σ' : St} {H' : Hp} {v : V} {u : Value}, Inv (cxOf CX P w K mg base N qual scope f cdv A outer s H E) [] σ' H' s' → RelV v u → Q v H' → CE outer P w H s Q u s' :=
    fun {σ' H' v u} J rv q => ⟨v, H', J.os, J.bare, J.base, J.hok, rv, q⟩
  cases fl with
  | ret u =>
    obtain ⟨v, σ', H', J, rv, q⟩ := hs
    exact fin J rv q
  | next =>
    obtain ⟨σ', H', J, q⟩ := hs
    exact fin (v := V.non) (u := Value.none) J rfl q
  | brk =>
    obtain ⟨_, _, _, q⟩ := hs
    exact False.elim q
  | cont =>
    obtain ⟨_, _, _, q⟩ := hs
    exact False.elim q
end L2

namespace L2
open PySem PySem.Spec PyProof.Rows
section
variable {X : Cx} {x : Str} {p pos : Pos} {e : Expr} {es : List Expr} {t : TA} {id T : String} {r : List V → Hp → VK → Prop}

def tCB (r : List V → Hp → VK → Prop) (t : TA) : TE := fun σ H Q => t σ H fun vs H1 => r vs H1 Q
/-- f(e, ..), f a built-in function -/
theorem pe_callB (hc : CallR X (.builtin id) r) (hg : Gl X x) (hm : X.mg x = none) (hv : bootBuiltins x = some (.builtin id)) (ha : PA X (e :: es) t) (hn : x ≠ "__name__" := by decide) (hdb : (x == ("__debug__" : Str)) = false := by decide)
    (he : starEach (e :: es) X.env = (false, eval e X.env) :: starEach es X.env := by rfl) (hpl : (backTo pos (starEach es X.env)).any (·.1) = false := by rfl) : PE X (.Call (.Name x p) (e :: es) [] pos) (tCB r t) := by
  intro pins s σ H Q I h
  refine wpAny_Call_Name_kw (ld_blt I hg hm hv ?_ hn hdb)
  exact PyProof.Rows.callWith_builtin1 (thn (ha pos pins s σ H _ I h) fun us s1 ⟨vs, H1, I1, r1, q1⟩ => hc pins s1 σ H1 vs us Q I1 r1 q1) he hpl
/-- T(e, ..), T a built-in type -/
theorem pe_callTy (hc : CallR X (.type T) r) (hg : Gl X x) (hm : X.mg x = none) (hv : bootBuiltins x = some (.type T)) (ha : PA X (e :: es) t) (hn : x ≠ "__name__" := by decide) (hdb : (x == ("__debug__" : Str)) = false := by decide)
    (he : starEach (e :: es) X.env = (false, eval e X.env) :: starEach es X.env := by rfl) (hpl : (backTo pos (starEach es X.env)).any (·.1) = false := by rfl) : PE X (.Call (.Name x p) (e :: es) [] pos) (tCB r t) := by
  intro pins s σ H Q I h
  refine wpAny_Call_Name_kw (ld_blt I hg hm hv ?_ hn hdb)
  exact PyProof.Rows.callWith_type1 (thn (ha pos pins s σ H _ I h) fun us s1 ⟨vs, H1, I1, r1, q1⟩ => hc pins s1 σ H1 vs us Q I1 r1 q1) he hpl
end
end L2

namespace HT
open PySem PyProof.Rows

/-- t < u of tuples of ints -/
def lexLt : List Int → List Int → Bool
  | [], [] => false
  | [], _ :: _ => true
  | _ :: _, [] => false
  | x :: xs, y :: ys => if x = y then lexLt xs ys else decide (x < y)
section
open PySem.SeqAt
open PySem.AutoSeq1 (wpAny_loadPart')
open PySem.MeetsSeq PySem.MeetsSeq2 PySem.MeetsSeq3

end

section
variable {prog : Program} {w : World} {A : Around} {E : Value → Shared → Prop} {s : Shared}

/-! ### t[a:b], not the whole -/
/-- a slice's bound as a place among n (d where it is left out) -/
def sIx (n d : Nat) : Option Int → Nat
  | none => d
  | some v => if v < 0 then (v + (n : Int)).toNat else min v.toNat n
end
end HT

namespace L2
open PySem PySem.Spec PyProof.Rows

/-! ### the parts of a slice -/
abbrev TO := St → Hp → (Option Int → Hp → Prop) → Prop
/-- a slice's part (left out, or an int) -/
def PO (X : Cx) (e : Option Expr) (t : TO) : Prop :=
  ∀ (pins : List (Addr × Obj)) (s : Shared) (σ : St) (H : Hp) (Q : Option Int → Hp → Prop), Inv X pins σ H s → t σ H Q →
    wpAny (model X.prog X.w) X.A (evalPart e X.env) (fun u s' => ∃ o H', Inv X pins σ H' s' ∧ IsPart u o ∧ Q o H') X.xe s
def tNoPart : TO := fun _ H Q => Q none H
def tPart (t : TE) : TO := fun σ H Q => t σ H fun x H1 => ∃ i, x = .int i ∧ Q (some i) H1

section
variable {X : Cx} {e : Expr} {te : TE} {lo hi : Option Expr} {tl th : TO} {pos p2 : Pos}

/-- what a slice of a value is, by values: the slice object stands at sl -/
def SlR (X : Cx) (r : V → Option Int → Option Int → Hp → VK → Prop) : Prop :=
  ∀ (pins : List (Addr × Obj)) (s : Shared) (σ : St) (H : Hp) (x : V) (v vl vu : Value) (lo hi : Option Int) (sl : Addr) (Q : VK), Inv X pins σ H s → RelV x v → s.heap.IsSliceOf sl vl vu .none → IsPart vl lo → IsPart vu hi → r x lo hi H Q →
    ∃ T id, typeLookup (.type T) "__getitem__" = pure (some (.builtin id)) ∧ s.TypeIs v T ∧ wpAny (model X.prog X.w) X.A (getItem v (.ref sl)) (EP X pins σ Q) X.xe s
theorem SlR.or {r r' : V → Option Int → Option Int → Hp → VK → Prop} (h : SlR X r) (h' : SlR X r') : SlR X (fun x lo hi H Q => r x lo hi H Q ∨ r' x lo hi H Q) := by
  intro pins s σ H x v vl vu lo hi sl Q I rx hs pl pu q
  rcases q with q | q
  · exact h pins s σ H x v vl vu lo hi sl Q I rx hs pl pu q
  · exact h' pins s σ H x v vl vu lo hi sl Q I rx hs pl pu q
def tSl (r : V → Option Int → Option Int → Hp → VK → Prop) (te : TE) (tl th : TO) : TE := fun σ H Q => te σ H fun x H1 => tl σ H1 fun l H2 => th σ H2 fun u H3 => r x l u H3 Q
/-- the items of xs[lo:hi] -/
def cutV (xs : List V) (lo hi : Option Int) : List V := (xs.drop (HT.sIx xs.length 0 lo)).take (HT.sIx xs.length xs.length hi - HT.sIx xs.length 0 lo)
/-- t[lo:hi], not the whole of it (the whole would be t itself) -/
def rSlT (K : PySem.W.Frag) : V → Option Int → Option Int → Hp → VK → Prop := fun x lo hi H Q => ∃ a xs, x = .ref a ∧ SqT K H a xs ∧
  ¬ (HT.sIx xs.length 0 lo = 0 ∧ HT.sIx xs.length xs.length hi = xs.length) ∧ ∀ p, H p = none → Q (.ref p) (upd H p (.tup (cutV xs lo hi)))
/-! ### t < u, t + u -/
def rLtT (K : PySem.W.Frag) : R2 := fun x y H Q => ∃ a b ns ms, x = .ref a ∧ y = .ref b ∧ SqT K H a (ns.map V.int) ∧ SqT K H b (ms.map V.int) ∧ Q (.bl (HT.lexLt ns ms)) H
/-- t + u, t not empty: u empty gives t itself -/
def rCatT (K : PySem.W.Frag) : R2 := fun x y H Q => ∃ a b xs ys, x = .ref a ∧ y = .ref b ∧ SqT K H a xs ∧ SqT K H b ys ∧ xs ≠ [] ∧ xs.length + ys.length ≤ sizeLine ∧
  (ys = [] → Q (.ref a) H) ∧ (ys ≠ [] → ∀ p, H p = none → Q (.ref p) (upd H p (.tup (xs ++ ys))))
end
end L2

namespace L2
open PySem PySem.Spec PyProof.Rows

/-! ### places -/
/-- the place that an index of any sign means -/
def ixN (n : Nat) (i : Int) : Option Nat := if 0 ≤ i then (if i < n then some i.toNat else none) else if -(n : Int) ≤ i then some (i + n).toNat else none
def atI {α : Type} (xs : List α) (i : Int) : Option α := (ixN xs.length i).bind fun j => xs[j]?
theorem ixN_seq {n : Nat} {i : Int} {j : Nat} (h : ixN n i = some j) : seqIndex? i n = some j ∧ j < n ∧ -(n : Int) ≤ i ∧ i < n := by
  unfold ixN at h
  by_cases h0 : 0 ≤ i
  · rw [if_pos h0] at h
    by_cases h1 : i < n
    · rw [if_pos h1] at h
      have e : i.toNat = j := Option.some.inj h
      exact ⟨by rw [seqIndex_of h0 h1, e], by omega, by omega, h1⟩
    · rw [if_neg h1] at h; cases h
  · rw [if_neg h0] at h
    by_cases h1 : -(n : Int) ≤ i
    · rw [if_pos h1] at h
      have e : (i + n).toNat = j := Option.some.inj h
      exact ⟨by rw [seqIndex_neg (by omega) h1, e], by omega, h1, by omega⟩
    · rw [if_neg h1] at h; cases h
theorem atI_get {α : Type} {xs : List α} {i : Int} {v : α} (h : atI xs i = some v) : ∃ j, seqIndex? i xs.length = some j ∧ xs[j]? = some v ∧ j < xs.length ∧ -(xs.length : Int) ≤ i ∧ i < xs.length := by
  unfold atI at h
  cases e : ixN xs.length i with
  | none => rw [e] at h; cases h
  | some j =>
    rw [e] at h
    obtain ⟨h1, h2, h3, h4⟩ := ixN_seq e
    exact ⟨j, h1, h, h2, h3, h4⟩
theorem atI_nat {α : Type} {xs : List α} {j : Nat} {v : α} (h : xs[j]? = some v) : atI xs (j : Int) = some v := by
  have hj : j < xs.length := (List.getElem?_eq_some_iff.mp h).1
  have e : ixN xs.length (j : Int) = some j := by
    unfold ixN
    rw [if_pos (by omega), if_pos (by omega)]; simp
  unfold atI; rw [e]; exact h
/-! ### what may be subscripted -/
/-- what stands as an index of a plain subscript -/
def PlainIx (b : Expr) : Prop := ∀ o i, subscripted b false o i = operate [o, i] (getItem o i)
/-- a subscript by values -/
def IxR (X : Cx) (r : R2) : Prop :=
  ∀ (value slice : Expr) (pins : List (Addr × Obj)) (s : Shared) (σ : St) (H : Hp) (x y : V) (v u : Value) (Q : VK), Inv X pins σ H s → RelV x v → RelV y u → r x y H Q →
    subscripted slice false v u = operate [v, u] (getItem v u) → wpAny (model X.prog X.w) X.A (subscriptTail value slice v u) (EP X pins σ Q) X.xe s
/-- a call of a builtin's method by values: the receiver, the arguments -/
def MtR (X : Cx) (id : String) (r : V → List V → Hp → VK → Prop) : Prop :=
  ∀ (pins : List (Addr × Obj)) (s : Shared) (σ : St) (H : Hp) (x : V) (xs : List V) (v : Value) (us : List Value) (Q : VK), Inv X pins σ H s → RelV x v → Vals xs us → r x xs H Q →
    wpAny (model X.prog X.w) X.A (call (.builtin id) (v :: us)) (EP X pins σ Q) X.xe s
section
variable {X : Cx} {a b : Expr} {ta tb : TE} {pos : Pos}
theorem IxR.or {r r' : R2} (h : IxR X r) (h' : IxR X r') : IxR X (fun x y H Q => r x y H Q ∨ r' x y H Q) := by
  intro value slice pins s σ H x y v u Q I rx ry q hs
  rcases q with q | q
  · exact h value slice pins s σ H x y v u Q I rx ry q hs
  · exact h' value slice pins s σ H x y v u Q I rx ry q hs
theorem MtR.or {id : String} {r r' : V → List V → Hp → VK → Prop} (h : MtR X id r) (h' : MtR X id r') : MtR X id (fun x xs H Q => r x xs H Q ∨ r' x xs H Q) := by
  intro pins s σ H x xs v us Q I rx rs q
  rcases q with q | q
  · exact h pins s σ H x xs v us Q I rx rs q
  · exact h' pins s σ H x xs v us Q I rx rs q
/-- a[b] -/
theorem pe_ix {r : R2} (hr : IxR X r) (ha : PE X a ta) (hb : PE X b tb) (hs : PlainIx b) : PE X (.Subscript a b pos) (tOp r ta tb) := by
  intro pins s σ H Q I h
  exact Subscript_ (binT ha hb I h fun v u s2 x y H2 I2 rx ry q => hr a b pins s2 σ H2 x y v u Q I2 rx ry q (hs _ _))

def rIxL (K : PySem.W.Frag) : R2 := fun x y H Q => ∃ p xs i v, x = .ref p ∧ y = .int i ∧ SqL K H p xs ∧ atI xs i = some v ∧ Q v H
def rIxT (K : PySem.W.Frag) : R2 := fun x y H Q => ∃ p xs i v, x = .ref p ∧ y = .int i ∧ SqT K H p xs ∧ atI xs i = some v ∧ Q v H
def rIxS : R2 := fun x y H Q => ∃ z i c, x = .str z ∧ y = .int i ∧ z.length ≤ sizeLine ∧ atI z.cps.toList i = some c ∧ Q (.str ⟨#[c]⟩) H
theorem ix_list : IxR X (rIxL X.K) := by
  intro value slice pins s σ H x y v u Q I rx ry h hs
  obtain ⟨p, xs, i, z, rfl, rfl, hq, he, q⟩ := h
  cases rx
  obtain ⟨t, rfl⟩ := ry
  obtain ⟨its, r, pl, hz⟩ := I.list hq
  obtain ⟨j, h1, h2, h3, h4, h5⟩ := atI_get he
  obtain ⟨w, ew, rw'⟩ := r.get h2
  have hl := r.length
  have hn := line63
  have fin : EP X pins σ Q w s := ⟨z, H, I, rw', q⟩
  by_cases h0 : 0 ≤ i
  · have hj : i.toNat = j := by
      rw [seqIndex_of h0 h5] at h1
      exact Option.some.inj h1
    exact item_listR pl.isList h0 (by omega) (by rw [hj]; simpa using ew) fin hs
  · have hj : (i + (its.toArray.size : Int)).toNat = j := by
      rw [seqIndex_neg (by omega) h4] at h1
      rw [List.size_toArray, ← hl]
      exact Option.some.inj h1
    exact subscriptTail_builtinR (x := w) pl.isList.typeIs slot_list_getitem.lookup
      (wpAny_getItem_list_neg (Q := fun r s' => r = w ∧ EP X pins σ Q r s') pl.isList (by omega) (by rw [List.size_toArray] <;> omega) (by omega) (by rw [hj]; simpa using ew) ⟨rfl, fin⟩) hs
theorem ix_tup : IxR X (rIxT X.K) := by
  intro value slice pins s σ H x y v u Q I rx ry h hs
  obtain ⟨p, xs, i, z, rfl, rfl, hq, he, q⟩ := h
  cases rx
  obtain ⟨t, rfl⟩ := ry
  obtain ⟨its, r, pl, hz⟩ := I.tuple hq
  obtain ⟨j, h1, h2, h3, h4, h5⟩ := atI_get he
  obtain ⟨w, ew, rw'⟩ := r.get h2
  have hl := r.length
  have hn := line63
  have fin : EP X pins σ Q w s := ⟨z, H, I, rw', q⟩
  exact subscriptTail_builtinR (x := w) pl.typeIs slot_tuple_getitem.lookup
    (getItem_tuple (j := j) (Q := fun r s' => r = w ∧ EP X pins σ Q r s') pl (by omega) (by omega) (by rw [List.size_toArray, ← hl]; exact h1) (by simpa using ew) ⟨rfl, fin⟩) hs
theorem ix_str : IxR X rIxS := by
  intro value slice pins s σ H x y v u Q I rx ry h hs
  obtain ⟨z, i, c, rfl, rfl, hz, he, q⟩ := h
  obtain ⟨t, rfl⟩ := rx
  obtain ⟨t', rfl⟩ := ry
  obtain ⟨j, h1, h2, h3, h4, h5⟩ := atI_get he
  have hl : z.cps.toList.length = z.length := by simp [Str.length]
  rw [hl] at h1 h4 h5
  have hn := line63
  exact tail_any (typeIs_str s z t) slot_str_getitem.lookup (getItem_str (c := c) (by
    have e1 : decide (i < -(2 ^ 63 : Int)) = false := decide_eq_false (by omega)
    have e2 : decide (i ≥ 2 ^ 63) = false := decide_eq_false (by omega)
    rw [e1, e2, Bool.or_false]) (by rw [h1]; simpa using h2) ⟨.str ⟨#[c]⟩, H, I.tok _, ⟨_, rfl⟩, q⟩) hs
/-- list, tuple or str -/
def rIx (K : PySem.W.Frag) : R2 := fun x y H Q => rIxL K x y H Q ∨ rIxT K x y H Q ∨ rIxS x y H Q
/-! ### xs[i] = v, any sign -/
theorem Inv.lst {pins : List (Addr × Obj)} {σ : St} {H : Hp} {s : Shared} {p : Addr} {xs : List V} (I : Inv X pins σ H s) (h : H p = some (.lst xs)) :
    ∃ (its : List Value) (n : Nat), Vals xs its ∧ s.heap.get? p = some { cls := .type "list", data := .seq its.toArray n } ∧ xs.length ≤ sizeLine := by
  obtain ⟨z, its, n, r, e⟩ := I.hok p _ h
  exact ⟨its, n, r, e, z⟩
def rSetL : V → V → V → Hp → (Hp → Prop) → Prop := fun o i v H Q => ∃ p xs k j, o = .ref p ∧ i = .int k ∧ H p = some (.lst xs) ∧ ixN xs.length k = some j ∧ Q (upd H p (.lst (xs.set j v)))
/-! ### slices -/
/-- xs[lo:hi] of a list: a new list -/
def rSlL (K : PySem.W.Frag) : V → Option Int → Option Int → Hp → VK → Prop := fun x lo hi H Q => ∃ a xs, x = .ref a ∧ SqL K H a xs ∧ ∀ p, H p = none → Q (.ref p) (upd H p (.lst (cutV xs lo hi)))
/-! ### in, not in: flat items -/
def flatV : V → Bool
  | .non => true
  | .bl _ => true
  | .int _ => true
  | .str _ => true
  | _ => false
/-- == of flat values -/
def eqV : V → V → Bool
  | .non, .non => true
  | .bl a, .bl b => a == b
  | .bl a, .int b => (if a then 1 else 0) == b
  | .int a, .bl b => a == (if b then 1 else 0)
  | .int a, .int b => a == b
  | .str a, .str b => a == b
  | _, _ => false
theorem eqAt_V {A : Around} {s : Shared} {y x : V} {u v : Value} (ry : RelV y u) (rx : RelV x v) (fy : flatV y = true) (fx : flatV x = true) : SeqAt.EqAt A s u v (eqV y x) := by
  cases y with
  | non =>
    cases ry
    cases x with
    | non => cases rx; exact SeqAt.EqAt.same _
    | bl b => cases rx; exact SeqAt.EqAt.none_bool b
    | int b => obtain ⟨t, rfl⟩ := rx; exact SeqAt.EqAt.none_int b t
    | str b => obtain ⟨t, rfl⟩ := rx; exact SeqAt.EqAt.none_str b t
    | _ => exact absurd (show false = true from fx) Bool.false_ne_true
  | bl a =>
    cases ry
    cases x with
    | non => cases rx; exact SeqAt.EqAt.bool_none a
    | bl b => cases rx; exact SeqAt.EqAt.bool_bool a b
    | int b => obtain ⟨t, rfl⟩ := rx; exact SeqAt.EqAt.bool_int a b t
    | str b => obtain ⟨t, rfl⟩ := rx; exact SeqAt.EqAt.bool_str a b t
    | _ => exact absurd (show false = true from fx) Bool.false_ne_true
  | int a =>
    obtain ⟨t', rfl⟩ := ry
    cases x with
    | non => cases rx; exact SeqAt.EqAt.int_none a t'
    | bl b => cases rx; exact SeqAt.EqAt.int_bool a t' b
    | int b => obtain ⟨t, rfl⟩ := rx; exact SeqAt.EqAt.int_int a t' b t
    | str b => obtain ⟨t, rfl⟩ := rx; exact SeqAt.EqAt.int_str a t' b t
    | _ => exact absurd (show false = true from fx) Bool.false_ne_true
  | str a =>
    obtain ⟨t', rfl⟩ := ry
    cases x with
    | non => cases rx; exact SeqAt.EqAt.str_none a t'
    | bl b => cases rx; exact SeqAt.EqAt.str_bool a t' b
    | int b => obtain ⟨t, rfl⟩ := rx; exact SeqAt.EqAt.str_int a t' b t
    | str b => obtain ⟨t, rfl⟩ := rx; exact SeqAt.EqAt.str_str a t' b t
    | _ => exact absurd (show false = true from fx) Bool.false_ne_true
  | _ => exact absurd (show false = true from fy) Bool.false_ne_true
/-- the items' answers, read off the values (a value's own answer does not lean on its token) -/
def eqU (x : V) (u : Value) : Bool := match u with
  | .none => eqV .non x
  | .bool b => eqV (.bl b) x
  | .int i _ => eqV (.int i) x
  | .str z _ => eqV (.str z) x
  | _ => false
theorem eqU_of {x y : V} {u : Value} (r : RelV y u) (f : flatV y = true) : eqU x u = eqV y x := by
  cases y with
  | non => cases r; rfl
  | bl b => cases r; rfl
  | int i => obtain ⟨t, rfl⟩ := r; rfl
  | str z => obtain ⟨t, rfl⟩ := r; rfl
  | _ => exact absurd (show false = true from f) Bool.false_ne_true
theorem any_eqU {x : V} : ∀ {xs : List V} {us : List Value}, Vals xs us → xs.all flatV = true → us.any (eqU x) = xs.any fun y => eqV y x
  | _, _, .nil, _ => rfl
  | y :: xs, u :: us, .cons r t, f => by
    rw [List.all_cons, Bool.and_eq_true] at f
    rw [List.any_cons, List.any_cons, eqU_of r f.1, any_eqU t f.2]
theorem mem_eqAt {A : Around} {s : Shared} {x : V} {v : Value} (rx : RelV x v) (fx : flatV x = true) : ∀ {xs : List V} {us : List Value}, Vals xs us → xs.all flatV = true → ∀ u ∈ us, SeqAt.EqAt A s u v (eqU x u)
  | _, _, .nil, _ => fun u hu => by cases hu
  | y :: xs, u :: us, .cons r t, f => fun u' hu => by
    rw [List.all_cons, Bool.and_eq_true] at f
    rcases List.mem_cons.mp hu with rfl | hu
    · rw [eqU_of r f.1]; exact eqAt_V r rx f.1 fx
    · exact mem_eqAt rx fx t f.2 u' hu
def inV (x : V) (xs : List V) : Bool := xs.any fun y => eqV y x
/-- x in a list or tuple of flat items -/
def rIn (K : PySem.W.Frag) (neg : Bool) : R2 := fun x y H Q => ∃ p xs, y = .ref p ∧ (SqL K H p xs ∨ SqT K H p xs) ∧ flatV x = true ∧ xs.all flatV = true ∧ Q (.bl (if neg then !inV x xs else inV x xs)) H
theorem op_in_seq : OpR X (compareOp .In) (rIn X.K false) := by
  intro pins s σ H x y v u Q I rx ry h
  obtain ⟨p, xs, rfl, hq, fx, fs, q⟩ := h
  cases ry
  rcases hq with hq | hq
  · obtain ⟨its, r, pl, hz⟩ := I.list hq
    refine SeqAt.in_listAt (eqU x) pl.isList (fun w hw => mem_eqAt rx fx r fs w (by simpa using hw)) ⟨.bl _, H, I, rfl, ?_⟩
    rw [show its.toArray.any (eqU x) = its.any (eqU x) by simp, any_eqU r fs]
    exact q
  · obtain ⟨its, r, pl, hz⟩ := I.tuple hq
    refine SeqAt.in_tupleAt (eqU x) pl (fun w hw => mem_eqAt rx fx r fs w (by simpa using hw)) ⟨.bl _, H, I, rfl, ?_⟩
    rw [show its.toArray.any (eqU x) = its.any (eqU x) by simp, any_eqU r fs]
    exact q
/-! ### len, list(x), tuple(x) of any list or tuple that is read -/
theorem call_len_seq : CallR X (.builtin "len") (fun xs H Q => ∃ p ys, xs = [.ref p] ∧ (SqL X.K H p ys ∨ SqT X.K H p ys) ∧ Q (.int ys.length) H) := by
  intro pins s σ H xs us Q I r h
  obtain ⟨p, ys, rfl, hq, q⟩ := h
  obtain ⟨u, rfl, rx⟩ := vals1 r
  cases rx
  have hn := line63
  rcases hq with hq | hq
  · obtain ⟨its, r', pl, hz⟩ := I.list hq
    have hlen := r'.length
    exact Calls.call_len_list pl.isList (by simp only [List.size_toArray] <;> omega) ⟨.int ys.length, H, I.tok _, ⟨s.toks + 1, by rw [List.size_toArray, hlen]⟩, q⟩
  · obtain ⟨its, r', pl, hz⟩ := I.tuple hq
    have hlen := r'.length
    exact len_tuple pl (by simp only [List.size_toArray] <;> omega) ⟨.int ys.length, H, I.tok _, ⟨s.toks + 1, by rw [List.size_toArray, hlen]⟩, q⟩
theorem call_len_str : CallR X (.builtin "len") (fun xs H Q => ∃ z, xs = [.str z] ∧ z.length ≤ sizeLine ∧ Q (.int z.length) H) := by
  intro pins s σ H xs us Q I r h
  obtain ⟨z, rfl, hz, q⟩ := h
  obtain ⟨u, rfl, t, rfl⟩ := vals1 r
  have hn := line63
  exact len_str (by omega) ⟨.int z.length, H, I.tok _, ⟨_, rfl⟩, q⟩
theorem CallR.or {f : Value} {r r' : List V → Hp → VK → Prop} (h : CallR X f r) (h' : CallR X f r') : CallR X f (fun xs H Q => r xs H Q ∨ r' xs H Q) := by
  intro pins s σ H xs us Q I rs q
  rcases q with q | q
  · exact h pins s σ H xs us Q I rs q
  · exact h' pins s σ H xs us Q I rs q
/-! ### the call of a builtin's method: o.m(..) -/
/-- the value is of that builtin type -/
def tyV (K : PySem.W.Frag) (T : String) (x : V) (H : Hp) : Prop := match x with
  | .str _ => T = "str"
  | .int _ => T = "int"
  | .ref p => (T = "list" ∧ ∃ xs, SqL K H p xs) ∨ (T = "tuple" ∧ ∃ o, K.lookup p = some o ∧ o.cls = .type "tuple" ∧ o.dict = none) ∨
      (T = "dict" ∧ ((∃ kvs, H p = some (.dK kvs)) ∨ ∃ kvs, H p = some (.dT kvs))) ∨ (T = "set" ∧ ∃ S n, H p = some (.set S n))
  | _ => False
def tBM0 (K : PySem.W.Frag) (T : String) (r : V → List V → Hp → VK → Prop) (to : TE) : TE := fun σ H Q => to σ H fun x H1 => tyV K T x H1 ∧ r x [] H1 Q
def tBM (K : PySem.W.Frag) (T : String) (r : V → List V → Hp → VK → Prop) (to : TE) (t : TA) : TE := fun σ H Q => to σ H fun x H1 => tyV K T x H1 ∧ t σ H1 fun xs H2 => r x xs H2 Q
variable {o e : Expr} {es : List Expr} {to : TE} {t : TA} {name : Str} {apos cpos : Pos} {T id : String} {r : V → List V → Hp → VK → Prop}
end
end L2

namespace L2
open PySem PySem.Spec PyProof.Rows

def MtM (X : Cx) (id : String) (r : V → List V → Hp → VK → Prop) : Prop :=
  ∀ (pins : List (Addr × Obj)) (s : Shared) (σ : St) (H : Hp) (x : V) (xs : List V) (v : Value) (us : List Value) (Q : VK), Inv X pins σ H s → RelV x v → Vals xs us → r x xs H Q →
    wpAny (model X.prog X.w) X.A (call (.builtin id) (v :: us)) (EP X pins σ Q) X.xe s

/-! ### lists of values -/
theorem Vals.one : ∀ {x : V} {us : List Value}, Vals [x] us → ∃ u, us = [u] ∧ RelV x u
  | _, _, .cons r .nil => ⟨_, rfl, r⟩
theorem Vals.two : ∀ {x y : V} {us : List Value}, Vals [x, y] us → ∃ u v, us = [u, v] ∧ RelV x u ∧ RelV y v
  | _, _, _, .cons r (.cons q .nil) => ⟨_, _, rfl, r, q⟩
theorem Vals.zero : ∀ {us : List Value}, Vals [] us → us = []
  | _, .nil => rfl
theorem Vals.dropLast {xs : List V} {us : List Value} (h : Vals xs us) : Vals xs.dropLast us.dropLast := by
  induction h with
  | nil => exact .nil
  | cons r t ih =>
    cases t with
    | nil => exact .nil
    | cons q t' => exact .cons r ih
theorem Vals.eraseIdx : ∀ {xs : List V} {us : List Value} (i : Nat), Vals xs us → Vals (xs.eraseIdx i) (us.eraseIdx i)
  | _, _, _, .nil => .nil
  | _, _, 0, .cons _ t => t
  | _, _, i + 1, .cons r t => .cons r (Vals.eraseIdx i t)
theorem Vals.reverse {xs : List V} {us : List Value} (h : Vals xs us) : Vals xs.reverse us.reverse := by
  induction h with
  | nil => exact .nil
  | cons r t ih => rw [List.reverse_cons, List.reverse_cons]; exact Vals.append ih (.cons r .nil)
section
variable {X : Cx} {pins : List (Addr × Obj)} {σ : St} {H : Hp} {s : Shared} {l b : Addr} {xs ys zs : List V}

/-! ### the two steps: a tracked list is rewritten, a new list is laid -/
theorem Inv.lset {its its' : List Value} {n : Nat} {f : Array Value → Array Value} {t' : Nat} (I : Inv X pins σ H s) (hH : H l = some (.lst xs))
    (e : s.heap.get? l = some { cls := .type "list", data := .seq its.toArray n }) (hf : f its.toArray = its'.toArray) (hv : Vals ys its') (hz : ys.length ≤ sizeLine) :
    Inv X pins σ (upd H l (.lst ys)) { s with heap := s.heap.update l (Obj.mapSeq f), toks := t' } := by
  have q := PySem.IsL.update e f
  rw [hf] at q
  refine I.write (x := l) (e := l) (by rw [hH]; exact trivial) (.inl rfl) (fun b' u hb hu => (Heap.get?_update_other s.heap (Obj.mapSeq f) (Ne.symm hb)).trans hu) ⟨_, q⟩ ?_
  exact ⟨hz, its', _, hv, q⟩
theorem Inv.lnew {its : List Value} {t' : Nat} (I : Inv X pins σ H s) (hv : Vals ys its) (hz : ys.length ≤ sizeLine) :
    Inv X pins σ (upd H s.heap.objs.size (.lst ys)) { s with heap := s.heap.push { cls := .type "list", data := .seq its.toArray }, toks := t' } :=
  I.laid (fun _ _ q => Heap.get?_push_of_some _ q) (Nat.le_refl _) ⟨hz, its, 0, hv, Heap.get?_push_size _ rfl⟩
theorem Inv.fresh (I : Inv X pins σ H s) : H s.heap.objs.size = none := I.hok.fresh (Nat.le_refl _)
theorem Inv.lstM (I : Inv X pins σ H s) (hH : H l = some (.lst xs)) : xs.length ≤ sizeLine ∧ ∃ (its : List Value) (n : Nat), Vals xs its ∧ xs.length = its.length ∧ s.heap.get? l = some { cls := .type "list", data := .seq its.toArray n } := by
  obtain ⟨z, its, n, r, e⟩ := I.hok l _ hH
  exact ⟨z, its, n, r, r.length, e⟩

end

section
variable {X : Cx}

/-! ### methods -/
def rAppend : V → List V → Hp → VK → Prop := fun x vs H Q => ∃ l xs y, x = .ref l ∧ vs = [y] ∧ H l = some (.lst xs) ∧ xs.length < sizeLine ∧ Q .non (upd H l (.lst (xs ++ [y])))
theorem mt_append : MtM X "list.append" rAppend := by
  intro pins s σ H x vs v us Q I rx rv h
  obtain ⟨l, xs, y, rfl, rfl, hH, hz, q⟩ := h
  cases rx
  obtain ⟨u, rfl, ru⟩ := rv.one
  obtain ⟨z, its, n, r, hl, e⟩ := I.lstM hH
  refine call_meets F.slot_list_append ⟨_, e, rfl⟩ F.entry_list_append (F.args_list_append_2 _ _) (PySem.list_append l its.toArray n u (by rw [List.size_toArray]; omega)) ⟨e, ?_⟩
  refine ⟨.non, _, I.lset (its' := its ++ [u]) hH e (by simp) (r.append (.cons ru .nil)) ?_, rfl, q⟩
  rw [List.length_append, List.length_singleton]
  omega

def rExtend : V → List V → Hp → VK → Prop := fun x vs H Q => ∃ l b xs zs, x = .ref l ∧ vs = [.ref b] ∧ H l = some (.lst xs) ∧ H b = some (.lst zs) ∧ xs.length + zs.length ≤ sizeLine ∧ Q .non (upd H l (.lst (xs ++ zs)))
def rPop : V → List V → Hp → VK → Prop := fun x vs H Q => ∃ l xs y, x = .ref l ∧ vs = [] ∧ H l = some (.lst xs) ∧ xs[xs.length - 1]? = some y ∧ Q y (upd H l (.lst xs.dropLast))
def rPopAt : V → List V → Hp → VK → Prop := fun x vs H Q => ∃ l xs i k y, x = .ref l ∧ vs = [.int i] ∧ H l = some (.lst xs) ∧ -(2 ^ 63) ≤ i ∧ i < 2 ^ 63 ∧ seqIndex? i xs.length = some k ∧ xs[k]? = some y ∧ Q y (upd H l (.lst (xs.eraseIdx k)))
def rReverse : V → List V → Hp → VK → Prop := fun x vs H Q => ∃ l xs, x = .ref l ∧ vs = [] ∧ H l = some (.lst xs) ∧ Q .non (upd H l (.lst xs.reverse))
def rClear : V → List V → Hp → VK → Prop := fun x vs H Q => ∃ l xs, x = .ref l ∧ vs = [] ∧ H l = some (.lst xs) ∧ Q .non (upd H l (.lst []))
/-! ### list + list, list += list, list * int -/
def rCat : R2 := fun x y H Q => ∃ l b xs zs, x = .ref l ∧ y = .ref b ∧ H l = some (.lst xs) ∧ H b = some (.lst zs) ∧ xs.length + zs.length ≤ sizeLine ∧ ∀ p, H p = none → Q (.ref p) (upd H p (.lst (xs ++ zs)))
/-- a list times an int (a negative one is nothing) -/
def rRep : R2 := fun x y H Q => ∃ l k xs, x = .ref l ∧ y = .int k ∧ H l = some (.lst xs) ∧ -(2 ^ 63) ≤ k ∧ k < 2 ^ 63 ∧ xs.length * k.toNat ≤ sizeLine ∧
  ∀ p, H p = none → Q (.ref p) (upd H p (.lst (List.replicate k.toNat xs).flatten))
/-! ### del xs[i] -/
end

/-! ### xs[a:b] = ys -/
section
variable {prog : Program} {w : World} {A : Around} {E : Value → Shared → Prop} {s : Shared}
end

section
variable {X : Cx}
end
end L2

namespace Att
open PySem PySem.W PySem.Calls PyProof.Rows

/-! ### the script -/
theorem ints_of_wellAll {P : Params} {h : Heap} : ∀ (ns : List Int) (vs : List Value), WellAll P h vs (ns.map WData.int) → IntsAre vs ns := by
  intro ns
  induction ns with
  | nil =>
    intro vs w
    rw [List.map_nil] at w
    cases w
    exact .nil
  | cons n ns ih =>
    intro vs w
    rw [List.map_cons] at w
    cases w with
    | cons a b =>
      cases a
      exact .cons _ _ (ih _ b)

theorem script_of {l : OpenLaw} {n : Nat} (hn : l.most = some n) {P : Params} {h : Heap} {args : List WData} {vals : List Value}
    (hpre : l.row.toRowW.claim.pre args = true) (hwl : WellAll P h vals args) :
    ∃ a vs ns, vals = [Value.ref a] ∧ args = [WData.list (ns.map WData.int)] ∧ h.get? a = some { cls := .type "list", data := .seq vs.toArray } ∧ IntsAre vs ns ∧ ns.length ≤ n := by
  have hsh : WShape.hasAll [] args [.list .int] = true := (pre_splitW hpre).1
  have hc : l.pre.holds [] { args := args } = true := (pre_splitW hpre).2
  obtain ⟨d, r, rfl, h1, h2⟩ := hasAllW_cons hsh
  obtain rfl := hasAllW_nil h2
  obtain ⟨xs, rfl, h3⟩ := hasW_list h1
  obtain ⟨ns, rfl⟩ := items_int h3
  have hlen : ns.length ≤ n := by
    unfold OpenLaw.pre at hc
    have h4 : (WTm.not (.lt (.lit (.int (n : Int))) (.len (.arg 0)))).holds [] { args := [.list (ns.map .int)] } = true := by
      have h4 := (holds_andW hc).1
      rw [hn] at h4
      exact h4
    have h5 := condW_of h4 (w_not (w_lt w_lit (w_len_list (w_arg rfl))))
    rw [List.length_map] at h5
    refine Nat.le_of_not_lt fun q => ?_
    have q' : (n : Int) < ((ns.length : Nat) : Int) := by omega
    first
      | (rw [decide_eq_true q'] at h5; exact absurd h5 (by decide))
      | (simp at h5; omega)
  cases hwl with
  | cons w1 w2 =>
    cases w2
    cases w1 with
    | list ho hall => exact ⟨_, _, ns, rfl, rfl, ho, ints_of_wellAll ns _ hall, hlen⟩

theorem post_true (l : OpenLaw) (args : List WData) : l.row.toRowW.claim.post args (.bool true) args = true :=
  postW_of (r := l.row.toRowW) (X := (true == true))
    (show WShape.has [] (.bool true) .bool = true by first | rfl | decide | simp [WShape.has, WShape.arms, WShape.armsAll])
    (show (WTm.eq .res (.lit (.bool true))).value [] { args := args, res := some (.bool true), after := args } = some (.bool (true == true)) from w_eq_bool (w_res rfl) w_lit) rfl

/-! ### the attachment: holds_open's last premise (the goal 'hc' behind k_head) from a wpAny of the law's body -/
/-- the same from a codeAny of the CALL (for a layer whose function contracts speak of calls) -/
theorem attach_call {l : OpenLaw} {n : Nat} {q : Program} {loose : List Str} {XP : (Str → Option Value) → Heap → Prop} {YP : World → Heap → Prop} {d : DefRec}
    (hn : l.most = some n) (hdf : d.params.defaults = [])
    (call : ∀ (w : World) (s₀ s₁ : Shared) (mg mb : Str → Option Value) (fa : Addr) (o : Obj) (pm cd doc : Value) (a : Addr) (vs : List Value) (ns : List Int),
      Ground q loose [] XP w s₀ mg mb s₁.heap → YP w s₁.heap →
      s₁.heap.get? fa = some o → o.data = .func (docDef d.name d.params d.body d.scope pm cd doc) → s₁.heap.CodeRec cd d.name → mg d.name = some (.ref fa) →
      s₁.heap.get? a = some { cls := .type "list", data := .seq vs.toArray } → IntsAre vs ns → ns.length ≤ n → s₁.gens = #[] →
      codeAny (model l.prog w) callerA (.call (.ref fa) ⟨[.ref a], []⟩) (fun r s' => r = .ok (.ret (.bool true)) ∧ OldK s₁.heap s'.heap ∧ s'.os = s₁.os ∧ AllBare s'.gens) s₁) :
    WalkO q loose XP YP l.row.toRowW d [] (fun f vs => PySem.call f vs) := by
  intro w s₀ s₁ mg mb G Y fa o pm cd doc dV kV ho hd hcd hD hmg hg args vals as hpre hlay hrd hwl hlo
  obtain rfl : dV = .none := Dflts.none hD hdf
  obtain rfl : kV = .none := Dflts.noKw hD
  obtain ⟨a, vs, ns, rfl, rfl, hobj, hints, hlen⟩ := script_of hn hpre hwl
  refine enter_call (codeAny_mono (call w s₀ s₁ mg mb fa o pm cd doc a vs ns G Y ho (fd_plain hd) hcd hmg hobj hints hlen hg) fun r s' hq => ?_)
  obtain ⟨rfl, h2, h3, h4⟩ := hq
  exact ⟨.inl ⟨.bool true, .bool true, [], rfl, fun _ => rfl, .bool true, post_true l _, fun _ => ⟨List.Pairwise.nil, fun _ hm => (nomatch hm)⟩⟩, h2, h3, h4⟩

/-! ### rules over ANY heap (no ledger) from facts about the written part K: the library's own take a ledger (News) for what they write -/
section
variable {prog : Program} {w : World} {A : Around} {E : Value → Shared → Prop} {s : Shared} {K : Frag}

/-! the whole heap as the ledger: makes every rule that writes through a ledger a rule over any heap -/
def noObjs (h : Heap) : Heap := { h with objs := #[] }
def ledger (h : Heap) (L d : Addr) : List (Addr × Obj) := (List.range h.objs.size).filterMap fun a => if a = L ∨ a = d then none else (h.get? a).map fun o => (a, o)
end
end Att

namespace L2
open PySem PySem.Spec PyProof.Rows

theorem vals_ints : ∀ {vs : List Value} {ns : List Int}, IntsAre vs ns → Vals (ns.map V.int) vs
  | _, _, .nil => .nil
  | _, _, .cons n t h => .cons ⟨t, rfl⟩ (vals_ints h)

/-- nothing is tracked but the script, known to the object (or it is an object of the module) -/
def Only (H : Hp) : Prop := ∀ b, H b = none ∨ ∃ o xs, H b = some (.frz o (.lst xs))

/-- THE HEAD: the law's promise, at the heap behind the top. F, the promise of the law's def, may use that base is part of the heap (so K.In base, base.Ns mainGlobals mg stand in Mod) -/
theorem law_call {P : Program} {w : World} {K : PySem.W.Frag} {mg mb : Str → Option Value} {CX : CXT} {k : Nat} {fa a : Addr} {fd : FuncData} {x : Str} {sp : Sp} {s₁ : Shared} {vs : List Value} {ns : List Int}
    (KX : K.In s₁.heap) (hns : s₁.heap.Ns mainGlobals mg) (hb : s₁.heap.Ns builtinsNs mb) (hbb : ∀ x : Str, x ≠ "__name__" → mb x = bootBuiltins x) (hlim : s₁.heap.NoLimit) (hg : s₁.gens = #[])
    (ha : s₁.heap.get? a = some { cls := .type "list", data := .seq vs.toArray }) (hi : IntsAre vs ns) (hl : ns.length ≤ sizeLine) (hr : Room k callerA)
    (F : ∀ base : Heap, K.In base → base.Ns mainGlobals mg → FnOk P w K mg base CX k fa fd [x] sp) (hbind : ∀ (s : Shared) (u : Value), BindsTo s fd ⟨[u], []⟩ [(x, u)])
    (hsp : ∀ H : Hp, Only H → SqL K H a (ns.map V.int) → sp [.ref a] H (fun v _ => v = .bl true) fun _ _ _ => False)
    (hCX : ∀ H e s', CX [] H s₁ (fun _ _ _ => False) e s' → False) :
    codeAny (model P w) callerA (.call (.ref fa) ⟨[.ref a], []⟩) (fun r s' => r = .ok (.ret (.bool true)) ∧ OldK s₁.heap s'.heap ∧ s'.os = s₁.os ∧ AllBare s'.gens) s₁ := by
  have rv := vals_ints hi
  have lenV := hi.length
  -- from an abstract heap in which nothing but the script may be tracked
  have core : ∀ H : Hp, Only H → SqL K H a (ns.map V.int) → HOk P w H s₁.heap → (∀ b, H b ≠ none → b = a) → (H a ≠ none → K.lookup a = none) →
      codeAny (model P w) callerA (.call (.ref fa) ⟨[.ref a], []⟩) (fun r s' => r = .ok (.ret (.bool true)) ∧ OldK s₁.heap s'.heap ∧ s'.os = s₁.os ∧ AllBare s'.gens) s₁ := by
    intro H hO hS hok hA hK
    have base_of : ∀ {b : Addr} {o : Obj}, s₁.heap.get? b = some o → H b = none → (hidT s₁.heap H).get? b = some o := fun e n => hidT_get e n
    have noA : ∀ {b : Addr} {o : Obj} {es : Array DictEntry} {ep : Nat}, s₁.heap.get? b = some o → o.data = .dict es ep → H b = none := fun {b o es ep} e d => by
      cases q : H b with
      | none => rfl
      | some u =>
        have e' : b = a := hA b (by rw [q]; simp)
        subst e'
        rw [ha] at e; cases e
        have d' : Data.seq vs.toArray _ = Data.dict es ep := d
        cases d'
    have nsK : ∀ {b : Addr} {m : Str → Option Value}, s₁.heap.Ns b m → (hidT s₁.heap H).Ns b m := fun {b m} ⟨o, es, ep, e, d, r⟩ => ⟨o, es, ep, base_of e (noA e d), d, r⟩
    have hKb : K.In (hidT s₁.heap H) := fun b o e => base_of (KX b o e) (by
      cases q : H b with
      | none => rfl
      | some u =>
        have e' : b = a := hA b (by rw [q]; simp)
        subst e'
        rw [hK (by rw [q]; simp)] at e; cases e)
    have hM : Mod K mg (hidT s₁.heap H) := ⟨hKb, nsK hns, ⟨mb, nsK hb, hbb⟩, let ⟨mc, h1, h2⟩ := hlim; ⟨mc, nsK h1, h2⟩⟩
    have e0 : Env0 P w K mg (hidT s₁.heap H) callerA [] s₁ H := ⟨rfl, hM, fun b o e => of_hidT e, Nat.le_of_eq (hidT_size _ _), trivial, fun b hb => absurd (show b ∈ ([] : List Addr) from hb) (by simp), hok, .of_eq hg⟩
    refine codeAny_mono ((F _ hKb (nsK hns)).run callerA [] s₁ H ⟨[.ref a], []⟩ [.ref a] [.ref a] _ _ hr e0 (hbind s₁ (.ref a)) (.cons rfl .nil) (hsp H hO hS)) fun r s' h => ?_
    cases r with
    | error e => exact (hCX H e s' h).elim
    | ok fl =>
      cases fl with
      | next => exact False.elim h
      | brk => exact False.elim h
      | cont => exact False.elim h
      | ret u =>
        obtain ⟨v, H', os, bare, un, hok', r', q⟩ := h
        have q' : v = .bl true := q
        subst q'
        obtain rfl : u = Value.bool true := r'
        refine ⟨rfl, OldK.of_keep fun b o e => ?_, os, bare⟩
        cases q : H b with
        | none => exact un.keep b o e q (by intro z; exact absurd (show b ∈ ([] : List Addr) from z) (by simp)) (by simp)
        | some u =>
          rcases hO b with z | ⟨ob, xs, z⟩
          · rw [q] at z; cases z
          · have z2 := un.frzs b ob _ z
            obtain ⟨e1, _⟩ := hok b _ z
            obtain ⟨e2, _⟩ := hok' b _ z2
            rw [e] at e1; cases e1
            exact e2
  cases hk : K.lookup a with
  | some o =>
    -- the script is one of the module's own objects
    have e := KX a o hk
    rw [ha] at e
    cases e
    refine core (fun _ => none) (fun _ => .inl rfl) (.inr ⟨_, vs.toArray, _, hk, rfl, rfl, rfl, by rw [List.size_toArray, lenV]; exact hl, by simpa using rv⟩) (fun b u z => by have z' : (none : Option HO) = some u := z; cases z') (fun b z => absurd rfl z) fun z => absurd rfl z
  | none =>
    refine core (fun b => if b = a then some (.frz { cls := .type "list", data := .seq vs.toArray } (.lst (ns.map V.int))) else none) (fun b => ?_) (.inl (.inr ⟨{ cls := .type "list", data := .seq vs.toArray }, if_pos rfl⟩)) (fun b u z => ?_) (fun b z => ?_) fun _ => hk
    · by_cases hb : b = a
      · exact .inr ⟨_, _, if_pos hb⟩
      · exact .inl (if_neg hb)
    · by_cases hb : b = a
      · have z' := (if_pos hb).symm.trans z
        cases z'
        subst hb
        exact ⟨ha, by rw [List.length_map]; exact hl, vs, _, rv, ha⟩
      · have z' := (if_neg hb).symm.trans z
        cases z'
    · by_cases hb : b = a
      · exact hb
      · exact absurd (if_neg hb) z
end L2

namespace L2
open PySem PySem.Spec PyProof.Rows

abbrev KOf {K : PySem.W.Frag} {h : Heap} (_ : K.In h) : PySem.W.Frag := K

/-- the goal that k_head leaves (case hc), from the law's promise. F gives the function object fd (K's own) once, then the promise over every base -/
theorem walk_of {l : PySem.W.OpenLaw} {n k : Nat} {q : Program} {loose : List Str} {XP : (Str → Option Value) → Heap → Prop} {YP : World → Heap → Prop} {d : DefRec} {K : Params → PySem.W.Frag} {CX : World → CXT} {sp : World → Sp} {x : Str}
    (hn : l.most = some n) (hn2 : n ≤ sizeLine) (hdf : d.params.defaults = []) (hr : Room k callerA)
    (hY : ∀ (w : World) (h : Heap), YP w h → (K w.params).In h)
    (F : ∀ (w : World) (mg : Str → Option Value) (fa : Addr) (h : Heap), (K w.params).In h → h.Ns mainGlobals mg → mg d.name = some (.ref fa) →
      ∃ fd : FuncData, (∀ (s : Shared) (u : Value), BindsTo s fd ⟨[u], []⟩ [(x, u)]) ∧
        ∀ base : Heap, (K w.params).In base → base.Ns mainGlobals mg → FnOk l.prog w (K w.params) mg base (CX w) k fa fd [x] (sp w))
    (hsp : ∀ (w : World) (H : Hp) (a : Addr) (ns : List Int), ns.length ≤ n → Only H → SqL (K w.params) H a (ns.map V.int) → sp w [.ref a] H (fun v _ => v = .bl true) fun _ _ _ => False)
    (hCX : ∀ (w : World) (H : Hp) (s : Shared) (e : Value) (s' : Shared), CX w [] H s (fun _ _ _ => False) e s' → False) :
    PySem.W.WalkO q loose XP YP l.row.toRowW d [] (fun f vs => PySem.call f vs) := by
  refine Att.attach_call hn hdf fun w s₀ s₁ mg mb fa o pm cd doc a vs ns G Y ho hd hcd hmg hobj hints hlen hg => ?_
  have KX := hY w _ Y
  obtain ⟨fd, hb, hF⟩ := F w mg fa _ KX G.T.g hmg
  exact law_call KX G.T.g G.T.b G.T.builtins G.T.nolimit hg hobj hints (Nat.le_trans hlen hn2) hr hF hb (fun H hO hS => hsp w H a ns hlen hO hS) fun H e s' => hCX w H s₁ e s'
end L2

/- THE LAST THEOREM (shape; LID, My.* are yours):
   My.Adr: a structure of the addresses that your layer names (classes, functions); My.Txt K t: a structure (Prop) of the equations over K;
   My.txt_mk : {K} {implicit addresses ..} (e1 : nsIn K mainGlobals "law" = some (some (.ref f))) (e2 : K.lookup f = some ⟨oc, od, .func (fnOf "law" "law" params body scope dV kV doc pm an cdv ct), sl⟩) (e3 : codeIn K cdv "law" = true) .. : ∃ t, My.Txt K t

set_option maxRecDepth 100000 in
set_option maxHeartbeats 0 in
theorem PySem.Challenge.cw_LID_holds : PySem.Challenge.rw_LID.Holds := by
  w_on; o_law; k_head; (case hw => w_witness2)
  k_fill
  refine L2.walk_of (l := PySem.Challenge.rw_LID) (n := 63) (k := 40) (x := "script") (CX := fun w => ..) (sp := fun _ => My.sp_law) rfl (by decide) rfl ⟨rfl, by decide, by decide⟩ (fun w h Y => PySem.W.kIn_of Y) ?F ?S ?C
  case F =>
    intro w mg fa h KX G hmg
    have T : ∃ t, My.Txt (L2.KOf KX) t := by
      dsimp only [L2.KOf]                          -- K must stand as «<heap const> w.params» for k_is
      refine' My.txt_mk ?e1 ?e2 ?e3 ..
      (case e1 => PySem.W.k_is)                    -- in the order: a name -> its address -> its object -> its parts
      (case e2 => PySem.W.k_is)
      ..
    obtain ⟨t, T⟩ := T
    have e0 := hmg.symm.trans (PySem.W.mg_of KX G T.law)
    cases e0                                       -- fa is the law's own address
    exact ⟨_, fun s u => .of_eq rfl, fun base kb nb => My.law_fn T kb nb⟩     -- if «.of_eq rfl» comes too early: refine' ⟨_, ?b, fun base kb nb => My.law_fn T kb nb⟩; exact fun s u => .of_eq rfl
  case S => exact fun w H a ns hl hO hS => ..
  case C => exact ..
(the tactic k_is has no namespace: write k_is) -/

/-! SHORT WORDS over the layer: a def of the text, its body, what a loop and a test want. -/
namespace L2
open PySem PySem.Spec PyProof.Rows

/-! ### the text by places -/
/-- the j-th statement of a class's body -/
def inClass (s : Stmt) (j : Nat) : Stmt := match s with
  | .ClassDef _ _ _ body _ _ _ _ _ _ _ => body.getD j (.Pass ⟨0, 0, 0, 0⟩)
  | _ => .Pass ⟨0, 0, 0, 0⟩
def defArgs (s : Stmt) : Arguments := match s with
  | .FunctionDef _ a _ _ _ _ _ _ _ _ => a
  | _ => { posonlyargs := [], args := [], vararg := none, kwonlyargs := [], kw_defaults := [], kwarg := none, defaults := [] }
def defBody (s : Stmt) : List Stmt := match s with
  | .FunctionDef _ _ b _ _ _ _ _ _ _ => b
  | _ => []
def defScope (s : Stmt) : Scope := match s with
  | .FunctionDef _ _ _ _ _ _ sc _ _ _ => sc
  | _ => { kind := .function, names := [], isGenerator := false, isCoroutine := false }

/-! ### no exception leaves a def -/
abbrev CX0 : CXT := fun _ _ _ _ _ _ => False
abbrev E0 : XK := fun _ _ _ => False
theorem pass0 {X : Cx} : Passes CX0 X E0 := fun _ _ _ _ _ _ _ h => h.elim

/-! ### a def (or method) of the text as it stands behind the top -/
structure Fun (K : PySem.W.Frag) (x qual : Str) (st : Stmt) (f : Addr) (fd : FuncData) : Prop where
  ex : ∃ (oc : Value) (od : Option Addr) (kV doc pm : Value) (an : Option Addr) (cdv ct : Value) (osl : Array (Option Value)),
    fd = PySem.W.fnOf x qual (defArgs st) (defBody st) (defScope st) .none kV doc pm an cdv ct ∧ K.lookup f = some ⟨oc, od, .func fd, osl⟩ ∧ PySem.W.codeIn K cdv qual = true
  kp : PySem.W.keepIn K (.ref f) = true
section
variable {P : Program} {w : World} {K : PySem.W.Frag} {mg : Str → Option Value} {base : Heap}
/-- THE RULE for a def: its body as a term of rules, and the reading of that term -/
theorem Fun.ok {x qual : Str} {st : Stmt} {f : Addr} {fd : FuncData} {N ps : List Str} {k : Nat} {sp : Sp} (F : Fun K x qual st f fd) (S : FnScope N ps (defScope st)) (len : ∀ vs H Q E, sp vs H Q E → vs.length = ps.length)
    (hbody : ∀ (cdv : Value) (A : Around) (outer : List Env) (s : Shared) (H : Hp) (vs : List V) (Q : VK) (E : XK), Room k (A.deeper (envOfC qual (defScope st) s.heap.objs.size f cdv)) → sp vs H Q E →
      ∃ t, PSs (cxOf CX0 P w K mg base N qual (defScope st) f cdv A outer s H E).nox (defBody st) t ∧ t { nx := fun _ H' => Q .non H', rt := Q } (start N vs) H) : FnOk P w K mg base CX0 (k + 1) f fd ps sp := by
  obtain ⟨oc, od, kV, doc, pm, an, cdv, ct, osl, rfl, lk, hcd⟩ := F.ex
  refine fn_of lk hcd S len fun A outer s H vs Q E hr hsp => ?_
  obtain ⟨t, h, q⟩ := hbody cdv A outer s H vs Q E hr hsp
  exact ⟨t, h.nox, q⟩
/-- how its arguments bind (no defaults): h is «fun _ _ _ _ _ _ us hl => match us, hl with | [_, _], _ => rfl», one _ a parameter -/
theorem Fun.binds {x qual : Str} {st : Stmt} {f : Addr} {fd : FuncData} {ps : List Str} (F : Fun K x qual st f fd)
    (h : ∀ (kV doc pm : Value) (an : Option Addr) (cdv ct : Value) (us : List Value), us.length = ps.length → bindArgs (PySem.W.fnOf x qual (defArgs st) (defBody st) (defScope st) .none kV doc pm an cdv ct) ⟨us, []⟩ = pure (ps.zip us)) : Binds K fd ps [] := by
  obtain ⟨oc, od, kV, doc, pm, an, cdv, ct, osl, rfl, lk, hcd⟩ := F.ex
  exact .all (h kV doc pm an cdv ct)
theorem fun_mk {x qual : Str} {st : Stmt} {f : Addr} {oc : Value} {od an : Option Addr} {osl : Array (Option Value)} {kV doc pm cdv ct : Value} (l : K.lookup f = some ⟨oc, od, .func (PySem.W.fnOf x qual (defArgs st) (defBody st) (defScope st) .none kV doc pm an cdv ct), osl⟩)
    (c : PySem.W.codeIn K cdv qual = true) (k : PySem.W.keepIn K (.ref f) = true) : Fun K x qual st f (PySem.W.fnOf x qual (defArgs st) (defBody st) (defScope st) .none kV doc pm an cdv ct) := ⟨⟨oc, od, kV, doc, pm, an, cdv, ct, osl, rfl, l, c⟩, k⟩
end
theorem hu_of {A : Around} {k : Nat} (hr : Room k A) : A.units + 1 < cLine := Nat.lt_of_le_of_lt (Nat.add_le_add_left (by decide : 1 ≤ 64) _) hr.units
/-! ### expressions in short: the name that stands in the i-th slot -/
section
variable {X : Cx}
theorem pv (i : Nat) {x : Str} {pos : Pos} (hN : X.N[i]? = some x := by rfl) (hv : Vis X.env.scope x := by first | exact Or.inl rfl | exact Or.inr (Or.inl rfl) | exact Or.inr (Or.inr rfl)) (hd : (x == ("__debug__" : Str)) = false := by decide)
    (hcd : (x == ("__classdict__" : Str)) = false := by decide) : PE X (.Name x pos) (tVar i) := pe_var hN hv hd hcd
end

/-! ### tests -/
theorem ite2 {c A B : Prop} [Decidable c] (h1 : c → A) (h2 : ¬ c → B) : if c then A else B := by
  by_cases h : c
  · rw [if_pos h]
    exact h1 h
  · rw [if_neg h]
    exact h2 h
/-! ### heaps -/
/-- all that was tracked is as it was -/
def Same (H H' : Hp) : Prop := ∀ b o, H b = some o → H' b = some o
theorem Same.refl (H : Hp) : Same H H := fun _ _ h => h
theorem Same.trans {H H1 H2 : Hp} (a : Same H H1) (b : Same H1 H2) : Same H H2 := fun c o h => b c o (a c o h)
theorem Same.free {H H' : Hp} (e : Same H H') {l : Addr} (h : H' l = Option.none) : H l = Option.none := by
  cases q : H l with
  | none => rfl
  | some o =>
    rw [e l o q] at h
    cases h
theorem Same.seq {K : PySem.W.Frag} {H H' : Hp} {a : Addr} {xs : List V} (e : Same H H') (h : SqL K H a xs) : SqL K H' a xs := by
  rcases h with (h | ⟨o, h⟩) | h
  · exact .inl (.inl (e _ _ h))
  · exact .inl (.inr ⟨o, e _ _ h⟩)
  · exact .inr h

end L2

set_option Elab.async false
set_option linter.all false
set_option maxRecDepth 100000
namespace L2
open PySem PySem.Spec PyProof.Rows

end L2

namespace L2
open PySem PySem.Spec PyProof.Rows

section
variable (P : Program) (w : World)
end

section
variable {P : Program} {w : World} {H H' : Hp} {h h' : Heap} {a : Addr} {o : HO}
end

section
variable {P : Program} {w : World} {H : Hp} {h h' : Heap} {x e : Addr} {o' : HO}
end

section
variable {fs fs' ex ex' : List Addr} {H H1 H2 : Hp} {h h1 h2 h' : Heap} {a x e : Addr} {o : HO}
end

end L2

namespace L2
open PySem PySem.Spec PyProof.Rows

section
variable {X : Cx} {pins : List (Addr × Obj)} {σ : List (Option V)} {H H' : Hp} {s : Shared} {h' : Heap}

end

end L2

namespace L2
open PySem PySem.Spec PyProof.Rows
section
variable {X : Cx}

variable {a b : Expr} {ta tb : TE} {pos : Pos}
variable {tA tB' : TT} {rest : List Expr}
end
end L2

namespace L2
open PySem PySem.Spec PyProof.Rows

section
variable {X : Cx} {pins : List (Addr × Obj)} {σ : St} {H : Hp} {s : Shared} {a : Addr} {xs ys : List V}
end

section
variable {X : Cx} {pins : List (Addr × Obj)} {σ : St} {H : Hp} {s : Shared} {E : Value → Shared → Prop}
end

section
variable {X : Cx} {st : Stmt} {rest : List Stmt} {t u : TS} {e : Expr} {te : TE} {pos : Pos}
end

section
variable {X : Cx} {pos : Pos}
end

section
variable {X : Cx} {pos : Pos}
end

end L2

namespace L2
open PySem PySem.Spec PyProof.Rows
section
variable {X : Cx} {tg : Expr}
end

end L2

namespace L2
open PySem PySem.Spec PyProof.Rows

section
variable {X : Cx} {a b c : Expr} {ta tb tc : TE} {pos : Pos}

end

section
variable {X : Cx} {a b c : Expr} {ta tb tc : TE} {pos : Pos}
end
end L2

namespace L2
open PySem PySem.Spec PyProof.Rows

section
variable {prog : Program} {w : World} {A : Around} {E : Value → Shared → Prop} {s : Shared} {K : PySem.W.Frag} {x dx C f : Addr} {mA : Str → Option Value} {name : Str} {v : Value}

end

section
variable {P : Program} {w : World} {H H' : Hp} {h h' : Heap} {a C dx : Addr} {fs fs' : List (Str × V)}
end

section
variable {X : Cx} {pins : List (Addr × Obj)} {σ : St} {H : Hp} {s : Shared} {a C dx : Addr} {fs : List (Str × V)} {f : Str} {v : V} {A : Around} {E : Value → Shared → Prop}

end

section
variable {X : Cx} {o e value : Expr} {f : Str} {pos pos' tpos : Pos} {ta tv : TE}
end

section
variable {X : Cx} {pins : List (Addr × Obj)} {σ : St} {H : Hp} {s : Shared} {A : Around} {E : Value → Shared → Prop} {Q : Value → Shared → Prop} {c : Value} {b : Bool}
end
end L2

namespace L2
open PySem PySem.Spec PyProof.Rows

section
variable {X : Cx} {e : Expr} {es : List Expr} {te : TE} {t : TA} {pos : Pos}
end

section
variable {X : Cx} {pins : List (Addr × Obj)} {σ : St} {H : Hp} {s s' : Shared}
end

section
variable {X : Cx} {CX : CXT} {k : Nat} {f C : Addr} {fd : FuncData} {ps : List Str} {sp : Sp} {dvs : List V} {ds : List Value} {E : XK} {x m : Str} {p pos apos : Pos} {e o : Expr} {es : List Expr} {ta : TE} {t : TA}

end

section
variable {X : Cx} {CX : CXT} {k : Nat} {f C : Addr} {fd : FuncData} {ps ks : List Str} {sp : Sp} {E : XK} {x m : Str} {p pos apos kpos : Pos} {e o : Expr} {es : List Expr} {kws : List Keyword} {te ta : TE} {t tk : TA} {nm : Option Str}
variable {g : List Value → List Value → List Value} {gV : List V → List V → List V}
end

end L2

namespace L2
open PySem PySem.Spec PyProof.Rows
section
variable {X : Cx} {x : Str} {p pos : Pos} {e : Expr} {es : List Expr} {t : TA} {id T : String} {r : List V → Hp → VK → Prop}

end
end L2

namespace L2
open PySem PySem.Spec PyProof.Rows

section
variable {κ : Type} [DecidableEq κ]
def valV (kvs : List (κ × V)) (k : κ) : Option V := (kvs.find? fun kv => decide (kv.1 = k)).map (·.2)
def putK (kvs : List (κ × V)) (k : κ) (v : V) : List (κ × V) :=
  if (kvs.any fun kv => decide (kv.1 = k)) = true then kvs.map (fun kv => if kv.1 = k then (kv.1, v) else kv) else kvs ++ [(k, v)]
def dropK (kvs : List (κ × V)) (k : κ) : List (κ × V) := kvs.filter fun kv => decide (kv.1 ≠ k)

theorem valV_nil {k : κ} : valV ([] : List (κ × V)) k = none := rfl
theorem valV_pos {p : κ × V} {r : List (κ × V)} {k : κ} (e : p.1 = k) : valV (p :: r) k = some p.2 := by simp [valV, List.find?_cons, e]
theorem valV_neg {p : κ × V} {r : List (κ × V)} {k : κ} (e : ¬ p.1 = k) : valV (p :: r) k = valV r k := by simp [valV, List.find?_cons, e]
theorem valV_any (k : κ) : ∀ kvs : List (κ × V), (kvs.any fun kv => decide (kv.1 = k)) = (valV kvs k).isSome
  | [] => rfl
  | p :: r => by
    rw [List.any_cons]
    by_cases e : p.1 = k
    · simp only [valV_pos e, decide_eq_true e, Bool.true_or, Option.isSome_some]
    · rw [valV_neg e, decide_eq_false e, Bool.false_or]; exact valV_any k r
theorem valV_map (k j : κ) (y : V) : ∀ kvs : List (κ × V), valV (kvs.map fun kv => if kv.1 = k then (kv.1, y) else kv) j = (valV kvs j).map fun x => if j = k then y else x
  | [] => rfl
  | p :: r => by
    have ih := valV_map k j y r
    rw [List.map_cons]
    by_cases h : p.1 = k
    · rw [if_pos h]
      by_cases e : p.1 = j
      · rw [valV_pos (p := (p.1, y)) e, valV_pos e, Option.map_some, if_pos (e.symm.trans h)]
      · rw [valV_neg (p := (p.1, y)) e, valV_neg e, ih]
    · rw [if_neg h]
      by_cases e : p.1 = j
      · rw [valV_pos (p := p) e, valV_pos e, Option.map_some, if_neg (fun z => h (e.trans z))]
      · rw [valV_neg (p := p) e, valV_neg e, ih]
theorem valV_snoc (k j : κ) (y : V) : ∀ kvs : List (κ × V), valV kvs k = none → valV (kvs ++ [(k, y)]) j = if j = k then some y else valV kvs j
  | [], _ => by
    by_cases e : k = j
    · rw [if_pos e.symm]; exact valV_pos (p := (k, y)) e
    · rw [if_neg (fun z => e z.symm)]; exact valV_neg (p := (k, y)) e
  | p :: r, hn => by
    rw [List.cons_append]
    have hk : ¬ p.1 = k := fun z => by rw [valV_pos z] at hn; cases hn
    rw [valV_neg hk] at hn
    have ih := valV_snoc k j y r hn
    by_cases e : p.1 = j
    · rw [valV_pos e, valV_pos e, if_neg (fun z => hk (e.trans z))]
    · rw [valV_neg e, valV_neg e, ih]
theorem valV_put (kvs : List (κ × V)) (k j : κ) (y : V) : valV (putK kvs k y) j = if j = k then some y else valV kvs j := by
  unfold putK
  by_cases a : (kvs.any fun kv => decide (kv.1 = k)) = true
  · rw [if_pos a, valV_map]
    rw [valV_any] at a
    by_cases e : j = k
    · obtain ⟨x, hx⟩ := Option.isSome_iff_exists.mp a
      rw [if_pos e, e, hx, Option.map_some, if_pos rfl]
    · rw [if_neg e]
      cases valV kvs j with
      | none => rfl
      | some x => rw [Option.map_some, if_neg e]
  · rw [if_neg a]
    refine valV_snoc k j y kvs ?_
    rw [valV_any] at a
    cases q : valV kvs k with
    | none => rfl
    | some x => rw [q] at a; exact (a rfl).elim
theorem length_putK (kvs : List (κ × V)) (k : κ) (v : V) : (putK kvs k v).length ≤ kvs.length + 1 := by
  unfold putK
  split
  · rw [List.length_map]; omega
  · rw [List.length_append, List.length_cons, List.length_nil]; omega
theorem RelO.isSome_eq {o : Option V} {u : Option Value} (r : RelO o u) : o.isSome = u.isSome := by
  cases o with
  | none => cases u with
    | none => rfl
    | some _ => exact (show False from r).elim
  | some _ => cases u with
    | none => exact (show False from r).elim
    | some _ => rfl
theorem RelO.getD {o : Option V} {u : Option Value} {d : V} {d' : Value} (r : RelO o u) (rd : RelV d d') : RelV (o.getD d) (u.getD d') := by
  cases o with
  | none => cases u with
    | none => exact rd
    | some _ => exact (show False from r).elim
  | some _ => cases u with
    | none => exact (show False from r).elim
    | some _ => exact r

theorem KV.val {kvs : List (κ × V)} {vs : List (κ × Value)} (r : KV kvs vs) (k : κ) : RelO (valV kvs k) (valueAt vs k) := by
  unfold KV at r
  induction r with
  | nil => exact True.intro
  | @cons p q ps qs h t ih =>
    obtain ⟨h1, h2⟩ := h
    by_cases e : p.1 = k
    · have e' : q.1 = k := h1.symm.trans e
      have b : valueAt (q :: qs) k = some q.2 := by simp [valueAt, List.find?_cons, e']
      rw [valV_pos e, b]; exact h2
    · have e' : ¬ q.1 = k := fun z => e (h1.trans z)
      have b : valueAt (q :: qs) k = valueAt qs k := by simp [valueAt, List.find?_cons, e']
      rw [valV_neg e, b]; exact ih
theorem KV.any {kvs : List (κ × V)} {vs : List (κ × Value)} (r : KV kvs vs) (k : κ) : (kvs.any fun kv => decide (kv.1 = k)) = vs.any fun kv => decide (kv.1 = k) := by
  unfold KV at r
  induction r with
  | nil => rfl
  | cons h t ih => rw [List.any_cons, List.any_cons, ih, h.1]
theorem KV.repl {kvs : List (κ × V)} {vs : List (κ × Value)} (r : KV kvs vs) (k : κ) {y : V} {u : Value} (ry : RelV y u) :
    KV (kvs.map fun kv => if kv.1 = k then (kv.1, y) else kv) (vs.map fun kv => if kv.1 = k then (kv.1, u) else kv) := by
  unfold KV at r ⊢
  induction r with
  | nil => exact .nil
  | @cons p q ps qs h t ih =>
    rw [List.map_cons, List.map_cons]
    refine .cons ?_ ih
    obtain ⟨h1, h2⟩ := h
    by_cases e : p.1 = k
    · rw [if_pos e, if_pos (h1.symm.trans e)]; exact ⟨h1, ry⟩
    · rw [if_neg e, if_neg (fun z => e (h1.trans z))]; exact ⟨h1, h2⟩
theorem KV.put {kvs : List (κ × V)} {vs : List (κ × Value)} (r : KV kvs vs) (k : κ) {y : V} {u : Value} (ry : RelV y u) : KV (putK kvs k y) (stored vs k u) := by
  unfold putK stored
  rw [r.any k]
  by_cases e : (vs.any fun kv => decide (kv.1 = k)) = true
  · rw [if_pos e, if_pos e]; exact r.repl k ry
  · rw [if_neg e, if_neg e]; exact Paired.snoc r ⟨rfl, ry⟩
theorem KV.drop {kvs : List (κ × V)} {vs : List (κ × Value)} (r : KV kvs vs) (k : κ) : KV (dropK kvs k) (without vs k) := by
  unfold KV at r ⊢
  unfold dropK without
  induction r with
  | nil => exact .nil
  | @cons p q ps qs h t ih =>
    obtain ⟨h1, h2⟩ := h
    rw [List.filter_cons, List.filter_cons]
    by_cases e : p.1 = k
    · have a : ¬ decide (p.1 ≠ k) = true := by simp [e]
      have b : ¬ decide (q.1 ≠ k) = true := by simp [h1.symm.trans e]
      rw [if_neg a, if_neg b]; exact ih
    · have e' : ¬ q.1 = k := fun z => e (h1.trans z)
      have a : decide (p.1 ≠ k) = true := by simp [e]
      have b : decide (q.1 ≠ k) = true := by simp [e']
      rw [if_pos a, if_pos b]; exact .cons ⟨h1, h2⟩ ih
theorem KV.keys {kvs : List (κ × V)} {vs : List (κ × Value)} (r : KV kvs vs) : kvs.map (·.1) = vs.map (·.1) := by
  unfold KV at r
  induction r with
  | nil => rfl
  | cons h t ih => rw [List.map_cons, List.map_cons, ih, h.1]
theorem KV.length {kvs : List (κ × V)} {vs : List (κ × Value)} (r : KV kvs vs) : kvs.length = vs.length := Paired.length r
theorem dropK_le (kvs : List (κ × V)) (k : κ) : (dropK kvs k).length ≤ kvs.length := List.length_filter_le _ _
end


theorem kV_is {P : Program} {w : World} {k : Key} {u : Value} (r : RelV (kV k) u) : (mixKind P w).is k u = true := by
  cases k with
  | inl i => obtain ⟨t, e⟩ := (show ∃ t, u = Value.int i t from r); subst e; exact mixKind_int P w i t
  | inr x => obtain ⟨t, e⟩ := (show ∃ t, u = Value.str x t from r); subst e; exact mixKind_str P w x t
theorem items_are {P : Program} {w : World} : ∀ {ks : List Key} {us : List Value}, Vals (ks.map kV) us → ItemsAre (mixKind P w) ks us
  | [], _, r => by rw [List.map_nil] at r; cases r; exact .nil
  | k :: ks, _, r => by
    rw [List.map_cons] at r
    cases r with
    | cons h t => exact .cons (kV_is h) (items_are t)

abbrev KT (H : Hp) : List (List Key × V) → List (List Key × Addr × Value) → Prop := Paired fun p q => p.1 = q.1 ∧ H q.2.1 = some (.tup (p.1.map kV)) ∧ RelV p.2 q.2.2
theorem KT.val {H : Hp} {kvs : List (List Key × V)} {xs : List (List Key × Addr × Value)} (r : KT H kvs xs) (k : List Key) : RelO (valV kvs k) ((atKey xs k).map (·.2)) := by
  induction r with
  | nil => exact True.intro
  | @cons p q ps qs h t ih =>
    obtain ⟨h1, _, h2⟩ := h
    by_cases e : p.1 = k
    · have e' : q.1 = k := h1.symm.trans e
      have b : atKey (q :: qs) k = some q.2 := by simp [atKey, List.find?_cons, e']
      rw [valV_pos e, b]; exact h2
    · have e' : ¬ q.1 = k := fun z => e (h1.trans z)
      have b : atKey (q :: qs) k = atKey qs k := by simp [atKey, List.find?_cons, e']
      rw [valV_neg e, b]; exact ih
theorem KT.repl {H : Hp} {kvs : List (List Key × V)} {xs : List (List Key × Addr × Value)} (r : KT H kvs xs) (k : List Key) {y : V} {u : Value} (ry : RelV y u) :
    KT H (kvs.map fun kv => if kv.1 = k then (kv.1, y) else kv) (xs.map (putAt k u)) := by
  induction r with
  | nil => exact .nil
  | @cons p q ps qs h t ih =>
    rw [List.map_cons, List.map_cons]
    refine .cons ?_ ih
    obtain ⟨h1, h2, h3⟩ := h
    unfold putAt
    by_cases e : p.1 = k
    · rw [if_pos e, if_pos (h1.symm.trans e)]; exact ⟨h1, h2, ry⟩
    · rw [if_neg e, if_neg (fun z => e (h1.trans z))]; exact ⟨h1, h2, h3⟩
theorem KT.put {H : Hp} {kvs : List (List Key × V)} {xs : List (List Key × Addr × Value)} (r : KT H kvs xs) (k : List Key) {b : Addr} {y : V} {u : Value} (hb : H b = some (.tup (k.map kV))) (ry : RelV y u) :
    KT H (putK kvs k y) (storedH xs k b u) := by
  have e : (kvs.any fun kv => decide (kv.1 = k)) = (atKey xs k).isSome := by
    rw [valV_any, (r.val k).isSome_eq, Option.isSome_map]
  unfold putK storedH
  rw [e]
  by_cases q : (atKey xs k).isSome = true
  · rw [if_pos q, if_pos q]; exact r.repl k ry
  · rw [if_neg q, if_neg q]; exact Paired.snoc r ⟨rfl, hb, ry⟩
theorem KT.keeps {H H' : Hp} {kvs : List (List Key × V)} {xs : List (List Key × Addr × Value)} (r : KT H kvs xs) (ht : ∀ b ys, H b = some (.tup ys) → H' b = some (.tup ys)) : KT H' kvs xs :=
  Paired.mapP r fun _ _ z => ⟨z.1, ht _ _ z.2.1, z.2.2⟩

section
variable {P : Program} {w : World} {H : Hp} {h : Heap} {a : Addr}
theorem rd_of {u : HO} (ok : HOk P w H h) (e : Rd H a u) : ObjOk P w H h a u := e.ok ok
theorem dk_rd {kvs : List (Key × V)} (ok : HOk P w H h) (e : Rd H a (.dK kvs)) : kvs.length ≤ sizeLine ∧ (a == sysModules) = false ∧ ∃ vs, KV kvs vs ∧ h.DictOf (mixKind P w) a vs :=
  show ObjOk P w H h a (.dK kvs) from rd_of ok e
theorem key_of {ks : List Key} (ok : HOk P w H h) (e : H a = some (.tup (ks.map kV))) : (tupleKind (mixKind P w)).is h ks a := by
  obtain ⟨_, its, r, o, h1, h2, n, h3⟩ := (show ObjOk P w H h a (.tup (ks.map kV)) from ok a _ e)
  exact ⟨o, its.toArray, n, h1, h2, h3, by simpa using items_are r⟩
theorem dt_rd {kvs : List (List Key × V)} (ok : HOk P w H h) (e : Rd H a (.dT kvs)) : kvs.length ≤ sizeLine ∧ (a == sysModules) = false ∧
    ∃ xs, KT H kvs xs ∧ h.DictOfH (tupleKind (mixKind P w)) a xs := by
  obtain ⟨z, y, xs, r, o, es, ep, h1, h2, h3, h4, h5⟩ := (show ObjOk P w H h a (.dT kvs) from rd_of ok e)
  refine ⟨z, y, xs, r, o, es, ep, h1, h2, h3, h4, fun x hx => ?_, h5⟩
  have all : ∀ {l : List (List Key × V)} {m : List (List Key × Addr × Value)}, KT H l m → ∀ x ∈ m, (tupleKind (mixKind P w)).is h x.1 x.2.1 := by
    intro l m q
    induction q with
    | nil => intro x hx; exact nomatch hx
    | @cons p q ps qs hq t ih =>
      intro x hx
      rcases List.mem_cons.mp hx with e | hx
      · subst e
        exact key_of ok (by rw [← hq.1]; exact hq.2.1)
      · exact ih x hx
  exact all r x hx
end

def DGet (H : Hp) (a : Addr) (y : V) (r : Option V) : Prop :=
  (∃ kvs k, Rd H a (.dK kvs) ∧ y = kV k ∧ r = valV kvs k) ∨ ∃ kvs k b, Rd H a (.dT kvs) ∧ y = .ref b ∧ H b = some (.tup (k.map kV)) ∧ r = valV kvs k
def DPut (H : Hp) (a : Addr) (y v : V) (H' : Hp) : Prop :=
  (∃ kvs k, H a = some (.dK kvs) ∧ y = kV k ∧ kvs.length < sizeLine ∧ H' = upd H a (.dK (putK kvs k v))) ∨
  ∃ kvs k b, H a = some (.dT kvs) ∧ y = .ref b ∧ H b = some (.tup (k.map kV)) ∧ kvs.length < sizeLine ∧ H' = upd H a (.dT (putK kvs k v))
theorem DGet.k {H : Hp} {a : Addr} {kvs : List (Key × V)} {k : Key} (e : H a = some (.dK kvs)) : DGet H a (kV k) (valV kvs k) := .inl ⟨kvs, k, .inl e, rfl, rfl⟩
theorem DGet.t {H : Hp} {a b : Addr} {kvs : List (List Key × V)} {k : List Key} (e : H a = some (.dT kvs)) (eb : H b = some (.tup (k.map kV))) : DGet H a (.ref b) (valV kvs k) := .inr ⟨kvs, k, b, .inl e, rfl, eb, rfl⟩
theorem DPut.k {H : Hp} {a : Addr} {kvs : List (Key × V)} {k : Key} {v : V} (e : H a = some (.dK kvs)) (hl : kvs.length < sizeLine) : DPut H a (kV k) v (upd H a (.dK (putK kvs k v))) := .inl ⟨kvs, k, e, rfl, hl, rfl⟩
theorem DPut.t {H : Hp} {a b : Addr} {kvs : List (List Key × V)} {k : List Key} {v : V} (e : H a = some (.dT kvs)) (eb : H b = some (.tup (k.map kV))) (hl : kvs.length < sizeLine) :
    DPut H a (.ref b) v (upd H a (.dT (putK kvs k v))) := .inr ⟨kvs, k, b, e, rfl, eb, hl, rfl⟩


section
variable {X : Cx} {pins : List (Addr × Obj)} {σ : St} {H : Hp} {s : Shared} {a : Addr} {y v : V} {u r : Value} {o : Option V} {A : Around} {E : Value → Shared → Prop}

theorem d_getItem {Q : Value → Shared → Prop} (hu : A.units + 1 < cLine) (I : Inv X pins σ H s) (g : DGet H a y (some v)) (ry : RelV y u) (h : ∀ w' s', Inv X pins σ H s' → RelV v w' → Q w' s') :
    wpAny (model X.prog X.w) A (getItem (.ref a) u) Q E s := by
  rcases g with ⟨kvs, k, e, ey, l⟩ | ⟨kvs, k, b, e, ey, eb, l⟩
  · subst ey
    obtain ⟨z, hd, vs, rel, dd⟩ := dk_rd I.hok e
    obtain ⟨w', hw, rw'⟩ := RelO.some_of (v := v) (o := valueAt vs k) (by rw [l]; exact rel.val k)
    exact wpAny_getItem_of (kV_is ry) dd.mapOf hw (h w' _ (I.tok _) rw')
  · subst ey
    cases (show u = Value.ref b from ry)
    obtain ⟨z, hd, xs, rel, dd⟩ := dt_rd I.hok e
    obtain ⟨w', hw, rw'⟩ := RelO.some_of (v := v) (o := (atKey xs k).map (·.2)) (by rw [l]; exact rel.val k)
    obtain ⟨p, hp, hp2⟩ := Option.map_eq_some_iff.mp hw
    refine wpAny_getItem_heap (tupleKind_room_in1 hu) (key_of I.hok eb) dd hp ?_
    rw [hp2]
    exact h w' _ (I.tok _) rw'
theorem d_in {Q : Value → Shared → Prop} (hu : A.units + 1 < cLine) (I : Inv X pins σ H s) (g : DGet H a y o) (ry : RelV y u) (h : ∀ s', Inv X pins σ H s' → Q (.bool o.isSome) s') :
    wpAny (model X.prog X.w) A (compareOp .In u (.ref a)) Q E s := by
  rcases g with ⟨kvs, k, e, ey, l⟩ | ⟨kvs, k, b, e, ey, eb, l⟩
  · subst ey
    obtain ⟨z, hd, vs, rel, dd⟩ := dk_rd I.hok e
    refine wpAny_in_of (kV_is ry) hd dd.mapOf ?_
    rw [← (rel.val k).isSome_eq, ← l]
    exact h _ (I.tok _)
  · subst ey
    cases (show u = Value.ref b from ry)
    obtain ⟨z, hd, xs, rel, dd⟩ := dt_rd I.hok e
    refine wpAny_in_heap (tupleKind_room_in1 hu) (key_of I.hok eb) hd dd ?_
    have q := (rel.val k).isSome_eq
    rw [Option.isSome_map] at q
    rw [← q, ← l]
    exact h _ (I.tok _)
end

section
variable {X : Cx} {pins : List (Addr × Obj)} {σ : St} {H : Hp} {s : Shared} {a : Addr} {kvs : List (Key × V)} {k : Key} {u : Value} {A : Around} {E : Value → Shared → Prop}
theorem d_len {Q : Value → Shared → Prop} (I : Inv X pins σ H s) (e : Rd H a (.dK kvs)) (h : ∀ t s', Inv X pins σ H s' → Q (.int kvs.length t) s') : wpAny (model X.prog X.w) A (call (.builtin "len") [.ref a]) Q E s := by
  obtain ⟨z, hd, vs, rel, dd⟩ := dk_rd I.hok e
  refine call_len_dict hd dd (by rw [← rel.length]; rw [sizeLine_eq] at z; omega) ?_
  rw [← rel.length]
  exact h _ _ (I.tok _)
end


def NoSl (i : Expr) : Prop := ∀ ov iv, subscripted i false ov iv = operate [ov, iv] (getItem ov iv)
theorem dict_typeIs {X : Cx} {pins : List (Addr × Obj)} {σ : St} {H : Hp} {s : Shared} {a : Addr} {y : V} {o : Option V} (I : Inv X pins σ H s) (g : DGet H a y o) : s.TypeIs (.ref a) "dict" := by
  rcases g with ⟨kvs, k, e, _, _⟩ | ⟨kvs, k, b, e, _, _, _⟩
  · obtain ⟨_, _, vs, _, dd⟩ := dk_rd I.hok e
    exact dd.typeIs
  · obtain ⟨_, _, xs, _, dd⟩ := dt_rd I.hok e
    exact dd.typeIs
def tDGet (td ty : TE) : TE := fun σ H Q => td σ H fun x H1 => ty σ H1 fun y H2 => ∃ a v, x = .ref a ∧ DGet H2 a y (some v) ∧ Q v H2
def tDIn (ty td : TE) : TE := fun σ H Q => ty σ H fun y H1 => td σ H1 fun x H2 => ∃ a o, x = .ref a ∧ DGet H2 a y o ∧ Q (.bl o.isSome) H2
def tDNotIn (ty td : TE) : TE := fun σ H Q => ty σ H fun y H1 => td σ H1 fun x H2 => ∃ a o, x = .ref a ∧ DGet H2 a y o ∧ Q (.bl (!o.isSome)) H2
def sDPut (td ty tv : TE) : TS := fun D σ H => tv σ H fun v H1 => td σ H1 fun x H2 => ty σ H2 fun y H3 => ∃ a H4, x = .ref a ∧ DPut H3 a y v H4 ∧ D.nx σ H4
def sDAug (td ty tv : TE) (rd : V → V → Hp → VK → Prop) : TS := fun D σ H => td σ H fun x H1 => ty σ H1 fun y H2 => ∃ a v, x = .ref a ∧ DGet H2 a y (some v) ∧
  tv σ H2 fun y2 H3 => rd v y2 H3 fun z H4 => ∃ H5, DPut H4 a y z H5 ∧ D.nx σ H5
def sDDel (td ty : TE) : TS := fun D σ H => td σ H fun x H1 => ty σ H1 fun y H2 => ∃ a kvs k, x = .ref a ∧ H2 a = some (.dK kvs) ∧ y = kV k ∧ (valV kvs k).isSome = true ∧ D.nx σ (upd H2 a (.dK (dropK kvs k)))

section
variable {X : Cx} {o i e value : Expr} {pos pos' tpos : Pos} {td ty tv : TE}
end


def tDNewK : TE := fun _ H Q => ∀ p, H p = none → Q (.ref p) (upd H p (.dK []))
def tDNewT : TE := fun _ H Q => ∀ p, H p = none → Q (.ref p) (upd H p (.dT []))
section
variable {X : Cx} {pos : Pos}
end

def tPairs : List (TE × TE) → St → Hp → (List (V × V) → Hp → Prop) → Prop
  | [], _, H, Q => Q [] H
  | (tk, tv) :: r, σ, H, Q => tk σ H fun x H1 => tv σ H1 fun y H2 => tPairs r σ H2 fun ps H3 => Q ((x, y) :: ps) H3
abbrev VV : List (V × V) → List (Value × Value) → Prop := Paired fun p q => RelV p.1 q.1 ∧ RelV p.2 q.2
def PPs (X : Cx) (pos : Pos) (keys : List (Option Expr)) (values : List Expr) (trs : List (TE × TE)) : Prop :=
  ∀ (pins : List (Addr × Obj)) (s : Shared) (σ : St) (H : Hp) (Q : List (V × V) → Hp → Prop), Inv X pins σ H s → tPairs trs σ H Q →
    wpAny (model X.prog X.w) X.A (evalPairs (pairTrees keys values X.env pos)) (fun vs s' => ∃ ps H', Inv X pins σ H' s' ∧ VV ps vs ∧ Q ps H') X.xe s
def mergeK (kvs more : List (Key × V)) : List (Key × V) := more.foldl (fun acc kv => putK acc kv.1 kv.2) kvs
def tDisp (trs : List (TE × TE)) : TE := fun σ H Q => ∀ p, H p = none → tPairs trs σ (upd H p (.dK [])) fun ps H2 => H2 p = some (.dK []) ∧ ∃ kvs : List (Key × V), ps = kvs.map (fun kv => (kV kv.1, kv.2)) ∧ kvs.length ≤ 15 ∧ Q (.ref p) (upd H2 p (.dK (mergeK [] kvs)))
structure M1 (X : Cx) (o : Expr) (m : Str) (apos : Pos) (e : Expr) (cpos : Pos) : Prop where
  base : attributeBase o m X.env (eval o X.env) = eval o X.env
  few : ((backTo cpos (starEach [e] X.env)).all (fun x => !x.1) && (backToKw cpos (keywordEach [] X.env)).all (fun x => x.1.isSome)
    && decide (([e] : List Expr).length + ([] : List Keyword).length + (if ([] : List Keyword).isEmpty then 0 else 1) < 30)) = true
  line : (apos.endLine == cpos.line) = true
  trees : backTo cpos (starEach [e] X.env) = [(false, eval e X.env)]
structure M2 (X : Cx) (o : Expr) (m : Str) (apos : Pos) (e f : Expr) (cpos : Pos) : Prop where
  base : attributeBase o m X.env (eval o X.env) = eval o X.env
  few : ((backTo cpos (starEach [e, f] X.env)).all (fun x => !x.1) && (backToKw cpos (keywordEach [] X.env)).all (fun x => x.1.isSome)
    && decide (([e, f] : List Expr).length + ([] : List Keyword).length + (if ([] : List Keyword).isEmpty then 0 else 1) < 30)) = true
  line : (apos.endLine == cpos.line) = true
  trees : backTo cpos (starEach [e, f] X.env) = [(false, eval e X.env), (false, eval f X.env)]

def IsD (H : Hp) (a : Addr) : Prop := (∃ kvs, Rd H a (.dK kvs)) ∨ ∃ kvs, Rd H a (.dT kvs)
section
variable {X : Cx} {pins : List (Addr × Obj)} {σ : St} {H : Hp} {s : Shared} {a : Addr} {y d : V} {u r : Value} {o : Option V} {A : Around} {E : Value → Shared → Prop}
end

def tDGet1 (td ty : TE) : TE := fun σ H Q => td σ H fun x H1 => ∃ a, x = .ref a ∧ IsD H1 a ∧ ty σ H1 fun y H2 => ∃ o, DGet H2 a y o ∧ Q (o.getD .non) H2
def tDGet2 (td ty tx : TE) : TE := fun σ H Q => td σ H fun x H1 => ∃ a, x = .ref a ∧ IsD H1 a ∧ ty σ H1 fun y H2 => tx σ H2 fun z H3 => ∃ o, DGet H3 a y o ∧ Q (o.getD z) H3
def tDPop1 (td ty : TE) : TE := fun σ H Q => td σ H fun x H1 => ∃ a, x = .ref a ∧ IsD H1 a ∧ ty σ H1 fun y H2 => ∃ kvs k v, H2 a = some (.dK kvs) ∧ y = kV k ∧ valV kvs k = some v ∧ Q v (upd H2 a (.dK (dropK kvs k)))
def tDPop2 (td ty tx : TE) : TE := fun σ H Q => td σ H fun x H1 => ∃ a, x = .ref a ∧ IsD H1 a ∧ ty σ H1 fun y H2 => tx σ H2 fun z H3 => ∃ kvs k, H3 a = some (.dK kvs) ∧ y = kV k ∧
  (∀ v, valV kvs k = some v → Q v (upd H3 a (.dK (dropK kvs k)))) ∧ (valV kvs k = none → Q z H3)
section
variable {X : Cx} {o e f : Expr} {apos cpos : Pos} {td ty tx : TE}
end

section
variable {X : Cx} {pins : List (Addr × Obj)} {σ : St} {H : Hp} {s : Shared} {a : Addr} {kvs : List (Key × V)} {A : Around} {E : Value → Shared → Prop}
end


section
variable {X : Cx} {pins : List (Addr × Obj)} {σ : St} {H : Hp} {s : Shared} {a : Addr} {y : V} {u : Value} {A : Around} {E : Value → Shared → Prop}
end
end L2

namespace Att
open PySem PySem.W PySem.Calls PyProof.Rows

section
variable {prog : Program} {w : World} {A : Around} {E : Value → Shared → Prop} {s : Shared} {K : Frag}

end
end Att

namespace L2
open PySem PySem.Spec PyProof.Rows

end L2

namespace L2
open PySem PySem.Spec PyProof.Rows

end L2

namespace L2
open PySem PySem.Spec PyProof.Rows

section
variable {P : Program} {w : World} {K : PySem.W.Frag} {mg : Str → Option Value} {base : Heap}
end
section
variable {X : Cx}
theorem call_lenD : CallR X (.builtin "len") (fun xs H Q => ∃ a kvs, xs = [V.ref a] ∧ H a = some (.dK kvs) ∧ Q (.int kvs.length) H) := by
  intro pins s σ H xs us Q I r h
  obtain ⟨a, kvs, rfl, ha, q⟩ := h
  obtain ⟨u, rfl, ru⟩ := vals1 r
  cases ru
  exact d_len I (.inl ha) fun t s' I' => ⟨.int kvs.length, H, I', ⟨t, rfl⟩, q⟩
end

section
variable {κ : Type} [DecidableEq κ]
theorem valV_not {kvs : List (κ × V)} {k : κ} (h : valV kvs k = none) : ¬ k ∈ kvs.map (·.1) := by
  intro m
  obtain ⟨p, hp, e⟩ := List.mem_map.mp m
  have q : (kvs.any fun kv => decide (kv.1 = k)) = true := List.any_eq_true.mpr ⟨p, hp, decide_eq_true e⟩
  rw [valV_any, h] at q
  exact absurd q (by simp)
theorem valV_in {kvs : List (κ × V)} {k : κ} {v : V} (h : valV kvs k = some v) : k ∈ kvs.map (·.1) := by
  have q : (kvs.any fun kv => decide (kv.1 = k)) = true := by
    rw [valV_any, h]
    all_goals rfl
  obtain ⟨p, hp, e⟩ := List.any_eq_true.mp q
  exact List.mem_map.mpr ⟨p, hp, of_decide_eq_true e⟩
theorem dropK_pos {p : κ × V} {r : List (κ × V)} {k : κ} (e : p.1 = k) : dropK (p :: r) k = dropK r k := by
  unfold dropK
  rw [List.filter_cons, if_neg (by simp [e])]
theorem dropK_neg {p : κ × V} {r : List (κ × V)} {k : κ} (e : ¬ p.1 = k) : dropK (p :: r) k = p :: dropK r k := by
  unfold dropK
  rw [List.filter_cons, if_pos (by simp [e])]
end
end L2

set_option Elab.async false
set_option linter.all false
set_option maxRecDepth 100000
set_option maxHeartbeats 4000000
namespace L2
open PySem PySem.Spec PyProof.Rows

/-! ### a comprehension's block -/
def closOf (cells : List (Str × Addr)) : List (Str × NameKind) → List (Str × Addr) → List (Str × Addr)
  | [], cs => cs
  | (n, k) :: r, cs => if k = NameKind.free then (match cells.lookup n with | some a => closOf cells r ((n, a) :: cs) | none => closOf cells r cs) else closOf cells r cs
theorem closOf_pure {env : Env} : ∀ (names : List (Str × NameKind)) (cs : List (Str × Addr)), (∀ y ∈ names, y.2 = NameKind.free → ∃ c, env.cells.lookup y.1 = some c) →
    (forIn names cs fun (x : Str × NameKind) r => match x with
      | (name, kind) => if (kind == NameKind.free) = true then do let a ← cellOf env name; pure (ForInStep.yield ((name, a) :: r)) else pure (ForInStep.yield r)) = (pure (closOf env.cells names cs) : Sem (List (Str × Addr)))
  | [], cs, _ => rfl
  | (n, k) :: r, cs, h => by
    have ih := fun cs' => closOf_pure (env := env) r cs' fun y hy => h y (List.mem_cons_of_mem _ hy)
    rw [List.forIn_cons]
    by_cases hk : k = NameKind.free
    · obtain ⟨c, hc⟩ := h (n, k) List.mem_cons_self hk
      have hc' : env.cells.lookup n = some c := hc
      have hcell : cellOf env n = pure c := by unfold cellOf; rw [hc']
      have e1 : closOf env.cells ((n, k) :: r) cs = closOf env.cells r ((n, c) :: cs) := by
        rw [closOf, if_pos hk, hc']
      rw [e1, ← ih ((n, c) :: cs)]
      subst hk
      dsimp only
      rw [hcell]
      rfl
    · have hb : (k == NameKind.free) = false := by simpa using hk
      have e1 : closOf env.cells ((n, k) :: r) cs = closOf env.cells r cs := by
        rw [closOf, if_neg hk]
      rw [e1, ← ih cs]
      dsimp only
      rw [hb]
      rfl
theorem closure_is {scope : Scope} {env : Env} (h : ∀ y ∈ scope.names, y.2 = NameKind.free → ∃ c, env.cells.lookup y.1 = some c) : closureFor scope env = pure (closOf env.cells scope.names []) := by
  have e := closOf_pure (env := env) scope.names [] h
  unfold closureFor
  exact (congrArg (fun t : Sem (List (Str × Addr)) => t >>= fun s => pure s) e).trans rfl
theorem closOf_sound {cells : List (Str × Addr)} : ∀ (names : List (Str × NameKind)) (cs : List (Str × Addr)), (∀ x c, cs.lookup x = some c → cells.lookup x = some c) → ∀ x c, (closOf cells names cs).lookup x = some c → cells.lookup x = some c
  | [], cs, h, x, c, e => h x c e
  | (n, k) :: r, cs, h, x, c, e => by
    by_cases hk : k = NameKind.free
    · cases q : cells.lookup n with
      | none =>
        rw [closOf, if_pos hk, q] at e
        exact closOf_sound r cs h x c e
      | some a =>
        rw [closOf, if_pos hk, q] at e
        refine closOf_sound r _ (fun y d z => ?_) x c e
        rw [List.lookup_cons] at z
        by_cases hy : (y == n) = true
        · rw [hy] at z
          have hy' : y = n := by simpa using hy
          subst hy'
          exact q.trans z
        · have hy' : (y == n) = false := by simpa using hy
          rw [hy'] at z
          exact h y d z
    · rw [closOf, if_neg hk] at e
      exact closOf_sound r cs h x c e
theorem closOf_keep {cells : List (Str × Addr)} : ∀ (names : List (Str × NameKind)) (cs : List (Str × Addr)) (x : Str), (cs.lookup x).isSome = true → ((closOf cells names cs).lookup x).isSome = true
  | [], cs, x, h => h
  | (n, k) :: r, cs, x, h => by
    by_cases hk : k = NameKind.free
    · cases q : cells.lookup n with
      | none => rw [closOf, if_pos hk, q]; exact closOf_keep r cs x h
      | some a =>
        rw [closOf, if_pos hk, q]
        refine closOf_keep r _ x ?_
        rw [List.lookup_cons]
        cases hy : x == n with
        | true => rfl
        | false => exact h
    · rw [closOf, if_neg hk]; exact closOf_keep r cs x h
theorem closOf_has {cells : List (Str × Addr)} : ∀ (names : List (Str × NameKind)) (cs : List (Str × Addr)) (x : Str), (x, NameKind.free) ∈ names → (cells.lookup x).isSome = true → ((closOf cells names cs).lookup x).isSome = true
  | [], cs, x, h, _ => by simp at h
  | (n, k) :: r, cs, x, h, hc => by
    rcases List.mem_cons.mp h with e | e
    · cases e
      obtain ⟨c, hc'⟩ := Option.isSome_iff_exists.mp hc
      rw [closOf, if_pos rfl, hc']
      refine closOf_keep r _ _ ?_
      rw [List.lookup_cons, beq_self_eq_true]
      rfl
    · by_cases hk : k = NameKind.free
      · cases q : cells.lookup n with
        | none => rw [closOf, if_pos hk, q]; exact closOf_has r cs x e hc
        | some a => rw [closOf, if_pos hk, q]; exact closOf_has r _ x e hc
      · rw [closOf, if_neg hk]; exact closOf_has r cs x e hc
theorem lookup_mem {α : Type} : ∀ {l : List (Str × α)} {x : Str} {a : α}, l.lookup x = some a → (x, a) ∈ l
  | [], x, a, h => by simp at h
  | (n, k) :: r, x, a, h => by
    rw [List.lookup_cons] at h
    cases hx : x == n with
    | true =>
      rw [hx] at h
      have e : x = n := by simpa using hx
      subst e
      cases h
      exact List.mem_cons_self
    | false =>
      rw [hx] at h
      exact List.mem_cons_of_mem _ (lookup_mem h)
/-- a name's kind within the block, from its kind in the comprehension's own table -/
theorem relabel_kind {env : Env} : ∀ (names : List (Str × NameKind)) (x : Str) (k : NameKind),
    (names.map fun (p : Str × NameKind) => match p with | (n, k) => if (k == NameKind.free && env.scope.kind == .function && env.kindOf n == some .cell) then (n, NameKind.cell) else (n, k)).lookup x = some k →
      names.lookup x = some k ∨ (k = .cell ∧ names.lookup x = some .free)
  | [], x, k, h => by simp at h
  | (n, k₀) :: r, x, k, h => by
    rw [List.map_cons] at h
    dsimp only at h
    cases hx : x == n with
    | true =>
      rw [List.lookup_cons, hx]
      by_cases hc : (k₀ == NameKind.free && env.scope.kind == .function && env.kindOf n == some .cell) = true
      · rw [if_pos hc, List.lookup_cons, hx] at h
        cases h
        have : k₀ = .free := by
          simp only [Bool.and_eq_true] at hc
          simpa using hc.1.1
        subst this
        exact .inr ⟨rfl, rfl⟩
      · rw [if_neg hc, List.lookup_cons, hx] at h
        exact .inl h
    | false =>
      rw [List.lookup_cons, hx]
      by_cases hc : (k₀ == NameKind.free && env.scope.kind == .function && env.kindOf n == some .cell) = true
      · rw [if_pos hc, List.lookup_cons, hx] at h
        exact relabel_kind r x k h
      · rw [if_neg hc, List.lookup_cons, hx] at h
        exact relabel_kind r x k h
theorem relabel_free {env : Env} : ∀ (names : List (Str × NameKind)) (x : Str), names.lookup x = some .free →
    (names.map fun (p : Str × NameKind) => match p with | (n, k) => if (k == NameKind.free && env.scope.kind == .function && env.kindOf n == some .cell) then (n, NameKind.cell) else (n, k)).lookup x = some .free ∨
    (names.map fun (p : Str × NameKind) => match p with | (n, k) => if (k == NameKind.free && env.scope.kind == .function && env.kindOf n == some .cell) then (n, NameKind.cell) else (n, k)).lookup x = some .cell
  | [], x, h => by simp at h
  | (n, k₀) :: r, x, h => by
    rw [List.map_cons]
    dsimp only
    cases hx : x == n with
    | true =>
      rw [List.lookup_cons, hx] at h
      cases h
      by_cases hc : (NameKind.free == NameKind.free && env.scope.kind == .function && env.kindOf n == some .cell) = true
      · rw [if_pos hc, List.lookup_cons, hx]
        exact .inr rfl
      · rw [if_neg hc, List.lookup_cons, hx]
        exact .inl rfl
    | false =>
      rw [List.lookup_cons, hx] at h
      by_cases hc : (k₀ == NameKind.free && env.scope.kind == .function && env.kindOf n == some .cell) = true
      · rw [if_pos hc, List.lookup_cons, hx]
        exact relabel_free r x h
      · rw [if_neg hc, List.lookup_cons, hx]
        exact relabel_free r x h

def hideN (x y : Str) : Str := if y = x then Str.empty else y
/-- the context of a comprehension's block: its own name in the first slot, then those of the def (M: the def's names, the block's own one hidden) -/
abbrev blk (X : Cx) (x : Str) (scope : Scope) (M : List Str) (C : Addr) (s₀ : Shared) (H₀ : Hp) (fp : List Addr) : Cx :=
  { X with N := x :: M, s₀ := s₀, H₀ := H₀, env := compEnvC scope (closOf X.env.cells scope.names []) C X.env, outer := X.stack, stack := X.stack, ex := fp, fn := fun _ => false, pn := [], xe := fun _ _ => False }

/-- what is asked of a comprehension's table: sc is the def's own one -/
structure CompOk (N M : List Str) (sc : Scope) (x : Str) (scope : Scope) : Prop where
  kind : scope.kind = .function
  cell : ∀ y ∈ scope.names, y.2 ≠ .cell
  names : ∀ y ∈ scope.names, y.2 = .local → scope.names.lookup y.1 = some .local
  own : scope.names.lookup x = some .local
  free : ∀ y ∈ scope.names, y.2 = .free → sc.names.lookup y.1 = some .cell ∨ sc.names.lookup y.1 = some .free
  hid : N.map (hideN x) = M
  nd : (x :: M).Nodup
  others : ∀ y ∈ M, scope.names.lookup y ≠ some .local
  void : scope.names.lookup Str.empty = none

def tComp (wi : TI) (tt : TT) (te : TE) : TE := fun σ H Q => wi σ H fun J H1 => ∀ D, H1 D = none → ∃ W : Nat → Nat → List V → Hp → Prop, (∃ m, W 0 m [] (upd H1 D (.lst []))) ∧ ∀ i m ys H2, W i m ys H2 →
  (J.stop i H2 ∧ H2 D = some (.lst ys) ∧ Q (.ref D) H2) ∨ (J.go i H2 ∧ ys.length < sizeLine ∧ ∀ x H3, J.yld i H2 x H3 → tt (some x :: σ) H3 fun b H4 =>
    if b = true then te (some x :: σ) H4 fun y H5 => H5 D = some (.lst ys) ∧ ∃ m', m' < m ∧ W (i + 1) m' (ys ++ [y]) (upd H5 D (.lst (ys ++ [y]))) else ∃ m', m' < m ∧ W (i + 1) m' ys H4)
def tYes : TT := fun _ H Q => Q true H

section
variable {prog : Program} {w : World} {A : Around} {R : Result → Shared → Prop} {s : Shared}
theorem compLoop_go {elt target iter : Expr} {ifs : List Expr} {scope : Scope} {pos : Pos} {it acc : Value} {env : Env} (Jv : Nat → Shared → Prop)
    (turn : ∀ n s, Jv n s → wpAny (model prog w) A (pyNext it) (fun r s₁ => match r with
      | none => R (.ok .next) s₁
      | some v => wpAny (model prog w) A (letOwnedTupleGo target it v) (fun _ s₀ => wpAny (model prog w) A (assign target env v) (fun _ s₂ =>
          wpAny (model prog w) A (forIn ifs true fun c r => if r = true then do let ok ← isTrue c env (eval c env); pure (ForInStep.yield ok) else pure (ForInStep.yield r)) (fun ok s₃ =>
            if ok = true then wpAny (model prog w) A (eval elt env) (fun x s₄ => wpAny (model prog w) A (call (.builtin "list.append") [acc, x]) (fun _ s₅ => ∃ m, m < n ∧ Jv m s₅) (fun _ _ => False) s₄) (fun _ _ => False) s₃
            else ∃ m, m < n ∧ Jv m s₃) (fun _ _ => False) s₂) (fun _ _ => False) s₀) (fun _ _ => False) s₁) (fun _ _ => False) s)
    (n : Nat) (h : Jv n s) : codeAny (model prog w) A (.compLoop (.ListComp elt [⟨target, iter, ifs, 0⟩] scope pos) 0 it acc env) R s := by
  have no : ∀ {α : Type} {t : Sem α} {Q : α → Shared → Prop} {E : Value → Shared → Prop} {s' : Shared}, wpAny (model prog w) A t Q (fun _ _ => False) s' → wpAny (model prog w) A t Q E s' := fun h => wpAny_mono h (fun _ _ q => q) fun _ _ f => f.elim
  refine codeAny_loop rfl Jv (fun n s hI => ?_) n h
  refine wpAny_noted (env := env) ?_
  rw [compTurn_list]
  refine wpAny_bind (wpAny_standAt (wpAny_bind (thn (no (turn n s hI)) fun r s₁ h₁ => ?_)))
  cases r with
  | none => exact wpAny_pure h₁
  | some v =>
    refine wpAny_bind (thn (no h₁) fun _ s₀ h₀ => wpAny_bind (thn (no h₀) fun _ s₂ h₂ => wpAny_bind (thn (no h₂) fun ok s₃ h₃ => ?_)))
    cases ok with
    | false => exact wpAny_pure ⟨rfl, h₃⟩
    | true => exact wpAny_bind (wpAny_bind (thn (no h₃) fun x s₄ h₄ => wpAny_bind (thn (no h₄) fun _ s₅ h₅ => wpAny_pure (wpAny_pure ⟨rfl, h₅⟩))))
end

section
variable {X : Cx} {pins : List (Addr × Obj)} {σ : St} {H2 : Hp} {s2 : Shared} {E : Value → Shared → Prop}
theorem blk_ok {N M : List Str} {sc scope : Scope} {x : Str} {C : Addr} {H : Hp} {s : Shared} {fp : List Addr} (I : Inv X pins σ H s) (hsc : X.env.scope = sc) (O : CompOk N M sc x scope) (hC : s.heap.objs.size ≤ C)
    (hf : ∀ b ∈ fp, FpOk X pins H b) (hlt : ∀ b ∈ fp, b < s.heap.objs.size) : (blk X x scope M C s H fp).Ok where
  mod := I.ok.mod
  kind := O.kind
  glob := I.ok.glob
  blt := I.ok.blt
  above := hC
  inj := fun y z c e1 e2 => I.ok.inj y z c (closOf_sound _ _ (fun _ _ z => by simp at z) _ _ e1) (closOf_sound _ _ (fun _ _ z => by simp at z) _ _ e2)
  has := fun y hy => by
    have q : scope.names.lookup y = some .free := by
      rcases hy with hy | hy
      · rcases relabel_kind _ _ _ hy with z | ⟨_, z⟩
        · exact absurd rfl (O.cell _ (lookup_mem z))
        · exact z
      · rcases relabel_kind _ _ _ hy with z | ⟨z, _⟩
        · exact z
        · cases z
    have q2 := O.free _ (lookup_mem q) rfl
    rw [← hsc] at q2
    obtain ⟨c, hc⟩ := I.ok.has y q2
    exact Option.isSome_iff_exists.mp (closOf_has _ _ _ (lookup_mem q) (by rw [hc]; rfl))
  cab := fun y c h => by cases h
  hd := I.ok.hd
  frames := I.ok.frames
  stk := .inl rfl
  exf := fun b hb => ⟨Nat.ne_of_lt (Nat.lt_of_lt_of_le (hlt b hb) hC), fun y c e => (hf b hb).2.2.2.2.1 y c (closOf_sound _ _ (fun _ _ z => by simp at z) _ _ e)⟩
  bs := I.bs
  bsz := Nat.le_trans I.ok.bsz I.sz
  noex := fun b o e hb => by
    rcases (hf b hb).2.2.2.1 with z | z
    · exact I.ok.noex b o e z
    · exact absurd (Nat.lt_of_lt_of_le (Heap.lt_size (I.ok.bs b o e).1) z) (Nat.lt_irrefl _)
  exfs := fun b hb z => by
    obtain ⟨_, f1, f2, _⟩ := hf b hb
    exact (List.mem_cons.mp (I.stkSub b z)).elim f1 f2
  funs := I.stack
  frf := I.stkFree

theorem blk_inv {N M : List Str} {sc scope : Scope} {x : Str} {H : Hp} {s : Shared} {fp : List Addr} {h' : Heap} {tk : Nat} (I : Inv X pins σ H s) (hX : X.N = N) (hsc : X.env.scope = sc) (O : CompOk N M sc x scope)
    (hf : ∀ b ∈ fp, FpOk X pins H b) (hlt : ∀ b ∈ fp, b < s.heap.objs.size) {m : Str → Option Value} (hns : h'.Ns s.heap.objs.size m) (k : ∀ b u, s.heap.get? b = some u → h'.get? b = some u) :
    Inv (blk X x scope M s.heap.objs.size s H fp) [] (none :: σ) H { s with heap := h', toks := tk } where
  ok := blk_ok I hsc O (Nat.le_refl _) hf hlt
  os := rfl
  bare := I.bare
  base := Un.kept k
  loc := by
    refine ⟨m, hns, fun i y v e1 e2 e3 => ?_⟩
    cases i with
    | zero => simp at e2
    | succ i =>
      have e1' : M[i]? = some y := by simpa using e1
      have e2' : σ[i]? = some (some v) := by simpa using e2
      have hyM : y ∈ M := List.mem_of_getElem? e1'
      have hfree : scope.names.lookup y = some .free := by
        rcases e3 with e3 | e3 | e3
        · rcases relabel_kind _ _ _ e3 with z | ⟨z, _⟩
          · exact absurd z (O.others y hyM)
          · cases z
        · rcases relabel_kind _ _ _ e3 with z | ⟨_, z⟩
          · exact absurd rfl (O.cell _ (lookup_mem z))
          · exact z
        · rcases relabel_kind _ _ _ e3 with z | ⟨z, _⟩
          · exact z
          · cases z
      have hN : X.N[i]? = some y := by
        rw [hX]
        rw [← O.hid, List.getElem?_map] at e1'
        cases q : N[i]? with
        | none => rw [q] at e1'; cases e1'
        | some z =>
          rw [q] at e1'
          have e4 : hideN x z = y := Option.some.inj e1'
          unfold hideN at e4
          by_cases hz : z = x
          · rw [if_pos hz] at e4
            rw [← e4, O.void] at hfree
            cases hfree
          · rw [if_neg hz] at e4
            rw [e4]
      have q2 := O.free _ (lookup_mem hfree) rfl
      rw [← hsc] at q2
      have hvis : Vis X.env.scope y := q2.elim (fun z => .inr (.inl z)) fun z => .inr (.inr z)
      obtain ⟨m0, hn0, hl⟩ := I.loc
      obtain ⟨u, r, l⟩ := hl i y v hN e2' hvis
      refine ⟨u, r, ?_⟩
      rcases l with ⟨l, _⟩ | ⟨l, c, hc, z⟩
      · exfalso
        have l' : X.env.scope.names.lookup y = some .local := l
        rcases q2 with q2 | q2
        · have q2' : X.env.scope.names.lookup y = some .cell := q2
          rw [l'] at q2'; cases q2'
        · have q2' : X.env.scope.names.lookup y = some .free := q2
          rw [l'] at q2'; cases q2'
      · have hsome := closOf_has scope.names [] y (lookup_mem hfree) (cells := X.env.cells) (by rw [hc]; rfl)
        obtain ⟨c', hc'⟩ := Option.isSome_iff_exists.mp hsome
        have e5 := closOf_sound _ _ (fun _ _ z => by simp at z) _ _ hc'
        rw [hc] at e5
        cases e5
        obtain ⟨o, ho, hd⟩ := z
        refine .inr ⟨?_, c, hc', o, k c o ho, hd⟩
        rcases relabel_free (env := X.env) _ _ hfree with z | z
        · exact .inr z
        · exact .inl z
  cell := fun y c e => by
    obtain ⟨v, o, ho, hd⟩ := I.cell y c (closOf_sound _ _ (fun _ _ z => by simp at z) _ _ e)
    exact ⟨v, o, k c o ho, hd⟩
  free := I.hok.fresh (Nat.le_refl _)
  freeC := fun y c e => I.freeC y c (closOf_sound _ _ (fun _ _ z => by simp at z) _ _ e)
  pin := fun p hp => by simp at hp
  hok := I.hok.kept k
  len := by
    have e : N.length = M.length := by rw [← O.hid, List.length_map]
    simp only [List.length_cons]
    rw [I.len, hX, e]

variable {elt iter : Expr} {ifs : List Expr} {x : Str} {px pos : Pos} {N M : List Str} {sc scope : Scope} {tt : TT} {te : TE} {it : Addr} {fp : List Addr} {tn : Nat → Heap → Prop} {J : It}
theorem comp_block (hcalm : X.calm = true) (hX : X.N = N) (hsc : X.env.scope = sc) (O : CompOk N M sc x scope)
    (hts : ∀ (C : Addr) (s₀ : Shared) (H₀ : Hp) (fp : List Addr) (pins : List (Addr × Obj)) (s : Shared) (σ : St) (H : Hp) (Q : Bool → Hp → Prop), Inv (blk X x scope M C s₀ H₀ fp) pins σ H s → tt σ H Q →
      wpAny (model X.prog X.w) X.A (forIn ifs true fun c r => if r = true then do let ok ← isTrue c (blk X x scope M C s₀ H₀ fp).env (eval c (blk X x scope M C s₀ H₀ fp).env); pure (ForInStep.yield ok) else pure (ForInStep.yield r)) (TP (blk X x scope M C s₀ H₀ fp) pins σ Q) (fun _ _ => False) s)
    (hel : ∀ (C : Addr) (s₀ : Shared) (H₀ : Hp) (fp : List Addr), PE (blk X x scope M C s₀ H₀ fp) elt te)
    (I2 : Inv X pins σ H2 s2) (T : Turn X.prog X.w X.K (.Name x px) J fp it tn) (st2 : tn 0 s2.heap) (f2 : ∀ b ∈ fp, FpOk X pins H2 b) {Qd : Addr → Hp → Prop}
    (q : ∀ D, H2 D = none → ∃ W : Nat → Nat → List V → Hp → Prop, (∃ m, W 0 m [] (upd H2 D (.lst []))) ∧ ∀ i m ys H3, W i m ys H3 →
      (J.stop i H3 ∧ H3 D = some (.lst ys) ∧ Qd D H3) ∨ (J.go i H3 ∧ ys.length < sizeLine ∧ ∀ x H4, J.yld i H3 x H4 → tt (some x :: σ) H4 fun b H5 =>
        if b = true then te (some x :: σ) H5 fun y H6 => H6 D = some (.lst ys) ∧ ∃ m', m' < m ∧ W (i + 1) m' (ys ++ [y]) (upd H6 D (.lst (ys ++ [y]))) else ∃ m', m' < m ∧ W (i + 1) m' ys H5))
    {RR : Value → Addr → Result → Shared → Prop} (hRR : ∀ D C H' s', Inv X pins σ H' s' → FpOk X pins H' C → (∃ m, s'.heap.Ns C m) → Qd D H' → RR (.ref D) C (.ok .next) s') :
    wpAny (model X.prog X.w) X.A (newList []) (fun acc s₃ => wpAny (model X.prog X.w) X.A (newFunctionEnv scope X.env.globals (closOf X.env.cells scope.names []) [] X.env.qual none .none (some X.env)) (fun cenv s₄ =>
      codeAny (model X.prog X.w) X.A (.compStart (.ListComp elt [⟨.Name x px, iter, ifs, 0⟩] scope pos) 0 (.ref it) acc { cenv with scope := relabel scope X.env }) (RR acc cenv.locals) s₄) E s₃) E s2 := by
  have hlt2 : ∀ b ∈ fp, b < s2.heap.objs.size := fun b hb => let ⟨o, e, _⟩ := T.obj _ _ st2 b hb; Heap.lt_size e
  have nD : H2 s2.heap.objs.size = none := I2.hok.fresh (Nat.le_refl _)
  obtain ⟨W, ⟨m0, w0⟩, turn⟩ := q s2.heap.objs.size nD
  have I3 := I2.lnew (its := []) (ys := []) (t' := s2.toks) .nil (Nat.zero_le _)
  refine wpAny_newObj_type (wpAny_newFunctionEnv O.cell (by intro y hy; simp at hy) (fun h₁ hns₁ hsb₁ => ?_) O.kind)
  dsimp only at hns₁ hsb₁ ⊢
  generalize hs3 : ({ s2 with heap := s2.heap.push { cls := .type "list", data := .seq ([] : List Value).toArray }, toks := s2.toks } : Shared) = s3 at I3
  have eh : s3.heap = s2.heap.push { cls := .type "list", data := .seq ([] : List Value).toArray } := by rw [← hs3]
  have es : s3 = { s2 with heap := s2.heap.push { cls := .type "list", data := .seq ([] : List Value).toArray } } := hs3.symm
  have k1 : ∀ b u, s3.heap.get? b = some u → h₁.get? b = some u := fun b u e => by
    refine hsb₁.extBut b u ?_ (Heap.get?_push_of_some _ (by rw [← eh]; exact e))
    rw [← eh]
    exact Nat.ne_of_lt (Heap.lt_size e)
  have f3 : ∀ b ∈ fp, FpOk X pins (upd H2 s2.heap.objs.size (.lst [])) b := fun b hb => ⟨by rw [upd_ne (Nat.ne_of_lt (hlt2 b hb))]; exact (f2 b hb).1, (f2 b hb).2⟩
  have hlt3 : ∀ b ∈ fp, b < s3.heap.objs.size := fun b hb => by
    rw [eh, Heap.size_push]
    exact Nat.lt_succ_of_lt (hlt2 b hb)
  have st3 : tn 0 h₁ := T.keep _ _ _ st2 fun b hb o e => k1 b o (by rw [eh]; exact Heap.get?_push_of_some _ e)
  have hns3 : h₁.Ns s3.heap.objs.size (fun x => ([] : List (Str × Value)).reverse.lookup x) := by rw [eh]; exact hns₁
  have IB := blk_inv (tk := s2.toks) I3 hX hsc O f3 hlt3 hns3 k1
  have eC : s3.heap.objs.size = (s2.heap.push { cls := .type "list", data := .seq ([] : List Value).toArray }).objs.size := by rw [eh]
  have stat : ∀ {H' : Hp}, (∀ b ∈ fp, H' b = none) → ∀ b ∈ fp, FpOk (blk X x scope M s3.heap.objs.size s3 (upd H2 s2.heap.objs.size (.lst [])) fp) [] H' b := fun hn b hb => by
    obtain ⟨g0, g1, g2, g3, g4, g5⟩ := f3 b hb
    exact ⟨hn b hb, Nat.ne_of_lt (hlt3 b hb), fun z => (List.mem_cons.mp (I3.stkSub b z)).elim g1 g2, .inl hb, fun y c e => g4 y c (closOf_sound _ _ (fun _ _ z => by simp at z) _ _ e), fun p hp => by simp at hp⟩
  have loop : ∀ s4 : Shared, s4 = { s3 with heap := h₁, toks := s2.toks } →
      codeAny (model X.prog X.w) X.A (.compLoop (.ListComp elt [⟨.Name x px, iter, ifs, 0⟩] scope pos) 0 (.ref it) (.ref s2.heap.objs.size) (compEnvC scope (closOf X.env.cells scope.names []) s3.heap.objs.size X.env))
        (RR (.ref s2.heap.objs.size) s3.heap.objs.size) s4 := by
    rintro s4 rfl
    refine compLoop_go (fun n s' => ∃ i ys o H', Inv (blk X x scope M s3.heap.objs.size s3 (upd H2 s2.heap.objs.size (.lst [])) fp) [] (o :: σ) H' s' ∧ tn i s'.heap ∧ (∀ b ∈ fp, H' b = none) ∧ W i n ys H') ?_ m0
      ⟨0, [], none, _, IB, st3, fun b hb => (f3 b hb).1, w0⟩
    rintro n s5 ⟨i, ys, o, H5, I5, st5, fr5, w5⟩
    rcases turn i n ys H5 w5 with ⟨stop, hD, qd⟩ | ⟨go, hz, step⟩
    · refine thn (T.done (blk X x scope M s3.heap.objs.size s3 (upd H2 s2.heap.objs.size (.lst [])) fp) rfl rfl rfl hcalm i [] s5 _ H5 _ I5 (stat fr5) st5 stop) fun r s6 ⟨hr, I6⟩ => ?_
      subst hr
      have IX := I3.call' I6.os I6.base I6.hok I6.bare fun b hb => let ⟨_, g1, _, g3, g4, g5⟩ := f3 b hb; ⟨g3, g1, g4, g5⟩
      obtain ⟨mm, hmm, _⟩ := I6.loc
      exact hRR _ _ H5 s6 IX (I3.fpOk (Nat.le_refl _) I6.free) ⟨mm, hmm⟩ qd
    · refine thn (T.item (blk X x scope M s3.heap.objs.size s3 (upd H2 s2.heap.objs.size (.lst [])) fp) rfl rfl rfl hcalm i [] s5 _ H5 _ I5 (stat fr5) st5 go) fun r s6 ⟨u, hr, h6⟩ => ?_
      subst hr
      refine thn h6 fun _ s7 ⟨y, H7, I7, r7, y7, st7, fr7⟩ => ?_
      have I7' := I7.pinned (stat fr7) (T.obj _ _ st7)
      refine wpAny_assign_Name (store_ok (i := 0) I7' O.nd rfl (.inl (lookup_relabel_local O.own)) r7 (fun s8 I8 => ?_) (.inr (lookup_relabel_local O.own)))
      have I8' : Inv (blk X x scope M s3.heap.objs.size s3 (upd H2 s2.heap.objs.size (.lst [])) fp) ([] ++ pinsAt fp s7.heap) (some y :: σ) H7 s8 := I8
      refine thn (hts _ _ _ _ _ s8 _ H7 _ I8' (step y H7 y7)) fun ok s9 ⟨H9, I9, q9⟩ => ?_
      have again : ∀ {ys' : List V} {H' : Hp} {s' : Shared} {m : Nat}, Inv (blk X x scope M s3.heap.objs.size s3 (upd H2 s2.heap.objs.size (.lst [])) fp) ([] ++ pinsAt fp s7.heap) (some y :: σ) H' s' → m < n → W (i + 1) m ys' H' →
          ∃ m, m < n ∧ ∃ i ys o H', Inv (blk X x scope M s3.heap.objs.size s3 (upd H2 s2.heap.objs.size (.lst [])) fp) [] (o :: σ) H' s' ∧ tn i s'.heap ∧ (∀ b ∈ fp, H' b = none) ∧ W i m ys H' := fun {ys' H' s' m} I' hm w' => by
        refine ⟨m, hm, i + 1, ys', some y, H', I'.unpinned, T.keep _ _ _ st7 fun b hb o e => (I'.pin (b, o) (List.mem_append_right _ (List.mem_append_right _ (mem_pinsAt hb e)))).1, fun b hb => ?_, w'⟩
        obtain ⟨o, e, d⟩ := T.obj _ _ st7 b hb
        exact (I'.pin (b, o) (List.mem_append_right _ (List.mem_append_right _ (mem_pinsAt hb e)))).2.1
      cases ok with
      | false =>
        obtain ⟨m', hm, w'⟩ := q9
        exact again I9 hm w'
      | true =>
        refine thn (hel _ _ _ _ _ s9 _ H9 _ I9 q9) fun u2 s10 ⟨y2, H10, I10, r10, hD, m', hm, w'⟩ => ?_
        refine thn (mt_append _ s10 _ H10 (.ref s2.heap.objs.size) [y2] (.ref s2.heap.objs.size) [u2] (fun _ H' => H' = upd H10 s2.heap.objs.size (.lst (ys ++ [y2]))) I10 rfl (.cons r10 .nil) ⟨_, ys, y2, rfl, rfl, hD, hz, rfl⟩) fun _ s11 ⟨_, H11, I11, _, e11⟩ => ?_
        subst e11
        exact again I11 hm w'
  have fin := codeAny_compStart_list (loop _ rfl) (T.self X.A 0 _ _ _ st3 (loop _ rfl))
  rw [es] at fin
  exact fin
end
end L2

set_option Elab.async false
set_option linter.all false
set_option maxRecDepth 100000
set_option maxHeartbeats 4000000
namespace L2
open PySem PySem.Spec PyProof.Rows

section
variable {X : Cx} {elt iter c : Expr} {ifs : List Expr} {x y : Str} {px py pos spos : Pos} {scope sc : Scope} {N M : List Str} {wi : TI} {tt : TT} {te : TE}
theorem ps_setcG {i : Nat} (hcalm : X.calm = true) (hX : X.N = N) (hsc : X.env.scope = sc) (O : CompOk N M sc x scope) (hi : PI X (.Name x px) iter wi)
    (hts : ∀ (C : Addr) (s₀ : Shared) (H₀ : Hp) (fp : List Addr) (pins : List (Addr × Obj)) (s : Shared) (σ : St) (H : Hp) (Q : Bool → Hp → Prop), Inv (blk X x scope M C s₀ H₀ fp) pins σ H s → tt σ H Q →
      wpAny (model X.prog X.w) X.A (forIn ifs true fun c r => if r = true then do let ok ← isTrue c (blk X x scope M C s₀ H₀ fp).env (eval c (blk X x scope M C s₀ H₀ fp).env); pure (ForInStep.yield ok) else pure (ForInStep.yield r)) (TP (blk X x scope M C s₀ H₀ fp) pins σ Q) (fun _ _ => False) s)
    (hel : ∀ (C : Addr) (s₀ : Shared) (H₀ : Hp) (fp : List Addr), PE (blk X x scope M C s₀ H₀ fp) elt te)
    (hNd : X.N.Nodup) (hiy : X.N[i]? = some y) (hy : X.env.scope.names.lookup y = some .local)
    (hsw : swapsWith (.ListComp elt [⟨.Name x px, iter, ifs, 0⟩] scope pos) (some (.Name y py)) spos.line X.env = pure true) (hs : ∀ x, foldedSetIterable iter X.env x = pure x := by intro _; rfl) :
    PS X (.Assign [.Name y py] (.ListComp elt [⟨.Name x px, iter, ifs, 0⟩] scope pos) spos) (tAsg (tComp wi tt te) (gName i)) := by
  intro pins s σ H D I h
  have hcl : closureFor scope X.env = pure (closOf X.env.cells scope.names []) := closure_is fun z hz hf => by
    have q := O.free z hz hf
    rw [← hsc] at q
    exact I.ok.has z.1 q
  have key : wpAny (model X.prog X.w) X.A (comprehension (.ListComp elt [⟨.Name x px, iter, ifs, 0⟩] scope pos) scope X.env (firstIterPos [⟨.Name x px, iter, ifs, 0⟩] pos) (newList []) false (eval iter X.env) (some (assign (.Name y py) X.env)))
      (fun _ s' => SP X pins D .next s') X.xe s := by
    refine wpAny_comprehension_free (use := some (assign (.Name y py) X.env)) (Q := fun _ s' => SP X pins D .next s') rfl hs hcl O.kind O.names (thn (hi pins s σ H _ I h) fun v s1 h1 => thn h1 fun itv s2 h2 => ?_)
    obtain ⟨it, fp, tn, J, H2, e, I2, T, st2, f2, q2⟩ := h2
    subst e
    refine comp_block (Qd := fun D0 H' => D.nx (σ.set i (some (.ref D0))) H') (RR := fun acc C => compPost (model X.prog X.w) X.A X.xe (some (assign (.Name y py) X.env)) (fun _ s' => SP X pins D .next s') acc C) hcalm hX hsc O hts hel I2 T st2 f2 (fun D0 hD => q2 D0 hD) ?_
    intro D0 C H' s' I' hC hm q'
    obtain ⟨m, hm⟩ := hm
    obtain ⟨c0, c1, c2, c3, c4, c5⟩ := hC
    show wpAny _ _ (assign (.Name y py) X.env (.ref D0)) _ _ s'
    refine wpAny_assign_Name (store_ok2 (v := .ref D0) I' hNd hiy (.inl hy) rfl (fun s'' I'' ⟨a, sb, ha⟩ => ?_) (.inr hy))
    have hCa : C ≠ a := by
      rcases ha with ha | ha
      · rw [ha]; exact c1
      · exact (c4 _ _ ha).symm
    exact ⟨m, hm.sameBut sb hCa, fun h' hs' => ⟨_, H', I''.turned (t' := s''.toks) (fun b o hb e => hs'.extBut b o hb e) c0 c1 c3 c4 c5, q'⟩⟩
  rw [exec_Assign_Name_used _ _ _ _ hsw]
  refine wpAny_bind (wpAny_standAt (wpAny_bind ?_))
  show wpAny _ _ (do let _ ← comprehension (.ListComp elt [⟨.Name x px, iter, ifs, 0⟩] scope pos) scope X.env (firstIterPos [⟨.Name x px, iter, ifs, 0⟩] pos) (newList []) false (eval iter X.env) (some (assign (.Name y py) X.env))) _ _ s
  exact wpAny_bind (wpAny_mono key (fun _ s' hq => wpAny_pure (wpAny_pure hq)) fun _ _ e => e)
/-- y = [elt for x in iter] -/
theorem ps_setc {i : Nat} (N M : List Str) (sc : Scope) (O : CompOk N M sc x scope) (hi : PI X (.Name x px) iter wi) (hel : ∀ (C : Addr) (s₀ : Shared) (H₀ : Hp) (fp : List Addr), PE (blk X x scope M C s₀ H₀ fp) elt te)
    (hNd : X.N.Nodup) (hiy : X.N[i]? = some y := by rfl) (hy : X.env.scope.names.lookup y = some .local := by rfl)
    (hsw : swapsWith (.ListComp elt [⟨.Name x px, iter, [], 0⟩] scope pos) (some (.Name y py)) spos.line X.env = pure true := by rfl)
    (hcalm : X.calm = true := by rfl) (hX : X.N = N := by rfl) (hsc : X.env.scope = sc := by rfl) (hs : ∀ x, foldedSetIterable iter X.env x = pure x := by intro _; rfl) :
    PS X (.Assign [.Name y py] (.ListComp elt [⟨.Name x px, iter, [], 0⟩] scope pos) spos) (tAsg (tComp wi tYes te) (gName i)) :=
  ps_setcG hcalm hX hsc O hi (fun C s₀ H₀ fp pins s σ H Q I h => wpAny_tests_nil ⟨H, I, h⟩) hel hNd hiy hy hsw hs
end

/-! ### the walk of a comprehension by its items -/
/-! ### texts as lists of codes -/
abbrev S (l : List Nat) : Str := ⟨l.toArray⟩
theorem S_of (z : Str) : z = S z.cps.toList := by cases z; simp [S]
theorem S_inj {a b : List Nat} (h : S a = S b) : a = b := by
  have h' : a.toArray = b.toArray := congrArg Str.cps h
  simpa using congrArg Array.toList h'
theorem S_len (l : List Nat) : (S l).length = l.length := by show l.toArray.size = l.length; simp
theorem S_app (a b : List Nat) : S a ++ S b = S (a ++ b) := by
  show (⟨a.toArray ++ b.toArray⟩ : Str) = ⟨(a ++ b).toArray⟩
  simp
def cutL (l : List Nat) (lo hi : Option Int) : List Nat := (l.drop (HT.sIx l.length 0 lo)).take (HT.sIx l.length l.length hi - HT.sIx l.length 0 lo)
def clipI (d : Int) (n : Nat) : Option Int → Int
  | none => d
  | some i => max 0 (min (if i < 0 then i + (n : Int) else i) (n : Int))
section
variable {X : Cx}
def rSlS : V → Option Int → Option Int → Hp → VK → Prop := fun x lo hi H Q => ∃ l, x = .str (S l) ∧ l.length ≤ sizeLine ∧ Q (.str (S (cutL l lo hi))) H
end

/-! ### the signs of a text, walked -/
def Its (z : Str) : It := ⟨fun i _ => i < z.cps.size, fun i H x H' => H' = H ∧ ∃ c, z.cps[i]? = some c ∧ x = .str ⟨#[c]⟩, fun i _ => z.cps.size ≤ i⟩
section
variable {X : Cx} {tg : Expr}
def iStr (tl : TE) : TI := fun σ H R => tl σ H fun x H1 => ∃ z, x = .str z ∧ R (Its z) H1
end
end L2

set_option Elab.async false
set_option linter.all false
set_option maxRecDepth 100000
set_option maxHeartbeats 4000000
namespace L2
open PySem PySem.Spec PyProof.Rows

theorem hU {k : Nat} {A : Around} (hr : Room k A) : A.units + 64 < cLine := hr.units
theorem hU1 {k : Nat} {A : Around} (hr : Room k A) : A.units + 1 < cLine := hu_of hr

/-! ### module constants -/
def GConst (mg : Str → Option Value) (x : Str) (v : V) : Prop := ∃ u, mg x = some u ∧ RelV v u
/-! ### data: what a value is worth, down to its leaves -/
mutual
inductive Den (K : PySem.W.Frag) (H : Hp) : V → PyData → Prop
  | non : Den K H .non .none
  | bl (b : Bool) : Den K H (.bl b) (.bool b)
  | int (i : Int) : Den K H (.int i) (.int i)
  | str (x : Str) : Den K H (.str x) (.str x)
  | lst {a : Addr} {xs : List V} {ds : List PyData} : SqL K H a xs → DenAll K H xs ds → Den K H (.ref a) (.list ds)
  | tup {a : Addr} {xs : List V} {ds : List PyData} : SqT K H a xs → DenAll K H xs ds → Den K H (.ref a) (.tuple ds)
inductive DenAll (K : PySem.W.Frag) (H : Hp) : List V → List PyData → Prop
  | nil : DenAll K H [] []
  | cons {v : V} {d : PyData} {vs : List V} {ds : List PyData} : Den K H v d → DenAll K H vs ds → DenAll K H (v :: vs) (d :: ds)
end
mutual
theorem Den.reads {X : Cx} {pins : List (Addr × Obj)} {σ : St} {H : Hp} {s : Shared} (I : Inv X pins σ H s) : ∀ {v : V} {d : PyData} {u : Value}, Den X.K H v d → RelV v u → ∃ as, Reads s.heap u d as
  | _, _, _, .non, r => by cases (show _ = Value.none from r); exact ⟨_, .none⟩
  | _, _, _, .bl b, r => by cases (show _ = Value.bool b from r); exact ⟨_, .bool b⟩
  | _, _, _, .int i, r => by obtain ⟨t, rfl⟩ := r; exact ⟨_, .int i t⟩
  | _, _, _, .str x, r => by obtain ⟨t, rfl⟩ := r; exact ⟨_, .str x t⟩
  | _, _, _, .lst h hd, r => by
    cases (show _ = Value.ref _ from r)
    obtain ⟨its, rv, p, hz⟩ := I.list h
    obtain ⟨o, ho, hc, n, hdt⟩ := p.isList
    obtain ⟨as, ra⟩ := DenAll.reads I hd rv
    exact ⟨_, .list ho hc hdt (by simpa using ra)⟩
  | _, _, _, .tup h hd, r => by
    cases (show _ = Value.ref _ from r)
    obtain ⟨its, rv, p, hz⟩ := I.tuple h
    obtain ⟨o, ho, hc, n, hdt⟩ := p
    obtain ⟨as, ra⟩ := DenAll.reads I hd rv
    exact ⟨_, .tuple ho hc hdt (by simpa using ra)⟩
theorem DenAll.reads {X : Cx} {pins : List (Addr × Obj)} {σ : St} {H : Hp} {s : Shared} (I : Inv X pins σ H s) : ∀ {vs : List V} {ds : List PyData} {us : List Value}, DenAll X.K H vs ds → Vals vs us → ∃ as, ReadsAll s.heap us ds as
  | _, _, _, .nil, .nil => ⟨_, .nil⟩
  | _, _, _, .cons h t, .cons r rr => by
    obtain ⟨a, ha⟩ := Den.reads I h r
    obtain ⟨b, hb⟩ := DenAll.reads I t rr
    exact ⟨_, .cons ha hb⟩
end
def isRef : V → Bool
  | .ref _ => true
  | _ => false
def rEqD (K : PySem.W.Frag) (neg : Bool) : R2 := fun x y H Q => (isRef x || isRef y) = true ∧ ∃ d e, Den K H x d ∧ Den K H y e ∧ SeqAt.shaped d = true ∧ SeqAt.shaped e = true ∧ Q (.bl (if neg then !PyData.eqv d e else PyData.eqv d e)) H
section
variable {X : Cx}
theorem op_eqD (hu : X.A.units + 64 < cLine) : OpR X (compareOp .Eq) (rEqD X.K false) := by
  intro pins s σ H x y v u Q I rx ry h
  obtain ⟨_, d, e, hd, he, sd, se, q⟩ := h
  obtain ⟨as, ra⟩ := hd.reads I rx
  obtain ⟨bs, rb⟩ := he.reads I ry
  exact eq_dataH ra rb sd se hu ⟨.bl (PyData.eqv d e), H, I, rfl, q⟩
theorem op_neD (hu : X.A.units + 64 < cLine) : OpR X (compareOp .NotEq) (rEqD X.K true) := by
  intro pins s σ H x y v u Q I rx ry h
  obtain ⟨_, d, e, hd, he, sd, se, q⟩ := h
  obtain ⟨as, ra⟩ := hd.reads I rx
  obtain ⟨bs, rb⟩ := he.reads I ry
  exact ne_dataH ra rb sd se hu ⟨.bl (!PyData.eqv d e), H, I, rfl, q⟩
theorem op_eqA (hu : X.A.units + 64 < cLine) : OpR X (compareOp .Eq) (fun x y H Q => rEq x y H Q ∨ rEqD X.K false x y H Q) := op_eq.or (op_eqD hu)
theorem op_neA (hu : X.A.units + 64 < cLine) : OpR X (compareOp .NotEq) (fun x y H Q => rNe x y H Q ∨ rEqD X.K true x y H Q) := op_ne.or (op_neD hu)

/-! ### < <= > >= of ints and of texts -/
def rStrs (p : List Nat → List Nat → Bool) : R2 := fun x y H Q => ∃ i j, x = .str i ∧ y = .str j ∧ Q (.bl (p i.cps.toList j.cps.toList)) H
theorem op_ltS : OpR X (compareOp .Lt) (rStrs fun a b => decide (a < b)) := by
  intro pins s σ H x y v u Q I rx ry h
  obtain ⟨i, j, rfl, rfl, q⟩ := h
  obtain ⟨t, rfl⟩ := rx
  obtain ⟨t', rfl⟩ := ry
  exact PySem.P.lt_str ⟨.bl (decide (i.cps.toList < j.cps.toList)), H, I, rfl, q⟩
theorem op_ltA : OpR X (compareOp .Lt) (fun x y H Q => rI0 (fun i j => .bl (decide (i < j))) x y H Q ∨ rStrs (fun a b => decide (a < b)) x y H Q) := op_lt.or op_ltS
/-! ### + -/
def rCatS (K : PySem.W.Frag) : R2 := fun x y H Q => ∃ l b xs zs, x = .ref l ∧ y = .ref b ∧ SqL K H l xs ∧ SqL K H b zs ∧ xs.length + zs.length ≤ sizeLine ∧ ∀ p, H p = none → Q (.ref p) (upd H p (.lst (xs ++ zs)))
theorem op_catS : OpR X (binaryOp .Add) (rCatS X.K) := by
  intro pins s σ H x y v u Q I rx ry h
  obtain ⟨l, b, xs, zs, rfl, rfl, hH, hB, hz, q⟩ := h
  cases rx
  cases ry
  obtain ⟨its, r, p, z1⟩ := I.list hH
  obtain ⟨its2, r2, p2, z2⟩ := I.list hB
  have h1 := r.length
  have h2 := r2.length
  obtain ⟨⟨cl, dc, dt, sl⟩, ho, hc, n, hd⟩ := p.isList
  obtain ⟨⟨cl2, dc2, dt2, sl2⟩, ho2, hc2, n2, hd2⟩ := p2.isList
  simp only at hc hd hc2 hd2
  subst hc hd hc2 hd2
  refine concat_meets ⟨_, ho, rfl⟩ ⟨_, ho2, rfl⟩ PySem.noFill_list_add PySem.seq_list_add F.slot_list_add F.entry_list_add (F.args_list_add_2 _ _) (list_addW l b its.toArray its2.toArray n n2 dc dc2 sl sl2 (by rw [List.size_toArray, List.size_toArray]; omega)) ⟨ho, ho2, ?_⟩
  have ea : its.toArray ++ its2.toArray = (its ++ its2).toArray := by simp
  rw [ea]
  exact ⟨.ref _, _, I.lnew (t' := s.toks) (r.append r2) (by rw [List.length_append]; omega), rfl, q _ I.fresh⟩
def rCatT2 : R2 := fun x y H Q => ∃ i j, x = .str (S i) ∧ y = .str (S j) ∧ i.length + j.length ≤ sizeLine ∧ Q (.str (S (i ++ j))) H
theorem op_catT2 : OpR X (binaryOp .Add) rCatT2 := by
  intro pins s σ H x y v u Q I rx ry h
  obtain ⟨i, j, rfl, rfl, hz, q⟩ := h
  refine op_add_str pins s σ H _ _ v u Q I rx ry ⟨S i, S j, rfl, rfl, ?_, ?_⟩
  · rw [S_len, S_len]; exact hz
  · rw [S_app]; exact q
theorem op_plus : OpR X (binaryOp .Add) (fun x y H Q => rI0 (fun i j => .int (i + j)) x y H Q ∨ (rCatT2 x y H Q ∨ rCatS X.K x y H Q)) := op_add.or (op_catT2.or op_catS)
/-! ### len, isinstance -/
theorem call_lenT : CallR X (.builtin "len") (fun xs H Q => ∃ l, xs = [.str (S l)] ∧ l.length ≤ sizeLine ∧ Q (.int l.length) H) := by
  intro pins s σ H xs us Q I r h
  obtain ⟨l, rfl, hz, q⟩ := h
  refine call_len_str pins s σ H _ us Q I r ⟨S l, rfl, ?_, ?_⟩
  · rw [S_len]; exact hz
  · rw [S_len]; exact q
theorem call_lenA : CallR X (.builtin "len") (fun xs H Q => (∃ p ys, xs = [.ref p] ∧ (SqL X.K H p ys ∨ SqT X.K H p ys) ∧ Q (.int ys.length) H) ∨ ((∃ l, xs = [.str (S l)] ∧ l.length ≤ sizeLine ∧ Q (.int l.length) H) ∨ (∃ a kvs, xs = [V.ref a] ∧ H a = some (.dK kvs) ∧ Q (.int kvs.length) H))) :=
  call_len_seq.or (call_lenT.or call_lenD)
def rIsi (K : PySem.W.Frag) : List V → Hp → VK → Prop := fun xs H Q => (∃ x t n b, xs = [x, .ty n] ∧ TyOf K H x t ∧ PySem.W.kitOne K t (.type n) = some b ∧ Q (.bl b) H) ∨ (∃ x t C b, xs = [x, .ref C] ∧ TyOf K H x t ∧ PySem.W.kitOne K t (.ref C) = some b ∧ Q (.bl b) H)
/-! ### o[i] -/
theorem ix_dict (hu : X.A.units + 1 < cLine) : IxR X (fun x y H Q => ∃ a v, x = .ref a ∧ DGet H a y (some v) ∧ Q v H) := by
  intro value slice pins s σ H x y v u Q I rx ry h hs
  obtain ⟨a, z, rfl, g, q⟩ := h
  cases (show v = Value.ref a from rx)
  exact tail_any (dict_typeIs I g) PySem.F.slot_dict_getitem.lookup (d_getItem hu I g ry fun w' s3 I3 rw' => ⟨z, H, I3, rw', q⟩) hs
def rIxS2 : R2 := fun x y H Q => ∃ l i c, x = .str (S l) ∧ y = .int i ∧ l.length ≤ sizeLine ∧ atI l i = some c ∧ Q (.str (S [c])) H
theorem ix_str2 : IxR X rIxS2 := by
  intro value slice pins s σ H x y v u Q I rx ry h hs
  obtain ⟨l, i, c, rfl, rfl, hz, he, q⟩ := h
  exact ix_str value slice pins s σ H _ _ v u Q I rx ry ⟨S l, i, c, rfl, rfl, (by rw [S_len]; exact hz), (by simpa using he), q⟩ hs
def rIxA (K : PySem.W.Frag) : R2 := fun x y H Q => rIxL K x y H Q ∨ (rIxT K x y H Q ∨ (rIxS2 x y H Q ∨ (∃ a v, x = .ref a ∧ DGet H a y (some v) ∧ Q v H)))
theorem ix_any (hu : X.A.units + 1 < cLine) : IxR X (rIxA X.K) := ix_list.or (ix_tup.or (ix_str2.or (ix_dict hu)))
def rSlA (K : PySem.W.Frag) : V → Option Int → Option Int → Hp → VK → Prop := fun x lo hi H Q => rSlL K x lo hi H Q ∨ rSlS x lo hi H Q
def rSetA : V → V → V → Hp → (Hp → Prop) → Prop := fun o i v H Q => rSetL o i v H Q ∨ ∃ a H', o = .ref a ∧ DPut H a i v H' ∧ Q H'
/-! ### in -/
theorem op_inD (hu : X.A.units + 1 < cLine) : OpR X (compareOp .In) (fun y x H Q => ∃ a o, x = .ref a ∧ DGet H a y o ∧ Q (.bl o.isSome) H) := by
  intro pins s σ H y x v u Q I ry rx h
  obtain ⟨a, o, rfl, g, q⟩ := h
  cases (show u = Value.ref a from rx)
  exact d_in hu I g ry fun s3 I3 => ⟨.bl o.isSome, H, I3, rfl, q⟩
def occB (j i : Str) : Bool := !(Builtin.Str.occurrences j i 0 j.length 1).isEmpty
theorem op_inA (hu : X.A.units + 1 < cLine) : OpR X (compareOp .In) (fun x y H Q => rIn X.K false x y H Q ∨ ((∃ i j, x = .str i ∧ y = .str j ∧ Q (.bl (occB j i)) H) ∨ (∃ a o, y = .ref a ∧ DGet H a x o ∧ Q (.bl o.isSome) H))) :=
  op_in_seq.or (OpR.or (r := fun x y H Q => ∃ i j, x = .str i ∧ y = .str j ∧ Q (.bl (occB j i)) H) op_in_str (op_inD hu))
/-! ### sep.join(xs) -/
def joinL (sep : List Nat) : List (List Nat) → List Nat
  | [] => []
  | [x] => x
  | x :: rest => x ++ sep ++ joinL sep rest
def rJoin (K : PySem.W.Frag) : V → List V → Hp → VK → Prop := fun x vs H Q => ∃ sep p ls, x = .str (S sep) ∧ vs = [.ref p] ∧ SqL K H p (ls.map fun l => V.str (S l)) ∧ (ls.map List.length).sum + ls.length * sep.length ≤ 16777216 ∧ Q (.str (S (joinL sep ls))) H
/-! ### for x in (a list, a tuple, a text) -/
def iAny (K : PySem.W.Frag) (tl : TE) : TI := fun σ H R => tl σ H fun x H1 => (∃ a, x = .ref a ∧ (∃ xs, SqL K H1 a xs) ∧ R (Itl K a) H1) ∨ ((∃ a, x = .ref a ∧ (∃ xs, SqT K H1 a xs) ∧ R (Itt K a) H1) ∨ (∃ z, x = .str z ∧ R (Its z) H1))
end
end L2

set_option Elab.async false
set_option linter.all false
set_option maxRecDepth 100000
set_option maxHeartbeats 4000000
namespace L2
open PySem PySem.Spec PyProof.Rows

/-! ### a comprehension whose test and element leave all that was there as it was -/
theorem comp_mapf {J : It} {tt : TT} {te : TE} {σ : St} {H : Hp} {D : Addr} {Q : Hp → Prop} (n : Nat) (hn : n ≤ sizeLine) (hD : H D = none) (item f : Nat → V) (p : Nat → Bool)
    (hstop : ∀ H', Same H H' → J.stop n H') (hgo : ∀ i H', Same H H' → i < n → J.go i H') (hy : ∀ i H' x H'', Same H H' → i < n → J.yld i H' x H'' → H'' = H' ∧ x = item i)
    (ht : ∀ i H', i < n → Same H H' → ∀ Qt : Bool → Hp → Prop, (∀ H'', Same H' H'' → Qt (p i) H'') → tt (some (item i) :: σ) H' Qt)
    (he : ∀ i H', i < n → p i = true → Same H H' → ∀ Qe : VK, (∀ H'', Same H' H'' → Qe (f i) H'') → te (some (item i) :: σ) H' Qe)
    (hd : ∀ H', Same H H' → H' D = some (.lst (((List.range n).filter p).map f)) → Q H') :
    ∃ W : Nat → Nat → List V → Hp → Prop, (∃ m, W 0 m [] (upd H D (.lst []))) ∧ ∀ i m ys H2, W i m ys H2 →
      (J.stop i H2 ∧ H2 D = some (.lst ys) ∧ Q H2) ∨ (J.go i H2 ∧ ys.length < sizeLine ∧ ∀ x H3, J.yld i H2 x H3 → tt (some x :: σ) H3 fun b H4 =>
        if b = true then te (some x :: σ) H4 fun y H5 => H5 D = some (.lst ys) ∧ ∃ m', m' < m ∧ W (i + 1) m' (ys ++ [y]) (upd H5 D (.lst (ys ++ [y]))) else ∃ m', m' < m ∧ W (i + 1) m' ys H4) := by
  have same0 : ∀ {H' : Hp} {ys : List V}, Same H H' → Same H (upd H' D (.lst ys)) := fun {H' ys} h b o e => by
    rw [upd_ne (ne_of_none e hD)]
    exact h b o e
  refine ⟨fun i m ys H2 => m = n - i ∧ i ≤ n ∧ ys = ((List.range i).filter p).map f ∧ H2 D = some (.lst ys) ∧ Same H H2, ⟨n, rfl, Nat.zero_le _, rfl, upd_same, same0 (Same.refl _)⟩, ?_⟩
  rintro i m ys H2 ⟨rfl, hi, e, hH, hs⟩
  have hlen : ys.length ≤ i := by
    rw [e, List.length_map]
    exact Nat.le_trans (List.length_filter_le _ _) (by rw [List.length_range]; exact Nat.le_refl _)
  by_cases hlt : i < n
  · refine .inr ⟨hgo i H2 hs hlt, by omega, fun x H3 y => ?_⟩
    obtain ⟨rfl, rfl⟩ := hy i H2 x H3 hs hlt y
    have grow : ((List.range (i + 1)).filter p).map f = if p i = true then ys ++ [f i] else ys := by
      rw [List.range_succ, List.filter_append, List.map_append, ← e]
      by_cases hp : p i = true
      · rw [if_pos hp]; simp [hp]
      · have hp' : p i = false := by simpa using hp
        rw [if_neg hp]; simp [hp']
    refine ht i _ hlt hs _ fun H4 s4 => ?_
    by_cases hp : p i = true
    · rw [hp, if_pos rfl]
      rw [if_pos hp] at grow
      refine he i H4 hlt hp (hs.trans s4) _ fun H5 s5 => ⟨s5 _ _ (s4 _ _ hH), n - (i + 1), by omega, rfl, hlt, grow.symm, upd_same, same0 ((hs.trans s4).trans s5)⟩
    · have hp' : p i = false := by simpa using hp
      rw [hp', if_neg Bool.false_ne_true]
      rw [if_neg hp] at grow
      exact ⟨n - (i + 1), by omega, rfl, hlt, grow.symm, s4 _ _ hH, hs.trans s4⟩
  · have ei : i = n := by omega
    subst ei
    rw [e] at hH
    exact .inl ⟨hstop _ hs, by rw [e]; exact hH, hd _ hs hH⟩
theorem filter_true {α : Type} (l : List α) : l.filter (fun _ => true) = l := by induction l <;> simp_all
/-- [f i for i in range(..)] -/
theorem comp_range {te : TE} {σ : St} {H : Hp} {D : Addr} {Q : Hp → Prop} (lo : Int) (n : Nat) (hn : n ≤ sizeLine) (hD : H D = none) (f : Nat → V)
    (he : ∀ i H', i < n → Same H H' → ∀ Qe : VK, (∀ H'', Same H' H'' → Qe (f i) H'') → te (some (.int (lo + i)) :: σ) H' Qe)
    (hd : ∀ H', Same H H' → H' D = some (.lst ((List.range n).map f)) → Q H') :
    ∃ W : Nat → Nat → List V → Hp → Prop, (∃ m, W 0 m [] (upd H D (.lst []))) ∧ ∀ i m ys H2, W i m ys H2 →
      ((Itr lo n).stop i H2 ∧ H2 D = some (.lst ys) ∧ Q H2) ∨ ((Itr lo n).go i H2 ∧ ys.length < sizeLine ∧ ∀ x H3, (Itr lo n).yld i H2 x H3 → tYes (some x :: σ) H3 fun b H4 =>
        if b = true then te (some x :: σ) H4 fun y H5 => H5 D = some (.lst ys) ∧ ∃ m', m' < m ∧ W (i + 1) m' (ys ++ [y]) (upd H5 D (.lst (ys ++ [y]))) else ∃ m', m' < m ∧ W (i + 1) m' ys H4) :=
  comp_mapf (J := Itr lo n) n hn hD (fun i => .int (lo + i)) f (fun _ => true) (fun _ _ => Nat.le_refl _) (fun i _ _ h => h) (fun i H' x H'' _ _ y => y) (fun i H' _ _ Qt q => q H' (Same.refl _)) (fun i H' h _ s Qe q => he i H' h s Qe q)
    (fun H' s h => hd H' s (by rw [filter_true] at h; exact h))
theorem Same.upd {H : Hp} {D : Addr} {o : HO} (hD : H D = none) : Same H (upd H D o) := fun b u e => by
  rw [upd_ne (ne_of_none e hD)]
  exact e
/-- a list's place, in bounds -/
theorem atI_get? {α : Type} {xs : List α} {i : Int} {v : α} (h0 : 0 ≤ i) (h : xs[i.toNat]? = some v) : atI xs i = some v := by
  have := atI_nat (xs := xs) (j := i.toNat) h
  rwa [show ((i.toNat : Nat) : Int) = i by omega] at this
theorem Same.tup {K : PySem.W.Frag} {H H' : Hp} {a : Addr} {xs : List V} (e : Same H H') (h : SqT K H a xs) : SqT K H' a xs := by
  rcases h with (h | ⟨o, h⟩) | h
  · exact .inl (.inl (e _ _ h))
  · exact .inl (.inr ⟨o, e _ _ h⟩)
  · exact .inr h
mutual
theorem Den.same {K : PySem.W.Frag} {H H' : Hp} (s : Same H H') : ∀ {v : V} {d : PyData}, Den K H v d → Den K H' v d
  | _, _, .non => .non
  | _, _, .bl b => .bl b
  | _, _, .int i => .int i
  | _, _, .str x => .str x
  | _, _, .lst h t => .lst (s.seq h) (DenAll.same s t)
  | _, _, .tup h t => .tup (s.tup h) (DenAll.same s t)
theorem DenAll.same {K : PySem.W.Frag} {H H' : Hp} (s : Same H H') : ∀ {v : List V} {d : List PyData}, DenAll K H v d → DenAll K H' v d
  | _, _, .nil => .nil
  | _, _, .cons h t => .cons (Den.same s h) (DenAll.same s t)
end
/-- what isinstance tells of the plain values -/
theorem rIsi_iff {K : PySem.W.Frag} {H : Hp} {Q : VK} {x : V} {n T : String} {b : Bool} (hT : ∀ t, TyOf K H x t ↔ t = .type T) (hk : PySem.W.kitOne K (.type T) (.type n) = some b) : rIsi K [x, .ty n] H Q ↔ Q (.bl b) H := by
  constructor
  · rintro (⟨x', t, n', b', e, ty, k, q⟩ | ⟨x', t, C, b', e, ty, k, q⟩)
    · simp only [List.cons.injEq, V.ty.injEq, and_true] at e
      obtain ⟨rfl, rfl⟩ := e
      rw [(hT t).mp ty, hk] at k
      cases k
      exact q
    · simp at e
  · intro q
    exact .inl ⟨x, _, n, b, rfl, (hT _).mpr rfl, hk, q⟩
theorem tyOf_non {K : PySem.W.Frag} {H : Hp} (t : Value) : TyOf K H .non t ↔ t = .type "NoneType" := ⟨fun h => by cases h; rfl, fun h => h ▸ .non⟩
theorem tyOf_bl {K : PySem.W.Frag} {H : Hp} (b : Bool) (t : Value) : TyOf K H (.bl b) t ↔ t = .type "bool" := ⟨fun h => by cases h; rfl, fun h => h ▸ .bl b⟩
theorem tyOf_int {K : PySem.W.Frag} {H : Hp} (b : Int) (t : Value) : TyOf K H (.int b) t ↔ t = .type "int" := ⟨fun h => by cases h; rfl, fun h => h ▸ .int b⟩
theorem tyOf_str {K : PySem.W.Frag} {H : Hp} (b : Str) (t : Value) : TyOf K H (.str b) t ↔ t = .type "str" := ⟨fun h => by cases h; rfl, fun h => h ▸ .str b⟩
theorem isi_non_int {K : PySem.W.Frag} {H : Hp} {Q : VK} : rIsi K [.non, .ty "int"] H Q ↔ Q (.bl false) H := rIsi_iff (tyOf_non) (by rfl)
theorem isi_non_bool {K : PySem.W.Frag} {H : Hp} {Q : VK} : rIsi K [.non, .ty "bool"] H Q ↔ Q (.bl false) H := rIsi_iff (tyOf_non) (by rfl)
theorem isi_non_str {K : PySem.W.Frag} {H : Hp} {Q : VK} : rIsi K [.non, .ty "str"] H Q ↔ Q (.bl false) H := rIsi_iff (tyOf_non) (by rfl)
theorem isi_non_list {K : PySem.W.Frag} {H : Hp} {Q : VK} : rIsi K [.non, .ty "list"] H Q ↔ Q (.bl false) H := rIsi_iff (tyOf_non) (by rfl)
theorem isi_non_tuple {K : PySem.W.Frag} {H : Hp} {Q : VK} : rIsi K [.non, .ty "tuple"] H Q ↔ Q (.bl false) H := rIsi_iff (tyOf_non) (by rfl)
theorem isi_non_dict {K : PySem.W.Frag} {H : Hp} {Q : VK} : rIsi K [.non, .ty "dict"] H Q ↔ Q (.bl false) H := rIsi_iff (tyOf_non) (by rfl)
theorem isi_bl_int {K : PySem.W.Frag} {H : Hp} {Q : VK} {b : Bool} : rIsi K [(.bl b), .ty "int"] H Q ↔ Q (.bl true) H := rIsi_iff (tyOf_bl _) (by rfl)
theorem isi_bl_bool {K : PySem.W.Frag} {H : Hp} {Q : VK} {b : Bool} : rIsi K [(.bl b), .ty "bool"] H Q ↔ Q (.bl true) H := rIsi_iff (tyOf_bl _) (by rfl)
theorem isi_bl_str {K : PySem.W.Frag} {H : Hp} {Q : VK} {b : Bool} : rIsi K [(.bl b), .ty "str"] H Q ↔ Q (.bl false) H := rIsi_iff (tyOf_bl _) (by rfl)
theorem isi_bl_list {K : PySem.W.Frag} {H : Hp} {Q : VK} {b : Bool} : rIsi K [(.bl b), .ty "list"] H Q ↔ Q (.bl false) H := rIsi_iff (tyOf_bl _) (by rfl)
theorem isi_bl_tuple {K : PySem.W.Frag} {H : Hp} {Q : VK} {b : Bool} : rIsi K [(.bl b), .ty "tuple"] H Q ↔ Q (.bl false) H := rIsi_iff (tyOf_bl _) (by rfl)
theorem isi_bl_dict {K : PySem.W.Frag} {H : Hp} {Q : VK} {b : Bool} : rIsi K [(.bl b), .ty "dict"] H Q ↔ Q (.bl false) H := rIsi_iff (tyOf_bl _) (by rfl)
theorem isi_int_int {K : PySem.W.Frag} {H : Hp} {Q : VK} {b : Int} : rIsi K [(.int b), .ty "int"] H Q ↔ Q (.bl true) H := rIsi_iff (tyOf_int _) (by rfl)
theorem isi_int_bool {K : PySem.W.Frag} {H : Hp} {Q : VK} {b : Int} : rIsi K [(.int b), .ty "bool"] H Q ↔ Q (.bl false) H := rIsi_iff (tyOf_int _) (by rfl)
theorem isi_int_str {K : PySem.W.Frag} {H : Hp} {Q : VK} {b : Int} : rIsi K [(.int b), .ty "str"] H Q ↔ Q (.bl false) H := rIsi_iff (tyOf_int _) (by rfl)
theorem isi_int_list {K : PySem.W.Frag} {H : Hp} {Q : VK} {b : Int} : rIsi K [(.int b), .ty "list"] H Q ↔ Q (.bl false) H := rIsi_iff (tyOf_int _) (by rfl)
theorem isi_int_tuple {K : PySem.W.Frag} {H : Hp} {Q : VK} {b : Int} : rIsi K [(.int b), .ty "tuple"] H Q ↔ Q (.bl false) H := rIsi_iff (tyOf_int _) (by rfl)
theorem isi_int_dict {K : PySem.W.Frag} {H : Hp} {Q : VK} {b : Int} : rIsi K [(.int b), .ty "dict"] H Q ↔ Q (.bl false) H := rIsi_iff (tyOf_int _) (by rfl)
theorem isi_str_int {K : PySem.W.Frag} {H : Hp} {Q : VK} {b : Str} : rIsi K [(.str b), .ty "int"] H Q ↔ Q (.bl false) H := rIsi_iff (tyOf_str _) (by rfl)
theorem isi_str_bool {K : PySem.W.Frag} {H : Hp} {Q : VK} {b : Str} : rIsi K [(.str b), .ty "bool"] H Q ↔ Q (.bl false) H := rIsi_iff (tyOf_str _) (by rfl)
theorem isi_str_str {K : PySem.W.Frag} {H : Hp} {Q : VK} {b : Str} : rIsi K [(.str b), .ty "str"] H Q ↔ Q (.bl true) H := rIsi_iff (tyOf_str _) (by rfl)
theorem isi_str_list {K : PySem.W.Frag} {H : Hp} {Q : VK} {b : Str} : rIsi K [(.str b), .ty "list"] H Q ↔ Q (.bl false) H := rIsi_iff (tyOf_str _) (by rfl)
theorem isi_str_tuple {K : PySem.W.Frag} {H : Hp} {Q : VK} {b : Str} : rIsi K [(.str b), .ty "tuple"] H Q ↔ Q (.bl false) H := rIsi_iff (tyOf_str _) (by rfl)
theorem isi_str_dict {K : PySem.W.Frag} {H : Hp} {Q : VK} {b : Str} : rIsi K [(.str b), .ty "dict"] H Q ↔ Q (.bl false) H := rIsi_iff (tyOf_str _) (by rfl)
/-! ### loops, kept folded while a body is read -/
def forW (J : It) (g : TG) (tb : TS) (D : Ends) (σ : St) (H1 : Hp) : Prop := ∃ W : Nat → Nat → St → Hp → Prop, (∃ m, W 0 m σ H1) ∧ ∀ i m σ H, W i m σ H →
  (J.stop i H ∧ D.nx σ H) ∨ (J.go i H ∧ ∃ N : St → Hp → Prop, (∀ σ' H', N σ' H' → ∃ m', m' < m ∧ W (i + 1) m' σ' H') ∧ ∀ x H', J.yld i H x H' → g x σ H' fun σ2 H2 => tb { D with nx := N, ct := N, bk := D.nx } σ2 H2)
theorem tFor_eq (wi : TI) (g : TG) (tb : TS) (D : Ends) (σ : St) (H : Hp) : tFor wi g tb D σ H = wi σ H fun J H1 => forW J g tb D σ H1 := rfl
def compW (J : It) (tt : TT) (te : TE) (σ : St) (H1 : Hp) (Q : VK) : Prop := ∀ D, H1 D = none → ∃ W : Nat → Nat → List V → Hp → Prop, (∃ m, W 0 m [] (upd H1 D (.lst []))) ∧ ∀ i m ys H2, W i m ys H2 →
  (J.stop i H2 ∧ H2 D = some (.lst ys) ∧ Q (.ref D) H2) ∨ (J.go i H2 ∧ ys.length < sizeLine ∧ ∀ x H3, J.yld i H2 x H3 → tt (some x :: σ) H3 fun b H4 =>
    if b = true then te (some x :: σ) H4 fun y H5 => H5 D = some (.lst ys) ∧ ∃ m', m' < m ∧ W (i + 1) m' (ys ++ [y]) (upd H5 D (.lst (ys ++ [y]))) else ∃ m', m' < m ∧ W (i + 1) m' ys H4)
theorem tComp_eq (wi : TI) (tt : TT) (te : TE) (σ : St) (H : Hp) (Q : VK) : tComp wi tt te σ H Q = wi σ H fun J H1 => compW J tt te σ H1 Q := rfl
theorem forW_range {lo : Int} {n : Nat} {g : TG} {tb : TS} {D : Ends} {σ : St} {H : Hp} (Pv : Nat → St → Hp → Prop) (h0 : Pv 0 σ H)
    (hs : ∀ i σ H, i < n → Pv i σ H → g (.int (lo + i)) σ H fun σ2 H2 => tb { D with nx := Pv (i + 1), ct := Pv (i + 1), bk := D.nx } σ2 H2) (hd : ∀ σ H, Pv n σ H → D.nx σ H) : forW (Itr lo n) g tb D σ H :=
  for_range Pv h0 hs hd
theorem compW_range {te : TE} {σ : St} {H : Hp} {Q : VK} {lo : Int} {n : Nat} (hn : n ≤ sizeLine) (f : Nat → V)
    (he : ∀ i H', i < n → Same H H' → ∀ Qe : VK, (∀ H'', Same H' H'' → Qe (f i) H'') → te (some (.int (lo + i)) :: σ) H' Qe)
    (hd : ∀ D H', H D = none → Same H H' → H' D = some (.lst ((List.range n).map f)) → Q (.ref D) H') : compW (Itr lo n) tYes te σ H Q :=
  fun D hD => comp_range lo n hn hD f he fun H' s h => hd D H' hD s h
theorem cx_K {CX : CXT} {P : Program} {w : World} {K : PySem.W.Frag} {mg : Str → Option Value} {base : Heap} {N : List Str} {qual : Str} {scope : Scope} {f : Addr} {cd : Value} {A : Around} {outer : List Env} {s : Shared} {H : Hp} {E : XK} :
    (cxOf CX P w K mg base N qual scope f cd A outer s H E).K = K := rfl
theorem S_iff (a b : List Nat) : (S a = S b) = (a = b) := propext ⟨S_inj, fun h => by rw [h]⟩
end L2

set_option Elab.async false
set_option linter.all false
set_option maxRecDepth 100000
set_option maxHeartbeats 4000000
namespace L2
open PySem PySem.Spec PyProof.Rows
/-! ### the joined rules by name -/
def rPlus (K : PySem.W.Frag) : R2 := fun x y H Q => rI0 (fun i j => .int (i + j)) x y H Q ∨ (rCatT2 x y H Q ∨ rCatS K x y H Q)
def rEqq (K : PySem.W.Frag) : R2 := fun x y H Q => rEq x y H Q ∨ rEqD K false x y H Q
def rNeq (K : PySem.W.Frag) : R2 := fun x y H Q => rNe x y H Q ∨ rEqD K true x y H Q
def rLt : R2 := fun x y H Q => rI0 (fun i j => .bl (decide (i < j))) x y H Q ∨ rStrs (fun a b => decide (a < b)) x y H Q
def rLe : R2 := fun x y H Q => rI0 (fun i j => .bl (decide (i ≤ j))) x y H Q ∨ rStrs (fun a b => !decide (b < a)) x y H Q
def rLen (K : PySem.W.Frag) : List V → Hp → VK → Prop := fun xs H Q => (∃ p ys, xs = [.ref p] ∧ (SqL K H p ys ∨ SqT K H p ys) ∧ Q (.int ys.length) H) ∨ ((∃ l, xs = [.str (S l)] ∧ l.length ≤ sizeLine ∧ Q (.int l.length) H) ∨ (∃ a kvs, xs = [V.ref a] ∧ H a = some (.dK kvs) ∧ Q (.int kvs.length) H))
def rInn (K : PySem.W.Frag) : R2 := fun x y H Q => rIn K false x y H Q ∨ ((∃ i j, x = .str i ∧ y = .str j ∧ Q (.bl (occB j i)) H) ∨ (∃ a o, y = .ref a ∧ DGet H a x o ∧ Q (.bl o.isSome) H))
def rNin (K : PySem.W.Frag) : R2 := fun x y H Q => rIn K true x y H Q ∨ ((∃ i j, x = .str i ∧ y = .str j ∧ Q (.bl (!occB j i)) H) ∨ (∃ a o, y = .ref a ∧ DGet H a x o ∧ Q (.bl (!o.isSome)) H))
def rListOf (K : PySem.W.Frag) : List V → Hp → VK → Prop := fun xs H Q => ∃ p ys, xs = [.ref p] ∧ (SqL K H p ys ∨ SqT K H p ys) ∧ ∀ l, H l = none → Q (.ref l) (upd H l (.lst ys))
def rOrd : List V → Hp → VK → Prop := fun xs H Q => ∃ c, xs = [.str (S [c])] ∧ Q (.int (c : Nat)) H
def rAny (K : PySem.W.Frag) (x : V) (H1 : Hp) (R : It → Hp → Prop) : Prop := (∃ a, x = .ref a ∧ (∃ xs, SqL K H1 a xs) ∧ R (Itl K a) H1) ∨ ((∃ a, x = .ref a ∧ (∃ xs, SqT K H1 a xs) ∧ R (Itt K a) H1) ∨ (∃ z, x = .str z ∧ R (Its z) H1))
theorem iAny_eq (K : PySem.W.Frag) (tl : TE) (σ : St) (H : Hp) (R : It → Hp → Prop) : iAny K tl σ H R = tl σ H fun x H1 => rAny K x H1 R := rfl
def tTru (K : PySem.W.Frag) (ta : TE) : TT := fun σ H Q => ta σ H fun x H' => ∃ k, TruV K x H' k ∧ Q k H'
/-! ### the joined rules, read: by equations where no object is met, by lemmas where one is -/
section
variable {K : PySem.W.Frag} {H : Hp} {Q : VK} {R : It → Hp → Prop} {x y : V} {a b p : Addr} {xs zs ys : List V}
theorem rPlus_ii (i j : Int) : rPlus K (.int i) (.int j) H Q = Q (.int (i + j)) H := by simp [rPlus, rI0, rCatT2, rCatS]
theorem rPlus_ss (i j : Str) : rPlus K (.str i) (.str j) H Q = ∃ l m, i = S l ∧ j = S m ∧ l.length + m.length ≤ sizeLine ∧ Q (.str (S (l ++ m))) H := by simp [rPlus, rI0, rCatT2, rCatS]
theorem rPlus_l (h1 : SqL K H a xs) (h2 : SqL K H b zs) (hz : xs.length + zs.length ≤ sizeLine) (q : ∀ p, H p = none → Q (.ref p) (upd H p (.lst (xs ++ zs)))) : rPlus K (.ref a) (.ref b) H Q := .inr (.inr ⟨a, b, xs, zs, rfl, rfl, h1, h2, hz, q⟩)
theorem rEqq_ii (i j : Int) : rEqq K (.int i) (.int j) H Q = Q (.bl (decide (i = j))) H := by simp [rEqq, rEq, rEqD, scal, isRef]
theorem rNeq_ii (i j : Int) : rNeq K (.int i) (.int j) H Q = Q (.bl (!(decide (i = j)))) H := by simp [rNeq, rNe, rEqD, scal, isRef]
theorem rEqq_ss (i j : Str) : rEqq K (.str i) (.str j) H Q = Q (.bl (decide (i = j))) H := by simp [rEqq, rEq, rEqD, scal, isRef]
theorem rNeq_ss (i j : Str) : rNeq K (.str i) (.str j) H Q = Q (.bl (!(decide (i = j)))) H := by simp [rNeq, rNe, rEqD, scal, isRef]
theorem rEqq_bb (i j : Bool) : rEqq K (.bl i) (.bl j) H Q = Q (.bl (decide (i = j))) H := by simp [rEqq, rEq, rEqD, scal, isRef]
theorem rNeq_bb (i j : Bool) : rNeq K (.bl i) (.bl j) H Q = Q (.bl (!(decide (i = j)))) H := by simp [rNeq, rNe, rEqD, scal, isRef]
theorem rEqq_nn  : rEqq K .non .non H Q = Q (.bl (true)) H := by simp [rEqq, rEq, rEqD, scal, isRef]
theorem rNeq_nn  : rNeq K .non .non H Q = Q (.bl (!(true))) H := by simp [rNeq, rNe, rEqD, scal, isRef]
theorem rEqq_ni (j : Int) : rEqq K .non (.int j) H Q = Q (.bl (false)) H := by simp [rEqq, rEq, rEqD, scal, isRef]
theorem rNeq_ni (j : Int) : rNeq K .non (.int j) H Q = Q (.bl (!(false))) H := by simp [rNeq, rNe, rEqD, scal, isRef]
theorem rEqq_in (j : Int) : rEqq K (.int j) .non H Q = Q (.bl (false)) H := by simp [rEqq, rEq, rEqD, scal, isRef]
theorem rNeq_in (j : Int) : rNeq K (.int j) .non H Q = Q (.bl (!(false))) H := by simp [rNeq, rNe, rEqD, scal, isRef]
theorem rEqq_ns (j : Str) : rEqq K .non (.str j) H Q = Q (.bl (false)) H := by simp [rEqq, rEq, rEqD, scal, isRef]
theorem rNeq_ns (j : Str) : rNeq K .non (.str j) H Q = Q (.bl (!(false))) H := by simp [rNeq, rNe, rEqD, scal, isRef]
theorem rEqq_sn (j : Str) : rEqq K (.str j) .non H Q = Q (.bl (false)) H := by simp [rEqq, rEq, rEqD, scal, isRef]
theorem rNeq_sn (j : Str) : rNeq K (.str j) .non H Q = Q (.bl (!(false))) H := by simp [rNeq, rNe, rEqD, scal, isRef]
theorem rEqq_nb (j : Bool) : rEqq K .non (.bl j) H Q = Q (.bl (false)) H := by simp [rEqq, rEq, rEqD, scal, isRef]
theorem rNeq_nb (j : Bool) : rNeq K .non (.bl j) H Q = Q (.bl (!(false))) H := by simp [rNeq, rNe, rEqD, scal, isRef]
theorem rEqq_bn (j : Bool) : rEqq K (.bl j) .non H Q = Q (.bl (false)) H := by simp [rEqq, rEq, rEqD, scal, isRef]
theorem rNeq_bn (j : Bool) : rNeq K (.bl j) .non H Q = Q (.bl (!(false))) H := by simp [rNeq, rNe, rEqD, scal, isRef]
theorem rEqq_is (i : Int) (j : Str) : rEqq K (.int i) (.str j) H Q = Q (.bl (false)) H := by simp [rEqq, rEq, rEqD, scal, isRef]
theorem rNeq_is (i : Int) (j : Str) : rNeq K (.int i) (.str j) H Q = Q (.bl (!(false))) H := by simp [rNeq, rNe, rEqD, scal, isRef]
theorem rEqq_si (i : Int) (j : Str) : rEqq K (.str j) (.int i) H Q = Q (.bl (false)) H := by simp [rEqq, rEq, rEqD, scal, isRef]
theorem rNeq_si (i : Int) (j : Str) : rNeq K (.str j) (.int i) H Q = Q (.bl (!(false))) H := by simp [rNeq, rNe, rEqD, scal, isRef]
theorem rNeq_d {d e : PyData} (hr : (isRef x || isRef y) = true) (h1 : Den K H x d) (h2 : Den K H y e) (s1 : SeqAt.shaped d = true) (s2 : SeqAt.shaped e = true) (q : Q (.bl (!PyData.eqv d e)) H) : rNeq K x y H Q := .inr ⟨hr, d, e, h1, h2, s1, s2, q⟩
theorem rLt_ii (i j : Int) : rLt (.int i) (.int j) H Q = Q (.bl (decide (i < j))) H := by simp [rLt, rI0, rStrs]
theorem rLt_ss (i j : Str) : rLt (.str i) (.str j) H Q = Q (.bl (decide (i.cps.toList < j.cps.toList))) H := by simp [rLt, rI0, rStrs]
theorem rLe_ii (i j : Int) : rLe (.int i) (.int j) H Q = Q (.bl (decide (i ≤ j))) H := by simp [rLe, rI0, rStrs]
theorem rLe_ss (i j : Str) : rLe (.str i) (.str j) H Q = Q (.bl (!decide (j.cps.toList < i.cps.toList))) H := by simp [rLe, rI0, rStrs]
theorem rLen_s (i : Str) : rLen K [.str i] H Q = ∃ l, i = S l ∧ l.length ≤ sizeLine ∧ Q (.int l.length) H := by simp [rLen]
theorem rLen_l (h : SqL K H p ys) (q : Q (.int ys.length) H) : rLen K [.ref p] H Q := .inl ⟨p, ys, rfl, .inl h, q⟩
theorem rInn_s (i j : Str) : rInn K (.str i) (.str j) H Q = Q (.bl (occB j i)) H := by simp [rInn, rIn]
theorem rNin_s (i j : Str) : rNin K (.str i) (.str j) H Q = Q (.bl (!occB j i)) H := by simp [rNin, rIn]
theorem rIxA_s (i : Str) : rIxA K (.str i) y H Q = rIxS2 (.str i) y H Q := by simp [rIxA, rIxL, rIxT]
theorem rIxA_l {i : Int} {v : V} (h : SqL K H p xs) (e : atI xs i = some v) (q : Q v H) : rIxA K (.ref p) (.int i) H Q := .inl ⟨p, xs, i, v, rfl, rfl, h, e, q⟩
theorem rSlA_s (i : Str) (lo hi : Option Int) : rSlA K (.str i) lo hi H Q = rSlS (.str i) lo hi H Q := by simp [rSlA, rSlL]
theorem rAny_s (z : Str) : rAny K (.str z) H R = R (Its z) H := by simp [rAny]
theorem TruV_b (b k : Bool) : TruV K (.bl b) H k = (k = b) := rfl
theorem TruV_n (k : Bool) : TruV K .non H k = (k = false) := rfl
theorem TruV_i (i : Int) (k : Bool) : TruV K (.int i) H k = (k = (i != 0)) := rfl
end
/-! ### the same rules, the written part named (so that a block's rule does not hang on the block) -/
section
variable {X : Cx} {K : PySem.W.Frag} {a b c e o l tg : Expr} {es : List Expr} {ta tb to te tl : TE} {t : TA} {pos apos cpos p2 : Pos} {f name : Str} {lo hi : Option Expr} {tlo thi : TO}
theorem op_plusK (hK : X.K = K := by rfl) : OpR X (binaryOp .Add) (rPlus K) := hK ▸ op_plus
theorem op_eqK (hu : X.A.units + 64 < cLine) (hK : X.K = K := by rfl) : OpR X (compareOp .Eq) (rEqq K) := hK ▸ op_eqA hu
theorem op_neK (hu : X.A.units + 64 < cLine) (hK : X.K = K := by rfl) : OpR X (compareOp .NotEq) (rNeq K) := hK ▸ op_neA hu
theorem call_lenK (hK : X.K = K := by rfl) : CallR X (.builtin "len") (rLen K) := hK ▸ call_lenA
theorem op_ltK : OpR X (compareOp .Lt) rLt := op_ltA
theorem ix_anyK (hu : X.A.units + 1 < cLine) (hK : X.K = K := by rfl) : IxR X (rIxA K) := hK ▸ ix_any hu
theorem op_inK (hu : X.A.units + 1 < cLine) (hK : X.K = K := by rfl) : OpR X (compareOp .In) (rInn K) := hK ▸ op_inA hu
theorem pt_truthK (ha : PE X a ta) (he : ∀ whole, isTrue a X.env whole = (do let v ← whole; standAt a.pos; holding [v] (truthy v))) (hK : X.K = K := by rfl) :
    PT X a (tTru K ta) := hK ▸ pt_truth ha he
end
end L2

set_option Elab.async false
set_option linter.all false
set_option maxRecDepth 100000
set_option maxHeartbeats 4000000
namespace L2
open PySem PySem.Spec PyProof.Rows

/-! ### x in range(a, b) -/
section
variable {X : Cx}
def tInRng (neg : Bool) (ta : TE) (tr : TA) : TE := fun σ H Q => ta σ H fun x H1 => tr σ H1 fun vs H2 => ∃ i a b : Int, x = .int i ∧ vs = [.int a, .int b] ∧ Q (.bl (if neg then !(decide (a ≤ i) && decide (i < b)) else (decide (a ≤ i) && decide (i < b)))) H2
def tInRng1 (neg : Bool) (ta : TE) (tr : TA) : TE := fun σ H Q => ta σ H fun x H1 => tr σ H1 fun vs H2 => ∃ i b : Int, x = .int i ∧ vs = [.int b] ∧ Q (.bl (if neg then !(decide (0 ≤ i) && decide (i < b)) else (decide (0 ≤ i) && decide (i < b)))) H2
/-! ### all, any, sum of a list -/
def rAll (K : PySem.W.Frag) : List V → Hp → VK → Prop := fun xs H Q => ∃ (p : Addr) (bs : List Bool), xs = [.ref p] ∧ SqL K H p (bs.map V.bl) ∧ Q (.bl (bs.all id)) H
def rAnyB (K : PySem.W.Frag) : List V → Hp → VK → Prop := fun xs H Q => ∃ (p : Addr) (bs : List Bool), xs = [.ref p] ∧ SqL K H p (bs.map V.bl) ∧ Q (.bl (bs.any id)) H
def rSum (K : PySem.W.Frag) : List V → Hp → VK → Prop := fun xs H Q => ∃ (p : Addr) (ns : List Int), xs = [.ref p] ∧ SqL K H p (ns.map V.int) ∧ Q (.int ns.sum) H
/-! ### min, max, int, str -/
def rMax : List V → Hp → VK → Prop := fun xs H Q => ∃ i j, xs = [.int i, .int j] ∧ Q (.int (max i j)) H
def rMin : List V → Hp → VK → Prop := fun xs H Q => ∃ i j, xs = [.int i, .int j] ∧ Q (.int (min i j)) H
def rInt : List V → Hp → VK → Prop := fun xs H Q => (∃ i, xs = [.int i] ∧ Q (.int i) H) ∨ ∃ k, xs = [.bl k] ∧ Q (.int (if k = true then 1 else 0)) H
theorem rInt_i {H : Hp} {Q : VK} (i : Int) : rInt [.int i] H Q = Q (.int i) H := by simp [rInt]
theorem rInt_b {H : Hp} {Q : VK} (k : Bool) : rInt [.bl k] H Q = Q (.int (if k = true then 1 else 0)) H := by simp [rInt]
/-- the figures of a whole number -/
def strI (i : Int) : List Nat := (toString i : Str).cps.toList
def rStrI : List V → Hp → VK → Prop := fun xs H Q => ∃ i, xs = [.int i] ∧ i.natAbs.log2 < 1920 ∧ Q (.str (S (strI i))) H
theorem call_strK {K : PySem.W.Frag} : CallR X (.type "str") rStrI := by
  intro pins s σ H xs us Q I r h
  obtain ⟨i, rfl, hz, q⟩ := h
  refine call_str_int pins s σ H _ us Q I r ⟨i, rfl, hz, ?_⟩
  have e : (toString i : Str) = S (strI i) := S_of _
  rw [e]
  exact q
end
end L2

set_option Elab.async false
set_option linter.all false
set_option maxRecDepth 100000
set_option maxHeartbeats 4000000
namespace L2
open PySem PySem.Spec PyProof.Rows

/-! ### a def with defaults -/
structure FunD (K : PySem.W.Frag) (x qual : Str) (st : Stmt) (f : Addr) (fd : FuncData) (items : List Value) : Prop where
  ex : ∃ (oc : Value) (od : Option Addr) (kV doc pm : Value) (an : Option Addr) (cdv ct : Value) (osl : Array (Option Value)) (tD : Addr) (o : Obj) (n : Nat),
    fd = PySem.W.fnOf x qual (defArgs st) (defBody st) (defScope st) (.ref tD) kV doc pm an cdv ct ∧ K.lookup f = some ⟨oc, od, .func fd, osl⟩ ∧ PySem.W.codeIn K cdv qual = true ∧ K.lookup tD = some o ∧ o.data = .seq items.toArray n
  kp : PySem.W.keepIn K (.ref f) = true
section
variable {P : Program} {w : World} {K : PySem.W.Frag} {mg : Str → Option Value} {base : Heap}
theorem FunD.ok {x qual : Str} {st : Stmt} {f : Addr} {fd : FuncData} {items : List Value} {N ps : List Str} {k : Nat} {sp : Sp} (F : FunD K x qual st f fd items) (S : FnScope N ps (defScope st)) (len : ∀ vs H Q E, sp vs H Q E → vs.length = ps.length)
    (hbody : ∀ (cdv : Value) (A : Around) (outer : List Env) (s : Shared) (H : Hp) (vs : List V) (Q : VK) (E : XK), Room k (A.deeper (envOfC qual (defScope st) s.heap.objs.size f cdv)) → sp vs H Q E →
      ∃ t, PSs (cxOf CX0 P w K mg base N qual (defScope st) f cdv A outer s H E).nox (defBody st) t ∧ t { nx := fun _ H' => Q .non H', rt := Q } (start N vs) H) : FnOk P w K mg base CX0 (k + 1) f fd ps sp := by
  obtain ⟨oc, od, kV, doc, pm, an, cdv, ct, osl, tD, o, n, rfl, lk, hcd, _⟩ := F.ex
  refine fn_of lk hcd S len fun A outer s H vs Q E hr hsp => ?_
  obtain ⟨t, h, q⟩ := hbody cdv A outer s H vs Q E hr hsp
  exact ⟨t, h.nox, q⟩
/-- how its arguments bind, ds the defaults that fill up -/
theorem FunD.binds {x qual : Str} {st : Stmt} {f : Addr} {fd : FuncData} {items : List Value} {ps : List Str} (ds : List Value) (m : Nat) (hm : m + ds.length = ps.length) (F : FunD K x qual st f fd items)
    (h : ∀ (tD : Addr) (kV doc pm : Value) (an : Option Addr) (cdv ct : Value) (us : List Value), us.length = m →
      ∃ kk, bindArgs (PySem.W.fnOf x qual (defArgs st) (defBody st) (defScope st) (.ref tD) kV doc pm an cdv ct) ⟨us, []⟩ = seqItems? (.ref tD) >>= kk ∧ kk (some items.toArray) = pure (ps.zip (us ++ ds))) : Binds K fd ps ds := by
  obtain ⟨oc, od, kV, doc, pm, an, cdv, ct, osl, tD, o, n, rfl, lk, hcd, ho, hs⟩ := F.ex
  intro s us X hl
  rw [List.length_append] at hl
  obtain ⟨kk, h1, h2⟩ := h tD kV doc pm an cdv ct us (by omega)
  exact BindsTo.of_defaults rfl (X _ _ ho) hs h1 h2
end

/-! ### what a step may change -/
/-- of what stood only the objects at A may have changed, tuples never -/
structure Chg (A : List Addr) (H H' : Hp) : Prop where
  keep : ∀ b o, H b = some o → b ∉ A → H' b = some o
  tup : ∀ b xs, H b = some (.tup xs) → H' b = some (.tup xs)
theorem Chg.refl {A : List Addr} (H : Hp) : Chg A H H := ⟨fun _ _ h _ => h, fun _ _ h => h⟩
theorem Chg.of_same {A : List Addr} {H H' : Hp} (s : Same H H') : Chg A H H' := ⟨fun b o h _ => s b o h, fun b xs h => s b _ h⟩
theorem Chg.same {H H' : Hp} (s : Chg [] H H') : Same H H' := fun b o h => s.keep b o h (by simp)
theorem Chg.trans {A : List Addr} {H H1 H2 : Hp} (x : Chg A H H1) (y : Chg A H1 H2) : Chg A H H2 := ⟨fun b o h n => y.keep b o (x.keep b o h n) n, fun b xs h => y.tup b xs (x.tup b xs h)⟩
theorem Chg.mono {A B : List Addr} {H H' : Hp} (x : Chg A H H') (h : ∀ b, b ∈ A → b ∈ B) : Chg B H H' := ⟨fun b o e n => x.keep b o e fun z => n (h b z), x.tup⟩
theorem Chg.upd {A : List Addr} {H : Hp} {a : Addr} {o : HO} (ha : a ∈ A) (hm : ∀ xs, H a ≠ some (.tup xs)) : Chg A H (L2.upd H a o) := by
  refine ⟨fun b u e n => ?_, fun b xs e => ?_⟩
  · have hb : b ≠ a := fun z => by subst z; exact n ha
    rw [upd_ne hb]; exact e
  · have hb : b ≠ a := fun z => by subst z; exact hm xs e
    rw [upd_ne hb]; exact e
theorem Chg.new {A : List Addr} {H : Hp} {a : Addr} {o : HO} (ha : H a = none) : Chg A H (L2.upd H a o) := .of_same (Same.upd ha)
/-- an address that was free stays out of what was there -/
theorem Chg.free {H H' : Hp} {l b : Addr} {A : List Addr} {o : HO} (x : Chg A H H') (h : H' l = none) (e : H b = some o) (n : b ∉ A) : l ≠ b := fun z => by
  have := x.keep b o e n
  rw [← z, h] at this
  cases this
/-! ### comprehensions with a test, over a range; over a list -/
/-! ### addresses apart -/
/-- all there -/
def Pres (H : Hp) (l : List Addr) : Prop := ∀ a ∈ l, H a ≠ none
theorem Pres.nil (H : Hp) : Pres H [] := fun a h => by cases h
theorem Pres.same {H H' : Hp} {l : List Addr} (p : Pres H l) (s : Same H H') : Pres H' l := fun a h z => by
  cases e : H a with
  | none => exact p a h e
  | some o => rw [s a o e] at z; cases z
theorem Pres.cons {H : Hp} {l : List Addr} {a : Addr} {o : HO} (p : Pres H l) (h : H a = some o) : Pres H (a :: l) := fun b hb => by
  rcases List.mem_cons.mp hb with rfl | hb
  · rw [h]; intro z; cases z
  · exact p b hb
theorem Pres.new {H : Hp} {l : List Addr} {a : Addr} (p : Pres H l) (nd : l.Nodup) (h : H a = none) : (a :: l).Nodup := List.nodup_cons.mpr ⟨fun hm => p a hm h, nd⟩
end L2

set_option Elab.async false
set_option linter.all false
set_option maxRecDepth 100000
set_option maxHeartbeats 4000000
namespace L2
open PySem PySem.Spec PyProof.Rows
section
variable {X : Cx} {pins : List (Addr × Obj)} {σ : St} {H : Hp} {s : Shared} {h' : Heap}
end

/-! ### zip of two lists -/
def Itz (K : PySem.W.Frag) (a b : Addr) : It :=
  ⟨fun i H => ∃ xs ys x y, SqL K H a xs ∧ SqL K H b ys ∧ xs[i]? = some x ∧ ys[i]? = some y,
   fun i H v H' => ∃ T x y, v = .ref T ∧ H T = none ∧ H' = upd H T (.tup [x, y]) ∧ (∀ xs, SqL K H a xs → xs[i]? = some x) ∧ ∀ ys, SqL K H b ys → ys[i]? = some y,
   fun i H => ∃ xs ys, SqL K H a xs ∧ SqL K H b ys ∧ (xs.length ≤ i ∨ ys.length ≤ i)⟩
section
variable {X : Cx}
def iZip (K : PySem.W.Frag) (ta : TA) : TI := fun σ H R => ta σ H fun vs H1 => ∃ a b xs ys, vs = [.ref a, .ref b] ∧ SqL K H1 a xs ∧ SqL K H1 b ys ∧ R (Itz K a b) H1
/-! ### enumerate of a list -/
end
def Ite (K : PySem.W.Frag) (a : Addr) : It :=
  ⟨fun i H => ∃ xs x, SqL K H a xs ∧ xs[i]? = some x,
   fun i H v H' => ∃ T x, v = .ref T ∧ H T = none ∧ H' = upd H T (.tup [.int (i : Nat), x]) ∧ ∀ xs, SqL K H a xs → xs[i]? = some x,
   fun i H => ∃ xs, SqL K H a xs ∧ xs.length ≤ i⟩
section
variable {X : Cx}
def iEnum (K : PySem.W.Frag) (ta : TA) : TI := fun σ H R => ta σ H fun vs H1 => ∃ a xs, vs = [.ref a] ∧ SqL K H1 a xs ∧ R (Ite K a) H1
end
/-! ### loops over these -/
end L2

set_option Elab.async false
set_option linter.all false
set_option maxRecDepth 100000
set_option maxHeartbeats 4000000
namespace L2
open PySem PySem.Spec PyProof.Rows
/-! ### what the laws' own small defs are worth -/
def mixN (c k : Int) : Int := ((c % 2147483647 * 48271 + 7919 * k + 1) % 2147483647) * ((c % 2147483647 * 48271 + 7919 * k + 1) % 2147483647) % 2147483647
theorem mixN_bd (c k : Int) : 0 ≤ mixN c k ∧ mixN c k < 2147483647 := by unfold mixN; omega
def sp_mixed : Sp := fun vs H Q _ => ∃ c k, vs = [.int c, .int k] ∧ Q (.int (mixN c k)) H
def sp_cell_at (K : PySem.W.Frag) : Sp := fun vs H Q _ => ∃ (p : Addr) (ns : List Int) (k : Int), vs = [.ref p, .int k] ∧ SqL K H p (ns.map V.int) ∧ 0 ≤ k ∧ Q (.int (ns.getD k.toNat 0)) H
def T62 : List Nat := [48, 49, 50, 51, 52, 53, 54, 55, 56, 57, 97, 98, 99, 100, 101, 102, 103, 104, 105, 106, 107, 108, 109, 110, 111, 112, 113, 114, 115, 116, 117, 118, 119, 120, 121, 122, 65, 66, 67, 68, 69, 70, 71, 72, 73, 74, 75, 76, 77, 78, 79, 80, 81, 82, 83, 84, 85, 86, 87, 88, 89, 90]
def T34 : List Nat := [32, 33, 34, 35, 36, 38, 39, 40, 41, 42, 43, 44, 45, 46, 47, 58, 59, 60, 61, 62, 63, 64, 91, 92, 93, 94, 95, 96, 123, 124, 125, 126, 10, 9]
def T96 : List Nat := T62 ++ T34
def sgn (n m : Int) : Nat := T96.getD (n % m).toNat 0
def sp_sign : Sp := fun vs H Q _ => ∃ n m : Int, vs = [.int n, .int m] ∧ 0 < m ∧ m ≤ 96 ∧ Q (.str (S [sgn n m])) H
/-- texts of the blank to ~ but the per cent sign -/
def okSign (c : Nat) : Bool := decide (32 ≤ c) && decide (c ≤ 126) && decide (c ≠ 37)
def sp_law (K : PySem.W.Frag) : Sp := fun vs H Q _ => ∃ (p : Addr) (ns : List Int), vs = [.ref p] ∧ SqL K H p (ns.map V.int) ∧ ns.length ≤ 63 ∧ ∀ H', Q (.bl true) H'
end L2

set_option Elab.async false
set_option linter.all false
set_option maxRecDepth 100000
set_option maxHeartbeats 4000000
namespace L2
open PySem PySem.Spec PyProof.Rows
/-! ### equal data -/
def okS (l : List Nat) : Prop := ∀ c ∈ l, c < 1114112
theorem strI_len {i : Int} (h : i.natAbs.log2 < 1920) : (strI i).length ≤ 1921 := by
  have := int_text_len_1921 h
  unfold strI
  rw [Array.length_toList]
  exact this
theorem log_small {i : Int} (h0 : -(2 ^ 64) < i) (h1 : i < 2 ^ 64) : i.natAbs.log2 < 1920 := by
  by_cases hz : i.natAbs = 0
  · rw [hz]; decide
  · exact Nat.lt_of_lt_of_le ((Nat.log2_lt hz).mpr (show i.natAbs < 2 ^ 64 by omega)) (by decide)
theorem okS_ofString (z : String) : okS (Str.ofString z).cps.toList := by
  intro c hc
  rw [Str.ofString_eq_toList] at hc
  have hc' : c ∈ z.toList.map Char.toNat := by simpa using hc
  obtain ⟨ch, _, rfl⟩ := List.mem_map.mp hc'
  have h := ch.valid
  show ch.val.toNat < 1114112
  rcases h with h | h
  · have h' : ch.val.toNat < 0xd800 := h
    omega
  · exact h.2
theorem okS_strI (i : Int) : okS (strI i) := okS_ofString _
def wd (n : Nat) (d : PyData) : Prop := d.canLay0 = true ∧ d.depth ≤ n
theorem wd_non (n : Nat) : wd n .none := ⟨rfl, Nat.zero_le _⟩
theorem wd_bl (n : Nat) (b : Bool) : wd n (.bool b) := ⟨rfl, Nat.zero_le _⟩
theorem wd_int (n : Nat) (i : Int) : wd n (.int i) := ⟨rfl, Nat.zero_le _⟩
theorem wd_str (n : Nat) {l : List Nat} (h : okS l) : wd n (.str (S l)) := by
  refine ⟨?_, Nat.zero_le _⟩
  show (S l).cps.all (· < 0x110000) = true
  simp
  exact h
theorem wd_all {n : Nat} : ∀ {ds : List PyData}, (∀ d ∈ ds, wd n d) → PyData.canLayAll0 ds = true ∧ PyData.depthAll ds ≤ n
  | [], _ => ⟨rfl, Nat.zero_le _⟩
  | d :: r, h => by
    obtain ⟨h1, h2⟩ := h d List.mem_cons_self
    obtain ⟨h3, h4⟩ := wd_all (n := n) (ds := r) fun x hx => h x (List.mem_cons_of_mem _ hx)
    refine ⟨?_, ?_⟩
    · rw [PyData.canLayAll0, h1, h3]; rfl
    · rw [PyData.depthAll]; exact Nat.max_le.mpr ⟨h2, h4⟩
theorem wd_list {n : Nat} {ds : List PyData} (h : ∀ d ∈ ds, wd n d) : wd (n + 1) (.list ds) := by
  obtain ⟨h1, h2⟩ := wd_all h
  exact ⟨by rw [PyData.canLay0]; exact h1, by rw [PyData.depth]; omega⟩
theorem wd_tuple {n : Nat} {ds : List PyData} (h : ∀ d ∈ ds, wd n d) : wd (n + 1) (.tuple ds) := by
  obtain ⟨h1, h2⟩ := wd_all h
  exact ⟨by rw [PyData.canLay0]; exact h1, by rw [PyData.depth]; omega⟩
theorem wd.shaped {n : Nat} {d : PyData} (h : wd n d) (hn : n ≤ 64 := by decide) : SeqAt.shaped d = true := by
  unfold SeqAt.shaped
  rw [h.1, decide_eq_true (Nat.le_trans h.2 hn)]
  rfl
theorem rNeq_same {K : PySem.W.Frag} {H : Hp} {Q : VK} {x y : V} {n : Nat} {d : PyData} (h1 : Den K H x d) (h2 : Den K H y d) (hw : wd n d) (hr : (isRef x || isRef y) = true) (q : Q (.bl false) H) (hn : n ≤ 64 := by decide) : rNeq K x y H Q :=
  rNeq_d hr h1 h2 (hw.shaped hn) (hw.shaped hn) (by rw [SeqAt.eqv_refl d hw.1]; exact q)
/-! ### a list that stays, whatever is done to the objects at A -/
def Scr (K : PySem.W.Frag) (H : Hp) (A : List Addr) (p : Addr) (xs : List V) : Prop := (SqL K H p xs ∧ p ∉ A) ∨ ∀ H', SqL K H' p xs
theorem Scr.chg {K : PySem.W.Frag} {H H' : Hp} {A : List Addr} {p : Addr} {xs : List V} (h : Scr K H A p xs) (c : Chg A H H') : Scr K H' A p xs := by
  rcases h with ⟨h, hp⟩ | h
  · refine .inl ⟨?_, hp⟩
    rcases h with (h | ⟨o, h⟩) | h
    · exact .inl (.inl (c.keep _ _ h hp))
    · exact .inl (.inr ⟨o, c.keep _ _ h hp⟩)
    · exact .inr h
  · exact .inr h
theorem Scr.mono {K : PySem.W.Frag} {H : Hp} {A B : List Addr} {p : Addr} {xs : List V} (h : Scr K H A p xs) (s : ∀ b ∈ B, b ∈ A) : Scr K H B p xs := h.elim (fun h => .inl ⟨h.1, fun z => h.2 (s _ z)⟩) .inr
theorem Scr.of {K : PySem.W.Frag} {H : Hp} {A : List Addr} {p : Addr} {xs : List V} (h : SqL K H p xs) (f : ∀ b ∈ A, H b = none) : Scr K H A p xs := by
  rcases h with (h' | ⟨o, h'⟩) | h'
  · exact .inl ⟨.inl (.inl h'), fun z => by rw [f p z] at h'; cases h'⟩
  · exact .inl ⟨.inl (.inr ⟨o, h'⟩), fun z => by rw [f p z] at h'; cases h'⟩
  · exact .inr fun _ => .inr h'
/-! ### lists of tuples of plain values -/
def scalD : V → PyData
  | .bl b => .bool b
  | .int i => .int i
  | .str x => .str x
  | _ => .none
theorem den_scal {K : PySem.W.Frag} {H : Hp} {v : V} (f : flatV v = true) : Den K H v (scalD v) := by
  cases v with
  | non => exact .non
  | bl b => exact .bl b
  | int i => exact .int i
  | str x => exact .str x
  | _ => exact absurd (show false = true from f) Bool.false_ne_true
def okV : V → Prop
  | .str x => okS x.cps.toList
  | _ => True
theorem wd_scal (n : Nat) {v : V} (h : okV v) : wd n (scalD v) := by
  cases v with
  | str x => have := wd_str n (l := x.cps.toList) h; rwa [← S_of] at this
  | bl b => exact wd_bl n b
  | int i => exact wd_int n i
  | _ => exact wd_non n
/-- the tuples at these addresses -/
def TupsAt (H : Hp) : List Addr → List (List V) → Prop := Paired fun t xs => H t = some (.tup xs)
def LTups (H : Hp) (D : Addr) (rows : List (List V)) : Prop := ∃ ts, H D = some (.lst (ts.map V.ref)) ∧ TupsAt H ts rows
theorem TupsAt.chg {A : List Addr} {H H' : Hp} {ts : List Addr} {rows : List (List V)} (h : TupsAt H ts rows) (c : Chg A H H') : TupsAt H' ts rows := Paired.mapP h fun _ _ e => c.tup _ _ e
theorem LTups.chg {A : List Addr} {H H' : Hp} {D : Addr} {rows : List (List V)} (h : LTups H D rows) (c : Chg A H H') (hD : D ∉ A) : LTups H' D rows := by
  obtain ⟨ts, e, t⟩ := h
  exact ⟨ts, c.keep _ _ e hD, t.chg c⟩
theorem LTups.same {H H' : Hp} {D : Addr} {rows : List (List V)} (h : LTups H D rows) (s : Same H H') : LTups H' D rows := h.chg (A := []) (Chg.of_same s) (by simp)
theorem TupsAt.get {H : Hp} {ts : List Addr} {rows : List (List V)} (h : TupsAt H ts rows) : ∀ {i : Nat} {t : Addr}, ts[i]? = some t → ∃ xs, rows[i]? = some xs ∧ H t = some (.tup xs) := by
  unfold TupsAt at h
  induction h with
  | nil => intro i t e; simp at e
  | @cons a b as bs e r ih =>
    intro i t q
    cases i with
    | zero => simp at q; subst q; exact ⟨b, rfl, e⟩
    | succ i => simpa using ih (by simpa using q)
theorem TupsAt.length {H : Hp} {ts : List Addr} {rows : List (List V)} (h : TupsAt H ts rows) : ts.length = rows.length := Paired.length h
theorem TupsAt.snoc {H : Hp} {ts : List Addr} {rows : List (List V)} {t : Addr} {xs : List V} (h : TupsAt H ts rows) (e : H t = some (.tup xs)) : TupsAt H (ts ++ [t]) (rows ++ [xs]) := by
  unfold TupsAt at h ⊢
  induction h with
  | nil => exact .cons e .nil
  | cons e' r ih => exact .cons e' ih
theorem TupsAt.filter {H : Hp} {ts : List Addr} {rows : List (List V)} (h : TupsAt H ts rows) (p : Addr → Bool) (q : List V → Bool) (hpq : ∀ t xs, H t = some (.tup xs) → t ∈ ts → p t = q xs) : TupsAt H (ts.filter p) (rows.filter q) := by
  unfold TupsAt at h ⊢
  induction h with
  | nil => exact .nil
  | @cons t xs ts rows e r ih =>
    have ih' := ih fun t' xs' e' m' => hpq t' xs' e' (List.mem_cons_of_mem _ m')
    have hp := hpq t xs e List.mem_cons_self
    by_cases hq : q xs = true
    · rw [List.filter_cons_of_pos hq, List.filter_cons_of_pos (hp.trans hq)]
      exact .cons e ih'
    · rw [List.filter_cons_of_neg hq, List.filter_cons_of_neg (by rw [hp]; exact hq)]
      exact ih'
theorem TupsAt.take {H : Hp} {ts : List Addr} {rows : List (List V)} (h : TupsAt H ts rows) (n : Nat) : TupsAt H (ts.take n) (rows.take n) := by
  unfold TupsAt at h ⊢
  induction h generalizing n with
  | nil => simp; exact .nil
  | cons e r ih =>
    cases n with
    | zero => exact .nil
    | succ n => exact .cons e (ih n)
end L2

set_option Elab.async false
set_option linter.all false
set_option maxRecDepth 100000
set_option maxHeartbeats 4000000
namespace L2
open PySem PySem.Spec PyProof.Rows
/-! ### a row, as it stands -/
abbrev Ltr := List Nat × Option (List Nat) × Int
def wV : Option (List Nat) → V
  | none => .non
  | some l => .str (S l)
def letV (x : Ltr) : List V := [.str (S x.1), wV x.2.1, .int x.2.2]
structure RowM where
  first : Int
  last : Int
  drawn : Int
  L : Int → Option Ltr
def row0 : RowM := ⟨0, 0, 0, fun _ => none⟩
def rowF (M : RowM) (d : Addr) : List (Str × V) := [("first", .int M.first), ("end", .int M.last), ("drawn", .int M.drawn), ("letters", .ref d)]
/-- what a value says of a place: nothing, or the letter's tuple -/
def LetVal (H : Hp) : Option Ltr → V → Prop
  | none, v => v = .non
  | some x, v => ∃ t, v = .ref t ∧ H t = some (.tup (letV x))
def LetsAt (H : Hp) (kvs : List (Key × V)) (L : Int → Option Ltr) : Prop := ∀ p : Int, LetVal H (L p) ((valV kvs (.inl p)).getD .non) ∧ ((valV kvs (.inl p)).isSome = (L p).isSome)
theorem LetVal.chg {A : List Addr} {H H' : Hp} {o : Option Ltr} {v : V} (c : Chg A H H') (h : LetVal H o v) : LetVal H' o v := by
  cases o with
  | none => exact h
  | some x => obtain ⟨t, e, ht⟩ := h; exact ⟨t, e, c.tup _ _ ht⟩
theorem LetsAt.chg {A : List Addr} {H H' : Hp} {kvs : List (Key × V)} {L : Int → Option Ltr} (c : Chg A H H') (h : LetsAt H kvs L) : LetsAt H' kvs L := fun p => ⟨(h p).1.chg c, (h p).2⟩
theorem LetsAt.none {H : Hp} {kvs : List (Key × V)} {L : Int → Option Ltr} (h : LetsAt H kvs L) {p : Int} (e : L p = Option.none) : valV kvs (.inl p) = Option.none := by
  have := (h p).2
  rw [e] at this
  simpa using this
theorem LetsAt.some {H : Hp} {kvs : List (Key × V)} {L : Int → Option Ltr} (h : LetsAt H kvs L) {p : Int} {x : Ltr} (e : L p = Option.some x) : ∃ t, valV kvs (.inl p) = Option.some (.ref t) ∧ H t = Option.some (.tup (letV x)) := by
  obtain ⟨h1, h2⟩ := h p
  rw [e] at h1 h2
  obtain ⟨v, hv⟩ := Option.isSome_iff_exists.mp (h2.trans rfl)
  rw [hv] at h1
  obtain ⟨t, et, ht⟩ := h1
  refine ⟨t, ?_, ht⟩
  rw [hv]
  exact congrArg Option.some et
theorem LetsAt.put {H : Hp} {kvs : List (Key × V)} {L : Int → Option Ltr} (h : LetsAt H kvs L) {p : Int} {x : Ltr} {t : Addr} (ht : H t = Option.some (.tup (letV x))) : LetsAt H (putK kvs (.inl p) (.ref t)) (fun q => if q = p then Option.some x else L q) := by
  intro q
  rw [valV_put]
  by_cases e : q = p
  · subst e
    rw [if_pos rfl]
    dsimp only
    rw [if_pos rfl]
    exact ⟨⟨t, rfl, ht⟩, rfl⟩
  · have e' : ¬ (Sum.inl q : Key) = Sum.inl p := fun z => e (Sum.inl.inj z)
    rw [if_neg e']
    dsimp only
    rw [if_neg e]
    exact h q
theorem valV_drop {κ : Type} [DecidableEq κ] (kvs : List (κ × V)) (k j : κ) : valV (dropK kvs k) j = if j = k then Option.none else valV kvs j := by
  induction kvs with
  | nil => rw [show dropK ([] : List (κ × V)) k = [] from rfl, valV_nil]; split <;> rfl
  | cons p r ih =>
    by_cases e : p.1 = k
    · rw [dropK_pos e, ih]
      by_cases ej : j = k
      · rw [if_pos ej, if_pos ej]
      · rw [if_neg ej, if_neg ej, valV_neg (fun z => ej (z.symm.trans e))]
    · rw [dropK_neg e]
      by_cases ep : p.1 = j
      · rw [valV_pos ep, valV_pos ep, if_neg (fun z => e (ep.trans z))]
      · rw [valV_neg ep, valV_neg ep, ih]
theorem LetsAt.drop {H : Hp} {kvs : List (Key × V)} {L : Int → Option Ltr} (h : LetsAt H kvs L) (p : Int) : LetsAt H (dropK kvs (.inl p)) (fun q => if q = p then Option.none else L q) := by
  intro q
  rw [valV_drop]
  by_cases e : q = p
  · subst e
    rw [if_pos rfl]
    dsimp only
    rw [if_pos rfl]
    exact ⟨rfl, rfl⟩
  · have e' : ¬ (Sum.inl q : Key) = Sum.inl p := fun z => e (Sum.inl.inj z)
    rw [if_neg e']
    dsimp only
    rw [if_neg e]
    exact h q
structure RowAt (C : Addr) (H : Hp) (r d : Addr) (M : RowM) : Prop where
  obj : ∃ dx, H r = some (.ins C dx (rowF M d))
  dict : ∃ kvs, H d = some (.dK kvs) ∧ (kvs.length : Int) ≤ M.last ∧ LetsAt H kvs M.L
  f0 : 0 ≤ M.first
  fl : M.first ≤ M.last
  dr : 0 ≤ M.drawn
  within : ∀ p, (M.L p).isSome = true → M.first ≤ p ∧ p < M.last
theorem RowAt.chg {A : List Addr} {C : Addr} {H H' : Hp} {r d : Addr} {M : RowM} (h : RowAt C H r d M) (c : Chg A H H') (hr : r ∉ A) (hd : d ∉ A) : RowAt C H' r d M := by
  obtain ⟨dx, e⟩ := h.obj
  obtain ⟨kvs, e2, l, t⟩ := h.dict
  exact ⟨⟨dx, c.keep _ _ e hr⟩, ⟨kvs, c.keep _ _ e2 hd, l, t.chg c⟩, h.f0, h.fl, h.dr, h.within⟩
theorem RowAt.ne {C : Addr} {H : Hp} {r d : Addr} {M : RowM} (h : RowAt C H r d M) : r ≠ d := by
  obtain ⟨dx, e⟩ := h.obj
  obtain ⟨kvs, e2, _⟩ := h.dict
  exact ne_of e e2 (by intro z; cases z)
def RowM.add (M : RowM) (x : Ltr) : RowM := { M with last := M.last + 1, L := fun q => if q = M.last then some x else M.L q }
def RowM.out (M : RowM) (p : Int) : RowM := { M with L := fun q => if q = p then none else M.L q }
def RowM.upto (M : RowM) (p : Int) : Int := min p M.last
def RowM.cut (M : RowM) (p : Int) : RowM := { M with first := max M.first (M.upto p), L := fun q => if q < M.upto p then none else M.L q }
def RowM.raised (M : RowM) (p : Int) : RowM := { M with drawn := max M.drawn p }
/-- the places from lo on, n of them, where a letter stands -/
def RowM.standing (M : RowM) (lo : Int) (n : Nat) : List Int := ((List.range n).map fun (i : Nat) => lo + (i : Int)).filter fun q => (M.L q).isSome
def okL (x : Ltr) : Prop := okS x.1 ∧ ∀ w, x.2.1 = some w → okS w
def wordD : Option (List Nat) → PyData
  | none => .none
  | some l => .str (S l)
def letD (x : Ltr) : PyData := .tuple [.str (S x.1), wordD x.2.1, .int x.2.2]
/-- what is told of a place -/
def RowM.rowV (M : RowM) (p : Int) : List V := match M.L p with
  | some x => [.int p, .str (S x.1), wV x.2.1]
  | none => []
def RowM.seenP (M : RowM) (start limit most : Int) : List Int := (M.standing (max start M.first) (min limit M.last - max start M.first).toNat).take most.toNat
def sp_row_seen (C : Addr) : Sp := fun vs H Q _ => ∃ (r d : Addr) (M : RowM) (st li mo : Int), vs = [.ref r, .int st, .int li, .int mo] ∧ RowAt C H r d M ∧ M.last ≤ 100000 ∧ 0 ≤ st ∧ st ≤ 10 ^ 12 ∧ 0 ≤ li ∧ 0 ≤ mo ∧
  ∀ D H', H D = none → Same H H' → LTups H' D ((M.seenP st li mo).map M.rowV) → Q (.ref D) H'
def sp_row_init (C : Addr) : Sp := fun vs H Q _ => ∃ x dx, vs = [.ref x] ∧ H x = some (.ins C dx []) ∧ ∀ d H', H d = none → d ≠ x → Chg [x] H H' → RowAt C H' x d row0 → Q .non H'
def sp_row_add (C : Addr) : Sp := fun vs H Q _ => ∃ (r d : Addr) (M : RowM) (x : Ltr), vs = [.ref r, .str (S x.1), wV x.2.1, .int x.2.2] ∧ RowAt C H r d M ∧ M.last ≤ 100000 ∧ ∀ H', Chg [r, d] H H' → RowAt C H' r d (M.add x) → Q (.int M.last) H'
def sp_row_at (C : Addr) : Sp := fun vs H Q _ => ∃ (r d : Addr) (M : RowM) (p : Int), vs = [.ref r, .int p] ∧ RowAt C H r d M ∧ ∀ v, LetVal H (M.L p) v → Q v H
def sp_row_out (C : Addr) : Sp := fun vs H Q _ => ∃ (r d : Addr) (M : RowM) (p : Int), vs = [.ref r, .int p] ∧ RowAt C H r d M ∧ ∀ H', Chg [d] H H' → RowAt C H' r d (M.out p) → Q (.bl (M.L p).isSome) H'
def sp_row_cut (C : Addr) : Sp := fun vs H Q _ => ∃ (r d : Addr) (M : RowM) (p : Int), vs = [.ref r, .int p] ∧ RowAt C H r d M ∧ M.last ≤ 100000 ∧ -100000000000 ≤ p ∧
  ∀ D H', H D = none → Chg [r, d] H H' → RowAt C H' r d (M.cut p) → H' D = some (.lst ((M.standing M.first (M.upto p - M.first).toNat).map V.int)) → Q (.ref D) H'
def sp_row_raise (C : Addr) : Sp := fun vs H Q _ => ∃ (r d : Addr) (M : RowM) (p : Int), vs = [.ref r, .int p] ∧ RowAt C H r d M ∧ ∀ H', Chg [r] H H' → RowAt C H' r d (M.raised p) → Q .non H'
end L2

set_option Elab.async false
set_option linter.all false
set_option maxRecDepth 100000
set_option maxHeartbeats 4000000
namespace L2
open PySem PySem.Spec PyProof.Rows

/-! ### list(range(..)) -/
section
variable {X : Cx}
def rngV (lo : Int) (n : Nat) : List V := (List.range n).map fun (i : Nat) => V.int (lo + (i : Int))
def rngI (lo : Int) (n : Nat) : List Int := (List.range n).map fun (i : Nat) => lo + (i : Int)
def tLR1 (ta : TA) : TE := fun σ H Q => ta σ H fun vs H1 => ∃ j : Int, vs = [.int j] ∧ -(2 ^ 62) ≤ j ∧ j ≤ sizeLine ∧ ∀ l, H1 l = none → Q (.ref l) (upd H1 l (.lst (rngV 0 j.toNat)))
def tLR2 (ta : TA) : TE := fun σ H Q => ta σ H fun vs H1 => ∃ i j : Int, vs = [.int i, .int j] ∧ (-(2 ^ 62) ≤ i ∧ i < 2 ^ 62 ∧ -(2 ^ 62) ≤ j ∧ j < 2 ^ 62) ∧ j - i ≤ sizeLine ∧ ∀ l, H1 l = none → Q (.ref l) (upd H1 l (.lst (rngV i (j - i).toNat)))
/-! ### sorted(list of ints) -/
def rSortI (K : PySem.W.Frag) : List V → Hp → VK → Prop := fun xs H Q => ∃ (p : Addr) (ns : List Int), xs = [.ref p] ∧ SqL K H p (ns.map V.int) ∧ ns.length < 64 ∧
  ∀ l (ms : List Int), H l = none → ms.Perm ns → ms.Pairwise (· ≤ ·) → Q (.ref l) (upd H l (.lst (ms.map V.int)))
end

/-! ### len(set(list of texts)) -/
def addS (l : List Str) (x : Str) : List Str := if l.any (· == x) then l else l ++ [x]
def onceS (l : List Str) : List Str := l.foldl addS []
section
variable {prog : Program} {w : World} {A : Around} {s : Shared}
end
section
variable {prog : Program} {w : World} {A : Around} {E : Value → Shared → Prop} {s : Shared}
def emptySet (led : Bool) : Obj := { cls := .type "set", dict := none, data := .set #[] 0 (.fresh 0 0 led) }
/-- what the init of a set leaves -/
def SetDone (prog : Program) (w : World) (s : Shared) (ls : List Str) (s₂ : Shared) : Prop := ∃ h' tk, s₂ = { s with heap := h', toks := tk } ∧ h'.SetOf (strKind prog w) s.heap.objs.size (fun x => (onceS ls).any (· == x)) (onceS ls).length ∧
  ∀ b o, s.heap.get? b = some o → h'.get? b = some o
end
section
variable {X : Cx}
def tLenSet (K : PySem.W.Frag) (te : TE) : TE := fun σ H Q => te σ H fun x H1 => ∃ (p : Addr) (ls : List Str), x = .ref p ∧ SqL K H1 p (ls.map V.str) ∧ ls.length ≤ 4000 ∧ Q (.int (onceS ls).length) H1
/-- a tuple of the module -/
def TConst (K : PySem.W.Frag) (mg : Str → Option Value) (x : Str) (xs : List V) : Prop := ∃ p, mg x = some (.ref p) ∧ ∀ H, SqT K H p xs
def tCT (K : PySem.W.Frag) (xs : List V) : TE := fun _ H Q => ∀ p, (∀ H', SqT K H' p xs) → Q (.ref p) H
end
end L2

set_option Elab.async false
set_option linter.all false
set_option maxRecDepth 100000
set_option maxHeartbeats 4000000
namespace L2
open PySem PySem.Spec PyProof.Rows
/-! ### a comprehension whose target is a tuple of names -/
def hideT (xs : List Str) (y : Str) : Str := if y ∈ xs then Str.empty else y
abbrev blkT (X : Cx) (xs : List Str) (scope : Scope) (M : List Str) (C : Addr) (s₀ : Shared) (H₀ : Hp) (fp : List Addr) : Cx :=
  { X with N := xs ++ M, s₀ := s₀, H₀ := H₀, env := compEnvC scope (closOf X.env.cells scope.names []) C X.env, outer := X.stack, stack := X.stack, ex := fp, fn := fun _ => false, pn := [], xe := fun _ _ => False }
structure CompOkT (N M : List Str) (sc : Scope) (xs : List Str) (scope : Scope) : Prop where
  kind : scope.kind = .function
  cell : ∀ y ∈ scope.names, y.2 ≠ .cell
  names : ∀ y ∈ scope.names, y.2 = .local → scope.names.lookup y.1 = some .local
  free : ∀ y ∈ scope.names, y.2 = .free → sc.names.lookup y.1 = some .cell ∨ sc.names.lookup y.1 = some .free
  hid : N.map (hideT xs) = M
  others : ∀ y ∈ M, scope.names.lookup y ≠ some .local
  void : scope.names.lookup Str.empty = none
def tCompT (n : Nat) (wi : TI) (g : TG) (tt : TT) (te : TE) : TE := fun σ H Q => wi σ H fun J H1 => ∀ D, H1 D = none → ∃ W : Nat → Nat → List V → Hp → Prop, (∃ m, W 0 m [] (upd H1 D (.lst []))) ∧ ∀ i m ys H2, W i m ys H2 →
  (J.stop i H2 ∧ H2 D = some (.lst ys) ∧ Q (.ref D) H2) ∨ (J.go i H2 ∧ ys.length < sizeLine ∧ ∀ x H3, J.yld i H2 x H3 → ∀ o : St, o.length = n → g x (o ++ σ) H3 fun σ' H3' => (∃ o' : St, o'.length = n ∧ σ' = o' ++ σ) ∧ tt σ' H3' fun b H4 =>
    if b = true then te σ' H4 fun y H5 => H5 D = some (.lst ys) ∧ ∃ m', m' < m ∧ W (i + 1) m' (ys ++ [y]) (upd H5 D (.lst (ys ++ [y]))) else ∃ m', m' < m ∧ W (i + 1) m' ys H4)
section
variable {X : Cx} {pins : List (Addr × Obj)} {σ : St} {H2 : Hp} {s2 : Shared} {E : Value → Shared → Prop}
variable {elt iter tg : Expr} {ifs : List Expr} {xs : List Str} {pos : Pos} {g : TG} {N M : List Str} {sc scope : Scope} {tt : TT} {te : TE} {it : Addr} {fp : List Addr} {tn : Nat → Heap → Prop} {J : It}
end
section
variable {X : Cx} {elt iter c tg : Expr} {ifs : List Expr} {xs : List Str} {y : Str} {py pos spos : Pos} {scope sc : Scope} {N M : List Str} {wi : TI} {tt : TT} {te : TE} {g : TG}
end
end L2

set_option Elab.async false
set_option linter.all false
set_option maxRecDepth 100000
set_option maxHeartbeats 4000000
namespace L2
open PySem PySem.Spec PyProof.Rows
/-! ### a dict is walked: frozen while the loop runs, thawed behind it -/
section
variable {X : Cx} {pins : List (Addr × Obj)} {σ : St} {H : Hp} {s : Shared} {d : Addr} {kvs : List (Key × V)} {od : Obj}
/-- a dict that is not frozen at the entry: it may be frozen and thawed here -/
structure Cold (X : Cx) (d : Addr) : Prop where
  tup : ∀ xs, X.H₀ d ≠ some (.tup xs)
  frz : ∀ o u, X.H₀ d ≠ some (.frz o u)
  tbl : ∀ ps, X.H₀ d ≠ some (.tbl ps)
end
/-- the pairs of the dict at d -/
def Iti (d : Addr) (od : Obj) (kvs : List (Key × V)) : It :=
  ⟨fun i H => H d = some (.frz od (.dK kvs)) ∧ i < kvs.length, fun i H v H' => ∃ T k x, v = .ref T ∧ H T = none ∧ H' = upd H T (.tup [kV k, x]) ∧ kvs[i]? = some (k, x) ∧ valV kvs k = some x, fun i H => H d = some (.frz od (.dK kvs)) ∧ kvs.length ≤ i⟩
/-- its keys -/
def Itk (d : Addr) (od : Obj) (kvs : List (Key × V)) : It :=
  ⟨fun i H => H d = some (.frz od (.dK kvs)) ∧ i < kvs.length, fun i H v H' => H' = H ∧ ∃ k x, v = kV k ∧ kvs[i]? = some (k, x) ∧ valV kvs k = some x, fun i H => H d = some (.frz od (.dK kvs)) ∧ kvs.length ≤ i⟩
/-- its values -/
def Itv (d : Addr) (od : Obj) (kvs : List (Key × V)) : It :=
  ⟨fun i H => H d = some (.frz od (.dK kvs)) ∧ i < kvs.length, fun i H v H' => H' = H ∧ ∃ k, kvs[i]? = some (k, v), fun i H => H d = some (.frz od (.dK kvs)) ∧ kvs.length ≤ i⟩
/-- what the object od says -/
def Says (P : Program) (w : World) (d : Addr) (od : Obj) (kvs : List (Key × V)) (vs : List (Key × Value)) (ep : Nat) : Prop := KV kvs vs ∧ ∀ h : Heap, h.get? d = some od → h.DictAt (mixKind P w) d vs ep
/-! the judgement: an iterator over a frozen dict has come -/
abbrev TIF := St → Hp → (Addr → Obj → List (Key × V) → It → Hp → Prop) → Prop
def PIEF (X : Cx) (pins : List (Addr × Obj)) (σ : St) (tg : Expr) (R : Addr → Obj → List (Key × V) → It → Hp → Prop) (itv : Value) (s2 : Shared) : Prop :=
  ∃ (it : Addr) (fp : List Addr) (tn : Nat → Heap → Prop) (J : It) (H' : Hp) (d : Addr) (od : Obj) (kvs : List (Key × V)), itv = .ref it ∧ Inv X pins σ H' s2 ∧ Turn X.prog X.w X.K tg J fp it tn ∧ tn 0 s2.heap ∧ (∀ b ∈ fp, FpOk X pins H' b) ∧ Cold X d ∧ R d od kvs J H'
def PIF (X : Cx) (tg iter : Expr) (wi : TIF) : Prop :=
  ∀ (pins : List (Addr × Obj)) (s : Shared) (σ : St) (H : Hp) (R : Addr → Obj → List (Key × V) → It → Hp → Prop), Inv X pins σ H s → wi σ H R →
    wpAny (model X.prog X.w) X.A (eval iter X.env) (fun v s1 => wpAny (model X.prog X.w) X.A (pyIter v) (PIEF X pins σ tg R) X.xe s1) X.xe s
def iItems (td : TE) : TIF := fun σ H R => td σ H fun x H1 => ∃ d kvs, x = .ref d ∧ H1 d = some (.dK kvs) ∧ ∀ od, R d od kvs (Iti d od kvs) (upd H1 d (.frz od (.dK kvs)))
def iKeys (td : TE) : TIF := fun σ H R => td σ H fun x H1 => ∃ d kvs, x = .ref d ∧ H1 d = some (.dK kvs) ∧ ∀ od, R d od kvs (Itk d od kvs) (upd H1 d (.frz od (.dK kvs)))
def iVals (td : TE) : TIF := fun σ H R => td σ H fun x H1 => ∃ d kvs, x = .ref d ∧ H1 d = some (.dK kvs) ∧ ∀ od, R d od kvs (Itv d od kvs) (upd H1 d (.frz od (.dK kvs)))
section
variable {X : Cx} {o : Expr} {apos cpos : Pos} {td : TE}
end
/-! ### for -/
def thawE (d : Addr) (od : Obj) (kvs : List (Key × V)) (D : Ends) : Ends :=
  { D with nx := fun σ H => H d = some (.frz od (.dK kvs)) ∧ D.nx σ (upd H d (.dK kvs)), rt := fun v H => H d = some (.frz od (.dK kvs)) ∧ D.rt v (upd H d (.dK kvs)) }
def tForD (wi : TIF) (g : TG) (tb : TS) : TS := fun D σ H => wi σ H fun d od kvs J H1 => forW J g tb (thawE d od kvs D) σ H1
section
variable {X : Cx} {tg : Expr}
end
theorem tForD_eq (wi : TIF) (g : TG) (tb : TS) (D : Ends) (σ : St) (H : Hp) : tForD wi g tb D σ H = wi σ H fun d od kvs J H1 => forW J g tb (thawE d od kvs D) σ H1 := rfl
/-! ### a comprehension over a dict -/
def tCompD (n : Nat) (wi : TIF) (g : TG) (tt : TT) (te : TE) : TE := fun σ H Q => wi σ H fun d od kvs J H1 => ∀ D, H1 D = none → ∃ W : Nat → Nat → List V → Hp → Prop, (∃ m, W 0 m [] (upd H1 D (.lst []))) ∧ ∀ i m ys H2, W i m ys H2 →
  (J.stop i H2 ∧ H2 D = some (.lst ys) ∧ H2 d = some (.frz od (.dK kvs)) ∧ Q (.ref D) (upd H2 d (.dK kvs))) ∨ (J.go i H2 ∧ ys.length < sizeLine ∧ ∀ x H3, J.yld i H2 x H3 → ∀ o : St, o.length = n → g x (o ++ σ) H3 fun σ' H3' => (∃ o' : St, o'.length = n ∧ σ' = o' ++ σ) ∧ tt σ' H3' fun b H4 =>
    if b = true then te σ' H4 fun y H5 => H5 D = some (.lst ys) ∧ ∃ m', m' < m ∧ W (i + 1) m' (ys ++ [y]) (upd H5 D (.lst (ys ++ [y]))) else ∃ m', m' < m ∧ W (i + 1) m' ys H4)
section
variable {X : Cx} {elt iter c tg : Expr} {ifs : List Expr} {xs : List Str} {y : Str} {py pos spos : Pos} {scope sc : Scope} {N M : List Str} {wi : TIF} {tt : TT} {te : TE} {g : TG}
end
end L2

set_option Elab.async false
set_option linter.all false
set_option maxRecDepth 100000
set_option maxHeartbeats 4000000
namespace L2
open PySem PySem.Spec PyProof.Rows
/-! ### text * int -/
def repL (n : Nat) (l : List Nat) : List Nat := (List.replicate n l).flatten
theorem foldl_app_toList (xs : List (Array Nat)) : ∀ a : Array Nat, (xs.foldl (· ++ ·) a).toList = a.toList ++ (xs.map Array.toList).flatten := by
  induction xs with
  | nil => intro a; simp
  | cons x r ih => intro a; rw [List.foldl_cons, ih]; simp
theorem mul_S (l : List Nat) (n : Int) : Txt.mul (S l) n = S (repL n.toNat l) := by
  unfold Txt.mul repL
  by_cases h1 : n < 1
  · rw [if_pos h1]
    have : n.toNat = 0 := by omega
    rw [this]
    rfl
  · rw [if_neg h1]
    by_cases h2 : (n == 1 || (S l).length == 0) = true
    · rw [if_pos h2]
      rw [Bool.or_eq_true] at h2
      rcases h2 with h2 | h2
      · have : n = 1 := by simpa using h2
        subst this
        simp
      · have : l = [] := by
          have : (S l).length = 0 := by simpa using h2
          rw [S_len] at this
          exact List.length_eq_zero_iff.mp this
        subst this
        congr 1
        simp
    · rw [if_neg h2]
      show (⟨_⟩ : Str) = ⟨_⟩
      congr 1
      apply Array.toList_inj.mp
      rw [foldl_app_toList]
      simp
def rRepT : R2 := fun x y H Q => ∃ l n, x = .str (S l) ∧ y = .int n ∧ -(2 ^ 62) ≤ n ∧ n ≤ 65536 ∧ l.length ≤ 200 ∧ Q (.str (S (repL n.toNat l))) H
section
variable {X : Cx}
theorem op_repT : OpR X (binaryOp .Mult) rRepT := by
  intro pins s σ H x y v u Q I rx ry h
  obtain ⟨l, n, rfl, rfl, h0, h1, hl, q⟩ := h
  obtain ⟨t, rfl⟩ := rx
  obtain ⟨t', rfl⟩ := ry
  refine SB.mul ⟨?_, fun h2 _ => ?_, fun h2 _ => ?_⟩ fun t'' k => ⟨.str (S (repL n.toNat l)), H, I.tok k, ⟨t'', by rw [mul_S]⟩, q⟩
  · rw [decide_eq_false (by omega), decide_eq_false (by omega)]; rfl
  · rw [S_len]
    intro h3
    have h4 : (2 ^ 63 - 1 : Int) / n ≥ (2 ^ 63 - 1) / 65536 := by
      refine Int.le_ediv_of_mul_le (by omega) ?_
      have : (2 ^ 63 - 1 : Int) / 65536 * n ≤ (2 ^ 63 - 1 : Int) / 65536 * 65536 := Int.mul_le_mul_of_nonneg_left h1 (by decide)
      have : (2 ^ 63 - 1 : Int) / 65536 * 65536 ≤ 2 ^ 63 - 1 := by decide
      omega
    have h5 : (2 ^ 63 - 1 : Int) / 65536 > 200 := by decide
    omega
  · rw [S_len]
    have h3 : l.length * n.toNat ≤ 200 * 65536 := Nat.mul_le_mul hl (by omega)
    have e : Builtin.Str.tooLong (l.length * n.toNat) = decide (l.length * n.toNat > sizeLine) := rfl
    rw [e, decide_eq_false]
    rw [sizeLine_eq]
    omega
def rMulA : R2 := fun x y H Q => rI CMul (fun i j => .int (i * j)) x y H Q ∨ rRepT x y H Q
theorem op_mulA : OpR X (binaryOp .Mult) rMulA := op_mul.or op_repT
theorem rMul_ii {H : Hp} {Q : VK} (i j : Int) : rMulA (.int i) (.int j) H Q = (CMul i j ∧ Q (.int (i * j)) H) := by
  simp [rMulA, rI, rRepT]
theorem rMul_si {H : Hp} {Q : VK} (z : Str) (n : Int) : rMulA (.str z) (.int n) H Q = ∃ l, z = S l ∧ -(2 ^ 62) ≤ n ∧ n ≤ 65536 ∧ l.length ≤ 200 ∧ Q (.str (S (repL n.toNat l))) H := by
  simp [rMulA, rI, rRepT]
/-! ### isinstance(x, (A, B)) -/
def rIsiT (K : PySem.W.Frag) : List V → Hp → VK → Prop := fun xs H Q => ∃ (x : V) (t : Value) (p : Addr) (ns : List String) (b : Bool), xs = [x, .ref p] ∧ H p = some (.tup (ns.map V.ty)) ∧ TyOf K H x t ∧ PySem.W.kitAny K t (ns.map Value.type) = some b ∧ Q (.bl b) H
/-! ### d.clear() -/
def rDClear : V → List V → Hp → VK → Prop := fun x vs H Q => ∃ a kvs, x = .ref a ∧ vs = [] ∧ H a = some (.dK kvs) ∧ Q .non (upd H a (.dK []))
def tDClear (td : TE) : TE := fun σ H Q => td σ H fun x H1 => ∃ a kvs, x = .ref a ∧ H1 a = some (.dK kvs) ∧ Q .non (upd H1 a (.dK []))
end
/-! ### reversed(list) -/
def Itv' (K : PySem.W.Frag) (a : Addr) (n : Nat) : It :=
  ⟨fun i H => i < n ∧ ∃ xs, SqL K H a xs ∧ xs.length = n, fun i H x H' => H' = H ∧ ∀ xs, SqL K H a xs → xs[n - 1 - i]? = some x, fun i H => n ≤ i⟩
section
variable {X : Cx}
def iRev (K : PySem.W.Frag) (ta : TA) : TI := fun σ H R => ta σ H fun vs H1 => ∃ a xs, vs = [.ref a] ∧ SqL K H1 a xs ∧ R (Itv' K a xs.length) H1
end
end L2

set_option Elab.async false
set_option linter.all false
set_option maxRecDepth 100000
set_option maxHeartbeats 4000000
namespace L2
open PySem PySem.Spec PyProof.Rows
/-! ### a lending, as it stands -/
abbrev Loan := Int × List Nat × Int
def loanV (x : Loan) : List V := [.int x.1, .str (S x.2.1), .int x.2.2]
structure LendM where
  row : Int
  start : Int
  turns : Int
  tries : Int
  width : Int
  lent : Int
  F : Int → Option Str
  T : Int → Int
  L : Int → Option Loan
  sz : Nat
def lend0 (r s t n w : Int) : LendM := ⟨r, s, t, n, w, 0, fun _ => none, fun _ => 0, fun _ => none, 0⟩
def lendF (M : LendM) (f t l : Addr) : List (Str × V) := [("row", .int M.row), ("start", .int M.start), ("turns", .int M.turns), ("tries", .int M.tries), ("width", .int M.width), ("lent", .int M.lent), ("fates", .ref f), ("tried", .ref t), ("loans", .ref l)]
/-- what a dict's answer says of a loan -/
def LoanO (H : Hp) : Option Loan → Option V → Prop
  | none, v => v = none
  | some x, v => ∃ t, v = some (.ref t) ∧ H t = some (.tup (loanV x))
/-- what a value says of a loan -/
def LoanVal (H : Hp) : Option Loan → V → Prop
  | none, v => v = .non
  | some x, v => ∃ t, v = .ref t ∧ H t = some (.tup (loanV x))
theorem LoanO.val {H : Hp} {o : Option Loan} {v : Option V} (h : LoanO H o v) : LoanVal H o (v.getD .non) := by
  cases o with
  | none => rw [show v = none from h]; rfl
  | some x => obtain ⟨t, e, ht⟩ := h; exact ⟨t, by rw [e]; rfl, ht⟩
theorem LoanO.chg {A : List Addr} {H H' : Hp} {o : Option Loan} {v : Option V} (c : Chg A H H') (h : LoanO H o v) : LoanO H' o v := by
  cases o with
  | none => exact h
  | some x => obtain ⟨t, e, ht⟩ := h; exact ⟨t, e, c.tup _ _ ht⟩
def fateV : Option Str → V
  | none => .non
  | some z => .str z
structure LendAt (C : Addr) (H : Hp) (r f t l : Addr) (M : LendM) : Prop where
  obj : ∃ dx, H r = some (.ins C dx (lendF M f t l))
  fat : ∃ kvs, H f = some (.dK kvs) ∧ kvs.length ≤ M.sz ∧ (∀ p : Int, valV kvs (.inl p) = (M.F p).map V.str) ∧ ∀ z, valV kvs (.inr z) = none
  tri : ∃ kvs, H t = some (.dK kvs) ∧ kvs.length ≤ M.sz ∧ ∀ p : Int, (valV kvs (.inl p)).getD (.int 0) = .int (M.T p)
  loa : ∃ kvs, H l = some (.dK kvs) ∧ kvs.length ≤ M.sz ∧ (∀ p : Int, LoanO H (M.L p) (valV kvs (.inl p))) ∧ ∀ z, valV kvs (.inr z) = none
  rf : r ≠ f
  rt : r ≠ t
  rl : r ≠ l
  ft : f ≠ t
  fl : f ≠ l
  tl : t ≠ l
theorem LendAt.chg {A : List Addr} {C : Addr} {H H' : Hp} {r f t l : Addr} {M : LendM} (h : LendAt C H r f t l M) (c : Chg A H H') (hr : r ∉ A) (hf : f ∉ A) (ht : t ∉ A) (hl : l ∉ A) : LendAt C H' r f t l M := by
  obtain ⟨dx, e⟩ := h.obj
  obtain ⟨k1, e1, l1, v1, w1⟩ := h.fat
  obtain ⟨k2, e2, l2, v2⟩ := h.tri
  obtain ⟨k3, e3, l3, v3, w3⟩ := h.loa
  exact ⟨⟨dx, c.keep _ _ e hr⟩, ⟨k1, c.keep _ _ e1 hf, l1, v1, w1⟩, ⟨k2, c.keep _ _ e2 ht, l2, v2⟩, ⟨k3, c.keep _ _ e3 hl, l3, fun p => (v3 p).chg c, w3⟩, h.rf, h.rt, h.rl, h.ft, h.fl, h.tl⟩
def LendM.lend (M : LendM) (p : Int) (tk : List Nat) (turn : Int) : LendM :=
  { M with lent := M.lent + 1, L := fun q => if q = p then some (M.lent + 1, tk, turn + M.turns) else M.L q, T := fun q => if q = p then M.T p + 1 else M.T q, sz := M.sz + 1 }
def LendM.back (M : LendM) (p : Int) : LendM := { M with L := fun q => if q = p then none else M.L q }
def LendM.fate (M : LendM) (p : Int) (z : Str) : LendM := { M with L := fun q => if q = p then none else M.L q, F := fun q => if q = p then some z else M.F q, sz := M.sz + 1 }
def LendM.isLent (M : LendM) (p turn : Int) : Bool := match M.L p with
  | some x => decide (turn < x.2.2)
  | none => false
def sp_l_init (C : Addr) : Sp := fun vs H Q _ => ∃ (x dx : Addr) (r s t n w : Int), vs = [.ref x, .int r, .int s, .int t, .int n, .int w] ∧ H x = some (.ins C dx []) ∧
  ∀ f u l H', H f = none → H u = none → H l = none → Chg [x] H H' → LendAt C H' x f u l (lend0 r s t n w) → Q .non H'
def sp_l_lend (C : Addr) : Sp := fun vs H Q _ => ∃ (r f t l : Addr) (M : LendM) (p : Int) (tk : List Nat) (turn : Int), vs = [.ref r, .int p, .str (S tk), .int turn] ∧ LendAt C H r f t l M ∧ M.sz ≤ 100000 ∧
  ∀ H', Chg [r, t, l] H H' → LendAt C H' r f t l (M.lend p tk turn) → Q (.int (M.lent + 1)) H'
def sp_l_next (C : Addr) : Sp := fun vs H Q _ => ∃ (r f t l : Addr) (M : LendM), vs = [.ref r] ∧ LendAt C H r f t l M ∧ Q (.int (M.lent + 1)) H
def sp_l_loan_at (C : Addr) : Sp := fun vs H Q _ => ∃ (r f t l : Addr) (M : LendM) (p : Int), vs = [.ref r, .int p] ∧ LendAt C H r f t l M ∧ ∀ v, LoanVal H (M.L p) v → Q v H
def sp_l_tried_at (C : Addr) : Sp := fun vs H Q _ => ∃ (r f t l : Addr) (M : LendM) (p : Int), vs = [.ref r, .int p] ∧ LendAt C H r f t l M ∧ Q (.int (M.T p)) H
def sp_l_fate_at (C : Addr) : Sp := fun vs H Q _ => ∃ (r f t l : Addr) (M : LendM) (p : Int), vs = [.ref r, .int p] ∧ LendAt C H r f t l M ∧ Q (fateV (M.F p)) H
def sp_l_back (C : Addr) : Sp := fun vs H Q _ => ∃ (r f t l : Addr) (M : LendM) (p : Int), vs = [.ref r, .int p] ∧ LendAt C H r f t l M ∧ ∀ H', Chg [l] H H' → LendAt C H' r f t l (M.back p) → Q .non H'
def sp_l_fate (C : Addr) (z : Str) : Sp := fun vs H Q _ => ∃ (r f t l : Addr) (M : LendM) (p : Int), vs = [.ref r, .int p] ∧ LendAt C H r f t l M ∧ M.sz ≤ 100000 ∧ ∀ H', Chg [f, l] H H' → LendAt C H' r f t l (M.fate p z) → Q .non H'
def sp_l_place_of (C : Addr) : Sp := fun vs H Q _ => ∃ (r f t l : Addr) (M : LendM) (p turn : Int) (x : Loan), vs = [.ref r, .int x.1, .int turn] ∧ LendAt C H r f t l M ∧ M.L p = some x ∧ 1 ≤ x.1 ∧ turn < x.2.2 ∧
  (∀ q y, M.L q = some y → y.1 = x.1 → q = p) ∧ ∀ H', Same H H' → Q (.int p) H'
def sp_l_is_lent (C : Addr) : Sp := fun vs H Q _ => ∃ (r f t l : Addr) (M : LendM) (p turn : Int), vs = [.ref r, .int p, .int turn] ∧ LendAt C H r f t l M ∧ Q (.bl (M.isLent p turn)) H
end L2

set_option Elab.async false
set_option linter.all false
set_option maxRecDepth 100000
set_option maxHeartbeats 4000000
namespace L2
open PySem PySem.Spec PyProof.Rows
/-! ### tables of letters -/
/-- place, key, word -/
abbrev L3 := Int × List Nat × Option (List Nat)
def l3V (x : L3) : List V := [.int x.1, .str (S x.2.1), wV x.2.2]
def lastW : List L3 → List Nat → Option (Option (List Nat))
  | [], _ => none
  | x :: r, k => match lastW r k with
    | some y => some y
    | none => if x.2.1 = k then some x.2.2 else none
theorem lastW_app (a b : List L3) (k : List Nat) : lastW (a ++ b) k = match lastW b k with
    | some y => some y
    | none => lastW a k := by
  induction a with
  | nil => rw [List.nil_append]; cases lastW b k <;> rfl
  | cons x r ih =>
    rw [List.cons_append, lastW, ih]
    cases hb : lastW b k with
    | some y => rfl
    | none => rw [lastW]
theorem lastW_snoc (a : List L3) (x : L3) (k : List Nat) : lastW (a ++ [x]) k = if x.2.1 = k then some x.2.2 else lastW a k := by
  rw [lastW_app]
  by_cases h : x.2.1 = k
  · rw [if_pos h]; simp [lastW, h]
  · rw [if_neg h]; simp [lastW, h]
/-- the word that a table of the letters has for a key -/
def wordAt (l : List L3) (k : List Nat) : Option (List Nat) := (lastW l k).join
def NdK (kvs : List (Key × V)) : Prop := (kvs.map (·.1)).Nodup
theorem nd_sub_len {α : Type} [DecidableEq α] : ∀ {l m : List α}, l.Nodup → (∀ x ∈ l, x ∈ m) → l.length ≤ m.length
  | [], m, _, _ => Nat.zero_le _
  | a :: r, m, h, s => by
    rw [List.nodup_cons] at h
    have ha : a ∈ m := s a List.mem_cons_self
    have ih := nd_sub_len (l := r) (m := m.erase a) h.2 fun x hx => (List.mem_erase_of_ne (fun (z : x = a) => h.1 (by rw [← z]; exact hx))).mpr (s x (List.mem_cons_of_mem _ hx))
    rw [List.length_erase_of_mem ha] at ih
    have : 0 < m.length := List.length_pos_of_mem ha
    rw [List.length_cons]
    omega
theorem NdK.nil : NdK [] := List.nodup_nil
theorem NdK.put {kvs : List (Key × V)} (h : NdK kvs) (k : Key) (v : V) : NdK (putK kvs k v) := by
  unfold putK
  by_cases a : (kvs.any fun kv => decide (kv.1 = k)) = true
  · rw [if_pos a]
    unfold NdK
    rw [List.map_map]
    have e : ((fun x : Key × V => x.1) ∘ fun kv : Key × V => if kv.1 = k then (kv.1, v) else kv) = fun x => x.1 := by
      funext x
      show (if x.1 = k then (x.1, v) else x).1 = x.1
      split <;> rfl
    rw [e]
    exact h
  · rw [if_neg a]
    unfold NdK
    rw [List.map_append, List.nodup_append]
    refine ⟨h, by simp, fun x hx y hy => ?_⟩
    have hy' : y = k := by simpa using hy
    subst hy'
    rintro rfl
    obtain ⟨p, hp, e⟩ := List.mem_map.mp hx
    exact a (List.any_eq_true.mpr ⟨p, hp, decide_eq_true e⟩)
theorem NdK.drop {kvs : List (Key × V)} (h : NdK kvs) (k : Key) : NdK (dropK kvs k) := by
  unfold NdK dropK
  exact List.Nodup.sublist (List.Sublist.map _ List.filter_sublist) h
/-- two tables with the same keys have one length -/
theorem NdK.len {a b : List (Key × V)} (ha : NdK a) (hb : NdK b) (h : ∀ k, (valV a k).isSome = (valV b k).isSome) : a.length = b.length := by
  have sub : ∀ {x y : List (Key × V)}, (∀ k, (valV x k).isSome = (valV y k).isSome) → ∀ k, k ∈ x.map (·.1) → k ∈ y.map (·.1) := by
    intro x y h k hk
    have h1 : (valV x k).isSome = true := by
      cases e : valV x k with
      | none => exact absurd hk (valV_not e)
      | some v => rfl
    rw [h k] at h1
    obtain ⟨v, hv⟩ := Option.isSome_iff_exists.mp h1
    exact valV_in hv
  have l1 : (a.map (·.1)).length ≤ (b.map (·.1)).length := nd_sub_len ha fun k hk => sub h k hk
  have l2 : (b.map (·.1)).length ≤ (a.map (·.1)).length := nd_sub_len hb fun k hk => sub (fun k => (h k).symm) k hk
  simp only [List.length_map] at l1 l2
  omega
/-- a dict that is the table of these letters -/
structure TabOf (H : Hp) (d : Addr) (f : List Nat → Option (List Nat)) (n : Nat) : Prop where
  dict : ∃ kvs, H d = some (.dK kvs) ∧ kvs.length ≤ n ∧ NdK kvs ∧ (∀ k : List Nat, valV kvs (.inr (S k)) = (f k).map fun z => V.str (S z)) ∧ ∀ i : Int, valV kvs (.inl i) = none
end L2

set_option Elab.async false
set_option linter.all false
set_option maxRecDepth 100000
set_option maxHeartbeats 4000000
namespace L2
open PySem PySem.Spec PyProof.Rows
/-! ### slices by places -/
end L2

set_option Elab.async false
set_option linter.all false
set_option maxRecDepth 100000
set_option maxHeartbeats 4000000
namespace L2
open PySem PySem.Spec PyProof.Rows
/-! ### comprehensions over lists of tuples -/
def tupV (H : Hp) : V → List V
  | .ref t => match H t with
    | some (.tup xs) => xs
    | _ => []
  | _ => []
theorem TupsAt.mem {H : Hp} {ts : List Addr} {rows : List (List V)} (h : TupsAt H ts rows) {x : V} (hx : x ∈ ts.map V.ref) : ∃ t xs, x = .ref t ∧ xs ∈ rows ∧ H t = some (.tup xs) := by
  obtain ⟨t, ht, rfl⟩ := List.mem_map.mp hx
  obtain ⟨i, hi⟩ := List.getElem?_of_mem ht
  obtain ⟨xs, h1, h2⟩ := h.get hi
  exact ⟨t, xs, rfl, List.mem_of_getElem? h1, h2⟩
/-! ### things, texts, names -/
inductive Thg (H : Hp) : V → Prop
  | non : Thg H .non
  | bl (b : Bool) : Thg H (.bl b)
  | int (i : Int) : Thg H (.int i)
  | str (l : List Nat) (h : l.length ≤ 1000) : Thg H (.str (S l))
  | lst {p : Addr} {xs : List V} (h : H p = some (.lst xs)) : Thg H (.ref p)
  | tup {p : Addr} {xs : List V} (h : H p = some (.tup xs)) : Thg H (.ref p)
def textV (x : V) (lo hi : Int) : Bool := match x with
  | .str z => decide (lo ≤ z.length) && decide ((z.length : Int) ≤ hi)
  | _ => false
def formV (x : V) (lo hi : Int) (p : Nat → Bool) : Bool := match x with
  | .str z => decide (lo ≤ z.length) && (decide ((z.length : Int) ≤ hi) && z.cps.toList.all p)
  | _ => false
def wholeV (x : V) (lo hi : Int) : Bool := match x with
  | .int i => decide (lo ≤ i) && decide (i ≤ hi)
  | _ => false
def T36 : List Nat := [97, 98, 99, 100, 101, 102, 103, 104, 105, 106, 107, 108, 109, 110, 111, 112, 113, 114, 115, 116, 117, 118, 119, 120, 121, 122, 48, 49, 50, 51, 52, 53, 54, 55, 56, 57]
def inN (c : Nat) : Bool := decide (c ∈ T36)
def sp_is_text : Sp := fun vs H Q _ => ∃ (x : V) (lo hi : Int), vs = [x, .int lo, .int hi] ∧ Thg H x ∧ Q (.bl (textV x lo hi)) H
def sp_is_name : Sp := fun vs H Q _ => ∃ x : V, vs = [x] ∧ Thg H x ∧ ∀ H', Same H H' → Q (.bl (formV x 1 12 inN)) H'
def sp_is_whole : Sp := fun vs H Q _ => ∃ (x : V) (lo hi : Int), vs = [x, .int lo, .int hi] ∧ Thg H x ∧ Q (.bl (wholeV x lo hi)) H
/-! ### the spread of a key -/
def foldK (l : List Nat) : Int := l.foldl (fun (h : Int) (c : Nat) => Builtin.bitAnd (h * 37 + (c : Int)) 65535) 1
def sprN (l : List Nat) : Int := Builtin.bitXor (foldK l) (foldK l / 2 ^ (8 : Int).toNat)
/-! ### shelves -/
structure Shf where
  name : List Nat
  rows : Nat
  kind : Str
def Shf.v (x : Shf) : List V := [.str (S x.name), .int x.rows, .str x.kind]
def okShf (x : Shf) : Prop := (1 ≤ x.name.length ∧ x.name.length ≤ 12 ∧ x.name.all inN = true) ∧ (1 ≤ x.rows ∧ x.rows ≤ 9) ∧ (x.kind = Str.ofString "table" ∨ x.kind = Str.ofString "stream")
structure OkShfs (xs : List Shf) : Prop where
  lo : 1 ≤ xs.length
  hi : xs.length ≤ 6
  each : ∀ x ∈ xs, okShf x
  nd : (xs.map Shf.name).Nodup
structure ShAt (C : Addr) (H : Hp) (s l : Addr) (xs : List Shf) : Prop where
  obj : ∃ dx, H s = some (.ins C dx [("shelves", .ref l)])
  lst : LTups H l (xs.map Shf.v)
theorem ShAt.chg {A : List Addr} {C : Addr} {H H' : Hp} {s l : Addr} {xs : List Shf} (h : ShAt C H s l xs) (c : Chg A H H') (hs : s ∉ A) (hl : l ∉ A) : ShAt C H' s l xs := by
  obtain ⟨dx, e⟩ := h.obj
  exact ⟨⟨dx, c.keep _ _ e hs⟩, h.lst.chg c hl⟩
def startOf (xs : List Shf) (k : Nat) : Nat := ((xs.take k).map Shf.rows).sum
def sp_is_kind : Sp := fun vs H Q _ => ∃ z : Str, vs = [.str z] ∧ (z = Str.ofString "table" ∨ z = Str.ofString "stream") ∧ Q (.bl true) H
def sp_is_shelf : Sp := fun vs H Q _ => ∃ (t : Addr) (x : Shf), vs = [.ref t] ∧ H t = some (.tup x.v) ∧ okShf x ∧ ∀ H', Same H H' → Q (.bl true) H'
def sp_are_shelves : Sp := fun vs H Q _ => ∃ (p : Addr) (xs : List Shf), vs = [.ref p] ∧ LTups H p (xs.map Shf.v) ∧ OkShfs xs ∧ ∀ H', Same H H' → Q (.bl true) H'
def sp_sh_init (C : Addr) : Sp := fun vs H Q _ => ∃ (x dx p : Addr) (xs : List Shf), vs = [.ref x, .ref p] ∧ H x = some (.ins C dx []) ∧ LTups H p (xs.map Shf.v) ∧ OkShfs xs ∧ ∀ l H', H l = none → Chg [x] H H' → ShAt C H' x l xs → Q .non H'
def sp_sh_many (C : Addr) : Sp := fun vs H Q _ => ∃ (s l : Addr) (xs : List Shf), vs = [.ref s] ∧ ShAt C H s l xs ∧ xs.length ≤ 1000 ∧ ∀ H', Same H H' → Q (.int (startOf xs xs.length)) H'
def sp_sh_rows_of (C : Addr) : Sp := fun vs H Q _ => ∃ (s l : Addr) (xs : List Shf) (k : Nat) (x : Shf), vs = [.ref s, .str (S x.name)] ∧ ShAt C H s l xs ∧ OkShfs xs ∧ xs[k]? = some x ∧ ∀ D H', H D = none → Same H H' → H' D = some (.lst (rngV (startOf xs k) x.rows)) → Q (.ref D) H'
def rowNo (xs : List Shf) (k : Nat) (x : Shf) (key : List Nat) : Nat := startOf xs k + (sprN key % (x.rows : Int)).toNat
def sp_sh_row_for (C : Addr) : Sp := fun vs H Q _ => ∃ (s l : Addr) (xs : List Shf) (k : Nat) (x : Shf) (key : List Nat), vs = [.ref s, .str (S x.name), .str (S key)] ∧ ShAt C H s l xs ∧ OkShfs xs ∧ xs[k]? = some x ∧ ∀ H', Same H H' → Q (.int (rowNo xs k x key)) H'
def sp_spread : Sp := fun vs H Q _ => ∃ l : List Nat, vs = [.str (S l)] ∧ Q (.int (sprN l)) H
def sp_row_in : Sp := fun vs H Q _ => ∃ (l : List Nat) (m : Int), vs = [.str (S l), .int m] ∧ 0 < m ∧ Q (.int (sprN l % m)) H

/-! ### rows told by a list of letters put there in turn -/
abbrev KW := List Nat × List Nat
def rowOf (c : List KW) : RowM := ⟨0, c.length, 0, fun p => if 0 ≤ p then (c[p.toNat]?).map fun x => (x.1, some x.2, 0) else none⟩
def seenV (c : List KW) (k : Nat) : List (List V) := (c.zipIdx k).map fun y => [.int (y.2 : Nat), .str (S y.1.1), .str (S y.1.2)]
def it (i : Nat) (xs : List V) : V := xs.getD i .non
def kwV (x : KW) : List V := [.str (S x.1), .str (S x.2)]
structure RowsAt (C : Addr) (H : Hp) (R : Addr) (rs : List (Addr × Addr)) (f : Nat → List KW) : Prop where
  lst : H R = some (.lst (rs.map fun y => V.ref y.1))
  row : ∀ (i : Nat) r d, rs[i]? = some (r, d) → RowAt C H r d (rowOf (f i))
theorem RowsAt.same {C : Addr} {H H' : Hp} {R : Addr} {rs : List (Addr × Addr)} {f : Nat → List KW} (h : RowsAt C H R rs f) (s : Same H H') : RowsAt C H' R rs f :=
  ⟨s _ _ h.lst, fun i r d e => (h.row i r d e).chg (A := []) (Chg.of_same s) (by simp) (by simp)⟩
def ofKey (P : List KW) (key : List Nat) : List V := (P.filter fun x => decide (x.1 = key)).map fun x => .str (S x.2)
def sp_of_key : Sp := fun vs H Q _ => ∃ (p : Addr) (P : List KW) (key : List Nat), vs = [.ref p, .str (S key)] ∧ LTups H p (P.map kwV) ∧ P.length ≤ 1000 ∧ ∀ D H', H D = none → Same H H' → H' D = some (.lst (ofKey P key)) → Q (.ref D) H'
/-- the letters of a shelf stand in its own rows by their keys -/
structure Parted (P : List KW) (f : Nat → List KW) (lo n : Nat) : Prop where
  pos : 0 < n
  each : ∀ i, lo ≤ i → i < lo + n → f i = P.filter fun x => decide (lo + (sprN x.1 % (n : Int)).toNat = i)
  few : P.length ≤ 63
  ok : ∀ x ∈ P, okS x.1 ∧ okS x.2
def sp_shelf_holds (C : Addr) : Sp := fun vs H Q _ => ∃ (R N p kl : Addr) (rs : List (Addr × Addr)) (f : Nat → List KW) (P : List KW) (lo n : Nat) (keys : List (List Nat)), vs = [.ref R, .ref N, .ref p, .ref kl] ∧ RowsAt C H R rs f ∧ H N = some (.lst (rngV lo n)) ∧
  LTups H p (P.map kwV) ∧ H kl = some (.lst (keys.map fun l => .str (S l))) ∧ keys.length ≤ 100 ∧ lo + n ≤ rs.length ∧ n ≤ 9 ∧ Parted P f lo n ∧ ∀ H', Same H H' → Q (.bl true) H'
def ltr36 (n : Int) : Nat := T36.getD (n % 36).toNat 0
def sp_wholeI : Sp := fun vs H Q _ => ∃ x y : Int, vs = [.int x, .int y] ∧ Q (.bl (decide (x = y))) H
def sp_letter : Sp := fun vs H Q _ => ∃ n : Int, vs = [.int n] ∧ Q (.str (S [ltr36 n])) H
def sp_names : Sp := fun vs H Q _ => ∃ (c m : Int), vs = [.int c, .int m] ∧ 1 ≤ m ∧ m ≤ 36 ∧ ∀ D H' (ns : List (List Nat)), H D = none → Same H H' → H' D = some (.lst (ns.map fun l => .str (S l))) → ns.length = m.toNat →
  (∀ l ∈ ns, 1 ≤ l.length ∧ l.length ≤ 12 ∧ l.all inN = true) → ns.Nodup → Q (.ref D) H'
def sp_keys : Sp := fun vs H Q _ => ∃ c : Int, vs = [.int c] ∧ ∀ D H' (ks : List (List Nat)), H D = none → Same H H' → H' D = some (.lst (ks.map fun l => .str (S l))) → ks.length = 12 → (∀ l ∈ ks, okS l ∧ l.length ≤ 24) → Q (.ref D) H'
/-! ### comprehensions whose items are made anew -/
def addrs (rs : List (Addr × Addr)) : List Addr := rs.flatMap fun y => [y.1, y.2]
/-- a letter more: it comes into the row of its key, and the other shelves' rows stay -/
theorem Parted.put {P : List KW} {f : Nat → List KW} {lo n : Nat} (h : Parted P f lo n) (x : KW) (hf : P.length < 63) (ok : okS x.1 ∧ okS x.2) :
    Parted (P ++ [x]) (fun i => if i = lo + (sprN x.1 % (n : Int)).toNat then f i ++ [x] else f i) lo n := by
  refine ⟨h.pos, fun i h1 h2 => ?_, by simp; omega, fun y hy => ?_⟩
  · show (if i = lo + (sprN x.1 % (n : Int)).toNat then f i ++ [x] else f i) = _
    rw [List.filter_append, ← h.each i h1 h2]
    by_cases e : i = lo + (sprN x.1 % (n : Int)).toNat
    · rw [if_pos e]
      simp [e]
    · rw [if_neg e]
      have e' : ¬ lo + (sprN x.1 % (n : Int)).toNat = i := fun z => e z.symm
      simp [e']
  · rcases List.mem_append.mp hy with z | z
    · exact h.ok y z
    · rw [List.mem_singleton.mp z]; exact ok
theorem Parted.other {P : List KW} {f g : Nat → List KW} {lo n : Nat} (h : Parted P f lo n) (e : ∀ i, lo ≤ i → i < lo + n → g i = f i) : Parted P g lo n :=
  ⟨h.pos, fun i h1 h2 => (e i h1 h2).trans (h.each i h1 h2), h.few, h.ok⟩
def shf (c : Int) (i : Nat) (n : List Nat) : Shf := ⟨n, (1 + mixN c (6 + (i : Int)) % 9).toNat, if i % 2 = 0 then Str.ofString "table" else Str.ofString "stream"⟩
def mkS (c : Int) (ns : List (List Nat)) : List Shf := ns.mapIdx fun i n => shf c i n
end L2

set_option Elab.async false
set_option linter.all false
set_option maxRecDepth 100000
set_option maxHeartbeats 4000000
namespace L2
open PySem PySem.Spec PyProof.Rows
/-! ### what the laws of the lending share -/
/-- the mixed cell at a place -/
def cellN (ns : List Int) (k : Int) : Int := mixN (if k < (ns.length : Int) then ns.getD k.toNat 0 else 104729 * k + 7) k
def sp_cellN (K : PySem.W.Frag) : Sp := fun vs H Q _ => ∃ (p : Addr) (ns : List Int) (k : Int), vs = [.ref p, .int k] ∧ SqL K H p (ns.map V.int) ∧ 0 ≤ k ∧ Q (.int (cellN ns k)) H
def manyN (ns : List Int) (f m : Int) : Int := min m (max (cellN ns (f - 1) / 7 % (m + 1)) ((ns.length : Int) - f))
def sp_many (K : PySem.W.Frag) : Sp := fun vs H Q _ => ∃ (p : Addr) (ns : List Int) (f m : Int), vs = [.ref p, .int f, .int m] ∧ SqL K H p (ns.map V.int) ∧ 1 ≤ f ∧ 0 ≤ m ∧ Q (.int (manyN ns f m)) H
def sp_namesL : Sp := fun vs H Q _ => ∃ (c o m : Int), vs = [.int c, .int o, .int m] ∧ 0 ≤ c ∧ 0 ≤ o ∧ 0 ≤ m ∧ m ≤ 36 ∧ ∀ D H' (ns : List (List Nat)), H D = none → Same H H' → (ns.length : Int) = m → H' D = some (.lst (ns.map fun l => V.str (S l))) → Q (.ref D) H'
def sp_loan_eq : Sp := fun vs H Q _ => ∃ (v u : V) (o : Option Loan), vs = [v, u] ∧ LoanVal H o v ∧ LoanVal H o u ∧ Q (.bl true) H
end L2

set_option Elab.async false
set_option linter.all false
set_option maxRecDepth 100000
set_option maxHeartbeats 4000000
namespace L2
open PySem PySem.Spec PyProof.Rows
/-! ### tables, by their pairs -/
structure TabK (kvs : List (Key × V)) (f : List Nat → Option (List Nat)) (n : Nat) : Prop where
  len : kvs.length ≤ n
  nd : NdK kvs
  val : ∀ k : List Nat, valV kvs (.inr (S k)) = (f k).map fun z => V.str (S z)
  int : ∀ i : Int, valV kvs (.inl i) = none
theorem TabK.nil : TabK [] (fun _ => none) 0 := ⟨Nat.le_refl _, NdK.nil, fun _ => rfl, fun _ => rfl⟩
theorem inr_S {q k : List Nat} : (Sum.inr (S q) : Key) = Sum.inr (S k) ↔ q = k := ⟨fun h => S_inj (Sum.inr.inj h), fun h => by rw [h]⟩
theorem TabK.put {kvs : List (Key × V)} {f : List Nat → Option (List Nat)} {n : Nat} (h : TabK kvs f n) (k w : List Nat) : TabK (putK kvs (.inr (S k)) (.str (S w))) (fun q => if q = k then some w else f q) (n + 1) := by
  refine ⟨?_, h.nd.put _ _, fun q => ?_, fun i => ?_⟩
  · have := length_putK kvs (.inr (S k) : Key) (.str (S w)); have := h.len; omega
  · rw [valV_put]
    by_cases e : q = k
    · rw [if_pos (inr_S.mpr e), if_pos e]; rfl
    · rw [if_neg (fun z => e (inr_S.mp z)), if_neg e]; exact h.val q
  · rw [valV_put, if_neg (by intro z; cases z)]; exact h.int i
theorem TabK.drop {kvs : List (Key × V)} {f : List Nat → Option (List Nat)} {n : Nat} (h : TabK kvs f n) (k : List Nat) : TabK (dropK kvs (.inr (S k))) (fun q => if q = k then none else f q) n := by
  refine ⟨Nat.le_trans (dropK_le _ _) h.len, h.nd.drop _, fun q => ?_, fun i => ?_⟩
  · rw [valV_drop]
    by_cases e : q = k
    · rw [if_pos (inr_S.mpr e), if_pos e]; rfl
    · rw [if_neg (fun z => e (inr_S.mp z)), if_neg e]; exact h.val q
  · rw [valV_drop, if_neg (by intro z; cases z)]; exact h.int i
theorem TabK.mono {kvs : List (Key × V)} {f g : List Nat → Option (List Nat)} {n m : Nat} (h : TabK kvs f n) (e : ∀ q, f q = g q) (hn : n ≤ m) : TabK kvs g m := ⟨Nat.le_trans h.len hn, h.nd, fun k => by rw [← e k]; exact h.val k, h.int⟩
/-- a dict that is such a table -/
def Tab (H : Hp) (d : Addr) (f : List Nat → Option (List Nat)) (n : Nat) : Prop := ∃ kvs, H d = some (.dK kvs) ∧ TabK kvs f n
theorem Tab.same {H H' : Hp} {d : Addr} {f : List Nat → Option (List Nat)} {n : Nat} (h : Tab H d f n) (s : Same H H') : Tab H' d f n := let ⟨kvs, e, t⟩ := h; ⟨kvs, s _ _ e, t⟩
theorem Tab.chg {A : List Addr} {H H' : Hp} {d : Addr} {f : List Nat → Option (List Nat)} {n : Nat} (h : Tab H d f n) (c : Chg A H H') (hd : d ∉ A) : Tab H' d f n := let ⟨kvs, e, t⟩ := h; ⟨kvs, c.keep _ _ e hd, t⟩
theorem Tab.ne {H : Hp} {d e : Addr} {f : List Nat → Option (List Nat)} {n : Nat} (h : Tab H d f n) (he : H e = none) : d ≠ e := fun z => by
  obtain ⟨kvs, hk, _⟩ := h
  rw [z, he] at hk
  cases hk
theorem TupsAt.drop {H : Hp} {ts : List Addr} {rows : List (List V)} (h : TupsAt H ts rows) (n : Nat) : TupsAt H (ts.drop n) (rows.drop n) := by
  unfold TupsAt at h ⊢
  induction h generalizing n with
  | nil => simp; exact .nil
  | cons r t ih =>
    cases n with
    | zero => exact .cons r t
    | succ n => exact ih n
def sp_table (K : PySem.W.Frag) : Sp := fun vs H Q _ => ∃ (p : Addr) (ls : List L3), vs = [.ref p] ∧ LTups H p (ls.map l3V) ∧ ls.length ≤ 100 ∧ ∀ D H', H D = none → Same H H' → Tab H' D (wordAt ls) ls.length → Q (.ref D) H'
def sp_is_table : Sp := fun vs H Q _ => ∃ (d e : Addr) (f : List Nat → Option (List Nat)) (n m : Nat), vs = [.ref d, .ref e] ∧ Tab H d f n ∧ Tab H e f m ∧ d ≠ e ∧ ∀ H', Same H H' → Q (.bl true) H'
def sp_sign94 : Sp := fun vs H Q _ => ∃ n : Int, vs = [.int n] ∧ Q (.str (S [sgn n 94])) H
def sp_keysT : Sp := fun vs H Q _ => ∃ (c m : Int), vs = [.int c, .int m] ∧ 0 ≤ m ∧ m ≤ 36 ∧ ∀ D H' (ks : List (List Nat)), H D = none → Same H H' → (ks.length : Int) = m → (∀ k ∈ ks, okS k) → H' D = some (.lst (ks.map fun l => V.str (S l))) → Q (.ref D) H'
def sp_word : Sp := fun vs H Q _ => ∃ c : Int, vs = [.int c] ∧ ∀ w : List Nat, okS w → Q (.str (S w)) H
theorem LTups.at {K : PySem.W.Frag} {H : Hp} {p : Addr} {rows : List (List V)} (h : LTups H p rows) : ∃ ts : List Addr, SqL K H p (ts.map V.ref) ∧ ts.length = rows.length ∧ ∀ (i : Nat) (x : V), (ts.map V.ref)[i]? = some x → ∃ t r, x = .ref t ∧ rows[i]? = some r ∧ H t = some (.tup r) := by
  obtain ⟨ts, h1, h2⟩ := h
  refine ⟨ts, .inl (.inl h1), h2.length, fun i x hx => ?_⟩
  rw [List.getElem?_map] at hx
  cases e : ts[i]? with
  | none => rw [e] at hx; cases hx
  | some t =>
    rw [e] at hx
    obtain ⟨r, hr, ht⟩ := h2.get e
    exact ⟨t, r, (Option.some.inj hx).symm, hr, ht⟩
theorem same_back {H H' : Hp} {b : Addr} (s : Same H H') (h : H' b = none) : H b = none := by
  cases e : H b with
  | none => rfl
  | some o => rw [s _ _ e] at h; cases h
theorem Same.wr {H H' : Hp} {b : Addr} {o : HO} (s : Same H H') (h : H b = none) : Same H (L2.upd H' b o) := fun c u hc => (upd_ne (ne_of_none hc h)).trans (s c u hc)
def okL3 (x : L3) : Prop := okS x.2.1 ∧ ∀ w, x.2.2 = some w → okS w
end L2

set_option Elab.async false
set_option linter.all false
set_option maxRecDepth 100000
set_option maxHeartbeats 4000000
namespace L2
open PySem PySem.Spec PyProof.Rows
/-! ### plain things: None, texts, ints, lists and tuples of these -/
def Pl (H : Hp) : Nat → V → Prop
  | _, .non => True
  | _, .int _ => True
  | _, .str _ => True
  | n + 1, .ref a => ∃ xs, (H a = some (.lst xs) ∨ H a = some (.tup xs)) ∧ ∀ x ∈ xs, Pl H n x
  | _, _ => False
theorem Pl.same {H H' : Hp} (s : Same H H') : ∀ {n : Nat} {v : V}, Pl H n v → Pl H' n v := by
  intro n
  induction n with
  | zero =>
    intro v h
    cases v with
    | non => trivial
    | int i => trivial
    | str x => trivial
    | _ => exact (show False from h).elim
  | succ n ih =>
    intro v h
    cases v with
    | non => trivial
    | int i => trivial
    | str x => trivial
    | ref a =>
      obtain ⟨xs, h, hx⟩ := (show ∃ xs, (H a = some (.lst xs) ∨ H a = some (.tup xs)) ∧ ∀ x ∈ xs, Pl H n x from h)
      exact ⟨xs, h.elim (fun h => .inl (s _ _ h)) fun h => .inr (s _ _ h), fun x m => ih (hx x m)⟩
    | _ => exact (show False from h).elim
def sp_plainN : Nat → Sp
  | 0 => fun _ _ _ _ => False
  | n + 1 => fun vs H Q _ => ∃ v, vs = [v] ∧ Pl H n v ∧ ∀ H', Same H H' → Q (.bl true) H'
def sp_same (K : PySem.W.Frag) : Sp := fun vs H Q _ => ∃ (x y : V) (d : PyData), vs = [x, y] ∧ Pl H 2 x ∧ Den K H x d ∧ Den K H y d ∧ wd 3 d ∧ ∀ H', Same H H' → Q (.bl true) H'
end L2

set_option Elab.async false
set_option linter.all false
set_option maxRecDepth 100000
set_option maxHeartbeats 4000000
namespace L2
open PySem PySem.Spec PyProof.Rows
/-! ### what stands in a row, and what of it is drawn away -/
def RowM.rowL (M : RowM) (p : Int) : L3 := match M.L p with
  | some x => (p, x.1, x.2.1)
  | none => (p, [], none)
/-- all letters that stand -/
def RowM.stand (M : RowM) : List L3 := (M.standing 0 M.last.toNat).map M.rowL
/-! the last of each key -/
def lastP : List L3 → List Nat → Option Int
  | [], _ => none
  | x :: r, k => match lastP r k with
    | some y => some y
    | none => if x.2.1 = k then some x.1 else none
theorem lastP_snoc (a : List L3) (x : L3) (k : List Nat) : lastP (a ++ [x]) k = if x.2.1 = k then some x.1 else lastP a k := by
  induction a with
  | nil => rw [List.nil_append]; simp [lastP]
  | cons y r ih =>
    rw [List.cons_append, lastP, ih]
    by_cases h : x.2.1 = k
    · rw [if_pos h, if_pos h]
    · rw [if_neg h, if_neg h, lastP]
def laterB (ls : List L3) (k : Nat) : Bool := (ls.drop (k + 1)).any fun y => decide (y.2.1 = (ls.getD k (0, [], none)).2.1)
def awayL (ls : List L3) (passed : Int) : List Int := (ls.filter fun x => !(lastP ls x.2.1 == some x.1) || (x.2.2.isNone && decide (x.1 < passed))).map (·.1)
def at3 (ls : List L3) (k : Nat) : L3 := ls.getD k (0, [], none)
open Classical in
noncomputable def tupP (H : Hp) (P : L3 → Bool) (x : V) : Bool := decide (∃ t y, x = .ref t ∧ H t = some (.tup (l3V y)) ∧ P y = true)
open Classical in
theorem Chg.wr {A : List Addr} {H H' : Hp} {b : Addr} {o : HO} (c : Chg A H H') (h : H b = none) : Chg A H (L2.upd H' b o) :=
  ⟨fun e u he n => (upd_ne (ne_of_none he h)).trans (c.keep e u he n), fun e xs he => (upd_ne (ne_of_none he h)).trans (c.tup e xs he)⟩
theorem wd.mono {n m : Nat} {d : PyData} (h : wd n d) (hn : n ≤ m) : wd m d := ⟨h.1, Nat.le_trans h.2 hn⟩
theorem Pl.ints {H : Hp} {p : Addr} {ns : List Int} (h : H p = some (.lst (ns.map V.int))) : Pl H 2 (.ref p) := ⟨_, .inl h, fun x hx => by
  obtain ⟨n, _, rfl⟩ := List.mem_map.mp hx
  trivial⟩
theorem Pl.l3 {H : Hp} {p : Addr} {ls : List L3} (h : LTups H p (ls.map l3V)) : Pl H 2 (.ref p) := by
  obtain ⟨ts, hts, htl, hat⟩ := h.at (K := [])
  obtain ⟨ts', h1, h2⟩ := h
  refine ⟨_, .inl h1, fun x hx => ?_⟩
  obtain ⟨t, ht, rfl⟩ := List.mem_map.mp hx
  obtain ⟨i, hi, e⟩ := List.getElem_of_mem ht
  obtain ⟨r, hr, htr⟩ := h2.get (i := i) (t := t) (by rw [List.getElem?_eq_getElem hi, e])
  rw [List.getElem?_map] at hr
  cases e2 : ls[i]? with
  | none => rw [e2] at hr; cases hr
  | some y =>
    rw [e2] at hr
    cases hr
    refine ⟨_, .inr htr, fun v hv => ?_⟩
    obtain ⟨p0, k, w⟩ := y
    simp only [l3V, List.mem_cons, List.not_mem_nil, or_false] at hv
    rcases hv with rfl | rfl | rfl
    · trivial
    · trivial
    · cases w <;> trivial
def sp_drawn (C : Addr) : Sp := fun vs H Q _ => ∃ (r d : Addr) (M : RowM) (fl pa : Int), vs = [.ref r, .int fl, .int pa] ∧ RowAt C H r d M ∧ M.last ≤ 1000 ∧ 0 ≤ fl ∧ ∀ D H', H D = none → Same H H' → H' D = some (.lst ((awayL (M.stand.filter fun x => decide (x.1 < fl)) pa).map V.int)) → Q (.ref D) H'
def sp_later (K : PySem.W.Frag) : Sp := fun vs H Q _ => ∃ (p : Addr) (ls : List L3) (k : Nat), vs = [.ref p, .int k] ∧ LTups H p (ls.map l3V) ∧ k < ls.length ∧ ∀ H', Same H H' → Q (.bl (laterB ls k)) H'
def dueL (ls : List L3) (v : Int) : List Int := ((List.range (ls.filter fun x => decide (x.1 < v)).length).filter fun k => laterB (ls.filter fun x => decide (x.1 < v)) k).map fun k => (at3 (ls.filter fun x => decide (x.1 < v)) k).1
end L2

set_option Elab.async false
set_option linter.all false
set_option maxRecDepth 100000
set_option maxHeartbeats 4000000
namespace L2
open PySem PySem.Spec PyProof.Rows
/-! ### x is True -/
def rIsB : R2 := fun x y H Q => ∃ b c, x = .bl b ∧ y = .bl c ∧ Q (.bl (decide (b = c))) H
def rNotB : R2 := fun x y H Q => ∃ b c, x = .bl b ∧ y = .bl c ∧ Q (.bl (!decide (b = c))) H
section
variable {X : Cx}
theorem rIsB_bb {H : Hp} {Q : VK} (b c : Bool) : rIsB (.bl b) (.bl c) H Q = Q (.bl (decide (b = c))) H := by simp [rIsB]
theorem rNotB_bb {H : Hp} {Q : VK} (b c : Bool) : rNotB (.bl b) (.bl c) H Q = Q (.bl (!decide (b = c))) H := by simp [rNotB]
end
/-! ### what is left once it is drawn -/
/-- goes when drawn -/
def goes (ls : List L3) (pa : Int) (x : L3) : Bool := !(lastP ls x.2.1 == some x.1) || (x.2.2.isNone && decide (x.1 < pa))
end L2

set_option Elab.async false
set_option linter.all false
set_option maxRecDepth 100000
set_option maxHeartbeats 4000000
namespace L2
open PySem PySem.Spec PyProof.Rows
def RowM.outs (M : RowM) (l : List Int) : RowM := { M with L := fun q => if q ∈ l then none else M.L q }
theorem inV_ints (k : Int) (ks : List Int) : inV (.int k) (ks.map V.int) = decide (k ∈ ks) := by
  unfold inV
  induction ks with
  | nil => rfl
  | cons x r ih =>
    rw [List.map_cons, List.any_cons, ih]
    show ((x == k) || decide (k ∈ r)) = _
    by_cases e : k = x
    · subst e; simp
    · have e1 : (x == k) = false := by rw [beq_eq_false_iff_ne]; exact Ne.symm e
      rw [e1]; simp [e]
end L2

set_option Elab.async false
set_option linter.all false
set_option maxRecDepth 100000
set_option maxHeartbeats 4000000
namespace L2
open PySem PySem.Spec PyProof.Rows
/-! ### max(list of ints), max(list of ints, default=d) -/
section
variable {prog : Program} {w : World} {A : Around} {R : Result → Shared → Prop} {I : Addr} {fp wr : List Addr} {n : Nat} {P : Nat → Value → Prop} {St : Nat → Heap → Prop} {kw : List (Str × Value)}
end
section
variable {prog : Program} {w : World} {A : Around} {E : Value → Shared → Prop} {s : Shared}
end
section
variable {X : Cx}
def rMaxL (K : PySem.W.Frag) : List V → Hp → VK → Prop := fun xs H Q => ∃ (p : Addr) (ns : List Int), xs = [.ref p] ∧ SqL K H p (ns.map V.int) ∧ ns ≠ [] ∧ ∀ m ∈ ns, (∀ a ∈ ns, a ≤ m) → Q (.int m) H
def tMaxD (K : PySem.W.Frag) (te td : TE) : TE := fun σ H Q => te σ H fun x H1 => td σ H1 fun y H2 => ∃ (p : Addr) (ns : List Int) (d : Int), x = .ref p ∧ y = .int d ∧ SqL K H2 p (ns.map V.int) ∧ ∀ m, (ns = [] → m = d) → (ns ≠ [] → m ∈ ns ∧ ∀ a ∈ ns, a ≤ m) → Q (.int m) H2
end
end L2

set_option Elab.async false
set_option linter.all false
set_option maxRecDepth 100000
set_option maxHeartbeats 4000000
namespace L2
open PySem PySem.Spec PyProof.Rows
theorem TupsAt.append {H : Hp} {ts us : List Addr} {rows more : List (List V)} (h : TupsAt H ts rows) (h2 : TupsAt H us more) : TupsAt H (ts ++ us) (rows ++ more) := by
  unfold TupsAt at h h2 ⊢
  induction h with
  | nil => exact h2
  | cons r t ih => exact .cons r ih
/-! ### a table that takes letters -/
def tblF (pl : Int) (w l : Addr) : List (Str × V) := [("place", .int pl), ("words", .ref w), ("lasts", .ref l)]
structure WrdK (kvs : List (Key × V)) (tk : List L3) : Prop where
  len : kvs.length ≤ tk.length
  nd : NdK kvs
  val : ∀ k : List Nat, valV kvs (.inr (S k)) = (lastW tk k).map wV
  int : ∀ i : Int, valV kvs (.inl i) = none
structure LstK (kvs : List (Key × V)) (tk : List L3) : Prop where
  len : kvs.length ≤ tk.length
  val : ∀ k : List Nat, valV kvs (.inr (S k)) = (lastP tk k).map V.int
theorem WrdK.nil : WrdK [] [] := ⟨Nat.le_refl _, NdK.nil, fun _ => rfl, fun _ => rfl⟩
theorem LstK.nil : LstK [] [] := ⟨Nat.le_refl _, fun _ => rfl⟩
theorem WrdK.put {kvs : List (Key × V)} {tk : List L3} (h : WrdK kvs tk) (x : L3) : WrdK (putK kvs (.inr (S x.2.1)) (wV x.2.2)) (tk ++ [x]) := by
  refine ⟨?_, h.nd.put _ _, fun q => ?_, fun i => ?_⟩
  · have := length_putK kvs (.inr (S x.2.1) : Key) (wV x.2.2); have := h.len; rw [List.length_append, List.length_singleton]; omega
  · rw [valV_put, lastW_snoc]
    by_cases e : q = x.2.1
    · rw [if_pos (inr_S.mpr e), if_pos e.symm]; rfl
    · rw [if_neg (fun z => e (inr_S.mp z)), if_neg (Ne.symm e)]; exact h.val q
  · rw [valV_put, if_neg (by intro z; cases z)]; exact h.int i
theorem LstK.put {kvs : List (Key × V)} {tk : List L3} (h : LstK kvs tk) (x : L3) : LstK (putK kvs (.inr (S x.2.1)) (.int x.1)) (tk ++ [x]) := by
  refine ⟨?_, fun q => ?_⟩
  · have := length_putK kvs (.inr (S x.2.1) : Key) (.int x.1); have := h.len; rw [List.length_append, List.length_singleton]; omega
  · rw [valV_put, lastP_snoc]
    by_cases e : q = x.2.1
    · rw [if_pos (inr_S.mpr e), if_pos e.symm]; rfl
    · rw [if_neg (fun z => e (inr_S.mp z)), if_neg (Ne.symm e)]; exact h.val q
structure TblAt (C : Addr) (H : Hp) (t w l : Addr) (tk : List L3) (pl : Int) : Prop where
  obj : ∃ dx, H t = some (.ins C dx (tblF pl w l))
  words : ∃ kvs, H w = some (.dK kvs) ∧ WrdK kvs tk
  lasts : ∃ kvs, H l = some (.dK kvs) ∧ LstK kvs tk
  nwl : w ≠ l
theorem TblAt.chg {A : List Addr} {C : Addr} {H H' : Hp} {t w l : Addr} {tk : List L3} {pl : Int} (h : TblAt C H t w l tk pl) (c : Chg A H H') (ht : t ∉ A) (hw : w ∉ A) (hl : l ∉ A) : TblAt C H' t w l tk pl := by
  obtain ⟨dx, e⟩ := h.obj
  obtain ⟨k1, e1, a1⟩ := h.words
  obtain ⟨k2, e2, a2⟩ := h.lasts
  exact ⟨⟨dx, c.keep _ _ e ht⟩, ⟨k1, c.keep _ _ e1 hw, a1⟩, ⟨k2, c.keep _ _ e2 hl, a2⟩, h.nwl⟩
theorem TblAt.same {C : Addr} {H H' : Hp} {t w l : Addr} {tk : List L3} {pl : Int} (h : TblAt C H t w l tk pl) (s : Same H H') : TblAt C H' t w l tk pl := h.chg (A := []) (Chg.of_same s) (by simp) (by simp) (by simp)
/-- what is another thing than a table's parts -/
theorem TblAt.apart {C : Addr} {H : Hp} {t w l b : Addr} {tk : List L3} {pl : Int} (h : TblAt C H t w l tk pl) (hb : ∀ o, H b = some o → (∀ dx, o ≠ .ins C dx (tblF pl w l)) ∧ ∀ kvs, o ≠ .dK kvs) : b ∉ [t, w, l] := by
  obtain ⟨dx, e⟩ := h.obj
  obtain ⟨k1, e1, a1⟩ := h.words
  obtain ⟨k2, e2, a2⟩ := h.lasts
  intro m
  simp only [List.mem_cons, List.not_mem_nil, or_false] at m
  rcases m with rfl | rfl | rfl
  · exact (hb _ e).1 _ rfl
  · exact (hb _ e1).2 _ rfl
  · exact (hb _ e2).2 _ rfl
def sp_tbl_init (C : Addr) : Sp := fun vs H Q _ => ∃ x dx, vs = [.ref x] ∧ H x = some (.ins C dx []) ∧ ∀ w l H', H w = none → H l = none → Chg [x] H H' → TblAt C H' x w l [] 0 → Q .non H'
def sp_tbl_take (C : Addr) : Sp := fun vs H Q _ => ∃ (t w l : Addr) (tk : List L3) (pl : Int) (p : Addr) (ls : List L3) (up : Int), vs = [.ref t, .ref p, .int up] ∧ TblAt C H t w l tk pl ∧ LTups H p (ls.map l3V) ∧ tk.length + ls.length ≤ 1000 ∧
  ∀ H', Chg [t, w, l] H H' → TblAt C H' t w l (tk ++ ls.filter fun x => decide (pl ≤ x.1)) (max pl up) → Q .non H'
def sp_tbl_shown (C : Addr) : Sp := fun vs H Q _ => ∃ (t w l : Addr) (tk : List L3) (pl : Int), vs = [.ref t] ∧ TblAt C H t w l tk pl ∧ tk.length ≤ 1000 ∧ ∀ D H', H D = none → Same H H' → Tab H' D (wordAt tk) tk.length → Q (.ref D) H'
def sp_tbl_last (C : Addr) : Sp := fun vs H Q _ => ∃ (t w l : Addr) (tk : List L3) (pl : Int) (k : List Nat), vs = [.ref t, .str (S k)] ∧ TblAt C H t w l tk pl ∧ Q (.int ((lastP tk k).getD (-1))) H
def sp_last : Sp := fun vs H Q _ => ∃ (p : Addr) (ls : List L3) (k : List Nat), vs = [.ref p, .str (S k)] ∧ LTups H p (ls.map l3V) ∧ ls.length ≤ 100 ∧ (ls.Pairwise fun x y => x.1 < y.1) ∧ ∀ H', Same H H' → Q (.int ((lastP ls k).getD (-1))) H'
def sp_stands (K : PySem.W.Frag) (C : Addr) : Sp := fun vs H Q _ => ∃ (t w l : Addr) (tk : List L3) (pl : Int) (kp p : Addr) (ks : List (List Nat)), vs = [.ref t, .ref kp, .ref p, .int pl] ∧ TblAt C H t w l tk pl ∧ H kp = some (.lst (ks.map fun z => V.str (S z))) ∧ LTups H p (tk.map l3V) ∧ tk.length ≤ 100 ∧ (tk.Pairwise fun x y => x.1 < y.1) ∧
  ∀ H', Same H H' → Q (.bl true) H'
def sp_letters (K : PySem.W.Frag) : Sp := fun vs H Q _ => ∃ (p kp : Addr) (ns : List Int) (ks : List (List Nat)), vs = [.ref p, .ref kp] ∧ SqL K H p (ns.map V.int) ∧ H kp = some (.lst (ks.map fun z => V.str (S z))) ∧ 5 ≤ ks.length ∧ (∀ k ∈ ks, okS k) ∧
  ∀ D H' (ls : List L3), H D = none → Same H H' → ls.length = 30 → (ls.Pairwise fun x y => x.1 < y.1) → (∀ x ∈ ls, okL3 x ∧ 0 ≤ x.1) → LTups H' D (ls.map l3V) → Q (.ref D) H'
end L2

set_option Elab.async false
set_option linter.all false
set_option maxRecDepth 100000
set_option maxHeartbeats 4000000
namespace L2
open PySem PySem.Spec PyProof.Rows
/-! ### lendings: reads while the loans are walked, what is due -/
def LoanAt (C : Addr) (H : Hp) (r l : Addr) (M : LendM) : Prop := (∃ dx f t, H r = some (.ins C dx (lendF M f t l))) ∧ ∃ kvs, Rd H l (.dK kvs) ∧ ∀ p : Int, LoanO H (M.L p) (valV kvs (.inl p))
theorem LendAt.loan {C : Addr} {H : Hp} {r f t l : Addr} {M : LendM} (h : LendAt C H r f t l M) : LoanAt C H r l M := by
  obtain ⟨dx, e⟩ := h.obj
  obtain ⟨kvs, e2, _, v, _⟩ := h.loa
  exact ⟨⟨dx, f, t, e⟩, kvs, .inl e2, v⟩
theorem LendAt.same {C : Addr} {H H' : Hp} {r f t l : Addr} {M : LendM} (h : LendAt C H r f t l M) (s : Same H H') : LendAt C H' r f t l M := h.chg (A := []) (Chg.of_same s) (by simp) (by simp) (by simp) (by simp)
theorem RowAt.same {C : Addr} {H H' : Hp} {r d : Addr} {M : RowM} (h : RowAt C H r d M) (s : Same H H') : RowAt C H' r d M := h.chg (A := []) (Chg.of_same s) (by simp) (by simp)
def LSz (H : Hp) (l : Addr) (c : Nat) : Prop := ∃ kvs, H l = some (.dK kvs) ∧ kvs.length ≤ c
theorem LSz.same {H H' : Hp} {l : Addr} {c : Nat} (h : LSz H l c) (s : Same H H') : LSz H' l c := let ⟨k, e, b⟩ := h; ⟨k, s _ _ e, b⟩
theorem LSz.chg {A : List Addr} {H H' : Hp} {l : Addr} {c : Nat} (h : LSz H l c) (s : Chg A H H') (n : l ∉ A) : LSz H' l c := let ⟨k, e, b⟩ := h; ⟨k, s.keep _ _ e n, b⟩
theorem LSz.mono {H : Hp} {l : Addr} {c d : Nat} (h : LSz H l c) (s : c ≤ d) : LSz H l d := let ⟨k, e, b⟩ := h; ⟨k, e, Nat.le_trans b s⟩
def dueS (M : LendM) (turn : Int) (acc : List Int × Option Int) (p : Int) : List Int × Option Int := match acc.2 with
  | some _ => acc
  | none => if M.isLent p turn = true then acc else if M.T p < M.tries then (acc.1, some p) else (acc.1 ++ [p], none)
def dueG (M : LendM) (turn : Int) (l : List Int) : List Int × Option Int := l.foldl (dueS M turn) ([], none)
def oV : Option Int → V
  | none => .non
  | some p => .int p
def sp_r_loan_at (C : Addr) : Sp := fun vs H Q _ => ∃ (r l : Addr) (M : LendM) (p : Int), vs = [.ref r, .int p] ∧ LoanAt C H r l M ∧ ∀ v, LoanVal H (M.L p) v → Q v H
def sp_r_is_lent (C : Addr) : Sp := fun vs H Q _ => ∃ (r l : Addr) (M : LendM) (p turn : Int), vs = [.ref r, .int p, .int turn] ∧ LoanAt C H r l M ∧ Q (.bl (M.isLent p turn)) H
def sp_l_lend2 (C : Addr) : Sp := fun vs H Q _ => ∃ (r f t l : Addr) (M : LendM) (p : Int) (tk : List Nat) (turn : Int) (c : Nat), vs = [.ref r, .int p, .str (S tk), .int turn] ∧ LendAt C H r f t l M ∧ LSz H l c ∧ M.sz ≤ 100000 ∧
  ∀ H', Chg [r, t, l] H H' → LendAt C H' r f t l (M.lend p tk turn) → LSz H' l (if (M.L p).isSome = true then c else c + 1) → Q (.int (M.lent + 1)) H'
def pwf (M : LendM) (R : RowM) (fr : Int) : List Int := (R.seenP M.start fr R.last).filter fun p => (M.F p).isNone
def sp_pwf (C CR : Addr) : Sp := fun vs H Q _ => ∃ (r f t l : Addr) (M : LendM) (row d : Addr) (R : RowM) (fr : Int), vs = [.ref r, .ref row, .int fr] ∧ LendAt C H r f t l M ∧ RowAt CR H row d R ∧ R.last ≤ 1000 ∧ 0 ≤ M.start ∧ M.start ≤ 1000 ∧ 0 ≤ fr ∧
  ∀ D H', H D = none → Same H H' → H' D = some (.lst ((pwf M R fr).map V.int)) → Q (.ref D) H'
def sp_due_in (C CR : Addr) : Sp := fun vs H Q _ => ∃ (r f t l : Addr) (M : LendM) (row d : Addr) (R : RowM) (fr turn : Int) (c : Nat), vs = [.ref r, .ref row, .int fr, .int turn] ∧ LendAt C H r f t l M ∧ RowAt CR H row d R ∧ R.last ≤ 1000 ∧ 0 ≤ M.start ∧ M.start ≤ 1000 ∧ 0 ≤ fr ∧ LSz H l c ∧ (c : Int) < M.width ∧ c ≤ 1000 ∧
  ∀ A u H', H A = none → H u = none → Same H H' → H' A = some (.lst ((dueG M turn (pwf M R fr)).1.map V.int)) → H' u = some (.tup [.ref A, oV (dueG M turn (pwf M R fr)).2]) → Q (.ref u) H'
def sp_is_due (K : PySem.W.Frag) : Sp := fun vs H Q _ => ∃ (u A B : Addr) (xs : List Int) (o : Option Int), vs = [.ref u, .ref B, oV o] ∧ H u = some (.tup [.ref A, oV o]) ∧ H A = some (.lst (xs.map V.int)) ∧ H B = some (.lst (xs.map V.int)) ∧ xs.length ≤ 1000 ∧ ∀ H', Same H H' → Q (.bl true) H'
end L2

set_option Elab.async false
set_option linter.all false
set_option maxRecDepth 100000
set_option maxHeartbeats 4000000
namespace L2
open PySem PySem.Spec PyProof.Rows
/-! ### list.remove of an int -/
section
variable {X : Cx}
def rRemove : V → List V → Hp → VK → Prop := fun x vs H Q => ∃ (l : Addr) (ns : List Int) (k : Int) (j : Nat), x = .ref l ∧ vs = [.int k] ∧ H l = some (.lst (ns.map V.int)) ∧ ns[j]? = some k ∧ (∀ m, m < j → ns[m]? ≠ some k) ∧ Q .non (upd H l (.lst ((ns.eraseIdx j).map V.int)))
def isIntV (k : Int) : Value → Bool
  | .int n _ => n == k
  | _ => false
end
end L2

set_option Elab.async false
set_option linter.all false
set_option maxRecDepth 100000
set_option maxHeartbeats 4000000
namespace L2
open PySem
/-! ### an exception on its way, its own dict with it -/
/-- the exception at e: its class, its dict, its arguments, and where the newest entry of its tale stands -/
def TrD (h B : Heap) (e : Addr) (cls : Value) (dc : Option Addr) (a0 fl : Value) : Prop :=
  ∃ oe vs T oT ts, h.get? e = some oe ∧ oe.cls = cls ∧ oe.dict = dc ∧ oe.data = .fields vs ∧ vs[0]? = some a0 ∧ vs[1]? = some (.ref T) ∧ B.get? T = none ∧ T ≠ e ∧ h.get? T = some oT ∧ oT.data = .fields ts ∧ ts[3]? = some fl
/-- it flies through the frames l -/
structure Fly (B : Heap) (l : List Env) (e : Addr) (cls : Value) (dc : Option Addr) (a0 fl : Value) (h : Heap) : Prop where
  stay : B.StaysIn h
  new : B.get? e = none
  fun' : h.FunFrames B l
  tale : TrD h B e cls dc a0 fl
section
variable {M : Model} {A : Around} {E : Value → Shared → Prop} {s : Shared}
theorem mapF_dict (g : Array Value → Array Value) (o : Obj) : (o.mapFields g).dict = o.dict := by
  obtain ⟨c, d, t, sl⟩ := o
  cases t <;> rfl
/-- the newest entry is written -/
theorem entry_new {B : Heap} {env : Env} {out : List Env} {L e : Addr} {oe : Obj} {vs : Array Value} {top a0 : Value} {nx : Bool} {Q : Unit → Shared → Prop}
    (fr : A.frames = some (env :: out)) (ff : s.heap.FunFrames B (env :: out)) (ef : env.frame = some L) (ge : s.heap.get? e = some oe) (kb : B.StaysIn s.heap) (nb : B.get? e = none) (dt : oe.data = .fields vs) (sz : 1 < vs.size) (z0 : vs[0]? = some a0)
    (k : ∀ h', Fly B (env :: out) e oe.cls oe.dict a0 (rawInt L) h' → s.heap.UpToSlots h' → Q () { s with heap := h' }) :
    wpAny M A (do
      let fo ← frameOf env
      let pl ← entryPlaceOf L nx
      let en ← EntryCells.newEntry top fo .none (rawInt L) .none pl
      setField (.ref e) 1 en) Q E s := by
  have apart : e ∉ (env :: out).filterMap (·.frame) := by
    intro m
    obtain ⟨_, o, g, nf⟩ := ff.mem m
    rw [ge] at g
    cases g
    exact nf vs dt
  refine wpAny_bind (wpAny_frameOf_fun fr ff ef fun g1 so => wpAny_bind (wpAny_entryPlaceOf fun pl ip => ?_))
  unfold EntryCells.newEntry newFields
  refine wpAny_bind (wpAny_newObj_type ?_ (ip.sizeOk5 _ _ _ _ _))
  generalize hen : ([top, Value.ref L, Value.none, rawInt L, Value.none] ++ (if pl.isEmpty then List.replicate 6 Value.none else pl)).toArray = ts
  have e3 : ts[3]? = some (rawInt L) := by rw [← hen]; simp
  generalize ho : ({ cls := .type "traceback", dict := none, data := .fields ts } : Obj) = on
  have ge1 : g1.get? e = some oe := (so.2.1 e apart).trans ge
  have kb1 : B.StaysIn g1 := fun b o q => by
    refine (so.2.1 b fun m => ?_).trans (kb b o q)
    rw [(ff.mem m).1] at q
    cases q
  have ge2 : (g1.push on).get? e = some oe := Heap.get?_push_of_some _ ge1
  have norec : ∀ b o, s.heap.get? b = some o → (∀ ws, o.data ≠ .fields ws) → b ≠ e := fun b o q nf z => by
    subst z
    rw [ge] at q
    cases q
    exact nf vs dt
  refine wpAny_setField ge2 dt sz (k _ ?_ ?_)
  all_goals have nTe : g1.objs.size ≠ e := Nat.ne_of_gt (Heap.lt_size ge1)
  all_goals have dt3 := Obj.data_mapFields dt (·.setIfInBounds 1 (Value.ref g1.objs.size))
  all_goals have ge3 := Heap.get?_update_self (Obj.mapFields (·.setIfInBounds 1 (Value.ref g1.objs.size))) ge2 (Obj.isFreed_of_fields dt3)
  all_goals have gT : ((g1.push on).update e (Obj.mapFields (·.setIfInBounds 1 (Value.ref g1.objs.size)))).get? g1.objs.size = some on := (Heap.get?_update_other _ _ (Ne.symm nTe)).trans (Heap.get?_push_size g1 (by rw [← ho]; rfl))
  all_goals have keep : ∀ b o, b ≠ e → g1.get? b = some o → ((g1.push on).update e (Obj.mapFields (·.setIfInBounds 1 (Value.ref g1.objs.size)))).get? b = some o := fun b o nbe q => (Heap.get?_update_other _ _ (Ne.symm nbe)).trans (Heap.get?_push_of_some _ q)
  · refine ⟨fun b o q => keep b o (fun z => by rw [z, nb] at q; cases q) (kb1 b o q), nb, ff.of_keeps fun b o q nf => ?_, ?_⟩
    · obtain ⟨sl, q'⟩ := so.2.2 b o q
      exact ⟨_, keep b _ (norec b o q nf) q', rfl⟩
    · refine ⟨_, _, g1.objs.size, on, ts, ge3, Obj.cls_mapFields _ _, mapF_dict _ _, dt3, ?_, by simp [sz], kb1.fresh, nTe, gT, by rw [← ho], e3⟩
      rw [Array.getElem?_setIfInBounds_ne (by decide)]
      exact z0
  · intro b o q nf
    obtain ⟨sl, q'⟩ := so.2.2 b o q
    exact ⟨sl, keep b _ (norec b o q nf) q'⟩
/-- the first frame is noted -/
theorem note_first {B : Heap} {env : Env} {out : List Env} {L e : Addr} {oe : Obj} {vs : Array Value} {a0 : Value} {Q : Unit → Shared → Prop}
    (fr : A.frames = some (env :: out)) (ff : s.heap.FunFrames B (env :: out)) (ef : env.frame = some L) (ge : s.heap.get? e = some oe) (kb : B.StaysIn s.heap) (nb : B.get? e = none) (dt : oe.data = .fields vs) (z1 : vs[1]? = some .none) (z0 : vs[0]? = some a0)
    (k : ∀ h', Fly B (env :: out) e oe.cls oe.dict a0 (rawInt L) h' → s.heap.UpToSlots h' → Q () { s with heap := h' }) : wpAny M A (noteFrame (.ref e) env) Q E s := by
  unfold noteFrame
  simp only [ef]
  refine wpAny_bind (wpAny_field ge dt z1 ?_)
  rw [if_neg (by decide)]
  exact entry_new fr ff ef ge kb nb dt (Array.getElem?_eq_some_iff.mp z1).1 z0 k
/-- a next frame is noted -/
theorem note_next {B : Heap} {env : Env} {out : List Env} {L e : Addr} {cls : Value} {dc : Option Addr} {a0 : Value} {Q : Unit → Shared → Prop}
    (fr : A.frames = some (env :: out)) (ef : env.frame = some L) (fl : Fly B (env :: out) e cls dc a0 .none s.heap)
    (k : ∀ h', Fly B (env :: out) e cls dc a0 (rawInt L) h' → s.heap.UpToSlots h' → Q () { s with heap := h' }) : wpAny M A (noteFrame (.ref e) env) Q E s := by
  obtain ⟨kb, nb, ff, oe, vs, T, oT, ts, ge, hc, hdc, dt, z0, z1, nT, nTe, gT, dT, z3⟩ := fl
  subst hc hdc
  unfold noteFrame
  simp only [ef]
  refine wpAny_bind (wpAny_field ge dt z1 ?_)
  rw [if_pos (by simp)]
  refine wpAny_bind (wpAny_field gT dT z3 ?_)
  rw [if_neg (by simp [rawInt])]
  refine wpAny_bind (wpAny_setField gT dT (Array.getElem?_eq_some_iff.mp z3).1 ?_)
  have oth : ∀ b, b ≠ T → (s.heap.update T (Obj.mapFields (·.setIfInBounds 3 Value.none))).get? b = s.heap.get? b := fun b q => Heap.get?_update_other _ _ (Ne.symm q)
  have norec : ∀ b o, s.heap.get? b = some o → (∀ ws, o.data ≠ .fields ws) → b ≠ T := fun b o q nf z => by
    subst z
    rw [gT] at q
    cases q
    exact nf ts dT
  refine entry_new fr (ff.of_keeps fun b o q nf => ⟨o, (oth b (norec b o q nf)).trans q, rfl⟩) ef ((oth e (Ne.symm nTe)).trans ge) (fun b o q => (oth b fun z => by rw [z, nT] at q; cases q).trans (kb b o q)) nb dt (Array.getElem?_eq_some_iff.mp z1).1 z0 fun h' f' u' => k h' f' fun b o q nf => u' b o ((oth b (norec b o q nf)).trans q) nf
/-- it is on its way again -/
theorem flight_none {B : Heap} {l : List Env} {e : Addr} {cls : Value} {dc : Option Addr} {a0 fl : Value} {Q : Unit → Shared → Prop} (f : Fly B l e cls dc a0 fl s.heap)
    (k : ∀ h', Fly B l e cls dc a0 .none h' → s.heap.UpToSlots h' → Q () { s with heap := h' }) : wpAny M A (setFlight (.ref e) none) Q E s := by
  obtain ⟨kb, nb, ff, oe, vs, T, oT, ts, ge, hc, hdc, dt, z0, z1, nT, nTe, gT, dT, z3⟩ := f
  have z3' : 3 < ts.size := (Array.getElem?_eq_some_iff.mp z3).1
  have oth : ∀ b, b ≠ T → (s.heap.update T (Obj.mapFields (·.setIfInBounds 3 ((none : Option Addr).elim Value.none fun f => rawInt f)))).get? b = s.heap.get? b := fun b q => Heap.get?_update_other _ _ (Ne.symm q)
  have norec : ∀ b o, s.heap.get? b = some o → (∀ ws, o.data ≠ .fields ws) → b ≠ T := fun b o q nf z => by
    subst z
    rw [gT] at q
    cases q
    exact nf ts dT
  unfold setFlight
  refine wpAny_bind (wpAny_field ge dt z1 ?_)
  rw [if_pos (by simp)]
  refine wpAny_setField gT dT z3' (k _ ⟨fun b o q => (oth b fun z => by rw [z, nT] at q; cases q).trans (kb b o q), nb, ff.of_keeps fun b o q nf => ⟨o, (oth b (norec b o q nf)).trans q, rfl⟩, ?_⟩ fun b o q nf => ⟨o.slots, (oth b (norec b o q nf)).trans q⟩)
  exact ⟨oe, vs, T, _, _, (oth e (Ne.symm nTe)).trans ge, hc, hdc, dt, z0, z1, nT, nTe, Heap.get?_update_self _ gT (Obj.isFreed_of_fields (Obj.data_mapFields dT _)), Obj.data_mapFields dT _, by simp [z3']⟩
theorem Fly.pop {B : Heap} {env : Env} {out : List Env} {e : Addr} {cls : Value} {dc : Option Addr} {a0 fl : Value} {h : Heap} (f : Fly B (env :: out) e cls dc a0 fl h) : Fly B out e cls dc a0 fl h :=
  ⟨f.stay, f.new, let ⟨_, _, z⟩ := f.fun'; z, f.tale⟩
/-- it leaves a frame: the first one -/
theorem leave_first {B : Heap} {env : Env} {out : List Env} {L e : Addr} {oe : Obj} {vs : Array Value} {a0 : Value} {Q : Unit → Shared → Prop}
    (fr : A.frames = some (env :: out)) (ff : s.heap.FunFrames B (env :: out)) (ef : env.frame = some L) (ge : s.heap.get? e = some oe) (kb : B.StaysIn s.heap) (nb : B.get? e = none) (dt : oe.data = .fields vs) (z1 : vs[1]? = some .none) (z0 : vs[0]? = some a0)
    (k : ∀ h', Fly B out e oe.cls oe.dict a0 .none h' → s.heap.UpToSlots h' → Q () { s with heap := h' }) : wpAny M A (leaving env (.ref e)) Q E s := by
  unfold leaving
  exact wpAny_bind (note_first fr ff ef ge kb nb dt z1 z0 fun h1 f1 u1 => flight_none f1 fun h2 f2 u2 => k h2 f2.pop (u1.trans u2))
end
end L2

set_option Elab.async false
set_option linter.all false
set_option maxRecDepth 100000
set_option maxHeartbeats 4000000
namespace L2
open PySem PySem.Spec PyProof.Rows
/-! ### an exception leaves a def -/
/-- what B (the heap at the throw, without the frames and the exception) keeps of h -/
structure Bas (l : List Env) (H H' : Hp) (h B : Heap) : Prop where
  keep : ∀ b o, h.get? b = some o → H b = none → b ∉ frs l → B.get? b = some o
  free : ∀ b o, h.get? b = some o → H b = none → H' b = none
  there : ∀ b o, h.get? b = some o → b ∉ frs l → ∃ o', B.get? b = some o'
  tups : ∀ b xs, H b = some (.tup xs) → H' b = some (.tup xs)
  frzs : ∀ b o u, H b = some (.frz o u) → H' b = some (.frz o u)
  tbls : ∀ b ps, H b = some (.tbl ps) → ∃ more, H' b = some (.tbl (ps ++ more))
/-- of the frames only the slots changed -/
def Slo (l : List Env) (h h' : Heap) : Prop := ∀ b o, b ∈ frs l → h.get? b = some o → ∃ sl, h'.get? b = some { o with slots := sl }
structure Thr (P : Program) (w : World) (l : List Env) (H : Hp) (s : Shared) (ea C : Addr) (dx : Option Addr) (fl : Value) (B : Heap) (H' : Hp) (s' : Shared) : Prop where
  os : s'.os = s.os
  bare : AllBare s'.gens
  fly : ∃ a0, Fly B l ea (.ref C) dx a0 fl s'.heap
  hok : HOk P w H' B
  bas : Bas l H H' s.heap B
  slo : Slo l s.heap s'.heap
def CXv (P : Program) (w : World) : CXT := fun l H s E e s' => ∃ ea C dx B H', e = .ref ea ∧ Thr P w l H s ea C dx .none B H' s' ∧ E (.ref C) dx H'
section
variable {P : Program} {w : World} {l : List Env} {H H' : Hp} {s s' : Shared} {ea C : Addr} {dx : Option Addr} {fl : Value} {B : Heap}
theorem Thr.stay (t : Thr P w l H s ea C dx fl B H' s') : B.StaysIn s'.heap := let ⟨_, f⟩ := t.fly; f.stay
theorem Thr.held (t : Thr P w l H s ea C dx fl B H' s') : HOk P w H' s'.heap := t.hok.kept t.stay
theorem Thr.un (t : Thr P w l H s ea C dx fl B H' s') : Un (frs l) [] H H' s.heap s'.heap where
  keep := fun b o e n hb _ => t.stay b o (t.bas.keep b o e n hb)
  slot := fun b o e _ hb _ => t.slo b o hb e
  free := fun b o e n _ => t.bas.free b o e n
  there := fun b o e _ => by
    by_cases hb : b ∈ frs l
    · obtain ⟨sl, q⟩ := t.slo b o hb e; exact ⟨_, q⟩
    · obtain ⟨o', q⟩ := t.bas.there b o e hb; exact ⟨o', t.stay b o' q⟩
  tups := t.bas.tups
  frzs := t.bas.frzs
  tbls := t.bas.tbls
/-- none leaves -/
theorem passv0 {X : Cx} : Passes (CXv P w) X E0 := fun _ _ _ _ _ _ _ ⟨_, _, _, _, _, _, _, h⟩ => h.elim
end
section
variable {X : Cx} {pins : List (Addr × Obj)} {σ : St} {H H' : Hp} {s s' : Shared} {ea C : Addr} {dx : Option Addr} {fl : Value} {B : Heap}
theorem Inv.low (I : Inv X pins σ H s) {b : Addr} {o : Obj} (e : X.s₀.heap.get? b = some o) (hb : b ∉ frs X.outer) : b ∉ frs X.stack := fun z => by
  rcases List.mem_cons.mp (I.stkSub b z) with r | r
  · exact absurd (Heap.lt_size e) (by rw [r]; exact Nat.not_lt.mpr I.ok.above)
  · exact hb r
/-- from a body to its caller -/
theorem Bas.out (I : Inv X pins σ H s) (hex : X.ex = []) (t : Bas X.stack H H' s.heap B) : Bas X.outer X.H₀ H' X.s₀.heap B where
  keep := fun b o e n hb => t.keep b o (I.base.keep b o e n hb (by rw [hex]; simp)) (I.base.free b o e n (by rw [hex]; simp)) (I.low e hb)
  free := fun b o e n => by
    obtain ⟨o', q⟩ := I.base.there b o e (by rw [hex]; simp)
    exact t.free b o' q (I.base.free b o e n (by rw [hex]; simp))
  there := fun b o e hb => by
    obtain ⟨o', q⟩ := I.base.there b o e (by rw [hex]; simp)
    exact t.there b o' q (I.low e hb)
  tups := fun b xs q => t.tups b xs (I.base.tups b xs q)
  frzs := fun b o u q => t.frzs b o u (I.base.frzs b o u q)
  tbls := fun b ps q => by
    obtain ⟨m1, e1⟩ := I.base.tbls b ps q
    obtain ⟨m2, e2⟩ := t.tbls b _ e1
    exact ⟨m1 ++ m2, by rw [e2, Array.append_assoc]⟩
theorem Inv.inner (I : Inv X pins σ H s) {b : Addr} (hb : b ∈ frs X.outer) : b ∈ frs X.stack := by
  rcases I.ok.stk with e | ⟨e, hf⟩
  · rw [e]; exact hb
  · rw [e]
    unfold frs
    rw [List.filterMap_cons, hf]
    exact List.mem_cons_of_mem _ hb
theorem Slo.out {h' : Heap} (I : Inv X pins σ H s) (hex : X.ex = []) (t : Slo X.stack s.heap s'.heap) (u : s'.heap.UpToSlots h') : Slo X.outer X.s₀.heap h' := fun b o hb e => by
  obtain ⟨_, o1, ho1, nf⟩ := I.ok.funs.mem hb
  rw [e] at ho1
  cases ho1
  obtain ⟨sl, e1⟩ := I.base.slot b o e (I.ok.frf b hb) hb (by rw [hex]; simp)
  obtain ⟨sl2, e2⟩ := t b _ (I.inner hb) e1
  obtain ⟨sl3, e3⟩ := u b _ e2 nf
  exact ⟨sl3, e3⟩
end
section
variable {P : Program} {w : World} {K : PySem.W.Frag} {mg : Str → Option Value} {base : Heap} {N : List Str} {qual : Str} {scope : Scope} {f : Addr} {cd : Value} {A : Around} {outer : List Env} {s : Shared} {H : Hp} {E : XK}
end
/-! ### an exception's object -/
abbrev XObj (C t : Addr) (dx : Option Addr) : Obj := { cls := .ref C, dict := dx, data := .fields #[.ref t, .none, .none, .none, .bool false, .none] }
def xo (ea C t : Addr) (dx : Option Addr) : HO := .ext fun h => h.get? ea = some (XObj C t dx)
theorem xo_ok {P : Program} {w : World} {H : Hp} {h : Heap} {ea C t : Addr} {dx : Option Addr} (e : h.get? ea = some (XObj C t dx)) : ObjOk P w H h ea (xo ea C t dx) :=
  ⟨e, ⟨_, e⟩, fun _ _ q k => k _ q⟩
theorem xo_get {P : Program} {w : World} {H : Hp} {h : Heap} {ea C t : Addr} {dx : Option Addr} (x : HOk P w H h) (e : H ea = some (xo ea C t dx)) : h.get? ea = some (XObj C t dx) :=
  (show ObjOk P w H h ea (xo ea C t dx) from x _ _ e).1
def del (H : Hp) (a : Addr) : Hp := fun b => if b = a then none else H b
theorem del_ne {H : Hp} {a b : Addr} (h : b ≠ a) : del H a b = H b := by unfold del; rw [if_neg h]
theorem del_self {H : Hp} {a : Addr} : del H a a = none := by unfold del; rw [if_pos rfl]
/-- where a fresh exception goes -/
def RaiseTo (X : Cx) (E : XK) : Prop := ∀ (pins : List (Addr × Obj)) (σ : St) (H : Hp) (s : Shared) (ea C t : Addr) (dx : Option Addr), Inv X pins σ H s → H ea = some (xo ea C t dx) → X.s₀.heap.objs.size ≤ ea → E (.ref C) dx (del H ea) → X.xe (.ref ea) s
section
variable {X : Cx} {pins : List (Addr × Obj)} {σ : St} {H : Hp} {s : Shared} {ea C t : Addr} {dx : Option Addr}
/-- the heap at the throw -/
def atThrow (X : Cx) (s : Shared) (ea : Addr) : Heap := PySem.W.hideAll s.heap (ea :: frs X.stack)
theorem at_hok (I : Inv X pins σ H s) (he : H ea = some (xo ea C t dx)) : HOk X.prog X.w (del H ea) (atThrow X s ea) := fun b u q => by
  have nb : b ≠ ea := fun z => by rw [z, del_self] at q; cases q
  rw [del_ne nb] at q
  have nown : ∀ c y, H c = some (.own y) → c ≠ ea := fun c y r z => by rw [z, he] at r; cases r
  have ntup : ∀ c xs, H c = some (.tup xs) → c ≠ ea := fun c xs r z => by rw [z, he] at r; cases r
  have nfr : ∀ c u, H c = some u → c ∉ frs X.stack := fun c u r z => by rw [I.stkFree c z] at r; cases r
  refine (I.hok b u q).stay (fun c v hc r => PySem.W.hideAll_get _ r fun m => ?_) (fun c r => by rw [del_ne (nown c b r)]; exact r) fun c xs r => by rw [del_ne (ntup c xs r)]; exact r
  rcases List.mem_cons.mp m with z | z
  · rcases hc with r' | r'
    · exact nb (r'.symm.trans z)
    · exact nown c b r' z
  · rcases hc with r' | r'
    · rw [r'] at z; exact nfr b u q z
    · exact nfr c _ r' z
theorem at_bas (I : Inv X pins σ H s) (hex : X.ex = []) (he : H ea = some (xo ea C t dx)) (hn : X.s₀.heap.objs.size ≤ ea) : Bas X.outer X.H₀ (del H ea) X.s₀.heap (atThrow X s ea) where
  keep := fun b o e n hb => PySem.W.hideAll_get _ (I.base.keep b o e n hb (by rw [hex]; simp)) fun m => by
    rcases List.mem_cons.mp m with z | z
    · exact absurd (Heap.lt_size e) (by rw [z]; exact Nat.not_lt.mpr hn)
    · exact I.low e hb z
  free := fun b o e n => by
    rw [del_ne fun z => absurd (Heap.lt_size e) (by rw [z]; exact Nat.not_lt.mpr hn)]
    exact I.base.free b o e n (by rw [hex]; simp)
  there := fun b o e hb => by
    obtain ⟨o', q⟩ := I.base.there b o e (by rw [hex]; simp)
    refine ⟨o', PySem.W.hideAll_get _ q fun m => ?_⟩
    rcases List.mem_cons.mp m with z | z
    · exact absurd (Heap.lt_size e) (by rw [z]; exact Nat.not_lt.mpr hn)
    · exact I.low e hb z
  tups := fun b xs q => by
    have r := I.base.tups b xs q
    rw [del_ne fun z => by rw [z, he] at r; cases r]
    exact r
  frzs := fun b o u q => by
    have r := I.base.frzs b o u q
    rw [del_ne fun z => by rw [z, he] at r; cases r]
    exact r
  tbls := fun b ps q => by
    obtain ⟨m, r⟩ := I.base.tbls b ps q
    exact ⟨m, by rw [del_ne fun z => by rw [z, he] at r; cases r]; exact r⟩
theorem at_funs (I : Inv X pins σ H s) : s.heap.FunFrames (atThrow X s ea) X.stack := by
  refine PySem.W.funFrames_hide I.stack fun env hm a e => List.mem_cons_of_mem _ ?_
  exact List.mem_filterMap.mpr ⟨env, hm, e⟩
end
section
variable {P : Program} {w : World} {K : PySem.W.Frag} {mg : Str → Option Value} {base : Heap} {N : List Str} {qual : Str} {scope : Scope} {f : Addr} {cd : Value} {A : Around} {outer : List Env} {s : Shared} {H : Hp} {E : XK}
theorem raiseX : RaiseTo (cxOf (CXv P w) P w K mg base N qual scope f cd A outer s H E) E := by
  intro pins σ H1 s1 ea C t dx I he hn q
  have ge := xo_get I.hok he
  show wpAny _ _ (leaving _ _) _ _ _
  refine leave_first (B := atThrow _ s1 ea) I.ok.frames (at_funs I) rfl ge (fun b o z => PySem.W.of_hideAll _ z) (PySem.W.hideAll_none _ List.mem_cons_self) rfl rfl rfl fun h2 f2 u2 => ?_
  exact ⟨ea, C, dx, _, _, rfl, ⟨I.os, I.bare, ⟨_, f2⟩, at_hok I he, at_bas I rfl he hn, Slo.out I rfl (fun b o _ e => ⟨o.slots, e⟩) u2⟩, q⟩
end
section
variable {P : Program} {w : World} {K : PySem.W.Frag} {mg : Str → Option Value} {base : Heap}
/-- the rule for a def that may raise -/
theorem Fun.okX {x qual : Str} {st : Stmt} {f : Addr} {fd : FuncData} {N ps : List Str} {k : Nat} {sp : Sp} (F : Fun K x qual st f fd) (S : FnScope N ps (defScope st)) (len : ∀ vs H Q E, sp vs H Q E → vs.length = ps.length)
    (hbody : ∀ (cdv : Value) (A : Around) (outer : List Env) (s : Shared) (H : Hp) (vs : List V) (Q : VK) (E : XK), Room k (A.deeper (envOfC qual (defScope st) s.heap.objs.size f cdv)) → sp vs H Q E →
      ∃ t, PSs (cxOf (CXv P w) P w K mg base N qual (defScope st) f cdv A outer s H E) (defBody st) t ∧ t { nx := fun _ H' => Q .non H', rt := Q } (start N vs) H) : FnOk P w K mg base (CXv P w) (k + 1) f fd ps sp := by
  obtain ⟨oc, od, kV, doc, pm, an, cdv, ct, osl, rfl, lk, hcd⟩ := F.ex
  exact fn_of lk hcd S len fun A outer s H vs Q E hr hsp => hbody cdv A outer s H vs Q E hr hsp
end
end L2

set_option Elab.async false
set_option linter.all false
set_option maxRecDepth 100000
set_option maxHeartbeats 4000000
namespace L2
open PySem PySem.Spec PyProof.Rows Builtin Builtin.ObjectAttr
/-! ### an own exception's class, by the text -/
def valTail : List Value := [.type "ValueError", .type "Exception", .type "BaseException", .type "object"]
def xOver : List Value → Bool
  | .ref _ :: r => xOver r
  | l => l == valTail
theorem xOver_shape : ∀ {l : List Value}, xOver l = true → ∃ rs : List Addr, l = rs.map Value.ref ++ valTail
  | [], h => by cases h
  | v :: r, h => by
    cases v with
    | ref a =>
      obtain ⟨rs, e⟩ := xOver_shape (l := r) h
      exact ⟨a :: rs, by rw [e]; rfl⟩
    | _ => exact ⟨[], beq_iff_eq.mp h⟩
theorem tail_has {X : String} {b : Bool} (e : valTail.contains (.type X) = b) : ∀ rs : List Addr, (rs.map Value.ref ++ valTail).contains (.type X) = b
  | [] => e
  | a :: r => by
    rw [List.map_cons, List.cons_append, List.contains_cons, tail_has e r]
    rfl
theorem xOver_has {l : List Value} (h : xOver l = true) {X : String} {b : Bool} (e : valTail.contains (.type X) = b) : l.contains (.type X) = b := by
  obtain ⟨rs, rfl⟩ := xOver_shape h
  exact tail_has e rs
theorem xOver_pass (self : Value) {l : List Value} (h : xOver l = true) : refuseLoop self "__setattr__" l = pure () := by
  obtain ⟨rs, rfl⟩ := xOver_shape h
  clear h
  induction rs with
  | nil => exact PySem.F.store_ValueError.passes self
  | cons a r ih => rw [List.map_cons, List.cons_append, refuseLoop_ref]; exact ih
def xIn (K : PySem.W.Frag) (C : Addr) : Bool := match K.lookup C with
  | some ⟨.type "type", _, .cls cd, sl⟩ => (match cd.mro, sl.toList with
    | .ref C' :: bm, [_, _, _, _, some (.builtin n), _] => C' == C && (!cd.hasDel && (cd.hasDict && (xOver bm && n == "ValueError.__new__")))
    | _, _ => false)
  | _ => false
theorem xIn_cls {K : PySem.W.Frag} {C : Addr} (q : xIn K C = true) : ∃ nm qn N bs bm sn sub ab col dd k0 k1 k2 k3 k5,
    K.lookup C = some (excClassObj nm qn C N bs bm true sn sub ab col dd k0 k1 k2 k3 k5 "ValueError.__new__") ∧ xOver bm = true := by
  unfold xIn at q
  split at q
  · rename_i dd cd sl ho
    split at q
    · rename_i C' bm k0 k1 k2 k3 n k5 hm hs
      simp only [Bool.and_eq_true, beq_iff_eq, Bool.not_eq_true'] at q
      obtain ⟨rfl, q1, q2, q3, rfl⟩ := q
      obtain ⟨nm, bs, mro, ns, qn, hd, sn, sub, ab, col, de⟩ := cd
      dsimp only at hm q1 q2
      subst hm q1 q2
      obtain ⟨sl⟩ := sl
      dsimp only at hs
      subst hs
      exact ⟨nm, qn, ns, bs, bm, sn, sub, ab, col, dd, k0, k1, k2, k3, k5, ho, q3⟩
    · cases q
  · cases q
structure XCls (K : PySem.W.Frag) (C : Addr) : Prop where
  x : xIn K C = true
  kp : PySem.W.keepIn K (.ref C) = true
  sa : PySem.W.findIn K (.ref C) "__setattr__" = some (some (.builtin "object.__setattr__"))
  ga : PySem.W.findIn K (.ref C) "__getattribute__" = some (some (.builtin "BaseException.__getattribute__"))
  gn : PySem.W.findIn K (.ref C) "__getattr__" = some none
  hd : PySem.W.hasDictIn K C = true
section
variable {M : Model} {A : Around} {E : Value → Shared → Prop} {h : Heap} {g : Array GenState} {d : Drawn} {t : Nat} {os : OsState}
variable {nm qn : Str} {C N : Addr} {bs bm : List Value} {hdct : Bool} {sn : List Str} {sub : List Value} {ab : Bool} {col : Option Bool} {dd : Option Addr} {k0 k1 k2 k3 k5 : Option Value}
theorem x_check {us : List Value} {Q : Unit → Shared → Prop} (hC : h.get? C = some (excClassObj nm qn C N bs bm hdct sn sub ab col dd k0 k1 k2 k3 k5 "ValueError.__new__")) (ho : xOver bm = true)
    (q : Q () ⟨h, g, d, t, os⟩) : wpAny M A (checkBuiltinCall "ValueError.__new__" ⟨.ref C :: us, []⟩) Q E ⟨h, g, d, t, os⟩ := by
  have F := PySem.F.excBase_ValueError
  have c1 : (Value.ref C :: bm).contains (.type "ValueError") = true := by rw [List.contains_cons, xOver_has ho (b := true) (by decide), Bool.or_true]
  have st := F.noStar
  simp only [checkBuiltinCall, F.newKind, F.newSplit, F.newRow]
  repeat (first | (refine wpAny_loadPart_at hC ?_) | (refine wpAny_isSubtype_exc hC ?_; rw [c1]) | (refine wpAny_staticBase_exc hC ?_) | (refine wpAny_madeBy_exc hC ?_) | (simp only [bne_self_eq_false, Bool.false_eq_true, if_false]) | wp_step)
  exact q
end
section
variable {prog : Program} {w : World} {A : Around} {R : Result → Shared → Prop} {h : Heap} {g : Array GenState} {d : Drawn} {t : Nat} {os : OsState}
variable {nm qn : Str} {C N : Addr} {bs bm : List Value} {hdct : Bool} {sn : List Str} {sub : List Value} {ab : Bool} {col : Option Bool} {dd : Option Addr} {k0 k1 k2 k3 k5 : Option Value}
abbrev xTup (us : List Value) : Obj := { cls := .type "tuple", data := .seq us.toArray }
theorem x_new {us : List Value} (hC : h.get? C = some (excClassObj nm qn C N bs bm hdct sn sub ab col dd k0 k1 k2 k3 k5 "ValueError.__new__")) (ho : xOver bm = true)
    (q : R (.ok (.ret (.ref (h.objs.size + 1)))) ⟨(h.push (xTup us)).push (XObj C h.objs.size none), g, d, t, os⟩) (hl : us.length ≤ sizeLine) :
    codeAny (model prog w) A (.builtin "ValueError.__new__" ⟨.ref C :: us, []⟩) R ⟨h, g, d, t, os⟩ := by
  have F := PySem.F.excBase_ValueError
  have en := F.ends
  have c1 : (Value.ref C :: bm).contains (.type "ValueError") = true := by rw [List.contains_cons, xOver_has ho (b := true) (by decide), Bool.or_true]
  have c2 : (Value.ref C :: bm).contains (.type "AttributeError") = false := by rw [List.contains_cons, xOver_has ho (b := false) (by decide)]; rfl
  have c3 : (Value.ref C :: bm).contains (.type "NameError") = false := by rw [List.contains_cons, xOver_has ho (b := false) (by decide)]; rfl
  refine codeAny_builtinAt F.entry ?_
  unfold Builtin.«BaseException.__new__»
  refine PySem.wpAt_bind ?_
  show PySem.wpAt _ _ _ (stack >>= _) _ _ _
  refine PySem.wpAt_bind (PySem.wpAt_stack fun _ _ => PySem.wpAt_of_wpAny ?_)
  wp_walk
  refine PySem.wpAt_of_wpAny ?_
  rw [F.owner]
  repeat (first | (with_reducible refine wpAny_madeHere_exc F.canon hC ?_) | (with_reducible refine wpAny_loadPart_at hC ?_) | (with_reducible refine wpAny_isSubtype_exc hC ?_; first | rw [c1] | rw [c2] | rw [c3]) | wp_step)
  show R _ _
  rw [Heap.size_push]
  exact q
theorem x_tcall {K : PySem.W.Frag} {f : Addr} {hh : Heap} {us : List Value} {Q : Fin → Shared → Prop} {E : Value → Shared → Prop} (X : K.In hh) (c : XCls K C) (hi : PySem.W.findIn K (.ref C) "__init__" = some (some (.ref f))) (hf : PySem.W.isFn K (.ref f) = true) (hl : us.length ≤ sizeLine)
    (hq : wpAny (model prog w) A (call (.ref f) (.ref (hh.objs.size + 1) :: us)) (fun r s' => r = .none ∧ Q (.done (.ret (.ref (hh.objs.size + 1)))) s') E ⟨(hh.push (xTup us)).push (XObj C hh.objs.size none), g, d, t, os⟩) :
    wpAny (model prog w) A (Builtin.«type.__call__» ⟨.ref C :: us, []⟩) Q E ⟨hh, g, d, t, os⟩ := by
  obtain ⟨nm, qn, N, bs, bm, sn, sub, ab, col, dd, k0, k1, k2, k3, k5, hK, ho⟩ := xIn_cls c.x
  have hC := X _ _ hK
  have F := PySem.F.excBase_ValueError
  have k : ∀ b o, hh.get? b = some o → ((hh.push (xTup us)).push (XObj C hh.objs.size none)).get? b = some o := fun b o e => Heap.get?_push_of_some _ (Heap.get?_push_of_some _ e)
  repeat (first | (with_reducible refine wpAny_loadPart_at hC ?_) | (with_reducible refine wpAny_madeBy_exc hC ?_) | wp_step)
  refine codeAny_call_builtin_code (Code.quiet_builtin _ F.quiet) (x_check hC ho ?_)
  refine x_new hC ho ?_ hl
  show wpAny _ _ _ _ _ _
  have hC1 := k _ _ hC
  have hx : ((hh.push (xTup us)).push (XObj C hh.objs.size none)).get? (hh.objs.size + 1) = some ({ cls := .ref C, dict := none, data := .fields #[.ref hh.objs.size, .none, .none, .none, .bool false, .none] } : Obj) := by heap_get
  have c4 : (Value.ref C :: bm).contains (.ref C) = true := by simp
  unfold isInstance
  repeat (first | (with_reducible refine wpAny_loadPart_at hx ?_) | (with_reducible refine wpAny_isSubtype_exc hC1 ?_; rw [c4]) | wp_step)
  show wpAny _ _ (typeLookup (.ref C) _) _ _ _
  refine ((PySem.W.looks_findIn X hi).keeps k).at ?_
  refine wpAny_holding (wpAny_bind (((PySem.W.bind_fn X (.ref (hh.objs.size + 1)) (beq_iff_eq.mp hf)).keeps k).at ?_))
  refine wpAny_bind (wpAny_mono hq (fun r s' z => ?_) fun _ _ z => z)
  obtain ⟨rfl, z⟩ := z
  wp_walk
  exact z
/-- C(..): the object, then its __init__ -/
theorem x_call {K : PySem.W.Frag} {f : Addr} {s : Shared} {us : List Value} {Q : Value → Shared → Prop} {E : Value → Shared → Prop} (X : K.In s.heap) (c : XCls K C) (hi : PySem.W.findIn K (.ref C) "__init__" = some (some (.ref f))) (hf : PySem.W.isFn K (.ref f) = true) (hl : us.length ≤ sizeLine)
    (hq : wpAny (model prog w) (A.under (.builtin "type.__call__" ⟨.ref C :: us, []⟩)) (call (.ref f) (.ref (s.heap.objs.size + 1) :: us)) (fun r s' => r = .none ∧ Q (.ref (s.heap.objs.size + 1)) s') E
      { s with heap := (s.heap.push (xTup us)).push (XObj C s.heap.objs.size none) }) : wpAny (model prog w) A (call (.ref C) us) Q E s := by
  obtain ⟨hh, g, d, t, os⟩ := s
  obtain ⟨nm, qn, N, bs, bm, sn, sub, ab, col, dd, k0, k1, k2, k3, k5, hK, ho⟩ := xIn_cls c.x
  have hC := X _ _ hK
  dsimp only at hC
  have f1 := tc_lookup
  have f2 := tc_bind (.ref C)
  have hT : (⟨hh, g, d, t, os⟩ : Shared).TypeIs (.ref C) "type" := ⟨_, hC, rfl⟩
  refine wpAny_call (codeAny_of_tree ?_)
  show wpAny _ _ (callAny (.ref C) _) _ _ _
  repeat (any_goals (first | assumption | (with_reducible refine wpAny_loadPart_at hC ?_) | wp_step))
  refine ⟨rfl, ?_⟩
  exact codeAny_call_builtin_at (Code.quiet_builtin _ (by decide +kernel)) entry_typeCall (wpAny_check_type_call_sub hC (x_tcall X c hi hf hl hq))
end
section
variable {prog : Program} {w : World} {A : Around} {E : Value → Shared → Prop} {s : Shared} {K : PySem.W.Frag} {x C : Addr} {name : Str} {v : Value}
theorem get_x {ox : Obj} {od : Option Obj} {expr : Bool} {Q : Value → Shared → Prop} (X : K.In s.heap) (I : PySem.W.InstAt s.heap x ox C od) (c : xIn K C = true) (hga : PySem.W.findIn K (.ref C) "__getattribute__" = some (some (.builtin "BaseException.__getattribute__"))) (hgn : PySem.W.findIn K (.ref C) "__getattr__" = some none)
    (hf : PySem.W.findObj K C od name = some (.value v)) (hh : PySem.W.handedIn v = true) (h : Q v { s with toks := s.toks + 1 }) : wpAny (model prog w) A (getAttr (.ref x) name expr) Q E s := by
  obtain ⟨h0, g, d, t, os⟩ := s
  obtain ⟨nm, qn, N, bs, bm, sn, sub, ab, col, dd, k0, k1, k2, k3, k5, hK, ho⟩ := xIn_cls c
  have L0 := I.type (M := model prog w)
  have L1 := PySem.W.looks_findIn (M := model prog w) X hga
  have L2 := PySem.W.looks_findIn (M := model prog w) X hgn
  have L3 := PySem.W.looks_find (M := model prog w) X I hf
  unfold getAttr getAttrBy
  refine wpAny_bind (wpAny_mkText (wpAny_holding (wpAny_bind (L0.at (wpAny_bind (L1.at ?_))))))
  show wpAny _ _ (getAttrByItsOwn _ _ _ _ _ _) _ _ _
  unfold getAttrByItsOwn
  have G := PySem.F.excAttr_ValueError.ga
  have e1 : callGetattribute (.ref x) (.str name t) (.builtin "BaseException.__getattribute__") expr = boundAndCalled (.builtin "BaseException.__getattribute__") (.ref x) (.str name t) := by
    unfold callGetattribute
    cases expr <;> rfl
  have LB : PySem.W.Looks (model prog w) h0 (isInstance (.ref x) (.type "BaseException")) true := L0.andThen (PySem.W.looks_mroIn X (by
    obtain ⟨cd, hc, hcm⟩ : ∃ cd, PySem.W.clsIn K C = some cd ∧ cd.mro = .ref C :: bm := ⟨_, by unfold PySem.W.clsIn; rw [hK], rfl⟩
    unfold PySem.W.mroIn
    rw [hc, Option.bind_some, hcm, if_neg (by simp), List.contains_cons, xOver_has ho (b := true) (by decide), Bool.or_true]))
  refine wpAny_bind (show wpAny _ _ (typeLookup (.ref C) "__getattr__") _ _ _ from L2.at ?_)
  refine wpAny_bind (wpAny_attempt (wpAny_holding ?_))
  rw [e1]
  unfold boundAndCalled
  rw [G.bind]
  refine wpAny_bind (wpAny_pure (wpAny_call (codeAny_call_builtin G.plain PySem.F.entry_bexc_ga (@PySem.W.check_slot (model prog w) _ _ ⟨h0, g, d, t + 1, os⟩ "BaseException.__getattribute__" "BaseException" "__getattribute__" (.ref x) [.str name t] [] _ (by decide +kernel) (by decide +kernel) LB (PySem.F.args_bexc_ga _ _) ?_))))
  refine wpAny_bind (wpAny_pure (wpAny_bind (wpAny_pure (wpAny_bind (L0.at (wpAny_bind (L3.at ?_)))))))
  refine wpAny_pure ?_
  show wpAny _ _ (handedOut v) _ _ _
  rw [PySem.W.handedOut_of hh]
  exact wpAny_pure h
end
end L2

set_option Elab.async false
set_option linter.all false
set_option maxRecDepth 100000
set_option maxHeartbeats 4000000
namespace L2
open PySem PySem.Spec PyProof.Rows Builtin Builtin.ObjectAttr
/-! ### an exception's own dict -/
def xdo (d : Addr) (fs : List (Str × V)) : HO := .ext fun h => ∃ mA, h.Ns1 d mA ∧ ∀ f, RelO (fs.lookup f) (mA f)
theorem xdo_ok {P : Program} {w : World} {H : Hp} {h : Heap} {d : Addr} {fs : List (Str × V)} {mA : Str → Option Value} (e : h.Ns1 d mA) (r : ∀ f, RelO (fs.lookup f) (mA f)) : ObjOk P w H h d (xdo d fs) := by
  refine ⟨⟨mA, e, r⟩, ?_, fun h1 h2 ⟨m, e1, r1⟩ k => ⟨m, ?_, r1⟩⟩
  · obtain ⟨o, _, _, e1, _⟩ := e
    exact ⟨o, e1⟩
  · exact e1.at k
theorem xdo_get {P : Program} {w : World} {H : Hp} {h : Heap} {d : Addr} {fs : List (Str × V)} (x : HOk P w H h) (e : H d = some (xdo d fs)) : ∃ mA, h.Ns1 d mA ∧ ∀ f, RelO (fs.lookup f) (mA f) :=
  (show ObjOk P w H h d (xdo d fs) from x _ _ e).1
theorem within_of {fs : List (Str × V)} {mA : Str → Option Value} (r : ∀ f, RelO (fs.lookup f) (mA f)) : PySem.Within mA (fs.map (·.1)) := fun y hy => by
  cases e : fs.lookup y with
  | none =>
    have := r y
    rw [e] at this
    exact absurd (RelO.none_of this) hy
  | some v => exact List.mem_map.mpr ⟨(y, v), PySem.mem_of_lookup e, rfl⟩
section
variable {prog : Program} {w : World} {A : Around} {E : Value → Shared → Prop} {s : Shared} {K : PySem.W.Frag} {x C t dx : Addr} {name : Str} {v : Value}
theorem osa_x {ox : Obj} {od : Option Obj} {tk : Tok} {R : Result → Shared → Prop} (X : K.In s.heap) (I : PySem.W.InstAt s.heap x ox C od) (c : XCls K C) (ht : PySem.W.takerIn K C name = some none)
    (h : ∀ b, wpAny (model prog w) A.in1 (storeInOwnDict (.ref x) (.ref C) (.str name tk) name v b)
      (fun fin s' => match fin with | .done f => R (.ok f) s' | .again c' => c'.quiet = true ∧ codeAny (model prog w) A c' R s') (fun e s' => R (.error e) s') s) :
    codeAny (model prog w) A (.call (.builtin "object.__setattr__") ⟨[.ref x, .str name tk, v], []⟩) R s := by
  have SF := PySem.F.store_object
  obtain ⟨nm, qn, N, bs, bm, sn, sub, ab, col, dd, k0, k1, k2, k3, k5, hK, ho⟩ := xIn_cls c.x
  obtain ⟨cd, hc, hcm⟩ : ∃ cd, PySem.W.clsIn K C = some cd ∧ cd.mro = .ref C :: bm := ⟨_, by unfold PySem.W.clsIn; rw [hK], rfl⟩
  have hsub : PySem.W.Looks (model prog w) s.heap (isInstance (.ref x) (.type "object")) true := I.type.andThen (PySem.W.looks_mroIn X (by
    unfold PySem.W.mroIn
    rw [hc, Option.bind_some, hcm, if_neg (by simp)]
    rw [List.contains_cons, xOver_has ho (b := true) (by decide), Bool.or_true]))
  refine codeAny_call_builtin SF.slot.plain SF.entry (@PySem.W.check_slot (model prog w) _ _ s "object.__setattr__" "object" "__setattr__" (.ref x) [.str name tk, v] [] _ SF.kind SF.split hsub (SF.args (.ref x) (.str name tk) v) ?_)
  obtain ⟨attr, ha, hr⟩ := Option.bind_eq_some_iff.mp ht
  have hm : PySem.W.Looks (model prog w) s.heap (mroOf (.ref C)) (.ref C :: bm) := hcm ▸ (PySem.W.looks_clsIn X hc).andThen .now
  have L3 : PySem.W.Looks (model prog w) s.heap (storeTaker? attr) none := by
    cases attr with
    | none => cases hr; exact .now
    | some a =>
      obtain ⟨b, hb, e⟩ := Option.map_eq_some_iff.mp hr
      cases b with
      | true => cases e
      | false => exact (PySem.W.looks_takesIn X hb).andThen .now
  rw [PySem.W.osa_eq, refuse_eq]
  refine wpAny_bind (wpAny_bind (I.type.here (wpAny_bind (hm.here ?_))))
  rw [refuseLoop_ref, xOver_pass _ ho]
  refine wpAny_pure (wpAny_bind (I.type.here (wpAny_bind ((PySem.W.looks_findIn X ha).here (wpAny_bind (L3.here ?_))))))
  exact h _
theorem set_x0 {Q : Unit → Shared → Prop} (X : K.In s.heap) (hx : s.heap.get? x = some (XObj C t none)) (c : XCls K C) (ht : PySem.W.takerIn K C name = some none)
    (h : ∀ h' tk, h'.Ns1 s.heap.objs.size (fun y => if y = name then some v else none) → h'.get? x = some (XObj C t (some s.heap.objs.size)) → (∀ b o, b ≠ x → s.heap.get? b = some o → h'.get? b = some o) → Q () { s with heap := h', toks := tk }) :
    wpAny (model prog w) A (setAttr (.ref x) name v) Q E s := by
  have J : PySem.W.InstAt s.heap x (XObj C t none) C none := ⟨hx, rfl, rfl, trivial⟩
  refine PySem.W.set_plain X J c.sa (osa_x (s := { s with toks := s.toks + 1 }) X J c ht fun b => ?_)
  obtain ⟨cd, hc, hd⟩ := PySem.W.any_some c.hd
  obtain ⟨hh, g, dr, tk, os⟩ := s
  dsimp only at hx X h ⊢
  refine wpAny_bind (wpAny_pure (wpAny_bind (wpAny_bind (wpAny_loadPart hx (wpAny_bind (PySem.W.Looks.here (s := ⟨hh, g, dr, tk + 1, os⟩) (PySem.W.looks_clsIn X hc) ?_))))))
  rw [hd]
  have hx1 : (hh.push PySem.W.emptyDict).get? x = some (XObj C t none) := Heap.get?_push_of_some _ hx
  have nx : x ≠ hh.objs.size := Nat.ne_of_lt (Heap.lt_size hx)
  refine wpAny_bind (wpAny_alloc' (wpAny_bind (wpAny_update' hx1 (wpAny_pure (wpAny_bind (wpAny_pure (wpAny_bind ?_)))))))
  have gd : ((hh.push PySem.W.emptyDict).update x fun o => { o with dict := some hh.objs.size }).get? hh.objs.size = some PySem.W.emptyDict :=
    (Heap.get?_update_ne _ _ _ _ (Ne.symm nx)).trans (Heap.get?_push_at rfl rfl)
  have nd : ((hh.push PySem.W.emptyDict).update x fun o => { o with dict := some hh.objs.size }).Ns hh.objs.size (fun _ => none) := ⟨_, #[], _, gd, rfl, fun e he => absurd he (by simp), fun _ => rfl⟩
  refine wpAny_nsSet1 (Heap.Ns1.of_empty nd) fun h' n' sb => ?_
  obtain ⟨oD, esD, epD, hoD, hdD, hcD⟩ := n'.count (Within.cons name v Within.nil)
  refine wpAny_bind (wpAny_lookBehind hoD (by rw [hdD]; exact pastItsLine_dict (Nat.le_trans hcD (by rw [List.length_cons, List.length_nil, sizeLine_eq]; omega))) ?_)
  refine wpAny_pure (h h' _ n' ?_ fun b o hb e => ?_)
  · refine (sb.2 x nx).trans ?_
    exact Heap.get?_update_self _ hx1 rfl
  · exact (sb.2 b (Nat.ne_of_lt (Heap.lt_size e))).trans ((Heap.get?_update_ne _ _ _ _ hb).trans (Heap.get?_push_of_some _ e))
theorem set_x1 {mA : Str → Option Value} {ns : List Str} {Q : Unit → Shared → Prop} (X : K.In s.heap) (hx : s.heap.get? x = some (XObj C t (some dx))) (hn : s.heap.Ns1 dx mA) (ne : dx ≠ x) (c : XCls K C) (ht : PySem.W.takerIn K C name = some none)
    (hw : PySem.Within mA ns) (hz : ns.length ≤ 1000) (h : ∀ h' tk, h'.Ns1 dx (fun y => if y = name then some v else mA y) → Heap.SameBut dx s.heap h' → Q () { s with heap := h', toks := tk }) :
    wpAny (model prog w) A (setAttr (.ref x) name v) Q E s := by
  obtain ⟨od, ho, _⟩ := lookIn_ns hn
  have J : PySem.W.InstAt s.heap x (XObj C t (some dx)) C (some od) := ⟨hx, rfl, rfl, ho⟩
  refine PySem.W.set_plain X J c.sa (osa_x (s := { s with toks := s.toks + 1 }) X J c ht fun b => ?_)
  obtain ⟨cd, hc, hd⟩ := PySem.W.any_some c.hd
  refine wpAny_bind (wpAny_pure (wpAny_bind (wpAny_bind (wpAny_loadPart hx (wpAny_bind (PySem.W.Looks.here (s := { s with toks := s.toks + 1 }) (PySem.W.looks_clsIn X hc) ?_))))))
  rw [hd]
  refine wpAny_pure (a := some dx) (wpAny_bind (wpAny_pure (wpAny_bind ?_)))
  refine wpAny_nsSet1 (s := { s with toks := s.toks + 1 }) hn fun h' n' sb => ?_
  obtain ⟨oD, esD, epD, hoD, hdD, hcD⟩ := n'.count (Within.cons name v hw)
  refine wpAny_bind (wpAny_lookBehind hoD (by rw [hdD]; exact pastItsLine_dict (Nat.le_trans hcD (by rw [List.length_cons, sizeLine_eq]; omega))) ?_)
  exact wpAny_pure (h h' _ n' sb)
end
/-- self.f = v in an exception's __init__ -/
def sXs (K : PySem.W.Frag) (ta tv : TE) (f : Str) : TS := fun D σ H => tv σ H fun y H1 => ta σ H1 fun x H2 => ∃ ea C t, x = .ref ea ∧ XCls K C ∧ NoAttr K C f ∧
  ((H2 ea = some (xo ea C t none) ∧ ∀ d, H2 d = none → d ≠ ea → D.nx σ (upd (upd H2 d (xdo d [(f, y)])) ea (xo ea C t (some d)))) ∨
   ∃ d fs, d ≠ ea ∧ H2 ea = some (xo ea C t (some d)) ∧ H2 d = some (xdo d fs) ∧ fs.length ≤ 100 ∧ D.nx σ (upd H2 d (xdo d (putF f y fs))))
section
variable {X : Cx} {o value : Expr} {f : Str} {pos pos' : Pos} {ta tv : TE}
theorem ps_setx (ha : PE X o ta) (hv : PE X value tv) (hs : swapsWith value (some (.Attribute o f pos')) pos.line X.env = pure false) : PS X (.Assign [.Attribute o f pos'] value pos) (sXs X.K ta tv f) := by
  intro pins s σ H D I h
  refine plainObj_wpAny_Assign_Attribute (thn (hv pins s σ H _ I h) fun u s1 ⟨y, H1, I1, ry, q⟩ => thn (ha pins s1 σ H1 _ I1 q) fun ov s2 ⟨x, H2, I2, rx, ea, C, t, ex, c, n, q2⟩ => ?_) hs
  subst ex
  obtain rfl : ov = Value.ref ea := rx
  rcases q2 with ⟨he, q3⟩ | ⟨d, fs, nd, he, hd, hl, q3⟩
  · have ge := xo_get I2.hok he
    refine set_x0 I2.kIn ge c n.taker fun h' tk n' gx k => ?_
    have hfr : H2 s2.heap.objs.size = none := I2.hok.fresh (Nat.le_refl _)
    have nde : s2.heap.objs.size ≠ ea := Nat.ne_of_gt (Heap.lt_size ge)
    refine ⟨σ, _, I2.un (t' := tk) (h' := h') ?_ ?_, q3 _ hfr nde⟩
    · have ne1 : ∀ b, H2 b = none → b ≠ ea := fun b e z => by rw [z, he] at e; cases e
      have kp : ∀ b o, s2.heap.get? b = some o → H2 b = none → h'.get? b = some o := fun b o e n => k b o (ne1 b n) e
      refine ⟨fun b o e n _ _ => kp b o e n, fun b o e n _ _ => ⟨o.slots, kp b o e n⟩, fun b o e n _ => ?_, fun b o e _ => ?_, fun b xs e => ?_, fun b o u e => ?_, fun b ps e => ⟨#[], ?_⟩⟩
      · rw [upd_ne (ne1 b n), upd_ne (Nat.ne_of_lt (Heap.lt_size e))]; exact n
      · by_cases hb : b = ea
        · rw [hb]; exact ⟨_, gx⟩
        · exact ⟨o, k b o hb e⟩
      · rw [upd_ne (ne_of e he (by unfold xo; intro z; cases z)), upd_ne (ne_of_none e hfr)]; exact e
      · rw [upd_ne (ne_of e he (by unfold xo; intro z; cases z)), upd_ne (ne_of_none e hfr)]; exact e
      · rw [upd_ne (ne_of e he (by unfold xo; intro z; cases z)), upd_ne (ne_of_none e hfr), e]; simp
    · intro b u e
      by_cases hb : b = ea
      · subst hb; rw [upd_same] at e; cases e; exact xo_ok gx
      · rw [upd_ne hb] at e
        by_cases hb2 : b = s2.heap.objs.size
        · subst hb2; rw [upd_same] at e; cases e
          refine xdo_ok n' fun g => ?_
          show RelO (List.lookup g [(f, y)]) (if g = f then some u else none)
          by_cases z : g = f
          · subst z; rw [if_pos rfl]; simp only [List.lookup, beq_self_eq_true]; exact ry
          · have zb : (g == f) = false := beq_eq_false_iff_ne.mpr z
            rw [if_neg z]; simp only [List.lookup, zb]; trivial
        · rw [upd_ne hb2] at e
          have nc : ∀ c z, H2 c = some z → (∀ φ, z ≠ .ext φ) → c ≠ ea ∧ c ≠ s2.heap.objs.size := fun c z r hz => ⟨fun w' => by rw [w', he] at r; exact hz _ (Option.some.inj r).symm, ne_of_none r hfr⟩
          refine (I2.hok b u e).stay (fun c v hc r => k c v ?_ r) (fun c r => ?_) fun c xs r => ?_
          · rcases hc with z | z
            · rw [z]; exact hb
            · exact (nc c _ z (fun φ w' => by cases w')).1
          · rw [upd_ne (nc c _ r (fun φ w' => by cases w')).1, upd_ne (nc c _ r (fun φ w' => by cases w')).2]; exact r
          · rw [upd_ne (nc c _ r (fun φ w' => by cases w')).1, upd_ne (nc c _ r (fun φ w' => by cases w')).2]; exact r
  · have ge := xo_get I2.hok he
    obtain ⟨mA, hn, hr⟩ := xdo_get I2.hok hd
    refine set_x1 I2.kIn ge hn nd c n.taker (within_of hr) (by rw [List.length_map]; omega) fun h' tk n' sb => ?_
    refine ⟨σ, _, I2.write (x := d) (e := d) (t' := tk) (h' := h') (by rw [hd]; exact True.intro) (.inl rfl) (fun b o hb e => (sb.2 b hb).trans e) ?_ (xdo_ok n' fun g => ?_), q3⟩
    · obtain ⟨o, _, _, e, _⟩ := n'; exact ⟨o, e⟩
    · show RelO ((putF f y fs).lookup g) (if g = f then some u else mA g)
      rw [lookup_putF]
      by_cases z : g = f
      · rw [if_pos z, if_pos z]; exact ry
      · rw [if_neg z, if_neg z]; exact hr g
end
/-! ### raise C(..) -/
/-- what the __init__ of an own exception does: it keeps its arguments under the names -/
def sp_xs (C : Addr) (names : List Str) : Sp := fun vs H Q _ => ∃ (ea t : Addr) (ys : List V), vs = .ref ea :: ys ∧ ys.length = names.length ∧ H ea = some (xo ea C t none) ∧
  ∀ d H', H d = none → d ≠ ea → (∀ b, b ≠ d → b ≠ ea → H' b = H b) → H' ea = some (xo ea C t (some d)) → H' d = some (xdo d (names.zip ys)) → Q .non H'
def tRaise (C : Addr) (names : List Str) (E : XK) (t : TA) : TS := fun _ σ H => t σ H fun ys H1 => ys.length = names.length ∧ ∀ d H', H1 d = none → Same H1 H' → H' d = some (xdo d (names.zip ys)) → E (.ref C) (some d) H'
section
variable {X : Cx} {k : Nat} {f C : Addr} {fd : FuncData} {ps names : List Str} {E : XK} {x : Str} {np cpos pos : Pos} {e : Expr} {es : List Expr} {t : TA}
theorem ps_raise (c : XCls X.K C) (hi : PySem.W.findIn X.K (.ref C) "__init__" = some (some (.ref f))) (hf : PySem.W.isFn X.K (.ref f) = true) (F : FnOk X.prog X.w X.K X.mg X.base CX0 k f fd ps (sp_xs C names)) (hr : Room (k + 1) X.A)
    (hg : Gl X x) (hm : X.mg x = some (.ref C)) (hb : Binds X.K fd ps []) (hnl : names.length ≤ 100) (hx : RaiseTo X E) (ha : PA X (e :: es) t) (hdb : (x == ("__debug__" : Str)) = false := by decide)
    (hst : starEach (e :: es) X.env = (false, eval e X.env) :: starEach es X.env := by rfl) (hpl : (backTo cpos (starEach es X.env)).any (·.1) = false := by rfl) :
    PS X (.Raise (some (.Call (.Name x np) (e :: es) [] cpos)) none pos) (tRaise C names E t) := by
  intro pins s σ H D I h
  rw [arm_exec_Raise]
  show wpAny _ _ (do standAt pos; raiseStmt X.env (some (do let v ← eval (.Call (.Name x np) (e :: es) [] cpos) X.env; standAt pos; pure v)) none) _ _ s
  refine wpAny_bind (wpAny_standAt ?_)
  unfold raiseStmt
  refine wpAny_bind (wpAny_bind (thn (Q := fun u s1 => ∃ ea tt dx H2, u = Value.ref ea ∧ X.s₀.heap.objs.size ≤ ea ∧ Inv X pins σ H2 s1 ∧ H2 ea = some (xo ea C tt dx) ∧ E (.ref C) dx (del H2 ea)) ?_ ?_))
  · refine wpAny_Call_Name_kw (ld_glob I hg hm ?_ hdb)
    refine PySem.W.callWith_K (h₀ := X.base) I.ok.mod.kin c.kp (thn (ha cpos pins s σ H _ I h) fun us s1 ⟨ys, H1, I1, r, hlen, q⟩ => ⟨I1.kIn, ?_⟩) hst hpl
    have hul : us.length ≤ 100 := by rw [← r.length, hlen]; exact hnl
    refine x_call I1.kIn c hi hf (Nat.le_trans hul (by decide)) (wpAny_call ?_)
    have e2 : ((s1.heap.push (xTup us)).push (XObj C s1.heap.objs.size none)).get? (s1.heap.objs.size + 1) = some (XObj C s1.heap.objs.size none) := by
      have := Heap.get?_push_size (s1.heap.push (xTup us)) (o := XObj C s1.heap.objs.size none) rfl
      rwa [Heap.size_push] at this
    have I2 := (I1.kept (h' := s1.heap.push (xTup us)) (t' := s1.toks) (fun b u q => Heap.get?_push_of_some _ q)).laid (a := s1.heap.objs.size + 1) (o := xo (s1.heap.objs.size + 1) C s1.heap.objs.size none) (h' := (s1.heap.push (xTup us)).push (XObj C s1.heap.objs.size none)) (t' := s1.toks) (fun b u q => Heap.get?_push_of_some _ q) (Nat.le_of_eq (Heap.size_push _ _)) (xo_ok e2)
    have hfr : H1 (s1.heap.objs.size + 1) = none := I1.hok.fresh (Nat.le_succ _)
    have r2 : Vals (V.ref (s1.heap.objs.size + 1) :: ys) (Value.ref (s1.heap.objs.size + 1) :: us) := .cons rfl r
    have hsp : sp_xs C names (V.ref (s1.heap.objs.size + 1) :: ys) (upd H1 (s1.heap.objs.size + 1) (xo (s1.heap.objs.size + 1) C s1.heap.objs.size none))
        (fun v H2 => v = .non ∧ ∃ tt dx, H2 (s1.heap.objs.size + 1) = some (xo (s1.heap.objs.size + 1) C tt dx) ∧ E (.ref C) dx (del H2 (s1.heap.objs.size + 1))) E0 := by
      refine ⟨_, _, ys, rfl, hlen, upd_same, fun d H' hd nd ho hea hdd => ⟨rfl, _, _, hea, q d _ ?_ (fun b o hb => ?_) ?_⟩⟩
      · rw [upd_ne nd] at hd; exact hd
      · have n1 : b ≠ s1.heap.objs.size + 1 := ne_of_none hb hfr
        have n2 : b ≠ d := fun z => by rw [z, ← upd_ne (H := H1) nd, hd] at hb; cases hb
        rw [del_ne n1, ho b n2 n1, upd_ne n1]; exact hb
      · rw [del_ne nd]; exact hdd
    have hl : (Value.ref (s1.heap.objs.size + 1) :: us ++ []).length = ps.length := by
      have e := r2.length
      rw [F.len _ _ _ _ hsp] at e
      rw [List.append_nil]
      exact e.symm
    have hbd := hb _ (Value.ref (s1.heap.objs.size + 1) :: us) I2.kIn hl
    rw [List.append_nil] at hbd
    refine codeAny_mono (F.run _ X.stack _ _ ⟨Value.ref (s1.heap.objs.size + 1) :: us, []⟩ _ _ _ E0 (hr.make C us []) (I2.env0.make C us []) hbd r2 hsp) fun r s' hq' => ?_
    cases r with
    | error e => exact False.elim hq'
    | ok fl =>
      cases fl with
      | ret u =>
        obtain ⟨v, H', I3, rv, ev, tt, dx, g1, g2⟩ := I2.after hq'
        subst ev
        exact ⟨rv, _, tt, dx, H', rfl, Nat.le_trans I1.sz (Nat.le_succ _), I3, g1, g2⟩
      | next => exact False.elim hq'
      | brk => exact False.elim hq'
      | cont => exact False.elim hq'
  · rintro u s1 ⟨ea, tt, dx, H2, rfl, hn, I2, he2, q2⟩
    refine wpAny_bind (wpAny_standAt (wpAny_pure ?_))
    have ge := xo_get I2.hok he2
    have hE : X.xe (.ref ea) s1 := hx pins σ H2 s1 ea C tt dx I2 he2 hn q2
    obtain ⟨nm, qn, N, bs, bm, sn, sub, ab, col, dd, k0, k1, k2, k3, k5, hK, ho⟩ := xIn_cls c.x
    have hC := I2.kIn _ _ hK
    have cB : (Value.ref C :: bm).contains (.type "BaseException") = true := by rw [List.contains_cons, xOver_has ho (b := true) (by decide), Bool.or_true]
    obtain ⟨hp, g, d, tk, os⟩ := s1
    dsimp only at ge hC
    repeat (first | (with_reducible refine wpAny_loadPart_at ge ?_) | (with_reducible refine wpAny_loadPart_at hC ?_) | (with_reducible refine wpAny_isSubtype_exc hC ?_; rw [cB]) | wp_step)
    exact wpAny_raiseNew_none hr.hd hE
end
end L2

set_option Elab.async false
set_option linter.all false
set_option maxRecDepth 100000
set_option maxHeartbeats 4000000
namespace L2
open PySem PySem.Spec PyProof.Rows
theorem ObjOk.here {P : Program} {w : World} {H : Hp} {h : Heap} {a : Addr} {o : HO} (x : ObjOk P w H h a o) : ∃ u, h.get? a = some u := by
  cases o with
  | lst xs => obtain ⟨_, _, _, _, e⟩ := x; exact ⟨_, e⟩
  | tup xs => obtain ⟨_, _, _, ob, e, _⟩ := x; exact ⟨_, e⟩
  | dK kvs => obtain ⟨_, _, _, _, o, _, _, e, _⟩ := x; exact ⟨_, e⟩
  | dT kvs => obtain ⟨_, _, _, _, o, _, _, e, _⟩ := x; exact ⟨_, e⟩
  | set S n => obtain ⟨o, _, _, _, e, _⟩ := x; exact ⟨_, e⟩
  | ins C dx fs => obtain ⟨_, _, _, e, _⟩ := x; exact ⟨_, e⟩
  | own y => exact x
  | xd fs => obtain ⟨_, ⟨_, _, _, e, _⟩, _⟩ := x; exact ⟨_, e⟩
  | rng lo hi => obtain ⟨_, _, _, e⟩ := x; exact ⟨_, e⟩
  | frz ob u => obtain ⟨e, _⟩ := x; exact ⟨_, e⟩
  | tbl ps => exact ⟨_, (show h.get? a = some _ from x)⟩
  | met f y => exact ⟨_, (show h.get? a = some _ from x)⟩
  | ext φ => obtain ⟨_, e, _⟩ := x; exact e
/-! ### what surely raises -/
/-- an exception is on its way to this frame -/
def Lands (X : Cx) (pins : List (Addr × Obj)) (σ : St) (E : XK) (e : Value) (s' : Shared) : Prop :=
  ∃ (s : Shared) (H : Hp) (ea C : Addr) (dx : Option Addr) (B : Heap) (H' : Hp), e = .ref ea ∧ Inv X pins σ H s ∧ Thr X.prog X.w X.stack H s ea C dx .none B H' s' ∧ E (.ref C) dx H'
abbrev TX := XK → St → Hp → Prop
def PEx (X : Cx) (e : Expr) (t : TX) : Prop := ∀ (pins : List (Addr × Obj)) (s : Shared) (σ : St) (H : Hp) (E : XK), Inv X pins σ H s → t E σ H → wpAny (model X.prog X.w) X.A (eval e X.env) (fun _ _ => False) (Lands X pins σ E) s
def PSx (X : Cx) (st : Stmt) (t : TX) : Prop := ∀ (pins : List (Addr × Obj)) (s : Shared) (σ : St) (H : Hp) (E : XK), Inv X pins σ H s → t E σ H → wpAny (model X.prog X.w) X.A (exec st X.env) (fun _ _ => False) (Lands X pins σ E) s
def PSsx (X : Cx) (st : List Stmt) (t : TX) : Prop := ∀ (pins : List (Addr × Obj)) (s : Shared) (σ : St) (H : Hp) (E : XK), Inv X pins σ H s → t E σ H → wpAny (model X.prog X.w) X.A (execs st X.env) (fun _ _ => False) (Lands X pins σ E) s
def xCall (sp : Sp) (dvs : List V) (t : TA) : TX := fun E σ H => t σ H fun vs H1 => sp (vs ++ dvs) H1 (fun _ _ => False) E
def xMeth (C : Addr) (m : Str) (sp : Sp) (dvs : List V) (ta : TE) (t : TA) : TX := fun E σ H => ta σ H fun x H1 => ∃ a dx fs, x = .ref a ∧ H1 a = some (.ins C dx fs) ∧ fs.lookup m = none ∧ t σ H1 fun vs H2 => sp (x :: (vs ++ dvs)) H2 (fun _ _ => False) E
def xMake (C : Addr) (sp : Sp) (dvs : List V) (t : TA) : TX := fun E σ H => t σ H fun vs H1 => ∀ x dx, H1 x = none → H1 dx = none → dx ≠ x → sp (.ref x :: (vs ++ dvs)) (upd (upd H1 dx (.own x)) x (.ins C dx [])) (fun _ _ => False) E
/-- it is never so -/
def xNo : TX := fun _ _ _ => False
section
variable {X : Cx} {k : Nat} {f C : Addr} {fd : FuncData} {ps : List Str} {sp : Sp} {dvs : List V} {ds : List Value} {E : XK} {x m : Str} {p pos apos : Pos} {e o : Expr} {es : List Expr} {ta : TE} {t : TA} {pins : List (Addr × Obj)} {σ : St} {H : Hp} {s : Shared}
theorem thx {α : Type} {t : Sem α} {Q Q' : α → Shared → Prop} {M : Model} {A : Around} {E : Value → Shared → Prop} {s : Shared} (h : wpAny M A t Q (fun _ _ => False) s) (hQ : ∀ a s, Q a s → Q' a s) : wpAny M A t Q' E s := wpAny_mono h hQ fun _ _ z => z.elim
theorem run_x {us : List Value} {vs : List V} (F : FnOk X.prog X.w X.K X.mg X.base (CXv X.prog X.w) k f fd ps sp) (hr : Room k X.A) (hb : Binds X.K fd ps ds) (hd : Vals dvs ds)
    (I : Inv X pins σ H s) (r : Vals vs us) (h : sp (vs ++ dvs) H (fun _ _ => False) E) : wpAny (model X.prog X.w) X.A (call (.ref f) us) (fun _ _ => False) (Lands X pins σ E) s := by
  have r2 : Vals (vs ++ dvs) (us ++ ds) := r.append hd
  have hl : (us ++ ds).length = ps.length := by rw [← r2.length]; exact F.len _ _ _ _ h
  refine wpAny_call (codeAny_mono (F.run X.A X.stack s H ⟨us, []⟩ (us ++ ds) (vs ++ dvs) _ E hr I.env0 (hb s us I.kIn hl) r2 h) fun r s' hq => ?_)
  cases r with
  | error e =>
    obtain ⟨ea, C, dx, B, H', rfl, T, q⟩ := hq
    exact ⟨s, H, ea, C, dx, B, H', rfl, I, T, q⟩
  | ok fl =>
    cases fl with
    | ret u => obtain ⟨_, _, _, _, _, _, _, q⟩ := hq; exact q
    | next => exact False.elim hq
    | brk => exact False.elim hq
    | cont => exact False.elim hq
theorem px_call (F : FnOk X.prog X.w X.K X.mg X.base (CXv X.prog X.w) k f fd ps sp) (hr : Room k X.A) (hg : Gl X x) (hm : X.mg x = some (.ref f)) (hk : PySem.W.keepIn X.K (.ref f) = true) (hb : Binds X.K fd ps ds) (hd : Vals dvs ds)
    (ha : PA X.nox (e :: es) t) (hdb : (x == ("__debug__" : Str)) = false := by decide) (he : starEach (e :: es) X.env = (false, eval e X.env) :: starEach es X.env := by rfl) (hpl : (backTo pos (starEach es X.env)).any (·.1) = false := by rfl) :
    PEx X (.Call (.Name x p) (e :: es) [] pos) (xCall sp dvs t) := by
  intro pins s σ H E I h
  refine wpAny_Call_Name_kw (ld_glob I hg hm ?_ hdb)
  refine PySem.W.callWith_K (h₀ := X.base) I.ok.mod.kin hk (thx (ha pos pins s σ H _ (I.wish _) h) fun us s1 ⟨vs, H1, I1, r, q⟩ => ⟨I1.kIn, ?_⟩) he hpl
  exact run_x F hr hb hd I1.unwish r q
theorem px_expr {tx : TX} (he : PEx X e tx) (hs : swapsWith e none pos.line X.env = pure false := by rfl) : PSx X (.Expr e pos) tx := by
  intro pins s σ H E I h
  exact wpAny_Expr_any (thn (he pins s σ H E I h) fun _ _ z => z.elim) I.quiet hs
theorem pxs_one {st : Stmt} {rest : List Stmt} {t : TX} (h1 : PSx X st t) : PSsx X (st :: rest) t := by
  intro pins s σ H E I h
  exact wpAny_execs_cons (thn (h1 pins s σ H E I h) fun _ _ z => z.elim)
end
/-! ### within a handler -/
/-- the exception as it lies while it is handled -/
def xh (ea C : Addr) (dx : Option Addr) : HO := .ext fun h => ∃ o vs, h.get? ea = some o ∧ o.cls = .ref C ∧ o.dict = dx ∧ o.data = .fields vs
theorem xh_ok {P : Program} {w : World} {H : Hp} {h : Heap} {ea C : Addr} {dx : Option Addr} {o : Obj} {vs : Array Value} (e : h.get? ea = some o) (e1 : o.cls = .ref C) (e2 : o.dict = dx) (e3 : o.data = .fields vs) : ObjOk P w H h ea (xh ea C dx) :=
  ⟨⟨o, vs, e, e1, e2, e3⟩, ⟨_, e⟩, fun _ _ ⟨o, vs, q, r⟩ k => ⟨o, vs, k _ q, r⟩⟩
theorem xh_get {P : Program} {w : World} {H : Hp} {h : Heap} {ea C : Addr} {dx : Option Addr} (x : HOk P w H h) (e : H ea = some (xh ea C dx)) : ∃ o vs, h.get? ea = some o ∧ o.cls = .ref C ∧ o.dict = dx ∧ o.data = .fields vs :=
  (show ObjOk P w H h ea (xh ea C dx) from x _ _ e).1
/-- e.f of it -/
def tXFld (K : PySem.W.Frag) (ta : TE) (f : Str) : TE := fun σ H Q => ta σ H fun x H1 => ∃ ea C d fs v, x = .ref ea ∧ H1 ea = some (xh ea C (some d)) ∧ H1 d = some (xdo d fs) ∧ XCls K C ∧ NoAttr K C f ∧ fs.lookup f = some v ∧ Q v H1
section
variable {X : Cx} {e : Expr} {f : Str} {pos : Pos} {ta : TE}
theorem pe_xfld (he : PE X e ta) (hb : attributeBase e f X.env (eval e X.env) = eval e X.env) : PE X (.Attribute e f pos) (tXFld X.K ta f) := by
  intro pins s σ H Q I h
  refine attr_of hb (thn (he pins s σ H _ I h) fun u s1 ⟨x, H1, I1, rx, ea, C, d, fs, v, ex, hea, hd, c, n, l, q⟩ => ?_)
  subst ex
  obtain rfl : u = Value.ref ea := rx
  obtain ⟨o, vs, ge, gc, gd, gf⟩ := xh_get I1.hok hea
  obtain ⟨mA, hn, hr⟩ := xdo_get I1.hok hd
  obtain ⟨od, ho, hl⟩ := lookIn_ns hn
  obtain ⟨u, hu, ru⟩ := RelO.some_of (v := v) (o := mA f) (by rw [← l]; exact hr f)
  have J : PySem.W.InstAt s1.heap ea o C (some od) := by
    obtain ⟨oc, odd, oda, osl⟩ := o
    dsimp only at gc gd gf
    subst gc gd gf
    exact ⟨ge, rfl, rfl, ho⟩
  exact get_x I1.kIn J c.x c.ga c.gn (PySem.W.findObj_own c.hd n rfl (by rw [hl, hu])) (handed_of ru) ⟨v, H1, I1.tok _, ru, q⟩
end
theorem pe_xfldK {X : Cx} {K : PySem.W.Frag} {e : Expr} {f : Str} {pos : Pos} {ta : TE} (he : PE X e ta) (hb : attributeBase e f X.env (eval e X.env) = eval e X.env) (hK : X.K = K := by rfl) : PE X (.Attribute e f pos) (tXFld K ta f) := hK ▸ pe_xfld he hb
/-- the context of a handler's suite -/
abbrev Cx.han (X : Cx) (ea : Addr) : Cx := { X with A := X.A.mark (some (.ref ea)), calm := false }
theorem Inv.han {X : Cx} {pins : List (Addr × Obj)} {σ : St} {H : Hp} {s : Shared} (I : Inv X pins σ H s) (ea : Addr) : Inv (X.han ea) pins σ H s :=
  ⟨⟨I.ok.mod, I.ok.kind, I.ok.glob, I.ok.blt, I.ok.above, I.ok.inj, I.ok.has, I.ok.cab, (fun z => nomatch z), I.ok.frames, I.ok.stk, I.ok.exf, I.ok.bs, I.ok.bsz, I.ok.noex, I.ok.exfs, I.ok.funs, I.ok.frf⟩, I.os, I.bare, I.base, I.loc, I.cell, I.free, I.freeC, I.pin, I.hok, I.len⟩
theorem Inv.unhan {X : Cx} {pins : List (Addr × Obj)} {σ : St} {H : Hp} {s : Shared} {ea : Addr} (ok : X.Ok) (I : Inv (X.han ea) pins σ H s) : Inv X pins σ H s :=
  ⟨ok, I.os, I.bare, I.base, I.loc, I.cell, I.free, I.freeC, I.pin, I.hok, I.len⟩
section
variable {X : Cx} {pins : List (Addr × Obj)} {σ : St} {H H' : Hp} {s s' : Shared} {ea C : Addr} {dx : Option Addr} {B : Heap} {fl : Value}
/-- nothing that stood ahead is the exception -/
theorem Thr.new (T : Thr X.prog X.w X.stack H s ea C dx fl B H' s') (I : Inv X pins σ H s) {b : Addr} {o : Obj} (e : s.heap.get? b = some o) : b ≠ ea := by
  rintro rfl
  obtain ⟨a0, f⟩ := T.fly
  by_cases hb : b ∈ frs X.stack
  · obtain ⟨sl, e1⟩ := T.slo b o hb e
    obtain ⟨oe, vs, _, _, _, ge, _, _, dt, _⟩ := f.tale
    obtain ⟨_, o1, ho1, nf⟩ := f.fun'.mem hb
    rw [ge] at ho1
    cases ho1
    exact nf _ dt
  · obtain ⟨o', e1⟩ := T.bas.there b o e hb
    rw [f.new] at e1
    cases e1
theorem Thr.none (T : Thr X.prog X.w X.stack H s ea C dx fl B H' s') : H' ea = none := by
  obtain ⟨a0, f⟩ := T.fly
  cases q : H' ea with
  | none => rfl
  | some u =>
    obtain ⟨o, e⟩ := (T.hok ea u q).here
    rw [f.new] at e
    cases e
/-- the state where it is handled -/
theorem Thr.inv (T : Thr X.prog X.w X.stack H s ea C dx fl B H' s') (I : Inv X pins σ H s) : Inv X pins σ H' s' := I.call' (ch := []) T.os T.un T.held T.bare (fun b z => nomatch z)
theorem Thr.seen (T : Thr X.prog X.w X.stack H s ea C dx fl B H' s') (I : Inv X pins σ H s) : Inv X pins σ (upd H' ea (xh ea C dx)) s' := by
  have hn := T.none
  obtain ⟨a0, f⟩ := T.fly
  obtain ⟨oe, vs, _, _, _, ge, gc, gd, dt, _⟩ := f.tale
  have un := T.un
  refine I.call' (ch := []) T.os ⟨un.keep, un.slot, fun b o e n hx => ?_, un.there, fun b xs e => ?_, fun b o u e => ?_, fun b ps e => ?_⟩ (fun b u e => ?_) T.bare (fun b z => nomatch z)
  · rw [upd_ne (T.new I e)]; exact un.free b o e n hx
  · have := un.tups b xs e; rw [upd_ne (ne_of_none this hn)]; exact this
  · have := un.frzs b o u e; rw [upd_ne (ne_of_none this hn)]; exact this
  · obtain ⟨m, this⟩ := un.tbls b ps e; exact ⟨m, by rw [upd_ne (ne_of_none this hn)]; exact this⟩
  · by_cases hb : b = ea
    · subst hb; rw [upd_same] at e; cases e; exact xh_ok ge gc gd dt
    · rw [upd_ne hb] at e
      exact (T.held b u e).stay (fun c v _ r => r) (fun c r => by rw [upd_ne (ne_of_none r hn)]; exact r) fun c xs r => by rw [upd_ne (ne_of_none r hn)]; exact r
/-- a next station -/
theorem Thr.on {fl' : Value} {h2 : Heap} {a0 : Value} (T : Thr X.prog X.w X.stack H s ea C dx fl B H' s') (f2 : Fly B X.stack ea (.ref C) dx a0 fl' h2) (u : s'.heap.UpToSlots h2) (I : Inv X pins σ H s) : Thr X.prog X.w X.stack H s ea C dx fl' B H' { s' with heap := h2 } :=
  ⟨T.os, T.bare, ⟨a0, f2⟩, T.hok, T.bas, fun b o hb e => by
    obtain ⟨sl, e1⟩ := T.slo b o hb e
    obtain ⟨_, o1, ho1, nf⟩ := I.stack.mem hb
    rw [e] at ho1
    cases ho1
    obtain ⟨sl2, e2⟩ := u b _ e1 nf
    exact ⟨sl2, e2⟩⟩
end
/-! ### handlers -/
section
variable {X : Cx} {pins : List (Addr × Obj)} {σ : St} {H : Hp} {s : Shared} {M : Model} {A : Around} {E : Value → Shared → Prop}
/-- the handler's name goes -/
theorem goes_ok {n : Str} {i : Nat} {pos : Pos} {Q : Unit → Shared → Prop} (I : Inv X pins σ H s) (hN : X.N.Nodup) (hi : X.N[i]? = some n) (hk : X.env.kindOf n = some .local) (h : ∀ s', Inv X pins (σ.set i none) H s' → Q () s') :
    wpAny M A (do bindName X.env n .none; unbindBehindTheSuite X.env n pos) Q E s := by
  obtain ⟨m, hn, hl⟩ := id I.loc
  have hcls : (X.env.scope.kind == .class || (X.env.scope.kind == .module && X.env.locals != X.env.globals)) = false := by rw [I.ok.kind]; rfl
  refine wpAny_nameGoes_keeps hk hn hcls fun h' v hn' hs => h _ ?_
  have low : ∀ b o, X.s₀.heap.get? b = some o → b ≠ X.env.locals := fun b o e => Nat.ne_of_lt (Nat.lt_of_lt_of_le (Heap.lt_size e) I.ok.above)
  refine ⟨I.ok, I.os, I.bare, ⟨fun b o e n hb hx => (hs.2 b (low b o e)).trans (I.base.keep b o e n hb hx), fun b o e n hb hx => ?_, I.base.free, fun b o e hx => ?_, I.base.tups, I.base.frzs, I.base.tbls⟩, ⟨_, hn', fun j y v' e1 e2 e3 => ?_⟩, fun y c e => ?_, I.free, I.freeC, fun p hp => ?_, fun b ob e => ?_, by simpa using I.len⟩
  · obtain ⟨sl, e1⟩ := I.base.slot b o e n hb hx
    exact ⟨sl, (hs.2 b (low b o e)).trans e1⟩
  · obtain ⟨o', e1⟩ := I.base.there b o e hx
    exact ⟨o', (hs.2 b (low b o e)).trans e1⟩
  · by_cases hj : j = i
    · subst hj
      rw [List.getElem?_set] at e2
      simp only [if_true] at e2
      split at e2 <;> cases e2
    · rw [List.getElem?_set_ne (Ne.symm hj)] at e2
      obtain ⟨u', r', q⟩ := hl j y v' e1 e2 e3
      refine ⟨u', r', ?_⟩
      rcases q with ⟨k, e⟩ | ⟨k, c, e, z⟩
      · refine .inl ⟨k, ?_⟩
        have : y ≠ n := fun e => hj (nodup_ix hN e1 (e ▸ hi))
        simp [this, e]
      · exact .inr ⟨k, c, e, z.sameBut hs (I.cne y c e)⟩
  · obtain ⟨v, z⟩ := I.cell y c e
    exact ⟨v, z.sameBut hs (I.cne y c e)⟩
  · obtain ⟨e, n1, ne, nf, d⟩ := I.pin p hp
    exact ⟨(hs.2 _ ne).trans e, n1, ne, nf, d⟩
  · refine (I.hok b ob e).stay (fun c w' hc q => (hs.2 c ?_).trans q) (fun _ q => q) fun _ _ q => q
    rintro rfl
    rcases hc with rfl | hc
    · rw [I.free] at e; cases e
    · rw [I.free] at hc; cases hc
end
abbrev THs := Addr → Addr → Option Addr → TS
def PH (X : Cx) (hs : List ExceptHandler) (th : THs) : Prop :=
  ∀ (pins : List (Addr × Obj)) (σ : St) (H H' : Hp) (D : Ends) (s s' : Shared) (ea C : Addr) (dx : Option Addr) (B : Heap), Inv X pins σ H s → Thr X.prog X.w X.stack H s ea C dx .none B H' s' → th C ea dx D σ H' →
    wpAny (model X.prog X.w) X.A (handleBy (.ref ea) X.env hs) (SP X pins D) X.xe s'
def Ends.less (D : Ends) (i : Nat) : Ends := { nx := fun σ H => D.nx (σ.set i none) H, rt := D.rt, bk := fun σ H => D.bk (σ.set i none) H, ct := fun σ H => D.ct (σ.set i none) H }
def tAs (K : PySem.W.Frag) (Ck : Addr) (i : Nat) (ts : TS) (rest : THs) : THs := fun C ea dx D σ H =>
  (PySem.W.exmOne K (.ref C) (.ref Ck) = some true ∧ ts (D.less i) (σ.set i (some (.ref ea))) (upd H ea (xh ea C dx))) ∨ (PySem.W.exmOne K (.ref C) (.ref Ck) = some false ∧ rest C ea dx D σ H)
def tBare (K : PySem.W.Frag) (Ck : Addr) (ts : TS) (rest : THs) : THs := fun C ea dx D σ H =>
  (PySem.W.exmOne K (.ref C) (.ref Ck) = some true ∧ ts D σ (upd H ea (xh ea C dx))) ∨ (PySem.W.exmOne K (.ref C) (.ref Ck) = some false ∧ rest C ea dx D σ H)
def tNoH : THs := fun _ _ _ _ _ _ => False
def tTry (tb : TS) (tx : TX) (th : THs) : TS := fun D σ H => tb D σ H ∨ ∃ E, tx E σ H ∧ ∀ C dx H' ea, E (.ref C) dx H' → H' ea = none → th C ea dx D σ H'
section
variable {X : Cx} {x n : Str} {np hpos pos : Pos} {b₀ : Stmt} {suite body : List Stmt} {h₀ : ExceptHandler} {rest : List ExceptHandler} {Ck : Addr} {i : Nat} {ts tb : TS} {tx : TX} {tr : THs}
theorem ph_nil : PH X [] tNoH := fun _ _ _ _ _ _ _ _ _ _ _ _ _ h => h.elim
theorem Thr.looks {M : Model} {P : Program} {w : World} {l : List Env} {H H' : Hp} {s s' : Shared} {ea C : Addr} {dx : Option Addr} {fl : Value} {B : Heap} (T : Thr P w l H s ea C dx fl B H' s') : PySem.W.Looks M s'.heap (typeOf (.ref ea)) (.ref C) := by
  obtain ⟨a0, f⟩ := T.fly
  obtain ⟨oe, vs, _, _, _, ge, gc, _⟩ := f.tale
  exact gc ▸ (PySem.W.Looks.ld ge).andThen .now
theorem ph_as (hg : Gl X x) (hm : X.mg x = some (.ref Ck)) (hN : X.N.Nodup) (hi : X.N[i]? = some n) (hk : X.env.kindOf n = some .local) (hs : ∀ ea, PSs (X.han ea).nox (b₀ :: suite) ts) (hr : PH X rest tr) (hdb : (x == ("__debug__" : Str)) = false := by decide) :
    PH X (.ExceptHandler (some (.Name x np)) (some n) (b₀ :: suite) hpos :: rest) (tAs X.K Ck i ts tr) := by
  intro pins σ H H' D s s' ea C dx B I T h
  have I1 := T.inv I
  refine wpAny_handleBy_cons (codeAny_handlers_test (ld_glob (X := X.han ea) (I1.han ea) hg hm ?_ hdb)) (by intro q; cases q)
  rcases h with ⟨hx, h⟩ | ⟨hx, h⟩
  · refine PySem.W.Looks.here (PySem.W.exm_one I1.kIn T.looks hx) ?_
    refine codeAny_handlers_suite_as ?_
    obtain ⟨a0, f⟩ := T.fly
    refine flight_none f fun h2 f2 u2 => ?_
    have I2 := ((T.on f2 u2 I).seen I).han ea
    refine store_ok (X := X.han ea) (i := i) (v := .ref ea) I2 hN hi (.inl hk) rfl (fun s3 I3 => ?_) (.inr hk)
    refine wpAny_mono (hs ea pins s3 _ _ _ (I3.wish _) h) (fun fl s4 q => ?_) (fun _ _ z => z.elim)
    cases fl with
    | next => obtain ⟨σ4, H4, I4, q⟩ := q; exact goes_ok (X := X) (I4.unwish.unhan I.ok) hN hi hk fun s5 I5 => ⟨_, _, I5, q⟩
    | brk => obtain ⟨σ4, H4, I4, q⟩ := q; exact goes_ok (X := X) (I4.unwish.unhan I.ok) hN hi hk fun s5 I5 => ⟨_, _, I5, q⟩
    | cont => obtain ⟨σ4, H4, I4, q⟩ := q; exact goes_ok (X := X) (I4.unwish.unhan I.ok) hN hi hk fun s5 I5 => ⟨_, _, I5, q⟩
    | ret u => obtain ⟨v, σ4, H4, I4, r, q⟩ := q; exact goes_ok (X := X) (I4.unwish.unhan I.ok) hN hi hk fun s5 I5 => ⟨v, _, _, I5, r, q⟩
  · refine PySem.W.Looks.here (PySem.W.exm_one I1.kIn T.looks hx) ?_
    exact hr pins σ H H' D s s' ea C dx B I T h
theorem ps_try (hb : PSs X.nox body tb) (hx : PSsx X body tx) (hh : PH X (h₀ :: rest) tr) (hk : X.stack = X.env :: X.outer := by rfl) (hf : X.env.frame = some X.env.locals := by rfl) : PS X (.Try body (h₀ :: rest) [] [] pos) (tTry tb tx tr) := by
  intro pins s σ H D I h
  refine wpAny_Try_except ?_
  rcases h with h | ⟨E, h, q⟩
  · refine wpAny_mono (hb pins s σ H D (I.wish _) h) (fun f s1 z => ?_) (fun _ _ z => z.elim)
    cases f with
    | next => exact wpAny_execs_nil z.unwish
    | brk => exact z.unwish
    | cont => exact z.unwish
    | ret u => exact z.unwish
  · refine wpAny_mono (hx pins s σ H E I h) (fun _ _ z => z.elim) ?_
    rintro e s1 ⟨s0, H0, ea, C, dx, B, H', rfl, I0, T, qE⟩
    obtain ⟨a0, f⟩ := T.fly
    rw [hk] at f
    refine note_next (by rw [I0.ok.frames, hk]) hf f fun h1 f1 u1 => ?_
    rw [← hk] at f1
    have T1 := T.on f1 u1 I0
    refine flight_none f1 fun h2 f2 u2 => ?_
    have T2 := T1.on f2 u2 I0
    exact hh pins σ H0 H' D s0 _ ea C dx B I0 T2 (q C dx H' ea qE T2.none)
end
/-- a statement that never raises, in a def that may -/
theorem PS.nox {X : Cx} {st : Stmt} {t : TS} (h : PS X.nox st t) : PS X st t := fun pins s σ H D I hw =>
  wpAny_mono (h pins s σ H D (I.wish _) hw) (fun _ _ q => q.unwish) fun _ _ z => False.elim z
/-- an exception of class C that bears these fields -/
def Bears (E : XK) (H : Hp) (C : Addr) (fs : List (Str × V)) : Prop := ∀ d H', H d = none → Same H H' → H' d = some (xdo d fs) → E (.ref C) (some d) H'
/-- .. and that it is what came -/
def Got (H : Hp) (C : Addr) (fs : List (Str × V)) : XK := fun c dx H' => c = .ref C ∧ ∃ d, dx = some d ∧ H d = none ∧ Same H H' ∧ H' d = some (xdo d fs)
theorem Got.at {H H' : Hp} {C D ea : Addr} {fs : List (Str × V)} {dx : Option Addr} (g : Got H C fs (.ref D) dx H') (he : H' ea = none) : D = C ∧ ∃ d, dx = some d ∧ Same H (upd H' ea (xh ea C (some d))) ∧ upd H' ea (xh ea C (some d)) ea = some (xh ea C (some d)) ∧ upd H' ea (xh ea C (some d)) d = some (xdo d fs) := by
  obtain ⟨e, d, rfl, hd, sm, hdd⟩ := g
  cases e
  have ned : d ≠ ea := fun z => by rw [z, he] at hdd; cases hdd
  exact ⟨rfl, d, rfl, fun b o hb => (upd_ne (ne_of_none (sm _ _ hb) he)).trans (sm _ _ hb), upd_same, (upd_ne ned).trans hdd⟩
end L2

set_option Elab.async false
set_option linter.all false
set_option maxRecDepth 100000
set_option maxHeartbeats 4000000
namespace L2
open PySem PySem.Spec PyProof.Rows
/-! ### min(list of ints) -/
section
variable {X : Cx}
def rMinL (K : PySem.W.Frag) : List V → Hp → VK → Prop := fun xs H Q => ∃ (p : Addr) (ns : List Int), xs = [.ref p] ∧ SqL K H p (ns.map V.int) ∧ ns ≠ [] ∧ ∀ m ∈ ns, (∀ a ∈ ns, m ≤ a) → Q (.int m) H
end
/-! ### for x in d.values() -/
section
variable {X : Cx} {o : Expr} {apos cpos : Pos} {td : TE}
end
end L2

set_option Elab.async false
set_option linter.all false
namespace L2
open PySem PySem.Spec PyProof.Rows
/-! ### a body walked piece by piece; lists by their length -/
theorem cut1 {t1 tR : TS} {D : Ends} {σ : L2.St} {H : Hp} (h : ∀ R, R = tR → tSeq t1 R D σ H) : tSeq t1 tR D σ H := h _ rfl
theorem cut2 {t1 t2 tR : TS} {D : Ends} {σ : L2.St} {H : Hp} (h : ∀ R, R = tR → tSeq t1 (tSeq t2 R) D σ H) : tSeq t1 (tSeq t2 tR) D σ H := h _ rfl
theorem cut5 {t1 t2 t3 t4 t5 tR : TS} {D : Ends} {σ : L2.St} {H : Hp} (h : ∀ R, R = tR → tSeq t1 (tSeq t2 (tSeq t3 (tSeq t4 (tSeq t5 R)))) D σ H) : tSeq t1 (tSeq t2 (tSeq t3 (tSeq t4 (tSeq t5 tR)))) D σ H := h _ rfl
theorem el1 {α : Type} {p : List α → Prop} (h : ∀ a, p [a]) : ∀ us : List α, us.length = 1 → p us
  | [a], _ => h a
theorem el2 {α : Type} {p : List α → Prop} (h : ∀ a b, p [a, b]) : ∀ us : List α, us.length = 2 → p us
  | [a, b], _ => h a b
theorem el3 {α : Type} {p : List α → Prop} (h : ∀ a b c, p [a, b, c]) : ∀ us : List α, us.length = 3 → p us
  | [a, b, c], _ => h a b c
end L2

set_option Elab.async false
set_option linter.all false
set_option maxRecDepth 100000
set_option maxHeartbeats 4000000
namespace L2
open PySem PySem.Spec PyProof.Rows Builtin Builtin.ObjectAttr
theorem boot_ValueError : bootBuiltins "ValueError" = some (.type "ValueError") := by decide +kernel
/-! ### isinstance(e, C) of an exception -/
structure XIs (K : PySem.W.Frag) (C : Addr) : Prop where
  ha : PySem.W.findIn K (.ref C) "__class__" = some (some (.builtin "object.__class__"))
  hn : PySem.W.specialIn K (.builtin "object.__class__") "__get__" = some (some (.builtin "getset_descriptor.__get__"))
  htk : PySem.W.takesIn K (.builtin "object.__class__") = some true
theorem x_mro {K : PySem.W.Frag} {C : Addr} {v : Value} (c : xIn K C = true) (hv : valTail.contains v = true) : PySem.W.mroIn K C v = some true := by
  obtain ⟨nm, qn, N, bs, bm, sn, sub, ab, col, dd, k0, k1, k2, k3, k5, hK, ho⟩ := xIn_cls c
  obtain ⟨cd, hc, hcm⟩ : ∃ cd, PySem.W.clsIn K C = some cd ∧ cd.mro = .ref C :: bm := ⟨_, by unfold PySem.W.clsIn; rw [hK], rfl⟩
  obtain ⟨rs, rfl⟩ := xOver_shape ho
  unfold PySem.W.mroIn
  rw [hc, Option.bind_some, hcm, if_neg (by simp), List.contains_cons]
  have : (rs.map Value.ref ++ valTail).contains v = true := by
    rw [List.contains_iff_mem, List.mem_append]
    exact .inr (List.contains_iff_mem.mp hv)
  rw [this, Bool.or_true]
section
variable {prog : Program} {w : World} {A : Around} {E : Value → Shared → Prop} {s : Shared} {K : PySem.W.Frag} {x C : Addr} {v : Value}
end
/-- what isinstance tells of an exception -/
def rIsx (K : PySem.W.Frag) : List V → Hp → VK → Prop := fun xs H Q => ∃ ea C d fs c b, (xs = [.ref ea, c]) ∧ H ea = some (xh ea C (some d)) ∧ H d = some (xdo d fs) ∧ XCls K C ∧ XIs K C ∧ ((∃ n, c = .ty n ∧ PySem.W.kitOne K (.ref C) (.type n) = some b) ∨ ∃ D, c = .ref D ∧ PySem.W.kitOne K (.ref C) (.ref D) = some b) ∧ Q (.bl b) H
end L2

set_option Elab.async false
set_option linter.all false
set_option maxRecDepth 100000
set_option maxHeartbeats 4000000
namespace L2
open PySem PySem.Spec PyProof.Rows PySem.Calls
/-! ### an exception's class without an __init__ of its own -/
section
variable {M : Model} {A : Around} {E : Value → Shared → Prop} {h : Heap} {g : Array GenState} {d : Drawn} {t : Nat} {os : OsState}
variable {nm qn : Str} {C N : Addr} {bs bm : List Value} {hdct : Bool} {sn : List Str} {sub : List Value} {ab : Bool} {col : Option Bool} {dd : Option Addr} {k0 k1 k2 k3 k5 : Option Value}
theorem x_checkI {us : List Value} {e : Addr} {oe : Obj} {Q : Unit → Shared → Prop} (hC : h.get? C = some (excClassObj nm qn C N bs bm hdct sn sub ab col dd k0 k1 k2 k3 k5 "ValueError.__new__")) (ho : xOver bm = true)
    (he : h.get? e = some oe) (hcl : oe.cls = .ref C) (q : Q () ⟨h, g, d, t, os⟩) : wpAny M A (checkBuiltinCall "ValueError.__init__" ⟨.ref e :: us, []⟩) Q E ⟨h, g, d, t, os⟩ := by
  have F := PySem.F.excBase_ValueError
  have c1 : (Value.ref C :: bm).contains (.type "ValueError") = true := by rw [List.contains_cons, xOver_has ho (b := true) (by decide), Bool.or_true]
  have st := F.noStar
  simp only [checkBuiltinCall, F.initKind, F.initSplit, F.initRow]
  repeat (first | (refine wpAny_loadPart_at he ?_; rw [hcl]) | (refine wpAny_loadPart_at hC ?_) | (refine wpAny_isSubtype_exc hC ?_; rw [c1]) | wp_step)
  refine wpAny_onRaise ?_
  have star : ∀ (x y : String) (m : Nat), Bind.check ⟨.positional, "*", "ValueError", .self, [⟨"args", .varPos, false⟩]⟩ x y m
      (({ pos := Value.ref e :: us } : Args).kw.map fun z => z.fst) = pure () := fun x y m => check_star_args _ _ _ _ _ _
  rw [star]
  exact wpAny_pure q
end
section
variable {prog : Program} {w : World} {A : Around} {h : Heap} {g : Array GenState} {d : Drawn} {t : Nat} {os : OsState} {C : Addr}
theorem x_tcall0 {K : PySem.W.Frag} {hh : Heap} {us : List Value} {Q : Fin → Shared → Prop} {E : Value → Shared → Prop} (X : K.In hh) (c : XCls K C) (hi : PySem.W.findIn K (.ref C) "__init__" = some (some (.builtin "ValueError.__init__"))) (hl : us.length ≤ sizeLine)
    (hq : ∀ h', (∀ b o, hh.get? b = some o → h'.get? b = some o) → h'.get? (hh.objs.size + 1) = some (XObj C (hh.objs.size + 2) none) → h'.get? (hh.objs.size + 2) = some (xTup us) → Q (.done (.ret (.ref (hh.objs.size + 1)))) ⟨h', g, d, t, os⟩) :
    wpAny (model prog w) A (Builtin.«type.__call__» ⟨.ref C :: us, []⟩) Q E ⟨hh, g, d, t, os⟩ := by
  obtain ⟨nm, qn, N, bs, bm, sn, sub, ab, col, dd, k0, k1, k2, k3, k5, hK, ho⟩ := xIn_cls c.x
  have hC := X _ _ hK
  have F := PySem.F.excBase_ValueError
  have k : ∀ b o, hh.get? b = some o → ((hh.push (xTup us)).push (XObj C hh.objs.size none)).get? b = some o := fun b o e => Heap.get?_push_of_some _ (Heap.get?_push_of_some _ e)
  repeat (first | (with_reducible refine wpAny_loadPart_at hC ?_) | (with_reducible refine wpAny_madeBy_exc hC ?_) | wp_step)
  refine codeAny_call_builtin_code (Code.quiet_builtin _ F.quiet) (x_check hC ho ?_)
  refine x_new hC ho ?_ hl
  show wpAny _ _ _ _ _ _
  have hC1 := k _ _ hC
  have hx : ((hh.push (xTup us)).push (XObj C hh.objs.size none)).get? (hh.objs.size + 1) = some ({ cls := .ref C, dict := none, data := .fields #[.ref hh.objs.size, .none, .none, .none, .bool false, .none] } : Obj) := by heap_get
  have c4 : (Value.ref C :: bm).contains (.ref C) = true := by simp
  unfold isInstance
  repeat (first | (with_reducible refine wpAny_loadPart_at hx ?_) | (with_reducible refine wpAny_isSubtype_exc hC1 ?_; rw [c4]) | wp_step)
  show wpAny _ _ (typeLookup (.ref C) _) _ _ _
  refine ((PySem.W.looks_findIn X hi).keeps k).at ?_
  refine wpAny_holding (wpAny_bind (wpAny_of_eq (F.init.bind _) ?_))
  refine wpAny_bind (wpAny_call (codeAny_call_builtin F.init.plain F.initEntry (x_checkI hC1 ho hx rfl ?_)))
  wp_walk
  have z2 : ((hh.push (xTup us)).push (XObj C hh.objs.size none)).objs.size = hh.objs.size + 2 := by rw [size_push', size_push']
  refine hq _ (fun b o hb => ?_) ?_ ?_
  · rw [Heap.get?_update_other _ _ (Nat.ne_of_gt (Nat.lt_succ_of_lt (Heap.lt_size hb)))]
    exact Heap.get?_push_of_some _ (k b o hb)
  · rw [Heap.get?_update_self _ (Heap.get?_push_of_some _ hx) rfl, z2]
    rfl
  · rw [Heap.get?_update_other _ _ (show hh.objs.size + 1 ≠ hh.objs.size + 2 by omega)]
    exact Heap.get?_push_at z2.symm rfl
theorem x_call0 {K : PySem.W.Frag} {s : Shared} {us : List Value} {Q : Value → Shared → Prop} {E : Value → Shared → Prop} (X : K.In s.heap) (c : XCls K C) (hi : PySem.W.findIn K (.ref C) "__init__" = some (some (.builtin "ValueError.__init__"))) (hl : us.length ≤ sizeLine)
    (hq : ∀ h', (∀ b o, s.heap.get? b = some o → h'.get? b = some o) → h'.get? (s.heap.objs.size + 1) = some (XObj C (s.heap.objs.size + 2) none) → h'.get? (s.heap.objs.size + 2) = some (xTup us) → Q (.ref (s.heap.objs.size + 1)) { s with heap := h' }) : wpAny (model prog w) A (call (.ref C) us) Q E s := by
  obtain ⟨hh, g, d, t, os⟩ := s
  obtain ⟨nm, qn, N, bs, bm, sn, sub, ab, col, dd, k0, k1, k2, k3, k5, hK, ho⟩ := xIn_cls c.x
  have hC := X _ _ hK
  dsimp only at hC
  have f1 := tc_lookup
  have f2 := tc_bind (.ref C)
  have hT : (⟨hh, g, d, t, os⟩ : Shared).TypeIs (.ref C) "type" := ⟨_, hC, rfl⟩
  refine wpAny_call (codeAny_of_tree ?_)
  show wpAny _ _ (callAny (.ref C) _) _ _ _
  repeat (any_goals (first | assumption | (with_reducible refine wpAny_loadPart_at hC ?_) | wp_step))
  refine ⟨rfl, ?_⟩
  exact codeAny_call_builtin_at (Code.quiet_builtin _ (by decide +kernel)) entry_typeCall (wpAny_check_type_call_sub hC (x_tcall0 X c hi hl hq))
end
def tRaise0 (C : Addr) (E : XK) : TS := fun _ _ H => E (.ref C) none H
section
variable {X : Cx} {k : Nat} {C : Addr} {E : XK} {x : Str} {np cpos pos : Pos}
theorem ps_raise0 (c : XCls X.K C) (hi : PySem.W.findIn X.K (.ref C) "__init__" = some (some (.builtin "ValueError.__init__"))) (hr : Room k X.A)
    (hg : Gl X x) (hm : X.mg x = some (.ref C)) (hx : RaiseTo X E) (hdb : (x == ("__debug__" : Str)) = false := by decide) :
    PS X (.Raise (some (.Call (.Name x np) [] [] cpos)) none pos) (tRaise0 C E) := by
  intro pins s σ H D I h
  rw [arm_exec_Raise]
  show wpAny _ _ (do standAt pos; raiseStmt X.env (some (do let v ← eval (.Call (.Name x np) [] [] cpos) X.env; standAt pos; pure v)) none) _ _ s
  refine wpAny_bind (wpAny_standAt ?_)
  unfold raiseStmt
  refine wpAny_bind (wpAny_bind (thn (Q := fun u s1 => ∃ ea tt dx H2, u = Value.ref ea ∧ X.s₀.heap.objs.size ≤ ea ∧ Inv X pins σ H2 s1 ∧ H2 ea = some (xo ea C tt dx) ∧ E (.ref C) dx (del H2 ea)) ?_ ?_))
  · refine wpAny_Call_Name_kw (ld_glob I hg hm ?_ hdb)
    refine PySem.W.callWith_K0 I.kIn c.kp ?_
    refine x_call0 I.kIn c hi (Nat.zero_le _) fun h' hk e1 e2 => ?_
    have hsz : s.heap.objs.size ≤ s.heap.objs.size + 1 := Nat.le_succ _
    have hfr : H (s.heap.objs.size + 1) = none := I.hok.fresh hsz
    refine ⟨s.heap.objs.size + 1, s.heap.objs.size + 2, none, upd H (s.heap.objs.size + 1) (xo (s.heap.objs.size + 1) C (s.heap.objs.size + 2) none), rfl, Nat.le_trans I.sz hsz, I.laid (t' := s.toks) hk hsz (xo_ok e1), upd_same, ?_⟩
    have ed : del (upd H (s.heap.objs.size + 1) (xo (s.heap.objs.size + 1) C (s.heap.objs.size + 2) none)) (s.heap.objs.size + 1) = H := by
      funext b
      by_cases z : b = s.heap.objs.size + 1
      · rw [z, del_self, hfr]
      · rw [del_ne z, upd_ne z]
    rw [ed]
    exact h
  · rintro u s1 ⟨ea, tt, dx, H2, rfl, hn, I2, he2, q2⟩
    refine wpAny_bind (wpAny_standAt (wpAny_pure ?_))
    have ge := xo_get I2.hok he2
    have hE : X.xe (.ref ea) s1 := hx pins σ H2 s1 ea C tt dx I2 he2 hn q2
    obtain ⟨nm, qn, N, bs, bm, sn, sub, ab, col, dd, k0, k1, k2, k3, k5, hK, ho⟩ := xIn_cls c.x
    have hC := I2.kIn _ _ hK
    have cB : (Value.ref C :: bm).contains (.type "BaseException") = true := by rw [List.contains_cons, xOver_has ho (b := true) (by decide), Bool.or_true]
    obtain ⟨hp, g, d, tk, os⟩ := s1
    dsimp only at ge hC
    repeat (first | (with_reducible refine wpAny_loadPart_at ge ?_) | (with_reducible refine wpAny_loadPart_at hC ?_) | (with_reducible refine wpAny_isSubtype_exc hC ?_; rw [cB]) | wp_step)
    exact wpAny_raiseNew_none hr.hd hE
end
end L2

set_option Elab.async false
set_option linter.all false
set_option maxRecDepth 100000
set_option maxHeartbeats 4000000
namespace L2
open PySem PySem.Spec PyProof.Rows Builtin Builtin.ObjectAttr
/-! ### isinstance(e, C) of an exception, with or without a dict of its own -/
section
variable {prog : Program} {w : World} {A : Around} {E : Value → Shared → Prop} {s : Shared} {K : PySem.W.Frag} {x C : Addr} {v : Value}
theorem class_y {ox : Obj} {od : Option Obj} {Q : Option Value → Shared → Prop} (X : K.In s.heap) (I : PySem.W.InstAt s.heap x ox C od) (c : XCls K C) (i : XIs K C)
    (h : Q (some (.ref C)) { s with toks := s.toks + 1 }) : wpAny (model prog w) A (getAttr? (.ref x) "__class__") Q E s := by
  obtain ⟨h0, g, d, t, os⟩ := s
  have hf : PySem.W.findObj K C od "__class__" = some (.bind (.builtin "getset_descriptor.__get__") (.builtin "object.__class__")) := by
    obtain ⟨cd, hc, _⟩ := PySem.W.any_some c.hd
    unfold PySem.W.findObj
    rw [hc, Option.bind_some, i.ha, Option.bind_some]
    simp [i.hn, i.htk]
  have L0 := I.type (M := model prog w)
  have L1 := PySem.W.looks_findIn (M := model prog w) X c.ga
  have L2 := PySem.W.looks_findIn (M := model prog w) X c.gn
  have L3 := PySem.W.looks_find (M := model prog w) X I hf
  unfold getAttr? getAttrBy? getAttrBy
  refine wpAny_bind (wpAny_mkText (wpAny_bind (wpAny_attempt (wpAny_holding (wpAny_bind (L0.at (wpAny_bind (L1.at ?_))))))))
  show wpAny _ _ (getAttrByItsOwn _ _ _ _ _ _) _ _ _
  unfold getAttrByItsOwn
  have G := PySem.F.excAttr_ValueError.ga
  have e1 : callGetattribute (.ref x) (.str "__class__" t) (.builtin "BaseException.__getattribute__") false = boundAndCalled (.builtin "BaseException.__getattribute__") (.ref x) (.str "__class__" t) := by
    unfold callGetattribute
    rfl
  have LB : PySem.W.Looks (model prog w) h0 (isInstance (.ref x) (.type "BaseException")) true := L0.andThen (PySem.W.looks_mroIn X (x_mro c.x (by decide)))
  refine wpAny_bind (show wpAny _ _ (typeLookup (.ref C) "__getattr__") _ _ _ from L2.at ?_)
  refine wpAny_bind (wpAny_attempt (wpAny_holding ?_))
  rw [e1]
  unfold boundAndCalled
  rw [G.bind]
  refine wpAny_bind (wpAny_pure (wpAny_call (codeAny_call_builtin G.plain PySem.F.entry_bexc_ga (@PySem.W.check_slot (model prog w) _ _ ⟨h0, g, d, t + 1, os⟩ "BaseException.__getattribute__" "BaseException" "__getattribute__" (.ref x) [.str "__class__" t] [] _ (by decide +kernel) (by decide +kernel) LB (PySem.F.args_bexc_ga _ _) ?_))))
  refine wpAny_bind (wpAny_pure (wpAny_bind (wpAny_pure (wpAny_bind (L0.at (wpAny_bind (L3.at ?_)))))))
  show wpAny _ _ (bindTo _ _ _ _) _ _ _
  unfold bindTo
  refine wpAny_bind (wpAny_holding (wpAny_call (PySem.W.class_get (s := ⟨h0, g, d, t + 1, os⟩) (ox := ox) (od := od) X I (x_mro c.x (by decide)) ?_)))
  exact wpAny_pure (PySem.W.handed_on rfl (wpAny_pure h))
theorem kitx_y {x : Addr} {ox : Obj} {od : Option Obj} (c : XCls K C) (i : XIs K C) : PySem.W.KitX K (.ref x) (.ref C) (fun h => PySem.W.InstAt h x ox C od) where
  ty := fun _ _ _ I => I.type
  it := fun _ _ X _ => by
    obtain ⟨cdD, hcD, _⟩ := PySem.W.any_some c.hd
    unfold PySem.W.clsIn at hcD
    split at hcD
    · rename_i c' d' cd' sl' ho
      intro A' Q' E' s' k q
      unfold isType loadHead
      exact wpAny_bind (wpAny_loadPart (k _ _ (X _ _ ho)) (wpAny_pure q))
    · cases hcD
  ne := fun h tp dd its n sl X htp => by
    obtain ⟨cdD, hcD, _⟩ := PySem.W.any_some c.hd
    refine Bool.eq_false_iff.mpr fun q => ?_
    have e : C = tp := Value.ref.inj (beq_iff_eq.mp q)
    subst e
    unfold PySem.W.clsIn at hcD
    split at hcD
    · rename_i c' d' cd' sl' ho
      have z := (X _ _ ho).symm.trans htp
      cases z
    · cases hcD
  ca := fun X I k => class_y X I c i k
end
/-- the own dict of an exception: none, or one with these fields -/
def XD (H : Hp) (dx : Option Addr) (fs : List (Str × V)) : Prop := (dx = none ∧ fs = []) ∨ ∃ d, dx = some d ∧ H d = some (xdo d fs)
theorem XD.same {H H' : Hp} {dx : Option Addr} {fs : List (Str × V)} (h : XD H dx fs) (s : Same H H') : XD H' dx fs := by
  rcases h with h | ⟨d, e, h⟩
  · exact .inl h
  · exact .inr ⟨d, e, s _ _ h⟩
def rIsy (K : PySem.W.Frag) : List V → Hp → VK → Prop := fun xs H Q => ∃ ea C dx fs c b, (xs = [.ref ea, c]) ∧ H ea = some (xh ea C dx) ∧ XD H dx fs ∧ XCls K C ∧ XIs K C ∧ ((∃ n, c = .ty n ∧ PySem.W.kitOne K (.ref C) (.type n) = some b) ∨ ∃ D, c = .ref D ∧ PySem.W.kitOne K (.ref C) (.ref D) = some b) ∧ Q (.bl b) H
theorem call_isy {X : Cx} : CallR X (.builtin "isinstance") (rIsy X.K) := by
  intro pins s σ H xs us Q I r h
  obtain ⟨ea, C, dx, fs, c, b, rfl, hea, hd, xc, xi, hk, q⟩ := h
  obtain ⟨u, w, rfl, rx, rw'⟩ := vals2 r
  obtain rfl : u = Value.ref ea := rx
  obtain ⟨o, vs, ge, gc, gd, gf⟩ := xh_get I.hok hea
  obtain ⟨od, J⟩ : ∃ od, PySem.W.InstAt s.heap ea o C od := by
    rcases hd with ⟨rfl, _⟩ | ⟨d, rfl, hd⟩
    · obtain ⟨oc, odd, oda, osl⟩ := o
      dsimp only at gc gd gf
      subst gc gd gf
      exact ⟨none, ge, rfl, rfl, trivial⟩
    · obtain ⟨mA, hn, hr⟩ := xdo_get I.hok hd
      obtain ⟨od, ho, hl⟩ := lookIn_ns hn
      obtain ⟨oc, odd, oda, osl⟩ := o
      dsimp only at gc gd gf
      subst gc gd gf
      exact ⟨some od, ge, rfl, rfl, ho⟩
  rcases hk with ⟨n, rfl, e⟩ | ⟨D, rfl, e⟩
  · cases rw'
    exact PySem.W.kia_one (kitx_y xc xi) I.kIn J e (fun z => nomatch z) fun tk => ⟨.bl b, H, I.tok tk, rfl, q⟩
  · cases rw'
    exact PySem.W.kia_one (kitx_y xc xi) I.kIn J e (fun z => nomatch z) fun tk => ⟨.bl b, H, I.tok tk, rfl, q⟩
theorem call_isyK {X : Cx} {K : PySem.W.Frag} (hK : X.K = K := by rfl) : CallR X (.builtin "isinstance") (rIsy K) := hK ▸ call_isy
theorem rIsy_r {K : PySem.W.Frag} {H : Hp} {Q : VK} {ea C D : Addr} {dx : Option Addr} {fs : List (Str × V)} {b : Bool} (hea : H ea = some (xh ea C dx)) (hd : XD H dx fs) (xc : XCls K C) (xi : XIs K C) (e : PySem.W.kitOne K (.ref C) (.ref D) = some b) (q : Q (.bl b) H) : rIsy K [.ref ea, .ref D] H Q :=
  ⟨ea, C, dx, fs, _, b, rfl, hea, hd, xc, xi, .inr ⟨D, rfl, e⟩, q⟩
theorem rIsy_t {K : PySem.W.Frag} {H : Hp} {Q : VK} {ea C : Addr} {n : String} {dx : Option Addr} {fs : List (Str × V)} {b : Bool} (hea : H ea = some (xh ea C dx)) (hd : XD H dx fs) (xc : XCls K C) (xi : XIs K C) (e : PySem.W.kitOne K (.ref C) (.type n) = some b) (q : Q (.bl b) H) : rIsy K [.ref ea, .ty n] H Q :=
  ⟨ea, C, dx, fs, _, b, rfl, hea, hd, xc, xi, .inl ⟨n, rfl, e⟩, q⟩
/-! ### an exception of a class, with these fields (none: no dict) -/
def XB (E : XK) (H : Hp) (C : Addr) (fs : List (Str × V)) : Prop := ∀ dx H', Same H H' → XD H' dx fs → (∀ d, dx = some d → H d = none) → E (.ref C) dx H'
def XG (H : Hp) (C : Addr) (fs : List (Str × V)) : XK := fun c dx H' => c = .ref C ∧ Same H H' ∧ XD H' dx fs ∧ ∀ d, dx = some d → H d = none
theorem xb_xg {H : Hp} {C : Addr} {fs : List (Str × V)} : XB (XG H C fs) H C fs := fun _ _ s d n => ⟨rfl, s, d, n⟩
theorem XB.zero {E : XK} {H : Hp} {C : Addr} (h : XB E H C []) : E (.ref C) none H := h none H (Same.refl _) (.inl ⟨rfl, rfl⟩) fun _ z => nomatch z
theorem XB.bears {E : XK} {H : Hp} {C : Addr} {fs : List (Str × V)} (h : XB E H C fs) : Bears E H C fs := fun d H' hd s e => h (some d) H' s (.inr ⟨d, rfl, e⟩) fun d' z => by cases z; exact hd
theorem XB.back {E : XK} {H H1 : Hp} {C : Addr} {fs : List (Str × V)} (h : XB E H C fs) (s : Same H H1) : XB E H1 C fs := fun dx H' s' d n => h dx H' (s.trans s') d fun d' z => same_back s (n d' z)
theorem XG.at {H H' : Hp} {C D ea : Addr} {fs : List (Str × V)} {dx : Option Addr} (g : XG H C fs (.ref D) dx H') (he : H' ea = none) : D = C ∧ Same H (upd H' ea (xh ea C dx)) ∧ upd H' ea (xh ea C dx) ea = some (xh ea C dx) ∧ XD (upd H' ea (xh ea C dx)) dx fs := by
  obtain ⟨e, sm, hd, _⟩ := g
  cases e
  refine ⟨rfl, fun b o hb => (upd_ne (ne_of_none (sm _ _ hb) he)).trans (sm _ _ hb), upd_same, hd.same fun b o hb => (upd_ne (ne_of_none hb he)).trans hb⟩
/-! ### what raises behind a call that doesn't -/
section
variable {X : Cx} {e : Expr} {pos : Pos} {rest : List Stmt} {st : Stmt}
theorem pxs_two {te : TE} {t1 t2 : TX} (h0 : PSx X (.Expr e pos) t1) (he : PE X.nox e te) (h : PSsx X rest t2) (hs : swapsWith e none pos.line X.env = pure false := by rfl) : PSsx X (.Expr e pos :: rest) (fun E σ H => t1 E σ H ∨ te σ H fun _ H1 => t2 E σ H1) := by
  intro pins s σ H E I q
  rcases q with q | q
  · exact wpAny_execs_cons (thn (h0 pins s σ H E I q) fun _ _ z => z.elim)
  · refine wpAny_execs_cons (wpAny_Expr_any (thx (he pins s σ H _ (I.wish _) q) fun v s1 ⟨x, H1, I1, r1, q1⟩ => ?_) I.quiet hs)
    exact h pins s1 σ H1 E I1.unwish q1
end
/-! ### a def that is called from a handler -/
structure FnU (P : Program) (w : World) (K : PySem.W.Frag) (mg : Str → Option Value) (base : Heap) (k : Nat) (f : Addr) (fd : FuncData) (ps : List Str) (sp : Sp) : Prop where
  len : ∀ vs H Q E, sp vs H Q E → vs.length = ps.length
  run : ∀ (A : Around) (ea : Addr) (outer : List Env) (s : Shared) (H : Hp) (args : Args) (us : List Value) (vs : List V) (Q : VK) (E : XK), Room k A → Env0 P w K mg base A outer s H → BindsTo s fd args (ps.zip us) → Vals vs us → sp vs H Q E →
    codeAny (model P w) (A.mark (some (.ref ea))) (.call (.ref f) args) (CR CX0 outer P w H s Q E) s
theorem fnU_of {P : Program} {w : World} {K : PySem.W.Frag} {mg : Str → Option Value} {base : Heap} {k : Nat} {f : Addr} {name qual : Str} {params : Arguments} {body : List Stmt} {scope : Scope} {dV kV doc pm cdv ct oc : Value} {an od : Option Addr}
    {osl : Array (Option Value)} {N ps : List Str} {sp : Sp} (lk : K.lookup f = some ⟨oc, od, .func (PySem.W.fnOf name qual params body scope dV kV doc pm an cdv ct), osl⟩) (hcd : PySem.W.codeIn K cdv qual = true) (S : FnScope N ps scope)
    (len : ∀ vs H Q E, sp vs H Q E → vs.length = ps.length)
    (hbody : ∀ (A : Around) (ea : Addr) (outer : List Env) (s : Shared) (H : Hp) (vs : List V) (Q : VK) (E : XK), Room k (A.deeper (envOfC qual scope s.heap.objs.size f cdv)) → sp vs H Q E →
      ∃ t, PSs ((cxOf CX0 P w K mg base N qual scope f cdv A outer s H E).han ea).nox body t ∧ t { nx := fun _ H' => Q .non H', rt := Q } (start N vs) H) :
    FnU P w K mg base (k + 1) f (PySem.W.fnOf name qual params body scope dV kV doc pm an cdv ct) ps sp := by
  refine ⟨len, fun A ea outer s H args us vs Q E hr e0 hb r hsp => ?_⟩
  have hl := len _ _ _ _ hsp
  have KX : K.In s.heap := e0.mod.kin.keeps fun b o e => (e0.bs b o e).1
  have lim : s.heap.NoLimit := e0.mod.nolimit.keeps fun b o e => (e0.bs b o e).1
  have hkind : ∀ y ∈ ps.zip us, scope.names.lookup y.1 = some .local ∨ (scope.names.lookup y.1 = some .cell ∧ ((cellsFrom (s.heap.objs.size + 1) scope.names []).lookup y.1).isSome = true) := fun ⟨n, v⟩ hy => by
    rcases S.par n (List.of_mem_zip hy).1 with q | q
    · exact .inl q
    · exact .inr ⟨q, PySem.W.cellsFrom_some _ _ _ (.inl q)⟩
  refine codeAny_call_function (A := A.mark (some (.ref ea))) hr.depth (KX _ _ lk) rfl S.co S.gen rfl (PySem.W.codeRec_of KX hcd) (hb _ _ _ _ ?_)
  refine wpAny_newFunctionEnv_cells S.kind hkind fun env he s1 x => ?_
  subst he
  refine ⟨lim.keeps x.toInCall.keep, codeAny_func ?_⟩
  obtain ⟨t, ht, hq⟩ := hbody A ea outer s H vs Q E (hr.deeper _) hsp
  have I : Inv (cxOf CX0 P w K mg base N qual scope f cdv A outer s H E) [] (start N vs) H s1 := inv_start S hr.hd e0 hl r x
  refine wpAny_mono (ht [] s1 (start N vs) H _ ((I.han ea).wish _) hq) (fun fl s' hs => ?_) fun e s' hs => hs.elim
  have fin : ∀ {σ' : St} {H' : Hp} {v : V} {u : Value}, Inv (cxOf CX0 P w K mg base N qual scope f cdv A outer s H E) [] σ' H' s' → RelV v u → Q v H' → CE outer P w H s Q u s' :=
    fun {σ' H' v u} J rv q => ⟨v, H', J.os, J.bare, J.base, J.hok, rv, q⟩
  cases fl with
  | ret u =>
    obtain ⟨v, σ', H', J, rv, q⟩ := hs
    exact fin (J.unwish.unhan I.ok) rv q
  | next =>
    obtain ⟨σ', H', J, q⟩ := hs
    exact fin (v := V.non) (u := Value.none) (J.unwish.unhan I.ok) rfl q
  | brk =>
    obtain ⟨_, _, _, q⟩ := hs
    exact False.elim q
  | cont =>
    obtain ⟨_, _, _, q⟩ := hs
    exact False.elim q
section
variable {P : Program} {w : World} {K : PySem.W.Frag} {mg : Str → Option Value} {base : Heap}
theorem Fun.okU {x qual : Str} {st : Stmt} {f : Addr} {fd : FuncData} {N ps : List Str} {k : Nat} {sp : Sp} (F : Fun K x qual st f fd) (S : FnScope N ps (defScope st)) (len : ∀ vs H Q E, sp vs H Q E → vs.length = ps.length)
    (hbody : ∀ (cdv : Value) (A : Around) (eh : Addr) (outer : List Env) (s : Shared) (H : Hp) (vs : List V) (Q : VK) (E : XK), Room k (A.deeper (envOfC qual (defScope st) s.heap.objs.size f cdv)) → sp vs H Q E →
      ∃ t, PSs ((cxOf CX0 P w K mg base N qual (defScope st) f cdv A outer s H E).han eh).nox (defBody st) t ∧ t { nx := fun _ H' => Q .non H', rt := Q } (start N vs) H) : FnU P w K mg base (k + 1) f fd ps sp := by
  obtain ⟨oc, od, kV, doc, pm, an, cdv, ct, osl, rfl, lk, hcd⟩ := F.ex
  exact fnU_of lk hcd S len fun A ea outer s H vs Q E hr hsp => hbody cdv A ea outer s H vs Q E hr hsp
end
section
variable {X : Cx} {ea : Addr} {k : Nat} {f : Addr} {fd : FuncData} {ps : List Str} {sp : Sp} {ds : List Value} {dvs : List V} {x : Str} {p pos : Pos} {e : Expr} {es : List Expr} {t : TA}
theorem run_fnU {pins : List (Addr × Obj)} {σ : St} {H : Hp} {s : Shared} {Q : VK} {us : List Value} {vs : List V} (F : FnU X.prog X.w X.K X.mg X.base k f fd ps sp) (hr : Room k X.A) (hb : Binds X.K fd ps ds) (hd : Vals dvs ds)
    (I : Inv (X.han ea).nox pins σ H s) (r : Vals vs us) (h : sp (vs ++ dvs) H Q E0) : wpAny (model X.prog X.w) (X.han ea).A (call (.ref f) us) (EP (X.han ea).nox pins σ Q) (X.han ea).nox.xe s := by
  have r2 : Vals (vs ++ dvs) (us ++ ds) := r.append hd
  have hl : (us ++ ds).length = ps.length := by rw [← r2.length]; exact F.len _ _ _ _ h
  have e0 := I.env0
  refine wpAny_call (codeAny_mono (F.run X.A ea X.stack s H ⟨us, []⟩ (us ++ ds) (vs ++ dvs) Q E0 hr ⟨e0.frames, e0.mod, e0.bs, e0.bsz, e0.funs, e0.frf, e0.hok, e0.bare⟩ (hb s us I.kIn hl) r2 h) fun r s' hq => ?_)
  cases r with
  | error e => exact False.elim hq
  | ok fl =>
    cases fl with
    | ret u => exact I.after hq
    | next => exact False.elim hq
    | brk => exact False.elim hq
    | cont => exact False.elim hq
theorem pe_callU (F : FnU X.prog X.w X.K X.mg X.base k f fd ps sp) (hr : Room k X.A) (hg : Gl X x) (hm : X.mg x = some (.ref f)) (hk : PySem.W.keepIn X.K (.ref f) = true) (hb : Binds X.K fd ps ds) (hd : Vals dvs ds)
    (ha : PA (X.han ea).nox (e :: es) t) (hdb : (x == ("__debug__" : Str)) = false := by decide) (he : starEach (e :: es) X.env = (false, eval e X.env) :: starEach es X.env := by rfl) (hpl : (backTo pos (starEach es X.env)).any (·.1) = false := by rfl) :
    PE (X.han ea).nox (.Call (.Name x p) (e :: es) [] pos) (tCall sp dvs E0 t) := by
  intro pins s σ H Q I h
  refine wpAny_Call_Name_kw (ld_glob I hg hm ?_ hdb)
  refine PySem.W.callWith_K (h₀ := X.base) I.ok.mod.kin hk (thn (ha pos pins s σ H _ I h) fun us s1 ⟨vs, H1, I1, r, q⟩ => ⟨I1.kIn, ?_⟩) he hpl
  exact run_fnU (X := X) (ea := ea) F hr hb hd I1 r q
end
end L2

set_option Elab.async false
set_option linter.all false
set_option maxRecDepth 100000
set_option maxHeartbeats 4000000
set_option pp.deepTerms true
set_option pp.maxSteps 200000
namespace K06
open PySem PySem.Spec PyProof.Rows L2
def top (i : Nat) : Stmt := PySem.Challenge.pw_lettercell_k06_what_is_refused.main.body.getD i (.Pass ⟨0, 0, 0, 0⟩)
abbrev s_NoSuch___init__ : Stmt := inClass (top 3) 0
theorem sc_NoSuch___init__ : FnScope ["self", "name"] ["self", "name"] (defScope s_NoSuch___init__) := ⟨rfl, rfl, rfl, by decide +kernel, rfl, by decide +kernel, by decide +kernel⟩
abbrev s_Doubled___init__ : Stmt := inClass (top 4) 0
theorem sc_Doubled___init__ : FnScope ["self", "name"] ["self", "name"] (defScope s_Doubled___init__) := ⟨rfl, rfl, rfl, by decide +kernel, rfl, by decide +kernel, by decide +kernel⟩
abbrev s_Broken___init__ : Stmt := inClass (top 5) 0
theorem sc_Broken___init__ : FnScope ["self", "line"] ["self", "line"] (defScope s_Broken___init__) := ⟨rfl, rfl, rfl, by decide +kernel, rfl, by decide +kernel, by decide +kernel⟩
abbrev s_Fenced___init__ : Stmt := inClass (top 7) 0
theorem sc_Fenced___init__ : FnScope ["self", "life"] ["self", "life"] (defScope s_Fenced___init__) := ⟨rfl, rfl, rfl, by decide +kernel, rfl, by decide +kernel, by decide +kernel⟩
abbrev s_Gap___init__ : Stmt := inClass (top 8) 0
theorem sc_Gap___init__ : FnScope ["self", "due"] ["self", "due"] (defScope s_Gap___init__) := ⟨rfl, rfl, rfl, by decide +kernel, rfl, by decide +kernel, by decide +kernel⟩
abbrev s_TooOld___init__ : Stmt := inClass (top 9) 0
theorem sc_TooOld___init__ : FnScope ["self", "number"] ["self", "number"] (defScope s_TooOld___init__) := ⟨rfl, rfl, rfl, by decide +kernel, rfl, by decide +kernel, by decide +kernel⟩
abbrev s_Late___init__ : Stmt := inClass (top 11) 0
theorem sc_Late___init__ : FnScope ["self", "row", "loan"] ["self", "row", "loan"] (defScope s_Late___init__) := ⟨rfl, rfl, rfl, by decide +kernel, rfl, by decide +kernel, by decide +kernel⟩
abbrev s_NotYours___init__ : Stmt := inClass (top 12) 0
theorem sc_NotYours___init__ : FnScope ["self", "row", "owner"] ["self", "row", "owner"] (defScope s_NotYours___init__) := ⟨rfl, rfl, rfl, by decide +kernel, rfl, by decide +kernel, by decide +kernel⟩
abbrev s_Twice___init__ : Stmt := inClass (top 13) 0
theorem sc_Twice___init__ : FnScope ["self", "row", "loan"] ["self", "row", "loan"] (defScope s_Twice___init__) := ⟨rfl, rfl, rfl, by decide +kernel, rfl, by decide +kernel, by decide +kernel⟩
abbrev s_Busy___init__ : Stmt := inClass (top 15) 0
theorem sc_Busy___init__ : FnScope ["self", "deed"] ["self", "deed"] (defScope s_Busy___init__) := ⟨rfl, rfl, rfl, by decide +kernel, rfl, by decide +kernel, by decide +kernel⟩
abbrev s_NoDeed___init__ : Stmt := inClass (top 16) 0
theorem sc_NoDeed___init__ : FnScope ["self", "name"] ["self", "name"] (defScope s_NoDeed___init__) := ⟨rfl, rfl, rfl, by decide +kernel, rfl, by decide +kernel, by decide +kernel⟩
abbrev s_WrongKind___init__ : Stmt := inClass (top 18) 0
theorem sc_WrongKind___init__ : FnScope ["self", "row"] ["self", "row"] (defScope s_WrongKind___init__) := ⟨rfl, rfl, rfl, by decide +kernel, rfl, by decide +kernel, by decide +kernel⟩
abbrev s_Needed___init__ : Stmt := inClass (top 19) 0
theorem sc_Needed___init__ : FnScope ["self", "row", "place"] ["self", "row", "place"] (defScope s_Needed___init__) := ⟨rfl, rfl, rfl, by decide +kernel, rfl, by decide +kernel, by decide +kernel⟩
abbrev s_Gone___init__ : Stmt := inClass (top 20) 0
theorem sc_Gone___init__ : FnScope ["self", "row", "place"] ["self", "row", "place"] (defScope s_Gone___init__) := ⟨rfl, rfl, rfl, by decide +kernel, rfl, by decide +kernel, by decide +kernel⟩
abbrev s_Beyond___init__ : Stmt := inClass (top 21) 0
theorem sc_Beyond___init__ : FnScope ["self", "row", "place"] ["self", "row", "place"] (defScope s_Beyond___init__) := ⟨rfl, rfl, rfl, by decide +kernel, rfl, by decide +kernel, by decide +kernel⟩
abbrev s_l_cell_at : Stmt := top 23
theorem sc_l_cell_at : FnScope ["_law_script", "_law_k"] ["_law_script", "_law_k"] (defScope s_l_cell_at) := ⟨rfl, rfl, rfl, by decide +kernel, rfl, by decide +kernel, by decide +kernel⟩
abbrev s_l_mixed : Stmt := top 24
theorem sc_l_mixed : FnScope ["_law_cell", "_law_k", "_law_number"] ["_law_cell", "_law_k"] (defScope s_l_mixed) := ⟨rfl, rfl, rfl, by decide +kernel, rfl, by decide +kernel, by decide +kernel⟩
abbrev s_l_kinds : Stmt := top 25
theorem sc_l_kinds : FnScope ["_law_e", "_law_found"] ["_law_e"] (defScope s_l_kinds) := ⟨rfl, rfl, rfl, by decide +kernel, rfl, by decide +kernel, by decide +kernel⟩
abbrev s_l_gathered : Stmt := top 26
theorem sc_l_gathered : FnScope ["_law_e", "_law_found"] ["_law_e"] (defScope s_l_gathered) := ⟨rfl, rfl, rfl, by decide +kernel, rfl, by decide +kernel, by decide +kernel⟩
abbrev s_l_raise_first : Stmt := top 27
theorem sc_l_raise_first : FnScope ["_law_which", "_law_one"] ["_law_which", "_law_one"] (defScope s_l_raise_first) := ⟨rfl, rfl, rfl, by decide +kernel, rfl, by decide +kernel, by decide +kernel⟩
abbrev s_l_raise_more : Stmt := top 28
theorem sc_l_raise_more : FnScope ["_law_which", "_law_one", "_law_other"] ["_law_which", "_law_one", "_law_other"] (defScope s_l_raise_more) := ⟨rfl, rfl, rfl, by decide +kernel, rfl, by decide +kernel, by decide +kernel⟩
abbrev s_l_fields_first : Stmt := top 29
theorem sc_l_fields_first : FnScope ["_law_e"] ["_law_e"] (defScope s_l_fields_first) := ⟨rfl, rfl, rfl, by decide +kernel, rfl, by decide +kernel, by decide +kernel⟩
abbrev s_l_fields_more : Stmt := top 30
theorem sc_l_fields_more : FnScope ["_law_e"] ["_law_e"] (defScope s_l_fields_more) := ⟨rfl, rfl, rfl, by decide +kernel, rfl, by decide +kernel, by decide +kernel⟩
abbrev s_l_field : Stmt := top 31
theorem sc_l_field : FnScope ["_law_cell", "_law_k", "_law_way", "_law_number"] ["_law_cell", "_law_k"] (defScope s_l_field) := ⟨rfl, rfl, rfl, by decide +kernel, rfl, by decide +kernel, by decide +kernel⟩
abbrev s_l_due_fields : Stmt := top 32
theorem sc_l_due_fields : FnScope ["_law_which", "_law_one", "_law_other"] ["_law_which", "_law_one", "_law_other"] (defScope s_l_due_fields) := ⟨rfl, rfl, rfl, by decide +kernel, rfl, by decide +kernel, by decide +kernel⟩
abbrev s_law : Stmt := top 33
theorem sc_law : FnScope ["_law_script", "_law_k", "_law_cell", "_law_which", "_law_one", "_law_other", "_law_seen", "_law_e", "_law_fields", "_law_kinds_here", "_law_gathers"] ["_law_script"] (defScope s_law) := ⟨rfl, rfl, rfl, by decide +kernel, rfl, by decide +kernel, by decide +kernel⟩
structure Adr where
  C_BadWord : Addr
  C_Beyond : Addr
  C_Broken : Addr
  C_Busy : Addr
  C_CellarError : Addr
  C_DeedError : Addr
  C_Doubled : Addr
  C_Fenced : Addr
  C_Gap : Addr
  C_Gone : Addr
  C_Late : Addr
  C_LoanError : Addr
  C_Needed : Addr
  C_NoDeed : Addr
  C_NoSuch : Addr
  C_NotYours : Addr
  C_RowError : Addr
  C_SenderError : Addr
  C_TooOld : Addr
  C_Twice : Addr
  C_WrongKind : Addr
  f_NoSuch___init__ : Addr
  d_NoSuch___init__ : FuncData
  f_Doubled___init__ : Addr
  d_Doubled___init__ : FuncData
  f_Broken___init__ : Addr
  d_Broken___init__ : FuncData
  f_Fenced___init__ : Addr
  d_Fenced___init__ : FuncData
  f_Gap___init__ : Addr
  d_Gap___init__ : FuncData
  f_TooOld___init__ : Addr
  d_TooOld___init__ : FuncData
  f_Late___init__ : Addr
  d_Late___init__ : FuncData
  f_NotYours___init__ : Addr
  d_NotYours___init__ : FuncData
  f_Twice___init__ : Addr
  d_Twice___init__ : FuncData
  f_Busy___init__ : Addr
  d_Busy___init__ : FuncData
  f_NoDeed___init__ : Addr
  d_NoDeed___init__ : FuncData
  f_WrongKind___init__ : Addr
  d_WrongKind___init__ : FuncData
  f_Needed___init__ : Addr
  d_Needed___init__ : FuncData
  f_Gone___init__ : Addr
  d_Gone___init__ : FuncData
  f_Beyond___init__ : Addr
  d_Beyond___init__ : FuncData
  f_l_cell_at : Addr
  d_l_cell_at : FuncData
  f_l_mixed : Addr
  d_l_mixed : FuncData
  f_l_kinds : Addr
  d_l_kinds : FuncData
  f_l_gathered : Addr
  d_l_gathered : FuncData
  f_l_raise_first : Addr
  d_l_raise_first : FuncData
  f_l_raise_more : Addr
  d_l_raise_more : FuncData
  f_l_fields_first : Addr
  d_l_fields_first : FuncData
  f_l_fields_more : Addr
  d_l_fields_more : FuncData
  f_l_field : Addr
  d_l_field : FuncData
  f_l_due_fields : Addr
  d_l_due_fields : FuncData
  f_law : Addr
  d_law : FuncData
structure Txt (K : PySem.W.Frag) (mg : Str → Option Value) (a : Adr) : Prop where
  F_NoSuch___init__ : Fun K "__init__" "NoSuch.__init__" s_NoSuch___init__ a.f_NoSuch___init__ a.d_NoSuch___init__
  b_NoSuch___init__ : Binds K a.d_NoSuch___init__ ["self", "name"] []
  F_Doubled___init__ : Fun K "__init__" "Doubled.__init__" s_Doubled___init__ a.f_Doubled___init__ a.d_Doubled___init__
  b_Doubled___init__ : Binds K a.d_Doubled___init__ ["self", "name"] []
  F_Broken___init__ : Fun K "__init__" "Broken.__init__" s_Broken___init__ a.f_Broken___init__ a.d_Broken___init__
  b_Broken___init__ : Binds K a.d_Broken___init__ ["self", "line"] []
  F_Fenced___init__ : Fun K "__init__" "Fenced.__init__" s_Fenced___init__ a.f_Fenced___init__ a.d_Fenced___init__
  b_Fenced___init__ : Binds K a.d_Fenced___init__ ["self", "life"] []
  F_Gap___init__ : Fun K "__init__" "Gap.__init__" s_Gap___init__ a.f_Gap___init__ a.d_Gap___init__
  b_Gap___init__ : Binds K a.d_Gap___init__ ["self", "due"] []
  F_TooOld___init__ : Fun K "__init__" "TooOld.__init__" s_TooOld___init__ a.f_TooOld___init__ a.d_TooOld___init__
  b_TooOld___init__ : Binds K a.d_TooOld___init__ ["self", "number"] []
  F_Late___init__ : Fun K "__init__" "Late.__init__" s_Late___init__ a.f_Late___init__ a.d_Late___init__
  b_Late___init__ : Binds K a.d_Late___init__ ["self", "row", "loan"] []
  F_NotYours___init__ : Fun K "__init__" "NotYours.__init__" s_NotYours___init__ a.f_NotYours___init__ a.d_NotYours___init__
  b_NotYours___init__ : Binds K a.d_NotYours___init__ ["self", "row", "owner"] []
  F_Twice___init__ : Fun K "__init__" "Twice.__init__" s_Twice___init__ a.f_Twice___init__ a.d_Twice___init__
  b_Twice___init__ : Binds K a.d_Twice___init__ ["self", "row", "loan"] []
  F_Busy___init__ : Fun K "__init__" "Busy.__init__" s_Busy___init__ a.f_Busy___init__ a.d_Busy___init__
  b_Busy___init__ : Binds K a.d_Busy___init__ ["self", "deed"] []
  F_NoDeed___init__ : Fun K "__init__" "NoDeed.__init__" s_NoDeed___init__ a.f_NoDeed___init__ a.d_NoDeed___init__
  b_NoDeed___init__ : Binds K a.d_NoDeed___init__ ["self", "name"] []
  F_WrongKind___init__ : Fun K "__init__" "WrongKind.__init__" s_WrongKind___init__ a.f_WrongKind___init__ a.d_WrongKind___init__
  b_WrongKind___init__ : Binds K a.d_WrongKind___init__ ["self", "row"] []
  F_Needed___init__ : Fun K "__init__" "Needed.__init__" s_Needed___init__ a.f_Needed___init__ a.d_Needed___init__
  b_Needed___init__ : Binds K a.d_Needed___init__ ["self", "row", "place"] []
  F_Gone___init__ : Fun K "__init__" "Gone.__init__" s_Gone___init__ a.f_Gone___init__ a.d_Gone___init__
  b_Gone___init__ : Binds K a.d_Gone___init__ ["self", "row", "place"] []
  F_Beyond___init__ : Fun K "__init__" "Beyond.__init__" s_Beyond___init__ a.f_Beyond___init__ a.d_Beyond___init__
  b_Beyond___init__ : Binds K a.d_Beyond___init__ ["self", "row", "place"] []
  F_l_cell_at : Fun K "_law_cell_at" "_law_cell_at" s_l_cell_at a.f_l_cell_at a.d_l_cell_at
  b_l_cell_at : Binds K a.d_l_cell_at ["_law_script", "_law_k"] []
  m_l_cell_at : mg "_law_cell_at" = some (.ref a.f_l_cell_at)
  F_l_mixed : Fun K "_law_mixed" "_law_mixed" s_l_mixed a.f_l_mixed a.d_l_mixed
  b_l_mixed : Binds K a.d_l_mixed ["_law_cell", "_law_k"] []
  m_l_mixed : mg "_law_mixed" = some (.ref a.f_l_mixed)
  F_l_kinds : Fun K "_law_kinds" "_law_kinds" s_l_kinds a.f_l_kinds a.d_l_kinds
  b_l_kinds : Binds K a.d_l_kinds ["_law_e"] []
  m_l_kinds : mg "_law_kinds" = some (.ref a.f_l_kinds)
  F_l_gathered : Fun K "_law_gathered" "_law_gathered" s_l_gathered a.f_l_gathered a.d_l_gathered
  b_l_gathered : Binds K a.d_l_gathered ["_law_e"] []
  m_l_gathered : mg "_law_gathered" = some (.ref a.f_l_gathered)
  F_l_raise_first : Fun K "_law_raise_first" "_law_raise_first" s_l_raise_first a.f_l_raise_first a.d_l_raise_first
  b_l_raise_first : Binds K a.d_l_raise_first ["_law_which", "_law_one"] []
  m_l_raise_first : mg "_law_raise_first" = some (.ref a.f_l_raise_first)
  F_l_raise_more : Fun K "_law_raise_more" "_law_raise_more" s_l_raise_more a.f_l_raise_more a.d_l_raise_more
  b_l_raise_more : Binds K a.d_l_raise_more ["_law_which", "_law_one", "_law_other"] []
  m_l_raise_more : mg "_law_raise_more" = some (.ref a.f_l_raise_more)
  F_l_fields_first : Fun K "_law_fields_first" "_law_fields_first" s_l_fields_first a.f_l_fields_first a.d_l_fields_first
  b_l_fields_first : Binds K a.d_l_fields_first ["_law_e"] []
  m_l_fields_first : mg "_law_fields_first" = some (.ref a.f_l_fields_first)
  F_l_fields_more : Fun K "_law_fields_more" "_law_fields_more" s_l_fields_more a.f_l_fields_more a.d_l_fields_more
  b_l_fields_more : Binds K a.d_l_fields_more ["_law_e"] []
  m_l_fields_more : mg "_law_fields_more" = some (.ref a.f_l_fields_more)
  F_l_field : Fun K "_law_field" "_law_field" s_l_field a.f_l_field a.d_l_field
  b_l_field : Binds K a.d_l_field ["_law_cell", "_law_k"] []
  m_l_field : mg "_law_field" = some (.ref a.f_l_field)
  F_l_due_fields : Fun K "_law_due_fields" "_law_due_fields" s_l_due_fields a.f_l_due_fields a.d_l_due_fields
  b_l_due_fields : Binds K a.d_l_due_fields ["_law_which", "_law_one", "_law_other"] []
  m_l_due_fields : mg "_law_due_fields" = some (.ref a.f_l_due_fields)
  F_law : Fun K "law" "law" s_law a.f_law a.d_law
  b_law : Binds K a.d_law ["_law_script"] []
  m_law : mg "law" = some (.ref a.f_law)
  mg_BadWord : mg "BadWord" = some (.ref a.C_BadWord)
  mg_Beyond : mg "Beyond" = some (.ref a.C_Beyond)
  mg_Broken : mg "Broken" = some (.ref a.C_Broken)
  mg_Busy : mg "Busy" = some (.ref a.C_Busy)
  mg_CellarError : mg "CellarError" = some (.ref a.C_CellarError)
  mg_DeedError : mg "DeedError" = some (.ref a.C_DeedError)
  mg_Doubled : mg "Doubled" = some (.ref a.C_Doubled)
  mg_Fenced : mg "Fenced" = some (.ref a.C_Fenced)
  mg_Gap : mg "Gap" = some (.ref a.C_Gap)
  mg_Gone : mg "Gone" = some (.ref a.C_Gone)
  mg_Late : mg "Late" = some (.ref a.C_Late)
  mg_LoanError : mg "LoanError" = some (.ref a.C_LoanError)
  mg_Needed : mg "Needed" = some (.ref a.C_Needed)
  mg_NoDeed : mg "NoDeed" = some (.ref a.C_NoDeed)
  mg_NoSuch : mg "NoSuch" = some (.ref a.C_NoSuch)
  mg_NotYours : mg "NotYours" = some (.ref a.C_NotYours)
  mg_RowError : mg "RowError" = some (.ref a.C_RowError)
  mg_SenderError : mg "SenderError" = some (.ref a.C_SenderError)
  mg_TooOld : mg "TooOld" = some (.ref a.C_TooOld)
  mg_Twice : mg "Twice" = some (.ref a.C_Twice)
  mg_WrongKind : mg "WrongKind" = some (.ref a.C_WrongKind)
  x_BadWord : XCls K a.C_BadWord
  xi0_BadWord : PySem.W.findIn K (.ref a.C_BadWord) "__init__" = some (some (.builtin "ValueError.__init__"))
  em_BadWord_CellarError : PySem.W.exmOne K (.ref a.C_BadWord) (.ref a.C_CellarError) = some true
  xs_BadWord : XIs K a.C_BadWord
  ki_BadWord_BadWord : PySem.W.kitOne K (.ref a.C_BadWord) (.ref a.C_BadWord) = some true
  ki_BadWord_Beyond : PySem.W.kitOne K (.ref a.C_BadWord) (.ref a.C_Beyond) = some false
  ki_BadWord_Broken : PySem.W.kitOne K (.ref a.C_BadWord) (.ref a.C_Broken) = some false
  ki_BadWord_Busy : PySem.W.kitOne K (.ref a.C_BadWord) (.ref a.C_Busy) = some false
  ki_BadWord_DeedError : PySem.W.kitOne K (.ref a.C_BadWord) (.ref a.C_DeedError) = some false
  ki_BadWord_Doubled : PySem.W.kitOne K (.ref a.C_BadWord) (.ref a.C_Doubled) = some false
  ki_BadWord_Fenced : PySem.W.kitOne K (.ref a.C_BadWord) (.ref a.C_Fenced) = some false
  ki_BadWord_Gap : PySem.W.kitOne K (.ref a.C_BadWord) (.ref a.C_Gap) = some false
  ki_BadWord_Gone : PySem.W.kitOne K (.ref a.C_BadWord) (.ref a.C_Gone) = some false
  ki_BadWord_Late : PySem.W.kitOne K (.ref a.C_BadWord) (.ref a.C_Late) = some false
  ki_BadWord_LoanError : PySem.W.kitOne K (.ref a.C_BadWord) (.ref a.C_LoanError) = some false
  ki_BadWord_Needed : PySem.W.kitOne K (.ref a.C_BadWord) (.ref a.C_Needed) = some false
  ki_BadWord_NoDeed : PySem.W.kitOne K (.ref a.C_BadWord) (.ref a.C_NoDeed) = some false
  ki_BadWord_NoSuch : PySem.W.kitOne K (.ref a.C_BadWord) (.ref a.C_NoSuch) = some false
  ki_BadWord_NotYours : PySem.W.kitOne K (.ref a.C_BadWord) (.ref a.C_NotYours) = some false
  ki_BadWord_RowError : PySem.W.kitOne K (.ref a.C_BadWord) (.ref a.C_RowError) = some false
  ki_BadWord_SenderError : PySem.W.kitOne K (.ref a.C_BadWord) (.ref a.C_SenderError) = some false
  ki_BadWord_TooOld : PySem.W.kitOne K (.ref a.C_BadWord) (.ref a.C_TooOld) = some false
  ki_BadWord_Twice : PySem.W.kitOne K (.ref a.C_BadWord) (.ref a.C_Twice) = some false
  ki_BadWord_ValueError : PySem.W.kitOne K (.ref a.C_BadWord) (.type "ValueError") = some true
  ki_BadWord_WrongKind : PySem.W.kitOne K (.ref a.C_BadWord) (.ref a.C_WrongKind) = some false
  x_Beyond : XCls K a.C_Beyond
  xi_Beyond : PySem.W.findIn K (.ref a.C_Beyond) "__init__" = some (some (.ref a.f_Beyond___init__))
  xf_Beyond : PySem.W.isFn K (.ref a.f_Beyond___init__) = true
  no_Beyond_place : NoAttr K a.C_Beyond "place"
  no_Beyond_row : NoAttr K a.C_Beyond "row"
  em_Beyond_CellarError : PySem.W.exmOne K (.ref a.C_Beyond) (.ref a.C_CellarError) = some true
  xs_Beyond : XIs K a.C_Beyond
  ki_Beyond_BadWord : PySem.W.kitOne K (.ref a.C_Beyond) (.ref a.C_BadWord) = some false
  ki_Beyond_Beyond : PySem.W.kitOne K (.ref a.C_Beyond) (.ref a.C_Beyond) = some true
  ki_Beyond_Broken : PySem.W.kitOne K (.ref a.C_Beyond) (.ref a.C_Broken) = some false
  ki_Beyond_Busy : PySem.W.kitOne K (.ref a.C_Beyond) (.ref a.C_Busy) = some false
  ki_Beyond_DeedError : PySem.W.kitOne K (.ref a.C_Beyond) (.ref a.C_DeedError) = some false
  ki_Beyond_Doubled : PySem.W.kitOne K (.ref a.C_Beyond) (.ref a.C_Doubled) = some false
  ki_Beyond_Fenced : PySem.W.kitOne K (.ref a.C_Beyond) (.ref a.C_Fenced) = some false
  ki_Beyond_Gap : PySem.W.kitOne K (.ref a.C_Beyond) (.ref a.C_Gap) = some false
  ki_Beyond_Gone : PySem.W.kitOne K (.ref a.C_Beyond) (.ref a.C_Gone) = some false
  ki_Beyond_Late : PySem.W.kitOne K (.ref a.C_Beyond) (.ref a.C_Late) = some false
  ki_Beyond_LoanError : PySem.W.kitOne K (.ref a.C_Beyond) (.ref a.C_LoanError) = some false
  ki_Beyond_Needed : PySem.W.kitOne K (.ref a.C_Beyond) (.ref a.C_Needed) = some false
  ki_Beyond_NoDeed : PySem.W.kitOne K (.ref a.C_Beyond) (.ref a.C_NoDeed) = some false
  ki_Beyond_NoSuch : PySem.W.kitOne K (.ref a.C_Beyond) (.ref a.C_NoSuch) = some false
  ki_Beyond_NotYours : PySem.W.kitOne K (.ref a.C_Beyond) (.ref a.C_NotYours) = some false
  ki_Beyond_RowError : PySem.W.kitOne K (.ref a.C_Beyond) (.ref a.C_RowError) = some true
  ki_Beyond_SenderError : PySem.W.kitOne K (.ref a.C_Beyond) (.ref a.C_SenderError) = some false
  ki_Beyond_TooOld : PySem.W.kitOne K (.ref a.C_Beyond) (.ref a.C_TooOld) = some false
  ki_Beyond_Twice : PySem.W.kitOne K (.ref a.C_Beyond) (.ref a.C_Twice) = some false
  ki_Beyond_ValueError : PySem.W.kitOne K (.ref a.C_Beyond) (.type "ValueError") = some true
  ki_Beyond_WrongKind : PySem.W.kitOne K (.ref a.C_Beyond) (.ref a.C_WrongKind) = some false
  x_Broken : XCls K a.C_Broken
  xi_Broken : PySem.W.findIn K (.ref a.C_Broken) "__init__" = some (some (.ref a.f_Broken___init__))
  xf_Broken : PySem.W.isFn K (.ref a.f_Broken___init__) = true
  no_Broken_line : NoAttr K a.C_Broken "line"
  em_Broken_CellarError : PySem.W.exmOne K (.ref a.C_Broken) (.ref a.C_CellarError) = some true
  xs_Broken : XIs K a.C_Broken
  ki_Broken_BadWord : PySem.W.kitOne K (.ref a.C_Broken) (.ref a.C_BadWord) = some false
  ki_Broken_Beyond : PySem.W.kitOne K (.ref a.C_Broken) (.ref a.C_Beyond) = some false
  ki_Broken_Broken : PySem.W.kitOne K (.ref a.C_Broken) (.ref a.C_Broken) = some true
  ki_Broken_Busy : PySem.W.kitOne K (.ref a.C_Broken) (.ref a.C_Busy) = some false
  ki_Broken_DeedError : PySem.W.kitOne K (.ref a.C_Broken) (.ref a.C_DeedError) = some false
  ki_Broken_Doubled : PySem.W.kitOne K (.ref a.C_Broken) (.ref a.C_Doubled) = some false
  ki_Broken_Fenced : PySem.W.kitOne K (.ref a.C_Broken) (.ref a.C_Fenced) = some false
  ki_Broken_Gap : PySem.W.kitOne K (.ref a.C_Broken) (.ref a.C_Gap) = some false
  ki_Broken_Gone : PySem.W.kitOne K (.ref a.C_Broken) (.ref a.C_Gone) = some false
  ki_Broken_Late : PySem.W.kitOne K (.ref a.C_Broken) (.ref a.C_Late) = some false
  ki_Broken_LoanError : PySem.W.kitOne K (.ref a.C_Broken) (.ref a.C_LoanError) = some false
  ki_Broken_Needed : PySem.W.kitOne K (.ref a.C_Broken) (.ref a.C_Needed) = some false
  ki_Broken_NoDeed : PySem.W.kitOne K (.ref a.C_Broken) (.ref a.C_NoDeed) = some false
  ki_Broken_NoSuch : PySem.W.kitOne K (.ref a.C_Broken) (.ref a.C_NoSuch) = some false
  ki_Broken_NotYours : PySem.W.kitOne K (.ref a.C_Broken) (.ref a.C_NotYours) = some false
  ki_Broken_RowError : PySem.W.kitOne K (.ref a.C_Broken) (.ref a.C_RowError) = some false
  ki_Broken_SenderError : PySem.W.kitOne K (.ref a.C_Broken) (.ref a.C_SenderError) = some false
  ki_Broken_TooOld : PySem.W.kitOne K (.ref a.C_Broken) (.ref a.C_TooOld) = some false
  ki_Broken_Twice : PySem.W.kitOne K (.ref a.C_Broken) (.ref a.C_Twice) = some false
  ki_Broken_ValueError : PySem.W.kitOne K (.ref a.C_Broken) (.type "ValueError") = some true
  ki_Broken_WrongKind : PySem.W.kitOne K (.ref a.C_Broken) (.ref a.C_WrongKind) = some false
  x_Busy : XCls K a.C_Busy
  xi_Busy : PySem.W.findIn K (.ref a.C_Busy) "__init__" = some (some (.ref a.f_Busy___init__))
  xf_Busy : PySem.W.isFn K (.ref a.f_Busy___init__) = true
  no_Busy_deed : NoAttr K a.C_Busy "deed"
  em_Busy_CellarError : PySem.W.exmOne K (.ref a.C_Busy) (.ref a.C_CellarError) = some true
  xs_Busy : XIs K a.C_Busy
  ki_Busy_BadWord : PySem.W.kitOne K (.ref a.C_Busy) (.ref a.C_BadWord) = some false
  ki_Busy_Beyond : PySem.W.kitOne K (.ref a.C_Busy) (.ref a.C_Beyond) = some false
  ki_Busy_Broken : PySem.W.kitOne K (.ref a.C_Busy) (.ref a.C_Broken) = some false
  ki_Busy_Busy : PySem.W.kitOne K (.ref a.C_Busy) (.ref a.C_Busy) = some true
  ki_Busy_DeedError : PySem.W.kitOne K (.ref a.C_Busy) (.ref a.C_DeedError) = some true
  ki_Busy_Doubled : PySem.W.kitOne K (.ref a.C_Busy) (.ref a.C_Doubled) = some false
  ki_Busy_Fenced : PySem.W.kitOne K (.ref a.C_Busy) (.ref a.C_Fenced) = some false
  ki_Busy_Gap : PySem.W.kitOne K (.ref a.C_Busy) (.ref a.C_Gap) = some false
  ki_Busy_Gone : PySem.W.kitOne K (.ref a.C_Busy) (.ref a.C_Gone) = some false
  ki_Busy_Late : PySem.W.kitOne K (.ref a.C_Busy) (.ref a.C_Late) = some false
  ki_Busy_LoanError : PySem.W.kitOne K (.ref a.C_Busy) (.ref a.C_LoanError) = some false
  ki_Busy_Needed : PySem.W.kitOne K (.ref a.C_Busy) (.ref a.C_Needed) = some false
  ki_Busy_NoDeed : PySem.W.kitOne K (.ref a.C_Busy) (.ref a.C_NoDeed) = some false
  ki_Busy_NoSuch : PySem.W.kitOne K (.ref a.C_Busy) (.ref a.C_NoSuch) = some false
  ki_Busy_NotYours : PySem.W.kitOne K (.ref a.C_Busy) (.ref a.C_NotYours) = some false
  ki_Busy_RowError : PySem.W.kitOne K (.ref a.C_Busy) (.ref a.C_RowError) = some false
  ki_Busy_SenderError : PySem.W.kitOne K (.ref a.C_Busy) (.ref a.C_SenderError) = some false
  ki_Busy_TooOld : PySem.W.kitOne K (.ref a.C_Busy) (.ref a.C_TooOld) = some false
  ki_Busy_Twice : PySem.W.kitOne K (.ref a.C_Busy) (.ref a.C_Twice) = some false
  ki_Busy_ValueError : PySem.W.kitOne K (.ref a.C_Busy) (.type "ValueError") = some true
  ki_Busy_WrongKind : PySem.W.kitOne K (.ref a.C_Busy) (.ref a.C_WrongKind) = some false
  x_Doubled : XCls K a.C_Doubled
  xi_Doubled : PySem.W.findIn K (.ref a.C_Doubled) "__init__" = some (some (.ref a.f_Doubled___init__))
  xf_Doubled : PySem.W.isFn K (.ref a.f_Doubled___init__) = true
  no_Doubled_name : NoAttr K a.C_Doubled "name"
  em_Doubled_CellarError : PySem.W.exmOne K (.ref a.C_Doubled) (.ref a.C_CellarError) = some true
  xs_Doubled : XIs K a.C_Doubled
  ki_Doubled_BadWord : PySem.W.kitOne K (.ref a.C_Doubled) (.ref a.C_BadWord) = some false
  ki_Doubled_Beyond : PySem.W.kitOne K (.ref a.C_Doubled) (.ref a.C_Beyond) = some false
  ki_Doubled_Broken : PySem.W.kitOne K (.ref a.C_Doubled) (.ref a.C_Broken) = some false
  ki_Doubled_Busy : PySem.W.kitOne K (.ref a.C_Doubled) (.ref a.C_Busy) = some false
  ki_Doubled_DeedError : PySem.W.kitOne K (.ref a.C_Doubled) (.ref a.C_DeedError) = some false
  ki_Doubled_Doubled : PySem.W.kitOne K (.ref a.C_Doubled) (.ref a.C_Doubled) = some true
  ki_Doubled_Fenced : PySem.W.kitOne K (.ref a.C_Doubled) (.ref a.C_Fenced) = some false
  ki_Doubled_Gap : PySem.W.kitOne K (.ref a.C_Doubled) (.ref a.C_Gap) = some false
  ki_Doubled_Gone : PySem.W.kitOne K (.ref a.C_Doubled) (.ref a.C_Gone) = some false
  ki_Doubled_Late : PySem.W.kitOne K (.ref a.C_Doubled) (.ref a.C_Late) = some false
  ki_Doubled_LoanError : PySem.W.kitOne K (.ref a.C_Doubled) (.ref a.C_LoanError) = some false
  ki_Doubled_Needed : PySem.W.kitOne K (.ref a.C_Doubled) (.ref a.C_Needed) = some false
  ki_Doubled_NoDeed : PySem.W.kitOne K (.ref a.C_Doubled) (.ref a.C_NoDeed) = some false
  ki_Doubled_NoSuch : PySem.W.kitOne K (.ref a.C_Doubled) (.ref a.C_NoSuch) = some false
  ki_Doubled_NotYours : PySem.W.kitOne K (.ref a.C_Doubled) (.ref a.C_NotYours) = some false
  ki_Doubled_RowError : PySem.W.kitOne K (.ref a.C_Doubled) (.ref a.C_RowError) = some false
  ki_Doubled_SenderError : PySem.W.kitOne K (.ref a.C_Doubled) (.ref a.C_SenderError) = some false
  ki_Doubled_TooOld : PySem.W.kitOne K (.ref a.C_Doubled) (.ref a.C_TooOld) = some false
  ki_Doubled_Twice : PySem.W.kitOne K (.ref a.C_Doubled) (.ref a.C_Twice) = some false
  ki_Doubled_ValueError : PySem.W.kitOne K (.ref a.C_Doubled) (.type "ValueError") = some true
  ki_Doubled_WrongKind : PySem.W.kitOne K (.ref a.C_Doubled) (.ref a.C_WrongKind) = some false
  x_Fenced : XCls K a.C_Fenced
  xi_Fenced : PySem.W.findIn K (.ref a.C_Fenced) "__init__" = some (some (.ref a.f_Fenced___init__))
  xf_Fenced : PySem.W.isFn K (.ref a.f_Fenced___init__) = true
  no_Fenced_life : NoAttr K a.C_Fenced "life"
  em_Fenced_CellarError : PySem.W.exmOne K (.ref a.C_Fenced) (.ref a.C_CellarError) = some true
  xs_Fenced : XIs K a.C_Fenced
  ki_Fenced_BadWord : PySem.W.kitOne K (.ref a.C_Fenced) (.ref a.C_BadWord) = some false
  ki_Fenced_Beyond : PySem.W.kitOne K (.ref a.C_Fenced) (.ref a.C_Beyond) = some false
  ki_Fenced_Broken : PySem.W.kitOne K (.ref a.C_Fenced) (.ref a.C_Broken) = some false
  ki_Fenced_Busy : PySem.W.kitOne K (.ref a.C_Fenced) (.ref a.C_Busy) = some false
  ki_Fenced_DeedError : PySem.W.kitOne K (.ref a.C_Fenced) (.ref a.C_DeedError) = some false
  ki_Fenced_Doubled : PySem.W.kitOne K (.ref a.C_Fenced) (.ref a.C_Doubled) = some false
  ki_Fenced_Fenced : PySem.W.kitOne K (.ref a.C_Fenced) (.ref a.C_Fenced) = some true
  ki_Fenced_Gap : PySem.W.kitOne K (.ref a.C_Fenced) (.ref a.C_Gap) = some false
  ki_Fenced_Gone : PySem.W.kitOne K (.ref a.C_Fenced) (.ref a.C_Gone) = some false
  ki_Fenced_Late : PySem.W.kitOne K (.ref a.C_Fenced) (.ref a.C_Late) = some false
  ki_Fenced_LoanError : PySem.W.kitOne K (.ref a.C_Fenced) (.ref a.C_LoanError) = some false
  ki_Fenced_Needed : PySem.W.kitOne K (.ref a.C_Fenced) (.ref a.C_Needed) = some false
  ki_Fenced_NoDeed : PySem.W.kitOne K (.ref a.C_Fenced) (.ref a.C_NoDeed) = some false
  ki_Fenced_NoSuch : PySem.W.kitOne K (.ref a.C_Fenced) (.ref a.C_NoSuch) = some false
  ki_Fenced_NotYours : PySem.W.kitOne K (.ref a.C_Fenced) (.ref a.C_NotYours) = some false
  ki_Fenced_RowError : PySem.W.kitOne K (.ref a.C_Fenced) (.ref a.C_RowError) = some false
  ki_Fenced_SenderError : PySem.W.kitOne K (.ref a.C_Fenced) (.ref a.C_SenderError) = some true
  ki_Fenced_TooOld : PySem.W.kitOne K (.ref a.C_Fenced) (.ref a.C_TooOld) = some false
  ki_Fenced_Twice : PySem.W.kitOne K (.ref a.C_Fenced) (.ref a.C_Twice) = some false
  ki_Fenced_ValueError : PySem.W.kitOne K (.ref a.C_Fenced) (.type "ValueError") = some true
  ki_Fenced_WrongKind : PySem.W.kitOne K (.ref a.C_Fenced) (.ref a.C_WrongKind) = some false
  x_Gap : XCls K a.C_Gap
  xi_Gap : PySem.W.findIn K (.ref a.C_Gap) "__init__" = some (some (.ref a.f_Gap___init__))
  xf_Gap : PySem.W.isFn K (.ref a.f_Gap___init__) = true
  no_Gap_due : NoAttr K a.C_Gap "due"
  em_Gap_CellarError : PySem.W.exmOne K (.ref a.C_Gap) (.ref a.C_CellarError) = some true
  xs_Gap : XIs K a.C_Gap
  ki_Gap_BadWord : PySem.W.kitOne K (.ref a.C_Gap) (.ref a.C_BadWord) = some false
  ki_Gap_Beyond : PySem.W.kitOne K (.ref a.C_Gap) (.ref a.C_Beyond) = some false
  ki_Gap_Broken : PySem.W.kitOne K (.ref a.C_Gap) (.ref a.C_Broken) = some false
  ki_Gap_Busy : PySem.W.kitOne K (.ref a.C_Gap) (.ref a.C_Busy) = some false
  ki_Gap_DeedError : PySem.W.kitOne K (.ref a.C_Gap) (.ref a.C_DeedError) = some false
  ki_Gap_Doubled : PySem.W.kitOne K (.ref a.C_Gap) (.ref a.C_Doubled) = some false
  ki_Gap_Fenced : PySem.W.kitOne K (.ref a.C_Gap) (.ref a.C_Fenced) = some false
  ki_Gap_Gap : PySem.W.kitOne K (.ref a.C_Gap) (.ref a.C_Gap) = some true
  ki_Gap_Gone : PySem.W.kitOne K (.ref a.C_Gap) (.ref a.C_Gone) = some false
  ki_Gap_Late : PySem.W.kitOne K (.ref a.C_Gap) (.ref a.C_Late) = some false
  ki_Gap_LoanError : PySem.W.kitOne K (.ref a.C_Gap) (.ref a.C_LoanError) = some false
  ki_Gap_Needed : PySem.W.kitOne K (.ref a.C_Gap) (.ref a.C_Needed) = some false
  ki_Gap_NoDeed : PySem.W.kitOne K (.ref a.C_Gap) (.ref a.C_NoDeed) = some false
  ki_Gap_NoSuch : PySem.W.kitOne K (.ref a.C_Gap) (.ref a.C_NoSuch) = some false
  ki_Gap_NotYours : PySem.W.kitOne K (.ref a.C_Gap) (.ref a.C_NotYours) = some false
  ki_Gap_RowError : PySem.W.kitOne K (.ref a.C_Gap) (.ref a.C_RowError) = some false
  ki_Gap_SenderError : PySem.W.kitOne K (.ref a.C_Gap) (.ref a.C_SenderError) = some true
  ki_Gap_TooOld : PySem.W.kitOne K (.ref a.C_Gap) (.ref a.C_TooOld) = some false
  ki_Gap_Twice : PySem.W.kitOne K (.ref a.C_Gap) (.ref a.C_Twice) = some false
  ki_Gap_ValueError : PySem.W.kitOne K (.ref a.C_Gap) (.type "ValueError") = some true
  ki_Gap_WrongKind : PySem.W.kitOne K (.ref a.C_Gap) (.ref a.C_WrongKind) = some false
  x_Gone : XCls K a.C_Gone
  xi_Gone : PySem.W.findIn K (.ref a.C_Gone) "__init__" = some (some (.ref a.f_Gone___init__))
  xf_Gone : PySem.W.isFn K (.ref a.f_Gone___init__) = true
  no_Gone_place : NoAttr K a.C_Gone "place"
  no_Gone_row : NoAttr K a.C_Gone "row"
  em_Gone_CellarError : PySem.W.exmOne K (.ref a.C_Gone) (.ref a.C_CellarError) = some true
  xs_Gone : XIs K a.C_Gone
  ki_Gone_BadWord : PySem.W.kitOne K (.ref a.C_Gone) (.ref a.C_BadWord) = some false
  ki_Gone_Beyond : PySem.W.kitOne K (.ref a.C_Gone) (.ref a.C_Beyond) = some false
  ki_Gone_Broken : PySem.W.kitOne K (.ref a.C_Gone) (.ref a.C_Broken) = some false
  ki_Gone_Busy : PySem.W.kitOne K (.ref a.C_Gone) (.ref a.C_Busy) = some false
  ki_Gone_DeedError : PySem.W.kitOne K (.ref a.C_Gone) (.ref a.C_DeedError) = some false
  ki_Gone_Doubled : PySem.W.kitOne K (.ref a.C_Gone) (.ref a.C_Doubled) = some false
  ki_Gone_Fenced : PySem.W.kitOne K (.ref a.C_Gone) (.ref a.C_Fenced) = some false
  ki_Gone_Gap : PySem.W.kitOne K (.ref a.C_Gone) (.ref a.C_Gap) = some false
  ki_Gone_Gone : PySem.W.kitOne K (.ref a.C_Gone) (.ref a.C_Gone) = some true
  ki_Gone_Late : PySem.W.kitOne K (.ref a.C_Gone) (.ref a.C_Late) = some false
  ki_Gone_LoanError : PySem.W.kitOne K (.ref a.C_Gone) (.ref a.C_LoanError) = some false
  ki_Gone_Needed : PySem.W.kitOne K (.ref a.C_Gone) (.ref a.C_Needed) = some false
  ki_Gone_NoDeed : PySem.W.kitOne K (.ref a.C_Gone) (.ref a.C_NoDeed) = some false
  ki_Gone_NoSuch : PySem.W.kitOne K (.ref a.C_Gone) (.ref a.C_NoSuch) = some false
  ki_Gone_NotYours : PySem.W.kitOne K (.ref a.C_Gone) (.ref a.C_NotYours) = some false
  ki_Gone_RowError : PySem.W.kitOne K (.ref a.C_Gone) (.ref a.C_RowError) = some true
  ki_Gone_SenderError : PySem.W.kitOne K (.ref a.C_Gone) (.ref a.C_SenderError) = some false
  ki_Gone_TooOld : PySem.W.kitOne K (.ref a.C_Gone) (.ref a.C_TooOld) = some false
  ki_Gone_Twice : PySem.W.kitOne K (.ref a.C_Gone) (.ref a.C_Twice) = some false
  ki_Gone_ValueError : PySem.W.kitOne K (.ref a.C_Gone) (.type "ValueError") = some true
  ki_Gone_WrongKind : PySem.W.kitOne K (.ref a.C_Gone) (.ref a.C_WrongKind) = some false
  x_Late : XCls K a.C_Late
  xi_Late : PySem.W.findIn K (.ref a.C_Late) "__init__" = some (some (.ref a.f_Late___init__))
  xf_Late : PySem.W.isFn K (.ref a.f_Late___init__) = true
  no_Late_loan : NoAttr K a.C_Late "loan"
  no_Late_row : NoAttr K a.C_Late "row"
  em_Late_CellarError : PySem.W.exmOne K (.ref a.C_Late) (.ref a.C_CellarError) = some true
  xs_Late : XIs K a.C_Late
  ki_Late_BadWord : PySem.W.kitOne K (.ref a.C_Late) (.ref a.C_BadWord) = some false
  ki_Late_Beyond : PySem.W.kitOne K (.ref a.C_Late) (.ref a.C_Beyond) = some false
  ki_Late_Broken : PySem.W.kitOne K (.ref a.C_Late) (.ref a.C_Broken) = some false
  ki_Late_Busy : PySem.W.kitOne K (.ref a.C_Late) (.ref a.C_Busy) = some false
  ki_Late_DeedError : PySem.W.kitOne K (.ref a.C_Late) (.ref a.C_DeedError) = some false
  ki_Late_Doubled : PySem.W.kitOne K (.ref a.C_Late) (.ref a.C_Doubled) = some false
  ki_Late_Fenced : PySem.W.kitOne K (.ref a.C_Late) (.ref a.C_Fenced) = some false
  ki_Late_Gap : PySem.W.kitOne K (.ref a.C_Late) (.ref a.C_Gap) = some false
  ki_Late_Gone : PySem.W.kitOne K (.ref a.C_Late) (.ref a.C_Gone) = some false
  ki_Late_Late : PySem.W.kitOne K (.ref a.C_Late) (.ref a.C_Late) = some true
  ki_Late_LoanError : PySem.W.kitOne K (.ref a.C_Late) (.ref a.C_LoanError) = some true
  ki_Late_Needed : PySem.W.kitOne K (.ref a.C_Late) (.ref a.C_Needed) = some false
  ki_Late_NoDeed : PySem.W.kitOne K (.ref a.C_Late) (.ref a.C_NoDeed) = some false
  ki_Late_NoSuch : PySem.W.kitOne K (.ref a.C_Late) (.ref a.C_NoSuch) = some false
  ki_Late_NotYours : PySem.W.kitOne K (.ref a.C_Late) (.ref a.C_NotYours) = some false
  ki_Late_RowError : PySem.W.kitOne K (.ref a.C_Late) (.ref a.C_RowError) = some false
  ki_Late_SenderError : PySem.W.kitOne K (.ref a.C_Late) (.ref a.C_SenderError) = some false
  ki_Late_TooOld : PySem.W.kitOne K (.ref a.C_Late) (.ref a.C_TooOld) = some false
  ki_Late_Twice : PySem.W.kitOne K (.ref a.C_Late) (.ref a.C_Twice) = some false
  ki_Late_ValueError : PySem.W.kitOne K (.ref a.C_Late) (.type "ValueError") = some true
  ki_Late_WrongKind : PySem.W.kitOne K (.ref a.C_Late) (.ref a.C_WrongKind) = some false
  x_Needed : XCls K a.C_Needed
  xi_Needed : PySem.W.findIn K (.ref a.C_Needed) "__init__" = some (some (.ref a.f_Needed___init__))
  xf_Needed : PySem.W.isFn K (.ref a.f_Needed___init__) = true
  no_Needed_place : NoAttr K a.C_Needed "place"
  no_Needed_row : NoAttr K a.C_Needed "row"
  em_Needed_CellarError : PySem.W.exmOne K (.ref a.C_Needed) (.ref a.C_CellarError) = some true
  xs_Needed : XIs K a.C_Needed
  ki_Needed_BadWord : PySem.W.kitOne K (.ref a.C_Needed) (.ref a.C_BadWord) = some false
  ki_Needed_Beyond : PySem.W.kitOne K (.ref a.C_Needed) (.ref a.C_Beyond) = some false
  ki_Needed_Broken : PySem.W.kitOne K (.ref a.C_Needed) (.ref a.C_Broken) = some false
  ki_Needed_Busy : PySem.W.kitOne K (.ref a.C_Needed) (.ref a.C_Busy) = some false
  ki_Needed_DeedError : PySem.W.kitOne K (.ref a.C_Needed) (.ref a.C_DeedError) = some false
  ki_Needed_Doubled : PySem.W.kitOne K (.ref a.C_Needed) (.ref a.C_Doubled) = some false
  ki_Needed_Fenced : PySem.W.kitOne K (.ref a.C_Needed) (.ref a.C_Fenced) = some false
  ki_Needed_Gap : PySem.W.kitOne K (.ref a.C_Needed) (.ref a.C_Gap) = some false
  ki_Needed_Gone : PySem.W.kitOne K (.ref a.C_Needed) (.ref a.C_Gone) = some false
  ki_Needed_Late : PySem.W.kitOne K (.ref a.C_Needed) (.ref a.C_Late) = some false
  ki_Needed_LoanError : PySem.W.kitOne K (.ref a.C_Needed) (.ref a.C_LoanError) = some false
  ki_Needed_Needed : PySem.W.kitOne K (.ref a.C_Needed) (.ref a.C_Needed) = some true
  ki_Needed_NoDeed : PySem.W.kitOne K (.ref a.C_Needed) (.ref a.C_NoDeed) = some false
  ki_Needed_NoSuch : PySem.W.kitOne K (.ref a.C_Needed) (.ref a.C_NoSuch) = some false
  ki_Needed_NotYours : PySem.W.kitOne K (.ref a.C_Needed) (.ref a.C_NotYours) = some false
  ki_Needed_RowError : PySem.W.kitOne K (.ref a.C_Needed) (.ref a.C_RowError) = some true
  ki_Needed_SenderError : PySem.W.kitOne K (.ref a.C_Needed) (.ref a.C_SenderError) = some false
  ki_Needed_TooOld : PySem.W.kitOne K (.ref a.C_Needed) (.ref a.C_TooOld) = some false
  ki_Needed_Twice : PySem.W.kitOne K (.ref a.C_Needed) (.ref a.C_Twice) = some false
  ki_Needed_ValueError : PySem.W.kitOne K (.ref a.C_Needed) (.type "ValueError") = some true
  ki_Needed_WrongKind : PySem.W.kitOne K (.ref a.C_Needed) (.ref a.C_WrongKind) = some false
  x_NoDeed : XCls K a.C_NoDeed
  xi_NoDeed : PySem.W.findIn K (.ref a.C_NoDeed) "__init__" = some (some (.ref a.f_NoDeed___init__))
  xf_NoDeed : PySem.W.isFn K (.ref a.f_NoDeed___init__) = true
  no_NoDeed_name : NoAttr K a.C_NoDeed "name"
  em_NoDeed_CellarError : PySem.W.exmOne K (.ref a.C_NoDeed) (.ref a.C_CellarError) = some true
  xs_NoDeed : XIs K a.C_NoDeed
  ki_NoDeed_BadWord : PySem.W.kitOne K (.ref a.C_NoDeed) (.ref a.C_BadWord) = some false
  ki_NoDeed_Beyond : PySem.W.kitOne K (.ref a.C_NoDeed) (.ref a.C_Beyond) = some false
  ki_NoDeed_Broken : PySem.W.kitOne K (.ref a.C_NoDeed) (.ref a.C_Broken) = some false
  ki_NoDeed_Busy : PySem.W.kitOne K (.ref a.C_NoDeed) (.ref a.C_Busy) = some false
  ki_NoDeed_DeedError : PySem.W.kitOne K (.ref a.C_NoDeed) (.ref a.C_DeedError) = some true
  ki_NoDeed_Doubled : PySem.W.kitOne K (.ref a.C_NoDeed) (.ref a.C_Doubled) = some false
  ki_NoDeed_Fenced : PySem.W.kitOne K (.ref a.C_NoDeed) (.ref a.C_Fenced) = some false
  ki_NoDeed_Gap : PySem.W.kitOne K (.ref a.C_NoDeed) (.ref a.C_Gap) = some false
  ki_NoDeed_Gone : PySem.W.kitOne K (.ref a.C_NoDeed) (.ref a.C_Gone) = some false
  ki_NoDeed_Late : PySem.W.kitOne K (.ref a.C_NoDeed) (.ref a.C_Late) = some false
  ki_NoDeed_LoanError : PySem.W.kitOne K (.ref a.C_NoDeed) (.ref a.C_LoanError) = some false
  ki_NoDeed_Needed : PySem.W.kitOne K (.ref a.C_NoDeed) (.ref a.C_Needed) = some false
  ki_NoDeed_NoDeed : PySem.W.kitOne K (.ref a.C_NoDeed) (.ref a.C_NoDeed) = some true
  ki_NoDeed_NoSuch : PySem.W.kitOne K (.ref a.C_NoDeed) (.ref a.C_NoSuch) = some false
  ki_NoDeed_NotYours : PySem.W.kitOne K (.ref a.C_NoDeed) (.ref a.C_NotYours) = some false
  ki_NoDeed_RowError : PySem.W.kitOne K (.ref a.C_NoDeed) (.ref a.C_RowError) = some false
  ki_NoDeed_SenderError : PySem.W.kitOne K (.ref a.C_NoDeed) (.ref a.C_SenderError) = some false
  ki_NoDeed_TooOld : PySem.W.kitOne K (.ref a.C_NoDeed) (.ref a.C_TooOld) = some false
  ki_NoDeed_Twice : PySem.W.kitOne K (.ref a.C_NoDeed) (.ref a.C_Twice) = some false
  ki_NoDeed_ValueError : PySem.W.kitOne K (.ref a.C_NoDeed) (.type "ValueError") = some true
  ki_NoDeed_WrongKind : PySem.W.kitOne K (.ref a.C_NoDeed) (.ref a.C_WrongKind) = some false
  x_NoSuch : XCls K a.C_NoSuch
  xi_NoSuch : PySem.W.findIn K (.ref a.C_NoSuch) "__init__" = some (some (.ref a.f_NoSuch___init__))
  xf_NoSuch : PySem.W.isFn K (.ref a.f_NoSuch___init__) = true
  no_NoSuch_name : NoAttr K a.C_NoSuch "name"
  em_NoSuch_CellarError : PySem.W.exmOne K (.ref a.C_NoSuch) (.ref a.C_CellarError) = some true
  xs_NoSuch : XIs K a.C_NoSuch
  ki_NoSuch_BadWord : PySem.W.kitOne K (.ref a.C_NoSuch) (.ref a.C_BadWord) = some false
  ki_NoSuch_Beyond : PySem.W.kitOne K (.ref a.C_NoSuch) (.ref a.C_Beyond) = some false
  ki_NoSuch_Broken : PySem.W.kitOne K (.ref a.C_NoSuch) (.ref a.C_Broken) = some false
  ki_NoSuch_Busy : PySem.W.kitOne K (.ref a.C_NoSuch) (.ref a.C_Busy) = some false
  ki_NoSuch_DeedError : PySem.W.kitOne K (.ref a.C_NoSuch) (.ref a.C_DeedError) = some false
  ki_NoSuch_Doubled : PySem.W.kitOne K (.ref a.C_NoSuch) (.ref a.C_Doubled) = some false
  ki_NoSuch_Fenced : PySem.W.kitOne K (.ref a.C_NoSuch) (.ref a.C_Fenced) = some false
  ki_NoSuch_Gap : PySem.W.kitOne K (.ref a.C_NoSuch) (.ref a.C_Gap) = some false
  ki_NoSuch_Gone : PySem.W.kitOne K (.ref a.C_NoSuch) (.ref a.C_Gone) = some false
  ki_NoSuch_Late : PySem.W.kitOne K (.ref a.C_NoSuch) (.ref a.C_Late) = some false
  ki_NoSuch_LoanError : PySem.W.kitOne K (.ref a.C_NoSuch) (.ref a.C_LoanError) = some false
  ki_NoSuch_Needed : PySem.W.kitOne K (.ref a.C_NoSuch) (.ref a.C_Needed) = some false
  ki_NoSuch_NoDeed : PySem.W.kitOne K (.ref a.C_NoSuch) (.ref a.C_NoDeed) = some false
  ki_NoSuch_NoSuch : PySem.W.kitOne K (.ref a.C_NoSuch) (.ref a.C_NoSuch) = some true
  ki_NoSuch_NotYours : PySem.W.kitOne K (.ref a.C_NoSuch) (.ref a.C_NotYours) = some false
  ki_NoSuch_RowError : PySem.W.kitOne K (.ref a.C_NoSuch) (.ref a.C_RowError) = some false
  ki_NoSuch_SenderError : PySem.W.kitOne K (.ref a.C_NoSuch) (.ref a.C_SenderError) = some false
  ki_NoSuch_TooOld : PySem.W.kitOne K (.ref a.C_NoSuch) (.ref a.C_TooOld) = some false
  ki_NoSuch_Twice : PySem.W.kitOne K (.ref a.C_NoSuch) (.ref a.C_Twice) = some false
  ki_NoSuch_ValueError : PySem.W.kitOne K (.ref a.C_NoSuch) (.type "ValueError") = some true
  ki_NoSuch_WrongKind : PySem.W.kitOne K (.ref a.C_NoSuch) (.ref a.C_WrongKind) = some false
  x_NotYours : XCls K a.C_NotYours
  xi_NotYours : PySem.W.findIn K (.ref a.C_NotYours) "__init__" = some (some (.ref a.f_NotYours___init__))
  xf_NotYours : PySem.W.isFn K (.ref a.f_NotYours___init__) = true
  no_NotYours_owner : NoAttr K a.C_NotYours "owner"
  no_NotYours_row : NoAttr K a.C_NotYours "row"
  em_NotYours_CellarError : PySem.W.exmOne K (.ref a.C_NotYours) (.ref a.C_CellarError) = some true
  xs_NotYours : XIs K a.C_NotYours
  ki_NotYours_BadWord : PySem.W.kitOne K (.ref a.C_NotYours) (.ref a.C_BadWord) = some false
  ki_NotYours_Beyond : PySem.W.kitOne K (.ref a.C_NotYours) (.ref a.C_Beyond) = some false
  ki_NotYours_Broken : PySem.W.kitOne K (.ref a.C_NotYours) (.ref a.C_Broken) = some false
  ki_NotYours_Busy : PySem.W.kitOne K (.ref a.C_NotYours) (.ref a.C_Busy) = some false
  ki_NotYours_DeedError : PySem.W.kitOne K (.ref a.C_NotYours) (.ref a.C_DeedError) = some false
  ki_NotYours_Doubled : PySem.W.kitOne K (.ref a.C_NotYours) (.ref a.C_Doubled) = some false
  ki_NotYours_Fenced : PySem.W.kitOne K (.ref a.C_NotYours) (.ref a.C_Fenced) = some false
  ki_NotYours_Gap : PySem.W.kitOne K (.ref a.C_NotYours) (.ref a.C_Gap) = some false
  ki_NotYours_Gone : PySem.W.kitOne K (.ref a.C_NotYours) (.ref a.C_Gone) = some false
  ki_NotYours_Late : PySem.W.kitOne K (.ref a.C_NotYours) (.ref a.C_Late) = some false
  ki_NotYours_LoanError : PySem.W.kitOne K (.ref a.C_NotYours) (.ref a.C_LoanError) = some true
  ki_NotYours_Needed : PySem.W.kitOne K (.ref a.C_NotYours) (.ref a.C_Needed) = some false
  ki_NotYours_NoDeed : PySem.W.kitOne K (.ref a.C_NotYours) (.ref a.C_NoDeed) = some false
  ki_NotYours_NoSuch : PySem.W.kitOne K (.ref a.C_NotYours) (.ref a.C_NoSuch) = some false
  ki_NotYours_NotYours : PySem.W.kitOne K (.ref a.C_NotYours) (.ref a.C_NotYours) = some true
  ki_NotYours_RowError : PySem.W.kitOne K (.ref a.C_NotYours) (.ref a.C_RowError) = some false
  ki_NotYours_SenderError : PySem.W.kitOne K (.ref a.C_NotYours) (.ref a.C_SenderError) = some false
  ki_NotYours_TooOld : PySem.W.kitOne K (.ref a.C_NotYours) (.ref a.C_TooOld) = some false
  ki_NotYours_Twice : PySem.W.kitOne K (.ref a.C_NotYours) (.ref a.C_Twice) = some false
  ki_NotYours_ValueError : PySem.W.kitOne K (.ref a.C_NotYours) (.type "ValueError") = some true
  ki_NotYours_WrongKind : PySem.W.kitOne K (.ref a.C_NotYours) (.ref a.C_WrongKind) = some false
  x_TooOld : XCls K a.C_TooOld
  xi_TooOld : PySem.W.findIn K (.ref a.C_TooOld) "__init__" = some (some (.ref a.f_TooOld___init__))
  xf_TooOld : PySem.W.isFn K (.ref a.f_TooOld___init__) = true
  no_TooOld_number : NoAttr K a.C_TooOld "number"
  em_TooOld_CellarError : PySem.W.exmOne K (.ref a.C_TooOld) (.ref a.C_CellarError) = some true
  xs_TooOld : XIs K a.C_TooOld
  ki_TooOld_BadWord : PySem.W.kitOne K (.ref a.C_TooOld) (.ref a.C_BadWord) = some false
  ki_TooOld_Beyond : PySem.W.kitOne K (.ref a.C_TooOld) (.ref a.C_Beyond) = some false
  ki_TooOld_Broken : PySem.W.kitOne K (.ref a.C_TooOld) (.ref a.C_Broken) = some false
  ki_TooOld_Busy : PySem.W.kitOne K (.ref a.C_TooOld) (.ref a.C_Busy) = some false
  ki_TooOld_DeedError : PySem.W.kitOne K (.ref a.C_TooOld) (.ref a.C_DeedError) = some false
  ki_TooOld_Doubled : PySem.W.kitOne K (.ref a.C_TooOld) (.ref a.C_Doubled) = some false
  ki_TooOld_Fenced : PySem.W.kitOne K (.ref a.C_TooOld) (.ref a.C_Fenced) = some false
  ki_TooOld_Gap : PySem.W.kitOne K (.ref a.C_TooOld) (.ref a.C_Gap) = some false
  ki_TooOld_Gone : PySem.W.kitOne K (.ref a.C_TooOld) (.ref a.C_Gone) = some false
  ki_TooOld_Late : PySem.W.kitOne K (.ref a.C_TooOld) (.ref a.C_Late) = some false
  ki_TooOld_LoanError : PySem.W.kitOne K (.ref a.C_TooOld) (.ref a.C_LoanError) = some false
  ki_TooOld_Needed : PySem.W.kitOne K (.ref a.C_TooOld) (.ref a.C_Needed) = some false
  ki_TooOld_NoDeed : PySem.W.kitOne K (.ref a.C_TooOld) (.ref a.C_NoDeed) = some false
  ki_TooOld_NoSuch : PySem.W.kitOne K (.ref a.C_TooOld) (.ref a.C_NoSuch) = some false
  ki_TooOld_NotYours : PySem.W.kitOne K (.ref a.C_TooOld) (.ref a.C_NotYours) = some false
  ki_TooOld_RowError : PySem.W.kitOne K (.ref a.C_TooOld) (.ref a.C_RowError) = some false
  ki_TooOld_SenderError : PySem.W.kitOne K (.ref a.C_TooOld) (.ref a.C_SenderError) = some true
  ki_TooOld_TooOld : PySem.W.kitOne K (.ref a.C_TooOld) (.ref a.C_TooOld) = some true
  ki_TooOld_Twice : PySem.W.kitOne K (.ref a.C_TooOld) (.ref a.C_Twice) = some false
  ki_TooOld_ValueError : PySem.W.kitOne K (.ref a.C_TooOld) (.type "ValueError") = some true
  ki_TooOld_WrongKind : PySem.W.kitOne K (.ref a.C_TooOld) (.ref a.C_WrongKind) = some false
  x_Twice : XCls K a.C_Twice
  xi_Twice : PySem.W.findIn K (.ref a.C_Twice) "__init__" = some (some (.ref a.f_Twice___init__))
  xf_Twice : PySem.W.isFn K (.ref a.f_Twice___init__) = true
  no_Twice_loan : NoAttr K a.C_Twice "loan"
  no_Twice_row : NoAttr K a.C_Twice "row"
  em_Twice_CellarError : PySem.W.exmOne K (.ref a.C_Twice) (.ref a.C_CellarError) = some true
  xs_Twice : XIs K a.C_Twice
  ki_Twice_BadWord : PySem.W.kitOne K (.ref a.C_Twice) (.ref a.C_BadWord) = some false
  ki_Twice_Beyond : PySem.W.kitOne K (.ref a.C_Twice) (.ref a.C_Beyond) = some false
  ki_Twice_Broken : PySem.W.kitOne K (.ref a.C_Twice) (.ref a.C_Broken) = some false
  ki_Twice_Busy : PySem.W.kitOne K (.ref a.C_Twice) (.ref a.C_Busy) = some false
  ki_Twice_DeedError : PySem.W.kitOne K (.ref a.C_Twice) (.ref a.C_DeedError) = some false
  ki_Twice_Doubled : PySem.W.kitOne K (.ref a.C_Twice) (.ref a.C_Doubled) = some false
  ki_Twice_Fenced : PySem.W.kitOne K (.ref a.C_Twice) (.ref a.C_Fenced) = some false
  ki_Twice_Gap : PySem.W.kitOne K (.ref a.C_Twice) (.ref a.C_Gap) = some false
  ki_Twice_Gone : PySem.W.kitOne K (.ref a.C_Twice) (.ref a.C_Gone) = some false
  ki_Twice_Late : PySem.W.kitOne K (.ref a.C_Twice) (.ref a.C_Late) = some false
  ki_Twice_LoanError : PySem.W.kitOne K (.ref a.C_Twice) (.ref a.C_LoanError) = some true
  ki_Twice_Needed : PySem.W.kitOne K (.ref a.C_Twice) (.ref a.C_Needed) = some false
  ki_Twice_NoDeed : PySem.W.kitOne K (.ref a.C_Twice) (.ref a.C_NoDeed) = some false
  ki_Twice_NoSuch : PySem.W.kitOne K (.ref a.C_Twice) (.ref a.C_NoSuch) = some false
  ki_Twice_NotYours : PySem.W.kitOne K (.ref a.C_Twice) (.ref a.C_NotYours) = some false
  ki_Twice_RowError : PySem.W.kitOne K (.ref a.C_Twice) (.ref a.C_RowError) = some false
  ki_Twice_SenderError : PySem.W.kitOne K (.ref a.C_Twice) (.ref a.C_SenderError) = some false
  ki_Twice_TooOld : PySem.W.kitOne K (.ref a.C_Twice) (.ref a.C_TooOld) = some false
  ki_Twice_Twice : PySem.W.kitOne K (.ref a.C_Twice) (.ref a.C_Twice) = some true
  ki_Twice_ValueError : PySem.W.kitOne K (.ref a.C_Twice) (.type "ValueError") = some true
  ki_Twice_WrongKind : PySem.W.kitOne K (.ref a.C_Twice) (.ref a.C_WrongKind) = some false
  x_WrongKind : XCls K a.C_WrongKind
  xi_WrongKind : PySem.W.findIn K (.ref a.C_WrongKind) "__init__" = some (some (.ref a.f_WrongKind___init__))
  xf_WrongKind : PySem.W.isFn K (.ref a.f_WrongKind___init__) = true
  no_WrongKind_row : NoAttr K a.C_WrongKind "row"
  em_WrongKind_CellarError : PySem.W.exmOne K (.ref a.C_WrongKind) (.ref a.C_CellarError) = some true
  xs_WrongKind : XIs K a.C_WrongKind
  ki_WrongKind_BadWord : PySem.W.kitOne K (.ref a.C_WrongKind) (.ref a.C_BadWord) = some false
  ki_WrongKind_Beyond : PySem.W.kitOne K (.ref a.C_WrongKind) (.ref a.C_Beyond) = some false
  ki_WrongKind_Broken : PySem.W.kitOne K (.ref a.C_WrongKind) (.ref a.C_Broken) = some false
  ki_WrongKind_Busy : PySem.W.kitOne K (.ref a.C_WrongKind) (.ref a.C_Busy) = some false
  ki_WrongKind_DeedError : PySem.W.kitOne K (.ref a.C_WrongKind) (.ref a.C_DeedError) = some false
  ki_WrongKind_Doubled : PySem.W.kitOne K (.ref a.C_WrongKind) (.ref a.C_Doubled) = some false
  ki_WrongKind_Fenced : PySem.W.kitOne K (.ref a.C_WrongKind) (.ref a.C_Fenced) = some false
  ki_WrongKind_Gap : PySem.W.kitOne K (.ref a.C_WrongKind) (.ref a.C_Gap) = some false
  ki_WrongKind_Gone : PySem.W.kitOne K (.ref a.C_WrongKind) (.ref a.C_Gone) = some false
  ki_WrongKind_Late : PySem.W.kitOne K (.ref a.C_WrongKind) (.ref a.C_Late) = some false
  ki_WrongKind_LoanError : PySem.W.kitOne K (.ref a.C_WrongKind) (.ref a.C_LoanError) = some false
  ki_WrongKind_Needed : PySem.W.kitOne K (.ref a.C_WrongKind) (.ref a.C_Needed) = some false
  ki_WrongKind_NoDeed : PySem.W.kitOne K (.ref a.C_WrongKind) (.ref a.C_NoDeed) = some false
  ki_WrongKind_NoSuch : PySem.W.kitOne K (.ref a.C_WrongKind) (.ref a.C_NoSuch) = some false
  ki_WrongKind_NotYours : PySem.W.kitOne K (.ref a.C_WrongKind) (.ref a.C_NotYours) = some false
  ki_WrongKind_RowError : PySem.W.kitOne K (.ref a.C_WrongKind) (.ref a.C_RowError) = some true
  ki_WrongKind_SenderError : PySem.W.kitOne K (.ref a.C_WrongKind) (.ref a.C_SenderError) = some false
  ki_WrongKind_TooOld : PySem.W.kitOne K (.ref a.C_WrongKind) (.ref a.C_TooOld) = some false
  ki_WrongKind_Twice : PySem.W.kitOne K (.ref a.C_WrongKind) (.ref a.C_Twice) = some false
  ki_WrongKind_ValueError : PySem.W.kitOne K (.ref a.C_WrongKind) (.type "ValueError") = some true
  ki_WrongKind_WrongKind : PySem.W.kitOne K (.ref a.C_WrongKind) (.ref a.C_WrongKind) = some true
  n_ValueError : mg "ValueError" = none
  n_isinstance : mg "isinstance" = none
  n_len : mg "len" = none
  n_range : mg "range" = none
  n_str : mg "str" = none
  bl_law : ∀ (s : Shared) (u : Value), BindsTo s a.d_law ⟨[u], []⟩ [("_law_script", u)]

def cA (a : Adr) : Nat → Addr
  | 0 => a.C_BadWord
  | 1 => a.C_NoSuch
  | 2 => a.C_Doubled
  | 3 => a.C_Broken
  | 4 => a.C_Fenced
  | 5 => a.C_Gap
  | 6 => a.C_TooOld
  | 7 => a.C_Late
  | 8 => a.C_NotYours
  | 9 => a.C_Twice
  | 10 => a.C_Busy
  | 11 => a.C_NoDeed
  | 12 => a.C_WrongKind
  | 13 => a.C_Needed
  | 14 => a.C_Gone
  | _ => a.C_Beyond
def gA (a : Adr) : Nat → Addr
  | 0 => a.C_SenderError
  | 1 => a.C_LoanError
  | 2 => a.C_DeedError
  | _ => a.C_RowError
def gO : Nat → Nat
  | 0 => 9
  | 1 => 9
  | 2 => 9
  | 3 => 9
  | 4 => 0
  | 5 => 0
  | 6 => 0
  | 7 => 1
  | 8 => 1
  | 9 => 1
  | 10 => 2
  | 11 => 2
  | 12 => 3
  | 13 => 3
  | 14 => 3
  | _ => 3
def fN : Nat → List Str
  | 0 => []
  | 1 => ["name"]
  | 2 => ["name"]
  | 3 => ["line"]
  | 4 => ["life"]
  | 5 => ["due"]
  | 6 => ["number"]
  | 7 => ["row", "loan"]
  | 8 => ["row", "owner"]
  | 9 => ["row", "loan"]
  | 10 => ["deed"]
  | 11 => ["name"]
  | 12 => ["row"]
  | 13 => ["row", "place"]
  | 14 => ["row", "place"]
  | _ => ["row", "place"]
section
variable {K : PySem.W.Frag} {mg : Str → Option Value} {a : Adr}
theorem Txt.xc (T : Txt K mg a) : ∀ n, XCls K (cA a n)
  | 0 => T.x_BadWord
  | 1 => T.x_NoSuch
  | 2 => T.x_Doubled
  | 3 => T.x_Broken
  | 4 => T.x_Fenced
  | 5 => T.x_Gap
  | 6 => T.x_TooOld
  | 7 => T.x_Late
  | 8 => T.x_NotYours
  | 9 => T.x_Twice
  | 10 => T.x_Busy
  | 11 => T.x_NoDeed
  | 12 => T.x_WrongKind
  | 13 => T.x_Needed
  | 14 => T.x_Gone
  | _ + 15 => T.x_Beyond
theorem Txt.xi (T : Txt K mg a) : ∀ n, XIs K (cA a n)
  | 0 => T.xs_BadWord
  | 1 => T.xs_NoSuch
  | 2 => T.xs_Doubled
  | 3 => T.xs_Broken
  | 4 => T.xs_Fenced
  | 5 => T.xs_Gap
  | 6 => T.xs_TooOld
  | 7 => T.xs_Late
  | 8 => T.xs_NotYours
  | 9 => T.xs_Twice
  | 10 => T.xs_Busy
  | 11 => T.xs_NoDeed
  | 12 => T.xs_WrongKind
  | 13 => T.xs_Needed
  | 14 => T.xs_Gone
  | _ + 15 => T.xs_Beyond
theorem Txt.em (T : Txt K mg a) : ∀ n, PySem.W.exmOne K (.ref (cA a n)) (.ref a.C_CellarError) = some true
  | 0 => T.em_BadWord_CellarError
  | 1 => T.em_NoSuch_CellarError
  | 2 => T.em_Doubled_CellarError
  | 3 => T.em_Broken_CellarError
  | 4 => T.em_Fenced_CellarError
  | 5 => T.em_Gap_CellarError
  | 6 => T.em_TooOld_CellarError
  | 7 => T.em_Late_CellarError
  | 8 => T.em_NotYours_CellarError
  | 9 => T.em_Twice_CellarError
  | 10 => T.em_Busy_CellarError
  | 11 => T.em_NoDeed_CellarError
  | 12 => T.em_WrongKind_CellarError
  | 13 => T.em_Needed_CellarError
  | 14 => T.em_Gone_CellarError
  | _ + 15 => T.em_Beyond_CellarError
theorem Txt.kv (T : Txt K mg a) : ∀ n, PySem.W.kitOne K (.ref (cA a n)) (.type "ValueError") = some true
  | 0 => T.ki_BadWord_ValueError
  | 1 => T.ki_NoSuch_ValueError
  | 2 => T.ki_Doubled_ValueError
  | 3 => T.ki_Broken_ValueError
  | 4 => T.ki_Fenced_ValueError
  | 5 => T.ki_Gap_ValueError
  | 6 => T.ki_TooOld_ValueError
  | 7 => T.ki_Late_ValueError
  | 8 => T.ki_NotYours_ValueError
  | 9 => T.ki_Twice_ValueError
  | 10 => T.ki_Busy_ValueError
  | 11 => T.ki_NoDeed_ValueError
  | 12 => T.ki_WrongKind_ValueError
  | 13 => T.ki_Needed_ValueError
  | 14 => T.ki_Gone_ValueError
  | _ + 15 => T.ki_Beyond_ValueError
theorem Txt.kt0 (T : Txt K mg a) : ∀ i, i < 16 → PySem.W.kitOne K (.ref a.C_BadWord) (.ref (cA a i)) = some (decide (i = 0))
  | 0, _ => T.ki_BadWord_BadWord
  | 1, _ => T.ki_BadWord_NoSuch
  | 2, _ => T.ki_BadWord_Doubled
  | 3, _ => T.ki_BadWord_Broken
  | 4, _ => T.ki_BadWord_Fenced
  | 5, _ => T.ki_BadWord_Gap
  | 6, _ => T.ki_BadWord_TooOld
  | 7, _ => T.ki_BadWord_Late
  | 8, _ => T.ki_BadWord_NotYours
  | 9, _ => T.ki_BadWord_Twice
  | 10, _ => T.ki_BadWord_Busy
  | 11, _ => T.ki_BadWord_NoDeed
  | 12, _ => T.ki_BadWord_WrongKind
  | 13, _ => T.ki_BadWord_Needed
  | 14, _ => T.ki_BadWord_Gone
  | 15, _ => T.ki_BadWord_Beyond
  | i + 16, h => absurd h (by omega)
theorem Txt.kg0 (T : Txt K mg a) : ∀ i, i < 4 → PySem.W.kitOne K (.ref a.C_BadWord) (.ref (gA a i)) = some (decide (gO 0 = i))
  | 0, _ => T.ki_BadWord_SenderError
  | 1, _ => T.ki_BadWord_LoanError
  | 2, _ => T.ki_BadWord_DeedError
  | 3, _ => T.ki_BadWord_RowError
  | i + 4, h => absurd h (by omega)
theorem Txt.kt1 (T : Txt K mg a) : ∀ i, i < 16 → PySem.W.kitOne K (.ref a.C_NoSuch) (.ref (cA a i)) = some (decide (i = 1))
  | 0, _ => T.ki_NoSuch_BadWord
  | 1, _ => T.ki_NoSuch_NoSuch
  | 2, _ => T.ki_NoSuch_Doubled
  | 3, _ => T.ki_NoSuch_Broken
  | 4, _ => T.ki_NoSuch_Fenced
  | 5, _ => T.ki_NoSuch_Gap
  | 6, _ => T.ki_NoSuch_TooOld
  | 7, _ => T.ki_NoSuch_Late
  | 8, _ => T.ki_NoSuch_NotYours
  | 9, _ => T.ki_NoSuch_Twice
  | 10, _ => T.ki_NoSuch_Busy
  | 11, _ => T.ki_NoSuch_NoDeed
  | 12, _ => T.ki_NoSuch_WrongKind
  | 13, _ => T.ki_NoSuch_Needed
  | 14, _ => T.ki_NoSuch_Gone
  | 15, _ => T.ki_NoSuch_Beyond
  | i + 16, h => absurd h (by omega)
theorem Txt.kg1 (T : Txt K mg a) : ∀ i, i < 4 → PySem.W.kitOne K (.ref a.C_NoSuch) (.ref (gA a i)) = some (decide (gO 1 = i))
  | 0, _ => T.ki_NoSuch_SenderError
  | 1, _ => T.ki_NoSuch_LoanError
  | 2, _ => T.ki_NoSuch_DeedError
  | 3, _ => T.ki_NoSuch_RowError
  | i + 4, h => absurd h (by omega)
theorem Txt.kt2 (T : Txt K mg a) : ∀ i, i < 16 → PySem.W.kitOne K (.ref a.C_Doubled) (.ref (cA a i)) = some (decide (i = 2))
  | 0, _ => T.ki_Doubled_BadWord
  | 1, _ => T.ki_Doubled_NoSuch
  | 2, _ => T.ki_Doubled_Doubled
  | 3, _ => T.ki_Doubled_Broken
  | 4, _ => T.ki_Doubled_Fenced
  | 5, _ => T.ki_Doubled_Gap
  | 6, _ => T.ki_Doubled_TooOld
  | 7, _ => T.ki_Doubled_Late
  | 8, _ => T.ki_Doubled_NotYours
  | 9, _ => T.ki_Doubled_Twice
  | 10, _ => T.ki_Doubled_Busy
  | 11, _ => T.ki_Doubled_NoDeed
  | 12, _ => T.ki_Doubled_WrongKind
  | 13, _ => T.ki_Doubled_Needed
  | 14, _ => T.ki_Doubled_Gone
  | 15, _ => T.ki_Doubled_Beyond
  | i + 16, h => absurd h (by omega)
theorem Txt.kg2 (T : Txt K mg a) : ∀ i, i < 4 → PySem.W.kitOne K (.ref a.C_Doubled) (.ref (gA a i)) = some (decide (gO 2 = i))
  | 0, _ => T.ki_Doubled_SenderError
  | 1, _ => T.ki_Doubled_LoanError
  | 2, _ => T.ki_Doubled_DeedError
  | 3, _ => T.ki_Doubled_RowError
  | i + 4, h => absurd h (by omega)
theorem Txt.kt3 (T : Txt K mg a) : ∀ i, i < 16 → PySem.W.kitOne K (.ref a.C_Broken) (.ref (cA a i)) = some (decide (i = 3))
  | 0, _ => T.ki_Broken_BadWord
  | 1, _ => T.ki_Broken_NoSuch
  | 2, _ => T.ki_Broken_Doubled
  | 3, _ => T.ki_Broken_Broken
  | 4, _ => T.ki_Broken_Fenced
  | 5, _ => T.ki_Broken_Gap
  | 6, _ => T.ki_Broken_TooOld
  | 7, _ => T.ki_Broken_Late
  | 8, _ => T.ki_Broken_NotYours
  | 9, _ => T.ki_Broken_Twice
  | 10, _ => T.ki_Broken_Busy
  | 11, _ => T.ki_Broken_NoDeed
  | 12, _ => T.ki_Broken_WrongKind
  | 13, _ => T.ki_Broken_Needed
  | 14, _ => T.ki_Broken_Gone
  | 15, _ => T.ki_Broken_Beyond
  | i + 16, h => absurd h (by omega)
theorem Txt.kg3 (T : Txt K mg a) : ∀ i, i < 4 → PySem.W.kitOne K (.ref a.C_Broken) (.ref (gA a i)) = some (decide (gO 3 = i))
  | 0, _ => T.ki_Broken_SenderError
  | 1, _ => T.ki_Broken_LoanError
  | 2, _ => T.ki_Broken_DeedError
  | 3, _ => T.ki_Broken_RowError
  | i + 4, h => absurd h (by omega)
theorem Txt.kt4 (T : Txt K mg a) : ∀ i, i < 16 → PySem.W.kitOne K (.ref a.C_Fenced) (.ref (cA a i)) = some (decide (i = 4))
  | 0, _ => T.ki_Fenced_BadWord
  | 1, _ => T.ki_Fenced_NoSuch
  | 2, _ => T.ki_Fenced_Doubled
  | 3, _ => T.ki_Fenced_Broken
  | 4, _ => T.ki_Fenced_Fenced
  | 5, _ => T.ki_Fenced_Gap
  | 6, _ => T.ki_Fenced_TooOld
  | 7, _ => T.ki_Fenced_Late
  | 8, _ => T.ki_Fenced_NotYours
  | 9, _ => T.ki_Fenced_Twice
  | 10, _ => T.ki_Fenced_Busy
  | 11, _ => T.ki_Fenced_NoDeed
  | 12, _ => T.ki_Fenced_WrongKind
  | 13, _ => T.ki_Fenced_Needed
  | 14, _ => T.ki_Fenced_Gone
  | 15, _ => T.ki_Fenced_Beyond
  | i + 16, h => absurd h (by omega)
theorem Txt.kg4 (T : Txt K mg a) : ∀ i, i < 4 → PySem.W.kitOne K (.ref a.C_Fenced) (.ref (gA a i)) = some (decide (gO 4 = i))
  | 0, _ => T.ki_Fenced_SenderError
  | 1, _ => T.ki_Fenced_LoanError
  | 2, _ => T.ki_Fenced_DeedError
  | 3, _ => T.ki_Fenced_RowError
  | i + 4, h => absurd h (by omega)
theorem Txt.kt5 (T : Txt K mg a) : ∀ i, i < 16 → PySem.W.kitOne K (.ref a.C_Gap) (.ref (cA a i)) = some (decide (i = 5))
  | 0, _ => T.ki_Gap_BadWord
  | 1, _ => T.ki_Gap_NoSuch
  | 2, _ => T.ki_Gap_Doubled
  | 3, _ => T.ki_Gap_Broken
  | 4, _ => T.ki_Gap_Fenced
  | 5, _ => T.ki_Gap_Gap
  | 6, _ => T.ki_Gap_TooOld
  | 7, _ => T.ki_Gap_Late
  | 8, _ => T.ki_Gap_NotYours
  | 9, _ => T.ki_Gap_Twice
  | 10, _ => T.ki_Gap_Busy
  | 11, _ => T.ki_Gap_NoDeed
  | 12, _ => T.ki_Gap_WrongKind
  | 13, _ => T.ki_Gap_Needed
  | 14, _ => T.ki_Gap_Gone
  | 15, _ => T.ki_Gap_Beyond
  | i + 16, h => absurd h (by omega)
theorem Txt.kg5 (T : Txt K mg a) : ∀ i, i < 4 → PySem.W.kitOne K (.ref a.C_Gap) (.ref (gA a i)) = some (decide (gO 5 = i))
  | 0, _ => T.ki_Gap_SenderError
  | 1, _ => T.ki_Gap_LoanError
  | 2, _ => T.ki_Gap_DeedError
  | 3, _ => T.ki_Gap_RowError
  | i + 4, h => absurd h (by omega)
theorem Txt.kt6 (T : Txt K mg a) : ∀ i, i < 16 → PySem.W.kitOne K (.ref a.C_TooOld) (.ref (cA a i)) = some (decide (i = 6))
  | 0, _ => T.ki_TooOld_BadWord
  | 1, _ => T.ki_TooOld_NoSuch
  | 2, _ => T.ki_TooOld_Doubled
  | 3, _ => T.ki_TooOld_Broken
  | 4, _ => T.ki_TooOld_Fenced
  | 5, _ => T.ki_TooOld_Gap
  | 6, _ => T.ki_TooOld_TooOld
  | 7, _ => T.ki_TooOld_Late
  | 8, _ => T.ki_TooOld_NotYours
  | 9, _ => T.ki_TooOld_Twice
  | 10, _ => T.ki_TooOld_Busy
  | 11, _ => T.ki_TooOld_NoDeed
  | 12, _ => T.ki_TooOld_WrongKind
  | 13, _ => T.ki_TooOld_Needed
  | 14, _ => T.ki_TooOld_Gone
  | 15, _ => T.ki_TooOld_Beyond
  | i + 16, h => absurd h (by omega)
theorem Txt.kg6 (T : Txt K mg a) : ∀ i, i < 4 → PySem.W.kitOne K (.ref a.C_TooOld) (.ref (gA a i)) = some (decide (gO 6 = i))
  | 0, _ => T.ki_TooOld_SenderError
  | 1, _ => T.ki_TooOld_LoanError
  | 2, _ => T.ki_TooOld_DeedError
  | 3, _ => T.ki_TooOld_RowError
  | i + 4, h => absurd h (by omega)
theorem Txt.kt7 (T : Txt K mg a) : ∀ i, i < 16 → PySem.W.kitOne K (.ref a.C_Late) (.ref (cA a i)) = some (decide (i = 7))
  | 0, _ => T.ki_Late_BadWord
  | 1, _ => T.ki_Late_NoSuch
  | 2, _ => T.ki_Late_Doubled
  | 3, _ => T.ki_Late_Broken
  | 4, _ => T.ki_Late_Fenced
  | 5, _ => T.ki_Late_Gap
  | 6, _ => T.ki_Late_TooOld
  | 7, _ => T.ki_Late_Late
  | 8, _ => T.ki_Late_NotYours
  | 9, _ => T.ki_Late_Twice
  | 10, _ => T.ki_Late_Busy
  | 11, _ => T.ki_Late_NoDeed
  | 12, _ => T.ki_Late_WrongKind
  | 13, _ => T.ki_Late_Needed
  | 14, _ => T.ki_Late_Gone
  | 15, _ => T.ki_Late_Beyond
  | i + 16, h => absurd h (by omega)
theorem Txt.kg7 (T : Txt K mg a) : ∀ i, i < 4 → PySem.W.kitOne K (.ref a.C_Late) (.ref (gA a i)) = some (decide (gO 7 = i))
  | 0, _ => T.ki_Late_SenderError
  | 1, _ => T.ki_Late_LoanError
  | 2, _ => T.ki_Late_DeedError
  | 3, _ => T.ki_Late_RowError
  | i + 4, h => absurd h (by omega)
theorem Txt.kt8 (T : Txt K mg a) : ∀ i, i < 16 → PySem.W.kitOne K (.ref a.C_NotYours) (.ref (cA a i)) = some (decide (i = 8))
  | 0, _ => T.ki_NotYours_BadWord
  | 1, _ => T.ki_NotYours_NoSuch
  | 2, _ => T.ki_NotYours_Doubled
  | 3, _ => T.ki_NotYours_Broken
  | 4, _ => T.ki_NotYours_Fenced
  | 5, _ => T.ki_NotYours_Gap
  | 6, _ => T.ki_NotYours_TooOld
  | 7, _ => T.ki_NotYours_Late
  | 8, _ => T.ki_NotYours_NotYours
  | 9, _ => T.ki_NotYours_Twice
  | 10, _ => T.ki_NotYours_Busy
  | 11, _ => T.ki_NotYours_NoDeed
  | 12, _ => T.ki_NotYours_WrongKind
  | 13, _ => T.ki_NotYours_Needed
  | 14, _ => T.ki_NotYours_Gone
  | 15, _ => T.ki_NotYours_Beyond
  | i + 16, h => absurd h (by omega)
theorem Txt.kg8 (T : Txt K mg a) : ∀ i, i < 4 → PySem.W.kitOne K (.ref a.C_NotYours) (.ref (gA a i)) = some (decide (gO 8 = i))
  | 0, _ => T.ki_NotYours_SenderError
  | 1, _ => T.ki_NotYours_LoanError
  | 2, _ => T.ki_NotYours_DeedError
  | 3, _ => T.ki_NotYours_RowError
  | i + 4, h => absurd h (by omega)
theorem Txt.kt9 (T : Txt K mg a) : ∀ i, i < 16 → PySem.W.kitOne K (.ref a.C_Twice) (.ref (cA a i)) = some (decide (i = 9))
  | 0, _ => T.ki_Twice_BadWord
  | 1, _ => T.ki_Twice_NoSuch
  | 2, _ => T.ki_Twice_Doubled
  | 3, _ => T.ki_Twice_Broken
  | 4, _ => T.ki_Twice_Fenced
  | 5, _ => T.ki_Twice_Gap
  | 6, _ => T.ki_Twice_TooOld
  | 7, _ => T.ki_Twice_Late
  | 8, _ => T.ki_Twice_NotYours
  | 9, _ => T.ki_Twice_Twice
  | 10, _ => T.ki_Twice_Busy
  | 11, _ => T.ki_Twice_NoDeed
  | 12, _ => T.ki_Twice_WrongKind
  | 13, _ => T.ki_Twice_Needed
  | 14, _ => T.ki_Twice_Gone
  | 15, _ => T.ki_Twice_Beyond
  | i + 16, h => absurd h (by omega)
theorem Txt.kg9 (T : Txt K mg a) : ∀ i, i < 4 → PySem.W.kitOne K (.ref a.C_Twice) (.ref (gA a i)) = some (decide (gO 9 = i))
  | 0, _ => T.ki_Twice_SenderError
  | 1, _ => T.ki_Twice_LoanError
  | 2, _ => T.ki_Twice_DeedError
  | 3, _ => T.ki_Twice_RowError
  | i + 4, h => absurd h (by omega)
theorem Txt.kt10 (T : Txt K mg a) : ∀ i, i < 16 → PySem.W.kitOne K (.ref a.C_Busy) (.ref (cA a i)) = some (decide (i = 10))
  | 0, _ => T.ki_Busy_BadWord
  | 1, _ => T.ki_Busy_NoSuch
  | 2, _ => T.ki_Busy_Doubled
  | 3, _ => T.ki_Busy_Broken
  | 4, _ => T.ki_Busy_Fenced
  | 5, _ => T.ki_Busy_Gap
  | 6, _ => T.ki_Busy_TooOld
  | 7, _ => T.ki_Busy_Late
  | 8, _ => T.ki_Busy_NotYours
  | 9, _ => T.ki_Busy_Twice
  | 10, _ => T.ki_Busy_Busy
  | 11, _ => T.ki_Busy_NoDeed
  | 12, _ => T.ki_Busy_WrongKind
  | 13, _ => T.ki_Busy_Needed
  | 14, _ => T.ki_Busy_Gone
  | 15, _ => T.ki_Busy_Beyond
  | i + 16, h => absurd h (by omega)
theorem Txt.kg10 (T : Txt K mg a) : ∀ i, i < 4 → PySem.W.kitOne K (.ref a.C_Busy) (.ref (gA a i)) = some (decide (gO 10 = i))
  | 0, _ => T.ki_Busy_SenderError
  | 1, _ => T.ki_Busy_LoanError
  | 2, _ => T.ki_Busy_DeedError
  | 3, _ => T.ki_Busy_RowError
  | i + 4, h => absurd h (by omega)
theorem Txt.kt11 (T : Txt K mg a) : ∀ i, i < 16 → PySem.W.kitOne K (.ref a.C_NoDeed) (.ref (cA a i)) = some (decide (i = 11))
  | 0, _ => T.ki_NoDeed_BadWord
  | 1, _ => T.ki_NoDeed_NoSuch
  | 2, _ => T.ki_NoDeed_Doubled
  | 3, _ => T.ki_NoDeed_Broken
  | 4, _ => T.ki_NoDeed_Fenced
  | 5, _ => T.ki_NoDeed_Gap
  | 6, _ => T.ki_NoDeed_TooOld
  | 7, _ => T.ki_NoDeed_Late
  | 8, _ => T.ki_NoDeed_NotYours
  | 9, _ => T.ki_NoDeed_Twice
  | 10, _ => T.ki_NoDeed_Busy
  | 11, _ => T.ki_NoDeed_NoDeed
  | 12, _ => T.ki_NoDeed_WrongKind
  | 13, _ => T.ki_NoDeed_Needed
  | 14, _ => T.ki_NoDeed_Gone
  | 15, _ => T.ki_NoDeed_Beyond
  | i + 16, h => absurd h (by omega)
theorem Txt.kg11 (T : Txt K mg a) : ∀ i, i < 4 → PySem.W.kitOne K (.ref a.C_NoDeed) (.ref (gA a i)) = some (decide (gO 11 = i))
  | 0, _ => T.ki_NoDeed_SenderError
  | 1, _ => T.ki_NoDeed_LoanError
  | 2, _ => T.ki_NoDeed_DeedError
  | 3, _ => T.ki_NoDeed_RowError
  | i + 4, h => absurd h (by omega)
theorem Txt.kt12 (T : Txt K mg a) : ∀ i, i < 16 → PySem.W.kitOne K (.ref a.C_WrongKind) (.ref (cA a i)) = some (decide (i = 12))
  | 0, _ => T.ki_WrongKind_BadWord
  | 1, _ => T.ki_WrongKind_NoSuch
  | 2, _ => T.ki_WrongKind_Doubled
  | 3, _ => T.ki_WrongKind_Broken
  | 4, _ => T.ki_WrongKind_Fenced
  | 5, _ => T.ki_WrongKind_Gap
  | 6, _ => T.ki_WrongKind_TooOld
  | 7, _ => T.ki_WrongKind_Late
  | 8, _ => T.ki_WrongKind_NotYours
  | 9, _ => T.ki_WrongKind_Twice
  | 10, _ => T.ki_WrongKind_Busy
  | 11, _ => T.ki_WrongKind_NoDeed
  | 12, _ => T.ki_WrongKind_WrongKind
  | 13, _ => T.ki_WrongKind_Needed
  | 14, _ => T.ki_WrongKind_Gone
  | 15, _ => T.ki_WrongKind_Beyond
  | i + 16, h => absurd h (by omega)
theorem Txt.kg12 (T : Txt K mg a) : ∀ i, i < 4 → PySem.W.kitOne K (.ref a.C_WrongKind) (.ref (gA a i)) = some (decide (gO 12 = i))
  | 0, _ => T.ki_WrongKind_SenderError
  | 1, _ => T.ki_WrongKind_LoanError
  | 2, _ => T.ki_WrongKind_DeedError
  | 3, _ => T.ki_WrongKind_RowError
  | i + 4, h => absurd h (by omega)
theorem Txt.kt13 (T : Txt K mg a) : ∀ i, i < 16 → PySem.W.kitOne K (.ref a.C_Needed) (.ref (cA a i)) = some (decide (i = 13))
  | 0, _ => T.ki_Needed_BadWord
  | 1, _ => T.ki_Needed_NoSuch
  | 2, _ => T.ki_Needed_Doubled
  | 3, _ => T.ki_Needed_Broken
  | 4, _ => T.ki_Needed_Fenced
  | 5, _ => T.ki_Needed_Gap
  | 6, _ => T.ki_Needed_TooOld
  | 7, _ => T.ki_Needed_Late
  | 8, _ => T.ki_Needed_NotYours
  | 9, _ => T.ki_Needed_Twice
  | 10, _ => T.ki_Needed_Busy
  | 11, _ => T.ki_Needed_NoDeed
  | 12, _ => T.ki_Needed_WrongKind
  | 13, _ => T.ki_Needed_Needed
  | 14, _ => T.ki_Needed_Gone
  | 15, _ => T.ki_Needed_Beyond
  | i + 16, h => absurd h (by omega)
theorem Txt.kg13 (T : Txt K mg a) : ∀ i, i < 4 → PySem.W.kitOne K (.ref a.C_Needed) (.ref (gA a i)) = some (decide (gO 13 = i))
  | 0, _ => T.ki_Needed_SenderError
  | 1, _ => T.ki_Needed_LoanError
  | 2, _ => T.ki_Needed_DeedError
  | 3, _ => T.ki_Needed_RowError
  | i + 4, h => absurd h (by omega)
theorem Txt.kt14 (T : Txt K mg a) : ∀ i, i < 16 → PySem.W.kitOne K (.ref a.C_Gone) (.ref (cA a i)) = some (decide (i = 14))
  | 0, _ => T.ki_Gone_BadWord
  | 1, _ => T.ki_Gone_NoSuch
  | 2, _ => T.ki_Gone_Doubled
  | 3, _ => T.ki_Gone_Broken
  | 4, _ => T.ki_Gone_Fenced
  | 5, _ => T.ki_Gone_Gap
  | 6, _ => T.ki_Gone_TooOld
  | 7, _ => T.ki_Gone_Late
  | 8, _ => T.ki_Gone_NotYours
  | 9, _ => T.ki_Gone_Twice
  | 10, _ => T.ki_Gone_Busy
  | 11, _ => T.ki_Gone_NoDeed
  | 12, _ => T.ki_Gone_WrongKind
  | 13, _ => T.ki_Gone_Needed
  | 14, _ => T.ki_Gone_Gone
  | 15, _ => T.ki_Gone_Beyond
  | i + 16, h => absurd h (by omega)
theorem Txt.kg14 (T : Txt K mg a) : ∀ i, i < 4 → PySem.W.kitOne K (.ref a.C_Gone) (.ref (gA a i)) = some (decide (gO 14 = i))
  | 0, _ => T.ki_Gone_SenderError
  | 1, _ => T.ki_Gone_LoanError
  | 2, _ => T.ki_Gone_DeedError
  | 3, _ => T.ki_Gone_RowError
  | i + 4, h => absurd h (by omega)
theorem Txt.kt15 (T : Txt K mg a) : ∀ i, i < 16 → PySem.W.kitOne K (.ref a.C_Beyond) (.ref (cA a i)) = some (decide (i = 15))
  | 0, _ => T.ki_Beyond_BadWord
  | 1, _ => T.ki_Beyond_NoSuch
  | 2, _ => T.ki_Beyond_Doubled
  | 3, _ => T.ki_Beyond_Broken
  | 4, _ => T.ki_Beyond_Fenced
  | 5, _ => T.ki_Beyond_Gap
  | 6, _ => T.ki_Beyond_TooOld
  | 7, _ => T.ki_Beyond_Late
  | 8, _ => T.ki_Beyond_NotYours
  | 9, _ => T.ki_Beyond_Twice
  | 10, _ => T.ki_Beyond_Busy
  | 11, _ => T.ki_Beyond_NoDeed
  | 12, _ => T.ki_Beyond_WrongKind
  | 13, _ => T.ki_Beyond_Needed
  | 14, _ => T.ki_Beyond_Gone
  | 15, _ => T.ki_Beyond_Beyond
  | i + 16, h => absurd h (by omega)
theorem Txt.kg15 (T : Txt K mg a) : ∀ i, i < 4 → PySem.W.kitOne K (.ref a.C_Beyond) (.ref (gA a i)) = some (decide (gO 15 = i))
  | 0, _ => T.ki_Beyond_SenderError
  | 1, _ => T.ki_Beyond_LoanError
  | 2, _ => T.ki_Beyond_DeedError
  | 3, _ => T.ki_Beyond_RowError
  | i + 4, h => absurd h (by omega)
theorem Txt.kt (T : Txt K mg a) : ∀ n, n < 16 → ∀ i, i < 16 → PySem.W.kitOne K (.ref (cA a n)) (.ref (cA a i)) = some (decide (i = n))
  | 0, _ => T.kt0
  | 1, _ => T.kt1
  | 2, _ => T.kt2
  | 3, _ => T.kt3
  | 4, _ => T.kt4
  | 5, _ => T.kt5
  | 6, _ => T.kt6
  | 7, _ => T.kt7
  | 8, _ => T.kt8
  | 9, _ => T.kt9
  | 10, _ => T.kt10
  | 11, _ => T.kt11
  | 12, _ => T.kt12
  | 13, _ => T.kt13
  | 14, _ => T.kt14
  | 15, _ => T.kt15
  | n + 16, h => absurd h (by omega)
theorem Txt.kg (T : Txt K mg a) : ∀ n, n < 16 → ∀ i, i < 4 → PySem.W.kitOne K (.ref (cA a n)) (.ref (gA a i)) = some (decide (gO n = i))
  | 0, _ => T.kg0
  | 1, _ => T.kg1
  | 2, _ => T.kg2
  | 3, _ => T.kg3
  | 4, _ => T.kg4
  | 5, _ => T.kg5
  | 6, _ => T.kg6
  | 7, _ => T.kg7
  | 8, _ => T.kg8
  | 9, _ => T.kg9
  | 10, _ => T.kg10
  | 11, _ => T.kg11
  | 12, _ => T.kg12
  | 13, _ => T.kg13
  | 14, _ => T.kg14
  | 15, _ => T.kg15
  | n + 16, h => absurd h (by omega)
end

def sp_kinds (a : Adr) : Sp := fun vs H Q _ => ∃ (ea : Addr) (n : Nat) (dx : Option Addr) (fs : List (Str × V)), vs = [.ref ea] ∧ n < 16 ∧ H ea = some (xh ea (cA a n) dx) ∧ XD H dx fs ∧ ∀ D H', H D = none → Same H H' → H' D = some (.lst ((List.range 16).map fun i => V.bl (decide (i = n)))) → Q (.ref D) H'
def sp_gath (a : Adr) : Sp := fun vs H Q _ => ∃ (ea : Addr) (n : Nat) (dx : Option Addr) (fs : List (Str × V)), vs = [.ref ea] ∧ n < 16 ∧ H ea = some (xh ea (cA a n) dx) ∧ XD H dx fs ∧ ∀ D H', H D = none → Same H H' → H' D = some (.lst ((List.range 4).map fun i => V.bl (decide (gO n = i)))) → Q (.ref D) H'
def sp_rf (a : Adr) : Sp := fun vs H Q E => ∃ (n : Nat) (v : V), vs = [.int n, v] ∧ n < 16 ∧ ((n < 7 ∧ XB E H (cA a n) ((fN n).zip [v])) ∨ (7 ≤ n ∧ Q .non H))
def sp_rm (a : Adr) : Sp := fun vs H Q E => ∃ (n : Nat) (v u : V), vs = [.int n, v, u] ∧ n < 16 ∧ ((7 ≤ n ∧ XB E H (cA a n) ((fN n).zip [v, u])) ∨ (n < 7 ∧ Q .non H))
def sp_ff (a : Adr) : Sp := fun vs H Q _ => ∃ (ea : Addr) (n : Nat) (dx : Option Addr) (v u : V), vs = [.ref ea] ∧ n < 16 ∧ H ea = some (xh ea (cA a n) dx) ∧ XD H dx ((fN n).zip [v, u]) ∧ ∀ D H', H D = none → Same H H' → H' D = some (.lst (if n < 7 then ((fN n).zip [v, u]).map (·.2) else [])) → Q (.ref D) H'
def sp_fm (a : Adr) : Sp := fun vs H Q _ => ∃ (ea : Addr) (n : Nat) (dx : Option Addr) (v u : V), vs = [.ref ea] ∧ n < 16 ∧ H ea = some (xh ea (cA a n) dx) ∧ XD H dx ((fN n).zip [v, u]) ∧ ∀ D H', H D = none → Same H H' → H' D = some (.lst (if n < 7 then [] else ((fN n).zip [v, u]).map (·.2))) → Q (.ref D) H'
def sp_field : Sp := fun vs H Q _ => ∃ (c k : Int), vs = [.int c, .int k] ∧ ∀ v, ((∃ i, v = .int i) ∨ ∃ l, v = .str (S l) ∧ okS l) → Q v H
def sp_duef : Sp := fun vs H Q _ => ∃ (n : Nat) (v u : V), vs = [.int n, v, u] ∧ n < 16 ∧ ∀ D H', H D = none → Same H H' → H' D = some (.lst (((fN n).zip [v, u]).map (·.2))) → Q (.ref D) H'

local macro_rules | `(tactic| walk_at "rd") => do
  let ns := (("sp_kinds, sp_gath, sp_rf, sp_rm, sp_ff, sp_fm, sp_field, sp_duef, sp_mixed, sp_cell_at, sXs, tRaise, tRaise0, tTry, tXFld, xMeth, xCall, xNo, tAs, tBare, tNoH, Ends.less, S_iff, and_assoc, tFor_eq, tComp_eq, cx_K, iAny_eq, iRng1, iRng2, rSlA_s, rSlS, tSl, tNoPart, tPart, tBM, tBM0, tyV, rJoin, tLst, tTup, tSeq, tAsg, gName, gTup, gCons, gNil, gSub, tVar, tC, tOp, tUn, rU, rI, rI0, tTest, tIfS, tRet, tRetN, tNext, tBreak, tCont, tDrop, tCons, tNil, tCall, tMeth, tMake, tCB, tB, tNot, tAnd, tOr, tAndV, tOrV, tNotV, tChain, tIf, tIsN, tNotN, tFld, sFld, tInRng, tInRng1, tDGet1, tDGet2, tDPop1, tDPop2, tDisp, tPairs, tDNewK, rAppend, rMax, rMin, iZip, iEnum, rInt_i, rInt_b, rStrI, rMul_ii, rMul_si, rIsB_bb, rNotB_bb, tForD_eq, iItems, iKeys, iRev, tDClear, rPlus_ii, rPlus_ss, rEqq_ii, rNeq_ii, rEqq_ss, rNeq_ss, rEqq_bb, rNeq_bb, rEqq_nn, rNeq_nn, rEqq_ni, rNeq_ni, rEqq_in, rNeq_in, rEqq_ns, rNeq_ns, rEqq_sn, rNeq_sn, rEqq_nb, rNeq_nb, rEqq_bn, rNeq_bn, rEqq_is, rNeq_is, rEqq_si, rNeq_si, rLt_ii, rLt_ss, rLe_ii, rLe_ss, rLen_s, rInn_s, rNin_s, rOrd, tTru, TruV_b, TruV_n, TruV_i, rIxA_s, rIxS2, rAny_s, isi_non_int, isi_non_bool, isi_non_str, isi_non_list, isi_non_tuple, isi_non_dict, isi_bl_int, isi_bl_bool, isi_bl_str, isi_bl_list, isi_bl_tuple, isi_bl_dict, isi_int_int, isi_int_bool, isi_int_str, isi_int_list, isi_int_tuple, isi_int_dict, isi_str_int, isi_str_bool, isi_str_str, isi_str_list, isi_str_tuple, isi_str_dict, _root_.L2.start, CMul, CDiv, CPow, Int.reduceNeg, Int.reducePow, Int.reduceLT, Int.reduceLE, Int.reduceToNat, or_true, true_or, and_self, Nat.reducePow, List.map_cons, List.map_nil, List.length_cons, List.length_nil, List.replicate, List.cons_append, List.nil_append, List.append_nil, Nat.reduceAdd, Nat.reduceSub, Nat.zero_add, Nat.add_zero, Nat.sub_self, List.getElem?_cons_zero, List.getElem?_cons_succ, List.set_cons_zero, List.set_cons_succ, Option.some.injEq, V.int.injEq, V.bl.injEq, V.str.injEq, V.ref.injEq, V.ty.injEq, reduceCtorEq, exists_eq, exists_eq', not_true_eq_false, not_false_eq_true, exists_eq_left', exists_eq_left, exists_eq_right, exists_eq_right', exists_and_left, exists_and_right, exists_const, false_and, and_false, true_and, and_true, exists_false, or_false, false_or, List.cons.injEq, eq_self_iff_true, Bool.false_eq_true, Bool.or_self, Bool.or_true, Bool.true_or, Bool.or_false, Bool.false_or, if_true, if_false, ite_true, ite_false, Bool.not_true, Bool.not_false, decide_eq_true_eq, Bool.not_eq_true', decide_eq_false_iff_not".splitOn ",").map String.trim).filter (fun s => !s.isEmpty)
  let ls ← ns.mapM fun s => `(Lean.Parser.Tactic.simpLemma| $(Lean.mkIdent s.toName):term)
  let ls := ls.toArray
  `(tactic| simp (maxSteps := 3000000) only [$ls,*, ↓reduceIte])
seal PE PT PW PA PS PSs PG PGs PI PO PPs PC
section
variable {P : Program} {w : World} {K : PySem.W.Frag} {mg : Str → Option Value} {base : Heap} {a : Adr}

theorem ok_Beyond___init__ (T : Txt K mg a) : FnOk P w K mg base CX0 1 a.f_Beyond___init__ a.d_Beyond___init__ ["self", "row", "place"] (sp_xs a.C_Beyond ["row", "place"]) := by
  refine T.F_Beyond___init__.ok sc_Beyond___init__ (fun vs H Q E h => ?_) (fun cdv A outer s H vs Q E hr h => ?_)
  · obtain ⟨ea, t, ys, rfl, hl, _⟩ := h
    rw [List.length_cons, hl]
    rfl
  · obtain ⟨ea, t, ys, rfl, hl, he, q⟩ := h
    obtain ⟨y0, y1, rfl⟩ : ∃ y0 y1, ys = [y0, y1] := by
      match ys, hl with
      | [y0, y1], _ => exact ⟨y0, y1, rfl⟩
    refine ⟨_, (pss_cons (ps_setx (pv 0) (pv 1) rfl)
      (pss_one (ps_setx (pv 0) (pv 2) rfl))), ?_⟩
    walk_at "rd"
    exact ⟨a.C_Beyond, T.x_Beyond, T.no_Beyond_row, t, .inl ⟨he, fun d hd nd => ⟨a.C_Beyond, T.x_Beyond, T.no_Beyond_place, t, .inr ⟨d, nd, upd_same, _, (upd_ne nd).trans upd_same, by simp, q d _ hd nd (fun b h1 h2 => by rw [upd_ne h1, upd_ne h2, upd_ne h1]) ((upd_ne (Ne.symm nd)).trans upd_same) upd_same⟩⟩⟩⟩
theorem ok_Broken___init__ (T : Txt K mg a) : FnOk P w K mg base CX0 1 a.f_Broken___init__ a.d_Broken___init__ ["self", "line"] (sp_xs a.C_Broken ["line"]) := by
  refine T.F_Broken___init__.ok sc_Broken___init__ (fun vs H Q E h => ?_) (fun cdv A outer s H vs Q E hr h => ?_)
  · obtain ⟨ea, t, ys, rfl, hl, _⟩ := h
    rw [List.length_cons, hl]
    rfl
  · obtain ⟨ea, t, ys, rfl, hl, he, q⟩ := h
    obtain ⟨y0, rfl⟩ : ∃ y0, ys = [y0] := by
      match ys, hl with
      | [y0], _ => exact ⟨y0, rfl⟩
    refine ⟨_, (pss_one (ps_setx (pv 0) (pv 1) rfl)), ?_⟩
    walk_at "rd"
    exact ⟨a.C_Broken, T.x_Broken, T.no_Broken_line, t, .inl ⟨he, fun d hd nd => q d _ hd nd (fun b h1 h2 => by rw [upd_ne h2, upd_ne h1]) upd_same (by rw [upd_ne nd]; exact upd_same)⟩⟩
theorem ok_Busy___init__ (T : Txt K mg a) : FnOk P w K mg base CX0 1 a.f_Busy___init__ a.d_Busy___init__ ["self", "deed"] (sp_xs a.C_Busy ["deed"]) := by
  refine T.F_Busy___init__.ok sc_Busy___init__ (fun vs H Q E h => ?_) (fun cdv A outer s H vs Q E hr h => ?_)
  · obtain ⟨ea, t, ys, rfl, hl, _⟩ := h
    rw [List.length_cons, hl]
    rfl
  · obtain ⟨ea, t, ys, rfl, hl, he, q⟩ := h
    obtain ⟨y0, rfl⟩ : ∃ y0, ys = [y0] := by
      match ys, hl with
      | [y0], _ => exact ⟨y0, rfl⟩
    refine ⟨_, (pss_one (ps_setx (pv 0) (pv 1) rfl)), ?_⟩
    walk_at "rd"
    exact ⟨a.C_Busy, T.x_Busy, T.no_Busy_deed, t, .inl ⟨he, fun d hd nd => q d _ hd nd (fun b h1 h2 => by rw [upd_ne h2, upd_ne h1]) upd_same (by rw [upd_ne nd]; exact upd_same)⟩⟩
theorem ok_Doubled___init__ (T : Txt K mg a) : FnOk P w K mg base CX0 1 a.f_Doubled___init__ a.d_Doubled___init__ ["self", "name"] (sp_xs a.C_Doubled ["name"]) := by
  refine T.F_Doubled___init__.ok sc_Doubled___init__ (fun vs H Q E h => ?_) (fun cdv A outer s H vs Q E hr h => ?_)
  · obtain ⟨ea, t, ys, rfl, hl, _⟩ := h
    rw [List.length_cons, hl]
    rfl
  · obtain ⟨ea, t, ys, rfl, hl, he, q⟩ := h
    obtain ⟨y0, rfl⟩ : ∃ y0, ys = [y0] := by
      match ys, hl with
      | [y0], _ => exact ⟨y0, rfl⟩
    refine ⟨_, (pss_one (ps_setx (pv 0) (pv 1) rfl)), ?_⟩
    walk_at "rd"
    exact ⟨a.C_Doubled, T.x_Doubled, T.no_Doubled_name, t, .inl ⟨he, fun d hd nd => q d _ hd nd (fun b h1 h2 => by rw [upd_ne h2, upd_ne h1]) upd_same (by rw [upd_ne nd]; exact upd_same)⟩⟩
theorem ok_Fenced___init__ (T : Txt K mg a) : FnOk P w K mg base CX0 1 a.f_Fenced___init__ a.d_Fenced___init__ ["self", "life"] (sp_xs a.C_Fenced ["life"]) := by
  refine T.F_Fenced___init__.ok sc_Fenced___init__ (fun vs H Q E h => ?_) (fun cdv A outer s H vs Q E hr h => ?_)
  · obtain ⟨ea, t, ys, rfl, hl, _⟩ := h
    rw [List.length_cons, hl]
    rfl
  · obtain ⟨ea, t, ys, rfl, hl, he, q⟩ := h
    obtain ⟨y0, rfl⟩ : ∃ y0, ys = [y0] := by
      match ys, hl with
      | [y0], _ => exact ⟨y0, rfl⟩
    refine ⟨_, (pss_one (ps_setx (pv 0) (pv 1) rfl)), ?_⟩
    walk_at "rd"
    exact ⟨a.C_Fenced, T.x_Fenced, T.no_Fenced_life, t, .inl ⟨he, fun d hd nd => q d _ hd nd (fun b h1 h2 => by rw [upd_ne h2, upd_ne h1]) upd_same (by rw [upd_ne nd]; exact upd_same)⟩⟩
theorem ok_Gap___init__ (T : Txt K mg a) : FnOk P w K mg base CX0 1 a.f_Gap___init__ a.d_Gap___init__ ["self", "due"] (sp_xs a.C_Gap ["due"]) := by
  refine T.F_Gap___init__.ok sc_Gap___init__ (fun vs H Q E h => ?_) (fun cdv A outer s H vs Q E hr h => ?_)
  · obtain ⟨ea, t, ys, rfl, hl, _⟩ := h
    rw [List.length_cons, hl]
    rfl
  · obtain ⟨ea, t, ys, rfl, hl, he, q⟩ := h
    obtain ⟨y0, rfl⟩ : ∃ y0, ys = [y0] := by
      match ys, hl with
      | [y0], _ => exact ⟨y0, rfl⟩
    refine ⟨_, (pss_one (ps_setx (pv 0) (pv 1) rfl)), ?_⟩
    walk_at "rd"
    exact ⟨a.C_Gap, T.x_Gap, T.no_Gap_due, t, .inl ⟨he, fun d hd nd => q d _ hd nd (fun b h1 h2 => by rw [upd_ne h2, upd_ne h1]) upd_same (by rw [upd_ne nd]; exact upd_same)⟩⟩
theorem ok_Gone___init__ (T : Txt K mg a) : FnOk P w K mg base CX0 1 a.f_Gone___init__ a.d_Gone___init__ ["self", "row", "place"] (sp_xs a.C_Gone ["row", "place"]) := by
  refine T.F_Gone___init__.ok sc_Gone___init__ (fun vs H Q E h => ?_) (fun cdv A outer s H vs Q E hr h => ?_)
  · obtain ⟨ea, t, ys, rfl, hl, _⟩ := h
    rw [List.length_cons, hl]
    rfl
  · obtain ⟨ea, t, ys, rfl, hl, he, q⟩ := h
    obtain ⟨y0, y1, rfl⟩ : ∃ y0 y1, ys = [y0, y1] := by
      match ys, hl with
      | [y0, y1], _ => exact ⟨y0, y1, rfl⟩
    refine ⟨_, (pss_cons (ps_setx (pv 0) (pv 1) rfl)
      (pss_one (ps_setx (pv 0) (pv 2) rfl))), ?_⟩
    walk_at "rd"
    exact ⟨a.C_Gone, T.x_Gone, T.no_Gone_row, t, .inl ⟨he, fun d hd nd => ⟨a.C_Gone, T.x_Gone, T.no_Gone_place, t, .inr ⟨d, nd, upd_same, _, (upd_ne nd).trans upd_same, by simp, q d _ hd nd (fun b h1 h2 => by rw [upd_ne h1, upd_ne h2, upd_ne h1]) ((upd_ne (Ne.symm nd)).trans upd_same) upd_same⟩⟩⟩⟩
theorem ok_Late___init__ (T : Txt K mg a) : FnOk P w K mg base CX0 1 a.f_Late___init__ a.d_Late___init__ ["self", "row", "loan"] (sp_xs a.C_Late ["row", "loan"]) := by
  refine T.F_Late___init__.ok sc_Late___init__ (fun vs H Q E h => ?_) (fun cdv A outer s H vs Q E hr h => ?_)
  · obtain ⟨ea, t, ys, rfl, hl, _⟩ := h
    rw [List.length_cons, hl]
    rfl
  · obtain ⟨ea, t, ys, rfl, hl, he, q⟩ := h
    obtain ⟨y0, y1, rfl⟩ : ∃ y0 y1, ys = [y0, y1] := by
      match ys, hl with
      | [y0, y1], _ => exact ⟨y0, y1, rfl⟩
    refine ⟨_, (pss_cons (ps_setx (pv 0) (pv 1) rfl)
      (pss_one (ps_setx (pv 0) (pv 2) rfl))), ?_⟩
    walk_at "rd"
    exact ⟨a.C_Late, T.x_Late, T.no_Late_row, t, .inl ⟨he, fun d hd nd => ⟨a.C_Late, T.x_Late, T.no_Late_loan, t, .inr ⟨d, nd, upd_same, _, (upd_ne nd).trans upd_same, by simp, q d _ hd nd (fun b h1 h2 => by rw [upd_ne h1, upd_ne h2, upd_ne h1]) ((upd_ne (Ne.symm nd)).trans upd_same) upd_same⟩⟩⟩⟩
theorem ok_Needed___init__ (T : Txt K mg a) : FnOk P w K mg base CX0 1 a.f_Needed___init__ a.d_Needed___init__ ["self", "row", "place"] (sp_xs a.C_Needed ["row", "place"]) := by
  refine T.F_Needed___init__.ok sc_Needed___init__ (fun vs H Q E h => ?_) (fun cdv A outer s H vs Q E hr h => ?_)
  · obtain ⟨ea, t, ys, rfl, hl, _⟩ := h
    rw [List.length_cons, hl]
    rfl
  · obtain ⟨ea, t, ys, rfl, hl, he, q⟩ := h
    obtain ⟨y0, y1, rfl⟩ : ∃ y0 y1, ys = [y0, y1] := by
      match ys, hl with
      | [y0, y1], _ => exact ⟨y0, y1, rfl⟩
    refine ⟨_, (pss_cons (ps_setx (pv 0) (pv 1) rfl)
      (pss_one (ps_setx (pv 0) (pv 2) rfl))), ?_⟩
    walk_at "rd"
    exact ⟨a.C_Needed, T.x_Needed, T.no_Needed_row, t, .inl ⟨he, fun d hd nd => ⟨a.C_Needed, T.x_Needed, T.no_Needed_place, t, .inr ⟨d, nd, upd_same, _, (upd_ne nd).trans upd_same, by simp, q d _ hd nd (fun b h1 h2 => by rw [upd_ne h1, upd_ne h2, upd_ne h1]) ((upd_ne (Ne.symm nd)).trans upd_same) upd_same⟩⟩⟩⟩
theorem ok_NoDeed___init__ (T : Txt K mg a) : FnOk P w K mg base CX0 1 a.f_NoDeed___init__ a.d_NoDeed___init__ ["self", "name"] (sp_xs a.C_NoDeed ["name"]) := by
  refine T.F_NoDeed___init__.ok sc_NoDeed___init__ (fun vs H Q E h => ?_) (fun cdv A outer s H vs Q E hr h => ?_)
  · obtain ⟨ea, t, ys, rfl, hl, _⟩ := h
    rw [List.length_cons, hl]
    rfl
  · obtain ⟨ea, t, ys, rfl, hl, he, q⟩ := h
    obtain ⟨y0, rfl⟩ : ∃ y0, ys = [y0] := by
      match ys, hl with
      | [y0], _ => exact ⟨y0, rfl⟩
    refine ⟨_, (pss_one (ps_setx (pv 0) (pv 1) rfl)), ?_⟩
    walk_at "rd"
    exact ⟨a.C_NoDeed, T.x_NoDeed, T.no_NoDeed_name, t, .inl ⟨he, fun d hd nd => q d _ hd nd (fun b h1 h2 => by rw [upd_ne h2, upd_ne h1]) upd_same (by rw [upd_ne nd]; exact upd_same)⟩⟩
theorem ok_NoSuch___init__ (T : Txt K mg a) : FnOk P w K mg base CX0 1 a.f_NoSuch___init__ a.d_NoSuch___init__ ["self", "name"] (sp_xs a.C_NoSuch ["name"]) := by
  refine T.F_NoSuch___init__.ok sc_NoSuch___init__ (fun vs H Q E h => ?_) (fun cdv A outer s H vs Q E hr h => ?_)
  · obtain ⟨ea, t, ys, rfl, hl, _⟩ := h
    rw [List.length_cons, hl]
    rfl
  · obtain ⟨ea, t, ys, rfl, hl, he, q⟩ := h
    obtain ⟨y0, rfl⟩ : ∃ y0, ys = [y0] := by
      match ys, hl with
      | [y0], _ => exact ⟨y0, rfl⟩
    refine ⟨_, (pss_one (ps_setx (pv 0) (pv 1) rfl)), ?_⟩
    walk_at "rd"
    exact ⟨a.C_NoSuch, T.x_NoSuch, T.no_NoSuch_name, t, .inl ⟨he, fun d hd nd => q d _ hd nd (fun b h1 h2 => by rw [upd_ne h2, upd_ne h1]) upd_same (by rw [upd_ne nd]; exact upd_same)⟩⟩
theorem ok_NotYours___init__ (T : Txt K mg a) : FnOk P w K mg base CX0 1 a.f_NotYours___init__ a.d_NotYours___init__ ["self", "row", "owner"] (sp_xs a.C_NotYours ["row", "owner"]) := by
  refine T.F_NotYours___init__.ok sc_NotYours___init__ (fun vs H Q E h => ?_) (fun cdv A outer s H vs Q E hr h => ?_)
  · obtain ⟨ea, t, ys, rfl, hl, _⟩ := h
    rw [List.length_cons, hl]
    rfl
  · obtain ⟨ea, t, ys, rfl, hl, he, q⟩ := h
    obtain ⟨y0, y1, rfl⟩ : ∃ y0 y1, ys = [y0, y1] := by
      match ys, hl with
      | [y0, y1], _ => exact ⟨y0, y1, rfl⟩
    refine ⟨_, (pss_cons (ps_setx (pv 0) (pv 1) rfl)
      (pss_one (ps_setx (pv 0) (pv 2) rfl))), ?_⟩
    walk_at "rd"
    exact ⟨a.C_NotYours, T.x_NotYours, T.no_NotYours_row, t, .inl ⟨he, fun d hd nd => ⟨a.C_NotYours, T.x_NotYours, T.no_NotYours_owner, t, .inr ⟨d, nd, upd_same, _, (upd_ne nd).trans upd_same, by simp, q d _ hd nd (fun b h1 h2 => by rw [upd_ne h1, upd_ne h2, upd_ne h1]) ((upd_ne (Ne.symm nd)).trans upd_same) upd_same⟩⟩⟩⟩
theorem ok_TooOld___init__ (T : Txt K mg a) : FnOk P w K mg base CX0 1 a.f_TooOld___init__ a.d_TooOld___init__ ["self", "number"] (sp_xs a.C_TooOld ["number"]) := by
  refine T.F_TooOld___init__.ok sc_TooOld___init__ (fun vs H Q E h => ?_) (fun cdv A outer s H vs Q E hr h => ?_)
  · obtain ⟨ea, t, ys, rfl, hl, _⟩ := h
    rw [List.length_cons, hl]
    rfl
  · obtain ⟨ea, t, ys, rfl, hl, he, q⟩ := h
    obtain ⟨y0, rfl⟩ : ∃ y0, ys = [y0] := by
      match ys, hl with
      | [y0], _ => exact ⟨y0, rfl⟩
    refine ⟨_, (pss_one (ps_setx (pv 0) (pv 1) rfl)), ?_⟩
    walk_at "rd"
    exact ⟨a.C_TooOld, T.x_TooOld, T.no_TooOld_number, t, .inl ⟨he, fun d hd nd => q d _ hd nd (fun b h1 h2 => by rw [upd_ne h2, upd_ne h1]) upd_same (by rw [upd_ne nd]; exact upd_same)⟩⟩
theorem ok_Twice___init__ (T : Txt K mg a) : FnOk P w K mg base CX0 1 a.f_Twice___init__ a.d_Twice___init__ ["self", "row", "loan"] (sp_xs a.C_Twice ["row", "loan"]) := by
  refine T.F_Twice___init__.ok sc_Twice___init__ (fun vs H Q E h => ?_) (fun cdv A outer s H vs Q E hr h => ?_)
  · obtain ⟨ea, t, ys, rfl, hl, _⟩ := h
    rw [List.length_cons, hl]
    rfl
  · obtain ⟨ea, t, ys, rfl, hl, he, q⟩ := h
    obtain ⟨y0, y1, rfl⟩ : ∃ y0 y1, ys = [y0, y1] := by
      match ys, hl with
      | [y0, y1], _ => exact ⟨y0, y1, rfl⟩
    refine ⟨_, (pss_cons (ps_setx (pv 0) (pv 1) rfl)
      (pss_one (ps_setx (pv 0) (pv 2) rfl))), ?_⟩
    walk_at "rd"
    exact ⟨a.C_Twice, T.x_Twice, T.no_Twice_row, t, .inl ⟨he, fun d hd nd => ⟨a.C_Twice, T.x_Twice, T.no_Twice_loan, t, .inr ⟨d, nd, upd_same, _, (upd_ne nd).trans upd_same, by simp, q d _ hd nd (fun b h1 h2 => by rw [upd_ne h1, upd_ne h2, upd_ne h1]) ((upd_ne (Ne.symm nd)).trans upd_same) upd_same⟩⟩⟩⟩
theorem ok_WrongKind___init__ (T : Txt K mg a) : FnOk P w K mg base CX0 1 a.f_WrongKind___init__ a.d_WrongKind___init__ ["self", "row"] (sp_xs a.C_WrongKind ["row"]) := by
  refine T.F_WrongKind___init__.ok sc_WrongKind___init__ (fun vs H Q E h => ?_) (fun cdv A outer s H vs Q E hr h => ?_)
  · obtain ⟨ea, t, ys, rfl, hl, _⟩ := h
    rw [List.length_cons, hl]
    rfl
  · obtain ⟨ea, t, ys, rfl, hl, he, q⟩ := h
    obtain ⟨y0, rfl⟩ : ∃ y0, ys = [y0] := by
      match ys, hl with
      | [y0], _ => exact ⟨y0, rfl⟩
    refine ⟨_, (pss_one (ps_setx (pv 0) (pv 1) rfl)), ?_⟩
    walk_at "rd"
    exact ⟨a.C_WrongKind, T.x_WrongKind, T.no_WrongKind_row, t, .inl ⟨he, fun d hd nd => q d _ hd nd (fun b h1 h2 => by rw [upd_ne h2, upd_ne h1]) upd_same (by rw [upd_ne nd]; exact upd_same)⟩⟩
theorem ok_l_mixed (T : Txt K mg a) : FnOk P w K mg base CX0 1 a.f_l_mixed a.d_l_mixed ["_law_cell", "_law_k"] sp_mixed := by
  refine T.F_l_mixed.ok sc_l_mixed (fun vs H Q E h => ?_) (fun cdv A outer s H vs Q E hr h => ?_)
  · obtain ⟨c, k, rfl, _⟩ := h
    rfl
  · obtain ⟨c, k, rfl, q⟩ := h
    refine ⟨_, (pss_cons (ps_set (i := 2) sc_l_mixed.nd rfl (Or.inl rfl) (pe_op op_mod (pe_op (op_plusK (K := K)) (pe_op (op_plusK (K := K)) (pe_op op_mulA (pe_op op_mod (pv 0) pe_int) pe_int) (pe_op op_mulA pe_int (pv 1))) pe_int) pe_int))
      (pss_one (ps_ret (pe_op op_mod (pe_op op_mulA (pv 2) (pv 2)) pe_int)))), ?_⟩
    walk_at "rd"
    refine ⟨.inl ?_, q⟩
    omega

theorem ok_l_cell_at (T : Txt K mg a) : FnOk P w K mg base CX0 1 a.f_l_cell_at a.d_l_cell_at ["_law_script", "_law_k"] (sp_cell_at K) := by
  refine T.F_l_cell_at.ok sc_l_cell_at (fun vs H Q E h => ?_) (fun cdv A outer s H vs Q E hr h => ?_)
  · obtain ⟨p, ns, k, rfl, _⟩ := h
    rfl
  · obtain ⟨p, ns, k, rfl, hs, hk, q⟩ := h
    refine ⟨_, (pss_cons (ps_if (pt_cmpR op_ltK (pv 1) (pe_callB (call_lenK (K := K)) (by rfl) T.n_len boot_len (pa_cons (pv 0) pa_nil)) (nomark _)) (pss_one (ps_ret (pe_ix (ix_anyK (K := K) (hU1 hr)) (pv 0) (pv 1) (fun _ _ => rfl)))) pss_nil)
      (pss_one (ps_ret pe_int))), ?_⟩
    walk_at "rd"
    refine rLen_l hs ?_
    walk_at "rd"
    rw [List.length_map]
    refine ite2 (fun hlt => ?_) (fun hge => ?_)
    · refine rIxA_l hs (v := .int (ns.getD k.toNat 0)) (atI_get? hk ?_) q
      rw [List.getElem?_map, List.getD_eq_getElem?_getD, List.getElem?_eq_getElem (show k.toNat < ns.length by omega)]
      rfl
    · rw [List.getD_eq_getElem?_getD, List.getElem?_eq_none (show ns.length ≤ k.toNat by omega)] at q
      exact q

theorem okU_l_kinds (T : Txt K mg a) : FnU P w K mg base 1 a.f_l_kinds a.d_l_kinds ["_law_e"] (sp_kinds a) := by
  refine T.F_l_kinds.okU sc_l_kinds (fun vs H Q E h => ?_) (fun cdv A0 eh outer s0 H vs Q E hr h => ?_)
  · obtain ⟨ea, n, dx, fs, rfl, _⟩ := h
    rfl
  · obtain ⟨ea, n, dx, fs, rfl, hn, he, hd, q⟩ := h
    refine ⟨_, (pss_cons (ps_set (i := 1) sc_l_kinds.nd rfl (Or.inl rfl) (pe_lst (pa_cons (pe_callB (call_isyK (K := K)) (by rfl) T.n_isinstance boot_isinstance (pa_cons (pv 0) (pa_cons (pe_glob (v := .ref a.C_BadWord) rfl T.mg_BadWord rfl) pa_nil))) (pa_cons (pe_callB (call_isyK (K := K)) (by rfl) T.n_isinstance boot_isinstance (pa_cons (pv 0) (pa_cons (pe_glob (v := .ref a.C_NoSuch) rfl T.mg_NoSuch rfl) pa_nil))) (pa_cons (pe_callB (call_isyK (K := K)) (by rfl) T.n_isinstance boot_isinstance (pa_cons (pv 0) (pa_cons (pe_glob (v := .ref a.C_Doubled) rfl T.mg_Doubled rfl) pa_nil))) (pa_cons (pe_callB (call_isyK (K := K)) (by rfl) T.n_isinstance boot_isinstance (pa_cons (pv 0) (pa_cons (pe_glob (v := .ref a.C_Broken) rfl T.mg_Broken rfl) pa_nil))) pa_nil))))))
      (pss_cons (ps_set (i := 1) sc_l_kinds.nd rfl (Or.inl rfl) (pe_op (op_plusK (K := K)) (pv 1) (pe_lst (pa_cons (pe_callB (call_isyK (K := K)) (by rfl) T.n_isinstance boot_isinstance (pa_cons (pv 0) (pa_cons (pe_glob (v := .ref a.C_Fenced) rfl T.mg_Fenced rfl) pa_nil))) (pa_cons (pe_callB (call_isyK (K := K)) (by rfl) T.n_isinstance boot_isinstance (pa_cons (pv 0) (pa_cons (pe_glob (v := .ref a.C_Gap) rfl T.mg_Gap rfl) pa_nil))) (pa_cons (pe_callB (call_isyK (K := K)) (by rfl) T.n_isinstance boot_isinstance (pa_cons (pv 0) (pa_cons (pe_glob (v := .ref a.C_TooOld) rfl T.mg_TooOld rfl) pa_nil))) pa_nil))))))
      (pss_cons (ps_set (i := 1) sc_l_kinds.nd rfl (Or.inl rfl) (pe_op (op_plusK (K := K)) (pv 1) (pe_lst (pa_cons (pe_callB (call_isyK (K := K)) (by rfl) T.n_isinstance boot_isinstance (pa_cons (pv 0) (pa_cons (pe_glob (v := .ref a.C_Late) rfl T.mg_Late rfl) pa_nil))) (pa_cons (pe_callB (call_isyK (K := K)) (by rfl) T.n_isinstance boot_isinstance (pa_cons (pv 0) (pa_cons (pe_glob (v := .ref a.C_NotYours) rfl T.mg_NotYours rfl) pa_nil))) (pa_cons (pe_callB (call_isyK (K := K)) (by rfl) T.n_isinstance boot_isinstance (pa_cons (pv 0) (pa_cons (pe_glob (v := .ref a.C_Twice) rfl T.mg_Twice rfl) pa_nil))) pa_nil))))))
      (pss_cons (ps_set (i := 1) sc_l_kinds.nd rfl (Or.inl rfl) (pe_op (op_plusK (K := K)) (pv 1) (pe_lst (pa_cons (pe_callB (call_isyK (K := K)) (by rfl) T.n_isinstance boot_isinstance (pa_cons (pv 0) (pa_cons (pe_glob (v := .ref a.C_Busy) rfl T.mg_Busy rfl) pa_nil))) (pa_cons (pe_callB (call_isyK (K := K)) (by rfl) T.n_isinstance boot_isinstance (pa_cons (pv 0) (pa_cons (pe_glob (v := .ref a.C_NoDeed) rfl T.mg_NoDeed rfl) pa_nil))) pa_nil)))))
      (pss_cons (ps_set (i := 1) sc_l_kinds.nd rfl (Or.inl rfl) (pe_op (op_plusK (K := K)) (pv 1) (pe_lst (pa_cons (pe_callB (call_isyK (K := K)) (by rfl) T.n_isinstance boot_isinstance (pa_cons (pv 0) (pa_cons (pe_glob (v := .ref a.C_WrongKind) rfl T.mg_WrongKind rfl) pa_nil))) (pa_cons (pe_callB (call_isyK (K := K)) (by rfl) T.n_isinstance boot_isinstance (pa_cons (pv 0) (pa_cons (pe_glob (v := .ref a.C_Needed) rfl T.mg_Needed rfl) pa_nil))) (pa_cons (pe_callB (call_isyK (K := K)) (by rfl) T.n_isinstance boot_isinstance (pa_cons (pv 0) (pa_cons (pe_glob (v := .ref a.C_Gone) rfl T.mg_Gone rfl) pa_nil))) (pa_cons (pe_callB (call_isyK (K := K)) (by rfl) T.n_isinstance boot_isinstance (pa_cons (pv 0) (pa_cons (pe_glob (v := .ref a.C_Beyond) rfl T.mg_Beyond rfl) pa_nil))) pa_nil)))))))
      (pss_one (ps_ret (pv 1)))))))), ?_⟩
    have is_ : ∀ (H' : Hp) (i : Nat) (Q : VK), i < 16 → Same H H' → Q (.bl (decide (i = n))) H' → rIsy K [.ref ea, .ref (cA a i)] H' Q := fun H' i Q hi s z => rIsy_r (s _ _ he) (hd.same s) (T.xc n) (T.xi n) (T.kt n hn i hi) z
    walk_at "rd"
    refine is_ H 0 _ (by decide) (Same.refl _) ?_
    refine is_ H 1 _ (by decide) (Same.refl _) ?_
    refine is_ H 2 _ (by decide) (Same.refl _) ?_
    refine is_ H 3 _ (by decide) (Same.refl _) ?_
    refine ⟨by decide, fun p0 hp0 => ?_⟩
    have s0' : Same H (upd H p0 (.lst [V.bl (decide (0 = n)), V.bl (decide (1 = n)), V.bl (decide (2 = n)), V.bl (decide (3 = n))])) := Same.upd hp0
    have a0 : upd H p0 (.lst [V.bl (decide (0 = n)), V.bl (decide (1 = n)), V.bl (decide (2 = n)), V.bl (decide (3 = n))]) p0 = some (.lst [V.bl (decide (0 = n)), V.bl (decide (1 = n)), V.bl (decide (2 = n)), V.bl (decide (3 = n))]) := upd_same
    generalize upd H p0 (.lst [V.bl (decide (0 = n)), V.bl (decide (1 = n)), V.bl (decide (2 = n)), V.bl (decide (3 = n))]) = H0 at s0' a0 ⊢
    refine is_ H0 4 _ (by decide) s0' ?_
    refine is_ H0 5 _ (by decide) s0' ?_
    refine is_ H0 6 _ (by decide) s0' ?_
    refine ⟨by decide, fun q0 hq0 => ?_⟩
    have t0 : Same H0 (upd H0 q0 (.lst [V.bl (decide (4 = n)), V.bl (decide (5 = n)), V.bl (decide (6 = n))])) := Same.upd hq0
    have b0 : upd H0 q0 (.lst [V.bl (decide (4 = n)), V.bl (decide (5 = n)), V.bl (decide (6 = n))]) q0 = some (.lst [V.bl (decide (4 = n)), V.bl (decide (5 = n)), V.bl (decide (6 = n))]) := upd_same
    generalize upd H0 q0 (.lst [V.bl (decide (4 = n)), V.bl (decide (5 = n)), V.bl (decide (6 = n))]) = G0 at t0 b0 ⊢
    refine rPlus_l (.inl (.inl (t0 _ _ a0))) (.inl (.inl b0)) (show 7 ≤ sizeLine by decide) fun p1 hp1 => ?_
    have s1 : Same H (upd G0 p1 (.lst [V.bl (decide (0 = n)), V.bl (decide (1 = n)), V.bl (decide (2 = n)), V.bl (decide (3 = n)), V.bl (decide (4 = n)), V.bl (decide (5 = n)), V.bl (decide (6 = n))])) := (s0'.trans t0).trans (Same.upd hp1)
    have a1 : upd G0 p1 (.lst [V.bl (decide (0 = n)), V.bl (decide (1 = n)), V.bl (decide (2 = n)), V.bl (decide (3 = n)), V.bl (decide (4 = n)), V.bl (decide (5 = n)), V.bl (decide (6 = n))]) p1 = some (.lst [V.bl (decide (0 = n)), V.bl (decide (1 = n)), V.bl (decide (2 = n)), V.bl (decide (3 = n)), V.bl (decide (4 = n)), V.bl (decide (5 = n)), V.bl (decide (6 = n))]) := upd_same
    show rIsy K _ (upd G0 p1 (.lst [V.bl (decide (0 = n)), V.bl (decide (1 = n)), V.bl (decide (2 = n)), V.bl (decide (3 = n)), V.bl (decide (4 = n)), V.bl (decide (5 = n)), V.bl (decide (6 = n))])) _
    generalize upd G0 p1 (.lst [V.bl (decide (0 = n)), V.bl (decide (1 = n)), V.bl (decide (2 = n)), V.bl (decide (3 = n)), V.bl (decide (4 = n)), V.bl (decide (5 = n)), V.bl (decide (6 = n))]) = H1 at s1 a1 ⊢
    refine is_ H1 7 _ (by decide) s1 ?_
    refine is_ H1 8 _ (by decide) s1 ?_
    refine is_ H1 9 _ (by decide) s1 ?_
    refine ⟨by decide, fun q1 hq1 => ?_⟩
    have t1 : Same H1 (upd H1 q1 (.lst [V.bl (decide (7 = n)), V.bl (decide (8 = n)), V.bl (decide (9 = n))])) := Same.upd hq1
    have b1 : upd H1 q1 (.lst [V.bl (decide (7 = n)), V.bl (decide (8 = n)), V.bl (decide (9 = n))]) q1 = some (.lst [V.bl (decide (7 = n)), V.bl (decide (8 = n)), V.bl (decide (9 = n))]) := upd_same
    generalize upd H1 q1 (.lst [V.bl (decide (7 = n)), V.bl (decide (8 = n)), V.bl (decide (9 = n))]) = G1 at t1 b1 ⊢
    refine rPlus_l (.inl (.inl (t1 _ _ a1))) (.inl (.inl b1)) (show 10 ≤ sizeLine by decide) fun p2 hp2 => ?_
    have s2 : Same H (upd G1 p2 (.lst [V.bl (decide (0 = n)), V.bl (decide (1 = n)), V.bl (decide (2 = n)), V.bl (decide (3 = n)), V.bl (decide (4 = n)), V.bl (decide (5 = n)), V.bl (decide (6 = n)), V.bl (decide (7 = n)), V.bl (decide (8 = n)), V.bl (decide (9 = n))])) := (s1.trans t1).trans (Same.upd hp2)
    have a2 : upd G1 p2 (.lst [V.bl (decide (0 = n)), V.bl (decide (1 = n)), V.bl (decide (2 = n)), V.bl (decide (3 = n)), V.bl (decide (4 = n)), V.bl (decide (5 = n)), V.bl (decide (6 = n)), V.bl (decide (7 = n)), V.bl (decide (8 = n)), V.bl (decide (9 = n))]) p2 = some (.lst [V.bl (decide (0 = n)), V.bl (decide (1 = n)), V.bl (decide (2 = n)), V.bl (decide (3 = n)), V.bl (decide (4 = n)), V.bl (decide (5 = n)), V.bl (decide (6 = n)), V.bl (decide (7 = n)), V.bl (decide (8 = n)), V.bl (decide (9 = n))]) := upd_same
    show rIsy K _ (upd G1 p2 (.lst [V.bl (decide (0 = n)), V.bl (decide (1 = n)), V.bl (decide (2 = n)), V.bl (decide (3 = n)), V.bl (decide (4 = n)), V.bl (decide (5 = n)), V.bl (decide (6 = n)), V.bl (decide (7 = n)), V.bl (decide (8 = n)), V.bl (decide (9 = n))])) _
    generalize upd G1 p2 (.lst [V.bl (decide (0 = n)), V.bl (decide (1 = n)), V.bl (decide (2 = n)), V.bl (decide (3 = n)), V.bl (decide (4 = n)), V.bl (decide (5 = n)), V.bl (decide (6 = n)), V.bl (decide (7 = n)), V.bl (decide (8 = n)), V.bl (decide (9 = n))]) = H2 at s2 a2 ⊢
    refine is_ H2 10 _ (by decide) s2 ?_
    refine is_ H2 11 _ (by decide) s2 ?_
    refine ⟨by decide, fun q2 hq2 => ?_⟩
    have t2 : Same H2 (upd H2 q2 (.lst [V.bl (decide (10 = n)), V.bl (decide (11 = n))])) := Same.upd hq2
    have b2 : upd H2 q2 (.lst [V.bl (decide (10 = n)), V.bl (decide (11 = n))]) q2 = some (.lst [V.bl (decide (10 = n)), V.bl (decide (11 = n))]) := upd_same
    generalize upd H2 q2 (.lst [V.bl (decide (10 = n)), V.bl (decide (11 = n))]) = G2 at t2 b2 ⊢
    refine rPlus_l (.inl (.inl (t2 _ _ a2))) (.inl (.inl b2)) (show 12 ≤ sizeLine by decide) fun p3 hp3 => ?_
    have s3 : Same H (upd G2 p3 (.lst [V.bl (decide (0 = n)), V.bl (decide (1 = n)), V.bl (decide (2 = n)), V.bl (decide (3 = n)), V.bl (decide (4 = n)), V.bl (decide (5 = n)), V.bl (decide (6 = n)), V.bl (decide (7 = n)), V.bl (decide (8 = n)), V.bl (decide (9 = n)), V.bl (decide (10 = n)), V.bl (decide (11 = n))])) := (s2.trans t2).trans (Same.upd hp3)
    have a3 : upd G2 p3 (.lst [V.bl (decide (0 = n)), V.bl (decide (1 = n)), V.bl (decide (2 = n)), V.bl (decide (3 = n)), V.bl (decide (4 = n)), V.bl (decide (5 = n)), V.bl (decide (6 = n)), V.bl (decide (7 = n)), V.bl (decide (8 = n)), V.bl (decide (9 = n)), V.bl (decide (10 = n)), V.bl (decide (11 = n))]) p3 = some (.lst [V.bl (decide (0 = n)), V.bl (decide (1 = n)), V.bl (decide (2 = n)), V.bl (decide (3 = n)), V.bl (decide (4 = n)), V.bl (decide (5 = n)), V.bl (decide (6 = n)), V.bl (decide (7 = n)), V.bl (decide (8 = n)), V.bl (decide (9 = n)), V.bl (decide (10 = n)), V.bl (decide (11 = n))]) := upd_same
    show rIsy K _ (upd G2 p3 (.lst [V.bl (decide (0 = n)), V.bl (decide (1 = n)), V.bl (decide (2 = n)), V.bl (decide (3 = n)), V.bl (decide (4 = n)), V.bl (decide (5 = n)), V.bl (decide (6 = n)), V.bl (decide (7 = n)), V.bl (decide (8 = n)), V.bl (decide (9 = n)), V.bl (decide (10 = n)), V.bl (decide (11 = n))])) _
    generalize upd G2 p3 (.lst [V.bl (decide (0 = n)), V.bl (decide (1 = n)), V.bl (decide (2 = n)), V.bl (decide (3 = n)), V.bl (decide (4 = n)), V.bl (decide (5 = n)), V.bl (decide (6 = n)), V.bl (decide (7 = n)), V.bl (decide (8 = n)), V.bl (decide (9 = n)), V.bl (decide (10 = n)), V.bl (decide (11 = n))]) = H3 at s3 a3 ⊢
    refine is_ H3 12 _ (by decide) s3 ?_
    refine is_ H3 13 _ (by decide) s3 ?_
    refine is_ H3 14 _ (by decide) s3 ?_
    refine is_ H3 15 _ (by decide) s3 ?_
    refine ⟨by decide, fun q3 hq3 => ?_⟩
    have t3 : Same H3 (upd H3 q3 (.lst [V.bl (decide (12 = n)), V.bl (decide (13 = n)), V.bl (decide (14 = n)), V.bl (decide (15 = n))])) := Same.upd hq3
    have b3 : upd H3 q3 (.lst [V.bl (decide (12 = n)), V.bl (decide (13 = n)), V.bl (decide (14 = n)), V.bl (decide (15 = n))]) q3 = some (.lst [V.bl (decide (12 = n)), V.bl (decide (13 = n)), V.bl (decide (14 = n)), V.bl (decide (15 = n))]) := upd_same
    generalize upd H3 q3 (.lst [V.bl (decide (12 = n)), V.bl (decide (13 = n)), V.bl (decide (14 = n)), V.bl (decide (15 = n))]) = G3 at t3 b3 ⊢
    refine rPlus_l (.inl (.inl (t3 _ _ a3))) (.inl (.inl b3)) (show 16 ≤ sizeLine by decide) fun p4 hp4 => ?_
    exact q p4 _ (same_back (s3.trans t3) hp4) ((s3.trans t3).trans (Same.upd hp4)) upd_same
theorem okU_l_gathered (T : Txt K mg a) : FnU P w K mg base 1 a.f_l_gathered a.d_l_gathered ["_law_e"] (sp_gath a) := by
  refine T.F_l_gathered.okU sc_l_gathered (fun vs H Q E h => ?_) (fun cdv A0 eh outer s0 H vs Q E hr h => ?_)
  · obtain ⟨ea, n, dx, fs, rfl, _⟩ := h
    rfl
  · obtain ⟨ea, n, dx, fs, rfl, hn, he, hd, q⟩ := h
    refine ⟨_, (pss_cons (ps_set (i := 1) sc_l_gathered.nd rfl (Or.inl rfl) (pe_lst (pa_cons (pe_callB (call_isyK (K := K)) (by rfl) T.n_isinstance boot_isinstance (pa_cons (pv 0) (pa_cons (pe_glob (v := .ref a.C_SenderError) rfl T.mg_SenderError rfl) pa_nil))) (pa_cons (pe_callB (call_isyK (K := K)) (by rfl) T.n_isinstance boot_isinstance (pa_cons (pv 0) (pa_cons (pe_glob (v := .ref a.C_LoanError) rfl T.mg_LoanError rfl) pa_nil))) (pa_cons (pe_callB (call_isyK (K := K)) (by rfl) T.n_isinstance boot_isinstance (pa_cons (pv 0) (pa_cons (pe_glob (v := .ref a.C_DeedError) rfl T.mg_DeedError rfl) pa_nil))) (pa_cons (pe_callB (call_isyK (K := K)) (by rfl) T.n_isinstance boot_isinstance (pa_cons (pv 0) (pa_cons (pe_glob (v := .ref a.C_RowError) rfl T.mg_RowError rfl) pa_nil))) pa_nil))))))
      (pss_one (ps_ret (pv 1)))), ?_⟩
    have is_ : ∀ (H' : Hp) (i : Nat) (Q : VK), i < 4 → Same H H' → Q (.bl (decide (gO n = i))) H' → rIsy K [.ref ea, .ref (gA a i)] H' Q := fun H' i Q hi s z => rIsy_r (s _ _ he) (hd.same s) (T.xc n) (T.xi n) (T.kg n hn i hi) z
    walk_at "rd"
    refine is_ H 0 _ (by decide) (Same.refl _) ?_
    refine is_ H 1 _ (by decide) (Same.refl _) ?_
    refine is_ H 2 _ (by decide) (Same.refl _) ?_
    refine is_ H 3 _ (by decide) (Same.refl _) ?_
    exact ⟨by decide, fun p0 hp0 => q p0 _ hp0 (Same.upd hp0) upd_same⟩
theorem okU_l_fields_first (T : Txt K mg a) : FnU P w K mg base 1 a.f_l_fields_first a.d_l_fields_first ["_law_e"] (sp_ff a) := by
  refine T.F_l_fields_first.okU sc_l_fields_first (fun vs H Q E h => ?_) (fun cdv A0 eh outer s0 H vs Q E hr h => ?_)
  · obtain ⟨ea, n, dx, v, u, rfl, _⟩ := h
    rfl
  · obtain ⟨ea, n, dx, v, u, rfl, hn, he, hd, q⟩ := h
    refine ⟨_, (pss_cons (ps_if (pt_truthK (K := K) (pe_callB (call_isyK (K := K)) (by rfl) T.n_isinstance boot_isinstance (pa_cons (pv 0) (pa_cons (pe_glob (v := .ref a.C_NoSuch) rfl T.mg_NoSuch rfl) pa_nil))) (by intro _; rfl)) (pss_one (ps_ret (pe_lst (pa_cons (pe_xfldK (K := K) (pv 0) rfl) pa_nil)))) pss_nil)
      (pss_cons (ps_if (pt_truthK (K := K) (pe_callB (call_isyK (K := K)) (by rfl) T.n_isinstance boot_isinstance (pa_cons (pv 0) (pa_cons (pe_glob (v := .ref a.C_Doubled) rfl T.mg_Doubled rfl) pa_nil))) (by intro _; rfl)) (pss_one (ps_ret (pe_lst (pa_cons (pe_xfldK (K := K) (pv 0) rfl) pa_nil)))) pss_nil)
      (pss_cons (ps_if (pt_truthK (K := K) (pe_callB (call_isyK (K := K)) (by rfl) T.n_isinstance boot_isinstance (pa_cons (pv 0) (pa_cons (pe_glob (v := .ref a.C_Broken) rfl T.mg_Broken rfl) pa_nil))) (by intro _; rfl)) (pss_one (ps_ret (pe_lst (pa_cons (pe_xfldK (K := K) (pv 0) rfl) pa_nil)))) pss_nil)
      (pss_cons (ps_if (pt_truthK (K := K) (pe_callB (call_isyK (K := K)) (by rfl) T.n_isinstance boot_isinstance (pa_cons (pv 0) (pa_cons (pe_glob (v := .ref a.C_Fenced) rfl T.mg_Fenced rfl) pa_nil))) (by intro _; rfl)) (pss_one (ps_ret (pe_lst (pa_cons (pe_xfldK (K := K) (pv 0) rfl) pa_nil)))) pss_nil)
      (pss_cons (ps_if (pt_truthK (K := K) (pe_callB (call_isyK (K := K)) (by rfl) T.n_isinstance boot_isinstance (pa_cons (pv 0) (pa_cons (pe_glob (v := .ref a.C_Gap) rfl T.mg_Gap rfl) pa_nil))) (by intro _; rfl)) (pss_one (ps_ret (pe_lst (pa_cons (pe_xfldK (K := K) (pv 0) rfl) pa_nil)))) pss_nil)
      (pss_cons (ps_if (pt_truthK (K := K) (pe_callB (call_isyK (K := K)) (by rfl) T.n_isinstance boot_isinstance (pa_cons (pv 0) (pa_cons (pe_glob (v := .ref a.C_TooOld) rfl T.mg_TooOld rfl) pa_nil))) (by intro _; rfl)) (pss_one (ps_ret (pe_lst (pa_cons (pe_xfldK (K := K) (pv 0) rfl) pa_nil)))) pss_nil)
      (pss_one (ps_ret (pe_lst pa_nil))))))))), ?_⟩
    have is_ : ∀ (H' : Hp) (i : Nat) (Q : VK), i < 16 → Same H H' → Q (.bl (decide (i = n))) H' → rIsy K [.ref ea, .ref (cA a i)] H' Q := fun H' i Q hi s z => rIsy_r (s _ _ he) (hd.same s) (T.xc n) (T.xi n) (T.kt n hn i hi) z
    walk_at "rd"
    refine is_ H 1 _ (by decide) (Same.refl _) ⟨_, rfl, ite2 (fun z => ?_) (fun z1 => ?_)⟩
    · have z := of_decide_eq_true z
      subst z
      rcases hd with ⟨_, z⟩ | ⟨d, rfl, hd⟩
      · cases z
      · exact ⟨cA a 1, d, he, _, hd, T.xc 1, T.no_NoSuch_name, v, rfl, by decide, fun p hp => q p _ hp (Same.upd hp) upd_same⟩
    refine is_ H 2 _ (by decide) (Same.refl _) ⟨_, rfl, ite2 (fun z => ?_) (fun z2 => ?_)⟩
    · have z := of_decide_eq_true z
      subst z
      rcases hd with ⟨_, z⟩ | ⟨d, rfl, hd⟩
      · cases z
      · exact ⟨cA a 2, d, he, _, hd, T.xc 2, T.no_Doubled_name, v, rfl, by decide, fun p hp => q p _ hp (Same.upd hp) upd_same⟩
    refine is_ H 3 _ (by decide) (Same.refl _) ⟨_, rfl, ite2 (fun z => ?_) (fun z3 => ?_)⟩
    · have z := of_decide_eq_true z
      subst z
      rcases hd with ⟨_, z⟩ | ⟨d, rfl, hd⟩
      · cases z
      · exact ⟨cA a 3, d, he, _, hd, T.xc 3, T.no_Broken_line, v, rfl, by decide, fun p hp => q p _ hp (Same.upd hp) upd_same⟩
    refine is_ H 4 _ (by decide) (Same.refl _) ⟨_, rfl, ite2 (fun z => ?_) (fun z4 => ?_)⟩
    · have z := of_decide_eq_true z
      subst z
      rcases hd with ⟨_, z⟩ | ⟨d, rfl, hd⟩
      · cases z
      · exact ⟨cA a 4, d, he, _, hd, T.xc 4, T.no_Fenced_life, v, rfl, by decide, fun p hp => q p _ hp (Same.upd hp) upd_same⟩
    refine is_ H 5 _ (by decide) (Same.refl _) ⟨_, rfl, ite2 (fun z => ?_) (fun z5 => ?_)⟩
    · have z := of_decide_eq_true z
      subst z
      rcases hd with ⟨_, z⟩ | ⟨d, rfl, hd⟩
      · cases z
      · exact ⟨cA a 5, d, he, _, hd, T.xc 5, T.no_Gap_due, v, rfl, by decide, fun p hp => q p _ hp (Same.upd hp) upd_same⟩
    refine is_ H 6 _ (by decide) (Same.refl _) ⟨_, rfl, ite2 (fun z => ?_) (fun z6 => ?_)⟩
    · have z := of_decide_eq_true z
      subst z
      rcases hd with ⟨_, z⟩ | ⟨d, rfl, hd⟩
      · cases z
      · exact ⟨cA a 6, d, he, _, hd, T.xc 6, T.no_TooOld_number, v, rfl, by decide, fun p hp => q p _ hp (Same.upd hp) upd_same⟩
    have y1 : ¬ 1 = n := fun y => z1 (decide_eq_true y); have y2 : ¬ 2 = n := fun y => z2 (decide_eq_true y); have y3 : ¬ 3 = n := fun y => z3 (decide_eq_true y); have y4 : ¬ 4 = n := fun y => z4 (decide_eq_true y); have y5 : ¬ 5 = n := fun y => z5 (decide_eq_true y); have y6 : ¬ 6 = n := fun y => z6 (decide_eq_true y)
    refine ⟨by decide, fun p hp => q p _ hp (Same.upd hp) ?_⟩
    by_cases h7 : n < 7
    · have : n = 0 := by omega
      subst this
      exact upd_same
    · rw [if_neg h7]; exact upd_same
theorem okU_l_fields_more (T : Txt K mg a) : FnU P w K mg base 1 a.f_l_fields_more a.d_l_fields_more ["_law_e"] (sp_fm a) := by
  refine T.F_l_fields_more.okU sc_l_fields_more (fun vs H Q E h => ?_) (fun cdv A0 eh outer s0 H vs Q E hr h => ?_)
  · obtain ⟨ea, n, dx, v, u, rfl, _⟩ := h
    rfl
  · obtain ⟨ea, n, dx, v, u, rfl, hn, he, hd, q⟩ := h
    refine ⟨_, (pss_cons (ps_if (pt_truthK (K := K) (pe_callB (call_isyK (K := K)) (by rfl) T.n_isinstance boot_isinstance (pa_cons (pv 0) (pa_cons (pe_glob (v := .ref a.C_Late) rfl T.mg_Late rfl) pa_nil))) (by intro _; rfl)) (pss_one (ps_ret (pe_lst (pa_cons (pe_xfldK (K := K) (pv 0) rfl) (pa_cons (pe_xfldK (K := K) (pv 0) rfl) pa_nil))))) pss_nil)
      (pss_cons (ps_if (pt_truthK (K := K) (pe_callB (call_isyK (K := K)) (by rfl) T.n_isinstance boot_isinstance (pa_cons (pv 0) (pa_cons (pe_glob (v := .ref a.C_NotYours) rfl T.mg_NotYours rfl) pa_nil))) (by intro _; rfl)) (pss_one (ps_ret (pe_lst (pa_cons (pe_xfldK (K := K) (pv 0) rfl) (pa_cons (pe_xfldK (K := K) (pv 0) rfl) pa_nil))))) pss_nil)
      (pss_cons (ps_if (pt_truthK (K := K) (pe_callB (call_isyK (K := K)) (by rfl) T.n_isinstance boot_isinstance (pa_cons (pv 0) (pa_cons (pe_glob (v := .ref a.C_Twice) rfl T.mg_Twice rfl) pa_nil))) (by intro _; rfl)) (pss_one (ps_ret (pe_lst (pa_cons (pe_xfldK (K := K) (pv 0) rfl) (pa_cons (pe_xfldK (K := K) (pv 0) rfl) pa_nil))))) pss_nil)
      (pss_cons (ps_if (pt_truthK (K := K) (pe_callB (call_isyK (K := K)) (by rfl) T.n_isinstance boot_isinstance (pa_cons (pv 0) (pa_cons (pe_glob (v := .ref a.C_Busy) rfl T.mg_Busy rfl) pa_nil))) (by intro _; rfl)) (pss_one (ps_ret (pe_lst (pa_cons (pe_xfldK (K := K) (pv 0) rfl) pa_nil)))) pss_nil)
      (pss_cons (ps_if (pt_truthK (K := K) (pe_callB (call_isyK (K := K)) (by rfl) T.n_isinstance boot_isinstance (pa_cons (pv 0) (pa_cons (pe_glob (v := .ref a.C_NoDeed) rfl T.mg_NoDeed rfl) pa_nil))) (by intro _; rfl)) (pss_one (ps_ret (pe_lst (pa_cons (pe_xfldK (K := K) (pv 0) rfl) pa_nil)))) pss_nil)
      (pss_cons (ps_if (pt_truthK (K := K) (pe_callB (call_isyK (K := K)) (by rfl) T.n_isinstance boot_isinstance (pa_cons (pv 0) (pa_cons (pe_glob (v := .ref a.C_WrongKind) rfl T.mg_WrongKind rfl) pa_nil))) (by intro _; rfl)) (pss_one (ps_ret (pe_lst (pa_cons (pe_xfldK (K := K) (pv 0) rfl) pa_nil)))) pss_nil)
      (pss_cons (ps_if (pt_truthK (K := K) (pe_callB (call_isyK (K := K)) (by rfl) T.n_isinstance boot_isinstance (pa_cons (pv 0) (pa_cons (pe_glob (v := .ref a.C_Needed) rfl T.mg_Needed rfl) pa_nil))) (by intro _; rfl)) (pss_one (ps_ret (pe_lst (pa_cons (pe_xfldK (K := K) (pv 0) rfl) (pa_cons (pe_xfldK (K := K) (pv 0) rfl) pa_nil))))) pss_nil)
      (pss_cons (ps_if (pt_truthK (K := K) (pe_callB (call_isyK (K := K)) (by rfl) T.n_isinstance boot_isinstance (pa_cons (pv 0) (pa_cons (pe_glob (v := .ref a.C_Gone) rfl T.mg_Gone rfl) pa_nil))) (by intro _; rfl)) (pss_one (ps_ret (pe_lst (pa_cons (pe_xfldK (K := K) (pv 0) rfl) (pa_cons (pe_xfldK (K := K) (pv 0) rfl) pa_nil))))) pss_nil)
      (pss_cons (ps_if (pt_truthK (K := K) (pe_callB (call_isyK (K := K)) (by rfl) T.n_isinstance boot_isinstance (pa_cons (pv 0) (pa_cons (pe_glob (v := .ref a.C_Beyond) rfl T.mg_Beyond rfl) pa_nil))) (by intro _; rfl)) (pss_one (ps_ret (pe_lst (pa_cons (pe_xfldK (K := K) (pv 0) rfl) (pa_cons (pe_xfldK (K := K) (pv 0) rfl) pa_nil))))) pss_nil)
      (pss_one (ps_ret (pe_lst pa_nil)))))))))))), ?_⟩
    have is_ : ∀ (H' : Hp) (i : Nat) (Q : VK), i < 16 → Same H H' → Q (.bl (decide (i = n))) H' → rIsy K [.ref ea, .ref (cA a i)] H' Q := fun H' i Q hi s z => rIsy_r (s _ _ he) (hd.same s) (T.xc n) (T.xi n) (T.kt n hn i hi) z
    walk_at "rd"
    refine is_ H 7 _ (by decide) (Same.refl _) ⟨_, rfl, ite2 (fun z => ?_) (fun z7 => ?_)⟩
    · have z := of_decide_eq_true z
      subst z
      rcases hd with ⟨_, z⟩ | ⟨d, rfl, hd⟩
      · cases z
      · exact ⟨cA a 7, d, he, _, hd, T.xc 7, T.no_Late_row, v, rfl, cA a 7, d, he, _, hd, T.xc 7, T.no_Late_loan, u, rfl, by decide, fun p hp => q p _ hp (Same.upd hp) upd_same⟩
    refine is_ H 8 _ (by decide) (Same.refl _) ⟨_, rfl, ite2 (fun z => ?_) (fun z8 => ?_)⟩
    · have z := of_decide_eq_true z
      subst z
      rcases hd with ⟨_, z⟩ | ⟨d, rfl, hd⟩
      · cases z
      · exact ⟨cA a 8, d, he, _, hd, T.xc 8, T.no_NotYours_row, v, rfl, cA a 8, d, he, _, hd, T.xc 8, T.no_NotYours_owner, u, rfl, by decide, fun p hp => q p _ hp (Same.upd hp) upd_same⟩
    refine is_ H 9 _ (by decide) (Same.refl _) ⟨_, rfl, ite2 (fun z => ?_) (fun z9 => ?_)⟩
    · have z := of_decide_eq_true z
      subst z
      rcases hd with ⟨_, z⟩ | ⟨d, rfl, hd⟩
      · cases z
      · exact ⟨cA a 9, d, he, _, hd, T.xc 9, T.no_Twice_row, v, rfl, cA a 9, d, he, _, hd, T.xc 9, T.no_Twice_loan, u, rfl, by decide, fun p hp => q p _ hp (Same.upd hp) upd_same⟩
    refine is_ H 10 _ (by decide) (Same.refl _) ⟨_, rfl, ite2 (fun z => ?_) (fun z10 => ?_)⟩
    · have z := of_decide_eq_true z
      subst z
      rcases hd with ⟨_, z⟩ | ⟨d, rfl, hd⟩
      · cases z
      · exact ⟨cA a 10, d, he, _, hd, T.xc 10, T.no_Busy_deed, v, rfl, by decide, fun p hp => q p _ hp (Same.upd hp) upd_same⟩
    refine is_ H 11 _ (by decide) (Same.refl _) ⟨_, rfl, ite2 (fun z => ?_) (fun z11 => ?_)⟩
    · have z := of_decide_eq_true z
      subst z
      rcases hd with ⟨_, z⟩ | ⟨d, rfl, hd⟩
      · cases z
      · exact ⟨cA a 11, d, he, _, hd, T.xc 11, T.no_NoDeed_name, v, rfl, by decide, fun p hp => q p _ hp (Same.upd hp) upd_same⟩
    refine is_ H 12 _ (by decide) (Same.refl _) ⟨_, rfl, ite2 (fun z => ?_) (fun z12 => ?_)⟩
    · have z := of_decide_eq_true z
      subst z
      rcases hd with ⟨_, z⟩ | ⟨d, rfl, hd⟩
      · cases z
      · exact ⟨cA a 12, d, he, _, hd, T.xc 12, T.no_WrongKind_row, v, rfl, by decide, fun p hp => q p _ hp (Same.upd hp) upd_same⟩
    refine is_ H 13 _ (by decide) (Same.refl _) ⟨_, rfl, ite2 (fun z => ?_) (fun z13 => ?_)⟩
    · have z := of_decide_eq_true z
      subst z
      rcases hd with ⟨_, z⟩ | ⟨d, rfl, hd⟩
      · cases z
      · exact ⟨cA a 13, d, he, _, hd, T.xc 13, T.no_Needed_row, v, rfl, cA a 13, d, he, _, hd, T.xc 13, T.no_Needed_place, u, rfl, by decide, fun p hp => q p _ hp (Same.upd hp) upd_same⟩
    refine is_ H 14 _ (by decide) (Same.refl _) ⟨_, rfl, ite2 (fun z => ?_) (fun z14 => ?_)⟩
    · have z := of_decide_eq_true z
      subst z
      rcases hd with ⟨_, z⟩ | ⟨d, rfl, hd⟩
      · cases z
      · exact ⟨cA a 14, d, he, _, hd, T.xc 14, T.no_Gone_row, v, rfl, cA a 14, d, he, _, hd, T.xc 14, T.no_Gone_place, u, rfl, by decide, fun p hp => q p _ hp (Same.upd hp) upd_same⟩
    refine is_ H 15 _ (by decide) (Same.refl _) ⟨_, rfl, ite2 (fun z => ?_) (fun z15 => ?_)⟩
    · have z := of_decide_eq_true z
      subst z
      rcases hd with ⟨_, z⟩ | ⟨d, rfl, hd⟩
      · cases z
      · exact ⟨cA a 15, d, he, _, hd, T.xc 15, T.no_Beyond_row, v, rfl, cA a 15, d, he, _, hd, T.xc 15, T.no_Beyond_place, u, rfl, by decide, fun p hp => q p _ hp (Same.upd hp) upd_same⟩
    have y7 : ¬ 7 = n := fun y => z7 (decide_eq_true y); have y8 : ¬ 8 = n := fun y => z8 (decide_eq_true y); have y9 : ¬ 9 = n := fun y => z9 (decide_eq_true y); have y10 : ¬ 10 = n := fun y => z10 (decide_eq_true y); have y11 : ¬ 11 = n := fun y => z11 (decide_eq_true y); have y12 : ¬ 12 = n := fun y => z12 (decide_eq_true y); have y13 : ¬ 13 = n := fun y => z13 (decide_eq_true y); have y14 : ¬ 14 = n := fun y => z14 (decide_eq_true y); have y15 : ¬ 15 = n := fun y => z15 (decide_eq_true y)
    refine ⟨by decide, fun p hp => q p _ hp (Same.upd hp) ?_⟩
    rw [if_pos (by omega)]; exact upd_same
theorem ok_l_raise_first (T : Txt K mg a) : FnOk P w K mg base (CXv P w) 3 a.f_l_raise_first a.d_l_raise_first ["_law_which", "_law_one"] (sp_rf a) := by
  refine T.F_l_raise_first.okX sc_l_raise_first (fun vs H Q E h => ?_) (fun cdv A0 outer s0 H vs Q E hr h => ?_)
  · obtain ⟨n, v, rfl, _⟩ := h
    rfl
  · obtain ⟨n, v, rfl, hn, q⟩ := h
    refine ⟨_, (pss_cons (ps_if (PT.nox (pt_cmpR (op_eqK (K := K) (hU hr)) (pv 0) pe_int (nomark _))) (pss_one (ps_raise0 T.x_BadWord T.xi0_BadWord hr rfl T.mg_BadWord raiseX)) pss_nil)
      (pss_cons (ps_if (PT.nox (pt_cmpR (op_eqK (K := K) (hU hr)) (pv 0) pe_int (nomark _))) (pss_one (ps_raise T.x_NoSuch T.xi_NoSuch T.xf_NoSuch (ok_NoSuch___init__ T) (hr.mono (by decide)) rfl T.mg_NoSuch T.b_NoSuch___init__ (by decide) raiseX (pa_cons (pv 1) pa_nil))) pss_nil)
      (pss_cons (ps_if (PT.nox (pt_cmpR (op_eqK (K := K) (hU hr)) (pv 0) pe_int (nomark _))) (pss_one (ps_raise T.x_Doubled T.xi_Doubled T.xf_Doubled (ok_Doubled___init__ T) (hr.mono (by decide)) rfl T.mg_Doubled T.b_Doubled___init__ (by decide) raiseX (pa_cons (pv 1) pa_nil))) pss_nil)
      (pss_cons (ps_if (PT.nox (pt_cmpR (op_eqK (K := K) (hU hr)) (pv 0) pe_int (nomark _))) (pss_one (ps_raise T.x_Broken T.xi_Broken T.xf_Broken (ok_Broken___init__ T) (hr.mono (by decide)) rfl T.mg_Broken T.b_Broken___init__ (by decide) raiseX (pa_cons (pv 1) pa_nil))) pss_nil)
      (pss_cons (ps_if (PT.nox (pt_cmpR (op_eqK (K := K) (hU hr)) (pv 0) pe_int (nomark _))) (pss_one (ps_raise T.x_Fenced T.xi_Fenced T.xf_Fenced (ok_Fenced___init__ T) (hr.mono (by decide)) rfl T.mg_Fenced T.b_Fenced___init__ (by decide) raiseX (pa_cons (pv 1) pa_nil))) pss_nil)
      (pss_cons (ps_if (PT.nox (pt_cmpR (op_eqK (K := K) (hU hr)) (pv 0) pe_int (nomark _))) (pss_one (ps_raise T.x_Gap T.xi_Gap T.xf_Gap (ok_Gap___init__ T) (hr.mono (by decide)) rfl T.mg_Gap T.b_Gap___init__ (by decide) raiseX (pa_cons (pv 1) pa_nil))) pss_nil)
      (pss_one (ps_if (PT.nox (pt_cmpR (op_eqK (K := K) (hU hr)) (pv 0) pe_int (nomark _))) (pss_one (ps_raise T.x_TooOld T.xi_TooOld T.xf_TooOld (ok_TooOld___init__ T) (hr.mono (by decide)) rfl T.mg_TooOld T.b_TooOld___init__ (by decide) raiseX (pa_cons (pv 1) pa_nil))) pss_nil)))))))), ?_⟩
    walk_at "rd"
    refine ite2 (fun z => ?_) (fun z0 => ?_)
    · have z : n = 0 := by omega
      subst z
      rcases q with ⟨_, q⟩ | ⟨z, _⟩
      · exact q.zero
      · omega
    refine ite2 (fun z => ?_) (fun z1 => ?_)
    · have z : n = 1 := by omega
      subst z
      rcases q with ⟨_, q⟩ | ⟨z, _⟩
      · exact q.bears
      · omega
    refine ite2 (fun z => ?_) (fun z2 => ?_)
    · have z : n = 2 := by omega
      subst z
      rcases q with ⟨_, q⟩ | ⟨z, _⟩
      · exact q.bears
      · omega
    refine ite2 (fun z => ?_) (fun z3 => ?_)
    · have z : n = 3 := by omega
      subst z
      rcases q with ⟨_, q⟩ | ⟨z, _⟩
      · exact q.bears
      · omega
    refine ite2 (fun z => ?_) (fun z4 => ?_)
    · have z : n = 4 := by omega
      subst z
      rcases q with ⟨_, q⟩ | ⟨z, _⟩
      · exact q.bears
      · omega
    refine ite2 (fun z => ?_) (fun z5 => ?_)
    · have z : n = 5 := by omega
      subst z
      rcases q with ⟨_, q⟩ | ⟨z, _⟩
      · exact q.bears
      · omega
    refine ite2 (fun z => ?_) (fun z6 => ?_)
    · have z : n = 6 := by omega
      subst z
      rcases q with ⟨_, q⟩ | ⟨z, _⟩
      · exact q.bears
      · omega
    rcases q with ⟨z, _⟩ | ⟨_, q⟩
    · omega
    · exact q
theorem ok_l_raise_more (T : Txt K mg a) : FnOk P w K mg base (CXv P w) 3 a.f_l_raise_more a.d_l_raise_more ["_law_which", "_law_one", "_law_other"] (sp_rm a) := by
  refine T.F_l_raise_more.okX sc_l_raise_more (fun vs H Q E h => ?_) (fun cdv A0 outer s0 H vs Q E hr h => ?_)
  · obtain ⟨n, v, u, rfl, _⟩ := h
    rfl
  · obtain ⟨n, v, u, rfl, hn, q⟩ := h
    refine ⟨_, (pss_cons (ps_if (PT.nox (pt_cmpR (op_eqK (K := K) (hU hr)) (pv 0) pe_int (nomark _))) (pss_one (ps_raise T.x_Late T.xi_Late T.xf_Late (ok_Late___init__ T) (hr.mono (by decide)) rfl T.mg_Late T.b_Late___init__ (by decide) raiseX (pa_cons (pv 1) (pa_cons (pv 2) pa_nil)))) pss_nil)
      (pss_cons (ps_if (PT.nox (pt_cmpR (op_eqK (K := K) (hU hr)) (pv 0) pe_int (nomark _))) (pss_one (ps_raise T.x_NotYours T.xi_NotYours T.xf_NotYours (ok_NotYours___init__ T) (hr.mono (by decide)) rfl T.mg_NotYours T.b_NotYours___init__ (by decide) raiseX (pa_cons (pv 1) (pa_cons (pv 2) pa_nil)))) pss_nil)
      (pss_cons (ps_if (PT.nox (pt_cmpR (op_eqK (K := K) (hU hr)) (pv 0) pe_int (nomark _))) (pss_one (ps_raise T.x_Twice T.xi_Twice T.xf_Twice (ok_Twice___init__ T) (hr.mono (by decide)) rfl T.mg_Twice T.b_Twice___init__ (by decide) raiseX (pa_cons (pv 1) (pa_cons (pv 2) pa_nil)))) pss_nil)
      (pss_cons (ps_if (PT.nox (pt_cmpR (op_eqK (K := K) (hU hr)) (pv 0) pe_int (nomark _))) (pss_one (ps_raise T.x_Busy T.xi_Busy T.xf_Busy (ok_Busy___init__ T) (hr.mono (by decide)) rfl T.mg_Busy T.b_Busy___init__ (by decide) raiseX (pa_cons (pv 1) pa_nil))) pss_nil)
      (pss_cons (ps_if (PT.nox (pt_cmpR (op_eqK (K := K) (hU hr)) (pv 0) pe_int (nomark _))) (pss_one (ps_raise T.x_NoDeed T.xi_NoDeed T.xf_NoDeed (ok_NoDeed___init__ T) (hr.mono (by decide)) rfl T.mg_NoDeed T.b_NoDeed___init__ (by decide) raiseX (pa_cons (pv 1) pa_nil))) pss_nil)
      (pss_cons (ps_if (PT.nox (pt_cmpR (op_eqK (K := K) (hU hr)) (pv 0) pe_int (nomark _))) (pss_one (ps_raise T.x_WrongKind T.xi_WrongKind T.xf_WrongKind (ok_WrongKind___init__ T) (hr.mono (by decide)) rfl T.mg_WrongKind T.b_WrongKind___init__ (by decide) raiseX (pa_cons (pv 1) pa_nil))) pss_nil)
      (pss_cons (ps_if (PT.nox (pt_cmpR (op_eqK (K := K) (hU hr)) (pv 0) pe_int (nomark _))) (pss_one (ps_raise T.x_Needed T.xi_Needed T.xf_Needed (ok_Needed___init__ T) (hr.mono (by decide)) rfl T.mg_Needed T.b_Needed___init__ (by decide) raiseX (pa_cons (pv 1) (pa_cons (pv 2) pa_nil)))) pss_nil)
      (pss_cons (ps_if (PT.nox (pt_cmpR (op_eqK (K := K) (hU hr)) (pv 0) pe_int (nomark _))) (pss_one (ps_raise T.x_Gone T.xi_Gone T.xf_Gone (ok_Gone___init__ T) (hr.mono (by decide)) rfl T.mg_Gone T.b_Gone___init__ (by decide) raiseX (pa_cons (pv 1) (pa_cons (pv 2) pa_nil)))) pss_nil)
      (pss_one (ps_if (PT.nox (pt_cmpR (op_eqK (K := K) (hU hr)) (pv 0) pe_int (nomark _))) (pss_one (ps_raise T.x_Beyond T.xi_Beyond T.xf_Beyond (ok_Beyond___init__ T) (hr.mono (by decide)) rfl T.mg_Beyond T.b_Beyond___init__ (by decide) raiseX (pa_cons (pv 1) (pa_cons (pv 2) pa_nil)))) pss_nil)))))))))), ?_⟩
    walk_at "rd"
    refine ite2 (fun z => ?_) (fun z7 => ?_)
    · have z : n = 7 := by omega
      subst z
      rcases q with ⟨_, q⟩ | ⟨z, _⟩
      · exact q.bears
      · omega
    refine ite2 (fun z => ?_) (fun z8 => ?_)
    · have z : n = 8 := by omega
      subst z
      rcases q with ⟨_, q⟩ | ⟨z, _⟩
      · exact q.bears
      · omega
    refine ite2 (fun z => ?_) (fun z9 => ?_)
    · have z : n = 9 := by omega
      subst z
      rcases q with ⟨_, q⟩ | ⟨z, _⟩
      · exact q.bears
      · omega
    refine ite2 (fun z => ?_) (fun z10 => ?_)
    · have z : n = 10 := by omega
      subst z
      rcases q with ⟨_, q⟩ | ⟨z, _⟩
      · exact q.bears
      · omega
    refine ite2 (fun z => ?_) (fun z11 => ?_)
    · have z : n = 11 := by omega
      subst z
      rcases q with ⟨_, q⟩ | ⟨z, _⟩
      · exact q.bears
      · omega
    refine ite2 (fun z => ?_) (fun z12 => ?_)
    · have z : n = 12 := by omega
      subst z
      rcases q with ⟨_, q⟩ | ⟨z, _⟩
      · exact q.bears
      · omega
    refine ite2 (fun z => ?_) (fun z13 => ?_)
    · have z : n = 13 := by omega
      subst z
      rcases q with ⟨_, q⟩ | ⟨z, _⟩
      · exact q.bears
      · omega
    refine ite2 (fun z => ?_) (fun z14 => ?_)
    · have z : n = 14 := by omega
      subst z
      rcases q with ⟨_, q⟩ | ⟨z, _⟩
      · exact q.bears
      · omega
    refine ite2 (fun z => ?_) (fun z15 => ?_)
    · have z : n = 15 := by omega
      subst z
      rcases q with ⟨_, q⟩ | ⟨z, _⟩
      · exact q.bears
      · omega
    rcases q with ⟨z, _⟩ | ⟨_, q⟩
    · omega
    · exact q
theorem ok_l_field (T : Txt K mg a) : FnOk P w K mg base CX0 2 a.f_l_field a.d_l_field ["_law_cell", "_law_k"] sp_field := by
  refine T.F_l_field.ok sc_l_field (fun vs H Q E h => ?_) (fun cdv A0 outer s0 H vs Q E hr h => ?_)
  · obtain ⟨c, k, rfl, _⟩ := h
    rfl
  · obtain ⟨c, k, rfl, q⟩ := h
    refine ⟨_, (pss_cons (ps_set (i := 2) sc_l_field.nd rfl (Or.inl rfl) (pe_op op_mod (pe_call (ok_l_mixed T) (hr.mono (by decide)) rfl T.m_l_mixed T.F_l_mixed.kp T.b_l_mixed .nil pass0 (pa_cons (pv 0) (pa_cons (pv 1) pa_nil))) pe_int))
      (pss_cons (ps_set (i := 3) sc_l_field.nd rfl (Or.inl rfl) (pe_op op_mod (pe_call (ok_l_mixed T) (hr.mono (by decide)) rfl T.m_l_mixed T.F_l_mixed.kp T.b_l_mixed .nil pass0 (pa_cons (pv 0) (pa_cons (pe_op (op_plusK (K := K)) (pv 1) pe_int) pa_nil))) (pe_op op_pow pe_int pe_int)))
      (pss_cons (ps_if (pt_cmpR (op_eqK (K := K) (hU hr)) (pv 2) pe_int (nomark _)) (pss_one (ps_ret (pe_op (op_plusK (K := K)) pe_str (pe_callTy (call_strK (K := K)) rfl T.n_str boot_str (pa_cons (pv 3) pa_nil))))) pss_nil)
      (pss_one (ps_ret (pv 3)))))), ?_⟩
    walk_at "rd"
    refine ⟨by decide, ite2 (fun _ => ⟨?_, [110], rfl, ?_, q _ (.inr ⟨_, rfl, ?_⟩)⟩) (fun _ => q _ (.inl ⟨_, rfl⟩))⟩
    · exact log_small (by omega) (by omega)
    · exact Nat.le_trans (Nat.add_le_add_left (strI_len (log_small (by omega) (by omega))) _) (by decide)
    · exact fun x hx => by
        rcases List.mem_append.mp hx with hx | hx
        · rw [List.mem_singleton.mp hx]; decide
        · exact okS_strI _ x hx
theorem ok_l_due_fields (T : Txt K mg a) : FnOk P w K mg base CX0 1 a.f_l_due_fields a.d_l_due_fields ["_law_which", "_law_one", "_law_other"] sp_duef := by
  refine T.F_l_due_fields.ok sc_l_due_fields (fun vs H Q E h => ?_) (fun cdv A0 outer s0 H vs Q E hr h => ?_)
  · obtain ⟨n, v, u, rfl, _⟩ := h
    rfl
  · obtain ⟨n, v, u, rfl, hn, q⟩ := h
    refine ⟨_, (pss_cons (ps_if (pt_cmpR (op_eqK (K := K) (hU hr)) (pv 0) pe_int (nomark _)) (pss_one (ps_ret (pe_lst pa_nil))) pss_nil)
      (pss_cons (ps_if (pt_cmpR (op_inK (K := K) (hU1 hr)) (pv 0) (pe_tup (pa_cons pe_int (pa_cons pe_int (pa_cons pe_int (pa_cons pe_int (pa_cons pe_int (pa_cons pe_int pa_nil))))))) (by rfl)) (pss_one (ps_ret (pe_lst (pa_cons (pv 1) (pa_cons (pv 2) pa_nil))))) pss_nil)
      (pss_one (ps_ret (pe_lst (pa_cons (pv 1) pa_nil)))))), ?_⟩
    walk_at "rd"
    refine ite2 (fun z => ⟨by decide, fun p hp => q p _ hp (Same.upd hp) ?_⟩) (fun z => ⟨by decide, fun p0 hp0 => ?_⟩)
    · have : n = 0 := by omega
      subst this
      exact upd_same
    have s1 : Same H (upd H p0 (.tup [V.int 7, V.int 8, V.int 9, V.int 13, V.int 14, V.int 15])) := Same.upd hp0
    have a1 : upd H p0 (.tup [V.int 7, V.int 8, V.int 9, V.int 13, V.int 14, V.int 15]) p0 = some (.tup [V.int 7, V.int 8, V.int 9, V.int 13, V.int 14, V.int 15]) := upd_same
    generalize upd H p0 (.tup [V.int 7, V.int 8, V.int 9, V.int 13, V.int 14, V.int 15]) = H1 at s1 a1 ⊢
    refine .inl ⟨p0, _, rfl, .inr (SqT.of a1), rfl, rfl, ⟨_, rfl, ?_⟩⟩
    have e : inV (.int n) [V.int 7, V.int 8, V.int 9, V.int 13, V.int 14, V.int 15] = decide ((n : Int) ∈ [(7 : Int), 8, 9, 13, 14, 15]) := inV_ints n [7, 8, 9, 13, 14, 15]
    rw [show (if false = true then !inV (V.int n) [V.int 7, V.int 8, V.int 9, V.int 13, V.int 14, V.int 15] else inV (V.int n) [V.int 7, V.int 8, V.int 9, V.int 13, V.int 14, V.int 15]) = inV (V.int n) [V.int 7, V.int 8, V.int 9, V.int 13, V.int 14, V.int 15] from rfl, e]
    refine ite2 (fun y => ⟨by decide, fun p hp => q p _ (same_back s1 hp) (s1.trans (Same.upd hp)) ?_⟩) (fun y => ⟨by decide, fun p hp => q p _ (same_back s1 hp) (s1.trans (Same.upd hp)) ?_⟩)
    · have y := of_decide_eq_true y
      simp only [List.mem_cons, List.not_mem_nil, or_false] at y
      have : n = 7 ∨ n = 8 ∨ n = 9 ∨ n = 13 ∨ n = 14 ∨ n = 15 := by omega
      rcases this with rfl | rfl | rfl | rfl | rfl | rfl <;> exact upd_same
    · have y : ¬ ((n : Int) ∈ [(7 : Int), 8, 9, 13, 14, 15]) := fun z => y (decide_eq_true z)
      simp only [List.mem_cons, List.not_mem_nil, or_false] at y
      have : n = 1 ∨ n = 2 ∨ n = 3 ∨ n = 4 ∨ n = 5 ∨ n = 6 ∨ n = 10 ∨ n = 11 ∨ n = 12 := by omega
      rcases this with rfl | rfl | rfl | rfl | rfl | rfl | rfl | rfl | rfl <;> exact upd_same

theorem rInn_ints {K : PySem.W.Frag} {H : Hp} {Q : VK} {p : Addr} {n : Int} (ks : List Int) (h : H p = some (.tup (ks.map V.int))) (q : Q (.bl (decide (n ∈ ks))) H) : rInn K (.int n) (.ref p) H Q := by
  refine .inl ⟨p, _, rfl, .inr (SqT.of h), rfl, by simp [flatV], ?_⟩
  rw [← inV_ints] at q
  exact q
theorem dn_flat {K : PySem.W.Frag} {H : Hp} : ∀ {xs : List V}, (∀ x ∈ xs, flatV x = true) → DenAll K H xs (xs.map scalD)
  | [], _ => .nil
  | x :: xs, h => .cons (den_scal (h x List.mem_cons_self)) (dn_flat fun y hy => h y (List.mem_cons_of_mem _ hy))
theorem gO_list : ∀ n : Nat, n < 16 → [V.bl (decide ((n : Int) ∈ [(4 : Int), 5, 6])), V.bl (decide ((n : Int) ∈ [(7 : Int), 8, 9])), V.bl (decide ((n : Int) ∈ [(10 : Int), 11])), V.bl (decide ((n : Int) ∈ [(12 : Int), 13, 14, 15]))] = (List.range 4).map fun i => V.bl (decide (gO n = i))
  | 0, _ => rfl
  | 1, _ => rfl
  | 2, _ => rfl
  | 3, _ => rfl
  | 4, _ => rfl
  | 5, _ => rfl
  | 6, _ => rfl
  | 7, _ => rfl
  | 8, _ => rfl
  | 9, _ => rfl
  | 10, _ => rfl
  | 11, _ => rfl
  | 12, _ => rfl
  | 13, _ => rfl
  | 14, _ => rfl
  | 15, _ => rfl
  | n + 16, h => absurd h (by omega)
theorem zip_one {n : Nat} (h : n < 7) (v u : V) : (fN n).zip [v] = (fN n).zip [v, u] := by
  have : n = 0 ∨ n = 1 ∨ n = 2 ∨ n = 3 ∨ n = 4 ∨ n = 5 ∨ n = 6 := by omega
  rcases this with rfl | rfl | rfl | rfl | rfl | rfl | rfl <;> rfl
theorem ok_law (T : Txt K mg a) : FnOk P w K mg base CX0 4 a.f_law a.d_law ["_law_script"] (sp_law K) := by
  refine T.F_law.ok sc_law (fun vs H Q E h => ?_) (fun cdv A0 outer s0 H vs Q E hr h => ?_)
  · obtain ⟨p, ns, rfl, _⟩ := h
    rfl
  · obtain ⟨p, ns, rfl, hS, hlen, q⟩ := h
    refine ⟨_, (pss_cons (ps_for PassesOwn.never rfl (pi_range1 rfl T.n_range (pa_cons pe_int pa_nil)) (pg_name (i := 1) sc_law.nd rfl (Or.inl rfl)) (pss_cons (ps_set (i := 2) sc_law.nd rfl (Or.inl rfl) (pe_call (ok_l_cell_at T) (hr.mono (by decide)) rfl T.m_l_cell_at T.F_l_cell_at.kp T.b_l_cell_at .nil pass0 (pa_cons (pv 0) (pa_cons (pv 1) pa_nil))))
      (pss_cons (ps_set (i := 3) sc_law.nd rfl (Or.inr rfl) (pe_op op_mod (pe_call (ok_l_mixed T) (hr.mono (by decide)) rfl T.m_l_mixed T.F_l_mixed.kp T.b_l_mixed .nil pass0 (pa_cons (pv 2) (pa_cons (pv 1) pa_nil))) pe_int))
      (pss_cons (ps_set (i := 4) sc_law.nd rfl (Or.inl rfl) (pe_call (ok_l_field T) (hr.mono (by decide)) rfl T.m_l_field T.F_l_field.kp T.b_l_field .nil pass0 (pa_cons (pv 2) (pa_cons pe_int pa_nil))))
      (pss_cons (ps_set (i := 5) sc_law.nd rfl (Or.inl rfl) (pe_call (ok_l_field T) (hr.mono (by decide)) rfl T.m_l_field T.F_l_field.kp T.b_l_field .nil pass0 (pa_cons (pv 2) (pa_cons pe_int pa_nil))))
      (pss_cons (ps_set (i := 6) sc_law.nd rfl (Or.inl rfl) pe_non)
      (pss_cons (ps_try (pss_cons (ps_expr (pe_call (ok_l_raise_first T) (hr.mono (by decide)) rfl T.m_l_raise_first T.F_l_raise_first.kp T.b_l_raise_first .nil passv0 (pa_cons (pv 3) (pa_cons (pv 4) pa_nil))))
      (pss_one (ps_expr (pe_call (ok_l_raise_more T) (hr.mono (by decide)) rfl T.m_l_raise_more T.F_l_raise_more.kp T.b_l_raise_more .nil passv0 (pa_cons (pv 3) (pa_cons (pv 4) (pa_cons (pv 5) pa_nil)))))))
      (pxs_two (px_expr (px_call (ok_l_raise_first T) (hr.mono (by decide)) rfl T.m_l_raise_first T.F_l_raise_first.kp T.b_l_raise_first .nil (pa_cons (pv 3) (pa_cons (pv 4) pa_nil)))) (pe_call (ok_l_raise_first T) (hr.mono (by decide)) rfl T.m_l_raise_first T.F_l_raise_first.kp T.b_l_raise_first .nil passv0 (pa_cons (pv 3) (pa_cons (pv 4) pa_nil))) (pxs_one (px_expr (px_call (ok_l_raise_more T) (hr.mono (by decide)) rfl T.m_l_raise_more T.F_l_raise_more.kp T.b_l_raise_more .nil (pa_cons (pv 3) (pa_cons (pv 4) (pa_cons (pv 5) pa_nil)))))))
      (ph_as (i := 7) rfl T.mg_CellarError sc_law.nd rfl rfl (fun ea => (pss_cons (ps_set (i := 8) sc_law.nd rfl (Or.inl rfl) (pe_op (op_plusK (K := K)) (pe_callU (okU_l_fields_first T) (hr.mono (by decide)) rfl T.m_l_fields_first T.F_l_fields_first.kp T.b_l_fields_first .nil (pa_cons (pv 7) pa_nil)) (pe_callU (okU_l_fields_more T) (hr.mono (by decide)) rfl T.m_l_fields_more T.F_l_fields_more.kp T.b_l_fields_more .nil (pa_cons (pv 7) pa_nil))))
      (pss_one (ps_set (i := 6) sc_law.nd rfl (Or.inl rfl) (pe_tup (pa_cons (pe_callU (okU_l_kinds T) (hr.mono (by decide)) rfl T.m_l_kinds T.F_l_kinds.kp T.b_l_kinds .nil (pa_cons (pv 7) pa_nil)) (pa_cons (pe_callU (okU_l_gathered T) (hr.mono (by decide)) rfl T.m_l_gathered T.F_l_gathered.kp T.b_l_gathered .nil (pa_cons (pv 7) pa_nil)) (pa_cons (pv 8) (pa_cons (pe_callB (call_isyK (K := K)) (by rfl) T.n_isinstance boot_isinstance (pa_cons (pv 7) (pa_cons (pe_bltn (v := .ty "ValueError") rfl T.n_ValueError L2.boot_ValueError rfl) pa_nil))) pa_nil)))))))))
      ph_nil))
      (pss_cons (ps_setc (i := 9) ["_law_script", "_law_k", "_law_cell", "_law_which", "_law_one", "_law_other", "_law_seen", "_law_e", "_law_fields", "_law_kinds_here", "_law_gathers"] ["_law_script", "_law_k", "_law_cell", "_law_which", "_law_one", "_law_other", "_law_seen", "_law_e", "_law_fields", "_law_kinds_here", "_law_gathers"] (defScope s_law) (by exact ⟨rfl, by decide +kernel, by decide +kernel, by decide +kernel, by decide +kernel, by decide +kernel, by decide +kernel, by decide +kernel, by decide +kernel⟩) (pi_range1 rfl T.n_range (pa_cons pe_int pa_nil)) (fun C₁ s₁ H₁ f₁ => (pe_cmpR (op_eqK (K := K) (hU hr)) (pv 0) (pv 4) (nomark _))) sc_law.nd)
      (pss_cons (ps_set (i := 10) sc_law.nd rfl (Or.inl rfl) (pe_lst (pa_cons (pe_cmpR (op_inK (K := K) (hU1 hr)) (pv 3) (pe_tup (pa_cons pe_int (pa_cons pe_int (pa_cons pe_int pa_nil)))) (by rfl)) (pa_cons (pe_cmpR (op_inK (K := K) (hU1 hr)) (pv 3) (pe_tup (pa_cons pe_int (pa_cons pe_int (pa_cons pe_int pa_nil)))) (by rfl)) (pa_cons (pe_cmpR (op_inK (K := K) (hU1 hr)) (pv 3) (pe_tup (pa_cons pe_int (pa_cons pe_int pa_nil))) (by rfl)) (pa_cons (pe_cmpR (op_inK (K := K) (hU1 hr)) (pv 3) (pe_tup (pa_cons pe_int (pa_cons pe_int (pa_cons pe_int (pa_cons pe_int pa_nil))))) (by rfl)) pa_nil))))))
      (pss_one (ps_if (pt_cmpR (op_neK (K := K) (hU hr)) (pv 6) (pe_tup (pa_cons (pv 9) (pa_cons (pv 10) (pa_cons (pe_call (ok_l_due_fields T) (hr.mono (by decide)) rfl T.m_l_due_fields T.F_l_due_fields.kp T.b_l_due_fields .nil pass0 (pa_cons (pv 3) (pa_cons (pv 4) (pa_cons (pv 5) pa_nil)))) (pa_cons pe_bl pa_nil))))) (nomark _)) (pss_one (ps_ret pe_bl)) pss_nil)))))))))))
      (pss_one (ps_ret pe_bl))), ?_⟩
    walk_at "rd"
    refine forW_range (n := 6) (lo := 0) (fun i σ H' => Same H H' ∧ ∃ v1 v2 v3 v4 v5 v6 v7 v8 v9 v10, σ = [some (V.ref p), v1, v2, v3, v4, v5, v6, v7, v8, v9, v10]) ⟨Same.refl _, none, none, none, none, none, none, none, none, none, none, rfl⟩ ?_ ?_
    · rintro i σ H1 hi ⟨s1, v1, v2, v3, v4, v5, v6, v7, v8, v9, v10, rfl⟩
      refine cut5 fun Rz hRz => ?_
      walk_at "rd"
      refine ⟨ns, s1.seq hS, by omega, fun v hv u hu => ?_⟩
      have m0 := mixN_bd (ns.getD (0 + (i : Int)).toNat 0) (0 + (i : Int))
      obtain ⟨n, hn⟩ : ∃ n : Nat, mixN (ns.getD (0 + (i : Int)).toNat 0) (0 + (i : Int)) % 16 = n := ⟨(mixN (ns.getD (0 + (i : Int)).toNat 0) (0 + (i : Int)) % 16).toNat, by omega⟩
      have n16 : n < 16 := by omega
      rw [hn]
      rw [hRz]
      clear hRz
      refine cut1 fun Rz hRz => ?_
      walk_at "rd"
      refine .inr ⟨XG H1 (cA a n) ((fN n).zip [v, u]), ?_, fun C dx H' ea g hea => ?_⟩
      · by_cases h7 : n < 7
        · refine .inl ⟨n, rfl, n16, h7, ?_⟩
          rw [zip_one h7 v u]
          exact xb_xg
        · exact .inr ⟨n, rfl, n16, .inr ⟨by omega, n, rfl, n16, by omega, xb_xg⟩⟩
      · obtain ⟨rfl, sm, ge, gd⟩ := g.at hea
        generalize upd H' ea (xh ea (cA a n) dx) = H2 at sm ge gd ⊢
        refine ⟨T.em n, n, n16, dx, ge, v, u, gd, fun D1 HA hD1 sA hA => ⟨n, n16, dx, sA _ _ ge, v, u, gd.same sA, fun D2 HB hD2 sB hB => rPlus_l (.inl (.inl (sB _ _ hA))) (.inl (.inl hB)) ?_ fun D3 hD3 => ?_⟩⟩
        · have e2 := List.length_zip (l₁ := fN n) (l₂ := [v, u])
          have : (if n < 7 then ((fN n).zip [v, u]).map (·.2) else []).length + (if n < 7 then [] else ((fN n).zip [v, u]).map (·.2)).length ≤ 2 := by
            split <;> simp only [List.length_map, List.length_nil, e2, List.length_cons] <;> omega
          exact Nat.le_trans this (by decide)
        rw [show (if n < 7 then ((fN n).zip [v, u]).map (·.2) else []) ++ (if n < 7 then [] else ((fN n).zip [v, u]).map (·.2)) = ((fN n).zip [v, u]).map (·.2) by split <;> simp]
        have sC : Same HB (upd HB D3 (.lst (((fN n).zip [v, u]).map (·.2)))) := Same.upd hD3
        have aC : upd HB D3 (.lst (((fN n).zip [v, u]).map (·.2))) D3 = some (.lst (((fN n).zip [v, u]).map (·.2))) := upd_same
        generalize upd HB D3 (.lst (((fN n).zip [v, u]).map (·.2))) = HC at sC aC ⊢
        have s2C := sA.trans (sB.trans sC)
        refine ⟨n, n16, dx, s2C _ _ ge, ⟨_, gd.same s2C⟩, fun D4 HD hD4 sD hD => ⟨n, n16, dx, sD _ _ (s2C _ _ ge), ⟨_, gd.same (s2C.trans sD)⟩, fun D5 HE hD5 sE hE => rIsy_t (sE _ _ (sD _ _ (s2C _ _ ge))) (gd.same (s2C.trans (sD.trans sE))) (T.xc n) (T.xi n) (T.kv n) ⟨by decide, fun D6 hD6 => ?_⟩⟩⟩
        have sF : Same HE (upd HE D6 (.tup [.ref D4, .ref D5, .ref D3, .bl true])) := Same.upd hD6
        have aF : upd HE D6 (.tup [.ref D4, .ref D5, .ref D3, .bl true]) D6 = some (.tup [.ref D4, .ref D5, .ref D3, .bl true]) := upd_same
        generalize upd HE D6 (.tup [.ref D4, .ref D5, .ref D3, .bl true]) = HF at sF aF ⊢
        have k4 := sF _ _ (sE _ _ hD)
        have k5 := sF _ _ hE
        have k3 := sF _ _ (sE _ _ (sD _ _ aC))
        have sF1 := s1.trans (sm.trans (s2C.trans (sD.trans (sE.trans sF))))
        clear sF sE sD s2C sC sB sA hE hD aC hB hA gd ge sm hD1 hD2 hD3 hD4 hD5 hD6 hea g
        rw [hRz]
        clear hRz
        refine cut2 fun Rz hRz => ?_
        walk_at "rd"
        refine compW_range (by decide) (fun j => V.bl (decide (j = n))) (fun j H' hj s Qe qe => ?_) fun D7 HG hD7 sG hG => ?_
        · walk_at "rd"
          have := qe H' (Same.refl _)
          rw [show decide (0 + (j : Int) = (n : Int)) = decide (j = n) by simp only [Int.zero_add, Int.natCast_inj]]
          exact this
        refine ⟨by decide, fun t1 ht1 => rInn_ints [4, 5, 6] upd_same ?_⟩
        have sH : Same HG (upd HG t1 (.tup [V.int 4, V.int 5, V.int 6])) := Same.upd ht1
        generalize upd HG t1 (.tup [V.int 4, V.int 5, V.int 6]) = HH at sH ⊢
        refine ⟨by decide, fun t2 ht2 => rInn_ints [7, 8, 9] upd_same ?_⟩
        have sI : Same HH (upd HH t2 (.tup [V.int 7, V.int 8, V.int 9])) := Same.upd ht2
        generalize upd HH t2 (.tup [V.int 7, V.int 8, V.int 9]) = HI at sI ⊢
        refine ⟨by decide, fun t3 ht3 => rInn_ints [10, 11] upd_same ?_⟩
        have sJ : Same HI (upd HI t3 (.tup [V.int 10, V.int 11])) := Same.upd ht3
        generalize upd HI t3 (.tup [V.int 10, V.int 11]) = HJ at sJ ⊢
        refine ⟨by decide, fun t4 ht4 => rInn_ints [12, 13, 14, 15] upd_same ?_⟩
        have sK : Same HJ (upd HJ t4 (.tup [V.int 12, V.int 13, V.int 14, V.int 15])) := Same.upd ht4
        generalize upd HJ t4 (.tup [V.int 12, V.int 13, V.int 14, V.int 15]) = HK at sK ⊢
        refine ⟨by decide, fun D8 hD8 => ?_⟩
        rw [gO_list n n16]
        have sL : Same HK (upd HK D8 (.lst ((List.range 4).map fun i => V.bl (decide (gO n = i))))) := Same.upd hD8
        have aL : upd HK D8 (.lst ((List.range 4).map fun i => V.bl (decide (gO n = i)))) D8 = some (.lst ((List.range 4).map fun i => V.bl (decide (gO n = i)))) := upd_same
        generalize upd HK D8 (.lst ((List.range 4).map fun i => V.bl (decide (gO n = i)))) = HL at sL aL ⊢
        have sGL := sH.trans (sI.trans (sJ.trans (sK.trans sL)))
        have sFL := sG.trans sGL
        have hG' := sGL _ _ hG
        rw [hRz]
        clear hRz
        walk_at "rd"
        refine ⟨n, rfl, n16, fun D9 HM hD9 sM hM => ⟨by decide, fun TT hTT => ?_⟩⟩
        have sN : Same HM (upd HM TT (.tup [.ref D7, .ref D8, .ref D9, .bl true])) := Same.upd hTT
        have aN : upd HM TT (.tup [.ref D7, .ref D8, .ref D9, .bl true]) TT = some (.tup [.ref D7, .ref D8, .ref D9, .bl true]) := upd_same
        generalize upd HM TT (.tup [.ref D7, .ref D8, .ref D9, .bl true]) = HN at sN aN ⊢
        have sLN := sM.trans sN
        have sFN := sFL.trans sLN
        have hv' : ∀ x ∈ [v, u], flatV x = true ∧ okV x := by
          have key : ∀ x : V, ((∃ i, x = V.int i) ∨ ∃ l, x = V.str (S l) ∧ okS l) → flatV x = true ∧ okV x := by
            rintro x (⟨i, rfl⟩ | ⟨l, rfl, ol⟩)
            · exact ⟨rfl, trivial⟩
            · exact ⟨rfl, (by show okS (S l).cps.toList; simpa [S] using ol)⟩
          intro x hx
          rcases List.mem_cons.mp hx with rfl | hx
          · exact key _ hv
          · rw [List.mem_singleton.mp hx]; exact key _ hu
        have hF : ∀ x ∈ ((fN n).zip [v, u]).map (·.2), flatV x = true ∧ okV x := fun x hx => by
          obtain ⟨y, hy, rfl⟩ := List.mem_map.mp hx
          exact hv' _ (List.of_mem_zip hy).2
        have hB : ∀ (m : Nat) (f : Nat → Bool), ∀ x ∈ (List.range m).map (fun i => V.bl (f i)), flatV x = true ∧ okV x := fun m f x hx => by
          obtain ⟨y, _, rfl⟩ := List.mem_map.mp hx
          exact ⟨rfl, trivial⟩
        have dl : ∀ (Hx : Hp) (D : Addr) (xs : List V), Hx D = some (.lst xs) → (∀ x ∈ xs, flatV x = true ∧ okV x) → Den K Hx (.ref D) (.list (xs.map scalD)) := fun Hx D xs h hx => .lst (.inl (.inl h)) (dn_flat fun x z => (hx x z).1)
        have wl : ∀ (xs : List V), (∀ x ∈ xs, flatV x = true ∧ okV x) → wd 1 (.list (xs.map scalD)) := fun xs hx => wd_list fun d hd => by
          obtain ⟨x, z, rfl⟩ := List.mem_map.mp hd
          exact wd_scal 0 (hx x z).2
        have dS : Den K HN (.ref D6) (.tuple [.list (((List.range 16).map fun i => V.bl (decide (i = n))).map scalD), .list (((List.range 4).map fun i => V.bl (decide (gO n = i))).map scalD), .list ((((fN n).zip [v, u]).map (·.2)).map scalD), .bool true]) :=
          .tup (SqT.of (sFN _ _ aF)) (.cons (dl _ _ _ (sFN _ _ k4) (hB _ _)) (.cons (dl _ _ _ (sFN _ _ k5) (hB _ _)) (.cons (dl _ _ _ (sFN _ _ k3) hF) (.cons (.bl true) .nil))))
        have dT : Den K HN (.ref TT) (.tuple [.list (((List.range 16).map fun i => V.bl (decide (i = n))).map scalD), .list (((List.range 4).map fun i => V.bl (decide (gO n = i))).map scalD), .list ((((fN n).zip [v, u]).map (·.2)).map scalD), .bool true]) :=
          .tup (SqT.of aN) (.cons (dl _ _ _ (sLN _ _ hG') (hB _ _)) (.cons (dl _ _ _ (sLN _ _ aL) (hB _ _)) (.cons (dl _ _ _ (sN _ _ hM) hF) (.cons (.bl true) .nil))))
        refine rNeq_same (n := 2) dS dT (wd_tuple fun d hd => ?_) rfl ⟨_, rfl, ?_⟩
        · simp only [List.mem_cons, List.not_mem_nil, or_false] at hd
          rcases hd with rfl | rfl | rfl | rfl
          · exact wl _ (hB _ _)
          · exact wl _ (hB _ _)
          · exact wl _ hF
          · exact wd_bl 1 true
        · rw [if_neg (by decide)]
          exact sF1.trans sFN
    · rintro σ H1 ⟨s1, v1, v2, v3, v4, v5, v6, v7, v8, v9, v10, rfl⟩
      walk_at "rd"
      exact q H1

end
theorem txt_mk {K : PySem.W.Frag} {h : Heap} {mg : Str → Option Value} (X : K.In h) (G : h.Ns mainGlobals mg)
    {C_BadWord : Addr}
    {C_Beyond : Addr}
    {C_Broken : Addr}
    {C_Busy : Addr}
    {C_CellarError : Addr}
    {C_DeedError : Addr}
    {C_Doubled : Addr}
    {C_Fenced : Addr}
    {C_Gap : Addr}
    {C_Gone : Addr}
    {C_Late : Addr}
    {C_LoanError : Addr}
    {C_Needed : Addr}
    {C_NoDeed : Addr}
    {C_NoSuch : Addr}
    {C_NotYours : Addr}
    {C_RowError : Addr}
    {C_SenderError : Addr}
    {C_TooOld : Addr}
    {C_Twice : Addr}
    {C_WrongKind : Addr}
    {f1 : Addr} {od1 an1 : Option Addr} {sl1 : Array (Option Value)} {oc1 kV1 dc1 pm1 cd1 ct1 : Value}
    {f2 : Addr} {od2 an2 : Option Addr} {sl2 : Array (Option Value)} {oc2 kV2 dc2 pm2 cd2 ct2 : Value}
    {f3 : Addr} {od3 an3 : Option Addr} {sl3 : Array (Option Value)} {oc3 kV3 dc3 pm3 cd3 ct3 : Value}
    {f4 : Addr} {od4 an4 : Option Addr} {sl4 : Array (Option Value)} {oc4 kV4 dc4 pm4 cd4 ct4 : Value}
    {f5 : Addr} {od5 an5 : Option Addr} {sl5 : Array (Option Value)} {oc5 kV5 dc5 pm5 cd5 ct5 : Value}
    {f6 : Addr} {od6 an6 : Option Addr} {sl6 : Array (Option Value)} {oc6 kV6 dc6 pm6 cd6 ct6 : Value}
    {f7 : Addr} {od7 an7 : Option Addr} {sl7 : Array (Option Value)} {oc7 kV7 dc7 pm7 cd7 ct7 : Value}
    {f8 : Addr} {od8 an8 : Option Addr} {sl8 : Array (Option Value)} {oc8 kV8 dc8 pm8 cd8 ct8 : Value}
    {f9 : Addr} {od9 an9 : Option Addr} {sl9 : Array (Option Value)} {oc9 kV9 dc9 pm9 cd9 ct9 : Value}
    {f10 : Addr} {od10 an10 : Option Addr} {sl10 : Array (Option Value)} {oc10 kV10 dc10 pm10 cd10 ct10 : Value}
    {f11 : Addr} {od11 an11 : Option Addr} {sl11 : Array (Option Value)} {oc11 kV11 dc11 pm11 cd11 ct11 : Value}
    {f12 : Addr} {od12 an12 : Option Addr} {sl12 : Array (Option Value)} {oc12 kV12 dc12 pm12 cd12 ct12 : Value}
    {f13 : Addr} {od13 an13 : Option Addr} {sl13 : Array (Option Value)} {oc13 kV13 dc13 pm13 cd13 ct13 : Value}
    {f14 : Addr} {od14 an14 : Option Addr} {sl14 : Array (Option Value)} {oc14 kV14 dc14 pm14 cd14 ct14 : Value}
    {f15 : Addr} {od15 an15 : Option Addr} {sl15 : Array (Option Value)} {oc15 kV15 dc15 pm15 cd15 ct15 : Value}
    {f16 : Addr} {od16 an16 : Option Addr} {sl16 : Array (Option Value)} {oc16 kV16 dc16 pm16 cd16 ct16 : Value}
    {f17 : Addr} {od17 an17 : Option Addr} {sl17 : Array (Option Value)} {oc17 kV17 dc17 pm17 cd17 ct17 : Value}
    {f18 : Addr} {od18 an18 : Option Addr} {sl18 : Array (Option Value)} {oc18 kV18 dc18 pm18 cd18 ct18 : Value}
    {f19 : Addr} {od19 an19 : Option Addr} {sl19 : Array (Option Value)} {oc19 kV19 dc19 pm19 cd19 ct19 : Value}
    {f20 : Addr} {od20 an20 : Option Addr} {sl20 : Array (Option Value)} {oc20 kV20 dc20 pm20 cd20 ct20 : Value}
    {f21 : Addr} {od21 an21 : Option Addr} {sl21 : Array (Option Value)} {oc21 kV21 dc21 pm21 cd21 ct21 : Value}
    {f22 : Addr} {od22 an22 : Option Addr} {sl22 : Array (Option Value)} {oc22 kV22 dc22 pm22 cd22 ct22 : Value}
    {f23 : Addr} {od23 an23 : Option Addr} {sl23 : Array (Option Value)} {oc23 kV23 dc23 pm23 cd23 ct23 : Value}
    {f24 : Addr} {od24 an24 : Option Addr} {sl24 : Array (Option Value)} {oc24 kV24 dc24 pm24 cd24 ct24 : Value}
    {f25 : Addr} {od25 an25 : Option Addr} {sl25 : Array (Option Value)} {oc25 kV25 dc25 pm25 cd25 ct25 : Value}
    {f26 : Addr} {od26 an26 : Option Addr} {sl26 : Array (Option Value)} {oc26 kV26 dc26 pm26 cd26 ct26 : Value}
    (a1 : PySem.W.findIn K (.ref C_NoSuch) "__init__" = some (some (.ref f1))) (i1 : PySem.W.isFn K (.ref f1) = true)
    (l1 : K.lookup f1 = some ⟨oc1, od1, .func (PySem.W.fnOf "__init__" "NoSuch.__init__" (defArgs s_NoSuch___init__) (defBody s_NoSuch___init__) (defScope s_NoSuch___init__) .none kV1 dc1 pm1 an1 cd1 ct1), sl1⟩) (c1 : PySem.W.codeIn K cd1 "NoSuch.__init__" = true) (k1 : PySem.W.keepIn K (.ref f1) = true)
    (a2 : PySem.W.findIn K (.ref C_Doubled) "__init__" = some (some (.ref f2))) (i2 : PySem.W.isFn K (.ref f2) = true)
    (l2 : K.lookup f2 = some ⟨oc2, od2, .func (PySem.W.fnOf "__init__" "Doubled.__init__" (defArgs s_Doubled___init__) (defBody s_Doubled___init__) (defScope s_Doubled___init__) .none kV2 dc2 pm2 an2 cd2 ct2), sl2⟩) (c2 : PySem.W.codeIn K cd2 "Doubled.__init__" = true) (k2 : PySem.W.keepIn K (.ref f2) = true)
    (a3 : PySem.W.findIn K (.ref C_Broken) "__init__" = some (some (.ref f3))) (i3 : PySem.W.isFn K (.ref f3) = true)
    (l3 : K.lookup f3 = some ⟨oc3, od3, .func (PySem.W.fnOf "__init__" "Broken.__init__" (defArgs s_Broken___init__) (defBody s_Broken___init__) (defScope s_Broken___init__) .none kV3 dc3 pm3 an3 cd3 ct3), sl3⟩) (c3 : PySem.W.codeIn K cd3 "Broken.__init__" = true) (k3 : PySem.W.keepIn K (.ref f3) = true)
    (a4 : PySem.W.findIn K (.ref C_Fenced) "__init__" = some (some (.ref f4))) (i4 : PySem.W.isFn K (.ref f4) = true)
    (l4 : K.lookup f4 = some ⟨oc4, od4, .func (PySem.W.fnOf "__init__" "Fenced.__init__" (defArgs s_Fenced___init__) (defBody s_Fenced___init__) (defScope s_Fenced___init__) .none kV4 dc4 pm4 an4 cd4 ct4), sl4⟩) (c4 : PySem.W.codeIn K cd4 "Fenced.__init__" = true) (k4 : PySem.W.keepIn K (.ref f4) = true)
    (a5 : PySem.W.findIn K (.ref C_Gap) "__init__" = some (some (.ref f5))) (i5 : PySem.W.isFn K (.ref f5) = true)
    (l5 : K.lookup f5 = some ⟨oc5, od5, .func (PySem.W.fnOf "__init__" "Gap.__init__" (defArgs s_Gap___init__) (defBody s_Gap___init__) (defScope s_Gap___init__) .none kV5 dc5 pm5 an5 cd5 ct5), sl5⟩) (c5 : PySem.W.codeIn K cd5 "Gap.__init__" = true) (k5 : PySem.W.keepIn K (.ref f5) = true)
    (a6 : PySem.W.findIn K (.ref C_TooOld) "__init__" = some (some (.ref f6))) (i6 : PySem.W.isFn K (.ref f6) = true)
    (l6 : K.lookup f6 = some ⟨oc6, od6, .func (PySem.W.fnOf "__init__" "TooOld.__init__" (defArgs s_TooOld___init__) (defBody s_TooOld___init__) (defScope s_TooOld___init__) .none kV6 dc6 pm6 an6 cd6 ct6), sl6⟩) (c6 : PySem.W.codeIn K cd6 "TooOld.__init__" = true) (k6 : PySem.W.keepIn K (.ref f6) = true)
    (a7 : PySem.W.findIn K (.ref C_Late) "__init__" = some (some (.ref f7))) (i7 : PySem.W.isFn K (.ref f7) = true)
    (l7 : K.lookup f7 = some ⟨oc7, od7, .func (PySem.W.fnOf "__init__" "Late.__init__" (defArgs s_Late___init__) (defBody s_Late___init__) (defScope s_Late___init__) .none kV7 dc7 pm7 an7 cd7 ct7), sl7⟩) (c7 : PySem.W.codeIn K cd7 "Late.__init__" = true) (k7 : PySem.W.keepIn K (.ref f7) = true)
    (a8 : PySem.W.findIn K (.ref C_NotYours) "__init__" = some (some (.ref f8))) (i8 : PySem.W.isFn K (.ref f8) = true)
    (l8 : K.lookup f8 = some ⟨oc8, od8, .func (PySem.W.fnOf "__init__" "NotYours.__init__" (defArgs s_NotYours___init__) (defBody s_NotYours___init__) (defScope s_NotYours___init__) .none kV8 dc8 pm8 an8 cd8 ct8), sl8⟩) (c8 : PySem.W.codeIn K cd8 "NotYours.__init__" = true) (k8 : PySem.W.keepIn K (.ref f8) = true)
    (a9 : PySem.W.findIn K (.ref C_Twice) "__init__" = some (some (.ref f9))) (i9 : PySem.W.isFn K (.ref f9) = true)
    (l9 : K.lookup f9 = some ⟨oc9, od9, .func (PySem.W.fnOf "__init__" "Twice.__init__" (defArgs s_Twice___init__) (defBody s_Twice___init__) (defScope s_Twice___init__) .none kV9 dc9 pm9 an9 cd9 ct9), sl9⟩) (c9 : PySem.W.codeIn K cd9 "Twice.__init__" = true) (k9 : PySem.W.keepIn K (.ref f9) = true)
    (a10 : PySem.W.findIn K (.ref C_Busy) "__init__" = some (some (.ref f10))) (i10 : PySem.W.isFn K (.ref f10) = true)
    (l10 : K.lookup f10 = some ⟨oc10, od10, .func (PySem.W.fnOf "__init__" "Busy.__init__" (defArgs s_Busy___init__) (defBody s_Busy___init__) (defScope s_Busy___init__) .none kV10 dc10 pm10 an10 cd10 ct10), sl10⟩) (c10 : PySem.W.codeIn K cd10 "Busy.__init__" = true) (k10 : PySem.W.keepIn K (.ref f10) = true)
    (a11 : PySem.W.findIn K (.ref C_NoDeed) "__init__" = some (some (.ref f11))) (i11 : PySem.W.isFn K (.ref f11) = true)
    (l11 : K.lookup f11 = some ⟨oc11, od11, .func (PySem.W.fnOf "__init__" "NoDeed.__init__" (defArgs s_NoDeed___init__) (defBody s_NoDeed___init__) (defScope s_NoDeed___init__) .none kV11 dc11 pm11 an11 cd11 ct11), sl11⟩) (c11 : PySem.W.codeIn K cd11 "NoDeed.__init__" = true) (k11 : PySem.W.keepIn K (.ref f11) = true)
    (a12 : PySem.W.findIn K (.ref C_WrongKind) "__init__" = some (some (.ref f12))) (i12 : PySem.W.isFn K (.ref f12) = true)
    (l12 : K.lookup f12 = some ⟨oc12, od12, .func (PySem.W.fnOf "__init__" "WrongKind.__init__" (defArgs s_WrongKind___init__) (defBody s_WrongKind___init__) (defScope s_WrongKind___init__) .none kV12 dc12 pm12 an12 cd12 ct12), sl12⟩) (c12 : PySem.W.codeIn K cd12 "WrongKind.__init__" = true) (k12 : PySem.W.keepIn K (.ref f12) = true)
    (a13 : PySem.W.findIn K (.ref C_Needed) "__init__" = some (some (.ref f13))) (i13 : PySem.W.isFn K (.ref f13) = true)
    (l13 : K.lookup f13 = some ⟨oc13, od13, .func (PySem.W.fnOf "__init__" "Needed.__init__" (defArgs s_Needed___init__) (defBody s_Needed___init__) (defScope s_Needed___init__) .none kV13 dc13 pm13 an13 cd13 ct13), sl13⟩) (c13 : PySem.W.codeIn K cd13 "Needed.__init__" = true) (k13 : PySem.W.keepIn K (.ref f13) = true)
    (a14 : PySem.W.findIn K (.ref C_Gone) "__init__" = some (some (.ref f14))) (i14 : PySem.W.isFn K (.ref f14) = true)
    (l14 : K.lookup f14 = some ⟨oc14, od14, .func (PySem.W.fnOf "__init__" "Gone.__init__" (defArgs s_Gone___init__) (defBody s_Gone___init__) (defScope s_Gone___init__) .none kV14 dc14 pm14 an14 cd14 ct14), sl14⟩) (c14 : PySem.W.codeIn K cd14 "Gone.__init__" = true) (k14 : PySem.W.keepIn K (.ref f14) = true)
    (a15 : PySem.W.findIn K (.ref C_Beyond) "__init__" = some (some (.ref f15))) (i15 : PySem.W.isFn K (.ref f15) = true)
    (l15 : K.lookup f15 = some ⟨oc15, od15, .func (PySem.W.fnOf "__init__" "Beyond.__init__" (defArgs s_Beyond___init__) (defBody s_Beyond___init__) (defScope s_Beyond___init__) .none kV15 dc15 pm15 an15 cd15 ct15), sl15⟩) (c15 : PySem.W.codeIn K cd15 "Beyond.__init__" = true) (k15 : PySem.W.keepIn K (.ref f15) = true)
    (a16 : PySem.W.nsIn K mainGlobals "_law_cell_at" = some (some (.ref f16)))
    (l16 : K.lookup f16 = some ⟨oc16, od16, .func (PySem.W.fnOf "_law_cell_at" "_law_cell_at" (defArgs s_l_cell_at) (defBody s_l_cell_at) (defScope s_l_cell_at) .none kV16 dc16 pm16 an16 cd16 ct16), sl16⟩) (c16 : PySem.W.codeIn K cd16 "_law_cell_at" = true) (k16 : PySem.W.keepIn K (.ref f16) = true)
    (a17 : PySem.W.nsIn K mainGlobals "_law_mixed" = some (some (.ref f17)))
    (l17 : K.lookup f17 = some ⟨oc17, od17, .func (PySem.W.fnOf "_law_mixed" "_law_mixed" (defArgs s_l_mixed) (defBody s_l_mixed) (defScope s_l_mixed) .none kV17 dc17 pm17 an17 cd17 ct17), sl17⟩) (c17 : PySem.W.codeIn K cd17 "_law_mixed" = true) (k17 : PySem.W.keepIn K (.ref f17) = true)
    (a18 : PySem.W.nsIn K mainGlobals "_law_kinds" = some (some (.ref f18)))
    (l18 : K.lookup f18 = some ⟨oc18, od18, .func (PySem.W.fnOf "_law_kinds" "_law_kinds" (defArgs s_l_kinds) (defBody s_l_kinds) (defScope s_l_kinds) .none kV18 dc18 pm18 an18 cd18 ct18), sl18⟩) (c18 : PySem.W.codeIn K cd18 "_law_kinds" = true) (k18 : PySem.W.keepIn K (.ref f18) = true)
    (a19 : PySem.W.nsIn K mainGlobals "_law_gathered" = some (some (.ref f19)))
    (l19 : K.lookup f19 = some ⟨oc19, od19, .func (PySem.W.fnOf "_law_gathered" "_law_gathered" (defArgs s_l_gathered) (defBody s_l_gathered) (defScope s_l_gathered) .none kV19 dc19 pm19 an19 cd19 ct19), sl19⟩) (c19 : PySem.W.codeIn K cd19 "_law_gathered" = true) (k19 : PySem.W.keepIn K (.ref f19) = true)
    (a20 : PySem.W.nsIn K mainGlobals "_law_raise_first" = some (some (.ref f20)))
    (l20 : K.lookup f20 = some ⟨oc20, od20, .func (PySem.W.fnOf "_law_raise_first" "_law_raise_first" (defArgs s_l_raise_first) (defBody s_l_raise_first) (defScope s_l_raise_first) .none kV20 dc20 pm20 an20 cd20 ct20), sl20⟩) (c20 : PySem.W.codeIn K cd20 "_law_raise_first" = true) (k20 : PySem.W.keepIn K (.ref f20) = true)
    (a21 : PySem.W.nsIn K mainGlobals "_law_raise_more" = some (some (.ref f21)))
    (l21 : K.lookup f21 = some ⟨oc21, od21, .func (PySem.W.fnOf "_law_raise_more" "_law_raise_more" (defArgs s_l_raise_more) (defBody s_l_raise_more) (defScope s_l_raise_more) .none kV21 dc21 pm21 an21 cd21 ct21), sl21⟩) (c21 : PySem.W.codeIn K cd21 "_law_raise_more" = true) (k21 : PySem.W.keepIn K (.ref f21) = true)
    (a22 : PySem.W.nsIn K mainGlobals "_law_fields_first" = some (some (.ref f22)))
    (l22 : K.lookup f22 = some ⟨oc22, od22, .func (PySem.W.fnOf "_law_fields_first" "_law_fields_first" (defArgs s_l_fields_first) (defBody s_l_fields_first) (defScope s_l_fields_first) .none kV22 dc22 pm22 an22 cd22 ct22), sl22⟩) (c22 : PySem.W.codeIn K cd22 "_law_fields_first" = true) (k22 : PySem.W.keepIn K (.ref f22) = true)
    (a23 : PySem.W.nsIn K mainGlobals "_law_fields_more" = some (some (.ref f23)))
    (l23 : K.lookup f23 = some ⟨oc23, od23, .func (PySem.W.fnOf "_law_fields_more" "_law_fields_more" (defArgs s_l_fields_more) (defBody s_l_fields_more) (defScope s_l_fields_more) .none kV23 dc23 pm23 an23 cd23 ct23), sl23⟩) (c23 : PySem.W.codeIn K cd23 "_law_fields_more" = true) (k23 : PySem.W.keepIn K (.ref f23) = true)
    (a24 : PySem.W.nsIn K mainGlobals "_law_field" = some (some (.ref f24)))
    (l24 : K.lookup f24 = some ⟨oc24, od24, .func (PySem.W.fnOf "_law_field" "_law_field" (defArgs s_l_field) (defBody s_l_field) (defScope s_l_field) .none kV24 dc24 pm24 an24 cd24 ct24), sl24⟩) (c24 : PySem.W.codeIn K cd24 "_law_field" = true) (k24 : PySem.W.keepIn K (.ref f24) = true)
    (a25 : PySem.W.nsIn K mainGlobals "_law_due_fields" = some (some (.ref f25)))
    (l25 : K.lookup f25 = some ⟨oc25, od25, .func (PySem.W.fnOf "_law_due_fields" "_law_due_fields" (defArgs s_l_due_fields) (defBody s_l_due_fields) (defScope s_l_due_fields) .none kV25 dc25 pm25 an25 cd25 ct25), sl25⟩) (c25 : PySem.W.codeIn K cd25 "_law_due_fields" = true) (k25 : PySem.W.keepIn K (.ref f25) = true)
    (a26 : PySem.W.nsIn K mainGlobals "law" = some (some (.ref f26)))
    (l26 : K.lookup f26 = some ⟨oc26, od26, .func (PySem.W.fnOf "law" "law" (defArgs s_law) (defBody s_law) (defScope s_law) .none kV26 dc26 pm26 an26 cd26 ct26), sl26⟩) (c26 : PySem.W.codeIn K cd26 "law" = true) (k26 : PySem.W.keepIn K (.ref f26) = true)
    (aC_BadWord : PySem.W.nsIn K mainGlobals "BadWord" = some (some (.ref C_BadWord)))
    (aC_Beyond : PySem.W.nsIn K mainGlobals "Beyond" = some (some (.ref C_Beyond)))
    (aC_Broken : PySem.W.nsIn K mainGlobals "Broken" = some (some (.ref C_Broken)))
    (aC_Busy : PySem.W.nsIn K mainGlobals "Busy" = some (some (.ref C_Busy)))
    (aC_CellarError : PySem.W.nsIn K mainGlobals "CellarError" = some (some (.ref C_CellarError)))
    (aC_DeedError : PySem.W.nsIn K mainGlobals "DeedError" = some (some (.ref C_DeedError)))
    (aC_Doubled : PySem.W.nsIn K mainGlobals "Doubled" = some (some (.ref C_Doubled)))
    (aC_Fenced : PySem.W.nsIn K mainGlobals "Fenced" = some (some (.ref C_Fenced)))
    (aC_Gap : PySem.W.nsIn K mainGlobals "Gap" = some (some (.ref C_Gap)))
    (aC_Gone : PySem.W.nsIn K mainGlobals "Gone" = some (some (.ref C_Gone)))
    (aC_Late : PySem.W.nsIn K mainGlobals "Late" = some (some (.ref C_Late)))
    (aC_LoanError : PySem.W.nsIn K mainGlobals "LoanError" = some (some (.ref C_LoanError)))
    (aC_Needed : PySem.W.nsIn K mainGlobals "Needed" = some (some (.ref C_Needed)))
    (aC_NoDeed : PySem.W.nsIn K mainGlobals "NoDeed" = some (some (.ref C_NoDeed)))
    (aC_NoSuch : PySem.W.nsIn K mainGlobals "NoSuch" = some (some (.ref C_NoSuch)))
    (aC_NotYours : PySem.W.nsIn K mainGlobals "NotYours" = some (some (.ref C_NotYours)))
    (aC_RowError : PySem.W.nsIn K mainGlobals "RowError" = some (some (.ref C_RowError)))
    (aC_SenderError : PySem.W.nsIn K mainGlobals "SenderError" = some (some (.ref C_SenderError)))
    (aC_TooOld : PySem.W.nsIn K mainGlobals "TooOld" = some (some (.ref C_TooOld)))
    (aC_Twice : PySem.W.nsIn K mainGlobals "Twice" = some (some (.ref C_Twice)))
    (aC_WrongKind : PySem.W.nsIn K mainGlobals "WrongKind" = some (some (.ref C_WrongKind)))
    (xj_BadWord : PySem.W.findIn K (.ref C_BadWord) "__init__" = some (some (.builtin "ValueError.__init__")))
    (xx_BadWord : L2.xIn K C_BadWord = true) (kc_BadWord : PySem.W.keepIn K (.ref C_BadWord) = true) (sa_BadWord : PySem.W.findIn K (.ref C_BadWord) "__setattr__" = some (some (.builtin "object.__setattr__"))) (ga_BadWord : PySem.W.findIn K (.ref C_BadWord) "__getattribute__" = some (some (.builtin "BaseException.__getattribute__"))) (gn_BadWord : PySem.W.findIn K (.ref C_BadWord) "__getattr__" = some none) (hd_BadWord : PySem.W.hasDictIn K C_BadWord = true)
    (em_BadWord_CellarError : PySem.W.exmOne K (.ref C_BadWord) (.ref C_CellarError) = some true)
    (xq_BadWord : PySem.W.findIn K (.ref C_BadWord) "__class__" = some (some (.builtin "object.__class__")))
    (xr : PySem.W.specialIn K (.builtin "object.__class__") "__get__" = some (some (.builtin "getset_descriptor.__get__"))) (xt : PySem.W.takesIn K (.builtin "object.__class__") = some true)
    (ki_BadWord_BadWord : PySem.W.kitOne K (.ref C_BadWord) (.ref C_BadWord) = some true)
    (ki_BadWord_Beyond : PySem.W.kitOne K (.ref C_BadWord) (.ref C_Beyond) = some false)
    (ki_BadWord_Broken : PySem.W.kitOne K (.ref C_BadWord) (.ref C_Broken) = some false)
    (ki_BadWord_Busy : PySem.W.kitOne K (.ref C_BadWord) (.ref C_Busy) = some false)
    (ki_BadWord_DeedError : PySem.W.kitOne K (.ref C_BadWord) (.ref C_DeedError) = some false)
    (ki_BadWord_Doubled : PySem.W.kitOne K (.ref C_BadWord) (.ref C_Doubled) = some false)
    (ki_BadWord_Fenced : PySem.W.kitOne K (.ref C_BadWord) (.ref C_Fenced) = some false)
    (ki_BadWord_Gap : PySem.W.kitOne K (.ref C_BadWord) (.ref C_Gap) = some false)
    (ki_BadWord_Gone : PySem.W.kitOne K (.ref C_BadWord) (.ref C_Gone) = some false)
    (ki_BadWord_Late : PySem.W.kitOne K (.ref C_BadWord) (.ref C_Late) = some false)
    (ki_BadWord_LoanError : PySem.W.kitOne K (.ref C_BadWord) (.ref C_LoanError) = some false)
    (ki_BadWord_Needed : PySem.W.kitOne K (.ref C_BadWord) (.ref C_Needed) = some false)
    (ki_BadWord_NoDeed : PySem.W.kitOne K (.ref C_BadWord) (.ref C_NoDeed) = some false)
    (ki_BadWord_NoSuch : PySem.W.kitOne K (.ref C_BadWord) (.ref C_NoSuch) = some false)
    (ki_BadWord_NotYours : PySem.W.kitOne K (.ref C_BadWord) (.ref C_NotYours) = some false)
    (ki_BadWord_RowError : PySem.W.kitOne K (.ref C_BadWord) (.ref C_RowError) = some false)
    (ki_BadWord_SenderError : PySem.W.kitOne K (.ref C_BadWord) (.ref C_SenderError) = some false)
    (ki_BadWord_TooOld : PySem.W.kitOne K (.ref C_BadWord) (.ref C_TooOld) = some false)
    (ki_BadWord_Twice : PySem.W.kitOne K (.ref C_BadWord) (.ref C_Twice) = some false)
    (ki_BadWord_ValueError : PySem.W.kitOne K (.ref C_BadWord) (.type "ValueError") = some true)
    (ki_BadWord_WrongKind : PySem.W.kitOne K (.ref C_BadWord) (.ref C_WrongKind) = some false)
    (xx_Beyond : L2.xIn K C_Beyond = true) (kc_Beyond : PySem.W.keepIn K (.ref C_Beyond) = true) (sa_Beyond : PySem.W.findIn K (.ref C_Beyond) "__setattr__" = some (some (.builtin "object.__setattr__"))) (ga_Beyond : PySem.W.findIn K (.ref C_Beyond) "__getattribute__" = some (some (.builtin "BaseException.__getattribute__"))) (gn_Beyond : PySem.W.findIn K (.ref C_Beyond) "__getattr__" = some none) (hd_Beyond : PySem.W.hasDictIn K C_Beyond = true)
    (no_Beyond_place : PySem.W.findIn K (.ref C_Beyond) "place" = some none)
    (no_Beyond_row : PySem.W.findIn K (.ref C_Beyond) "row" = some none)
    (em_Beyond_CellarError : PySem.W.exmOne K (.ref C_Beyond) (.ref C_CellarError) = some true)
    (xq_Beyond : PySem.W.findIn K (.ref C_Beyond) "__class__" = some (some (.builtin "object.__class__")))
    (ki_Beyond_BadWord : PySem.W.kitOne K (.ref C_Beyond) (.ref C_BadWord) = some false)
    (ki_Beyond_Beyond : PySem.W.kitOne K (.ref C_Beyond) (.ref C_Beyond) = some true)
    (ki_Beyond_Broken : PySem.W.kitOne K (.ref C_Beyond) (.ref C_Broken) = some false)
    (ki_Beyond_Busy : PySem.W.kitOne K (.ref C_Beyond) (.ref C_Busy) = some false)
    (ki_Beyond_DeedError : PySem.W.kitOne K (.ref C_Beyond) (.ref C_DeedError) = some false)
    (ki_Beyond_Doubled : PySem.W.kitOne K (.ref C_Beyond) (.ref C_Doubled) = some false)
    (ki_Beyond_Fenced : PySem.W.kitOne K (.ref C_Beyond) (.ref C_Fenced) = some false)
    (ki_Beyond_Gap : PySem.W.kitOne K (.ref C_Beyond) (.ref C_Gap) = some false)
    (ki_Beyond_Gone : PySem.W.kitOne K (.ref C_Beyond) (.ref C_Gone) = some false)
    (ki_Beyond_Late : PySem.W.kitOne K (.ref C_Beyond) (.ref C_Late) = some false)
    (ki_Beyond_LoanError : PySem.W.kitOne K (.ref C_Beyond) (.ref C_LoanError) = some false)
    (ki_Beyond_Needed : PySem.W.kitOne K (.ref C_Beyond) (.ref C_Needed) = some false)
    (ki_Beyond_NoDeed : PySem.W.kitOne K (.ref C_Beyond) (.ref C_NoDeed) = some false)
    (ki_Beyond_NoSuch : PySem.W.kitOne K (.ref C_Beyond) (.ref C_NoSuch) = some false)
    (ki_Beyond_NotYours : PySem.W.kitOne K (.ref C_Beyond) (.ref C_NotYours) = some false)
    (ki_Beyond_RowError : PySem.W.kitOne K (.ref C_Beyond) (.ref C_RowError) = some true)
    (ki_Beyond_SenderError : PySem.W.kitOne K (.ref C_Beyond) (.ref C_SenderError) = some false)
    (ki_Beyond_TooOld : PySem.W.kitOne K (.ref C_Beyond) (.ref C_TooOld) = some false)
    (ki_Beyond_Twice : PySem.W.kitOne K (.ref C_Beyond) (.ref C_Twice) = some false)
    (ki_Beyond_ValueError : PySem.W.kitOne K (.ref C_Beyond) (.type "ValueError") = some true)
    (ki_Beyond_WrongKind : PySem.W.kitOne K (.ref C_Beyond) (.ref C_WrongKind) = some false)
    (xx_Broken : L2.xIn K C_Broken = true) (kc_Broken : PySem.W.keepIn K (.ref C_Broken) = true) (sa_Broken : PySem.W.findIn K (.ref C_Broken) "__setattr__" = some (some (.builtin "object.__setattr__"))) (ga_Broken : PySem.W.findIn K (.ref C_Broken) "__getattribute__" = some (some (.builtin "BaseException.__getattribute__"))) (gn_Broken : PySem.W.findIn K (.ref C_Broken) "__getattr__" = some none) (hd_Broken : PySem.W.hasDictIn K C_Broken = true)
    (no_Broken_line : PySem.W.findIn K (.ref C_Broken) "line" = some none)
    (em_Broken_CellarError : PySem.W.exmOne K (.ref C_Broken) (.ref C_CellarError) = some true)
    (xq_Broken : PySem.W.findIn K (.ref C_Broken) "__class__" = some (some (.builtin "object.__class__")))
    (ki_Broken_BadWord : PySem.W.kitOne K (.ref C_Broken) (.ref C_BadWord) = some false)
    (ki_Broken_Beyond : PySem.W.kitOne K (.ref C_Broken) (.ref C_Beyond) = some false)
    (ki_Broken_Broken : PySem.W.kitOne K (.ref C_Broken) (.ref C_Broken) = some true)
    (ki_Broken_Busy : PySem.W.kitOne K (.ref C_Broken) (.ref C_Busy) = some false)
    (ki_Broken_DeedError : PySem.W.kitOne K (.ref C_Broken) (.ref C_DeedError) = some false)
    (ki_Broken_Doubled : PySem.W.kitOne K (.ref C_Broken) (.ref C_Doubled) = some false)
    (ki_Broken_Fenced : PySem.W.kitOne K (.ref C_Broken) (.ref C_Fenced) = some false)
    (ki_Broken_Gap : PySem.W.kitOne K (.ref C_Broken) (.ref C_Gap) = some false)
    (ki_Broken_Gone : PySem.W.kitOne K (.ref C_Broken) (.ref C_Gone) = some false)
    (ki_Broken_Late : PySem.W.kitOne K (.ref C_Broken) (.ref C_Late) = some false)
    (ki_Broken_LoanError : PySem.W.kitOne K (.ref C_Broken) (.ref C_LoanError) = some false)
    (ki_Broken_Needed : PySem.W.kitOne K (.ref C_Broken) (.ref C_Needed) = some false)
    (ki_Broken_NoDeed : PySem.W.kitOne K (.ref C_Broken) (.ref C_NoDeed) = some false)
    (ki_Broken_NoSuch : PySem.W.kitOne K (.ref C_Broken) (.ref C_NoSuch) = some false)
    (ki_Broken_NotYours : PySem.W.kitOne K (.ref C_Broken) (.ref C_NotYours) = some false)
    (ki_Broken_RowError : PySem.W.kitOne K (.ref C_Broken) (.ref C_RowError) = some false)
    (ki_Broken_SenderError : PySem.W.kitOne K (.ref C_Broken) (.ref C_SenderError) = some false)
    (ki_Broken_TooOld : PySem.W.kitOne K (.ref C_Broken) (.ref C_TooOld) = some false)
    (ki_Broken_Twice : PySem.W.kitOne K (.ref C_Broken) (.ref C_Twice) = some false)
    (ki_Broken_ValueError : PySem.W.kitOne K (.ref C_Broken) (.type "ValueError") = some true)
    (ki_Broken_WrongKind : PySem.W.kitOne K (.ref C_Broken) (.ref C_WrongKind) = some false)
    (xx_Busy : L2.xIn K C_Busy = true) (kc_Busy : PySem.W.keepIn K (.ref C_Busy) = true) (sa_Busy : PySem.W.findIn K (.ref C_Busy) "__setattr__" = some (some (.builtin "object.__setattr__"))) (ga_Busy : PySem.W.findIn K (.ref C_Busy) "__getattribute__" = some (some (.builtin "BaseException.__getattribute__"))) (gn_Busy : PySem.W.findIn K (.ref C_Busy) "__getattr__" = some none) (hd_Busy : PySem.W.hasDictIn K C_Busy = true)
    (no_Busy_deed : PySem.W.findIn K (.ref C_Busy) "deed" = some none)
    (em_Busy_CellarError : PySem.W.exmOne K (.ref C_Busy) (.ref C_CellarError) = some true)
    (xq_Busy : PySem.W.findIn K (.ref C_Busy) "__class__" = some (some (.builtin "object.__class__")))
    (ki_Busy_BadWord : PySem.W.kitOne K (.ref C_Busy) (.ref C_BadWord) = some false)
    (ki_Busy_Beyond : PySem.W.kitOne K (.ref C_Busy) (.ref C_Beyond) = some false)
    (ki_Busy_Broken : PySem.W.kitOne K (.ref C_Busy) (.ref C_Broken) = some false)
    (ki_Busy_Busy : PySem.W.kitOne K (.ref C_Busy) (.ref C_Busy) = some true)
    (ki_Busy_DeedError : PySem.W.kitOne K (.ref C_Busy) (.ref C_DeedError) = some true)
    (ki_Busy_Doubled : PySem.W.kitOne K (.ref C_Busy) (.ref C_Doubled) = some false)
    (ki_Busy_Fenced : PySem.W.kitOne K (.ref C_Busy) (.ref C_Fenced) = some false)
    (ki_Busy_Gap : PySem.W.kitOne K (.ref C_Busy) (.ref C_Gap) = some false)
    (ki_Busy_Gone : PySem.W.kitOne K (.ref C_Busy) (.ref C_Gone) = some false)
    (ki_Busy_Late : PySem.W.kitOne K (.ref C_Busy) (.ref C_Late) = some false)
    (ki_Busy_LoanError : PySem.W.kitOne K (.ref C_Busy) (.ref C_LoanError) = some false)
    (ki_Busy_Needed : PySem.W.kitOne K (.ref C_Busy) (.ref C_Needed) = some false)
    (ki_Busy_NoDeed : PySem.W.kitOne K (.ref C_Busy) (.ref C_NoDeed) = some false)
    (ki_Busy_NoSuch : PySem.W.kitOne K (.ref C_Busy) (.ref C_NoSuch) = some false)
    (ki_Busy_NotYours : PySem.W.kitOne K (.ref C_Busy) (.ref C_NotYours) = some false)
    (ki_Busy_RowError : PySem.W.kitOne K (.ref C_Busy) (.ref C_RowError) = some false)
    (ki_Busy_SenderError : PySem.W.kitOne K (.ref C_Busy) (.ref C_SenderError) = some false)
    (ki_Busy_TooOld : PySem.W.kitOne K (.ref C_Busy) (.ref C_TooOld) = some false)
    (ki_Busy_Twice : PySem.W.kitOne K (.ref C_Busy) (.ref C_Twice) = some false)
    (ki_Busy_ValueError : PySem.W.kitOne K (.ref C_Busy) (.type "ValueError") = some true)
    (ki_Busy_WrongKind : PySem.W.kitOne K (.ref C_Busy) (.ref C_WrongKind) = some false)
    (xx_Doubled : L2.xIn K C_Doubled = true) (kc_Doubled : PySem.W.keepIn K (.ref C_Doubled) = true) (sa_Doubled : PySem.W.findIn K (.ref C_Doubled) "__setattr__" = some (some (.builtin "object.__setattr__"))) (ga_Doubled : PySem.W.findIn K (.ref C_Doubled) "__getattribute__" = some (some (.builtin "BaseException.__getattribute__"))) (gn_Doubled : PySem.W.findIn K (.ref C_Doubled) "__getattr__" = some none) (hd_Doubled : PySem.W.hasDictIn K C_Doubled = true)
    (no_Doubled_name : PySem.W.findIn K (.ref C_Doubled) "name" = some none)
    (em_Doubled_CellarError : PySem.W.exmOne K (.ref C_Doubled) (.ref C_CellarError) = some true)
    (xq_Doubled : PySem.W.findIn K (.ref C_Doubled) "__class__" = some (some (.builtin "object.__class__")))
    (ki_Doubled_BadWord : PySem.W.kitOne K (.ref C_Doubled) (.ref C_BadWord) = some false)
    (ki_Doubled_Beyond : PySem.W.kitOne K (.ref C_Doubled) (.ref C_Beyond) = some false)
    (ki_Doubled_Broken : PySem.W.kitOne K (.ref C_Doubled) (.ref C_Broken) = some false)
    (ki_Doubled_Busy : PySem.W.kitOne K (.ref C_Doubled) (.ref C_Busy) = some false)
    (ki_Doubled_DeedError : PySem.W.kitOne K (.ref C_Doubled) (.ref C_DeedError) = some false)
    (ki_Doubled_Doubled : PySem.W.kitOne K (.ref C_Doubled) (.ref C_Doubled) = some true)
    (ki_Doubled_Fenced : PySem.W.kitOne K (.ref C_Doubled) (.ref C_Fenced) = some false)
    (ki_Doubled_Gap : PySem.W.kitOne K (.ref C_Doubled) (.ref C_Gap) = some false)
    (ki_Doubled_Gone : PySem.W.kitOne K (.ref C_Doubled) (.ref C_Gone) = some false)
    (ki_Doubled_Late : PySem.W.kitOne K (.ref C_Doubled) (.ref C_Late) = some false)
    (ki_Doubled_LoanError : PySem.W.kitOne K (.ref C_Doubled) (.ref C_LoanError) = some false)
    (ki_Doubled_Needed : PySem.W.kitOne K (.ref C_Doubled) (.ref C_Needed) = some false)
    (ki_Doubled_NoDeed : PySem.W.kitOne K (.ref C_Doubled) (.ref C_NoDeed) = some false)
    (ki_Doubled_NoSuch : PySem.W.kitOne K (.ref C_Doubled) (.ref C_NoSuch) = some false)
    (ki_Doubled_NotYours : PySem.W.kitOne K (.ref C_Doubled) (.ref C_NotYours) = some false)
    (ki_Doubled_RowError : PySem.W.kitOne K (.ref C_Doubled) (.ref C_RowError) = some false)
    (ki_Doubled_SenderError : PySem.W.kitOne K (.ref C_Doubled) (.ref C_SenderError) = some false)
    (ki_Doubled_TooOld : PySem.W.kitOne K (.ref C_Doubled) (.ref C_TooOld) = some false)
    (ki_Doubled_Twice : PySem.W.kitOne K (.ref C_Doubled) (.ref C_Twice) = some false)
    (ki_Doubled_ValueError : PySem.W.kitOne K (.ref C_Doubled) (.type "ValueError") = some true)
    (ki_Doubled_WrongKind : PySem.W.kitOne K (.ref C_Doubled) (.ref C_WrongKind) = some false)
    (xx_Fenced : L2.xIn K C_Fenced = true) (kc_Fenced : PySem.W.keepIn K (.ref C_Fenced) = true) (sa_Fenced : PySem.W.findIn K (.ref C_Fenced) "__setattr__" = some (some (.builtin "object.__setattr__"))) (ga_Fenced : PySem.W.findIn K (.ref C_Fenced) "__getattribute__" = some (some (.builtin "BaseException.__getattribute__"))) (gn_Fenced : PySem.W.findIn K (.ref C_Fenced) "__getattr__" = some none) (hd_Fenced : PySem.W.hasDictIn K C_Fenced = true)
    (no_Fenced_life : PySem.W.findIn K (.ref C_Fenced) "life" = some none)
    (em_Fenced_CellarError : PySem.W.exmOne K (.ref C_Fenced) (.ref C_CellarError) = some true)
    (xq_Fenced : PySem.W.findIn K (.ref C_Fenced) "__class__" = some (some (.builtin "object.__class__")))
    (ki_Fenced_BadWord : PySem.W.kitOne K (.ref C_Fenced) (.ref C_BadWord) = some false)
    (ki_Fenced_Beyond : PySem.W.kitOne K (.ref C_Fenced) (.ref C_Beyond) = some false)
    (ki_Fenced_Broken : PySem.W.kitOne K (.ref C_Fenced) (.ref C_Broken) = some false)
    (ki_Fenced_Busy : PySem.W.kitOne K (.ref C_Fenced) (.ref C_Busy) = some false)
    (ki_Fenced_DeedError : PySem.W.kitOne K (.ref C_Fenced) (.ref C_DeedError) = some false)
    (ki_Fenced_Doubled : PySem.W.kitOne K (.ref C_Fenced) (.ref C_Doubled) = some false)
    (ki_Fenced_Fenced : PySem.W.kitOne K (.ref C_Fenced) (.ref C_Fenced) = some true)
    (ki_Fenced_Gap : PySem.W.kitOne K (.ref C_Fenced) (.ref C_Gap) = some false)
    (ki_Fenced_Gone : PySem.W.kitOne K (.ref C_Fenced) (.ref C_Gone) = some false)
    (ki_Fenced_Late : PySem.W.kitOne K (.ref C_Fenced) (.ref C_Late) = some false)
    (ki_Fenced_LoanError : PySem.W.kitOne K (.ref C_Fenced) (.ref C_LoanError) = some false)
    (ki_Fenced_Needed : PySem.W.kitOne K (.ref C_Fenced) (.ref C_Needed) = some false)
    (ki_Fenced_NoDeed : PySem.W.kitOne K (.ref C_Fenced) (.ref C_NoDeed) = some false)
    (ki_Fenced_NoSuch : PySem.W.kitOne K (.ref C_Fenced) (.ref C_NoSuch) = some false)
    (ki_Fenced_NotYours : PySem.W.kitOne K (.ref C_Fenced) (.ref C_NotYours) = some false)
    (ki_Fenced_RowError : PySem.W.kitOne K (.ref C_Fenced) (.ref C_RowError) = some false)
    (ki_Fenced_SenderError : PySem.W.kitOne K (.ref C_Fenced) (.ref C_SenderError) = some true)
    (ki_Fenced_TooOld : PySem.W.kitOne K (.ref C_Fenced) (.ref C_TooOld) = some false)
    (ki_Fenced_Twice : PySem.W.kitOne K (.ref C_Fenced) (.ref C_Twice) = some false)
    (ki_Fenced_ValueError : PySem.W.kitOne K (.ref C_Fenced) (.type "ValueError") = some true)
    (ki_Fenced_WrongKind : PySem.W.kitOne K (.ref C_Fenced) (.ref C_WrongKind) = some false)
    (xx_Gap : L2.xIn K C_Gap = true) (kc_Gap : PySem.W.keepIn K (.ref C_Gap) = true) (sa_Gap : PySem.W.findIn K (.ref C_Gap) "__setattr__" = some (some (.builtin "object.__setattr__"))) (ga_Gap : PySem.W.findIn K (.ref C_Gap) "__getattribute__" = some (some (.builtin "BaseException.__getattribute__"))) (gn_Gap : PySem.W.findIn K (.ref C_Gap) "__getattr__" = some none) (hd_Gap : PySem.W.hasDictIn K C_Gap = true)
    (no_Gap_due : PySem.W.findIn K (.ref C_Gap) "due" = some none)
    (em_Gap_CellarError : PySem.W.exmOne K (.ref C_Gap) (.ref C_CellarError) = some true)
    (xq_Gap : PySem.W.findIn K (.ref C_Gap) "__class__" = some (some (.builtin "object.__class__")))
    (ki_Gap_BadWord : PySem.W.kitOne K (.ref C_Gap) (.ref C_BadWord) = some false)
    (ki_Gap_Beyond : PySem.W.kitOne K (.ref C_Gap) (.ref C_Beyond) = some false)
    (ki_Gap_Broken : PySem.W.kitOne K (.ref C_Gap) (.ref C_Broken) = some false)
    (ki_Gap_Busy : PySem.W.kitOne K (.ref C_Gap) (.ref C_Busy) = some false)
    (ki_Gap_DeedError : PySem.W.kitOne K (.ref C_Gap) (.ref C_DeedError) = some false)
    (ki_Gap_Doubled : PySem.W.kitOne K (.ref C_Gap) (.ref C_Doubled) = some false)
    (ki_Gap_Fenced : PySem.W.kitOne K (.ref C_Gap) (.ref C_Fenced) = some false)
    (ki_Gap_Gap : PySem.W.kitOne K (.ref C_Gap) (.ref C_Gap) = some true)
    (ki_Gap_Gone : PySem.W.kitOne K (.ref C_Gap) (.ref C_Gone) = some false)
    (ki_Gap_Late : PySem.W.kitOne K (.ref C_Gap) (.ref C_Late) = some false)
    (ki_Gap_LoanError : PySem.W.kitOne K (.ref C_Gap) (.ref C_LoanError) = some false)
    (ki_Gap_Needed : PySem.W.kitOne K (.ref C_Gap) (.ref C_Needed) = some false)
    (ki_Gap_NoDeed : PySem.W.kitOne K (.ref C_Gap) (.ref C_NoDeed) = some false)
    (ki_Gap_NoSuch : PySem.W.kitOne K (.ref C_Gap) (.ref C_NoSuch) = some false)
    (ki_Gap_NotYours : PySem.W.kitOne K (.ref C_Gap) (.ref C_NotYours) = some false)
    (ki_Gap_RowError : PySem.W.kitOne K (.ref C_Gap) (.ref C_RowError) = some false)
    (ki_Gap_SenderError : PySem.W.kitOne K (.ref C_Gap) (.ref C_SenderError) = some true)
    (ki_Gap_TooOld : PySem.W.kitOne K (.ref C_Gap) (.ref C_TooOld) = some false)
    (ki_Gap_Twice : PySem.W.kitOne K (.ref C_Gap) (.ref C_Twice) = some false)
    (ki_Gap_ValueError : PySem.W.kitOne K (.ref C_Gap) (.type "ValueError") = some true)
    (ki_Gap_WrongKind : PySem.W.kitOne K (.ref C_Gap) (.ref C_WrongKind) = some false)
    (xx_Gone : L2.xIn K C_Gone = true) (kc_Gone : PySem.W.keepIn K (.ref C_Gone) = true) (sa_Gone : PySem.W.findIn K (.ref C_Gone) "__setattr__" = some (some (.builtin "object.__setattr__"))) (ga_Gone : PySem.W.findIn K (.ref C_Gone) "__getattribute__" = some (some (.builtin "BaseException.__getattribute__"))) (gn_Gone : PySem.W.findIn K (.ref C_Gone) "__getattr__" = some none) (hd_Gone : PySem.W.hasDictIn K C_Gone = true)
    (no_Gone_place : PySem.W.findIn K (.ref C_Gone) "place" = some none)
    (no_Gone_row : PySem.W.findIn K (.ref C_Gone) "row" = some none)
    (em_Gone_CellarError : PySem.W.exmOne K (.ref C_Gone) (.ref C_CellarError) = some true)
    (xq_Gone : PySem.W.findIn K (.ref C_Gone) "__class__" = some (some (.builtin "object.__class__")))
    (ki_Gone_BadWord : PySem.W.kitOne K (.ref C_Gone) (.ref C_BadWord) = some false)
    (ki_Gone_Beyond : PySem.W.kitOne K (.ref C_Gone) (.ref C_Beyond) = some false)
    (ki_Gone_Broken : PySem.W.kitOne K (.ref C_Gone) (.ref C_Broken) = some false)
    (ki_Gone_Busy : PySem.W.kitOne K (.ref C_Gone) (.ref C_Busy) = some false)
    (ki_Gone_DeedError : PySem.W.kitOne K (.ref C_Gone) (.ref C_DeedError) = some false)
    (ki_Gone_Doubled : PySem.W.kitOne K (.ref C_Gone) (.ref C_Doubled) = some false)
    (ki_Gone_Fenced : PySem.W.kitOne K (.ref C_Gone) (.ref C_Fenced) = some false)
    (ki_Gone_Gap : PySem.W.kitOne K (.ref C_Gone) (.ref C_Gap) = some false)
    (ki_Gone_Gone : PySem.W.kitOne K (.ref C_Gone) (.ref C_Gone) = some true)
    (ki_Gone_Late : PySem.W.kitOne K (.ref C_Gone) (.ref C_Late) = some false)
    (ki_Gone_LoanError : PySem.W.kitOne K (.ref C_Gone) (.ref C_LoanError) = some false)
    (ki_Gone_Needed : PySem.W.kitOne K (.ref C_Gone) (.ref C_Needed) = some false)
    (ki_Gone_NoDeed : PySem.W.kitOne K (.ref C_Gone) (.ref C_NoDeed) = some false)
    (ki_Gone_NoSuch : PySem.W.kitOne K (.ref C_Gone) (.ref C_NoSuch) = some false)
    (ki_Gone_NotYours : PySem.W.kitOne K (.ref C_Gone) (.ref C_NotYours) = some false)
    (ki_Gone_RowError : PySem.W.kitOne K (.ref C_Gone) (.ref C_RowError) = some true)
    (ki_Gone_SenderError : PySem.W.kitOne K (.ref C_Gone) (.ref C_SenderError) = some false)
    (ki_Gone_TooOld : PySem.W.kitOne K (.ref C_Gone) (.ref C_TooOld) = some false)
    (ki_Gone_Twice : PySem.W.kitOne K (.ref C_Gone) (.ref C_Twice) = some false)
    (ki_Gone_ValueError : PySem.W.kitOne K (.ref C_Gone) (.type "ValueError") = some true)
    (ki_Gone_WrongKind : PySem.W.kitOne K (.ref C_Gone) (.ref C_WrongKind) = some false)
    (xx_Late : L2.xIn K C_Late = true) (kc_Late : PySem.W.keepIn K (.ref C_Late) = true) (sa_Late : PySem.W.findIn K (.ref C_Late) "__setattr__" = some (some (.builtin "object.__setattr__"))) (ga_Late : PySem.W.findIn K (.ref C_Late) "__getattribute__" = some (some (.builtin "BaseException.__getattribute__"))) (gn_Late : PySem.W.findIn K (.ref C_Late) "__getattr__" = some none) (hd_Late : PySem.W.hasDictIn K C_Late = true)
    (no_Late_loan : PySem.W.findIn K (.ref C_Late) "loan" = some none)
    (no_Late_row : PySem.W.findIn K (.ref C_Late) "row" = some none)
    (em_Late_CellarError : PySem.W.exmOne K (.ref C_Late) (.ref C_CellarError) = some true)
    (xq_Late : PySem.W.findIn K (.ref C_Late) "__class__" = some (some (.builtin "object.__class__")))
    (ki_Late_BadWord : PySem.W.kitOne K (.ref C_Late) (.ref C_BadWord) = some false)
    (ki_Late_Beyond : PySem.W.kitOne K (.ref C_Late) (.ref C_Beyond) = some false)
    (ki_Late_Broken : PySem.W.kitOne K (.ref C_Late) (.ref C_Broken) = some false)
    (ki_Late_Busy : PySem.W.kitOne K (.ref C_Late) (.ref C_Busy) = some false)
    (ki_Late_DeedError : PySem.W.kitOne K (.ref C_Late) (.ref C_DeedError) = some false)
    (ki_Late_Doubled : PySem.W.kitOne K (.ref C_Late) (.ref C_Doubled) = some false)
    (ki_Late_Fenced : PySem.W.kitOne K (.ref C_Late) (.ref C_Fenced) = some false)
    (ki_Late_Gap : PySem.W.kitOne K (.ref C_Late) (.ref C_Gap) = some false)
    (ki_Late_Gone : PySem.W.kitOne K (.ref C_Late) (.ref C_Gone) = some false)
    (ki_Late_Late : PySem.W.kitOne K (.ref C_Late) (.ref C_Late) = some true)
    (ki_Late_LoanError : PySem.W.kitOne K (.ref C_Late) (.ref C_LoanError) = some true)
    (ki_Late_Needed : PySem.W.kitOne K (.ref C_Late) (.ref C_Needed) = some false)
    (ki_Late_NoDeed : PySem.W.kitOne K (.ref C_Late) (.ref C_NoDeed) = some false)
    (ki_Late_NoSuch : PySem.W.kitOne K (.ref C_Late) (.ref C_NoSuch) = some false)
    (ki_Late_NotYours : PySem.W.kitOne K (.ref C_Late) (.ref C_NotYours) = some false)
    (ki_Late_RowError : PySem.W.kitOne K (.ref C_Late) (.ref C_RowError) = some false)
    (ki_Late_SenderError : PySem.W.kitOne K (.ref C_Late) (.ref C_SenderError) = some false)
    (ki_Late_TooOld : PySem.W.kitOne K (.ref C_Late) (.ref C_TooOld) = some false)
    (ki_Late_Twice : PySem.W.kitOne K (.ref C_Late) (.ref C_Twice) = some false)
    (ki_Late_ValueError : PySem.W.kitOne K (.ref C_Late) (.type "ValueError") = some true)
    (ki_Late_WrongKind : PySem.W.kitOne K (.ref C_Late) (.ref C_WrongKind) = some false)
    (xx_Needed : L2.xIn K C_Needed = true) (kc_Needed : PySem.W.keepIn K (.ref C_Needed) = true) (sa_Needed : PySem.W.findIn K (.ref C_Needed) "__setattr__" = some (some (.builtin "object.__setattr__"))) (ga_Needed : PySem.W.findIn K (.ref C_Needed) "__getattribute__" = some (some (.builtin "BaseException.__getattribute__"))) (gn_Needed : PySem.W.findIn K (.ref C_Needed) "__getattr__" = some none) (hd_Needed : PySem.W.hasDictIn K C_Needed = true)
    (no_Needed_place : PySem.W.findIn K (.ref C_Needed) "place" = some none)
    (no_Needed_row : PySem.W.findIn K (.ref C_Needed) "row" = some none)
    (em_Needed_CellarError : PySem.W.exmOne K (.ref C_Needed) (.ref C_CellarError) = some true)
    (xq_Needed : PySem.W.findIn K (.ref C_Needed) "__class__" = some (some (.builtin "object.__class__")))
    (ki_Needed_BadWord : PySem.W.kitOne K (.ref C_Needed) (.ref C_BadWord) = some false)
    (ki_Needed_Beyond : PySem.W.kitOne K (.ref C_Needed) (.ref C_Beyond) = some false)
    (ki_Needed_Broken : PySem.W.kitOne K (.ref C_Needed) (.ref C_Broken) = some false)
    (ki_Needed_Busy : PySem.W.kitOne K (.ref C_Needed) (.ref C_Busy) = some false)
    (ki_Needed_DeedError : PySem.W.kitOne K (.ref C_Needed) (.ref C_DeedError) = some false)
    (ki_Needed_Doubled : PySem.W.kitOne K (.ref C_Needed) (.ref C_Doubled) = some false)
    (ki_Needed_Fenced : PySem.W.kitOne K (.ref C_Needed) (.ref C_Fenced) = some false)
    (ki_Needed_Gap : PySem.W.kitOne K (.ref C_Needed) (.ref C_Gap) = some false)
    (ki_Needed_Gone : PySem.W.kitOne K (.ref C_Needed) (.ref C_Gone) = some false)
    (ki_Needed_Late : PySem.W.kitOne K (.ref C_Needed) (.ref C_Late) = some false)
    (ki_Needed_LoanError : PySem.W.kitOne K (.ref C_Needed) (.ref C_LoanError) = some false)
    (ki_Needed_Needed : PySem.W.kitOne K (.ref C_Needed) (.ref C_Needed) = some true)
    (ki_Needed_NoDeed : PySem.W.kitOne K (.ref C_Needed) (.ref C_NoDeed) = some false)
    (ki_Needed_NoSuch : PySem.W.kitOne K (.ref C_Needed) (.ref C_NoSuch) = some false)
    (ki_Needed_NotYours : PySem.W.kitOne K (.ref C_Needed) (.ref C_NotYours) = some false)
    (ki_Needed_RowError : PySem.W.kitOne K (.ref C_Needed) (.ref C_RowError) = some true)
    (ki_Needed_SenderError : PySem.W.kitOne K (.ref C_Needed) (.ref C_SenderError) = some false)
    (ki_Needed_TooOld : PySem.W.kitOne K (.ref C_Needed) (.ref C_TooOld) = some false)
    (ki_Needed_Twice : PySem.W.kitOne K (.ref C_Needed) (.ref C_Twice) = some false)
    (ki_Needed_ValueError : PySem.W.kitOne K (.ref C_Needed) (.type "ValueError") = some true)
    (ki_Needed_WrongKind : PySem.W.kitOne K (.ref C_Needed) (.ref C_WrongKind) = some false)
    (xx_NoDeed : L2.xIn K C_NoDeed = true) (kc_NoDeed : PySem.W.keepIn K (.ref C_NoDeed) = true) (sa_NoDeed : PySem.W.findIn K (.ref C_NoDeed) "__setattr__" = some (some (.builtin "object.__setattr__"))) (ga_NoDeed : PySem.W.findIn K (.ref C_NoDeed) "__getattribute__" = some (some (.builtin "BaseException.__getattribute__"))) (gn_NoDeed : PySem.W.findIn K (.ref C_NoDeed) "__getattr__" = some none) (hd_NoDeed : PySem.W.hasDictIn K C_NoDeed = true)
    (no_NoDeed_name : PySem.W.findIn K (.ref C_NoDeed) "name" = some none)
    (em_NoDeed_CellarError : PySem.W.exmOne K (.ref C_NoDeed) (.ref C_CellarError) = some true)
    (xq_NoDeed : PySem.W.findIn K (.ref C_NoDeed) "__class__" = some (some (.builtin "object.__class__")))
    (ki_NoDeed_BadWord : PySem.W.kitOne K (.ref C_NoDeed) (.ref C_BadWord) = some false)
    (ki_NoDeed_Beyond : PySem.W.kitOne K (.ref C_NoDeed) (.ref C_Beyond) = some false)
    (ki_NoDeed_Broken : PySem.W.kitOne K (.ref C_NoDeed) (.ref C_Broken) = some false)
    (ki_NoDeed_Busy : PySem.W.kitOne K (.ref C_NoDeed) (.ref C_Busy) = some false)
    (ki_NoDeed_DeedError : PySem.W.kitOne K (.ref C_NoDeed) (.ref C_DeedError) = some true)
    (ki_NoDeed_Doubled : PySem.W.kitOne K (.ref C_NoDeed) (.ref C_Doubled) = some false)
    (ki_NoDeed_Fenced : PySem.W.kitOne K (.ref C_NoDeed) (.ref C_Fenced) = some false)
    (ki_NoDeed_Gap : PySem.W.kitOne K (.ref C_NoDeed) (.ref C_Gap) = some false)
    (ki_NoDeed_Gone : PySem.W.kitOne K (.ref C_NoDeed) (.ref C_Gone) = some false)
    (ki_NoDeed_Late : PySem.W.kitOne K (.ref C_NoDeed) (.ref C_Late) = some false)
    (ki_NoDeed_LoanError : PySem.W.kitOne K (.ref C_NoDeed) (.ref C_LoanError) = some false)
    (ki_NoDeed_Needed : PySem.W.kitOne K (.ref C_NoDeed) (.ref C_Needed) = some false)
    (ki_NoDeed_NoDeed : PySem.W.kitOne K (.ref C_NoDeed) (.ref C_NoDeed) = some true)
    (ki_NoDeed_NoSuch : PySem.W.kitOne K (.ref C_NoDeed) (.ref C_NoSuch) = some false)
    (ki_NoDeed_NotYours : PySem.W.kitOne K (.ref C_NoDeed) (.ref C_NotYours) = some false)
    (ki_NoDeed_RowError : PySem.W.kitOne K (.ref C_NoDeed) (.ref C_RowError) = some false)
    (ki_NoDeed_SenderError : PySem.W.kitOne K (.ref C_NoDeed) (.ref C_SenderError) = some false)
    (ki_NoDeed_TooOld : PySem.W.kitOne K (.ref C_NoDeed) (.ref C_TooOld) = some false)
    (ki_NoDeed_Twice : PySem.W.kitOne K (.ref C_NoDeed) (.ref C_Twice) = some false)
    (ki_NoDeed_ValueError : PySem.W.kitOne K (.ref C_NoDeed) (.type "ValueError") = some true)
    (ki_NoDeed_WrongKind : PySem.W.kitOne K (.ref C_NoDeed) (.ref C_WrongKind) = some false)
    (xx_NoSuch : L2.xIn K C_NoSuch = true) (kc_NoSuch : PySem.W.keepIn K (.ref C_NoSuch) = true) (sa_NoSuch : PySem.W.findIn K (.ref C_NoSuch) "__setattr__" = some (some (.builtin "object.__setattr__"))) (ga_NoSuch : PySem.W.findIn K (.ref C_NoSuch) "__getattribute__" = some (some (.builtin "BaseException.__getattribute__"))) (gn_NoSuch : PySem.W.findIn K (.ref C_NoSuch) "__getattr__" = some none) (hd_NoSuch : PySem.W.hasDictIn K C_NoSuch = true)
    (no_NoSuch_name : PySem.W.findIn K (.ref C_NoSuch) "name" = some none)
    (em_NoSuch_CellarError : PySem.W.exmOne K (.ref C_NoSuch) (.ref C_CellarError) = some true)
    (xq_NoSuch : PySem.W.findIn K (.ref C_NoSuch) "__class__" = some (some (.builtin "object.__class__")))
    (ki_NoSuch_BadWord : PySem.W.kitOne K (.ref C_NoSuch) (.ref C_BadWord) = some false)
    (ki_NoSuch_Beyond : PySem.W.kitOne K (.ref C_NoSuch) (.ref C_Beyond) = some false)
    (ki_NoSuch_Broken : PySem.W.kitOne K (.ref C_NoSuch) (.ref C_Broken) = some false)
    (ki_NoSuch_Busy : PySem.W.kitOne K (.ref C_NoSuch) (.ref C_Busy) = some false)
    (ki_NoSuch_DeedError : PySem.W.kitOne K (.ref C_NoSuch) (.ref C_DeedError) = some false)
    (ki_NoSuch_Doubled : PySem.W.kitOne K (.ref C_NoSuch) (.ref C_Doubled) = some false)
    (ki_NoSuch_Fenced : PySem.W.kitOne K (.ref C_NoSuch) (.ref C_Fenced) = some false)
    (ki_NoSuch_Gap : PySem.W.kitOne K (.ref C_NoSuch) (.ref C_Gap) = some false)
    (ki_NoSuch_Gone : PySem.W.kitOne K (.ref C_NoSuch) (.ref C_Gone) = some false)
    (ki_NoSuch_Late : PySem.W.kitOne K (.ref C_NoSuch) (.ref C_Late) = some false)
    (ki_NoSuch_LoanError : PySem.W.kitOne K (.ref C_NoSuch) (.ref C_LoanError) = some false)
    (ki_NoSuch_Needed : PySem.W.kitOne K (.ref C_NoSuch) (.ref C_Needed) = some false)
    (ki_NoSuch_NoDeed : PySem.W.kitOne K (.ref C_NoSuch) (.ref C_NoDeed) = some false)
    (ki_NoSuch_NoSuch : PySem.W.kitOne K (.ref C_NoSuch) (.ref C_NoSuch) = some true)
    (ki_NoSuch_NotYours : PySem.W.kitOne K (.ref C_NoSuch) (.ref C_NotYours) = some false)
    (ki_NoSuch_RowError : PySem.W.kitOne K (.ref C_NoSuch) (.ref C_RowError) = some false)
    (ki_NoSuch_SenderError : PySem.W.kitOne K (.ref C_NoSuch) (.ref C_SenderError) = some false)
    (ki_NoSuch_TooOld : PySem.W.kitOne K (.ref C_NoSuch) (.ref C_TooOld) = some false)
    (ki_NoSuch_Twice : PySem.W.kitOne K (.ref C_NoSuch) (.ref C_Twice) = some false)
    (ki_NoSuch_ValueError : PySem.W.kitOne K (.ref C_NoSuch) (.type "ValueError") = some true)
    (ki_NoSuch_WrongKind : PySem.W.kitOne K (.ref C_NoSuch) (.ref C_WrongKind) = some false)
    (xx_NotYours : L2.xIn K C_NotYours = true) (kc_NotYours : PySem.W.keepIn K (.ref C_NotYours) = true) (sa_NotYours : PySem.W.findIn K (.ref C_NotYours) "__setattr__" = some (some (.builtin "object.__setattr__"))) (ga_NotYours : PySem.W.findIn K (.ref C_NotYours) "__getattribute__" = some (some (.builtin "BaseException.__getattribute__"))) (gn_NotYours : PySem.W.findIn K (.ref C_NotYours) "__getattr__" = some none) (hd_NotYours : PySem.W.hasDictIn K C_NotYours = true)
    (no_NotYours_owner : PySem.W.findIn K (.ref C_NotYours) "owner" = some none)
    (no_NotYours_row : PySem.W.findIn K (.ref C_NotYours) "row" = some none)
    (em_NotYours_CellarError : PySem.W.exmOne K (.ref C_NotYours) (.ref C_CellarError) = some true)
    (xq_NotYours : PySem.W.findIn K (.ref C_NotYours) "__class__" = some (some (.builtin "object.__class__")))
    (ki_NotYours_BadWord : PySem.W.kitOne K (.ref C_NotYours) (.ref C_BadWord) = some false)
    (ki_NotYours_Beyond : PySem.W.kitOne K (.ref C_NotYours) (.ref C_Beyond) = some false)
    (ki_NotYours_Broken : PySem.W.kitOne K (.ref C_NotYours) (.ref C_Broken) = some false)
    (ki_NotYours_Busy : PySem.W.kitOne K (.ref C_NotYours) (.ref C_Busy) = some false)
    (ki_NotYours_DeedError : PySem.W.kitOne K (.ref C_NotYours) (.ref C_DeedError) = some false)
    (ki_NotYours_Doubled : PySem.W.kitOne K (.ref C_NotYours) (.ref C_Doubled) = some false)
    (ki_NotYours_Fenced : PySem.W.kitOne K (.ref C_NotYours) (.ref C_Fenced) = some false)
    (ki_NotYours_Gap : PySem.W.kitOne K (.ref C_NotYours) (.ref C_Gap) = some false)
    (ki_NotYours_Gone : PySem.W.kitOne K (.ref C_NotYours) (.ref C_Gone) = some false)
    (ki_NotYours_Late : PySem.W.kitOne K (.ref C_NotYours) (.ref C_Late) = some false)
    (ki_NotYours_LoanError : PySem.W.kitOne K (.ref C_NotYours) (.ref C_LoanError) = some true)
    (ki_NotYours_Needed : PySem.W.kitOne K (.ref C_NotYours) (.ref C_Needed) = some false)
    (ki_NotYours_NoDeed : PySem.W.kitOne K (.ref C_NotYours) (.ref C_NoDeed) = some false)
    (ki_NotYours_NoSuch : PySem.W.kitOne K (.ref C_NotYours) (.ref C_NoSuch) = some false)
    (ki_NotYours_NotYours : PySem.W.kitOne K (.ref C_NotYours) (.ref C_NotYours) = some true)
    (ki_NotYours_RowError : PySem.W.kitOne K (.ref C_NotYours) (.ref C_RowError) = some false)
    (ki_NotYours_SenderError : PySem.W.kitOne K (.ref C_NotYours) (.ref C_SenderError) = some false)
    (ki_NotYours_TooOld : PySem.W.kitOne K (.ref C_NotYours) (.ref C_TooOld) = some false)
    (ki_NotYours_Twice : PySem.W.kitOne K (.ref C_NotYours) (.ref C_Twice) = some false)
    (ki_NotYours_ValueError : PySem.W.kitOne K (.ref C_NotYours) (.type "ValueError") = some true)
    (ki_NotYours_WrongKind : PySem.W.kitOne K (.ref C_NotYours) (.ref C_WrongKind) = some false)
    (xx_TooOld : L2.xIn K C_TooOld = true) (kc_TooOld : PySem.W.keepIn K (.ref C_TooOld) = true) (sa_TooOld : PySem.W.findIn K (.ref C_TooOld) "__setattr__" = some (some (.builtin "object.__setattr__"))) (ga_TooOld : PySem.W.findIn K (.ref C_TooOld) "__getattribute__" = some (some (.builtin "BaseException.__getattribute__"))) (gn_TooOld : PySem.W.findIn K (.ref C_TooOld) "__getattr__" = some none) (hd_TooOld : PySem.W.hasDictIn K C_TooOld = true)
    (no_TooOld_number : PySem.W.findIn K (.ref C_TooOld) "number" = some none)
    (em_TooOld_CellarError : PySem.W.exmOne K (.ref C_TooOld) (.ref C_CellarError) = some true)
    (xq_TooOld : PySem.W.findIn K (.ref C_TooOld) "__class__" = some (some (.builtin "object.__class__")))
    (ki_TooOld_BadWord : PySem.W.kitOne K (.ref C_TooOld) (.ref C_BadWord) = some false)
    (ki_TooOld_Beyond : PySem.W.kitOne K (.ref C_TooOld) (.ref C_Beyond) = some false)
    (ki_TooOld_Broken : PySem.W.kitOne K (.ref C_TooOld) (.ref C_Broken) = some false)
    (ki_TooOld_Busy : PySem.W.kitOne K (.ref C_TooOld) (.ref C_Busy) = some false)
    (ki_TooOld_DeedError : PySem.W.kitOne K (.ref C_TooOld) (.ref C_DeedError) = some false)
    (ki_TooOld_Doubled : PySem.W.kitOne K (.ref C_TooOld) (.ref C_Doubled) = some false)
    (ki_TooOld_Fenced : PySem.W.kitOne K (.ref C_TooOld) (.ref C_Fenced) = some false)
    (ki_TooOld_Gap : PySem.W.kitOne K (.ref C_TooOld) (.ref C_Gap) = some false)
    (ki_TooOld_Gone : PySem.W.kitOne K (.ref C_TooOld) (.ref C_Gone) = some false)
    (ki_TooOld_Late : PySem.W.kitOne K (.ref C_TooOld) (.ref C_Late) = some false)
    (ki_TooOld_LoanError : PySem.W.kitOne K (.ref C_TooOld) (.ref C_LoanError) = some false)
    (ki_TooOld_Needed : PySem.W.kitOne K (.ref C_TooOld) (.ref C_Needed) = some false)
    (ki_TooOld_NoDeed : PySem.W.kitOne K (.ref C_TooOld) (.ref C_NoDeed) = some false)
    (ki_TooOld_NoSuch : PySem.W.kitOne K (.ref C_TooOld) (.ref C_NoSuch) = some false)
    (ki_TooOld_NotYours : PySem.W.kitOne K (.ref C_TooOld) (.ref C_NotYours) = some false)
    (ki_TooOld_RowError : PySem.W.kitOne K (.ref C_TooOld) (.ref C_RowError) = some false)
    (ki_TooOld_SenderError : PySem.W.kitOne K (.ref C_TooOld) (.ref C_SenderError) = some true)
    (ki_TooOld_TooOld : PySem.W.kitOne K (.ref C_TooOld) (.ref C_TooOld) = some true)
    (ki_TooOld_Twice : PySem.W.kitOne K (.ref C_TooOld) (.ref C_Twice) = some false)
    (ki_TooOld_ValueError : PySem.W.kitOne K (.ref C_TooOld) (.type "ValueError") = some true)
    (ki_TooOld_WrongKind : PySem.W.kitOne K (.ref C_TooOld) (.ref C_WrongKind) = some false)
    (xx_Twice : L2.xIn K C_Twice = true) (kc_Twice : PySem.W.keepIn K (.ref C_Twice) = true) (sa_Twice : PySem.W.findIn K (.ref C_Twice) "__setattr__" = some (some (.builtin "object.__setattr__"))) (ga_Twice : PySem.W.findIn K (.ref C_Twice) "__getattribute__" = some (some (.builtin "BaseException.__getattribute__"))) (gn_Twice : PySem.W.findIn K (.ref C_Twice) "__getattr__" = some none) (hd_Twice : PySem.W.hasDictIn K C_Twice = true)
    (no_Twice_loan : PySem.W.findIn K (.ref C_Twice) "loan" = some none)
    (no_Twice_row : PySem.W.findIn K (.ref C_Twice) "row" = some none)
    (em_Twice_CellarError : PySem.W.exmOne K (.ref C_Twice) (.ref C_CellarError) = some true)
    (xq_Twice : PySem.W.findIn K (.ref C_Twice) "__class__" = some (some (.builtin "object.__class__")))
    (ki_Twice_BadWord : PySem.W.kitOne K (.ref C_Twice) (.ref C_BadWord) = some false)
    (ki_Twice_Beyond : PySem.W.kitOne K (.ref C_Twice) (.ref C_Beyond) = some false)
    (ki_Twice_Broken : PySem.W.kitOne K (.ref C_Twice) (.ref C_Broken) = some false)
    (ki_Twice_Busy : PySem.W.kitOne K (.ref C_Twice) (.ref C_Busy) = some false)
    (ki_Twice_DeedError : PySem.W.kitOne K (.ref C_Twice) (.ref C_DeedError) = some false)
    (ki_Twice_Doubled : PySem.W.kitOne K (.ref C_Twice) (.ref C_Doubled) = some false)
    (ki_Twice_Fenced : PySem.W.kitOne K (.ref C_Twice) (.ref C_Fenced) = some false)
    (ki_Twice_Gap : PySem.W.kitOne K (.ref C_Twice) (.ref C_Gap) = some false)
    (ki_Twice_Gone : PySem.W.kitOne K (.ref C_Twice) (.ref C_Gone) = some false)
    (ki_Twice_Late : PySem.W.kitOne K (.ref C_Twice) (.ref C_Late) = some false)
    (ki_Twice_LoanError : PySem.W.kitOne K (.ref C_Twice) (.ref C_LoanError) = some true)
    (ki_Twice_Needed : PySem.W.kitOne K (.ref C_Twice) (.ref C_Needed) = some false)
    (ki_Twice_NoDeed : PySem.W.kitOne K (.ref C_Twice) (.ref C_NoDeed) = some false)
    (ki_Twice_NoSuch : PySem.W.kitOne K (.ref C_Twice) (.ref C_NoSuch) = some false)
    (ki_Twice_NotYours : PySem.W.kitOne K (.ref C_Twice) (.ref C_NotYours) = some false)
    (ki_Twice_RowError : PySem.W.kitOne K (.ref C_Twice) (.ref C_RowError) = some false)
    (ki_Twice_SenderError : PySem.W.kitOne K (.ref C_Twice) (.ref C_SenderError) = some false)
    (ki_Twice_TooOld : PySem.W.kitOne K (.ref C_Twice) (.ref C_TooOld) = some false)
    (ki_Twice_Twice : PySem.W.kitOne K (.ref C_Twice) (.ref C_Twice) = some true)
    (ki_Twice_ValueError : PySem.W.kitOne K (.ref C_Twice) (.type "ValueError") = some true)
    (ki_Twice_WrongKind : PySem.W.kitOne K (.ref C_Twice) (.ref C_WrongKind) = some false)
    (xx_WrongKind : L2.xIn K C_WrongKind = true) (kc_WrongKind : PySem.W.keepIn K (.ref C_WrongKind) = true) (sa_WrongKind : PySem.W.findIn K (.ref C_WrongKind) "__setattr__" = some (some (.builtin "object.__setattr__"))) (ga_WrongKind : PySem.W.findIn K (.ref C_WrongKind) "__getattribute__" = some (some (.builtin "BaseException.__getattribute__"))) (gn_WrongKind : PySem.W.findIn K (.ref C_WrongKind) "__getattr__" = some none) (hd_WrongKind : PySem.W.hasDictIn K C_WrongKind = true)
    (no_WrongKind_row : PySem.W.findIn K (.ref C_WrongKind) "row" = some none)
    (em_WrongKind_CellarError : PySem.W.exmOne K (.ref C_WrongKind) (.ref C_CellarError) = some true)
    (xq_WrongKind : PySem.W.findIn K (.ref C_WrongKind) "__class__" = some (some (.builtin "object.__class__")))
    (ki_WrongKind_BadWord : PySem.W.kitOne K (.ref C_WrongKind) (.ref C_BadWord) = some false)
    (ki_WrongKind_Beyond : PySem.W.kitOne K (.ref C_WrongKind) (.ref C_Beyond) = some false)
    (ki_WrongKind_Broken : PySem.W.kitOne K (.ref C_WrongKind) (.ref C_Broken) = some false)
    (ki_WrongKind_Busy : PySem.W.kitOne K (.ref C_WrongKind) (.ref C_Busy) = some false)
    (ki_WrongKind_DeedError : PySem.W.kitOne K (.ref C_WrongKind) (.ref C_DeedError) = some false)
    (ki_WrongKind_Doubled : PySem.W.kitOne K (.ref C_WrongKind) (.ref C_Doubled) = some false)
    (ki_WrongKind_Fenced : PySem.W.kitOne K (.ref C_WrongKind) (.ref C_Fenced) = some false)
    (ki_WrongKind_Gap : PySem.W.kitOne K (.ref C_WrongKind) (.ref C_Gap) = some false)
    (ki_WrongKind_Gone : PySem.W.kitOne K (.ref C_WrongKind) (.ref C_Gone) = some false)
    (ki_WrongKind_Late : PySem.W.kitOne K (.ref C_WrongKind) (.ref C_Late) = some false)
    (ki_WrongKind_LoanError : PySem.W.kitOne K (.ref C_WrongKind) (.ref C_LoanError) = some false)
    (ki_WrongKind_Needed : PySem.W.kitOne K (.ref C_WrongKind) (.ref C_Needed) = some false)
    (ki_WrongKind_NoDeed : PySem.W.kitOne K (.ref C_WrongKind) (.ref C_NoDeed) = some false)
    (ki_WrongKind_NoSuch : PySem.W.kitOne K (.ref C_WrongKind) (.ref C_NoSuch) = some false)
    (ki_WrongKind_NotYours : PySem.W.kitOne K (.ref C_WrongKind) (.ref C_NotYours) = some false)
    (ki_WrongKind_RowError : PySem.W.kitOne K (.ref C_WrongKind) (.ref C_RowError) = some true)
    (ki_WrongKind_SenderError : PySem.W.kitOne K (.ref C_WrongKind) (.ref C_SenderError) = some false)
    (ki_WrongKind_TooOld : PySem.W.kitOne K (.ref C_WrongKind) (.ref C_TooOld) = some false)
    (ki_WrongKind_Twice : PySem.W.kitOne K (.ref C_WrongKind) (.ref C_Twice) = some false)
    (ki_WrongKind_ValueError : PySem.W.kitOne K (.ref C_WrongKind) (.type "ValueError") = some true)
    (ki_WrongKind_WrongKind : PySem.W.kitOne K (.ref C_WrongKind) (.ref C_WrongKind) = some true)
    (z_ValueError : PySem.W.nsIn K mainGlobals "ValueError" = some none)
    (z_isinstance : PySem.W.nsIn K mainGlobals "isinstance" = some none)
    (z_len : PySem.W.nsIn K mainGlobals "len" = some none)
    (z_range : PySem.W.nsIn K mainGlobals "range" = some none)
    (z_str : PySem.W.nsIn K mainGlobals "str" = some none) :
    ∃ a, Txt K mg a :=
  ⟨⟨C_BadWord, C_Beyond, C_Broken, C_Busy, C_CellarError, C_DeedError, C_Doubled, C_Fenced, C_Gap, C_Gone, C_Late, C_LoanError, C_Needed, C_NoDeed, C_NoSuch, C_NotYours, C_RowError, C_SenderError, C_TooOld, C_Twice, C_WrongKind, f1, (PySem.W.fnOf "__init__" "NoSuch.__init__" (defArgs s_NoSuch___init__) (defBody s_NoSuch___init__) (defScope s_NoSuch___init__) .none kV1 dc1 pm1 an1 cd1 ct1), f2, (PySem.W.fnOf "__init__" "Doubled.__init__" (defArgs s_Doubled___init__) (defBody s_Doubled___init__) (defScope s_Doubled___init__) .none kV2 dc2 pm2 an2 cd2 ct2), f3, (PySem.W.fnOf "__init__" "Broken.__init__" (defArgs s_Broken___init__) (defBody s_Broken___init__) (defScope s_Broken___init__) .none kV3 dc3 pm3 an3 cd3 ct3), f4, (PySem.W.fnOf "__init__" "Fenced.__init__" (defArgs s_Fenced___init__) (defBody s_Fenced___init__) (defScope s_Fenced___init__) .none kV4 dc4 pm4 an4 cd4 ct4), f5, (PySem.W.fnOf "__init__" "Gap.__init__" (defArgs s_Gap___init__) (defBody s_Gap___init__) (defScope s_Gap___init__) .none kV5 dc5 pm5 an5 cd5 ct5), f6, (PySem.W.fnOf "__init__" "TooOld.__init__" (defArgs s_TooOld___init__) (defBody s_TooOld___init__) (defScope s_TooOld___init__) .none kV6 dc6 pm6 an6 cd6 ct6), f7, (PySem.W.fnOf "__init__" "Late.__init__" (defArgs s_Late___init__) (defBody s_Late___init__) (defScope s_Late___init__) .none kV7 dc7 pm7 an7 cd7 ct7), f8, (PySem.W.fnOf "__init__" "NotYours.__init__" (defArgs s_NotYours___init__) (defBody s_NotYours___init__) (defScope s_NotYours___init__) .none kV8 dc8 pm8 an8 cd8 ct8), f9, (PySem.W.fnOf "__init__" "Twice.__init__" (defArgs s_Twice___init__) (defBody s_Twice___init__) (defScope s_Twice___init__) .none kV9 dc9 pm9 an9 cd9 ct9), f10, (PySem.W.fnOf "__init__" "Busy.__init__" (defArgs s_Busy___init__) (defBody s_Busy___init__) (defScope s_Busy___init__) .none kV10 dc10 pm10 an10 cd10 ct10), f11, (PySem.W.fnOf "__init__" "NoDeed.__init__" (defArgs s_NoDeed___init__) (defBody s_NoDeed___init__) (defScope s_NoDeed___init__) .none kV11 dc11 pm11 an11 cd11 ct11), f12, (PySem.W.fnOf "__init__" "WrongKind.__init__" (defArgs s_WrongKind___init__) (defBody s_WrongKind___init__) (defScope s_WrongKind___init__) .none kV12 dc12 pm12 an12 cd12 ct12), f13, (PySem.W.fnOf "__init__" "Needed.__init__" (defArgs s_Needed___init__) (defBody s_Needed___init__) (defScope s_Needed___init__) .none kV13 dc13 pm13 an13 cd13 ct13), f14, (PySem.W.fnOf "__init__" "Gone.__init__" (defArgs s_Gone___init__) (defBody s_Gone___init__) (defScope s_Gone___init__) .none kV14 dc14 pm14 an14 cd14 ct14), f15, (PySem.W.fnOf "__init__" "Beyond.__init__" (defArgs s_Beyond___init__) (defBody s_Beyond___init__) (defScope s_Beyond___init__) .none kV15 dc15 pm15 an15 cd15 ct15), f16, (PySem.W.fnOf "_law_cell_at" "_law_cell_at" (defArgs s_l_cell_at) (defBody s_l_cell_at) (defScope s_l_cell_at) .none kV16 dc16 pm16 an16 cd16 ct16), f17, (PySem.W.fnOf "_law_mixed" "_law_mixed" (defArgs s_l_mixed) (defBody s_l_mixed) (defScope s_l_mixed) .none kV17 dc17 pm17 an17 cd17 ct17), f18, (PySem.W.fnOf "_law_kinds" "_law_kinds" (defArgs s_l_kinds) (defBody s_l_kinds) (defScope s_l_kinds) .none kV18 dc18 pm18 an18 cd18 ct18), f19, (PySem.W.fnOf "_law_gathered" "_law_gathered" (defArgs s_l_gathered) (defBody s_l_gathered) (defScope s_l_gathered) .none kV19 dc19 pm19 an19 cd19 ct19), f20, (PySem.W.fnOf "_law_raise_first" "_law_raise_first" (defArgs s_l_raise_first) (defBody s_l_raise_first) (defScope s_l_raise_first) .none kV20 dc20 pm20 an20 cd20 ct20), f21, (PySem.W.fnOf "_law_raise_more" "_law_raise_more" (defArgs s_l_raise_more) (defBody s_l_raise_more) (defScope s_l_raise_more) .none kV21 dc21 pm21 an21 cd21 ct21), f22, (PySem.W.fnOf "_law_fields_first" "_law_fields_first" (defArgs s_l_fields_first) (defBody s_l_fields_first) (defScope s_l_fields_first) .none kV22 dc22 pm22 an22 cd22 ct22), f23, (PySem.W.fnOf "_law_fields_more" "_law_fields_more" (defArgs s_l_fields_more) (defBody s_l_fields_more) (defScope s_l_fields_more) .none kV23 dc23 pm23 an23 cd23 ct23), f24, (PySem.W.fnOf "_law_field" "_law_field" (defArgs s_l_field) (defBody s_l_field) (defScope s_l_field) .none kV24 dc24 pm24 an24 cd24 ct24), f25, (PySem.W.fnOf "_law_due_fields" "_law_due_fields" (defArgs s_l_due_fields) (defBody s_l_due_fields) (defScope s_l_due_fields) .none kV25 dc25 pm25 an25 cd25 ct25), f26, (PySem.W.fnOf "law" "law" (defArgs s_law) (defBody s_law) (defScope s_law) .none kV26 dc26 pm26 an26 cd26 ct26)⟩, {
    F_NoSuch___init__ := fun_mk (st := s_NoSuch___init__) l1 c1 k1,
    b_NoSuch___init__ := ((fun_mk (st := s_NoSuch___init__) l1 c1 k1).binds (fun _ _ _ _ _ _ => el2 fun _ _ => rfl)),
    F_Doubled___init__ := fun_mk (st := s_Doubled___init__) l2 c2 k2,
    b_Doubled___init__ := ((fun_mk (st := s_Doubled___init__) l2 c2 k2).binds (fun _ _ _ _ _ _ => el2 fun _ _ => rfl)),
    F_Broken___init__ := fun_mk (st := s_Broken___init__) l3 c3 k3,
    b_Broken___init__ := ((fun_mk (st := s_Broken___init__) l3 c3 k3).binds (fun _ _ _ _ _ _ => el2 fun _ _ => rfl)),
    F_Fenced___init__ := fun_mk (st := s_Fenced___init__) l4 c4 k4,
    b_Fenced___init__ := ((fun_mk (st := s_Fenced___init__) l4 c4 k4).binds (fun _ _ _ _ _ _ => el2 fun _ _ => rfl)),
    F_Gap___init__ := fun_mk (st := s_Gap___init__) l5 c5 k5,
    b_Gap___init__ := ((fun_mk (st := s_Gap___init__) l5 c5 k5).binds (fun _ _ _ _ _ _ => el2 fun _ _ => rfl)),
    F_TooOld___init__ := fun_mk (st := s_TooOld___init__) l6 c6 k6,
    b_TooOld___init__ := ((fun_mk (st := s_TooOld___init__) l6 c6 k6).binds (fun _ _ _ _ _ _ => el2 fun _ _ => rfl)),
    F_Late___init__ := fun_mk (st := s_Late___init__) l7 c7 k7,
    b_Late___init__ := ((fun_mk (st := s_Late___init__) l7 c7 k7).binds (fun _ _ _ _ _ _ => el3 fun _ _ _ => rfl)),
    F_NotYours___init__ := fun_mk (st := s_NotYours___init__) l8 c8 k8,
    b_NotYours___init__ := ((fun_mk (st := s_NotYours___init__) l8 c8 k8).binds (fun _ _ _ _ _ _ => el3 fun _ _ _ => rfl)),
    F_Twice___init__ := fun_mk (st := s_Twice___init__) l9 c9 k9,
    b_Twice___init__ := ((fun_mk (st := s_Twice___init__) l9 c9 k9).binds (fun _ _ _ _ _ _ => el3 fun _ _ _ => rfl)),
    F_Busy___init__ := fun_mk (st := s_Busy___init__) l10 c10 k10,
    b_Busy___init__ := ((fun_mk (st := s_Busy___init__) l10 c10 k10).binds (fun _ _ _ _ _ _ => el2 fun _ _ => rfl)),
    F_NoDeed___init__ := fun_mk (st := s_NoDeed___init__) l11 c11 k11,
    b_NoDeed___init__ := ((fun_mk (st := s_NoDeed___init__) l11 c11 k11).binds (fun _ _ _ _ _ _ => el2 fun _ _ => rfl)),
    F_WrongKind___init__ := fun_mk (st := s_WrongKind___init__) l12 c12 k12,
    b_WrongKind___init__ := ((fun_mk (st := s_WrongKind___init__) l12 c12 k12).binds (fun _ _ _ _ _ _ => el2 fun _ _ => rfl)),
    F_Needed___init__ := fun_mk (st := s_Needed___init__) l13 c13 k13,
    b_Needed___init__ := ((fun_mk (st := s_Needed___init__) l13 c13 k13).binds (fun _ _ _ _ _ _ => el3 fun _ _ _ => rfl)),
    F_Gone___init__ := fun_mk (st := s_Gone___init__) l14 c14 k14,
    b_Gone___init__ := ((fun_mk (st := s_Gone___init__) l14 c14 k14).binds (fun _ _ _ _ _ _ => el3 fun _ _ _ => rfl)),
    F_Beyond___init__ := fun_mk (st := s_Beyond___init__) l15 c15 k15,
    b_Beyond___init__ := ((fun_mk (st := s_Beyond___init__) l15 c15 k15).binds (fun _ _ _ _ _ _ => el3 fun _ _ _ => rfl)),
    m_l_cell_at := PySem.W.mg_of X G a16,
    F_l_cell_at := fun_mk (st := s_l_cell_at) l16 c16 k16,
    b_l_cell_at := ((fun_mk (st := s_l_cell_at) l16 c16 k16).binds (fun _ _ _ _ _ _ => el2 fun _ _ => rfl)),
    m_l_mixed := PySem.W.mg_of X G a17,
    F_l_mixed := fun_mk (st := s_l_mixed) l17 c17 k17,
    b_l_mixed := ((fun_mk (st := s_l_mixed) l17 c17 k17).binds (fun _ _ _ _ _ _ => el2 fun _ _ => rfl)),
    m_l_kinds := PySem.W.mg_of X G a18,
    F_l_kinds := fun_mk (st := s_l_kinds) l18 c18 k18,
    b_l_kinds := ((fun_mk (st := s_l_kinds) l18 c18 k18).binds (fun _ _ _ _ _ _ => el1 fun _ => rfl)),
    m_l_gathered := PySem.W.mg_of X G a19,
    F_l_gathered := fun_mk (st := s_l_gathered) l19 c19 k19,
    b_l_gathered := ((fun_mk (st := s_l_gathered) l19 c19 k19).binds (fun _ _ _ _ _ _ => el1 fun _ => rfl)),
    m_l_raise_first := PySem.W.mg_of X G a20,
    F_l_raise_first := fun_mk (st := s_l_raise_first) l20 c20 k20,
    b_l_raise_first := ((fun_mk (st := s_l_raise_first) l20 c20 k20).binds (fun _ _ _ _ _ _ => el2 fun _ _ => rfl)),
    m_l_raise_more := PySem.W.mg_of X G a21,
    F_l_raise_more := fun_mk (st := s_l_raise_more) l21 c21 k21,
    b_l_raise_more := ((fun_mk (st := s_l_raise_more) l21 c21 k21).binds (fun _ _ _ _ _ _ => el3 fun _ _ _ => rfl)),
    m_l_fields_first := PySem.W.mg_of X G a22,
    F_l_fields_first := fun_mk (st := s_l_fields_first) l22 c22 k22,
    b_l_fields_first := ((fun_mk (st := s_l_fields_first) l22 c22 k22).binds (fun _ _ _ _ _ _ => el1 fun _ => rfl)),
    m_l_fields_more := PySem.W.mg_of X G a23,
    F_l_fields_more := fun_mk (st := s_l_fields_more) l23 c23 k23,
    b_l_fields_more := ((fun_mk (st := s_l_fields_more) l23 c23 k23).binds (fun _ _ _ _ _ _ => el1 fun _ => rfl)),
    m_l_field := PySem.W.mg_of X G a24,
    F_l_field := fun_mk (st := s_l_field) l24 c24 k24,
    b_l_field := ((fun_mk (st := s_l_field) l24 c24 k24).binds (fun _ _ _ _ _ _ => el2 fun _ _ => rfl)),
    m_l_due_fields := PySem.W.mg_of X G a25,
    F_l_due_fields := fun_mk (st := s_l_due_fields) l25 c25 k25,
    b_l_due_fields := ((fun_mk (st := s_l_due_fields) l25 c25 k25).binds (fun _ _ _ _ _ _ => el3 fun _ _ _ => rfl)),
    m_law := PySem.W.mg_of X G a26,
    F_law := fun_mk (st := s_law) l26 c26 k26,
    b_law := ((fun_mk (st := s_law) l26 c26 k26).binds (fun _ _ _ _ _ _ => el1 fun _ => rfl)),
    mg_BadWord := PySem.W.mg_of X G aC_BadWord,
    mg_Beyond := PySem.W.mg_of X G aC_Beyond,
    mg_Broken := PySem.W.mg_of X G aC_Broken,
    mg_Busy := PySem.W.mg_of X G aC_Busy,
    mg_CellarError := PySem.W.mg_of X G aC_CellarError,
    mg_DeedError := PySem.W.mg_of X G aC_DeedError,
    mg_Doubled := PySem.W.mg_of X G aC_Doubled,
    mg_Fenced := PySem.W.mg_of X G aC_Fenced,
    mg_Gap := PySem.W.mg_of X G aC_Gap,
    mg_Gone := PySem.W.mg_of X G aC_Gone,
    mg_Late := PySem.W.mg_of X G aC_Late,
    mg_LoanError := PySem.W.mg_of X G aC_LoanError,
    mg_Needed := PySem.W.mg_of X G aC_Needed,
    mg_NoDeed := PySem.W.mg_of X G aC_NoDeed,
    mg_NoSuch := PySem.W.mg_of X G aC_NoSuch,
    mg_NotYours := PySem.W.mg_of X G aC_NotYours,
    mg_RowError := PySem.W.mg_of X G aC_RowError,
    mg_SenderError := PySem.W.mg_of X G aC_SenderError,
    mg_TooOld := PySem.W.mg_of X G aC_TooOld,
    mg_Twice := PySem.W.mg_of X G aC_Twice,
    mg_WrongKind := PySem.W.mg_of X G aC_WrongKind,
    xi0_BadWord := xj_BadWord,
    x_BadWord := ⟨xx_BadWord, kc_BadWord, sa_BadWord, ga_BadWord, gn_BadWord, hd_BadWord⟩,
    em_BadWord_CellarError := em_BadWord_CellarError,
    xs_BadWord := ⟨xq_BadWord, xr, xt⟩,
    ki_BadWord_BadWord := ki_BadWord_BadWord,
    ki_BadWord_Beyond := ki_BadWord_Beyond,
    ki_BadWord_Broken := ki_BadWord_Broken,
    ki_BadWord_Busy := ki_BadWord_Busy,
    ki_BadWord_DeedError := ki_BadWord_DeedError,
    ki_BadWord_Doubled := ki_BadWord_Doubled,
    ki_BadWord_Fenced := ki_BadWord_Fenced,
    ki_BadWord_Gap := ki_BadWord_Gap,
    ki_BadWord_Gone := ki_BadWord_Gone,
    ki_BadWord_Late := ki_BadWord_Late,
    ki_BadWord_LoanError := ki_BadWord_LoanError,
    ki_BadWord_Needed := ki_BadWord_Needed,
    ki_BadWord_NoDeed := ki_BadWord_NoDeed,
    ki_BadWord_NoSuch := ki_BadWord_NoSuch,
    ki_BadWord_NotYours := ki_BadWord_NotYours,
    ki_BadWord_RowError := ki_BadWord_RowError,
    ki_BadWord_SenderError := ki_BadWord_SenderError,
    ki_BadWord_TooOld := ki_BadWord_TooOld,
    ki_BadWord_Twice := ki_BadWord_Twice,
    ki_BadWord_ValueError := ki_BadWord_ValueError,
    ki_BadWord_WrongKind := ki_BadWord_WrongKind,
    x_Beyond := ⟨xx_Beyond, kc_Beyond, sa_Beyond, ga_Beyond, gn_Beyond, hd_Beyond⟩,
    xi_Beyond := a15,
    xf_Beyond := i15,
    no_Beyond_place := no_Beyond_place,
    no_Beyond_row := no_Beyond_row,
    em_Beyond_CellarError := em_Beyond_CellarError,
    xs_Beyond := ⟨xq_Beyond, xr, xt⟩,
    ki_Beyond_BadWord := ki_Beyond_BadWord,
    ki_Beyond_Beyond := ki_Beyond_Beyond,
    ki_Beyond_Broken := ki_Beyond_Broken,
    ki_Beyond_Busy := ki_Beyond_Busy,
    ki_Beyond_DeedError := ki_Beyond_DeedError,
    ki_Beyond_Doubled := ki_Beyond_Doubled,
    ki_Beyond_Fenced := ki_Beyond_Fenced,
    ki_Beyond_Gap := ki_Beyond_Gap,
    ki_Beyond_Gone := ki_Beyond_Gone,
    ki_Beyond_Late := ki_Beyond_Late,
    ki_Beyond_LoanError := ki_Beyond_LoanError,
    ki_Beyond_Needed := ki_Beyond_Needed,
    ki_Beyond_NoDeed := ki_Beyond_NoDeed,
    ki_Beyond_NoSuch := ki_Beyond_NoSuch,
    ki_Beyond_NotYours := ki_Beyond_NotYours,
    ki_Beyond_RowError := ki_Beyond_RowError,
    ki_Beyond_SenderError := ki_Beyond_SenderError,
    ki_Beyond_TooOld := ki_Beyond_TooOld,
    ki_Beyond_Twice := ki_Beyond_Twice,
    ki_Beyond_ValueError := ki_Beyond_ValueError,
    ki_Beyond_WrongKind := ki_Beyond_WrongKind,
    x_Broken := ⟨xx_Broken, kc_Broken, sa_Broken, ga_Broken, gn_Broken, hd_Broken⟩,
    xi_Broken := a3,
    xf_Broken := i3,
    no_Broken_line := no_Broken_line,
    em_Broken_CellarError := em_Broken_CellarError,
    xs_Broken := ⟨xq_Broken, xr, xt⟩,
    ki_Broken_BadWord := ki_Broken_BadWord,
    ki_Broken_Beyond := ki_Broken_Beyond,
    ki_Broken_Broken := ki_Broken_Broken,
    ki_Broken_Busy := ki_Broken_Busy,
    ki_Broken_DeedError := ki_Broken_DeedError,
    ki_Broken_Doubled := ki_Broken_Doubled,
    ki_Broken_Fenced := ki_Broken_Fenced,
    ki_Broken_Gap := ki_Broken_Gap,
    ki_Broken_Gone := ki_Broken_Gone,
    ki_Broken_Late := ki_Broken_Late,
    ki_Broken_LoanError := ki_Broken_LoanError,
    ki_Broken_Needed := ki_Broken_Needed,
    ki_Broken_NoDeed := ki_Broken_NoDeed,
    ki_Broken_NoSuch := ki_Broken_NoSuch,
    ki_Broken_NotYours := ki_Broken_NotYours,
    ki_Broken_RowError := ki_Broken_RowError,
    ki_Broken_SenderError := ki_Broken_SenderError,
    ki_Broken_TooOld := ki_Broken_TooOld,
    ki_Broken_Twice := ki_Broken_Twice,
    ki_Broken_ValueError := ki_Broken_ValueError,
    ki_Broken_WrongKind := ki_Broken_WrongKind,
    x_Busy := ⟨xx_Busy, kc_Busy, sa_Busy, ga_Busy, gn_Busy, hd_Busy⟩,
    xi_Busy := a10,
    xf_Busy := i10,
    no_Busy_deed := no_Busy_deed,
    em_Busy_CellarError := em_Busy_CellarError,
    xs_Busy := ⟨xq_Busy, xr, xt⟩,
    ki_Busy_BadWord := ki_Busy_BadWord,
    ki_Busy_Beyond := ki_Busy_Beyond,
    ki_Busy_Broken := ki_Busy_Broken,
    ki_Busy_Busy := ki_Busy_Busy,
    ki_Busy_DeedError := ki_Busy_DeedError,
    ki_Busy_Doubled := ki_Busy_Doubled,
    ki_Busy_Fenced := ki_Busy_Fenced,
    ki_Busy_Gap := ki_Busy_Gap,
    ki_Busy_Gone := ki_Busy_Gone,
    ki_Busy_Late := ki_Busy_Late,
    ki_Busy_LoanError := ki_Busy_LoanError,
    ki_Busy_Needed := ki_Busy_Needed,
    ki_Busy_NoDeed := ki_Busy_NoDeed,
    ki_Busy_NoSuch := ki_Busy_NoSuch,
    ki_Busy_NotYours := ki_Busy_NotYours,
    ki_Busy_RowError := ki_Busy_RowError,
    ki_Busy_SenderError := ki_Busy_SenderError,
    ki_Busy_TooOld := ki_Busy_TooOld,
    ki_Busy_Twice := ki_Busy_Twice,
    ki_Busy_ValueError := ki_Busy_ValueError,
    ki_Busy_WrongKind := ki_Busy_WrongKind,
    x_Doubled := ⟨xx_Doubled, kc_Doubled, sa_Doubled, ga_Doubled, gn_Doubled, hd_Doubled⟩,
    xi_Doubled := a2,
    xf_Doubled := i2,
    no_Doubled_name := no_Doubled_name,
    em_Doubled_CellarError := em_Doubled_CellarError,
    xs_Doubled := ⟨xq_Doubled, xr, xt⟩,
    ki_Doubled_BadWord := ki_Doubled_BadWord,
    ki_Doubled_Beyond := ki_Doubled_Beyond,
    ki_Doubled_Broken := ki_Doubled_Broken,
    ki_Doubled_Busy := ki_Doubled_Busy,
    ki_Doubled_DeedError := ki_Doubled_DeedError,
    ki_Doubled_Doubled := ki_Doubled_Doubled,
    ki_Doubled_Fenced := ki_Doubled_Fenced,
    ki_Doubled_Gap := ki_Doubled_Gap,
    ki_Doubled_Gone := ki_Doubled_Gone,
    ki_Doubled_Late := ki_Doubled_Late,
    ki_Doubled_LoanError := ki_Doubled_LoanError,
    ki_Doubled_Needed := ki_Doubled_Needed,
    ki_Doubled_NoDeed := ki_Doubled_NoDeed,
    ki_Doubled_NoSuch := ki_Doubled_NoSuch,
    ki_Doubled_NotYours := ki_Doubled_NotYours,
    ki_Doubled_RowError := ki_Doubled_RowError,
    ki_Doubled_SenderError := ki_Doubled_SenderError,
    ki_Doubled_TooOld := ki_Doubled_TooOld,
    ki_Doubled_Twice := ki_Doubled_Twice,
    ki_Doubled_ValueError := ki_Doubled_ValueError,
    ki_Doubled_WrongKind := ki_Doubled_WrongKind,
    x_Fenced := ⟨xx_Fenced, kc_Fenced, sa_Fenced, ga_Fenced, gn_Fenced, hd_Fenced⟩,
    xi_Fenced := a4,
    xf_Fenced := i4,
    no_Fenced_life := no_Fenced_life,
    em_Fenced_CellarError := em_Fenced_CellarError,
    xs_Fenced := ⟨xq_Fenced, xr, xt⟩,
    ki_Fenced_BadWord := ki_Fenced_BadWord,
    ki_Fenced_Beyond := ki_Fenced_Beyond,
    ki_Fenced_Broken := ki_Fenced_Broken,
    ki_Fenced_Busy := ki_Fenced_Busy,
    ki_Fenced_DeedError := ki_Fenced_DeedError,
    ki_Fenced_Doubled := ki_Fenced_Doubled,
    ki_Fenced_Fenced := ki_Fenced_Fenced,
    ki_Fenced_Gap := ki_Fenced_Gap,
    ki_Fenced_Gone := ki_Fenced_Gone,
    ki_Fenced_Late := ki_Fenced_Late,
    ki_Fenced_LoanError := ki_Fenced_LoanError,
    ki_Fenced_Needed := ki_Fenced_Needed,
    ki_Fenced_NoDeed := ki_Fenced_NoDeed,
    ki_Fenced_NoSuch := ki_Fenced_NoSuch,
    ki_Fenced_NotYours := ki_Fenced_NotYours,
    ki_Fenced_RowError := ki_Fenced_RowError,
    ki_Fenced_SenderError := ki_Fenced_SenderError,
    ki_Fenced_TooOld := ki_Fenced_TooOld,
    ki_Fenced_Twice := ki_Fenced_Twice,
    ki_Fenced_ValueError := ki_Fenced_ValueError,
    ki_Fenced_WrongKind := ki_Fenced_WrongKind,
    x_Gap := ⟨xx_Gap, kc_Gap, sa_Gap, ga_Gap, gn_Gap, hd_Gap⟩,
    xi_Gap := a5,
    xf_Gap := i5,
    no_Gap_due := no_Gap_due,
    em_Gap_CellarError := em_Gap_CellarError,
    xs_Gap := ⟨xq_Gap, xr, xt⟩,
    ki_Gap_BadWord := ki_Gap_BadWord,
    ki_Gap_Beyond := ki_Gap_Beyond,
    ki_Gap_Broken := ki_Gap_Broken,
    ki_Gap_Busy := ki_Gap_Busy,
    ki_Gap_DeedError := ki_Gap_DeedError,
    ki_Gap_Doubled := ki_Gap_Doubled,
    ki_Gap_Fenced := ki_Gap_Fenced,
    ki_Gap_Gap := ki_Gap_Gap,
    ki_Gap_Gone := ki_Gap_Gone,
    ki_Gap_Late := ki_Gap_Late,
    ki_Gap_LoanError := ki_Gap_LoanError,
    ki_Gap_Needed := ki_Gap_Needed,
    ki_Gap_NoDeed := ki_Gap_NoDeed,
    ki_Gap_NoSuch := ki_Gap_NoSuch,
    ki_Gap_NotYours := ki_Gap_NotYours,
    ki_Gap_RowError := ki_Gap_RowError,
    ki_Gap_SenderError := ki_Gap_SenderError,
    ki_Gap_TooOld := ki_Gap_TooOld,
    ki_Gap_Twice := ki_Gap_Twice,
    ki_Gap_ValueError := ki_Gap_ValueError,
    ki_Gap_WrongKind := ki_Gap_WrongKind,
    x_Gone := ⟨xx_Gone, kc_Gone, sa_Gone, ga_Gone, gn_Gone, hd_Gone⟩,
    xi_Gone := a14,
    xf_Gone := i14,
    no_Gone_place := no_Gone_place,
    no_Gone_row := no_Gone_row,
    em_Gone_CellarError := em_Gone_CellarError,
    xs_Gone := ⟨xq_Gone, xr, xt⟩,
    ki_Gone_BadWord := ki_Gone_BadWord,
    ki_Gone_Beyond := ki_Gone_Beyond,
    ki_Gone_Broken := ki_Gone_Broken,
    ki_Gone_Busy := ki_Gone_Busy,
    ki_Gone_DeedError := ki_Gone_DeedError,
    ki_Gone_Doubled := ki_Gone_Doubled,
    ki_Gone_Fenced := ki_Gone_Fenced,
    ki_Gone_Gap := ki_Gone_Gap,
    ki_Gone_Gone := ki_Gone_Gone,
    ki_Gone_Late := ki_Gone_Late,
    ki_Gone_LoanError := ki_Gone_LoanError,
    ki_Gone_Needed := ki_Gone_Needed,
    ki_Gone_NoDeed := ki_Gone_NoDeed,
    ki_Gone_NoSuch := ki_Gone_NoSuch,
    ki_Gone_NotYours := ki_Gone_NotYours,
    ki_Gone_RowError := ki_Gone_RowError,
    ki_Gone_SenderError := ki_Gone_SenderError,
    ki_Gone_TooOld := ki_Gone_TooOld,
    ki_Gone_Twice := ki_Gone_Twice,
    ki_Gone_ValueError := ki_Gone_ValueError,
    ki_Gone_WrongKind := ki_Gone_WrongKind,
    x_Late := ⟨xx_Late, kc_Late, sa_Late, ga_Late, gn_Late, hd_Late⟩,
    xi_Late := a7,
    xf_Late := i7,
    no_Late_loan := no_Late_loan,
    no_Late_row := no_Late_row,
    em_Late_CellarError := em_Late_CellarError,
    xs_Late := ⟨xq_Late, xr, xt⟩,
    ki_Late_BadWord := ki_Late_BadWord,
    ki_Late_Beyond := ki_Late_Beyond,
    ki_Late_Broken := ki_Late_Broken,
    ki_Late_Busy := ki_Late_Busy,
    ki_Late_DeedError := ki_Late_DeedError,
    ki_Late_Doubled := ki_Late_Doubled,
    ki_Late_Fenced := ki_Late_Fenced,
    ki_Late_Gap := ki_Late_Gap,
    ki_Late_Gone := ki_Late_Gone,
    ki_Late_Late := ki_Late_Late,
    ki_Late_LoanError := ki_Late_LoanError,
    ki_Late_Needed := ki_Late_Needed,
    ki_Late_NoDeed := ki_Late_NoDeed,
    ki_Late_NoSuch := ki_Late_NoSuch,
    ki_Late_NotYours := ki_Late_NotYours,
    ki_Late_RowError := ki_Late_RowError,
    ki_Late_SenderError := ki_Late_SenderError,
    ki_Late_TooOld := ki_Late_TooOld,
    ki_Late_Twice := ki_Late_Twice,
    ki_Late_ValueError := ki_Late_ValueError,
    ki_Late_WrongKind := ki_Late_WrongKind,
    x_Needed := ⟨xx_Needed, kc_Needed, sa_Needed, ga_Needed, gn_Needed, hd_Needed⟩,
    xi_Needed := a13,
    xf_Needed := i13,
    no_Needed_place := no_Needed_place,
    no_Needed_row := no_Needed_row,
    em_Needed_CellarError := em_Needed_CellarError,
    xs_Needed := ⟨xq_Needed, xr, xt⟩,
    ki_Needed_BadWord := ki_Needed_BadWord,
    ki_Needed_Beyond := ki_Needed_Beyond,
    ki_Needed_Broken := ki_Needed_Broken,
    ki_Needed_Busy := ki_Needed_Busy,
    ki_Needed_DeedError := ki_Needed_DeedError,
    ki_Needed_Doubled := ki_Needed_Doubled,
    ki_Needed_Fenced := ki_Needed_Fenced,
    ki_Needed_Gap := ki_Needed_Gap,
    ki_Needed_Gone := ki_Needed_Gone,
    ki_Needed_Late := ki_Needed_Late,
    ki_Needed_LoanError := ki_Needed_LoanError,
    ki_Needed_Needed := ki_Needed_Needed,
    ki_Needed_NoDeed := ki_Needed_NoDeed,
    ki_Needed_NoSuch := ki_Needed_NoSuch,
    ki_Needed_NotYours := ki_Needed_NotYours,
    ki_Needed_RowError := ki_Needed_RowError,
    ki_Needed_SenderError := ki_Needed_SenderError,
    ki_Needed_TooOld := ki_Needed_TooOld,
    ki_Needed_Twice := ki_Needed_Twice,
    ki_Needed_ValueError := ki_Needed_ValueError,
    ki_Needed_WrongKind := ki_Needed_WrongKind,
    x_NoDeed := ⟨xx_NoDeed, kc_NoDeed, sa_NoDeed, ga_NoDeed, gn_NoDeed, hd_NoDeed⟩,
    xi_NoDeed := a11,
    xf_NoDeed := i11,
    no_NoDeed_name := no_NoDeed_name,
    em_NoDeed_CellarError := em_NoDeed_CellarError,
    xs_NoDeed := ⟨xq_NoDeed, xr, xt⟩,
    ki_NoDeed_BadWord := ki_NoDeed_BadWord,
    ki_NoDeed_Beyond := ki_NoDeed_Beyond,
    ki_NoDeed_Broken := ki_NoDeed_Broken,
    ki_NoDeed_Busy := ki_NoDeed_Busy,
    ki_NoDeed_DeedError := ki_NoDeed_DeedError,
    ki_NoDeed_Doubled := ki_NoDeed_Doubled,
    ki_NoDeed_Fenced := ki_NoDeed_Fenced,
    ki_NoDeed_Gap := ki_NoDeed_Gap,
    ki_NoDeed_Gone := ki_NoDeed_Gone,
    ki_NoDeed_Late := ki_NoDeed_Late,
    ki_NoDeed_LoanError := ki_NoDeed_LoanError,
    ki_NoDeed_Needed := ki_NoDeed_Needed,
    ki_NoDeed_NoDeed := ki_NoDeed_NoDeed,
    ki_NoDeed_NoSuch := ki_NoDeed_NoSuch,
    ki_NoDeed_NotYours := ki_NoDeed_NotYours,
    ki_NoDeed_RowError := ki_NoDeed_RowError,
    ki_NoDeed_SenderError := ki_NoDeed_SenderError,
    ki_NoDeed_TooOld := ki_NoDeed_TooOld,
    ki_NoDeed_Twice := ki_NoDeed_Twice,
    ki_NoDeed_ValueError := ki_NoDeed_ValueError,
    ki_NoDeed_WrongKind := ki_NoDeed_WrongKind,
    x_NoSuch := ⟨xx_NoSuch, kc_NoSuch, sa_NoSuch, ga_NoSuch, gn_NoSuch, hd_NoSuch⟩,
    xi_NoSuch := a1,
    xf_NoSuch := i1,
    no_NoSuch_name := no_NoSuch_name,
    em_NoSuch_CellarError := em_NoSuch_CellarError,
    xs_NoSuch := ⟨xq_NoSuch, xr, xt⟩,
    ki_NoSuch_BadWord := ki_NoSuch_BadWord,
    ki_NoSuch_Beyond := ki_NoSuch_Beyond,
    ki_NoSuch_Broken := ki_NoSuch_Broken,
    ki_NoSuch_Busy := ki_NoSuch_Busy,
    ki_NoSuch_DeedError := ki_NoSuch_DeedError,
    ki_NoSuch_Doubled := ki_NoSuch_Doubled,
    ki_NoSuch_Fenced := ki_NoSuch_Fenced,
    ki_NoSuch_Gap := ki_NoSuch_Gap,
    ki_NoSuch_Gone := ki_NoSuch_Gone,
    ki_NoSuch_Late := ki_NoSuch_Late,
    ki_NoSuch_LoanError := ki_NoSuch_LoanError,
    ki_NoSuch_Needed := ki_NoSuch_Needed,
    ki_NoSuch_NoDeed := ki_NoSuch_NoDeed,
    ki_NoSuch_NoSuch := ki_NoSuch_NoSuch,
    ki_NoSuch_NotYours := ki_NoSuch_NotYours,
    ki_NoSuch_RowError := ki_NoSuch_RowError,
    ki_NoSuch_SenderError := ki_NoSuch_SenderError,
    ki_NoSuch_TooOld := ki_NoSuch_TooOld,
    ki_NoSuch_Twice := ki_NoSuch_Twice,
    ki_NoSuch_ValueError := ki_NoSuch_ValueError,
    ki_NoSuch_WrongKind := ki_NoSuch_WrongKind,
    x_NotYours := ⟨xx_NotYours, kc_NotYours, sa_NotYours, ga_NotYours, gn_NotYours, hd_NotYours⟩,
    xi_NotYours := a8,
    xf_NotYours := i8,
    no_NotYours_owner := no_NotYours_owner,
    no_NotYours_row := no_NotYours_row,
    em_NotYours_CellarError := em_NotYours_CellarError,
    xs_NotYours := ⟨xq_NotYours, xr, xt⟩,
    ki_NotYours_BadWord := ki_NotYours_BadWord,
    ki_NotYours_Beyond := ki_NotYours_Beyond,
    ki_NotYours_Broken := ki_NotYours_Broken,
    ki_NotYours_Busy := ki_NotYours_Busy,
    ki_NotYours_DeedError := ki_NotYours_DeedError,
    ki_NotYours_Doubled := ki_NotYours_Doubled,
    ki_NotYours_Fenced := ki_NotYours_Fenced,
    ki_NotYours_Gap := ki_NotYours_Gap,
    ki_NotYours_Gone := ki_NotYours_Gone,
    ki_NotYours_Late := ki_NotYours_Late,
    ki_NotYours_LoanError := ki_NotYours_LoanError,
    ki_NotYours_Needed := ki_NotYours_Needed,
    ki_NotYours_NoDeed := ki_NotYours_NoDeed,
    ki_NotYours_NoSuch := ki_NotYours_NoSuch,
    ki_NotYours_NotYours := ki_NotYours_NotYours,
    ki_NotYours_RowError := ki_NotYours_RowError,
    ki_NotYours_SenderError := ki_NotYours_SenderError,
    ki_NotYours_TooOld := ki_NotYours_TooOld,
    ki_NotYours_Twice := ki_NotYours_Twice,
    ki_NotYours_ValueError := ki_NotYours_ValueError,
    ki_NotYours_WrongKind := ki_NotYours_WrongKind,
    x_TooOld := ⟨xx_TooOld, kc_TooOld, sa_TooOld, ga_TooOld, gn_TooOld, hd_TooOld⟩,
    xi_TooOld := a6,
    xf_TooOld := i6,
    no_TooOld_number := no_TooOld_number,
    em_TooOld_CellarError := em_TooOld_CellarError,
    xs_TooOld := ⟨xq_TooOld, xr, xt⟩,
    ki_TooOld_BadWord := ki_TooOld_BadWord,
    ki_TooOld_Beyond := ki_TooOld_Beyond,
    ki_TooOld_Broken := ki_TooOld_Broken,
    ki_TooOld_Busy := ki_TooOld_Busy,
    ki_TooOld_DeedError := ki_TooOld_DeedError,
    ki_TooOld_Doubled := ki_TooOld_Doubled,
    ki_TooOld_Fenced := ki_TooOld_Fenced,
    ki_TooOld_Gap := ki_TooOld_Gap,
    ki_TooOld_Gone := ki_TooOld_Gone,
    ki_TooOld_Late := ki_TooOld_Late,
    ki_TooOld_LoanError := ki_TooOld_LoanError,
    ki_TooOld_Needed := ki_TooOld_Needed,
    ki_TooOld_NoDeed := ki_TooOld_NoDeed,
    ki_TooOld_NoSuch := ki_TooOld_NoSuch,
    ki_TooOld_NotYours := ki_TooOld_NotYours,
    ki_TooOld_RowError := ki_TooOld_RowError,
    ki_TooOld_SenderError := ki_TooOld_SenderError,
    ki_TooOld_TooOld := ki_TooOld_TooOld,
    ki_TooOld_Twice := ki_TooOld_Twice,
    ki_TooOld_ValueError := ki_TooOld_ValueError,
    ki_TooOld_WrongKind := ki_TooOld_WrongKind,
    x_Twice := ⟨xx_Twice, kc_Twice, sa_Twice, ga_Twice, gn_Twice, hd_Twice⟩,
    xi_Twice := a9,
    xf_Twice := i9,
    no_Twice_loan := no_Twice_loan,
    no_Twice_row := no_Twice_row,
    em_Twice_CellarError := em_Twice_CellarError,
    xs_Twice := ⟨xq_Twice, xr, xt⟩,
    ki_Twice_BadWord := ki_Twice_BadWord,
    ki_Twice_Beyond := ki_Twice_Beyond,
    ki_Twice_Broken := ki_Twice_Broken,
    ki_Twice_Busy := ki_Twice_Busy,
    ki_Twice_DeedError := ki_Twice_DeedError,
    ki_Twice_Doubled := ki_Twice_Doubled,
    ki_Twice_Fenced := ki_Twice_Fenced,
    ki_Twice_Gap := ki_Twice_Gap,
    ki_Twice_Gone := ki_Twice_Gone,
    ki_Twice_Late := ki_Twice_Late,
    ki_Twice_LoanError := ki_Twice_LoanError,
    ki_Twice_Needed := ki_Twice_Needed,
    ki_Twice_NoDeed := ki_Twice_NoDeed,
    ki_Twice_NoSuch := ki_Twice_NoSuch,
    ki_Twice_NotYours := ki_Twice_NotYours,
    ki_Twice_RowError := ki_Twice_RowError,
    ki_Twice_SenderError := ki_Twice_SenderError,
    ki_Twice_TooOld := ki_Twice_TooOld,
    ki_Twice_Twice := ki_Twice_Twice,
    ki_Twice_ValueError := ki_Twice_ValueError,
    ki_Twice_WrongKind := ki_Twice_WrongKind,
    x_WrongKind := ⟨xx_WrongKind, kc_WrongKind, sa_WrongKind, ga_WrongKind, gn_WrongKind, hd_WrongKind⟩,
    xi_WrongKind := a12,
    xf_WrongKind := i12,
    no_WrongKind_row := no_WrongKind_row,
    em_WrongKind_CellarError := em_WrongKind_CellarError,
    xs_WrongKind := ⟨xq_WrongKind, xr, xt⟩,
    ki_WrongKind_BadWord := ki_WrongKind_BadWord,
    ki_WrongKind_Beyond := ki_WrongKind_Beyond,
    ki_WrongKind_Broken := ki_WrongKind_Broken,
    ki_WrongKind_Busy := ki_WrongKind_Busy,
    ki_WrongKind_DeedError := ki_WrongKind_DeedError,
    ki_WrongKind_Doubled := ki_WrongKind_Doubled,
    ki_WrongKind_Fenced := ki_WrongKind_Fenced,
    ki_WrongKind_Gap := ki_WrongKind_Gap,
    ki_WrongKind_Gone := ki_WrongKind_Gone,
    ki_WrongKind_Late := ki_WrongKind_Late,
    ki_WrongKind_LoanError := ki_WrongKind_LoanError,
    ki_WrongKind_Needed := ki_WrongKind_Needed,
    ki_WrongKind_NoDeed := ki_WrongKind_NoDeed,
    ki_WrongKind_NoSuch := ki_WrongKind_NoSuch,
    ki_WrongKind_NotYours := ki_WrongKind_NotYours,
    ki_WrongKind_RowError := ki_WrongKind_RowError,
    ki_WrongKind_SenderError := ki_WrongKind_SenderError,
    ki_WrongKind_TooOld := ki_WrongKind_TooOld,
    ki_WrongKind_Twice := ki_WrongKind_Twice,
    ki_WrongKind_ValueError := ki_WrongKind_ValueError,
    ki_WrongKind_WrongKind := ki_WrongKind_WrongKind,
    n_ValueError := PySem.W.mg_none_of X G z_ValueError,
    n_isinstance := PySem.W.mg_none_of X G z_isinstance,
    n_len := PySem.W.mg_none_of X G z_len,
    n_range := PySem.W.mg_none_of X G z_range,
    n_str := PySem.W.mg_none_of X G z_str,
    bl_law := fun s u => .of_eq rfl }⟩
theorem walk {l : PySem.W.OpenLaw} {q : Program} {loose : List Str} {XP : (Str → Option Value) → Heap → Prop} {YP : World → Heap → Prop} {d : DefRec} {K : Params → PySem.W.Frag} (hn : l.most = some 63) (hdf : d.params.defaults = [])
    (hY : ∀ (w : World) (h : Heap), YP w h → (K w.params).In h)
    (F : ∀ (w : World) (mg : Str → Option Value) (fa : Addr) (h : Heap), (K w.params).In h → h.Ns mainGlobals mg → mg d.name = some (.ref fa) →
      ∃ fd : FuncData, (∀ (s : Shared) (u : Value), BindsTo s fd ⟨[u], []⟩ [("_law_script", u)]) ∧ ∀ base : Heap, (K w.params).In base → base.Ns mainGlobals mg → FnOk l.prog w (K w.params) mg base CX0 4 fa fd ["_law_script"] (sp_law (K w.params))) :
    PySem.W.WalkO q loose XP YP l.row.toRowW d [] (fun f vs => PySem.call f vs) :=
  L2.walk_of (n := 63) (k := 4) (x := "_law_script") (CX := fun _ => CX0) (sp := fun w => sp_law (K w.params)) hn (by decide) hdf ⟨rfl, by decide, by decide⟩ hY F (fun _ _ a ns hl _ hS => ⟨a, ns, rfl, hS, hl, fun _ => rfl⟩) fun _ _ _ _ _ z => z
end K06
def PySem.W.Fast.tw2360486519096445552 : Unit := ()
def PySem.W.Fast.tw5167691594725563749 : Unit := ()
def PySem.W.Fast.tw8185981398478168675 : Unit := ()
def PySem.W.Fast.tw1782147575380831744 : Unit := ()
def PySem.W.Fast.tw17802615169832933079 : Unit := ()
def PySem.W.Fast.tw14040496657568872753 : Unit := ()
def PySem.W.Fast.tw4587655411777036642 : Unit := ()
def PySem.W.Fast.tw7307755924702161744 : Unit := ()
def PySem.W.Fast.tw14684550089225980019 : Unit := ()
def PySem.W.Fast.tw5194596991945963875 : Unit := ()
def PySem.W.Fast.tw15271670285118549711 : Unit := ()
def PySem.W.Fast.tw2752558970359521885 : Unit := ()
def PySem.W.Fast.tw4099871125258054744 : Unit := ()
def PySem.W.Fast.tw4402647345912347487 : Unit := ()
def PySem.W.Fast.tw8084629334683586263 : Unit := ()
def PySem.W.Fast.tw5660223095911078735 : Unit := ()
def PySem.W.Fast.tw12333735227409631693 : Unit := ()
def PySem.W.Fast.tw15517756169145537726 : Unit := ()
def PySem.W.Fast.tw2539065250534799293 : Unit := ()
def PySem.W.Fast.tw18111365986099574611 : Unit := ()
def PySem.W.Fast.tw13814311432101605626 : Unit := ()
def PySem.W.Fast.tw5494055061808894469 : Unit := ()
def PySem.W.Fast.tw3804763470411279750 : Unit := ()
def PySem.W.Fast.tw18155675287619592634 : Unit := ()
def PySem.W.Fast.tw8298984681441695186 : Unit := ()
def PySem.W.Fast.tw5697948986464916346 : Unit := ()
def PySem.W.Fast.tw2359531837007741603 : Unit := ()
def PySem.W.Fast.tw16714505491162239306 : Unit := ()
def PySem.W.Fast.tw6416663707541667937 : Unit := ()
def PySem.W.Fast.tw15492169217447404103 : Unit := ()
def PySem.W.Fast.tw15191099364165148565 : Unit := ()
def PySem.W.Fast.tw9157125085005011584 : Unit := ()
def PySem.W.Fast.tw11468850837741525205 : Unit := ()
def PySem.W.Fast.tw12039769730758230121 : Unit := ()
def PySem.W.Fast.tw7585036624533696773 : Unit := ()
def PySem.W.Fast.tw7468424211459136737 : Unit := ()
def PySem.W.Fast.tw10974956386702771157 : Unit := ()
def PySem.W.Fast.tw10849928838425306648 : Unit := ()
def PySem.W.Fast.tw3892911713317495819 : Unit := ()
def PySem.W.Fast.tw5491753425803228438 : Unit := ()
def PySem.W.Fast.tw16922833069423580935 : Unit := ()
def PySem.W.Fast.tw15924546894980332364 : Unit := ()
def PySem.W.Fast.tw8518689210403540756 : Unit := ()
def PySem.W.Fast.tw4288456674214196268 : Unit := ()
def PySem.W.Fast.tw5776867901907193612 : Unit := ()
def PySem.W.Fast.tw3514938805097115990 : Unit := ()
def PySem.W.Fast.tw11563278410388767679 : Unit := ()
def PySem.W.Fast.tw8726335887995545716 : Unit := ()
def PySem.W.Fast.tw14138764623789561759 : Unit := ()
def PySem.W.Fast.tw2170217208286401324 : Unit := ()
def PySem.W.Fast.tw2760719533737501484 : Unit := ()
def PySem.W.Fast.tw7777442067402400304 : Unit := ()

open PySem PySem.W PyProof.Rows
set_option maxRecDepth 100000 in
set_option maxHeartbeats 0 in
theorem PySem.Challenge.cw_lettercell_k06_what_is_refused_holds : PySem.Challenge.rw_lettercell_k06_what_is_refused.Holds := by
  w_on; o_law; k_head; (case hw => w_witness2)
  k_fill
  refine K06.walk (l := PySem.Challenge.rw_lettercell_k06_what_is_refused) rfl rfl (fun w h Y => PySem.W.kIn_of Y) ?F
  case F =>
    intro w mg fa h KX G hmg
    have T : ∃ t, K06.Txt (L2.KOf KX) mg t := by
      dsimp only [L2.KOf]
      refine' K06.txt_mk KX G ?a1 ?i1 ?l1 ?c1 ?k1 ?a2 ?i2 ?l2 ?c2 ?k2 ?a3 ?i3 ?l3 ?c3 ?k3 ?a4 ?i4 ?l4 ?c4 ?k4 ?a5 ?i5 ?l5 ?c5 ?k5 ?a6 ?i6 ?l6 ?c6 ?k6 ?a7 ?i7 ?l7 ?c7 ?k7 ?a8 ?i8 ?l8 ?c8 ?k8 ?a9 ?i9 ?l9 ?c9 ?k9 ?a10 ?i10 ?l10 ?c10 ?k10 ?a11 ?i11 ?l11 ?c11 ?k11 ?a12 ?i12 ?l12 ?c12 ?k12 ?a13 ?i13 ?l13 ?c13 ?k13 ?a14 ?i14 ?l14 ?c14 ?k14 ?a15 ?i15 ?l15 ?c15 ?k15 ?a16 ?l16 ?c16 ?k16 ?a17 ?l17 ?c17 ?k17 ?a18 ?l18 ?c18 ?k18 ?a19 ?l19 ?c19 ?k19 ?a20 ?l20 ?c20 ?k20 ?a21 ?l21 ?c21 ?k21 ?a22 ?l22 ?c22 ?k22 ?a23 ?l23 ?c23 ?k23 ?a24 ?l24 ?c24 ?k24 ?a25 ?l25 ?c25 ?k25 ?a26 ?l26 ?c26 ?k26 ?aC_BadWord ?aC_Beyond ?aC_Broken ?aC_Busy ?aC_CellarError ?aC_DeedError ?aC_Doubled ?aC_Fenced ?aC_Gap ?aC_Gone ?aC_Late ?aC_LoanError ?aC_Needed ?aC_NoDeed ?aC_NoSuch ?aC_NotYours ?aC_RowError ?aC_SenderError ?aC_TooOld ?aC_Twice ?aC_WrongKind ?xj_BadWord ?xx_BadWord ?kc_BadWord ?sa_BadWord ?ga_BadWord ?gn_BadWord ?hd_BadWord ?em_BadWord_CellarError ?xq_BadWord ?xr ?xt ?ki_BadWord_BadWord ?ki_BadWord_Beyond ?ki_BadWord_Broken ?ki_BadWord_Busy ?ki_BadWord_DeedError ?ki_BadWord_Doubled ?ki_BadWord_Fenced ?ki_BadWord_Gap ?ki_BadWord_Gone ?ki_BadWord_Late ?ki_BadWord_LoanError ?ki_BadWord_Needed ?ki_BadWord_NoDeed ?ki_BadWord_NoSuch ?ki_BadWord_NotYours ?ki_BadWord_RowError ?ki_BadWord_SenderError ?ki_BadWord_TooOld ?ki_BadWord_Twice ?ki_BadWord_ValueError ?ki_BadWord_WrongKind ?xx_Beyond ?kc_Beyond ?sa_Beyond ?ga_Beyond ?gn_Beyond ?hd_Beyond ?no_Beyond_place ?no_Beyond_row ?em_Beyond_CellarError ?xq_Beyond ?ki_Beyond_BadWord ?ki_Beyond_Beyond ?ki_Beyond_Broken ?ki_Beyond_Busy ?ki_Beyond_DeedError ?ki_Beyond_Doubled ?ki_Beyond_Fenced ?ki_Beyond_Gap ?ki_Beyond_Gone ?ki_Beyond_Late ?ki_Beyond_LoanError ?ki_Beyond_Needed ?ki_Beyond_NoDeed ?ki_Beyond_NoSuch ?ki_Beyond_NotYours ?ki_Beyond_RowError ?ki_Beyond_SenderError ?ki_Beyond_TooOld ?ki_Beyond_Twice ?ki_Beyond_ValueError ?ki_Beyond_WrongKind ?xx_Broken ?kc_Broken ?sa_Broken ?ga_Broken ?gn_Broken ?hd_Broken ?no_Broken_line ?em_Broken_CellarError ?xq_Broken ?ki_Broken_BadWord ?ki_Broken_Beyond ?ki_Broken_Broken ?ki_Broken_Busy ?ki_Broken_DeedError ?ki_Broken_Doubled ?ki_Broken_Fenced ?ki_Broken_Gap ?ki_Broken_Gone ?ki_Broken_Late ?ki_Broken_LoanError ?ki_Broken_Needed ?ki_Broken_NoDeed ?ki_Broken_NoSuch ?ki_Broken_NotYours ?ki_Broken_RowError ?ki_Broken_SenderError ?ki_Broken_TooOld ?ki_Broken_Twice ?ki_Broken_ValueError ?ki_Broken_WrongKind ?xx_Busy ?kc_Busy ?sa_Busy ?ga_Busy ?gn_Busy ?hd_Busy ?no_Busy_deed ?em_Busy_CellarError ?xq_Busy ?ki_Busy_BadWord ?ki_Busy_Beyond ?ki_Busy_Broken ?ki_Busy_Busy ?ki_Busy_DeedError ?ki_Busy_Doubled ?ki_Busy_Fenced ?ki_Busy_Gap ?ki_Busy_Gone ?ki_Busy_Late ?ki_Busy_LoanError ?ki_Busy_Needed ?ki_Busy_NoDeed ?ki_Busy_NoSuch ?ki_Busy_NotYours ?ki_Busy_RowError ?ki_Busy_SenderError ?ki_Busy_TooOld ?ki_Busy_Twice ?ki_Busy_ValueError ?ki_Busy_WrongKind ?xx_Doubled ?kc_Doubled ?sa_Doubled ?ga_Doubled ?gn_Doubled ?hd_Doubled ?no_Doubled_name ?em_Doubled_CellarError ?xq_Doubled ?ki_Doubled_BadWord ?ki_Doubled_Beyond ?ki_Doubled_Broken ?ki_Doubled_Busy ?ki_Doubled_DeedError ?ki_Doubled_Doubled ?ki_Doubled_Fenced ?ki_Doubled_Gap ?ki_Doubled_Gone ?ki_Doubled_Late ?ki_Doubled_LoanError ?ki_Doubled_Needed ?ki_Doubled_NoDeed ?ki_Doubled_NoSuch ?ki_Doubled_NotYours ?ki_Doubled_RowError ?ki_Doubled_SenderError ?ki_Doubled_TooOld ?ki_Doubled_Twice ?ki_Doubled_ValueError ?ki_Doubled_WrongKind ?xx_Fenced ?kc_Fenced ?sa_Fenced ?ga_Fenced ?gn_Fenced ?hd_Fenced ?no_Fenced_life ?em_Fenced_CellarError ?xq_Fenced ?ki_Fenced_BadWord ?ki_Fenced_Beyond ?ki_Fenced_Broken ?ki_Fenced_Busy ?ki_Fenced_DeedError ?ki_Fenced_Doubled ?ki_Fenced_Fenced ?ki_Fenced_Gap ?ki_Fenced_Gone ?ki_Fenced_Late ?ki_Fenced_LoanError ?ki_Fenced_Needed ?ki_Fenced_NoDeed ?ki_Fenced_NoSuch ?ki_Fenced_NotYours ?ki_Fenced_RowError ?ki_Fenced_SenderError ?ki_Fenced_TooOld ?ki_Fenced_Twice ?ki_Fenced_ValueError ?ki_Fenced_WrongKind ?xx_Gap ?kc_Gap ?sa_Gap ?ga_Gap ?gn_Gap ?hd_Gap ?no_Gap_due ?em_Gap_CellarError ?xq_Gap ?ki_Gap_BadWord ?ki_Gap_Beyond ?ki_Gap_Broken ?ki_Gap_Busy ?ki_Gap_DeedError ?ki_Gap_Doubled ?ki_Gap_Fenced ?ki_Gap_Gap ?ki_Gap_Gone ?ki_Gap_Late ?ki_Gap_LoanError ?ki_Gap_Needed ?ki_Gap_NoDeed ?ki_Gap_NoSuch ?ki_Gap_NotYours ?ki_Gap_RowError ?ki_Gap_SenderError ?ki_Gap_TooOld ?ki_Gap_Twice ?ki_Gap_ValueError ?ki_Gap_WrongKind ?xx_Gone ?kc_Gone ?sa_Gone ?ga_Gone ?gn_Gone ?hd_Gone ?no_Gone_place ?no_Gone_row ?em_Gone_CellarError ?xq_Gone ?ki_Gone_BadWord ?ki_Gone_Beyond ?ki_Gone_Broken ?ki_Gone_Busy ?ki_Gone_DeedError ?ki_Gone_Doubled ?ki_Gone_Fenced ?ki_Gone_Gap ?ki_Gone_Gone ?ki_Gone_Late ?ki_Gone_LoanError ?ki_Gone_Needed ?ki_Gone_NoDeed ?ki_Gone_NoSuch ?ki_Gone_NotYours ?ki_Gone_RowError ?ki_Gone_SenderError ?ki_Gone_TooOld ?ki_Gone_Twice ?ki_Gone_ValueError ?ki_Gone_WrongKind ?xx_Late ?kc_Late ?sa_Late ?ga_Late ?gn_Late ?hd_Late ?no_Late_loan ?no_Late_row ?em_Late_CellarError ?xq_Late ?ki_Late_BadWord ?ki_Late_Beyond ?ki_Late_Broken ?ki_Late_Busy ?ki_Late_DeedError ?ki_Late_Doubled ?ki_Late_Fenced ?ki_Late_Gap ?ki_Late_Gone ?ki_Late_Late ?ki_Late_LoanError ?ki_Late_Needed ?ki_Late_NoDeed ?ki_Late_NoSuch ?ki_Late_NotYours ?ki_Late_RowError ?ki_Late_SenderError ?ki_Late_TooOld ?ki_Late_Twice ?ki_Late_ValueError ?ki_Late_WrongKind ?xx_Needed ?kc_Needed ?sa_Needed ?ga_Needed ?gn_Needed ?hd_Needed ?no_Needed_place ?no_Needed_row ?em_Needed_CellarError ?xq_Needed ?ki_Needed_BadWord ?ki_Needed_Beyond ?ki_Needed_Broken ?ki_Needed_Busy ?ki_Needed_DeedError ?ki_Needed_Doubled ?ki_Needed_Fenced ?ki_Needed_Gap ?ki_Needed_Gone ?ki_Needed_Late ?ki_Needed_LoanError ?ki_Needed_Needed ?ki_Needed_NoDeed ?ki_Needed_NoSuch ?ki_Needed_NotYours ?ki_Needed_RowError ?ki_Needed_SenderError ?ki_Needed_TooOld ?ki_Needed_Twice ?ki_Needed_ValueError ?ki_Needed_WrongKind ?xx_NoDeed ?kc_NoDeed ?sa_NoDeed ?ga_NoDeed ?gn_NoDeed ?hd_NoDeed ?no_NoDeed_name ?em_NoDeed_CellarError ?xq_NoDeed ?ki_NoDeed_BadWord ?ki_NoDeed_Beyond ?ki_NoDeed_Broken ?ki_NoDeed_Busy ?ki_NoDeed_DeedError ?ki_NoDeed_Doubled ?ki_NoDeed_Fenced ?ki_NoDeed_Gap ?ki_NoDeed_Gone ?ki_NoDeed_Late ?ki_NoDeed_LoanError ?ki_NoDeed_Needed ?ki_NoDeed_NoDeed ?ki_NoDeed_NoSuch ?ki_NoDeed_NotYours ?ki_NoDeed_RowError ?ki_NoDeed_SenderError ?ki_NoDeed_TooOld ?ki_NoDeed_Twice ?ki_NoDeed_ValueError ?ki_NoDeed_WrongKind ?xx_NoSuch ?kc_NoSuch ?sa_NoSuch ?ga_NoSuch ?gn_NoSuch ?hd_NoSuch ?no_NoSuch_name ?em_NoSuch_CellarError ?xq_NoSuch ?ki_NoSuch_BadWord ?ki_NoSuch_Beyond ?ki_NoSuch_Broken ?ki_NoSuch_Busy ?ki_NoSuch_DeedError ?ki_NoSuch_Doubled ?ki_NoSuch_Fenced ?ki_NoSuch_Gap ?ki_NoSuch_Gone ?ki_NoSuch_Late ?ki_NoSuch_LoanError ?ki_NoSuch_Needed ?ki_NoSuch_NoDeed ?ki_NoSuch_NoSuch ?ki_NoSuch_NotYours ?ki_NoSuch_RowError ?ki_NoSuch_SenderError ?ki_NoSuch_TooOld ?ki_NoSuch_Twice ?ki_NoSuch_ValueError ?ki_NoSuch_WrongKind ?xx_NotYours ?kc_NotYours ?sa_NotYours ?ga_NotYours ?gn_NotYours ?hd_NotYours ?no_NotYours_owner ?no_NotYours_row ?em_NotYours_CellarError ?xq_NotYours ?ki_NotYours_BadWord ?ki_NotYours_Beyond ?ki_NotYours_Broken ?ki_NotYours_Busy ?ki_NotYours_DeedError ?ki_NotYours_Doubled ?ki_NotYours_Fenced ?ki_NotYours_Gap ?ki_NotYours_Gone ?ki_NotYours_Late ?ki_NotYours_LoanError ?ki_NotYours_Needed ?ki_NotYours_NoDeed ?ki_NotYours_NoSuch ?ki_NotYours_NotYours ?ki_NotYours_RowError ?ki_NotYours_SenderError ?ki_NotYours_TooOld ?ki_NotYours_Twice ?ki_NotYours_ValueError ?ki_NotYours_WrongKind ?xx_TooOld ?kc_TooOld ?sa_TooOld ?ga_TooOld ?gn_TooOld ?hd_TooOld ?no_TooOld_number ?em_TooOld_CellarError ?xq_TooOld ?ki_TooOld_BadWord ?ki_TooOld_Beyond ?ki_TooOld_Broken ?ki_TooOld_Busy ?ki_TooOld_DeedError ?ki_TooOld_Doubled ?ki_TooOld_Fenced ?ki_TooOld_Gap ?ki_TooOld_Gone ?ki_TooOld_Late ?ki_TooOld_LoanError ?ki_TooOld_Needed ?ki_TooOld_NoDeed ?ki_TooOld_NoSuch ?ki_TooOld_NotYours ?ki_TooOld_RowError ?ki_TooOld_SenderError ?ki_TooOld_TooOld ?ki_TooOld_Twice ?ki_TooOld_ValueError ?ki_TooOld_WrongKind ?xx_Twice ?kc_Twice ?sa_Twice ?ga_Twice ?gn_Twice ?hd_Twice ?no_Twice_loan ?no_Twice_row ?em_Twice_CellarError ?xq_Twice ?ki_Twice_BadWord ?ki_Twice_Beyond ?ki_Twice_Broken ?ki_Twice_Busy ?ki_Twice_DeedError ?ki_Twice_Doubled ?ki_Twice_Fenced ?ki_Twice_Gap ?ki_Twice_Gone ?ki_Twice_Late ?ki_Twice_LoanError ?ki_Twice_Needed ?ki_Twice_NoDeed ?ki_Twice_NoSuch ?ki_Twice_NotYours ?ki_Twice_RowError ?ki_Twice_SenderError ?ki_Twice_TooOld ?ki_Twice_Twice ?ki_Twice_ValueError ?ki_Twice_WrongKind ?xx_WrongKind ?kc_WrongKind ?sa_WrongKind ?ga_WrongKind ?gn_WrongKind ?hd_WrongKind ?no_WrongKind_row ?em_WrongKind_CellarError ?xq_WrongKind ?ki_WrongKind_BadWord ?ki_WrongKind_Beyond ?ki_WrongKind_Broken ?ki_WrongKind_Busy ?ki_WrongKind_DeedError ?ki_WrongKind_Doubled ?ki_WrongKind_Fenced ?ki_WrongKind_Gap ?ki_WrongKind_Gone ?ki_WrongKind_Late ?ki_WrongKind_LoanError ?ki_WrongKind_Needed ?ki_WrongKind_NoDeed ?ki_WrongKind_NoSuch ?ki_WrongKind_NotYours ?ki_WrongKind_RowError ?ki_WrongKind_SenderError ?ki_WrongKind_TooOld ?ki_WrongKind_Twice ?ki_WrongKind_ValueError ?ki_WrongKind_WrongKind ?z_ValueError ?z_isinstance ?z_len ?z_range ?z_str
      (case aC_WrongKind => k_is)
      (case aC_Twice => k_is)
      (case aC_TooOld => k_is)
      (case aC_SenderError => k_is)
      (case aC_RowError => k_is)
      (case aC_NotYours => k_is)
      (case aC_NoSuch => k_is)
      (case aC_NoDeed => k_is)
      (case aC_Needed => k_is)
      (case aC_LoanError => k_is)
      (case aC_Late => k_is)
      (case aC_Gone => k_is)
      (case aC_Gap => k_is)
      (case aC_Fenced => k_is)
      (case aC_Doubled => k_is)
      (case aC_DeedError => k_is)
      (case aC_CellarError => k_is)
      (case aC_Busy => k_is)
      (case aC_Broken => k_is)
      (case aC_Beyond => k_is)
      (case aC_BadWord => k_is)
      (case a1 => k_is)
      (case i1 => k_is)
      (case l1 => k_is)
      (case c1 => k_is)
      (case k1 => k_is)
      (case a2 => k_is)
      (case i2 => k_is)
      (case l2 => k_is)
      (case c2 => k_is)
      (case k2 => k_is)
      (case a3 => k_is)
      (case i3 => k_is)
      (case l3 => k_is)
      (case c3 => k_is)
      (case k3 => k_is)
      (case a4 => k_is)
      (case i4 => k_is)
      (case l4 => k_is)
      (case c4 => k_is)
      (case k4 => k_is)
      (case a5 => k_is)
      (case i5 => k_is)
      (case l5 => k_is)
      (case c5 => k_is)
      (case k5 => k_is)
      (case a6 => k_is)
      (case i6 => k_is)
      (case l6 => k_is)
      (case c6 => k_is)
      (case k6 => k_is)
      (case a7 => k_is)
      (case i7 => k_is)
      (case l7 => k_is)
      (case c7 => k_is)
      (case k7 => k_is)
      (case a8 => k_is)
      (case i8 => k_is)
      (case l8 => k_is)
      (case c8 => k_is)
      (case k8 => k_is)
      (case a9 => k_is)
      (case i9 => k_is)
      (case l9 => k_is)
      (case c9 => k_is)
      (case k9 => k_is)
      (case a10 => k_is)
      (case i10 => k_is)
      (case l10 => k_is)
      (case c10 => k_is)
      (case k10 => k_is)
      (case a11 => k_is)
      (case i11 => k_is)
      (case l11 => k_is)
      (case c11 => k_is)
      (case k11 => k_is)
      (case a12 => k_is)
      (case i12 => k_is)
      (case l12 => k_is)
      (case c12 => k_is)
      (case k12 => k_is)
      (case a13 => k_is)
      (case i13 => k_is)
      (case l13 => k_is)
      (case c13 => k_is)
      (case k13 => k_is)
      (case a14 => k_is)
      (case i14 => k_is)
      (case l14 => k_is)
      (case c14 => k_is)
      (case k14 => k_is)
      (case a15 => k_is)
      (case i15 => k_is)
      (case l15 => k_is)
      (case c15 => k_is)
      (case k15 => k_is)
      (case a16 => k_is)
      (case l16 => k_is)
      (case c16 => k_is)
      (case k16 => k_is)
      (case a17 => k_is)
      (case l17 => k_is)
      (case c17 => k_is)
      (case k17 => k_is)
      (case a18 => k_is)
      (case l18 => k_is)
      (case c18 => k_is)
      (case k18 => k_is)
      (case a19 => k_is)
      (case l19 => k_is)
      (case c19 => k_is)
      (case k19 => k_is)
      (case a20 => k_is)
      (case l20 => k_is)
      (case c20 => k_is)
      (case k20 => k_is)
      (case a21 => k_is)
      (case l21 => k_is)
      (case c21 => k_is)
      (case k21 => k_is)
      (case a22 => k_is)
      (case l22 => k_is)
      (case c22 => k_is)
      (case k22 => k_is)
      (case a23 => k_is)
      (case l23 => k_is)
      (case c23 => k_is)
      (case k23 => k_is)
      (case a24 => k_is)
      (case l24 => k_is)
      (case c24 => k_is)
      (case k24 => k_is)
      (case a25 => k_is)
      (case l25 => k_is)
      (case c25 => k_is)
      (case k25 => k_is)
      (case a26 => k_is)
      (case l26 => k_is)
      (case c26 => k_is)
      (case k26 => k_is)
      (case xj_BadWord => k_is)
      (case xx_BadWord => kernel_rfl)
      (case kc_BadWord => k_is)
      (case sa_BadWord => k_is)
      (case ga_BadWord => k_is)
      (case gn_BadWord => k_is)
      (case hd_BadWord => k_is)
      (case em_BadWord_CellarError => kernel_rfl)
      (case xq_BadWord => k_is)
      (case xr => k_is)
      (case xt => k_is)
      (case ki_BadWord_BadWord => kernel_rfl)
      (case ki_BadWord_Beyond => kernel_rfl)
      (case ki_BadWord_Broken => kernel_rfl)
      (case ki_BadWord_Busy => kernel_rfl)
      (case ki_BadWord_DeedError => kernel_rfl)
      (case ki_BadWord_Doubled => kernel_rfl)
      (case ki_BadWord_Fenced => kernel_rfl)
      (case ki_BadWord_Gap => kernel_rfl)
      (case ki_BadWord_Gone => kernel_rfl)
      (case ki_BadWord_Late => kernel_rfl)
      (case ki_BadWord_LoanError => kernel_rfl)
      (case ki_BadWord_Needed => kernel_rfl)
      (case ki_BadWord_NoDeed => kernel_rfl)
      (case ki_BadWord_NoSuch => kernel_rfl)
      (case ki_BadWord_NotYours => kernel_rfl)
      (case ki_BadWord_RowError => kernel_rfl)
      (case ki_BadWord_SenderError => kernel_rfl)
      (case ki_BadWord_TooOld => kernel_rfl)
      (case ki_BadWord_Twice => kernel_rfl)
      (case ki_BadWord_ValueError => kernel_rfl)
      (case ki_BadWord_WrongKind => kernel_rfl)
      (case xx_Beyond => kernel_rfl)
      (case kc_Beyond => k_is)
      (case sa_Beyond => k_is)
      (case ga_Beyond => k_is)
      (case gn_Beyond => k_is)
      (case hd_Beyond => k_is)
      (case no_Beyond_place => k_is)
      (case no_Beyond_row => k_is)
      (case em_Beyond_CellarError => kernel_rfl)
      (case xq_Beyond => k_is)
      (case ki_Beyond_BadWord => kernel_rfl)
      (case ki_Beyond_Beyond => kernel_rfl)
      (case ki_Beyond_Broken => kernel_rfl)
      (case ki_Beyond_Busy => kernel_rfl)
      (case ki_Beyond_DeedError => kernel_rfl)
      (case ki_Beyond_Doubled => kernel_rfl)
      (case ki_Beyond_Fenced => kernel_rfl)
      (case ki_Beyond_Gap => kernel_rfl)
      (case ki_Beyond_Gone => kernel_rfl)
      (case ki_Beyond_Late => kernel_rfl)
      (case ki_Beyond_LoanError => kernel_rfl)
      (case ki_Beyond_Needed => kernel_rfl)
      (case ki_Beyond_NoDeed => kernel_rfl)
      (case ki_Beyond_NoSuch => kernel_rfl)
      (case ki_Beyond_NotYours => kernel_rfl)
      (case ki_Beyond_RowError => kernel_rfl)
      (case ki_Beyond_SenderError => kernel_rfl)
      (case ki_Beyond_TooOld => kernel_rfl)
      (case ki_Beyond_Twice => kernel_rfl)
      (case ki_Beyond_ValueError => kernel_rfl)
      (case ki_Beyond_WrongKind => kernel_rfl)
      (case xx_Broken => kernel_rfl)
      (case kc_Broken => k_is)
      (case sa_Broken => k_is)
      (case ga_Broken => k_is)
      (case gn_Broken => k_is)
      (case hd_Broken => k_is)
      (case no_Broken_line => k_is)
      (case em_Broken_CellarError => kernel_rfl)
      (case xq_Broken => k_is)
      (case ki_Broken_BadWord => kernel_rfl)
      (case ki_Broken_Beyond => kernel_rfl)
      (case ki_Broken_Broken => kernel_rfl)
      (case ki_Broken_Busy => kernel_rfl)
      (case ki_Broken_DeedError => kernel_rfl)
      (case ki_Broken_Doubled => kernel_rfl)
      (case ki_Broken_Fenced => kernel_rfl)
      (case ki_Broken_Gap => kernel_rfl)
      (case ki_Broken_Gone => kernel_rfl)
      (case ki_Broken_Late => kernel_rfl)
      (case ki_Broken_LoanError => kernel_rfl)
      (case ki_Broken_Needed => kernel_rfl)
      (case ki_Broken_NoDeed => kernel_rfl)
      (case ki_Broken_NoSuch => kernel_rfl)
      (case ki_Broken_NotYours => kernel_rfl)
      (case ki_Broken_RowError => kernel_rfl)
      (case ki_Broken_SenderError => kernel_rfl)
      (case ki_Broken_TooOld => kernel_rfl)
      (case ki_Broken_Twice => kernel_rfl)
      (case ki_Broken_ValueError => kernel_rfl)
      (case ki_Broken_WrongKind => kernel_rfl)
      (case xx_Busy => kernel_rfl)
      (case kc_Busy => k_is)
      (case sa_Busy => k_is)
      (case ga_Busy => k_is)
      (case gn_Busy => k_is)
      (case hd_Busy => k_is)
      (case no_Busy_deed => k_is)
      (case em_Busy_CellarError => kernel_rfl)
      (case xq_Busy => k_is)
      (case ki_Busy_BadWord => kernel_rfl)
      (case ki_Busy_Beyond => kernel_rfl)
      (case ki_Busy_Broken => kernel_rfl)
      (case ki_Busy_Busy => kernel_rfl)
      (case ki_Busy_DeedError => kernel_rfl)
      (case ki_Busy_Doubled => kernel_rfl)
      (case ki_Busy_Fenced => kernel_rfl)
      (case ki_Busy_Gap => kernel_rfl)
      (case ki_Busy_Gone => kernel_rfl)
      (case ki_Busy_Late => kernel_rfl)
      (case ki_Busy_LoanError => kernel_rfl)
      (case ki_Busy_Needed => kernel_rfl)
      (case ki_Busy_NoDeed => kernel_rfl)
      (case ki_Busy_NoSuch => kernel_rfl)
      (case ki_Busy_NotYours => kernel_rfl)
      (case ki_Busy_RowError => kernel_rfl)
      (case ki_Busy_SenderError => kernel_rfl)
      (case ki_Busy_TooOld => kernel_rfl)
      (case ki_Busy_Twice => kernel_rfl)
      (case ki_Busy_ValueError => kernel_rfl)
      (case ki_Busy_WrongKind => kernel_rfl)
      (case xx_Doubled => kernel_rfl)
      (case kc_Doubled => k_is)
      (case sa_Doubled => k_is)
      (case ga_Doubled => k_is)
      (case gn_Doubled => k_is)
      (case hd_Doubled => k_is)
      (case no_Doubled_name => k_is)
      (case em_Doubled_CellarError => kernel_rfl)
      (case xq_Doubled => k_is)
      (case ki_Doubled_BadWord => kernel_rfl)
      (case ki_Doubled_Beyond => kernel_rfl)
      (case ki_Doubled_Broken => kernel_rfl)
      (case ki_Doubled_Busy => kernel_rfl)
      (case ki_Doubled_DeedError => kernel_rfl)
      (case ki_Doubled_Doubled => kernel_rfl)
      (case ki_Doubled_Fenced => kernel_rfl)
      (case ki_Doubled_Gap => kernel_rfl)
      (case ki_Doubled_Gone => kernel_rfl)
      (case ki_Doubled_Late => kernel_rfl)
      (case ki_Doubled_LoanError => kernel_rfl)
      (case ki_Doubled_Needed => kernel_rfl)
      (case ki_Doubled_NoDeed => kernel_rfl)
      (case ki_Doubled_NoSuch => kernel_rfl)
      (case ki_Doubled_NotYours => kernel_rfl)
      (case ki_Doubled_RowError => kernel_rfl)
      (case ki_Doubled_SenderError => kernel_rfl)
      (case ki_Doubled_TooOld => kernel_rfl)
      (case ki_Doubled_Twice => kernel_rfl)
      (case ki_Doubled_ValueError => kernel_rfl)
      (case ki_Doubled_WrongKind => kernel_rfl)
      (case xx_Fenced => kernel_rfl)
      (case kc_Fenced => k_is)
      (case sa_Fenced => k_is)
      (case ga_Fenced => k_is)
      (case gn_Fenced => k_is)
      (case hd_Fenced => k_is)
      (case no_Fenced_life => k_is)
      (case em_Fenced_CellarError => kernel_rfl)
      (case xq_Fenced => k_is)
      (case ki_Fenced_BadWord => kernel_rfl)
      (case ki_Fenced_Beyond => kernel_rfl)
      (case ki_Fenced_Broken => kernel_rfl)
      (case ki_Fenced_Busy => kernel_rfl)
      (case ki_Fenced_DeedError => kernel_rfl)
      (case ki_Fenced_Doubled => kernel_rfl)
      (case ki_Fenced_Fenced => kernel_rfl)
      (case ki_Fenced_Gap => kernel_rfl)
      (case ki_Fenced_Gone => kernel_rfl)
      (case ki_Fenced_Late => kernel_rfl)
      (case ki_Fenced_LoanError => kernel_rfl)
      (case ki_Fenced_Needed => kernel_rfl)
      (case ki_Fenced_NoDeed => kernel_rfl)
      (case ki_Fenced_NoSuch => kernel_rfl)
      (case ki_Fenced_NotYours => kernel_rfl)
      (case ki_Fenced_RowError => kernel_rfl)
      (case ki_Fenced_SenderError => kernel_rfl)
      (case ki_Fenced_TooOld => kernel_rfl)
      (case ki_Fenced_Twice => kernel_rfl)
      (case ki_Fenced_ValueError => kernel_rfl)
      (case ki_Fenced_WrongKind => kernel_rfl)
      (case xx_Gap => kernel_rfl)
      (case kc_Gap => k_is)
      (case sa_Gap => k_is)
      (case ga_Gap => k_is)
      (case gn_Gap => k_is)
      (case hd_Gap => k_is)
      (case no_Gap_due => k_is)
      (case em_Gap_CellarError => kernel_rfl)
      (case xq_Gap => k_is)
      (case ki_Gap_BadWord => kernel_rfl)
      (case ki_Gap_Beyond => kernel_rfl)
      (case ki_Gap_Broken => kernel_rfl)
      (case ki_Gap_Busy => kernel_rfl)
      (case ki_Gap_DeedError => kernel_rfl)
      (case ki_Gap_Doubled => kernel_rfl)
      (case ki_Gap_Fenced => kernel_rfl)
      (case ki_Gap_Gap => kernel_rfl)
      (case ki_Gap_Gone => kernel_rfl)
      (case ki_Gap_Late => kernel_rfl)
      (case ki_Gap_LoanError => kernel_rfl)
      (case ki_Gap_Needed => kernel_rfl)
      (case ki_Gap_NoDeed => kernel_rfl)
      (case ki_Gap_NoSuch => kernel_rfl)
      (case ki_Gap_NotYours => kernel_rfl)
      (case ki_Gap_RowError => kernel_rfl)
      (case ki_Gap_SenderError => kernel_rfl)
      (case ki_Gap_TooOld => kernel_rfl)
      (case ki_Gap_Twice => kernel_rfl)
      (case ki_Gap_ValueError => kernel_rfl)
      (case ki_Gap_WrongKind => kernel_rfl)
      (case xx_Gone => kernel_rfl)
      (case kc_Gone => k_is)
      (case sa_Gone => k_is)
      (case ga_Gone => k_is)
      (case gn_Gone => k_is)
      (case hd_Gone => k_is)
      (case no_Gone_place => k_is)
      (case no_Gone_row => k_is)
      (case em_Gone_CellarError => kernel_rfl)
      (case xq_Gone => k_is)
      (case ki_Gone_BadWord => kernel_rfl)
      (case ki_Gone_Beyond => kernel_rfl)
      (case ki_Gone_Broken => kernel_rfl)
      (case ki_Gone_Busy => kernel_rfl)
      (case ki_Gone_DeedError => kernel_rfl)
      (case ki_Gone_Doubled => kernel_rfl)
      (case ki_Gone_Fenced => kernel_rfl)
      (case ki_Gone_Gap => kernel_rfl)
      (case ki_Gone_Gone => kernel_rfl)
      (case ki_Gone_Late => kernel_rfl)
      (case ki_Gone_LoanError => kernel_rfl)
      (case ki_Gone_Needed => kernel_rfl)
      (case ki_Gone_NoDeed => kernel_rfl)
      (case ki_Gone_NoSuch => kernel_rfl)
      (case ki_Gone_NotYours => kernel_rfl)
      (case ki_Gone_RowError => kernel_rfl)
      (case ki_Gone_SenderError => kernel_rfl)
      (case ki_Gone_TooOld => kernel_rfl)
      (case ki_Gone_Twice => kernel_rfl)
      (case ki_Gone_ValueError => kernel_rfl)
      (case ki_Gone_WrongKind => kernel_rfl)
      (case xx_Late => kernel_rfl)
      (case kc_Late => k_is)
      (case sa_Late => k_is)
      (case ga_Late => k_is)
      (case gn_Late => k_is)
      (case hd_Late => k_is)
      (case no_Late_loan => k_is)
      (case no_Late_row => k_is)
      (case em_Late_CellarError => kernel_rfl)
      (case xq_Late => k_is)
      (case ki_Late_BadWord => kernel_rfl)
      (case ki_Late_Beyond => kernel_rfl)
      (case ki_Late_Broken => kernel_rfl)
      (case ki_Late_Busy => kernel_rfl)
      (case ki_Late_DeedError => kernel_rfl)
      (case ki_Late_Doubled => kernel_rfl)
      (case ki_Late_Fenced => kernel_rfl)
      (case ki_Late_Gap => kernel_rfl)
      (case ki_Late_Gone => kernel_rfl)
      (case ki_Late_Late => kernel_rfl)
      (case ki_Late_LoanError => kernel_rfl)
      (case ki_Late_Needed => kernel_rfl)
      (case ki_Late_NoDeed => kernel_rfl)
      (case ki_Late_NoSuch => kernel_rfl)
      (case ki_Late_NotYours => kernel_rfl)
      (case ki_Late_RowError => kernel_rfl)
      (case ki_Late_SenderError => kernel_rfl)
      (case ki_Late_TooOld => kernel_rfl)
      (case ki_Late_Twice => kernel_rfl)
      (case ki_Late_ValueError => kernel_rfl)
      (case ki_Late_WrongKind => kernel_rfl)
      (case xx_Needed => kernel_rfl)
      (case kc_Needed => k_is)
      (case sa_Needed => k_is)
      (case ga_Needed => k_is)
      (case gn_Needed => k_is)
      (case hd_Needed => k_is)
      (case no_Needed_place => k_is)
      (case no_Needed_row => k_is)
      (case em_Needed_CellarError => kernel_rfl)
      (case xq_Needed => k_is)
      (case ki_Needed_BadWord => kernel_rfl)
      (case ki_Needed_Beyond => kernel_rfl)
      (case ki_Needed_Broken => kernel_rfl)
      (case ki_Needed_Busy => kernel_rfl)
      (case ki_Needed_DeedError => kernel_rfl)
      (case ki_Needed_Doubled => kernel_rfl)
      (case ki_Needed_Fenced => kernel_rfl)
      (case ki_Needed_Gap => kernel_rfl)
      (case ki_Needed_Gone => kernel_rfl)
      (case ki_Needed_Late => kernel_rfl)
      (case ki_Needed_LoanError => kernel_rfl)
      (case ki_Needed_Needed => kernel_rfl)
      (case ki_Needed_NoDeed => kernel_rfl)
      (case ki_Needed_NoSuch => kernel_rfl)
      (case ki_Needed_NotYours => kernel_rfl)
      (case ki_Needed_RowError => kernel_rfl)
      (case ki_Needed_SenderError => kernel_rfl)
      (case ki_Needed_TooOld => kernel_rfl)
      (case ki_Needed_Twice => kernel_rfl)
      (case ki_Needed_ValueError => kernel_rfl)
      (case ki_Needed_WrongKind => kernel_rfl)
      (case xx_NoDeed => kernel_rfl)
      (case kc_NoDeed => k_is)
      (case sa_NoDeed => k_is)
      (case ga_NoDeed => k_is)
      (case gn_NoDeed => k_is)
      (case hd_NoDeed => k_is)
      (case no_NoDeed_name => k_is)
      (case em_NoDeed_CellarError => kernel_rfl)
      (case xq_NoDeed => k_is)
      (case ki_NoDeed_BadWord => kernel_rfl)
      (case ki_NoDeed_Beyond => kernel_rfl)
      (case ki_NoDeed_Broken => kernel_rfl)
      (case ki_NoDeed_Busy => kernel_rfl)
      (case ki_NoDeed_DeedError => kernel_rfl)
      (case ki_NoDeed_Doubled => kernel_rfl)
      (case ki_NoDeed_Fenced => kernel_rfl)
      (case ki_NoDeed_Gap => kernel_rfl)
      (case ki_NoDeed_Gone => kernel_rfl)
      (case ki_NoDeed_Late => kernel_rfl)
      (case ki_NoDeed_LoanError => kernel_rfl)
      (case ki_NoDeed_Needed => kernel_rfl)
      (case ki_NoDeed_NoDeed => kernel_rfl)
      (case ki_NoDeed_NoSuch => kernel_rfl)
      (case ki_NoDeed_NotYours => kernel_rfl)
      (case ki_NoDeed_RowError => kernel_rfl)
      (case ki_NoDeed_SenderError => kernel_rfl)
      (case ki_NoDeed_TooOld => kernel_rfl)
      (case ki_NoDeed_Twice => kernel_rfl)
      (case ki_NoDeed_ValueError => kernel_rfl)
      (case ki_NoDeed_WrongKind => kernel_rfl)
      (case xx_NoSuch => kernel_rfl)
      (case kc_NoSuch => k_is)
      (case sa_NoSuch => k_is)
      (case ga_NoSuch => k_is)
      (case gn_NoSuch => k_is)
      (case hd_NoSuch => k_is)
      (case no_NoSuch_name => k_is)
      (case em_NoSuch_CellarError => kernel_rfl)
      (case xq_NoSuch => k_is)
      (case ki_NoSuch_BadWord => kernel_rfl)
      (case ki_NoSuch_Beyond => kernel_rfl)
      (case ki_NoSuch_Broken => kernel_rfl)
      (case ki_NoSuch_Busy => kernel_rfl)
      (case ki_NoSuch_DeedError => kernel_rfl)
      (case ki_NoSuch_Doubled => kernel_rfl)
      (case ki_NoSuch_Fenced => kernel_rfl)
      (case ki_NoSuch_Gap => kernel_rfl)
      (case ki_NoSuch_Gone => kernel_rfl)
      (case ki_NoSuch_Late => kernel_rfl)
      (case ki_NoSuch_LoanError => kernel_rfl)
      (case ki_NoSuch_Needed => kernel_rfl)
      (case ki_NoSuch_NoDeed => kernel_rfl)
      (case ki_NoSuch_NoSuch => kernel_rfl)
      (case ki_NoSuch_NotYours => kernel_rfl)
      (case ki_NoSuch_RowError => kernel_rfl)
      (case ki_NoSuch_SenderError => kernel_rfl)
      (case ki_NoSuch_TooOld => kernel_rfl)
      (case ki_NoSuch_Twice => kernel_rfl)
      (case ki_NoSuch_ValueError => kernel_rfl)
      (case ki_NoSuch_WrongKind => kernel_rfl)
      (case xx_NotYours => kernel_rfl)
      (case kc_NotYours => k_is)
      (case sa_NotYours => k_is)
      (case ga_NotYours => k_is)
      (case gn_NotYours => k_is)
      (case hd_NotYours => k_is)
      (case no_NotYours_owner => k_is)
      (case no_NotYours_row => k_is)
      (case em_NotYours_CellarError => kernel_rfl)
      (case xq_NotYours => k_is)
      (case ki_NotYours_BadWord => kernel_rfl)
      (case ki_NotYours_Beyond => kernel_rfl)
      (case ki_NotYours_Broken => kernel_rfl)
      (case ki_NotYours_Busy => kernel_rfl)
      (case ki_NotYours_DeedError => kernel_rfl)
      (case ki_NotYours_Doubled => kernel_rfl)
      (case ki_NotYours_Fenced => kernel_rfl)
      (case ki_NotYours_Gap => kernel_rfl)
      (case ki_NotYours_Gone => kernel_rfl)
      (case ki_NotYours_Late => kernel_rfl)
      (case ki_NotYours_LoanError => kernel_rfl)
      (case ki_NotYours_Needed => kernel_rfl)
      (case ki_NotYours_NoDeed => kernel_rfl)
      (case ki_NotYours_NoSuch => kernel_rfl)
      (case ki_NotYours_NotYours => kernel_rfl)
      (case ki_NotYours_RowError => kernel_rfl)
      (case ki_NotYours_SenderError => kernel_rfl)
      (case ki_NotYours_TooOld => kernel_rfl)
      (case ki_NotYours_Twice => kernel_rfl)
      (case ki_NotYours_ValueError => kernel_rfl)
      (case ki_NotYours_WrongKind => kernel_rfl)
      (case xx_TooOld => kernel_rfl)
      (case kc_TooOld => k_is)
      (case sa_TooOld => k_is)
      (case ga_TooOld => k_is)
      (case gn_TooOld => k_is)
      (case hd_TooOld => k_is)
      (case no_TooOld_number => k_is)
      (case em_TooOld_CellarError => kernel_rfl)
      (case xq_TooOld => k_is)
      (case ki_TooOld_BadWord => kernel_rfl)
      (case ki_TooOld_Beyond => kernel_rfl)
      (case ki_TooOld_Broken => kernel_rfl)
      (case ki_TooOld_Busy => kernel_rfl)
      (case ki_TooOld_DeedError => kernel_rfl)
      (case ki_TooOld_Doubled => kernel_rfl)
      (case ki_TooOld_Fenced => kernel_rfl)
      (case ki_TooOld_Gap => kernel_rfl)
      (case ki_TooOld_Gone => kernel_rfl)
      (case ki_TooOld_Late => kernel_rfl)
      (case ki_TooOld_LoanError => kernel_rfl)
      (case ki_TooOld_Needed => kernel_rfl)
      (case ki_TooOld_NoDeed => kernel_rfl)
      (case ki_TooOld_NoSuch => kernel_rfl)
      (case ki_TooOld_NotYours => kernel_rfl)
      (case ki_TooOld_RowError => kernel_rfl)
      (case ki_TooOld_SenderError => kernel_rfl)
      (case ki_TooOld_TooOld => kernel_rfl)
      (case ki_TooOld_Twice => kernel_rfl)
      (case ki_TooOld_ValueError => kernel_rfl)
      (case ki_TooOld_WrongKind => kernel_rfl)
      (case xx_Twice => kernel_rfl)
      (case kc_Twice => k_is)
      (case sa_Twice => k_is)
      (case ga_Twice => k_is)
      (case gn_Twice => k_is)
      (case hd_Twice => k_is)
      (case no_Twice_loan => k_is)
      (case no_Twice_row => k_is)
      (case em_Twice_CellarError => kernel_rfl)
      (case xq_Twice => k_is)
      (case ki_Twice_BadWord => kernel_rfl)
      (case ki_Twice_Beyond => kernel_rfl)
      (case ki_Twice_Broken => kernel_rfl)
      (case ki_Twice_Busy => kernel_rfl)
      (case ki_Twice_DeedError => kernel_rfl)
      (case ki_Twice_Doubled => kernel_rfl)
      (case ki_Twice_Fenced => kernel_rfl)
      (case ki_Twice_Gap => kernel_rfl)
      (case ki_Twice_Gone => kernel_rfl)
      (case ki_Twice_Late => kernel_rfl)
      (case ki_Twice_LoanError => kernel_rfl)
      (case ki_Twice_Needed => kernel_rfl)
      (case ki_Twice_NoDeed => kernel_rfl)
      (case ki_Twice_NoSuch => kernel_rfl)
      (case ki_Twice_NotYours => kernel_rfl)
      (case ki_Twice_RowError => kernel_rfl)
      (case ki_Twice_SenderError => kernel_rfl)
      (case ki_Twice_TooOld => kernel_rfl)
      (case ki_Twice_Twice => kernel_rfl)
      (case ki_Twice_ValueError => kernel_rfl)
      (case ki_Twice_WrongKind => kernel_rfl)
      (case xx_WrongKind => kernel_rfl)
      (case kc_WrongKind => k_is)
      (case sa_WrongKind => k_is)
      (case ga_WrongKind => k_is)
      (case gn_WrongKind => k_is)
      (case hd_WrongKind => k_is)
      (case no_WrongKind_row => k_is)
      (case em_WrongKind_CellarError => kernel_rfl)
      (case xq_WrongKind => k_is)
      (case ki_WrongKind_BadWord => kernel_rfl)
      (case ki_WrongKind_Beyond => kernel_rfl)
      (case ki_WrongKind_Broken => kernel_rfl)
      (case ki_WrongKind_Busy => kernel_rfl)
      (case ki_WrongKind_DeedError => kernel_rfl)
      (case ki_WrongKind_Doubled => kernel_rfl)
      (case ki_WrongKind_Fenced => kernel_rfl)
      (case ki_WrongKind_Gap => kernel_rfl)
      (case ki_WrongKind_Gone => kernel_rfl)
      (case ki_WrongKind_Late => kernel_rfl)
      (case ki_WrongKind_LoanError => kernel_rfl)
      (case ki_WrongKind_Needed => kernel_rfl)
      (case ki_WrongKind_NoDeed => kernel_rfl)
      (case ki_WrongKind_NoSuch => kernel_rfl)
      (case ki_WrongKind_NotYours => kernel_rfl)
      (case ki_WrongKind_RowError => kernel_rfl)
      (case ki_WrongKind_SenderError => kernel_rfl)
      (case ki_WrongKind_TooOld => kernel_rfl)
      (case ki_WrongKind_Twice => kernel_rfl)
      (case ki_WrongKind_ValueError => kernel_rfl)
      (case ki_WrongKind_WrongKind => kernel_rfl)
      (case z_ValueError => k_is)
      (case z_isinstance => k_is)
      (case z_len => k_is)
      (case z_range => k_is)
      (case z_str => k_is)
    obtain ⟨t, T⟩ := T
    have e0 := hmg.symm.trans T.m_law
    cases e0
    exact ⟨_, T.bl_law, fun base kb nb => K06.ok_law T⟩
#print axioms PySem.Challenge.cw_lettercell_k06_what_is_refused_holds

