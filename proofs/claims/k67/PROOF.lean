import PyProof.Rows.All
import Wide.All
import OpenK.AllK
import Wide.FinOn
import Lean
import PyProof.EqAt
import PyProof.EqKinds
import PyProof.TupleCall
import KE.KRevIter
import PyProof.StationsW
import PyProof.ExcBaseAll.ValueError
import PyProof.ExcInit
import PyProof.InstStoreFacts
import KE.KTryMore
import PyProof.NsDelKeeps
import KE.KIsAll
import KE.KDictSum
import PySem.Challenge.RW_lettercell_k67_whole_what_stands_tells_a
-- CHANGE: your row's module here, as the last of these rows
set_option Elab.async false
set_option linter.all false
set_option maxRecDepth 100000
/-! THE HAND LAYER, for ints, bools, texts, own classes, LISTS and tuples (index, slices, in, append, pop ..), calls, loops. Paste it whole ahead of your own text; what your proof does not reach may be deleted. -/
namespace L2
open PySem PySem.Spec PyProof.Rows

/-- a key: an int or a str -/
abbrev Key := Sum Int Str
def keyIs : Key → Value → Bool
  | .inl k, v => Value.isInt k v
  | .inr x, v => Value.isStrOf x v
def keyH (w : World) : Key → Int
  | .inl k => hashInt k
  | .inr x => hashStr w x
theorem keyIs_shape : ∀ {k : Key} {v : Value}, keyIs k v = true → (∃ i t, k = Sum.inl i ∧ v = Value.int i t) ∨ (∃ x t, k = Sum.inr x ∧ v = Value.str x t)
  | .inl i, v, h => by
    obtain ⟨t, e⟩ := Value.isInt_shape (k := i) (v := v) h
    exact .inl ⟨i, t, rfl, e⟩
  | .inr x, v, h => by
    obtain ⟨t, e⟩ := Value.isStrOf_shape (x := x) (v := v) h
    exact .inr ⟨x, t, rfl, e⟩
theorem keyIs_int (i : Int) (t : Tok) : keyIs (.inl i) (.int i t) = true := by simp [keyIs, Value.isInt]
theorem keyIs_str (x : Str) (t : Tok) : keyIs (.inr x) (.str x t) = true := by simp [keyIs, Value.isStrOf]
theorem key_ll (a b : Int) : decide ((Sum.inl a : Key) = Sum.inl b) = (a == b) := by
  by_cases e : a = b
  · subst e; simp
  · have h : ¬ (Sum.inl a : Key) = Sum.inl b := fun q => e (Sum.inl.inj q)
    rw [decide_eq_false h]
    exact (beq_eq_false_iff_ne.mpr e).symm
theorem key_rr (a b : Str) : decide ((Sum.inr a : Key) = Sum.inr b) = decide (a = b) := by
  by_cases e : a = b
  · subst e; simp
  · have h : ¬ (Sum.inr a : Key) = Sum.inr b := fun q => e (Sum.inr.inj q)
    rw [decide_eq_false h, decide_eq_false e]
theorem key_lr (a : Int) (b : Str) : decide ((Sum.inl a : Key) = Sum.inr b) = false := decide_eq_false (fun q => nomatch q)
theorem key_rl (a : Str) (b : Int) : decide ((Sum.inr a : Key) = Sum.inl b) = false := decide_eq_false (fun q => nomatch q)

def mixKind (prog : Program) (w : World) : PySem.KeyKind prog w Key where
  is := keyIs
  hash := keyH w
  inj := fun v a b ha hb => by
    rcases keyIs_shape ha with ⟨i, t, rfl, rfl⟩ | ⟨x, t, rfl, rfl⟩
    · rcases keyIs_shape hb with ⟨j, u, rfl, e⟩ | ⟨y, u, rfl, e⟩
      · injection e with e1 _; rw [e1]
      · exact nomatch e
    · rcases keyIs_shape hb with ⟨j, u, rfl, e⟩ | ⟨y, u, rfl, e⟩
      · exact nomatch e
      · injection e with e1 _; rw [e1]
  byValue := fun k v h => by
    rcases keyIs_shape h with ⟨i, t, rfl, rfl⟩ | ⟨x, t, rfl, rfl⟩ <;> rfl
  pyHash := fun hv h => by
    rcases keyIs_shape hv with ⟨i, t, rfl, rfl⟩ | ⟨x, t, rfl, rfl⟩
    · exact wpAny_pyHash_int h
    · exact wpAny_pyHash_str h
  eqBool := fun hu hv h => by
    rcases keyIs_shape hu with ⟨i, t, rfl, rfl⟩ | ⟨x, t, rfl, rfl⟩
    · rcases keyIs_shape hv with ⟨j, u, rfl, rfl⟩ | ⟨y, u, rfl, rfl⟩
      · rw [key_ll] at h; exact wpAny_eqBool_int h
      · rw [key_lr] at h; exact SeqAt.EqAt.int_str i t y u _ _ _ _ h
    · rcases keyIs_shape hv with ⟨j, u, rfl, rfl⟩ | ⟨y, u, rfl, rfl⟩
      · rw [key_rl] at h; exact SeqAt.EqAt.str_int x t j u _ _ _ _ h
      · rw [key_rr] at h; exact wpAny_eqBool_str h
  «strs» := fun k x t v h => by
    rcases keyIs_shape h with ⟨i, u, rfl, e⟩ | ⟨y, u, rfl, e⟩
    · exact nomatch e
    · injection e with e1 _
      subst e1
      cases v <;> rfl

theorem mixKind_int (prog : Program) (w : World) (i : Int) (t : Tok) : (mixKind prog w).is (.inl i) (.int i t) = true := keyIs_int i t
theorem mixKind_str (prog : Program) (w : World) (x : Str) (t : Tok) : (mixKind prog w).is (.inr x) (.str x t) = true := keyIs_str x t
end L2

namespace L2
open PySem PySem.Spec PyProof.Rows

/-- a value, without the heap -/
inductive V where
  | non | bl (b : Bool) | int (i : Int) | str (x : Str) | byt (b : Array UInt8) | flt (b : UInt64) | ref (a : Addr) | ty (n : String)
  deriving DecidableEq

def RelV : V → Value → Prop
  | .non, u => u = Value.none
  | .bl b, u => u = Value.bool b
  | .int i, u => ∃ t, u = Value.int i t
  | .str x, u => ∃ t, u = Value.str x t
  | .byt b, u => ∃ t, u = Value.bytes b t
  | .flt b, u => ∃ t, u = Value.float b t
  | .ref a, u => u = Value.ref a
  | .ty n, u => u = Value.type n

abbrev Vals : List V → List Value → Prop := Paired RelV
theorem Vals.length {xs : List V} {us : List Value} (r : Vals xs us) : xs.length = us.length := Paired.length r
theorem Vals.get : ∀ {xs : List V} {us : List Value} {i : Nat} {x : V}, Vals xs us → xs[i]? = some x → ∃ u, us[i]? = some u ∧ RelV x u
  | _, _, _, _, .nil, e => by simp at e
  | _, _, 0, _, .cons r _, e => by simp at e; subst e; exact ⟨_, rfl, r⟩
  | _, _, i + 1, x, .cons _ t, e => by
    obtain ⟨u, h1, h2⟩ := Vals.get (i := i) (x := x) t (by simpa using e)
    exact ⟨u, by simpa using h1, h2⟩
theorem Vals.set {x : V} {u : Value} (r : RelV x u) : ∀ {xs : List V} {us : List Value} (i : Nat), Vals xs us → Vals (xs.set i x) (us.set i u)
  | _, _, _, .nil => .nil
  | _, _, 0, .cons _ t => .cons r t
  | _, _, i + 1, .cons q t => .cons q (Vals.set r i t)
theorem Vals.append : ∀ {xs ys : List V} {us ws : List Value}, Vals xs us → Vals ys ws → Vals (xs ++ ys) (us ++ ws)
  | _, _, _, _, .nil, s => s
  | _, _, _, _, .cons r t, s => .cons r (Vals.append t s)
theorem Vals.take : ∀ {xs : List V} {us : List Value} (n : Nat), Vals xs us → Vals (xs.take n) (us.take n)
  | _, _, 0, _ => .nil
  | _, _, _ + 1, .nil => .nil
  | _, _, n + 1, .cons r t => .cons r (Vals.take n t)
theorem Vals.drop : ∀ {xs : List V} {us : List Value} (n : Nat), Vals xs us → Vals (xs.drop n) (us.drop n)
  | _, _, 0, r => r
  | _, _, _ + 1, .nil => .nil
  | _, _, n + 1, .cons _ t => Vals.drop n t
theorem Vals.none_of : ∀ {xs : List V} {us : List Value} {i : Nat}, Vals xs us → xs[i]? = none → us[i]? = none := fun {xs us i} r e => by
  have h1 := r.length
  have h2 : xs.length ≤ i := List.getElem?_eq_none_iff.mp e
  exact List.getElem?_eq_none_iff.mpr (by omega)

def RelO : Option V → Option Value → Prop
  | some v, some u => RelV v u
  | none, none => True
  | _, _ => False
def KV {κ : Type} : List (κ × V) → List (κ × Value) → Prop := Paired fun (p : κ × V) (q : κ × Value) => p.1 = q.1 ∧ RelV p.2 q.2

/-- a key of a dict (00_mix): an int or a text -/
def kV : Key → V
  | .inl i => .int i
  | .inr x => .str x

/-- what stands at a tracked address -/
inductive HO where
  /-- a list -/
  | lst (xs : List V)
  /-- a tuple (never changes) -/
  | tup (xs : List V)
  /-- a dict whose keys are ints and texts; one whose keys are tuples of ints and texts (the empty one is both) -/
  | dK (kvs : List (Key × V)) | dT (kvs : List (List Key × V))
  /-- a set of ints: its members, its size -/
  | set (S : Int → Bool) (n : Nat)
  /-- an instance of the class at C, its dict at dx, its attributes -/
  | ins (C dx : Addr) (fs : List (Str × V))
  /-- the dict of the instance at x -/
  | own (x : Addr)
  /-- the dict of an exception -/
  | xd (fs : List (Str × V))
  /-- a bound method, f of x -/
  | met (f x : Addr)
  /-- a range object lo, lo + 1, .. below hi -/
  | rng (lo hi : Int)
  /-- a thing that is known to the object (the script; a dict while a loop walks it): read, never written while it is so -/
  | frz (o : Obj) (u : HO)
  /-- a code object's table -/
  | tbl (ps : Array Value)
  /-- any other thing, by what is true of its one object (a def of one's own: SetO a S n := HO.ext fun h => ..) -/
  | ext (φ : Heap → Prop)

abbrev Hp := Addr → Option HO
def upd (H : Hp) (a : Addr) (o : HO) : Hp := fun b => if b = a then some o else H b
theorem upd_same {H : Hp} {a : Addr} {o : HO} : upd H a o a = some o := by unfold upd; rw [if_pos rfl]
theorem upd_ne {H : Hp} {a b : Addr} {o : HO} (h : b ≠ a) : upd H a o b = H b := by unfold upd; rw [if_neg h]
/-- two objects of different content stand apart -/
theorem ne_of {H : Hp} {a b : Addr} {o u : HO} (h : H a = some o) (h' : H b = some u) (d : o ≠ u) : a ≠ b := by
  intro e; subst e; rw [h] at h'; exact d (Option.some.inj h')
theorem ne_of_none {H : Hp} {a b : Addr} {o : HO} (h : H a = some o) (h' : H b = none) : a ≠ b := by
  intro e; subst e; rw [h] at h'; cases h'

section
variable (P : Program) (w : World)
def ObjOk (H : Hp) (h : Heap) (a : Addr) : HO → Prop
  | .lst xs => xs.length ≤ sizeLine ∧ ∃ (its : List Value) (n : Nat), Vals xs its ∧ h.get? a = some { cls := .type "list", data := .seq its.toArray n }
  | .tup xs => xs.length ≤ sizeLine ∧ ∃ its : List Value, Vals xs its ∧ IsTup h a its.toArray
  | .dK kvs => kvs.length ≤ sizeLine ∧ (a == sysModules) = false ∧ ∃ vs, KV kvs vs ∧ h.DictOf (mixKind P w) a vs
  | .dT kvs => kvs.length ≤ sizeLine ∧ (a == sysModules) = false ∧ ∃ xs : List (List Key × Addr × Value),
      Paired (fun (p : List Key × V) (q : List Key × Addr × Value) => p.1 = q.1 ∧ H q.2.1 = some (.tup (p.1.map kV)) ∧ RelV p.2 q.2.2) kvs xs ∧
      ∃ o es ep, h.get? a = some o ∧ o.ExactDict ∧ o.data = .dict es ep ∧ es.toList = xs.map (entryOfKey (tupleKind (mixKind P w))) ∧ (xs.map (·.1)).Nodup
  | .set S n => h.SetOf (intKind P w) a S n
  | .ins C dx fs => H dx = some (.own a) ∧ fs.length ≤ 1000 ∧ dx ≠ a ∧ h.get? a = some (PySem.W.instObj C dx) ∧
      ∃ mA, h.Ns1 dx mA ∧ (∀ f, RelO (fs.lookup f) (mA f)) ∧ PySem.Within mA (fs.map (·.1))
  | .own _ => ∃ o, h.get? a = some o
  | .xd fs => ∃ mA, h.Ns1 a mA ∧ ∀ f, RelO (fs.lookup f) (mA f)
  | .rng lo hi => ∃ t u v, h.get? a = some { cls := .type "range", data := .fields #[.int lo t, .int hi u, .int 1 v] }
  | .frz o u => h.get? a = some o ∧ ObjOk H h a u
  | .tbl ps => h.get? a = some { cls := .none, data := .fields ps }
  | .met f x => h.get? a = some (PySem.W.methodObj (.ref f) (.ref x))
  | .ext φ => φ h ∧ (∃ o, h.get? a = some o) ∧ ∀ h1 h2 : Heap, φ h1 → (∀ o, h1.get? a = some o → h2.get? a = some o) → φ h2
/-- the abstract heap is held -/
def HOk (H : Hp) (h : Heap) : Prop := ∀ a o, H a = some o → ObjOk P w H h a o
end

section
variable {P : Program} {w : World} {H H' : Hp} {h h' : Heap} {a : Addr} {o : HO}
theorem ObjOk.lt (x : ObjOk P w H h a o) : a < h.objs.size := by
  cases o with
  | lst xs => obtain ⟨_, _, _, _, e⟩ := x; exact Heap.lt_size e
  | tup xs => obtain ⟨_, _, _, p⟩ := x; exact p.lt
  | dK kvs => obtain ⟨_, _, _, _, o, _, _, e, _⟩ := x; exact Heap.lt_size e
  | dT kvs => obtain ⟨_, _, _, _, o, _, _, e, _⟩ := x; exact Heap.lt_size e
  | set S n => obtain ⟨o, _, _, _, e, _⟩ := x; exact Heap.lt_size e
  | ins C dx fs => obtain ⟨_, _, _, e, _⟩ := x; exact Heap.lt_size e
  | own y => obtain ⟨_, e⟩ := x; exact Heap.lt_size e
  | xd fs => obtain ⟨_, ⟨_, _, _, e, _⟩, _⟩ := x; exact Heap.lt_size e
  | rng lo hi => obtain ⟨_, _, _, e⟩ := x; exact Heap.lt_size e
  | frz ob u => obtain ⟨e, _⟩ := x; exact Heap.lt_size e
  | tbl ps => exact Heap.lt_size (show h.get? a = some _ from x)
  | met f y => exact Heap.lt_size (show h.get? a = some _ from x)
  | ext φ => obtain ⟨_, ⟨_, e⟩, _⟩ := x; exact Heap.lt_size e
theorem Paired.mapP {α β : Type} {F G : α → β → Prop} : ∀ {l₁ : List α} {l₂ : List β}, Paired F l₁ l₂ → (∀ a b, F a b → G a b) → Paired G l₁ l₂
  | _, _, .nil, _ => .nil
  | _, _, .cons r t, f => .cons (f _ _ r) (Paired.mapP t f)
/-- what an object's description leans on: its own object, its own dict, the tuples -/
theorem ObjOk.stay (x : ObjOk P w H h a o) (k : ∀ b u, (b = a ∨ H b = some (.own a)) → h.get? b = some u → h'.get? b = some u)
    (ho : ∀ b, H b = some (.own a) → H' b = some (.own a)) (ht : ∀ b xs, H b = some (.tup xs) → H' b = some (.tup xs)) : ObjOk P w H' h' a o := by
  induction o with
  | lst xs => obtain ⟨z, its, n, r, e⟩ := x; exact ⟨z, its, n, r, k _ _ (.inl rfl) e⟩
  | tup xs => obtain ⟨z, its, r, ob, e, c⟩ := x; exact ⟨z, its, r, ob, k _ _ (.inl rfl) e, c⟩
  | dK kvs => obtain ⟨z, y, vs, r, ob, es, ep, e, c⟩ := x; exact ⟨z, y, vs, r, ob, es, ep, k _ _ (.inl rfl) e, c⟩
  | dT kvs =>
    obtain ⟨z, y, xs, r, ob, es, ep, e, c⟩ := x
    exact ⟨z, y, xs, Paired.mapP r fun p q z => ⟨z.1, ht _ _ z.2.1, z.2.2⟩, ob, es, ep, k _ _ (.inl rfl) e, c⟩
  | set S n => obtain ⟨ob, es, ep, t, e, c⟩ := x; exact ⟨ob, es, ep, t, k _ _ (.inl rfl) e, c⟩
  | ins C dx fs =>
    obtain ⟨d, z, ne, e, mA, ⟨od, es, ep, e2, c⟩, r⟩ := x
    exact ⟨ho _ d, z, ne, k _ _ (.inl rfl) e, mA, ⟨od, es, ep, k _ _ (.inr d) e2, c⟩, r⟩
  | own y => obtain ⟨ob, e⟩ := x; exact ⟨ob, k _ _ (.inl rfl) e⟩
  | xd fs => obtain ⟨mA, ⟨od, es, ep, e, c⟩, r⟩ := x; exact ⟨mA, ⟨od, es, ep, k _ _ (.inl rfl) e, c⟩, r⟩
  | rng lo hi => obtain ⟨t, u, v, e⟩ := x; exact ⟨t, u, v, k _ _ (.inl rfl) e⟩
  | frz ob u ih => obtain ⟨e, q⟩ := x; exact ⟨k _ _ (.inl rfl) e, ih q⟩
  | tbl ps =>
    have e : h.get? a = some { cls := .none, data := .fields ps } := x
    show h'.get? a = some { cls := .none, data := .fields ps }
    exact k a _ (.inl rfl) e
  | met f y =>
    have e : h.get? a = some (PySem.W.methodObj (.ref f) (.ref y)) := x
    show h'.get? a = some (PySem.W.methodObj (.ref f) (.ref y))
    exact k a _ (.inl rfl) e
  | ext φ => obtain ⟨p, ⟨o, e⟩, st⟩ := x; exact ⟨st _ _ p fun o q => k _ _ (.inl rfl) q, ⟨o, k _ _ (.inl rfl) e⟩, st⟩
theorem HOk.lt (x : HOk P w H h) (e : H a = some o) : a < h.objs.size := (x a o e).lt
theorem HOk.fresh (x : HOk P w H h) (e : h.objs.size ≤ a) : H a = none := by
  cases q : H a with
  | none => rfl
  | some u => exact absurd (Nat.lt_of_lt_of_le (x.lt q) e) (Nat.lt_irrefl _)
/-- every object of the heap is kept -/
theorem HOk.kept (x : HOk P w H h) (k : ∀ b u, h.get? b = some u → h'.get? b = some u) : HOk P w H h' := fun a o e =>
  (x a o e).stay (fun b u _ q => k b u q) (fun _ q => q) fun _ _ q => q
/-- a new object is laid and tracked -/
theorem HOk.laid (x : HOk P w H h) (k : ∀ b u, h.get? b = some u → h'.get? b = some u) (hp : h.objs.size ≤ a) (new : ObjOk P w (upd H a o) h' a o) : HOk P w (upd H a o) h' := fun b u e => by
  have hn := x.fresh hp
  by_cases hb : b = a
  · subst hb; rw [upd_same] at e; cases e; exact new
  · rw [upd_ne hb] at e
    exact (x b u e).stay (fun c v _ q => k c v q) (fun c q => by rw [upd_ne (ne_of_none q hn)]; exact q) fun c xs q => by rw [upd_ne (ne_of_none q hn)]; exact q
end

/-- what may be read as u: it is u, or a known u -/
def Rd (H : Hp) (a : Addr) (u : HO) : Prop := H a = some u ∨ ∃ o, H a = some (.frz o u)
theorem Rd.of {H : Hp} {a : Addr} {u : HO} (h : H a = some u) : Rd H a u := .inl h
theorem Rd.ok {P : Program} {w : World} {H : Hp} {h : Heap} {a : Addr} {u : HO} (r : Rd H a u) (x : HOk P w H h) : ObjOk P w H h a u := by
  rcases r with r | ⟨o, r⟩
  · exact x a u r
  · obtain ⟨_, q⟩ := x a _ r
    exact q
/-- what may be written -/
def Mut : Option HO → Prop
  | some (.lst _) => True
  | some (.dK _) => True
  | some (.dT _) => True
  | some (.set _ _) => True
  | some (.ins _ _ _) => True
  | some (.ext _) => True
  | _ => False
section
variable {P : Program} {w : World} {H : Hp} {h h' : Heap} {x e : Addr} {o' : HO}
/-- the object at e is changed: x itself, or the dict of the instance x -/
theorem HOk.write (ok : HOk P w H h) (mu : Mut (H x)) (he : e = x ∨ H e = some (.own x)) (k : ∀ b u, b ≠ e → h.get? b = some u → h'.get? b = some u) (heo : ∃ u, h'.get? e = some u)
    (new : ObjOk P w (upd H x o') h' x o') : HOk P w (upd H x o') h' := fun b u q => by
  have nown : ∀ c y, H c = some (.own y) → c ≠ x := fun c y r z => by subst z; rw [r] at mu; exact mu
  have ntup : ∀ c xs, H c = some (.tup xs) → c ≠ x := fun c xs r z => by subst z; rw [r] at mu; exact mu
  by_cases hb : b = x
  · subst hb; rw [upd_same] at q; cases q; exact new
  · rw [upd_ne hb] at q
    by_cases hbe : b = e
    · have q' : H b = some (.own x) := by
        rcases he with z | z
        · exact absurd (hbe.trans z) hb
        · rw [hbe]; exact z
      rw [q] at q'; cases q'
      obtain ⟨v, hv⟩ := heo
      exact ⟨v, by rw [hbe]; exact hv⟩
    · refine (ok b u q).stay (fun c v hc r => k c v ?_ r) (fun c r => by rw [upd_ne (nown c b r)]; exact r) fun c xs r => by rw [upd_ne (ntup c xs r)]; exact r
      rcases hc with rfl | hc
      · exact hbe
      · rintro rfl
        rcases he with z | z
        · exact nown c b hc z
        · rw [hc] at z; cases z; exact hb rfl
end

/-! ### kept unless tracked; of the frames at fs (the callers') the slots may change (an exception that passes writes there); of the records at ex (iterators) nothing is said -/
structure Un (fs ex : List Addr) (H H' : Hp) (h h' : Heap) : Prop where
  keep : ∀ b o, h.get? b = some o → H b = none → b ∉ fs → b ∉ ex → h'.get? b = some o
  slot : ∀ b o, h.get? b = some o → H b = none → b ∈ fs → b ∉ ex → ∃ sl, h'.get? b = some { o with slots := sl }
  free : ∀ b o, h.get? b = some o → H b = none → b ∉ ex → H' b = none
  there : ∀ b o, h.get? b = some o → b ∉ ex → ∃ o', h'.get? b = some o'
  tups : ∀ b xs, H b = some (.tup xs) → H' b = some (.tup xs)
  frzs : ∀ b o u, H b = some (.frz o u) → H' b = some (.frz o u)
  tbls : ∀ b ps, H b = some (.tbl ps) → ∃ more, H' b = some (.tbl (ps ++ more))
section
variable {fs fs' ex ex' : List Addr} {H H1 H2 : Hp} {h h1 h2 h' : Heap} {a x e : Addr} {o : HO}
theorem Un.any (u : Un fs ex H H1 h h1) {b : Addr} {ob : Obj} (q : h.get? b = some ob) (n : H b = none) (hx : b ∉ ex) : ∃ sl, h1.get? b = some { ob with slots := sl } := by
  by_cases hb : b ∈ fs
  · exact u.slot b ob q n hb hx
  · exact ⟨ob.slots, u.keep b ob q n hb hx⟩
theorem Un.trans (a : Un fs ex H H1 h h1) (b : Un fs ex H1 H2 h1 h2) : Un fs ex H H2 h h2 where
  keep := fun c ob q n hc hx => b.keep c ob (a.keep c ob q n hc hx) (a.free c ob q n hx) hc hx
  slot := fun c ob q n hc hx => by
    obtain ⟨sl, e1⟩ := a.slot c ob q n hc hx
    obtain ⟨sl', e2⟩ := b.slot c _ e1 (a.free c ob q n hx) hc hx
    exact ⟨sl', e2⟩
  free := fun c ob q n hx => by
    obtain ⟨o', e1⟩ := a.there c ob q hx
    exact b.free c o' e1 (a.free c ob q n hx) hx
  there := fun c ob q hx => by
    obtain ⟨o', e1⟩ := a.there c ob q hx
    exact b.there c o' e1 hx
  tups := fun c xs q => b.tups c xs (a.tups c xs q)
  frzs := fun c ob xs q => b.frzs c ob xs (a.frzs c ob xs q)
  tbls := fun c ps q => by
    obtain ⟨m1, e1⟩ := a.tbls c ps q
    obtain ⟨m2, e2⟩ := b.tbls c _ e1
    exact ⟨m1 ++ m2, by rw [e2, Array.append_assoc]⟩
theorem Un.kept (k : ∀ b u, h.get? b = some u → h'.get? b = some u) : Un fs ex H H h h' :=
  ⟨fun b ob q _ _ _ => k b ob q, fun b ob q _ _ _ => ⟨ob.slots, k b ob q⟩, fun _ _ _ n _ => n, fun b ob q _ => ⟨ob, k b ob q⟩, fun _ _ q => q, fun _ _ _ q => q, fun _ ps q => ⟨#[], by rw [q]; simp⟩⟩
theorem Un.refl : Un fs ex H H h h := Un.kept fun _ _ q => q
theorem Un.laid (k : ∀ b u, h.get? b = some u → h'.get? b = some u) (hp : h.objs.size ≤ a) (hn : H a = none) : Un fs ex H (upd H a o) h h' where
  keep := fun b u q _ _ _ => k b u q
  slot := fun b u q _ _ _ => ⟨u.slots, k b u q⟩
  free := fun b u q n _ => by rw [upd_ne (Nat.ne_of_lt (Nat.lt_of_lt_of_le (Heap.lt_size q) hp))]; exact n
  there := fun b u q _ => ⟨u, k b u q⟩
  tups := fun b xs q => by rw [upd_ne (ne_of_none q hn)]; exact q
  frzs := fun b u xs q => by rw [upd_ne (ne_of_none q hn)]; exact q
  tbls := fun b ps q => ⟨#[], by rw [upd_ne (ne_of_none q hn), q]; simp⟩
theorem Un.write (mu : Mut (H x)) (he : e = x ∨ H e = some (.own x)) (k : ∀ b u, b ≠ e → h.get? b = some u → h'.get? b = some u) (heo : ∃ u, h'.get? e = some u) : Un fs ex H (upd H x o) h h' := by
  have hx : ∀ b, H b = none → b ≠ x := fun b n z => by subst z; rw [n] at mu; exact mu
  have hb : ∀ b, H b = none → b ≠ e := fun b n z => by
    subst z
    rcases he with r | r
    · exact hx b n r
    · rw [n] at r; cases r
  have hm : ∀ b u, H b = some u → ¬ Mut (some u) → b ≠ x := fun b u q nm z => by subst z; rw [q] at mu; exact nm mu
  refine ⟨fun b u q n _ _ => k b u (hb b n) q, fun b u q n _ _ => ⟨u.slots, k b u (hb b n) q⟩, fun b u q n _ => by rw [upd_ne (hx b n)]; exact n, fun b u q _ => ?_,
    fun b xs q => by rw [upd_ne (hm b _ q fun z => z)]; exact q, fun b u xs q => by rw [upd_ne (hm b _ q fun z => z)]; exact q, fun b ps q => ⟨#[], by rw [upd_ne (hm b _ q fun z => z), q]; simp⟩⟩
  by_cases hbe : b = e
  · subst hbe; exact heo
  · exact ⟨u, k b u hbe q⟩
theorem Un.mono (u : Un fs ex H H1 h h1) (hs : ∀ b ∈ fs, b ∈ fs') (hx : ∀ b ∈ ex, b ∈ ex') : Un fs' ex' H H1 h h1 :=
  ⟨fun b ob q n hb he => u.keep b ob q n (fun z => hb (hs b z)) fun z => he (hx b z), fun _ _ q n _ he => u.any q n fun z => he (hx _ z), fun b ob q n he => u.free b ob q n fun z => he (hx b z), fun b ob q he => u.there b ob q fun z => he (hx b z), u.tups, u.frzs, u.tbls⟩
end

/-! ### the heap without what is tracked -/
def trk (h : Heap) (H : Hp) : List Addr := (List.range h.objs.size).filter fun a => (H a).isSome
def hidT (h : Heap) (H : Hp) : Heap := PySem.W.hideAll h (trk h H)
theorem hidT_size (h : Heap) (H : Hp) : (hidT h H).objs.size = h.objs.size := PySem.W.hideAll_size _ _
theorem hidT_get {h : Heap} {H : Hp} {b : Addr} {o : Obj} (e : h.get? b = some o) (n : H b = none) : (hidT h H).get? b = some o :=
  PySem.W.hideAll_get _ e fun hm => by
    have q : (H b).isSome = true := (List.mem_filter.mp hm).2
    rw [n] at q; simp at q
theorem of_hidT {h : Heap} {H : Hp} {b : Addr} {o : Obj} (e : (hidT h H).get? b = some o) : h.get? b = some o ∧ H b = none := by
  have e' : h.get? b = some o := PySem.W.of_hideAll (trk h H) e
  refine ⟨e', ?_⟩
  cases q : H b with
  | none => rfl
  | some x =>
    have hm : b ∈ trk h H := List.mem_filter.mpr ⟨List.mem_range.mpr (Heap.lt_size e'), by simp [q]⟩
    have z : (hidT h H).get? b = none := PySem.W.hideAll_none (trk h H) hm
    rw [z] at e; cases e

/-! ### OpenK's ledger, filled with every new object but one -/
def allNews (g h : Heap) (L : Addr) : List (Addr × Obj) := (List.range h.objs.size).filterMap fun a => if a = L ∨ (g.get? a).isSome = true then none else (h.get? a).map fun o => (a, o)
def rest (g h : Heap) (L d : Addr) : List (Addr × Obj) := (allNews g h L).filter fun p => decide (p.1 ≠ d)
end L2

namespace L2
open PySem PySem.Spec PyProof.Rows

/-- the module's facts, over the base: the heap at the law's entry without what is tracked there -/
structure Mod (K : PySem.W.Frag) (mg : Str → Option Value) (base : Heap) : Prop where
  kin : K.In base
  glob : base.Ns mainGlobals mg
  blt : ∃ mb, base.Ns builtinsNs mb ∧ ∀ x : Str, x ≠ "__name__" → mb x = bootBuiltins x
  nolimit : base.NoLimit

/-- the context: a def's body (or a comprehension's block) running. base: fixed through the whole law; s₀, H₀: the entry; outer: the frames whose slots others may change (a def's callers); stack: all frames that run;
   ex: iterators that were made ahead of the entry and are walked here (a comprehension's); fn: the names whose cells were made at the entry (a def: all; a comprehension's block: its own); calm: not within an except suite; pn: pins that every state bears; xe: what is wanted of an exception that leaves the code -/
structure Cx where
  prog : Program
  w : World
  K : PySem.W.Frag
  mg : Str → Option Value
  base : Heap
  A : Around
  N : List Str
  s₀ : Shared
  H₀ : Hp
  env : Env
  outer : List Env
  stack : List Env
  ex : List Addr
  fn : Str → Bool
  calm : Bool
  pn : List (Addr × Obj)
  xe : Value → Shared → Prop
/-- the callers' frames -/
def frs (l : List Env) : List Addr := l.filterMap (·.frame)
abbrev Cx.fs (X : Cx) : List Addr := frs X.outer

def Vis (sc : Scope) (x : Str) : Prop := sc.names.lookup x = some .local ∨ sc.names.lookup x = some .cell ∨ sc.names.lookup x = some .free
def Loc (sc : Scope) (x : Str) : Prop := sc.names.lookup x = some .local ∨ sc.names.lookup x = some .cell
def Look (env : Env) (h : Heap) (m : Str → Option Value) (x : Str) (u : Value) : Prop :=
  (env.kindOf x = some .local ∧ m x = some u) ∨ ((env.kindOf x = some .cell ∨ env.kindOf x = some .free) ∧ ∃ c, env.cells.lookup x = some c ∧ h.IsCell c (some u))

structure Cx.Ok (X : Cx) : Prop where
  mod : Mod X.K X.mg X.base
  kind : X.env.scope.kind = .function
  glob : X.env.globals = mainGlobals
  blt : X.env.builtins = builtinsNs
  above : X.s₀.heap.objs.size ≤ X.env.locals
  inj : ∀ x y c, X.env.cells.lookup x = some c → X.env.cells.lookup y = some c → x = y
  has : ∀ x, (X.env.kindOf x = some .cell ∨ X.env.kindOf x = some .free) → ∃ c, X.env.cells.lookup x = some c
  cab : ∀ x c, X.fn x = true → X.env.cells.lookup x = some c → X.s₀.heap.objs.size ≤ c
  hd : X.calm = true → X.A.handled = none
  frames : X.A.frames = some X.stack
  stk : X.stack = X.outer ∨ (X.stack = X.env :: X.outer ∧ X.env.frame = some X.env.locals)
  exf : ∀ b ∈ X.ex, b ≠ X.env.locals ∧ ∀ x c, X.env.cells.lookup x = some c → c ≠ b
  bs : ∀ b o, X.base.get? b = some o → X.s₀.heap.get? b = some o ∧ X.H₀ b = none
  bsz : X.base.objs.size ≤ X.s₀.heap.objs.size
  noex : ∀ b o, X.base.get? b = some o → b ∉ X.ex
  exfs : ∀ b ∈ X.ex, b ∉ X.fs
  funs : X.s₀.heap.FunFrames X.base X.outer
  frf : ∀ b ∈ X.fs, X.H₀ b = none

structure Inv (X : Cx) (pins : List (Addr × Obj)) (σ : List (Option V)) (H : Hp) (s : Shared) : Prop where
  ok : X.Ok
  os : s.os = X.s₀.os
  bare : AllBare s.gens
  base : Un X.fs X.ex X.H₀ H X.s₀.heap s.heap
  loc : ∃ m, s.heap.Ns X.env.locals m ∧ ∀ (i : Nat) (x : Str) (v : V), X.N[i]? = some x → σ[i]? = some (some v) → Vis X.env.scope x → ∃ u, RelV v u ∧ Look X.env s.heap m x u
  cell : ∀ x c, X.env.cells.lookup x = some c → ∃ v, s.heap.IsCell c v
  free : H X.env.locals = none
  freeC : ∀ x c, X.env.cells.lookup x = some c → H c = none
  pin : ∀ p ∈ X.pn ++ pins, s.heap.get? p.1 = some p.2 ∧ H p.1 = none ∧ p.1 ≠ X.env.locals ∧ p.1 ∉ X.fs ∧ ∀ v, p.2.data ≠ .cell v
  hok : HOk X.prog X.w H s.heap
  len : σ.length = X.N.length

section
variable {X : Cx} {pins : List (Addr × Obj)} {σ : List (Option V)} {H H' : Hp} {s : Shared} {h' : Heap}

theorem Cx.Ok.nofr (ok : X.Ok) {b : Addr} {o : Obj} (e : X.base.get? b = some o) : b ∉ X.fs := fun hb => by
  have := (ok.funs.mem hb).1
  rw [e] at this; cases this
theorem Inv.bs (I : Inv X pins σ H s) : ∀ b o, X.base.get? b = some o → s.heap.get? b = some o ∧ H b = none := fun b o e =>
  ⟨I.base.keep b o (I.ok.bs b o e).1 (I.ok.bs b o e).2 (I.ok.nofr e) (I.ok.noex b o e), I.base.free b o (I.ok.bs b o e).1 (I.ok.bs b o e).2 (I.ok.noex b o e)⟩
theorem Inv.bk (I : Inv X pins σ H s) : ∀ b o, X.base.get? b = some o → s.heap.get? b = some o := fun b o e => (I.bs b o e).1
theorem Inv.mod (I : Inv X pins σ H s) : Mod X.K X.mg X.base := I.ok.mod
theorem Inv.kIn (I : Inv X pins σ H s) : X.K.In s.heap := I.ok.mod.kin.keeps I.bk
theorem Inv.nolimit (I : Inv X pins σ H s) : s.heap.NoLimit := I.ok.mod.nolimit.keeps I.bk
/-- the frame over the base: for OpenK's rules (K.In X.base is I.mod.kin) -/
theorem Inv.fr (I : Inv X pins σ H s) : ∃ m, Fr X.base X.env.locals s.heap m :=
  let ⟨m, hn, _⟩ := I.loc
  ⟨m, hn, I.bk, Nat.le_trans I.ok.bsz I.ok.above⟩
theorem Inv.lt (I : Inv X pins σ H s) : X.env.locals < s.heap.objs.size := let ⟨_, hn, _⟩ := I.loc; hn.lt
theorem Inv.sz (I : Inv X pins σ H s) : X.s₀.heap.objs.size ≤ s.heap.objs.size := Nat.le_trans I.ok.above (Nat.le_of_lt I.lt)
theorem Inv.nofs (I : Inv X pins σ H s) {a : Addr} (h : s.heap.objs.size ≤ a) : a ∉ X.fs := fun hb => by
  obtain ⟨_, o, ho, _⟩ := I.ok.funs.mem hb
  exact absurd (Nat.lt_of_lt_of_le (Heap.lt_size ho) (Nat.le_trans I.sz h)) (Nat.lt_irrefl _)
theorem Inv.cne (I : Inv X pins σ H s) : ∀ x c, X.env.cells.lookup x = some c → c ≠ X.env.locals := fun x c e z => by
  obtain ⟨v, o, ho, hd⟩ := I.cell x c e
  obtain ⟨m, ⟨o', es, ep, ho', hd', _⟩, _⟩ := I.loc
  rw [z, ho'] at ho; cases ho; rw [hd'] at hd; cases hd
theorem Inv.funs (I : Inv X pins σ H s) : s.heap.FunFrames X.base X.outer := by
  have all : ∀ (l : List Env), (∀ b ∈ frs l, b ∈ X.fs) → X.s₀.heap.FunFrames X.base l → s.heap.FunFrames X.base l := by
    intro l
    induction l with
    | nil => intro _ _; trivial
    | cons env r ih =>
      intro hs hl
      obtain ⟨hk, ⟨L, o, hf, hn, ho, hd⟩, hr⟩ := hl
      have hL : L ∈ X.fs := hs L (by unfold frs; rw [List.filterMap_cons, hf]; exact List.mem_cons_self)
      obtain ⟨sl, e⟩ := I.base.slot L o ho (I.ok.frf L hL) hL fun z => I.ok.exfs L z hL
      exact ⟨hk, ⟨L, _, hf, hn, e, hd⟩, ih (fun b hb => hs b (by unfold frs; rw [List.filterMap_cons, hf]; exact List.mem_cons_of_mem _ hb)) hr⟩
  exact all X.outer (fun _ hb => hb) I.ok.funs

/-- the frames that run, for a call -/
theorem Inv.stack (I : Inv X pins σ H s) : s.heap.FunFrames X.base X.stack := by
  rcases I.ok.stk with e | ⟨e, hf⟩
  · rw [e]; exact I.funs
  · rw [e]
    obtain ⟨m, hn, _⟩ := I.loc
    refine .cons (by rw [I.ok.kind]; decide) hf hn ?_ I.funs
    exact Heap.get?_none_of_le (Nat.le_trans I.ok.bsz I.ok.above)
theorem Inv.stkSub (I : Inv X pins σ H s) : ∀ b ∈ frs X.stack, b ∈ X.env.locals :: X.fs := fun b hb => by
  rcases I.ok.stk with e | ⟨e, hf⟩
  · rw [e] at hb; exact List.mem_cons_of_mem _ hb
  · rw [e] at hb
    unfold frs at hb
    rw [List.filterMap_cons, hf] at hb
    exact hb
theorem Inv.stkFree (I : Inv X pins σ H s) : ∀ b ∈ frs X.stack, H b = none := fun b hb => by
  rcases List.mem_cons.mp (I.stkSub b hb) with e | hb
  · rw [e]; exact I.free
  · obtain ⟨_, o, ho, _⟩ := I.ok.funs.mem hb
    exact I.base.free b o ho (I.ok.frf b hb) fun z => I.ok.exfs b z hb

/-- THE STEP: the untracked objects but the frame and the records at ch are kept (the callers' frames up to slots), the frame's map is kept, the new abstract heap is held -/
theorem Inv.step {g' : Array GenState} {t' : Nat} {d' : Drawn} {ch : List Addr} (I : Inv X pins σ H s)
    (hch : ∀ b ∈ ch, (b ∈ X.ex ∨ X.s₀.heap.objs.size ≤ b) ∧ b ≠ X.env.locals ∧ (∀ x c, X.env.cells.lookup x = some c → c ≠ b) ∧ ∀ p ∈ X.pn ++ pins, p.1 ≠ b)
    (keep : ∀ b o, b ≠ X.env.locals → b ∉ X.fs → b ∉ ch → s.heap.get? b = some o → H b = none → h'.get? b = some o)
    (slot : ∀ b o, b ≠ X.env.locals → b ∈ X.fs → b ∉ ch → s.heap.get? b = some o → H b = none → ∃ sl, h'.get? b = some { o with slots := sl }) (free : ∀ b o, b ∉ ch → s.heap.get? b = some o → H b = none → H' b = none)
    (there : ∀ b o, b ∉ ch → s.heap.get? b = some o → ∃ o', h'.get? b = some o')
    (tups : ∀ b xs, H b = some (.tup xs) → H' b = some (.tup xs)) (frzs : ∀ b o u, H b = some (.frz o u) → H' b = some (.frz o u)) (tbls : ∀ b ps, H b = some (.tbl ps) → ∃ more, H' b = some (.tbl (ps ++ more)))
    (ns : ∀ m, s.heap.Ns X.env.locals m → h'.Ns X.env.locals m) (hok : HOk X.prog X.w H' h') (hg : AllBare g') :
    Inv X pins σ H' { s with heap := h', gens := g', drawn := d', toks := t' } := by
  have neL : ∀ b o, X.s₀.heap.get? b = some o → b ≠ X.env.locals := fun b o e => Nat.ne_of_lt (Nat.lt_of_lt_of_le (Heap.lt_size e) I.ok.above)
  have neC : ∀ b o, X.s₀.heap.get? b = some o → b ∉ X.ex → b ∉ ch := fun b o e hx hb => by
    rcases (hch b hb).1 with z | z
    · exact hx z
    · exact absurd (Nat.lt_of_lt_of_le (Heap.lt_size e) z) (Nat.lt_irrefl _)
  have cellK : ∀ x c, X.env.cells.lookup x = some c → ∀ v, s.heap.IsCell c v → h'.IsCell c v := fun x c e v ⟨o, ho, hd⟩ => by
    have nch : c ∉ ch := fun z => (hch c z).2.2.1 x c e rfl
    by_cases hc : c ∈ X.fs
    · obtain ⟨sl, q⟩ := slot c o (I.cne x c e) hc nch ho (I.freeC x c e)
      exact ⟨_, q, hd⟩
    · exact ⟨o, keep c o (I.cne x c e) hc nch ho (I.freeC x c e), hd⟩
  refine ⟨I.ok, I.os, hg, ⟨fun b o e n hb hx => ?_, fun b o e n hb hx => ?_, fun b o e n hx => ?_, fun b o e hx => ?_, fun b xs e => tups b xs (I.base.tups b xs e), fun b o xs e => frzs b o xs (I.base.frzs b o xs e), fun b ps e => ?_⟩, ?_, fun x c e => ?_, ?_, fun x c e => ?_, fun p hp => ?_, hok, I.len⟩
  · exact keep b o (neL b o e) hb (neC b o e hx) (I.base.keep b o e n hb hx) (I.base.free b o e n hx)
  · obtain ⟨sl, e1⟩ := I.base.slot b o e n hb hx
    obtain ⟨sl', e2⟩ := slot b _ (neL b o e) hb (neC b o e hx) e1 (I.base.free b o e n hx)
    exact ⟨sl', e2⟩
  · obtain ⟨o', e1⟩ := I.base.there b o e hx
    exact free b o' (neC b o e hx) e1 (I.base.free b o e n hx)
  · obtain ⟨o', e1⟩ := I.base.there b o e hx
    exact there b o' (neC b o e hx) e1
  · obtain ⟨m1, e1⟩ := I.base.tbls b ps e
    obtain ⟨m2, e2⟩ := tbls b _ e1
    exact ⟨m1 ++ m2, by rw [e2, Array.append_assoc]⟩
  · obtain ⟨m, hn, hl⟩ := I.loc
    refine ⟨m, ns m hn, fun i x v e1 e2 e3 => ?_⟩
    obtain ⟨u, r, l⟩ := hl i x v e1 e2 e3
    refine ⟨u, r, ?_⟩
    rcases l with l | ⟨k, c, e, z⟩
    · exact .inl l
    · exact .inr ⟨k, c, e, cellK x c e _ z⟩
  · obtain ⟨v, z⟩ := I.cell x c e
    exact ⟨v, cellK x c e v z⟩
  · obtain ⟨m, ⟨o, _, _, ho, _⟩, _⟩ := I.loc
    exact free _ o (fun z => (hch _ z).2.1 rfl) ho I.free
  · obtain ⟨v, o, ho, hd⟩ := I.cell x c e
    exact free c o (fun z => (hch c z).2.2.1 x c e rfl) ho (I.freeC x c e)
  · obtain ⟨e, n, ne, nf, d⟩ := I.pin p hp
    have nch : p.1 ∉ ch := fun z => (hch p.1 z).2.2.2 p hp rfl
    exact ⟨keep p.1 p.2 ne nf nch e n, free p.1 p.2 nch e n, ne, nf, d⟩
/-- .. where the frame's own object is kept too -/
theorem Inv.un {t' : Nat} (I : Inv X pins σ H s) (u : Un X.fs [] H H' s.heap h') (hok : HOk X.prog X.w H' h') : Inv X pins σ H' { s with heap := h', toks := t' } := by
  obtain ⟨m, ⟨o, es, ep, ho, r⟩, _⟩ := id I.loc
  obtain ⟨sl, hL⟩ := u.any ho I.free (by simp)
  exact I.step (g' := s.gens) (d' := s.drawn) (ch := []) (fun _ z => nomatch z) (fun b o _ hb _ e n => u.keep b o e n hb (by simp)) (fun b o _ hb _ e n => u.slot b o e n hb (by simp)) (fun b o _ e n => u.free b o e n (by simp)) (fun b o _ e => u.there b o e (by simp)) u.tups u.frzs u.tbls (fun m' hm => by
    obtain ⟨o', es', ep', ho', r'⟩ := hm
    rw [ho] at ho'; cases ho'
    exact ⟨_, es', ep', hL, r'⟩) hok I.bare
/-- behind a call (or a comprehension's block): the slots of this frame may have changed too, the records at ch may have turned -/
theorem Inv.call {g' : Array GenState} {t' : Nat} {d' : Drawn} {ch : List Addr} (I : Inv X pins σ H s) (u : Un (frs X.stack) ch H H' s.heap h') (hok : HOk X.prog X.w H' h') (hg : AllBare g')
    (hch : ∀ b ∈ ch, (b ∈ X.ex ∨ X.s₀.heap.objs.size ≤ b) ∧ b ≠ X.env.locals ∧ (∀ x c, X.env.cells.lookup x = some c → c ≠ b) ∧ ∀ p ∈ X.pn ++ pins, p.1 ≠ b) :
    Inv X pins σ H' { s with heap := h', gens := g', drawn := d', toks := t' } := by
  obtain ⟨m, ⟨o, es, ep, ho, r⟩, _⟩ := id I.loc
  obtain ⟨sl, hL⟩ := u.any ho I.free fun z => (hch _ z).2.1 rfl
  exact I.step (ch := ch) hch (fun b o hL hb hc e n => u.keep b o e n (fun z => (List.mem_cons.mp (I.stkSub b z)).elim hL hb) hc) (fun b o _ _ hc e n => u.any e n hc) (fun b o hc e n => u.free b o e n hc) (fun b o hc e => u.there b o e hc) u.tups u.frzs u.tbls (fun m' hm => by
    obtain ⟨o', es', ep', ho', r'⟩ := hm
    rw [ho] at ho'; cases ho'
    exact ⟨_, es', ep', hL, r'⟩) hok hg
/-- an untracked record of ours (an iterator) has turned -/
theorem Inv.turned {t' : Nat} {it : Addr} (I : Inv X pins σ H s) (k : ∀ b o, b ≠ it → s.heap.get? b = some o → h'.get? b = some o) (hn : H it = none) (hL : it ≠ X.env.locals)
    (h1 : it ∈ X.ex ∨ X.s₀.heap.objs.size ≤ it) (h2 : ∀ x c, X.env.cells.lookup x = some c → c ≠ it) (h3 : ∀ p ∈ X.pn ++ pins, p.1 ≠ it) : Inv X pins σ H { s with heap := h', toks := t' } := by
  have nit : ∀ b u, H b = some u → b ≠ it := fun b u e z => by rw [z, hn] at e; cases e
  refine I.step (g' := s.gens) (d' := s.drawn) (ch := [it]) (fun b hb => ?_) (fun b o _ _ hc e _ => k b o (fun z => hc (by simp [z])) e) (fun b o _ _ hc e _ => ⟨o.slots, k b o (fun z => hc (by simp [z])) e⟩) (fun _ _ _ _ n => n)
    (fun b o hc e => ⟨o, k b o (fun z => hc (by simp [z])) e⟩) (fun _ _ e => e) (fun _ _ _ e => e) (fun b ps e => ⟨#[], by rw [e]; simp⟩) (fun m hm => ?_) (fun b u e => ?_) I.bare
  · have e : b = it := by simpa using hb
    subst e
    exact ⟨h1, hL, h2, h3⟩
  · obtain ⟨o, es, ep, ho, r⟩ := hm
    exact ⟨o, es, ep, k _ o (Ne.symm hL) ho, r⟩
  · refine (I.hok b u e).stay (fun c v hc q => k c v ?_ q) (fun _ q => q) fun _ _ q => q
    rcases hc with z | z
    · rw [z]; exact nit b u e
    · exact nit c _ z
theorem Inv.tok (I : Inv X pins σ H s) (t : Nat) : Inv X pins σ H { s with toks := t } := I.un (h' := s.heap) (t' := t) Un.refl I.hok
/-- all objects kept -/
theorem Inv.kept {t' : Nat} (I : Inv X pins σ H s) (k : ∀ b u, s.heap.get? b = some u → h'.get? b = some u) : Inv X pins σ H { s with heap := h', toks := t' } := I.un (Un.kept k) (I.hok.kept k)
/-- a new object laid and tracked -/
theorem Inv.laid {a : Addr} {o : HO} {t' : Nat} (I : Inv X pins σ H s) (k : ∀ b u, s.heap.get? b = some u → h'.get? b = some u) (hp : s.heap.objs.size ≤ a) (new : ObjOk X.prog X.w (upd H a o) h' a o) :
    Inv X pins σ (upd H a o) { s with heap := h', toks := t' } := I.un (Un.laid k hp (I.hok.fresh hp)) (I.hok.laid k hp new)
/-- an object written -/
theorem Inv.write {x e : Addr} {o : HO} {t' : Nat} (I : Inv X pins σ H s) (mu : Mut (H x)) (he : e = x ∨ H e = some (.own x)) (k : ∀ b u, b ≠ e → s.heap.get? b = some u → h'.get? b = some u) (heo : ∃ u, h'.get? e = some u)
    (new : ObjOk X.prog X.w (upd H x o) h' x o) : Inv X pins σ (upd H x o) { s with heap := h', toks := t' } := I.un (Un.write mu he k heo) (I.hok.write mu he k heo new)
theorem Inv.pins_of {pins' : List (Addr × Obj)} (I : Inv X pins σ H s) (h : ∀ p ∈ pins', s.heap.get? p.1 = some p.2 ∧ H p.1 = none ∧ p.1 ≠ X.env.locals ∧ p.1 ∉ X.fs ∧ ∀ v, p.2.data ≠ .cell v) : Inv X pins' σ H s :=
  ⟨I.ok, I.os, I.bare, I.base, I.loc, I.cell, I.free, I.freeC, fun p hp => (List.mem_append.mp hp).elim (fun z => I.pin p (List.mem_append_left _ z)) (h p), I.hok, I.len⟩

theorem nodup_ix {N : List Str} (hN : N.Nodup) {i j : Nat} {x : Str} (a : N[i]? = some x) (b : N[j]? = some x) : i = j := by
  obtain ⟨h1, e1⟩ := List.getElem?_eq_some_iff.mp a
  obtain ⟨h2, e2⟩ := List.getElem?_eq_some_iff.mp b
  exact (List.getElem_inj hN).mp (e1.trans e2.symm)

/-- a name is stored; what changed -/
theorem store_ok2 {M : Model} {A : Around} {E : Value → Shared → Prop} {i : Nat} {x : Str} {v : V} {u : Value} {Q : Unit → Shared → Prop} (I : Inv X pins σ H s) (hN : X.N.Nodup) (hi : X.N[i]? = some x) (hx : Loc X.env.scope x) (r : RelV v u)
    (h : ∀ s', Inv X pins (σ.set i (some v)) H s' → (∃ a, Heap.SameBut a s.heap s'.heap ∧ (a = X.env.locals ∨ X.env.cells.lookup x = some a)) → Q () s') (hf : X.fn x = true ∨ X.env.scope.names.lookup x = some .local := by first | exact .inl rfl | exact .inr rfl | assumption) : wpAny M A (storeName X.env x u) Q E s := by
  obtain ⟨m, hn, hl⟩ := id I.loc
  have hcls : (X.env.scope.kind == .class || (X.env.scope.kind == .module && X.env.locals != X.env.globals)) = false := by rw [I.ok.kind]; rfl
  have hiσ : i < σ.length := by rw [I.len]; exact (List.getElem?_eq_some_iff.mp hi).1
  have cne := I.cne
  have tracked : ∀ {a : Addr} {h' : Heap}, (∃ o, s.heap.get? a = some o ∧ H a = none) → Heap.SameBut a s.heap h' → HOk X.prog X.w H h' := fun {a h'} ha hs b ob e => by
    obtain ⟨_, _, hfree⟩ := ha
    refine (I.hok b ob e).stay (fun c w' hc q => (hs.2 c ?_).trans q) (fun _ q => q) fun _ _ q => q
    rintro rfl
    rcases hc with rfl | hc
    · rw [hfree] at e; cases e
    · rw [hfree] at hc; cases hc
  rcases hx with hk | hk
  · refine wpAny_storeName_local hk hn (fun h' hn' hs => ?_) hcls
    obtain ⟨oL, _, _, hoL, _⟩ := id hn
    refine h _ ⟨I.ok, I.os, I.bare, ⟨fun b o e n hb hx => ?_, fun b o e n hb hx => ?_, I.base.free, fun b o e hx => ?_, I.base.tups, I.base.frzs, I.base.tbls⟩, ⟨_, hn', fun j y v' e1 e2 e3 => ?_⟩, fun y c e => ?_, I.free, I.freeC, fun p hp => ?_, tracked ⟨oL, hoL, I.free⟩ hs, by simpa using I.len⟩ ⟨_, hs, .inl rfl⟩
    · exact (hs.2 b (Nat.ne_of_lt (Nat.lt_of_lt_of_le (Heap.lt_size e) I.ok.above))).trans (I.base.keep b o e n hb hx)
    · obtain ⟨sl, e1⟩ := I.base.slot b o e n hb hx
      exact ⟨sl, (hs.2 b (Nat.ne_of_lt (Nat.lt_of_lt_of_le (Heap.lt_size e) I.ok.above))).trans e1⟩
    · obtain ⟨o', e1⟩ := I.base.there b o e hx
      exact ⟨o', (hs.2 b (Nat.ne_of_lt (Nat.lt_of_lt_of_le (Heap.lt_size e) I.ok.above))).trans e1⟩
    · by_cases hj : j = i
      · subst hj
        rw [hi] at e1; cases e1
        rw [List.getElem?_set_self hiσ] at e2
        cases e2
        exact ⟨u, r, .inl ⟨hk, by simp⟩⟩
      · rw [List.getElem?_set_ne (Ne.symm hj)] at e2
        obtain ⟨u', r', q⟩ := hl j y v' e1 e2 e3
        refine ⟨u', r', ?_⟩
        rcases q with ⟨k, e⟩ | ⟨k, c, e, z⟩
        · refine .inl ⟨k, ?_⟩
          have : y ≠ x := fun e => hj (nodup_ix hN e1 (e ▸ hi))
          simp [this, e]
        · exact .inr ⟨k, c, e, z.sameBut hs (cne y c e)⟩
    · obtain ⟨w', z⟩ := I.cell y c e
      exact ⟨w', z.sameBut hs (cne y c e)⟩
    · obtain ⟨e, n, ne, nf, d⟩ := I.pin p hp
      exact ⟨(hs.2 p.1 ne).trans e, n, ne, nf, d⟩
  · have hfn : X.fn x = true := by
      rcases hf with z | z
      · exact z
      · rw [z] at hk; cases hk
    obtain ⟨c, hc⟩ := I.ok.has x (.inl hk)
    obtain ⟨w', z⟩ := I.cell x c hc
    refine wpAny_storeName_cell I.ok.kind hk hc z (fun h' hc' hs => ?_)
    obtain ⟨oc, hoc, hocd⟩ := id z
    refine h { s with heap := h' } ⟨I.ok, I.os, I.bare, ⟨fun b o e n hb hx => ?_, fun b o e n hb hx => ?_, I.base.free, fun b o e hx => ?_, I.base.tups, I.base.frzs, I.base.tbls⟩, ⟨m, hn.sameBut hs (Ne.symm (cne x c hc)), fun j y v' e1 e2 e3 => ?_⟩, fun y c' e => ?_, I.free, I.freeC, fun p hp => ?_, tracked ⟨oc, hoc, I.freeC x c hc⟩ hs, by simpa using I.len⟩ ⟨c, hs, .inr hc⟩
    · exact (hs.2 b (Nat.ne_of_lt (Nat.lt_of_lt_of_le (Heap.lt_size e) (I.ok.cab x c hfn hc)))).trans (I.base.keep b o e n hb hx)
    · obtain ⟨sl, e1⟩ := I.base.slot b o e n hb hx
      exact ⟨sl, (hs.2 b (Nat.ne_of_lt (Nat.lt_of_lt_of_le (Heap.lt_size e) (I.ok.cab x c hfn hc)))).trans e1⟩
    · obtain ⟨o', e1⟩ := I.base.there b o e hx
      exact ⟨o', (hs.2 b (Nat.ne_of_lt (Nat.lt_of_lt_of_le (Heap.lt_size e) (I.ok.cab x c hfn hc)))).trans e1⟩
    · by_cases hj : j = i
      · subst hj
        rw [hi] at e1; cases e1
        rw [List.getElem?_set_self hiσ] at e2
        cases e2
        exact ⟨u, r, .inr ⟨.inl hk, c, hc, hc'⟩⟩
      · rw [List.getElem?_set_ne (Ne.symm hj)] at e2
        obtain ⟨u', r', q⟩ := hl j y v' e1 e2 e3
        refine ⟨u', r', ?_⟩
        rcases q with q | ⟨k, c', e, z'⟩
        · exact .inl q
        · refine .inr ⟨k, c', e, z'.sameBut hs ?_⟩
          rintro rfl
          exact hj (nodup_ix hN e1 (I.ok.inj _ _ _ e hc ▸ hi))
    · by_cases hcc : c' = c
      · subst hcc; exact ⟨_, hc'⟩
      · obtain ⟨w2, z2⟩ := I.cell y c' e
        exact ⟨w2, z2.sameBut hs hcc⟩
    · obtain ⟨e, n, ne, nf, d⟩ := I.pin p hp
      refine ⟨(hs.2 p.1 ?_).trans e, n, ne, nf, d⟩
      intro q
      rw [q, hoc] at e
      have q' : oc = p.2 := Option.some.inj e
      exact d w' (by rw [← q']; exact hocd)
theorem store_ok {M : Model} {A : Around} {E : Value → Shared → Prop} {i : Nat} {x : Str} {v : V} {u : Value} {Q : Unit → Shared → Prop} (I : Inv X pins σ H s) (hN : X.N.Nodup) (hi : X.N[i]? = some x) (hx : Loc X.env.scope x) (r : RelV v u)
    (h : ∀ s', Inv X pins (σ.set i (some v)) H s' → Q () s') (hf : X.fn x = true ∨ X.env.scope.names.lookup x = some .local := by first | exact .inl rfl | exact .inr rfl | assumption) : wpAny M A (storeName X.env x u) Q E s :=
  store_ok2 I hN hi hx r (fun s' I' _ => h s' I') hf
/-- behind a call or a block, the state as it is -/
theorem Inv.call' {s' : Shared} {ch : List Addr} (I : Inv X pins σ H s) (ho : s'.os = s.os) (u : Un (frs X.stack) ch H H' s.heap s'.heap) (hok : HOk X.prog X.w H' s'.heap) (hg : AllBare s'.gens)
    (hch : ∀ b ∈ ch, (b ∈ X.ex ∨ X.s₀.heap.objs.size ≤ b) ∧ b ≠ X.env.locals ∧ (∀ x c, X.env.cells.lookup x = some c → c ≠ b) ∧ ∀ p ∈ X.pn ++ pins, p.1 ≠ b) : Inv X pins σ H' s' := by
  obtain ⟨h', g', d', t', o'⟩ := s'
  have e : o' = s.os := ho
  subst e
  exact I.call (g' := g') (t' := t') (d' := d') u hok hg hch
end

/-! ### the judgements -/
/-- an exception: its class, its own dict's address (where it has one), the abstract heap behind it -/
abbrev XK := Value → Option Addr → Hp → Prop
abbrev St := List (Option V)
abbrev VK := V → Hp → Prop
/-- an expression's reading; a test's; an argument list's -/
abbrev TE := St → Hp → VK → Prop
abbrev TT := St → Hp → (Bool → Hp → Prop) → Prop
abbrev TA := St → Hp → (List V → Hp → Prop) → Prop
/-- what is wanted behind a statement -/
structure Ends where
  nx : St → Hp → Prop
  rt : VK
  bk : St → Hp → Prop := fun _ _ => False
  ct : St → Hp → Prop := fun _ _ => False
abbrev TS := Ends → St → Hp → Prop

def EP (X : Cx) (pins : List (Addr × Obj)) (σ : St) (Q : VK) (u : Value) (s' : Shared) : Prop := ∃ v H', Inv X pins σ H' s' ∧ RelV v u ∧ Q v H'
def TP (X : Cx) (pins : List (Addr × Obj)) (σ : St) (Q : Bool → Hp → Prop) (b : Bool) (s' : Shared) : Prop := ∃ H', Inv X pins σ H' s' ∧ Q b H'
def AP (X : Cx) (pins : List (Addr × Obj)) (σ : St) (Q : List V → Hp → Prop) (us : List Value) (s' : Shared) : Prop := ∃ vs H', Inv X pins σ H' s' ∧ Vals vs us ∧ Q vs H'
def SP (X : Cx) (pins : List (Addr × Obj)) (D : Ends) (f : Flow) (s' : Shared) : Prop :=
  match f with
  | .next => ∃ σ' H', Inv X pins σ' H' s' ∧ D.nx σ' H'
  | .brk => ∃ σ' H', Inv X pins σ' H' s' ∧ D.bk σ' H'
  | .cont => ∃ σ' H', Inv X pins σ' H' s' ∧ D.ct σ' H'
  | .ret u => ∃ v σ' H', Inv X pins σ' H' s' ∧ RelV v u ∧ D.rt v H'

def PE (X : Cx) (e : Expr) (t : TE) : Prop :=
  ∀ (pins : List (Addr × Obj)) (s : Shared) (σ : St) (H : Hp) (Q : VK), Inv X pins σ H s → t σ H Q → wpAny (model X.prog X.w) X.A (eval e X.env) (EP X pins σ Q) X.xe s
def PT (X : Cx) (e : Expr) (t : TT) : Prop :=
  ∀ (pins : List (Addr × Obj)) (s : Shared) (σ : St) (H : Hp) (Q : Bool → Hp → Prop), Inv X pins σ H s → t σ H Q → wpAny (model X.prog X.w) X.A (isTrue e X.env (eval e X.env)) (TP X pins σ Q) X.xe s
/-- a test whatever its 'whole' is (and, or) -/
def PW (X : Cx) (e : Expr) (t : TT) : Prop :=
  ∀ (whole : Sem Value) (pins : List (Addr × Obj)) (s : Shared) (σ : St) (H : Hp) (Q : Bool → Hp → Prop), Inv X pins σ H s → t σ H Q → wpAny (model X.prog X.w) X.A (isTrue e X.env whole) (TP X pins σ Q) X.xe s
theorem PW.pt {X : Cx} {e : Expr} {t : TT} (h : PW X e t) : PT X e t := h _
/-- an argument list (no star), from the left -/
def PA (X : Cx) (es : List Expr) (t : TA) : Prop :=
  ∀ (pos : Pos) (pins : List (Addr × Obj)) (s : Shared) (σ : St) (H : Hp) (Q : List V → Hp → Prop), Inv X pins σ H s → t σ H Q → wpAny (model X.prog X.w) X.A (spliced (backTo pos (starEach es X.env))) (AP X pins σ Q) X.xe s
def PS (X : Cx) (st : Stmt) (t : TS) : Prop :=
  ∀ (pins : List (Addr × Obj)) (s : Shared) (σ : St) (H : Hp) (D : Ends), Inv X pins σ H s → t D σ H → wpAny (model X.prog X.w) X.A (exec st X.env) (SP X pins D) X.xe s
def PSs (X : Cx) (st : List Stmt) (t : TS) : Prop :=
  ∀ (pins : List (Addr × Obj)) (s : Shared) (σ : St) (H : Hp) (D : Ends), Inv X pins σ H s → t D σ H → wpAny (model X.prog X.w) X.A (execs st X.env) (SP X pins D) X.xe s
/-- weaken the end -/
theorem thn {α : Type} {t : Sem α} {Q Q' : α → Shared → Prop} {M : Model} {A : Around} {E : Value → Shared → Prop} {s : Shared} (h : wpAny M A t Q E s) (hQ : ∀ a s, Q a s → Q' a s) : wpAny M A t Q' E s := wpAny_mono h hQ fun _ _ x => x
end L2

namespace L2
open PySem PySem.Spec PyProof.Rows
section
variable {X : Cx}

/-! ### names and constants -/
def tVar (i : Nat) : TE := fun σ H Q => ∃ v, σ[i]? = some (some v) ∧ Q v H
def tC (v : V) : TE := fun _ H Q => Q v H
theorem pe_var {i : Nat} {x : Str} {pos : Pos} (hN : X.N[i]? = some x) (hv : Vis X.env.scope x) (hd : (x == ("__debug__" : Str)) = false := by decide) (hcd : (x == ("__classdict__" : Str)) = false := by decide) : PE X (.Name x pos) (tVar i) := by
  intro pins s σ H Q I h
  obtain ⟨v, e, h⟩ := h
  obtain ⟨m, hn, hl⟩ := I.loc
  obtain ⟨u, r, l⟩ := hl i x v hN e hv
  have fin : EP X pins σ Q u s := ⟨v, H, I, r, h⟩
  rcases l with ⟨hk, hm⟩ | ⟨hk, c, hc, hcell⟩
  · exact wpAny_Name (wpAny_loadName_local I.ok.kind hk hn hm fin) hd
  · rcases hk with hk | hk
    · exact wpAny_Name (wpAny_loadName_cell I.ok.kind hk hc hcell fin) hd
    · exact wpAny_Name (wpAny_loadName_free I.ok.kind hk hc hcell fin hcd) hd
theorem pe_int {i j pos} : PE X (.Constant (.int i) j pos) (tC (.int i)) := fun _ _ _ H _ I h => wpAny_Constant_int ⟨.int i, H, I.tok _, ⟨_, rfl⟩, h⟩
theorem pe_bl {b j pos} : PE X (.Constant (.bool b) j pos) (tC (.bl b)) := fun _ _ _ H _ I h => Constant_bool ⟨.bl b, H, I, rfl, h⟩
theorem pe_non {j pos} : PE X (.Constant .none j pos) (tC .non) := fun _ _ _ H _ I h => Constant_none ⟨.non, H, I, rfl, h⟩
theorem pe_str {x j pos} : PE X (.Constant (.str x) j pos) (tC (.str x)) := fun _ _ _ H _ I h => Calls.Constant_str ⟨.str x, H, I.tok _, ⟨_, rfl⟩, h⟩

/-- a global name of the def -/
def Gl (X : Cx) (x : Str) : Prop := X.env.kindOf x = some .globalImplicit
theorem ld_glob {E : Value → Shared → Prop} {pins : List (Addr × Obj)} {s : Shared} {σ : St} {H : Hp} {x : Str} {u : Value} {pos : Pos} {Q : Value → Shared → Prop} (I : Inv X pins σ H s) (hg : Gl X x) (hm : X.mg x = some u) (h : Q u s)
    (hd : (x == ("__debug__" : Str)) = false := by decide) : wpAny (model X.prog X.w) X.A (eval (.Name x pos) X.env) Q E s :=
  Calls.Name_function_global I.ok.kind hg (Calls.loadGlobal_global (by rw [I.ok.glob]; exact I.mod.glob.keeps I.bk) hm h) hd
theorem ld_blt {E : Value → Shared → Prop} {pins : List (Addr × Obj)} {s : Shared} {σ : St} {H : Hp} {x : Str} {u : Value} {pos : Pos} {Q : Value → Shared → Prop} (I : Inv X pins σ H s) (hg : Gl X x) (hm : X.mg x = none) (hv : bootBuiltins x = some u) (h : Q u s)
    (hn : x ≠ "__name__" := by decide) (hd : (x == ("__debug__" : Str)) = false := by decide) : wpAny (model X.prog X.w) X.A (eval (.Name x pos) X.env) Q E s := by
  obtain ⟨mb, h1, h2⟩ := I.mod.blt
  exact Calls.Name_function_global I.ok.kind hg (Calls.loadGlobal_builtin (by rw [I.ok.glob]; exact I.mod.glob.keeps I.bk) hm (by rw [I.ok.blt]; exact h1.keeps I.bk) ((h2 x hn).trans hv) h) hd
theorem pe_bltn {x : Str} {v : V} {u : Value} {pos : Pos} (hg : Gl X x) (hm : X.mg x = none) (hv : bootBuiltins x = some u) (r : RelV v u) (hn : x ≠ "__name__" := by decide) (hd : (x == ("__debug__" : Str)) = false := by decide) : PE X (.Name x pos) (tC v) :=
  fun _ _ _ H _ I h => ld_blt I hg hm hv ⟨v, H, I, r, h⟩ hn hd

/-! ### arithmetic -/
/-- two ints -/
def t2I (ta tb : TE) (k : Int → Int → Hp → Prop) : St → Hp → Prop := fun σ H => ta σ H fun x H1 => tb σ H1 fun y H2 => ∃ i j, x = .int i ∧ y = .int j ∧ k i j H2
def tAdd (ta tb : TE) : TE := fun σ H Q => t2I ta tb (fun i j H2 => Q (.int (i + j)) H2) σ H
def tSub (ta tb : TE) : TE := fun σ H Q => t2I ta tb (fun i j H2 => Q (.int (i - j)) H2) σ H
/-- the left factor below 2^64 -/
def tMul (ta tb : TE) : TE := fun σ H Q => t2I ta tb (fun i j H2 => (-(2 ^ 64) < i ∧ i < 2 ^ 64) ∧ Q (.int (i * j)) H2) σ H
variable {a b : Expr} {ta tb : TE} {pos : Pos}
/-! ### comparisons -/
def PC (X : Cx) (op : CmpOp) (a b : Expr) (t : TE) : Prop :=
  ∀ (pins : List (Addr × Obj)) (s : Shared) (σ : St) (H : Hp) (Q : VK), Inv X pins σ H s → t σ H Q →
    wpAny (model X.prog X.w) X.A (eval a X.env) (fun v s₁ => wpAny (model X.prog X.w) X.A (eval b X.env) (fun u s₂ => wpAny (model X.prog X.w) X.A (compareOp op v u) (EP X pins σ Q) X.xe s₂) X.xe s₁) X.xe s
theorem nobehind (b : Expr) {op : CmpOp} (h : op ≠ .In) (h2 : op ≠ .NotIn) : behindInMarks op b = false := by
  have e1 : (op == CmpOp.In) = false := by cases op <;> first | rfl | exact absurd rfl h
  have e2 : (op == CmpOp.NotIn) = false := by cases op <;> first | rfl | exact absurd rfl h2
  cases b <;> simp [behindInMarks, e1, e2]
def tCmp (p : Int → Int → Bool) (ta tb : TE) : TE := fun σ H Q => t2I ta tb (fun i j H2 => Q (.bl (p i j)) H2) σ H
abbrev tLt : TE → TE → TE := tCmp fun i j => decide (i < j)
abbrev tLe : TE → TE → TE := tCmp fun i j => decide (i ≤ j)
abbrev tGt : TE → TE → TE := tCmp fun i j => decide (j < i)
abbrev tGe : TE → TE → TE := tCmp fun i j => decide (j ≤ i)
abbrev tEqI : TE → TE → TE := tCmp fun i j => decide (i = j)
abbrev tNeI : TE → TE → TE := tCmp fun i j => !decide (i = j)
/-- is None -/
def tIsN (ta : TE) : TE := fun σ H Q => ta σ H fun x H1 => Q (.bl (decide (x = .non))) H1
def tNotN (ta : TE) : TE := fun σ H Q => ta σ H fun x H1 => Q (.bl (!decide (x = .non))) H1
theorem RelV.none_iff {x : V} {v : Value} (r : RelV x v) : (v == Value.none) = decide (x = .non) := by
  cases x with
  | non => cases r; rfl
  | bl _ => cases r; rfl
  | int _ => obtain ⟨t, rfl⟩ := r; rfl
  | str _ => obtain ⟨t, rfl⟩ := r; rfl
  | byt _ => obtain ⟨t, rfl⟩ := r; rfl
  | flt _ => obtain ⟨t, rfl⟩ := r; rfl
  | ref _ => cases r; rfl
  | ty _ => cases r; rfl
theorem pc_isN {j pos'} (ha : PE X a ta) : PC X .Is a (.Constant .none j pos') (tIsN ta) := by
  intro pins s σ H Q I h
  refine thn (ha pins s σ H _ I h) fun v s1 ⟨x, H1, I1, r1, q1⟩ => ?_
  exact Constant_none (is_none_gen ⟨.bl _, H1, I1, by rw [r1.none_iff]; rfl, q1⟩)
theorem pc_notN {j pos'} (ha : PE X a ta) : PC X .IsNot a (.Constant .none j pos') (tNotN ta) := by
  intro pins s σ H Q I h
  refine thn (ha pins s σ H _ I h) fun v s1 ⟨x, H1, I1, r1, q1⟩ => ?_
  exact Constant_none (isnot_none_gen ⟨.bl _, H1, I1, by rw [r1.none_iff]; rfl, q1⟩)
/-- a comparison as a value, as a test -/
def tB (t : TE) : TT := fun σ H Q => t σ H fun x H1 => ∃ c, x = .bl c ∧ Q c H1
theorem pe_cmp {op : CmpOp} {t : TE} (h : PC X op a b t) (h1 : behindInMarks op b = false := by first | exact nobehind _ (by decide) (by decide) | rfl) : PE X (.Compare a [op] [b] pos) t := fun pins s σ H Q I hw => wpAny_Compare1 (h pins s σ H Q I hw) h1
theorem pt_cmp {op : CmpOp} {t : TE} (h : PC X op a b t) (h1 : behindInMarks op b = false := by first | exact nobehind _ (by decide) (by decide) | rfl) : PT X (.Compare a [op] [b] pos) (tB t) := by
  intro pins s σ H Q I hw
  refine wpAny_isTrue_Compare1 (thn (h pins s σ H _ I hw) fun v s1 h1 => thn h1 fun u s2 h2 => thn h2 fun c s3 ⟨x, H1, I1, r1, q1⟩ => ?_) h1
  obtain ⟨d, rfl, q⟩ := q1
  cases r1
  exact wpAny_truthy_bool ⟨H1, I1, q⟩
/-! ### and, or, not -/
variable {tA tB' : TT} {rest : List Expr}
def tAnd (t u : TT) : TT := fun σ H Q => t σ H fun c H1 => if c = true then u σ H1 Q else Q false H1
def tOr (t u : TT) : TT := fun σ H Q => t σ H fun c H1 => if c = true then Q true H1 else u σ H1 Q
def tNot (t : TT) : TT := fun σ H Q => t σ H fun c H1 => Q (!c) H1
theorem pw_and1 (ha : PT X a tA) : PW X (.BoolOp .And [a] pos) tA := by
  intro wh pins s σ H Q I h
  refine isTrue_and (thn (ha pins s σ H Q I h) fun c s1 e => ?_)
  cases c with
  | true => exact isTrue_and_nil e
  | false => exact e
theorem pw_or1 (ha : PT X a tA) : PW X (.BoolOp .Or [a] pos) tA := by
  intro wh pins s σ H Q I h
  refine isTrue_or (thn (ha pins s σ H Q I h) fun c s1 e => ?_)
  cases c with
  | false => exact isTrue_or_nil e
  | true => exact e
theorem pw_and (ha : PT X a tA) (hb : PW X (.BoolOp .And (b :: rest) pos) tB') : PW X (.BoolOp .And (a :: b :: rest) pos) (tAnd tA tB') := by
  intro wh pins s σ H Q I h
  refine isTrue_and (thn (ha pins s σ H _ I h) fun c s1 ⟨H1, I1, q1⟩ => ?_)
  cases c with
  | true => exact hb wh pins s1 σ H1 Q I1 q1
  | false => exact ⟨H1, I1, q1⟩
theorem pw_or (ha : PT X a tA) (hb : PW X (.BoolOp .Or (b :: rest) pos) tB') : PW X (.BoolOp .Or (a :: b :: rest) pos) (tOr tA tB') := by
  intro wh pins s σ H Q I h
  refine isTrue_or (thn (ha pins s σ H _ I h) fun c s1 ⟨H1, I1, q1⟩ => ?_)
  cases c with
  | true => exact ⟨H1, I1, q1⟩
  | false => exact hb wh pins s1 σ H1 Q I1 q1
theorem pt_not (ha : PT X a tA) : PT X (.UnaryOp .Not a pos) (tNot tA) := by
  intro pins s σ H Q I h
  exact isTrue_not (ha pins s σ H (fun c H1 => Q (!c) H1) I h)
/-- .. as values (bools) -/
def tAndV (ta tb : TE) : TE := fun σ H Q => ta σ H fun x H1 => ∃ c, x = .bl c ∧ if c = true then tb σ H1 Q else Q (.bl false) H1
def tOrV (ta tb : TE) : TE := fun σ H Q => ta σ H fun x H1 => ∃ c, x = .bl c ∧ if c = true then Q (.bl true) H1 else tb σ H1 Q
def tNotV (ta : TE) : TE := fun σ H Q => ta σ H fun x H1 => ∃ c, x = .bl c ∧ Q (.bl (!c)) H1
theorem pe_one {op} {t : TE} (h : PE X a t) : PE X (.BoolOp op [a] pos) t := fun pins s σ H Q I hw => BoolOp_one (h pins s σ H Q I hw)
theorem pe_and (ha : PE X a ta) (hb : PE X (.BoolOp .And (b :: rest) pos) tb) : PE X (.BoolOp .And (a :: b :: rest) pos) (tAndV ta tb) := by
  intro pins s σ H Q I h
  refine BoolOp_and (thn (ha pins s σ H _ I h) fun v s1 ⟨x, H1, I1, r1, q1⟩ => ?_)
  obtain ⟨c, rfl, q1⟩ := q1
  cases r1
  refine wpAny_truthy_bool ?_
  cases c with
  | true => exact hb pins s1 σ H1 Q I1 q1
  | false => exact ⟨.bl false, H1, I1, rfl, q1⟩
theorem pe_not (ha : PE X a ta) : PE X (.UnaryOp .Not a pos) (tNotV ta) := by
  intro pins s σ H Q I h
  refine UnaryOp_ (thn (ha pins s σ H _ I h) fun v s1 ⟨x, H1, I1, r1, q1⟩ => ?_)
  obtain ⟨c, rfl, q1⟩ := q1
  cases r1
  exact not_of (wpAny_truthy_bool ⟨.bl (!c), H1, I1, rfl, q1⟩)
/-- a if t else b -/
def tIf (t : TT) (ta tb : TE) : TE := fun σ H Q => t σ H fun c H1 => if c = true then ta σ H1 Q else tb σ H1 Q
end
end L2

namespace L2
open PySem PySem.Spec PyProof.Rows

/-! ### a list, a tuple that is read: tracked, frozen, or an object of the module -/
def SqL (K : PySem.W.Frag) (H : Hp) (a : Addr) (xs : List V) : Prop :=
  Rd H a (.lst xs) ∨
    ∃ (o : Obj) (its : Array Value) (n : Nat), K.lookup a = some o ∧ o.cls = .type "list" ∧ o.dict = none ∧ o.data = .seq its n ∧ its.size ≤ sizeLine ∧ Vals xs its.toList
def SqT (K : PySem.W.Frag) (H : Hp) (a : Addr) (xs : List V) : Prop :=
  Rd H a (.tup xs) ∨
    ∃ (o : Obj) (its : Array Value) (n : Nat), K.lookup a = some o ∧ o.cls = .type "tuple" ∧ o.data = .seq its n ∧ its.size ≤ sizeLine ∧ Vals xs its.toList
def absV : Value → Option V
  | .none => some .non
  | .bool b => some (.bl b)
  | .int i _ => some (.int i)
  | .str x _ => some (.str x)
  | .bytes b _ => some (.byt b)
  | .float b _ => some (.flt b)
  | .ref a => some (.ref a)
  | .type n => some (.ty n)
  | _ => none
theorem RelV.abs {x : V} {u : Value} (r : RelV x u) : absV u = some x := by
  cases x with
  | non => cases r; rfl
  | bl _ => cases r; rfl
  | int _ => obtain ⟨t, rfl⟩ := r; rfl
  | str _ => obtain ⟨t, rfl⟩ := r; rfl
  | byt _ => obtain ⟨t, rfl⟩ := r; rfl
  | flt _ => obtain ⟨t, rfl⟩ := r; rfl
  | ref _ => cases r; rfl
  | ty _ => cases r; rfl
theorem RelV.inj {x y : V} {u : Value} (r : RelV x u) (q : RelV y u) : x = y := Option.some.inj (r.abs.symm.trans q.abs)
theorem Vals.inj : ∀ {xs ys : List V} {us : List Value}, Vals xs us → Vals ys us → xs = ys
  | _, _, _, .nil, .nil => rfl
  | _, _, _, .cons r t, .cons r' t' => by rw [r.inj r', Vals.inj t t']
section
variable {X : Cx} {pins : List (Addr × Obj)} {σ : St} {H : Hp} {s : Shared} {a : Addr} {xs ys : List V}
theorem SqL.of {K : PySem.W.Frag} (h : H a = some (.lst xs)) : SqL K H a xs := .inl (.inl h)
theorem SqT.of {K : PySem.W.Frag} (h : H a = some (.tup xs)) : SqT K H a xs := .inl (.inl h)
theorem Inv.list (I : Inv X pins σ H s) (h : SqL X.K H a xs) : ∃ its : List Value, Vals xs its ∧ PlainL s.heap a its.toArray ∧ xs.length ≤ sizeLine := by
  rcases h with h | ⟨o, its, n, hk, hc, hd, hs, hz, r⟩
  · obtain ⟨z, its, n, r, e⟩ := h.ok I.hok
    exact ⟨its, r, ⟨_, n, e, rfl, rfl, rfl⟩, z⟩
  · refine ⟨its.toList, r, ⟨o, n, I.kIn a o hk, hc, hd, by simpa using hs⟩, ?_⟩
    have e := r.length
    simp only [Array.length_toList] at e
    omega
theorem Inv.tuple (I : Inv X pins σ H s) (h : SqT X.K H a xs) : ∃ its : List Value, Vals xs its ∧ IsTup s.heap a its.toArray ∧ xs.length ≤ sizeLine := by
  rcases h with h | ⟨o, its, n, hk, hc, hs, hz, r⟩
  · obtain ⟨z, its, r, p⟩ := h.ok I.hok
    exact ⟨its, r, p, z⟩
  · refine ⟨its.toList, r, ⟨o, I.kIn a o hk, hc, n, by simpa using hs⟩, ?_⟩
    have e := r.length
    simp only [Array.length_toList] at e
    omega
theorem Inv.list_inj (I : Inv X pins σ H s) (h : SqL X.K H a xs) (h' : SqL X.K H a ys) : xs = ys := by
  obtain ⟨its, r, ⟨o, n, e, _, _, d⟩, _⟩ := I.list h
  obtain ⟨its', r', ⟨o', n', e', _, _, d'⟩, _⟩ := I.list h'
  rw [e] at e'; cases e'
  rw [d] at d'
  injection d' with d1 _
  have : its = its' := by simpa using congrArg Array.toList d1
  subst this
  exact r.inj r'
theorem Inv.tuple_inj (I : Inv X pins σ H s) (h : SqT X.K H a xs) (h' : SqT X.K H a ys) : xs = ys := by
  obtain ⟨its, r, ⟨o, e, _, n, d⟩, _⟩ := I.tuple h
  obtain ⟨its', r', ⟨o', e', _, n', d'⟩, _⟩ := I.tuple h'
  rw [e] at e'; cases e'
  rw [d] at d'
  injection d' with d1 _
  have : its = its' := by simpa using congrArg Array.toList d1
  subst this
  exact r.inj r'
end

/-! ### another wish about exceptions -/
abbrev Cx.wish (X : Cx) (E : Value → Shared → Prop) : Cx := { X with xe := E }
/-- no exception leaves -/
abbrev Cx.nox (X : Cx) : Cx := X.wish fun _ _ => False
theorem Cx.Ok.wish {X : Cx} (ok : X.Ok) (E : Value → Shared → Prop) : (X.wish E).Ok :=
  ⟨ok.mod, ok.kind, ok.glob, ok.blt, ok.above, ok.inj, ok.has, ok.cab, ok.hd, ok.frames, ok.stk, ok.exf, ok.bs, ok.bsz, ok.noex, ok.exfs, ok.funs, ok.frf⟩
theorem Cx.Ok.unwish {X : Cx} {E : Value → Shared → Prop} (ok : (X.wish E).Ok) : X.Ok :=
  ⟨ok.mod, ok.kind, ok.glob, ok.blt, ok.above, ok.inj, ok.has, ok.cab, ok.hd, ok.frames, ok.stk, ok.exf, ok.bs, ok.bsz, ok.noex, ok.exfs, ok.funs, ok.frf⟩
section
variable {X : Cx} {pins : List (Addr × Obj)} {σ : St} {H : Hp} {s : Shared} {E : Value → Shared → Prop}
theorem Inv.wish (I : Inv X pins σ H s) (E : Value → Shared → Prop) : Inv (X.wish E) pins σ H s := ⟨I.ok.wish E, I.os, I.bare, I.base, I.loc, I.cell, I.free, I.freeC, I.pin, I.hok, I.len⟩
theorem Inv.unwish (I : Inv (X.wish E) pins σ H s) : Inv X pins σ H s := ⟨I.ok.unwish, I.os, I.bare, I.base, I.loc, I.cell, I.free, I.freeC, I.pin, I.hok, I.len⟩
theorem SP.unwish {D : Ends} {f : Flow} {s' : Shared} (h : SP (X.wish E) pins D f s') : SP X pins D f s' := by
  cases f with
  | next => obtain ⟨σ', H', I, q⟩ := h; exact ⟨σ', H', I.unwish, q⟩
  | brk => obtain ⟨σ', H', I, q⟩ := h; exact ⟨σ', H', I.unwish, q⟩
  | cont => obtain ⟨σ', H', I, q⟩ := h; exact ⟨σ', H', I.unwish, q⟩
  | ret u => obtain ⟨v, σ', H', I, r, q⟩ := h; exact ⟨v, σ', H', I.unwish, r, q⟩
theorem PE.nox {e : Expr} {t : TE} (h : PE X.nox e t) : PE X e t := fun pins s σ H Q I hw =>
  wpAny_mono (h pins s σ H Q (I.wish _) hw) (fun _ _ ⟨v, H', I', r, q⟩ => ⟨v, H', I'.unwish, r, q⟩) fun _ _ z => False.elim z
theorem PT.nox {e : Expr} {t : TT} (h : PT X.nox e t) : PT X e t := fun pins s σ H Q I hw =>
  wpAny_mono (h pins s σ H Q (I.wish _) hw) (fun _ _ ⟨H', I', q⟩ => ⟨H', I'.unwish, q⟩) fun _ _ z => False.elim z
theorem PSs.nox {st : List Stmt} {t : TS} (h : PSs X.nox st t) : PSs X st t := fun pins s σ H D I hw =>
  wpAny_mono (h pins s σ H D (I.wish _) hw) (fun _ _ q => q.unwish) fun _ _ z => False.elim z
end

/-! ### blocks and small statements -/
section
variable {X : Cx} {st : Stmt} {rest : List Stmt} {t u : TS} {e : Expr} {te : TE} {pos : Pos}
def tNext : TS := fun D σ H => D.nx σ H
def tSeq (t u : TS) : TS := fun D σ H => t { D with nx := u D } σ H
theorem pss_nil : PSs X [] tNext := fun _ _ σ H _ I h => wpAny_execs_nil ⟨σ, H, I, h⟩
theorem pss_cons (h1 : PS X st t) (h2 : PSs X rest u) : PSs X (st :: rest) (tSeq t u) := by
  intro pins s σ H D I h
  refine wpAny_execs_cons (thn (h1 pins s σ H { D with nx := u D } I h) fun f s1 q => ?_)
  cases f with
  | next =>
    obtain ⟨σ', H', I', q⟩ := q
    exact h2 pins s1 σ' H' D I' q
  | ret v => exact q
  | brk => exact q
  | cont => exact q
theorem pss_one (h1 : PS X st t) : PSs X [st] t := by
  intro pins s σ H D I h
  refine wpAny_execs_cons (thn (h1 pins s σ H D I h) fun f s1 q => ?_)
  cases f with
  | next => exact wpAny_execs_nil q
  | ret v => exact q
  | brk => exact q
  | cont => exact q
def tBreak : TS := fun D σ H => D.bk σ H
def tCont : TS := fun D σ H => D.ct σ H
theorem ps_break : PS X (.Break pos) tBreak := fun _ _ σ H _ I h => wpAny_Break ⟨σ, H, I, h⟩
/-- in a def's body nothing is shown -/
theorem Inv.quiet {pins : List (Addr × Obj)} {σ : St} {H : Hp} {s : Shared} (I : Inv X pins σ H s) : interactive X.env = false := by simp [interactive, I.ok.kind]
/-- an expression whose value is dropped -/
def tDrop (te : TE) : TS := fun D σ H => te σ H fun _ H1 => D.nx σ H1
theorem ps_expr (he : PE X e te) (hs : swapsWith e none pos.line X.env = pure false := by rfl) : PS X (.Expr e pos) (tDrop te) := by
  intro pins s σ H D I h
  exact wpAny_Expr_any (thn (he pins s σ H _ I h) fun v s1 ⟨x, H1, I1, r1, q1⟩ => ⟨σ, H1, I1, q1⟩) I.quiet hs
def tRet (te : TE) : TS := fun D σ H => te σ H D.rt
theorem ps_ret (he : PE X e te) : PS X (.Return (some e) pos) (tRet te) := by
  intro pins s σ H D I h
  exact wpAny_Return_some (thn (he pins s σ H _ I h) fun v s1 ⟨x, H1, I1, r1, q1⟩ => ⟨x, σ, H1, I1, r1, q1⟩)
def tRetN : TS := fun D _ H => D.rt .non H
def tIfS (c : TT) (t u : TS) : TS := fun D σ H => c σ H fun b H1 => if b = true then t D σ H1 else u D σ H1
theorem ps_if {c : Expr} {a b : List Stmt} {tc : TT} (hc : PT X c tc) (ha : PSs X a t) (hb : PSs X b u) : PS X (.If c a b pos) (tIfS tc t u) := by
  intro pins s σ H D I h
  refine wpAny_If (thn (hc pins s σ H _ I h) fun d s1 ⟨H1, I1, q1⟩ => ?_)
  cases d with
  | true => exact ha pins s1 σ H1 D I1 q1
  | false => exact hb pins s1 σ H1 D I1 q1
/-- code that the proof never comes to -/
def tNever : TS := fun _ _ _ => False
end

/-! ### targets -/
abbrev TG := V → St → Hp → (St → Hp → Prop) → Prop
abbrev TGs := List V → St → Hp → (St → Hp → Prop) → Prop
def PG (X : Cx) (target : Expr) (t : TG) : Prop :=
  ∀ (pins : List (Addr × Obj)) (s : Shared) (σ : St) (H : Hp) (v : V) (u : Value) (Q : St → Hp → Prop), Inv X pins σ H s → RelV v u → t v σ H Q →
    wpAny (model X.prog X.w) X.A (assign target X.env u) (fun _ s' => ∃ σ' H', Inv X pins σ' H' s' ∧ Q σ' H') X.xe s
/-- several targets, one after another -/
def PGs (X : Cx) (ts : List Expr) (t : TGs) : Prop :=
  ∀ (pins : List (Addr × Obj)) (s : Shared) (σ : St) (H : Hp) (vs : List V) (us : List Value) (Q : St → Hp → Prop), Inv X pins σ H s → Vals vs us → t vs σ H Q →
    wpAny (model X.prog X.w) X.A (assignInOrder ((assignEach ts X.env).map (·.2)) us) (fun _ s' => ∃ σ' H', Inv X pins σ' H' s' ∧ Q σ' H') X.xe s
/-- o[i] = v, by values -/
abbrev TSet := V → V → V → Hp → (Hp → Prop) → Prop
def PSet (X : Cx) (t : TSet) : Prop :=
  ∀ (pins : List (Addr × Obj)) (s : Shared) (σ : St) (H : Hp) (o i v : V) (ov iv u : Value) (Q : Hp → Prop), Inv X pins σ H s → RelV o ov → RelV i iv → RelV v u → t o i v H Q →
    wpAny (model X.prog X.w) X.A (setItem ov iv u) (fun _ s' => ∃ H', Inv X pins σ H' s' ∧ Q H') X.xe s
/-- a op= b, by values -/
abbrev TIp := V → V → Hp → VK → Prop
def PIp (X : Cx) (op : Operator) (t : TIp) : Prop :=
  ∀ (pins : List (Addr × Obj)) (s : Shared) (σ : St) (H : Hp) (x y : V) (v u : Value) (Q : VK), Inv X pins σ H s → RelV x v → RelV y u → t x y H Q →
    wpAny (model X.prog X.w) X.A (inplaceOp op v u) (EP X pins σ Q) X.xe s
section
variable {X : Cx} {pos : Pos}
def gName (i : Nat) : TG := fun v σ H Q => Q (σ.set i (some v)) H
theorem pg_name {i : Nat} {x : Str} (hN : X.N.Nodup) (hi : X.N[i]? = some x) (hx : Loc X.env.scope x) (hf : X.fn x = true ∨ X.env.scope.names.lookup x = some .local := by first | exact .inl rfl | exact .inr rfl | assumption) : PG X (.Name x pos) (gName i) := by
  intro pins s σ H v u Q I r h
  exact wpAny_assign_Name (store_ok I hN hi hx r (fun s' I' => ⟨_, H, I', h⟩) hf)
def gNil : TGs := fun vs σ H Q => vs = [] ∧ Q σ H
def gCons (t : TG) (u : TGs) : TGs := fun vs σ H Q => ∃ v r, vs = v :: r ∧ t v σ H fun σ' H' => u r σ' H' Q
theorem pgs_nil : PGs X [] gNil := by
  intro pins s σ H vs us Q I r h
  obtain ⟨e, h⟩ := h
  subst e
  cases r
  exact assignInOrder_nil ⟨σ, H, I, h⟩
theorem pgs_cons {e : Expr} {es : List Expr} {t : TG} {u : TGs} (h1 : PG X e t) (h2 : PGs X es u)
    (hs : (assignEach (e :: es) X.env).map (·.2) = assign e X.env :: (assignEach es X.env).map (·.2) := by rfl) : PGs X (e :: es) (gCons t u) := by
  intro pins s σ H vs us Q I r h
  obtain ⟨v, vr, e1, h⟩ := h
  subst e1
  cases r with
  | cons r rr =>
    rw [hs]
    refine assignInOrder_cons (thn (h1 pins s σ H _ _ _ I r h) fun _ s1 ⟨σ1, H1, I1, q1⟩ => ?_)
    exact h2 pins s1 σ1 H1 _ _ Q I1 rr q1
/-- (a, b, ..) = a tuple of that length -/
def gTup (K : PySem.W.Frag) (n : Nat) (t : TGs) : TG := fun v σ H Q => ∃ a xs, v = .ref a ∧ SqT K H a xs ∧ xs.length = n ∧ t xs σ H Q
theorem pg_tup {es : List Expr} {k : Nat} {t : TGs} {n : Nat} (hc : X.calm = true) (h : PGs X es t)
    (hn : (assignEach es X.env).length = n := by rfl) (hst : (assignEach es X.env).findIdx? (·.1) = none := by rfl) : PG X (.Tuple es k pos) (gTup X.K n t) := by
  intro pins s σ H v u Q I r hw
  obtain ⟨a, xs, e1, hq, hl, hw⟩ := hw
  subst e1
  cases r
  obtain ⟨its, rv, ht, hz⟩ := I.tuple hq
  refine assign_Tuple_tuple (I.ok.hd hc) ht (by simp [hn, ← hl, rv.length]) hst fun h' hx => ?_
  have I1 : Inv X pins σ H { s with heap := h' } := I.kept (t' := s.toks) fun b o e => hx b o (Nat.ne_of_lt (Heap.lt_size e)) e
  exact h pins _ σ H xs _ Q I1 (by simpa using rv) hw
/-- o[i] = .. -/
def gSub (to ti : TE) (t : TSet) : TG := fun v σ H Q => to σ H fun o H1 => ti σ H1 fun i H2 => t o i v H2 fun H3 => Q σ H3
theorem pg_sub {o i : Expr} {to ti : TE} {t : TSet} (ho : PE X o to) (hi : PE X i ti) (hs : PSet X t)
    (ha : ∀ v, assign (.Subscript o i pos) X.env v = (do
      let ov ← holding [v] (eval o X.env)
      let iv ← holding [v, ov] (eval i X.env)
      standAt pos
      holding [v, ov, iv] (setItem ov iv v)
      release [v, ov, iv] []) := by intro _; rfl) : PG X (.Subscript o i pos) (gSub to ti t) := by
  intro pins s σ H v u Q I r h
  rw [ha]
  refine wpAny_bind (wpAny_holding (thn (ho pins s σ H _ I h) fun ov s1 ⟨x, H1, I1, r1, q1⟩ => ?_))
  refine wpAny_bind (wpAny_holding (thn (hi pins s1 σ H1 _ I1 q1) fun iv s2 ⟨y, H2, I2, r2, q2⟩ => ?_))
  refine wpAny_bind (wpAny_standAt (wpAny_bind (wpAny_holding (thn (hs pins s2 σ H2 x y v ov iv u _ I2 r1 r2 r q2) fun _ s3 ⟨H3, I3, q3⟩ => ?_))))
  exact wpAny_release ⟨σ, H3, I3, q3⟩
/-- target = value -/
def tAsg (te : TE) (g : TG) : TS := fun D σ H => te σ H fun x H1 => g x σ H1 D.nx
theorem ps_asg {tg e : Expr} {te : TE} {g : TG} (he : PE X e te) (hg : PG X tg g) (hs : swapsWithSole [tg] e pos.line X.env = pure false := by rfl) (hw : swappedStores [tg] e X.env = pure none := by rfl)
    (h1 : (assignEach [tg] X.env).map (·.2) = [assign tg X.env] := by rfl) : PS X (.Assign [tg] e pos) (tAsg te g) := by
  intro pins s σ H D I h
  refine wpAny_Assign_stores (thn (he pins s σ H _ I h) fun v s1 ⟨x, H1, I1, r1, q1⟩ => ?_) hs hw
  rw [h1]
  exact thn (hg pins s1 σ H1 x v _ I1 r1 q1) fun _ s2 q => q
/-- name = value -/
theorem ps_set {i : Nat} {x : Str} {e : Expr} {te : TE} {pos' : Pos} (hN : X.N.Nodup) (hi : X.N[i]? = some x) (hx : Loc X.env.scope x) (he : PE X e te) (hs : swapsWith e (some (.Name x pos')) pos.line X.env = pure false := by rfl) (hf : X.fn x = true ∨ X.env.scope.names.lookup x = some .local := by first | exact .inl rfl | exact .inr rfl | assumption) :
    PS X (.Assign [.Name x pos'] e pos) (tAsg te (gName i)) := by
  intro pins s σ H D I h
  refine wpAny_Assign_Name (thn (he pins s σ H _ I h) fun v s1 ⟨y, H1, I1, r1, q1⟩ => ?_) hs
  exact store_ok I1 hN hi hx r1 (fun s2 I2 => ⟨_, H1, I2, q1⟩) hf
/-- a, b = x, y with plain local names: stored from the right; the pair itself is not tracked (the opening rows as in PyProof/Rows/TupAssign.lean:23) -/
def tPar (i j : Nat) (ta : TA) : TS := fun D σ H => ta σ H fun vs H1 => ∃ v w, vs = [v, w] ∧ D.nx ((σ.set i (some v)).set j (some w)) H1
/-- name op= e -/
def tAug (i : Nat) (te : TE) (ti : TIp) : TS := fun D σ H => ∃ x, σ[i]? = some (some x) ∧ te σ H fun y H1 => ti x y H1 fun z H2 => D.nx (σ.set i (some z)) H2
/-- o[i] op= e -/
def tAugS (to ti te : TE) (tget : V → V → Hp → VK → Prop) (tip : TIp) (tset : TSet) : TS := fun D σ H => to σ H fun o H1 => ti σ H1 fun i H2 => tget o i H2 fun x H3 => te σ H3 fun y H4 => tip x y H4 fun z H5 => tset o i z H5 fun H6 => D.nx σ H6
/-- o[i], by values -/
def PGet (X : Cx) (t : V → V → Hp → VK → Prop) : Prop :=
  ∀ (pins : List (Addr × Obj)) (s : Shared) (σ : St) (H : Hp) (o i : V) (ov iv : Value) (Q : VK), Inv X pins σ H s → RelV o ov → RelV i iv → t o i H Q →
    wpAny (model X.prog X.w) X.A (getItem ov iv) (EP X pins σ Q) X.xe s
/-- ints -/
def ipI (f : Int → Int → Int) : TIp := fun x y H Q => ∃ i j, x = .int i ∧ y = .int j ∧ Q (.int (f i j)) H
end

/-! ### while -/
section
variable {X : Cx} {pos : Pos}
/-- the invariant W with its measure -/
def tWhile (c : TT) (tb : TS) : TS := fun D σ H => ∃ W : Nat → St → Hp → Prop, (∃ m, W m σ H) ∧ ∀ m σ H, W m σ H →
  c σ H fun b H1 => if b = true then ∃ N : St → Hp → Prop, (∀ σ' H', N σ' H' → ∃ m', m' < m ∧ W m' σ' H') ∧ tb { D with nx := N, ct := N, bk := D.nx } σ H1 else D.nx σ H1
end

/-! ### what a loop or a comprehension walks -/
/-- at turn i: it yields x (the heap may grow), or it stops -/
structure It where
  go : Nat → Hp → Prop
  yld : Nat → Hp → V → Hp → Prop
  stop : Nat → Hp → Prop
/-- the iterator's own objects may turn: they are not the frame's, not pinned, younger than the entry (or a comprehension's own) -/
def FpOk (X : Cx) (pins : List (Addr × Obj)) (H : Hp) (b : Addr) : Prop :=
  H b = none ∧ b ≠ X.env.locals ∧ b ∉ X.fs ∧ (b ∈ X.ex ∨ X.s₀.heap.objs.size ≤ b) ∧ (∀ x c, X.env.cells.lookup x = some c → c ≠ b) ∧ ∀ p ∈ X.pn ++ pins, p.1 ≠ b
theorem Inv.fpOk {X : Cx} {pins : List (Addr × Obj)} {σ : St} {H H' : Hp} {s : Shared} {b : Addr} (I : Inv X pins σ H s) (hb : s.heap.objs.size ≤ b) (hn : H' b = none) : FpOk X pins H' b := by
  refine ⟨hn, Nat.ne_of_gt (Nat.lt_of_lt_of_le I.lt hb), I.nofs hb, .inr (Nat.le_trans I.sz hb), fun x c e z => ?_, fun p hp z => ?_⟩
  · obtain ⟨v, q⟩ := I.cell x c e
    exact absurd (Nat.lt_of_lt_of_le q.lt (by rw [z]; exact hb)) (Nat.lt_irrefl _)
  · exact absurd (Nat.lt_of_lt_of_le (Heap.lt_size (I.pin p hp).1) (by rw [z]; exact hb)) (Nat.lt_irrefl _)
structure Turn (P : Program) (w : World) (K : PySem.W.Frag) (tg : Expr) (J : It) (fp : List Addr) (it : Addr) (tn : Nat → Heap → Prop) : Prop where
  mem : it ∈ fp
  obj : ∀ i h, tn i h → ∀ b ∈ fp, ∃ o, h.get? b = some o ∧ ∀ v, o.data ≠ .cell v
  keep : ∀ i h h', tn i h → (∀ b ∈ fp, ∀ o, h.get? b = some o → h'.get? b = some o) → tn i h'
  item : ∀ (X : Cx), X.prog = P → X.w = w → X.K = K → X.calm = true → ∀ (i : Nat) (pins : List (Addr × Obj)) (s : Shared) (σ : St) (H : Hp) (E : Value → Shared → Prop), Inv X pins σ H s → (∀ b ∈ fp, FpOk X pins H b) → tn i s.heap → J.go i H →
    wpAny (model P w) X.A (pyNext (.ref it)) (fun r s1 => ∃ u, r = some u ∧
      wpAny (model P w) X.A (letOwnedTupleGo tg (.ref it) u) (fun _ s2 => ∃ x H', Inv X pins σ H' s2 ∧ RelV x u ∧ J.yld i H x H' ∧ tn (i + 1) s2.heap ∧ ∀ b ∈ fp, H' b = none) E s1) E s
  done : ∀ (X : Cx), X.prog = P → X.w = w → X.K = K → X.calm = true → ∀ (i : Nat) (pins : List (Addr × Obj)) (s : Shared) (σ : St) (H : Hp) (E : Value → Shared → Prop), Inv X pins σ H s → (∀ b ∈ fp, FpOk X pins H b) → tn i s.heap → J.stop i H →
    wpAny (model P w) X.A (pyNext (.ref it)) (fun r s1 => r = none ∧ Inv X pins σ H s1) E s
  self : ∀ (A : Around) (i : Nat) (s : Shared) (Q : Value → Shared → Prop) (E : Value → Shared → Prop), tn i s.heap → Q (.ref it) s → wpAny (model P w) A (pyIter (.ref it)) Q E s
abbrev TI := St → Hp → (It → Hp → Prop) → Prop
/-- an iterator has come -/
def PIE (X : Cx) (pins : List (Addr × Obj)) (σ : St) (tg : Expr) (R : It → Hp → Prop) (itv : Value) (s2 : Shared) : Prop :=
  ∃ (it : Addr) (fp : List Addr) (tn : Nat → Heap → Prop) (J : It) (H' : Hp), itv = .ref it ∧ Inv X pins σ H' s2 ∧ Turn X.prog X.w X.K tg J fp it tn ∧ tn 0 s2.heap ∧ (∀ b ∈ fp, FpOk X pins H' b) ∧ R J H'
def PI (X : Cx) (tg iter : Expr) (wi : TI) : Prop :=
  ∀ (pins : List (Addr × Obj)) (s : Shared) (σ : St) (H : Hp) (R : It → Hp → Prop), Inv X pins σ H s → wi σ H R →
    wpAny (model X.prog X.w) X.A (eval iter X.env) (fun v s1 => wpAny (model X.prog X.w) X.A (pyIter v) (PIE X pins σ tg R) X.xe s1) X.xe s

/-- the step ahead of the store is nothing for an iterator that keeps no tuple -/
theorem go_of {M : Model} {A : Around} {E : Value → Shared → Prop} {s : Shared} {tg : Expr} {it : Addr} {u : Value} {o : Obj} {n : String} {vs : Array Value} {Q : Unit → Shared → Prop} (ho : s.heap.get? it = some o) (hc : o.cls = .type n) (hd : o.data = .fields vs)
    (hn : ["enumerate", "zip", "dict_itemiterator", "dict_reverseitemiterator", "odict_iterator", "itertools.zip_longest", "itertools.pairwise"].contains n = false) (hQ : Q () s) : wpAny M A (letOwnedTupleGo tg (.ref it) u) Q E s := by
  unfold letOwnedTupleGo
  cases tg <;> first
    | exact wpAny_pure hQ
    | (cases u <;> first
        | exact wpAny_pure hQ
        | (refine wpAny_bind (wpAny_load ho ?_)
           rw [hc, hd]
           show wpAny M A (if (["enumerate", "zip", "dict_itemiterator", "dict_reverseitemiterator", "odict_iterator", "itertools.zip_longest", "itertools.pairwise"].contains n && vs[0]? == some (rawInt _)) = true then _ else _) Q E s
           rw [if_neg (by intro h; rw [hn, Bool.false_and] at h; cases h)]
           exact wpAny_pure hQ))

/-- the list at a, as it stands at each turn (a loop may append to it) -/
def Itl (K : PySem.W.Frag) (a : Addr) : It :=
  ⟨fun i H => ∃ xs x, SqL K H a xs ∧ xs[i]? = some x, fun i H x H' => H' = H ∧ ∀ xs, SqL K H a xs → xs[i]? = some x, fun i H => ∃ xs, SqL K H a xs ∧ xs.length ≤ i⟩
def Itt (K : PySem.W.Frag) (a : Addr) : It :=
  ⟨fun i H => ∃ xs x, SqT K H a xs ∧ xs[i]? = some x, fun i H x H' => H' = H ∧ ∀ xs, SqT K H a xs → xs[i]? = some x, fun i H => ∃ xs, SqT K H a xs ∧ xs.length ≤ i⟩
/-- lo, lo + 1, .. (n of them) -/
def Itr (lo : Int) (n : Nat) : It := ⟨fun i _ => i < n, fun i H x H' => H' = H ∧ x = .int (lo + i), fun i _ => n ≤ i⟩
theorem turn_list {P : Program} {w : World} {K : PySem.W.Frag} {tg : Expr} (a it : Addr) : Turn P w K tg (Itl K a) [it] it (fun i h => h.IsListIter it a i) where
  mem := by simp
  obj := fun i h st b hb => by
    have e : b = it := by simpa using hb
    subst e
    obtain ⟨o, e, c, d⟩ := st
    exact ⟨o, e, fun v z => by rw [d] at z; cases z⟩
  keep := fun i h h' st k => st.at fun o e => k it (by simp) o e
  item := by
    intro X hP hw hK hc i pins s σ H E I hf st hg
    subst hP hw hK
    obtain ⟨xs, x, hq, hx⟩ := hg
    obtain ⟨its, rv, p, hz⟩ := I.list hq
    obtain ⟨u, hu, ru⟩ := rv.get hx
    obtain ⟨f0, f1, f2, f3, f4, f5⟩ := hf it (by simp)
    refine wpAny_pyNext_list_item st p.isList (x := u) (by simpa using hu) fun h' st' sb => ?_
    have I1 : Inv X pins σ H { s with heap := h' } := I.turned (t' := s.toks) (fun b o hb e => (sb.2 b hb).trans e) f0 f1 f3 f4 f5
    obtain ⟨o, e, c, d⟩ := id st'
    exact ⟨u, rfl, go_of (s := { s with heap := h' }) e c d (by decide) ⟨x, H, I1, ru, ⟨rfl, fun ys hy => by rw [I.list_inj hy hq]; exact hx⟩, st', fun b hb => (hf b hb).1⟩⟩
  done := by
    intro X hP hw hK hc i pins s σ H E I hf st hg
    subst hP hw hK
    obtain ⟨xs, hq, hx⟩ := hg
    obtain ⟨its, rv, p, hz⟩ := I.list hq
    obtain ⟨f0, f1, f2, f3, f4, f5⟩ := hf it (by simp)
    have hl := rv.length
    exact wpAny_pyNext_list_end (I.ok.hd hc) st p.isList (by simp; omega) fun h' eb => ⟨rfl, I.turned (t' := s.toks) (fun b o hb e => eb b o hb e) f0 f1 f3 f4 f5⟩
  self := fun _ _ _ _ _ st h => wpAny_pyIter_listiter st h
theorem turn_tuple {P : Program} {w : World} {K : PySem.W.Frag} {tg : Expr} (a it : Addr) : Turn P w K tg (Itt K a) [it] it (fun i h => h.IsTupleIter it a i) where
  mem := by simp
  obj := fun i h st b hb => by
    have e : b = it := by simpa using hb
    subst e
    obtain ⟨o, e, c, d⟩ := st
    exact ⟨o, e, fun v z => by rw [d] at z; cases z⟩
  keep := fun i h h' st k => st.at fun o e => k it (by simp) o e
  item := by
    intro X hP hw hK hc i pins s σ H E I hf st hg
    subst hP hw hK
    obtain ⟨xs, x, hq, hx⟩ := hg
    obtain ⟨its, rv, p, hz⟩ := I.tuple hq
    obtain ⟨u, hu, ru⟩ := rv.get hx
    obtain ⟨f0, f1, f2, f3, f4, f5⟩ := hf it (by simp)
    refine wpAny_pyNext_tuple_item st (show s.heap.IsTuple a its.toArray from p) (x := u) (by simpa using hu) fun h' st' sb => ?_
    have I1 : Inv X pins σ H { s with heap := h' } := I.turned (t' := s.toks) (fun b o hb e => (sb.2 b hb).trans e) f0 f1 f3 f4 f5
    obtain ⟨o, e, c, d⟩ := id st'
    exact ⟨u, rfl, go_of (s := { s with heap := h' }) e c d (by decide) ⟨x, H, I1, ru, ⟨rfl, fun ys hy => by rw [I.tuple_inj hy hq]; exact hx⟩, st', fun b hb => (hf b hb).1⟩⟩
  done := by
    intro X hP hw hK hc i pins s σ H E I hf st hg
    subst hP hw hK
    obtain ⟨xs, hq, hx⟩ := hg
    obtain ⟨its, rv, p, hz⟩ := I.tuple hq
    obtain ⟨f0, f1, f2, f3, f4, f5⟩ := hf it (by simp)
    have hl := rv.length
    exact wpAny_pyNext_tuple_end (I.ok.hd hc) st (show s.heap.IsTuple a its.toArray from p) (by simp; omega) fun h' eb => ⟨rfl, I.turned (t' := s.toks) (fun b o hb e => eb b o hb e) f0 f1 f3 f4 f5⟩
  self := fun _ _ _ _ _ st h => wpAny_pyIter_tupleiter st h
theorem turn_range {P : Program} {w : World} {K : PySem.W.Frag} {tg : Expr} (it : Addr) (lo : Int) (n : Nat) : Turn P w K tg (Itr lo n) [it] it (fun i h => IsRangeIter h it (lo + (i : Nat) * 1) ((n : Int) - (i : Nat)) 1) where
  mem := by simp
  obj := fun i h st b hb => by
    have e : b = it := by simpa using hb
    subst e
    exact ⟨_, st, fun v z => by
      have z' : Data.fields _ = Data.cell v := z
      cases z'⟩
  keep := fun i h h' st k => k it (by simp) _ st
  item := by
    intro X hP hw hK hc i pins s σ H E I hf st hg
    subst hP hw hK
    obtain ⟨f0, f1, f2, f3, f4, f5⟩ := hf it (by simp)
    have W := Walks.range (prog := X.prog) (w := X.w) (I.ok.hd hc) it lo 1 n
    refine W.item i s _ _ hg st fun v h' tk hv st' kk => ?_
    obtain ⟨t, rfl⟩ := hv
    have I1 : Inv X pins σ H { s with heap := h', toks := tk } := I.turned (fun b o hb e => kk b o (by simpa using hb) e) f0 f1 f3 f4 f5
    refine ⟨_, rfl, go_of (s := { s with heap := h', toks := tk }) (n := "range_iterator") st' rfl rfl (by decide) ⟨.int (lo + i), H, I1, ⟨t, ?_⟩, ⟨rfl, rfl⟩, st', fun b hb => (hf b hb).1⟩⟩
    rw [Int.mul_one]
  done := by
    intro X hP hw hK hc i pins s σ H E I hf st hg
    subst hP hw hK
    obtain ⟨f0, f1, f2, f3, f4, f5⟩ := hf it (by simp)
    exact wpAny_pyNext_range_end (I.ok.hd hc) st (by have : n ≤ i := hg; omega) fun h' eb => ⟨rfl, I.turned (t' := s.toks) (fun b o hb e => eb b o hb e) f0 f1 f3 f4 f5⟩
  self := fun _ _ _ _ _ st h => wpAny_pyIter_rangeiter st h
end L2

namespace L2
open PySem PySem.Spec PyProof.Rows
section
variable {X : Cx} {tg : Expr}
def iList (K : PySem.W.Frag) (tl : TE) : TI := fun σ H R => tl σ H fun x H1 => ∃ a, x = .ref a ∧ (∃ xs, SqL K H1 a xs) ∧ R (Itl K a) H1
def iTup (K : PySem.W.Frag) (tl : TE) : TI := fun σ H R => tl σ H fun x H1 => ∃ a, x = .ref a ∧ (∃ xs, SqT K H1 a xs) ∧ R (Itt K a) H1
/-- a range object just made, walked -/
theorem range_it {pins : List (Addr × Obj)} {σ : St} {H : Hp} {s : Shared} {R : It → Hp → Prop} {E : Value → Shared → Prop} {lo hi : Int} {t u v : Tok} {tk : Nat} (I : Inv X pins σ H s) (h1 : -(2 ^ 62) ≤ lo) (h2 : lo < 2 ^ 62) (h3 : -(2 ^ 62) ≤ hi) (h4 : hi < 2 ^ 62)
    (q : R (Itr lo (hi - lo).toNat) H) : wpAny (model X.prog X.w) X.A (pyIter (.ref s.heap.objs.size)) (PIE X pins σ tg R) E { s with heap := s.heap.push { cls := .type "range", data := .fields #[.int lo t, .int hi u, .int 1 v] }, toks := tk } := by
  refine wpAny_pyIter_range (IsRange.new ..) (small_one h1 h2 h3 h4) ?_
  have I1 : Inv X pins σ H { s with heap := s.heap.push { cls := .type "range", data := .fields #[.int lo t, .int hi u, .int 1 v] }, toks := tk } := I.kept fun b o e => Heap.get?_push_of_some _ e
  refine ⟨(s.heap.push { cls := .type "range", data := .fields #[.int lo t, .int hi u, .int 1 v] }).objs.size, [(s.heap.push { cls := .type "range", data := .fields #[.int lo t, .int hi u, .int 1 v] }).objs.size], _, _, H, rfl,
    I1.kept (t' := tk) fun b o e => Heap.get?_push_of_some _ e, turn_range _ lo (hi - lo).toNat, ?_, fun b hb => ?_, q⟩
  · have e1 : lo + ((0 : Nat) : Int) * 1 = lo := by simp
    have e2 : (((hi - lo).toNat : Nat) : Int) - ((0 : Nat) : Int) = Builtin.Range.rangeSize lo hi 1 := by rw [rangeSize_one]; split <;> omega
    show IsRangeIter _ _ (lo + ((0 : Nat) : Int) * 1) ((((hi - lo).toNat : Nat) : Int) - ((0 : Nat) : Int)) 1
    rw [e1, e2]
    exact Heap.get?_push_size _ rfl
  · have e : b = (s.heap.push { cls := .type "range", data := .fields #[.int lo t, .int hi u, .int 1 v] }).objs.size := by simpa using hb
    subst e
    exact I1.fpOk (Nat.le_refl _) (I1.hok.fresh (Nat.le_refl _))
def iRng1 (ta : TA) : TI := fun σ H R => ta σ H fun vs H1 => ∃ j : Int, vs = [.int j] ∧ -(2 ^ 62) ≤ j ∧ j < 2 ^ 62 ∧ R (Itr 0 j.toNat) H1
def iRng2 (ta : TA) : TI := fun σ H R => ta σ H fun vs H1 => ∃ i j : Int, vs = [.int i, .int j] ∧ (-(2 ^ 62) ≤ i ∧ i < 2 ^ 62 ∧ -(2 ^ 62) ≤ j ∧ j < 2 ^ 62) ∧ R (Itr i (j - i).toNat) H1
theorem pi_range1 {a : Expr} {ta : TA} {p pos : Pos} (hg : Gl X "range") (hm : X.mg "range" = none) (ha : PA X [a] ta) (hs : starEach [a] X.env = [(false, eval a X.env)] := by rfl) : PI X tg (.Call (.Name "range" p) [a] [] pos) (iRng1 ta) := by
  intro pins s σ H R I h
  refine Call_ (ld_blt I hg hm boot_range (PyProof.Rows.callWith_type1 (thn (ha pos pins s σ H _ I h) fun us s1 ⟨vs, H1, I1, r1, q1⟩ => ?_) hs rfl))
  obtain ⟨j, e, q1, q2, q⟩ := q1
  subst e
  cases r1 with
  | cons r rr =>
    cases rr
    obtain ⟨t, rfl⟩ := r
    exact call_range_1 (range_it I1 (by omega) (by omega) q1 q2 (by simpa using q))
theorem pi_range2 {a b : Expr} {ta : TA} {p pos : Pos} (hg : Gl X "range") (hm : X.mg "range" = none) (ha : PA X [a, b] ta) (hs : starEach [a, b] X.env = [(false, eval a X.env), (false, eval b X.env)] := by rfl) (hs2 : starEach [b] X.env = [(false, eval b X.env)] := by rfl) :
    PI X tg (.Call (.Name "range" p) [a, b] [] pos) (iRng2 ta) := by
  intro pins s σ H R I h
  refine Call_ (ld_blt I hg hm boot_range (PyProof.Rows.callWith_type1 (thn (ha pos pins s σ H _ I h) fun us s1 ⟨vs, H1, I1, r1, q1⟩ => ?_) (by rw [hs, hs2]) (by rw [hs2]; rfl)))
  obtain ⟨i, j, e, ⟨q1, q2, q3, q4⟩, q⟩ := q1
  subst e
  cases r1 with
  | cons r rr =>
    cases rr with
    | cons r' rr =>
      cases rr
      obtain ⟨t, rfl⟩ := r
      obtain ⟨t', rfl⟩ := r'
      exact call_range_2 (range_it I1 q1 q2 q3 q4 q)

/-! ### for -/
/-- W: the invariant by the turn and a measure; N: what the body is to reach -/
def tFor (wi : TI) (g : TG) (tb : TS) : TS := fun D σ H => wi σ H fun J H1 => ∃ W : Nat → Nat → St → Hp → Prop, (∃ m, W 0 m σ H1) ∧ ∀ i m σ H, W i m σ H →
  (J.stop i H ∧ D.nx σ H) ∨ (J.go i H ∧ ∃ N : St → Hp → Prop, (∀ σ' H', N σ' H' → ∃ m', m' < m ∧ W (i + 1) m' σ' H') ∧ ∀ x H', J.yld i H x H' → g x σ H' fun σ2 H2 => tb { D with nx := N, ct := N, bk := D.nx } σ2 H2)
/-- the records at fp as they stand -/
def pinsAt (fp : List Addr) (h : Heap) : List (Addr × Obj) := fp.filterMap fun b => (h.get? b).map fun o => (b, o)
theorem mem_pinsAt {fp : List Addr} {h : Heap} {b : Addr} {o : Obj} (hb : b ∈ fp) (e : h.get? b = some o) : (b, o) ∈ pinsAt fp h := List.mem_filterMap.mpr ⟨b, hb, by rw [e]; rfl⟩
theorem of_pinsAt {fp : List Addr} {h : Heap} {p : Addr × Obj} (hp : p ∈ pinsAt fp h) : p.1 ∈ fp ∧ h.get? p.1 = some p.2 := by
  obtain ⟨b, hb, e⟩ := List.mem_filterMap.mp hp
  cases q : h.get? b with
  | none => rw [q] at e; cases e
  | some o =>
    rw [q] at e
    have e' : (b, o) = p := Option.some.inj e
    subst e'
    exact ⟨hb, q⟩
theorem Inv.pinned {pins : List (Addr × Obj)} {σ : St} {H : Hp} {s : Shared} {fp : List Addr} (I : Inv X pins σ H s) (hf : ∀ b ∈ fp, FpOk X pins H b) (ho : ∀ b ∈ fp, ∃ o, s.heap.get? b = some o ∧ ∀ v, o.data ≠ .cell v) : Inv X (pins ++ pinsAt fp s.heap) σ H s :=
  I.pins_of fun p hp => (List.mem_append.mp hp).elim (fun z => I.pin p (List.mem_append_right _ z)) fun z => by
    obtain ⟨hb, e⟩ := of_pinsAt z
    obtain ⟨f0, f1, f2, _⟩ := hf p.1 hb
    obtain ⟨o, e', d⟩ := ho p.1 hb
    rw [e] at e'; cases e'
    exact ⟨e, f0, f1, f2, d⟩
theorem Inv.unpinned {pins pl : List (Addr × Obj)} {σ : St} {H : Hp} {s : Shared} (I : Inv X (pins ++ pl) σ H s) : Inv X pins σ H s := I.pins_of fun p hp => I.pin p (List.mem_append_right _ (List.mem_append_left _ hp))
theorem ps_for {iter : Expr} {body : List Stmt} {wi : TI} {g : TG} {tb : TS} {pos : Pos} (hp : PassesOwn (model X.prog X.w) X.A X.env X.xe) (hc : X.calm = true) (hi : PI X tg iter wi) (hg : PG X tg g) (hb : PSs X body tb)
    (hs : ∀ x, foldedSetIterable iter X.env x = pure x := by intro _; rfl) : PS X (.For tg iter body [] pos) (tFor wi g tb) := by
  intro pins s σ H D I h
  refine wpAny_For (thn (hi pins s σ H _ I h) fun v s1 h1 => thn h1 fun itv s2 h2 => ?_) hs
  obtain ⟨it, fp, tn, J, H2, e, I2, T, st2, f2, W, ⟨m0, w0⟩, turn⟩ := h2
  subst e
  -- what stays true of the iterator's objects through the loop
  have stat : ∀ {H' : Hp}, (∀ b ∈ fp, H' b = none) → ∀ b ∈ fp, FpOk X pins H' b := fun hn b hb => ⟨hn b hb, (f2 b hb).2⟩
  refine codeAny_forLoop_any (fun n s' => ∃ i σ' H', Inv X pins σ' H' s' ∧ tn i s'.heap ∧ (∀ b ∈ fp, H' b = none) ∧ W i n σ' H') ?_ m0 ⟨0, σ, H2, I2, st2, fun b hb => (f2 b hb).1, w0⟩
  rintro n s3 ⟨i, σ3, H3, I3, st3, fr3, w3⟩
  rcases turn i n σ3 H3 w3 with ⟨stop, qn⟩ | ⟨go, N, hN, step⟩
  · refine wpAny_passesOwn hp (thn (T.done X rfl rfl rfl hc i pins s3 σ3 H3 X.xe I3 (stat fr3) st3 stop) fun r s4 ⟨hr, I4⟩ => ?_)
    subst hr
    exact wpAny_execs_nil ⟨σ3, H3, I4, qn⟩
  · refine wpAny_passesOwn hp (thn (T.item X rfl rfl rfl hc i pins s3 σ3 H3 X.xe I3 (stat fr3) st3 go) fun r s4 ⟨u, hr, h4⟩ => ?_)
    subst hr
    refine wpAny_passesOwn hp (thn h4 fun _ s5 ⟨x, H5, I5, r5, y5, st5, fr5⟩ => ?_)
    have I5' := I5.pinned (stat fr5) (T.obj _ _ st5)
    refine wpAny_passesOwn hp (thn (hg _ s5 σ3 H5 x u _ I5' r5 (step x H5 y5)) fun _ s6 ⟨σ6, H6, I6, q6⟩ => ?_)
    refine wpAny_passesOwn hp (thn (hb _ s6 σ6 H6 _ I6 q6) fun f s7 q7 => ?_)
    have again : ∀ {σ7 : St} {H7 : Hp}, Inv X (pins ++ pinsAt fp s5.heap) σ7 H7 s7 → N σ7 H7 → ∃ m, m < n ∧ ∃ i σ' H', Inv X pins σ' H' s7 ∧ tn i s7.heap ∧ (∀ b ∈ fp, H' b = none) ∧ W i m σ' H' := fun {σ7 H7} I7 n7 => by
      obtain ⟨m', hm, w7⟩ := hN σ7 H7 n7
      refine ⟨m', hm, i + 1, σ7, H7, I7.unpinned, T.keep _ _ _ st5 fun b hb o e => (I7.pin (b, o) (List.mem_append_right _ (List.mem_append_right _ (mem_pinsAt hb e)))).1, fun b hb => ?_, w7⟩
      obtain ⟨o, e, d⟩ := T.obj _ _ st5 b hb
      exact (I7.pin (b, o) (List.mem_append_right _ (List.mem_append_right _ (mem_pinsAt hb e)))).2.1
    cases f with
    | next => obtain ⟨σ7, H7, I7, n7⟩ := q7; exact again I7 n7
    | cont => obtain ⟨σ7, H7, I7, n7⟩ := q7; exact again I7 n7
    | brk => obtain ⟨σ7, H7, I7, q7⟩ := q7; exact ⟨σ7, H7, I7.unpinned, q7⟩
    | ret v => obtain ⟨x7, σ7, H7, I7, r7, q7⟩ := q7; exact ⟨x7, σ7, H7, I7.unpinned, r7, q7⟩
end

/-! ### the forms one uses -/
/-- over a list that the body leaves as it is -/
theorem for_list {K : PySem.W.Frag} {a : Addr} {xs : List V} {g : TG} {tb : TS} {D : Ends} {σ : St} {H : Hp} (Pv : Nat → St → Hp → Prop) (h0 : Pv 0 σ H) (hl : ∀ i σ H, i ≤ xs.length → Pv i σ H → SqL K H a xs)
    (hs : ∀ i x σ H, xs[i]? = some x → Pv i σ H → g x σ H fun σ2 H2 => tb { D with nx := Pv (i + 1), ct := Pv (i + 1), bk := D.nx } σ2 H2) (hd : ∀ σ H, Pv xs.length σ H → D.nx σ H) :
    ∃ W : Nat → Nat → St → Hp → Prop, (∃ m, W 0 m σ H) ∧ ∀ i m σ H, W i m σ H →
      ((Itl K a).stop i H ∧ D.nx σ H) ∨ ((Itl K a).go i H ∧ ∃ N : St → Hp → Prop, (∀ σ' H', N σ' H' → ∃ m', m' < m ∧ W (i + 1) m' σ' H') ∧ ∀ x H', (Itl K a).yld i H x H' → g x σ H' fun σ2 H2 => tb { D with nx := N, ct := N, bk := D.nx } σ2 H2) := by
  refine ⟨fun i m σ H => m = xs.length - i ∧ i ≤ xs.length ∧ Pv i σ H, ⟨xs.length, by simp, Nat.zero_le _, h0⟩, ?_⟩
  rintro i m σ H ⟨rfl, hi, p⟩
  have q := hl i σ H hi p
  by_cases hlt : i < xs.length
  · refine .inr ⟨⟨xs, xs[i], q, by simp [hlt]⟩, Pv (i + 1), fun σ' H' p' => ⟨xs.length - (i + 1), by omega, rfl, hlt, p'⟩, fun x H' y => ?_⟩
    obtain ⟨e, y⟩ := y
    subst e
    exact hs i x σ _ (y xs q) p
  · have e : i = xs.length := by omega
    subst e
    exact .inl ⟨⟨xs, q, Nat.le_refl _⟩, hd σ H p⟩
theorem for_tup {K : PySem.W.Frag} {a : Addr} {xs : List V} {g : TG} {tb : TS} {D : Ends} {σ : St} {H : Hp} (Pv : Nat → St → Hp → Prop) (h0 : Pv 0 σ H) (hl : ∀ i σ H, i ≤ xs.length → Pv i σ H → SqT K H a xs)
    (hs : ∀ i x σ H, xs[i]? = some x → Pv i σ H → g x σ H fun σ2 H2 => tb { D with nx := Pv (i + 1), ct := Pv (i + 1), bk := D.nx } σ2 H2) (hd : ∀ σ H, Pv xs.length σ H → D.nx σ H) :
    ∃ W : Nat → Nat → St → Hp → Prop, (∃ m, W 0 m σ H) ∧ ∀ i m σ H, W i m σ H →
      ((Itt K a).stop i H ∧ D.nx σ H) ∨ ((Itt K a).go i H ∧ ∃ N : St → Hp → Prop, (∀ σ' H', N σ' H' → ∃ m', m' < m ∧ W (i + 1) m' σ' H') ∧ ∀ x H', (Itt K a).yld i H x H' → g x σ H' fun σ2 H2 => tb { D with nx := N, ct := N, bk := D.nx } σ2 H2) := by
  refine ⟨fun i m σ H => m = xs.length - i ∧ i ≤ xs.length ∧ Pv i σ H, ⟨xs.length, by simp, Nat.zero_le _, h0⟩, ?_⟩
  rintro i m σ H ⟨rfl, hi, p⟩
  have q := hl i σ H hi p
  by_cases hlt : i < xs.length
  · refine .inr ⟨⟨xs, xs[i], q, by simp [hlt]⟩, Pv (i + 1), fun σ' H' p' => ⟨xs.length - (i + 1), by omega, rfl, hlt, p'⟩, fun x H' y => ?_⟩
    obtain ⟨e, y⟩ := y
    subst e
    exact hs i x σ _ (y xs q) p
  · have e : i = xs.length := by omega
    subst e
    exact .inl ⟨⟨xs, q, Nat.le_refl _⟩, hd σ H p⟩
theorem for_range {lo : Int} {n : Nat} {g : TG} {tb : TS} {D : Ends} {σ : St} {H : Hp} (Pv : Nat → St → Hp → Prop) (h0 : Pv 0 σ H)
    (hs : ∀ i σ H, i < n → Pv i σ H → g (.int (lo + i)) σ H fun σ2 H2 => tb { D with nx := Pv (i + 1), ct := Pv (i + 1), bk := D.nx } σ2 H2) (hd : ∀ σ H, Pv n σ H → D.nx σ H) :
    ∃ W : Nat → Nat → St → Hp → Prop, (∃ m, W 0 m σ H) ∧ ∀ i m σ H, W i m σ H →
      ((Itr lo n).stop i H ∧ D.nx σ H) ∨ ((Itr lo n).go i H ∧ ∃ N : St → Hp → Prop, (∀ σ' H', N σ' H' → ∃ m', m' < m ∧ W (i + 1) m' σ' H') ∧ ∀ x H', (Itr lo n).yld i H x H' → g x σ H' fun σ2 H2 => tb { D with nx := N, ct := N, bk := D.nx } σ2 H2) := by
  refine ⟨fun i m σ H => m = n - i ∧ i ≤ n ∧ Pv i σ H, ⟨n, by simp, Nat.zero_le _, h0⟩, ?_⟩
  rintro i m σ H ⟨rfl, hi, p⟩
  by_cases hlt : i < n
  · refine .inr ⟨hlt, Pv (i + 1), fun σ' H' p' => ⟨n - (i + 1), by omega, rfl, hlt, p'⟩, fun x H' y => ?_⟩
    obtain ⟨e, y⟩ := y
    subst e y
    exact hs i σ _ hlt p
  · have e : i = n := by omega
    subst e
    exact .inl ⟨Nat.le_refl _, hd σ H p⟩
end L2

namespace L2
open PySem PySem.Spec PyProof.Rows

abbrev R2 := V → V → Hp → VK → Prop
/-- a two-place operation on values: f is binaryOp op, inplaceOp op or compareOp op -/
def OpR (X : Cx) (f : Value → Value → Sem Value) (r : R2) : Prop :=
  ∀ (pins : List (Addr × Obj)) (s : Shared) (σ : St) (H : Hp) (x y : V) (v u : Value) (Q : VK), Inv X pins σ H s → RelV x v → RelV y u → r x y H Q →
    wpAny (model X.prog X.w) X.A (f v u) (EP X pins σ Q) X.xe s
/-- a one-place operation -/
def UnR (X : Cx) (f : Value → Sem Value) (r : V → Hp → VK → Prop) : Prop :=
  ∀ (pins : List (Addr × Obj)) (s : Shared) (σ : St) (H : Hp) (x : V) (v : Value) (Q : VK), Inv X pins σ H s → RelV x v → r x H Q →
    wpAny (model X.prog X.w) X.A (f v) (EP X pins σ Q) X.xe s
/-- a call of a value that is known (a builtin, a type) with values -/
def CallR (X : Cx) (f : Value) (r : List V → Hp → VK → Prop) : Prop :=
  ∀ (pins : List (Addr × Obj)) (s : Shared) (σ : St) (H : Hp) (xs : List V) (us : List Value) (Q : VK), Inv X pins σ H s → Vals xs us → r xs H Q →
    wpAny (model X.prog X.w) X.A (call f us) (EP X pins σ Q) X.xe s
/-- a value's truth -/
def TruR (X : Cx) (r : V → Hp → (Bool → Hp → Prop) → Prop) : Prop :=
  ∀ (pins : List (Addr × Obj)) (s : Shared) (σ : St) (H : Hp) (x : V) (v : Value) (Q : Bool → Hp → Prop), Inv X pins σ H s → RelV x v → r x H Q →
    wpAny (model X.prog X.w) X.A (truthy v) (TP X pins σ Q) X.xe s

def tOp (r : R2) (ta tb : TE) : TE := fun σ H Q => ta σ H fun x H1 => tb σ H1 fun y H2 => r x y H2 Q
def tUn (r : V → Hp → VK → Prop) (ta : TE) : TE := fun σ H Q => ta σ H fun x H1 => r x H1 Q
/-- ints in, under C, and a value out -/
def rI (C : Int → Int → Prop) (g : Int → Int → V) : R2 := fun x y H Q => ∃ i j, x = .int i ∧ y = .int j ∧ C i j ∧ Q (g i j) H
def rI0 (g : Int → Int → V) : R2 := fun x y H Q => ∃ i j, x = .int i ∧ y = .int j ∧ Q (g i j) H
def rU (g : Int → V) : V → Hp → VK → Prop := fun x H Q => ∃ i, x = .int i ∧ Q (g i) H

section
variable {X : Cx} {a b c : Expr} {ta tb tc : TE} {pos : Pos}

theorem binT (ha : PE X a ta) (hb : PE X b tb) {pins : List (Addr × Obj)} {s : Shared} {σ : St} {H : Hp} {R : V → V → Hp → Prop} (I : Inv X pins σ H s)
    (h : ta σ H fun x H1 => tb σ H1 fun y H2 => R x y H2) {Q : Value → Shared → Prop} {f : Value → Value → Sem Value}
    (hf : ∀ v u s2 x y H2, Inv X pins σ H2 s2 → RelV x v → RelV y u → R x y H2 → wpAny (model X.prog X.w) X.A (f v u) Q X.xe s2) :
    wpAny (model X.prog X.w) X.A (eval a X.env) (fun v s₁ => wpAny (model X.prog X.w) X.A (eval b X.env) (fun u s₂ => wpAny (model X.prog X.w) X.A (f v u) Q X.xe s₂) X.xe s₁) X.xe s := by
  refine thn (ha pins s σ H _ I h) fun v s1 ⟨x, H1, I1, r1, q1⟩ => ?_
  refine thn (hb pins s1 σ H1 _ I1 q1) fun u s2 ⟨y, H2, I2, r2, q2⟩ => ?_
  exact hf v u s2 x y H2 I2 r1 r2 q2

theorem pe_op {op : Operator} {r : R2} (ho : OpR X (binaryOp op) r) (ha : PE X a ta) (hb : PE X b tb) : PE X (.BinOp a op b pos) (tOp r ta tb) := by
  intro pins s σ H Q I h
  exact wpAny_BinOp (binT ha hb I h fun v u s2 x y H2 I2 rx ry q => ho pins s2 σ H2 x y v u Q I2 rx ry q)
/-! ### ints -/
theorem opI {f : Value → Value → Sem Value} {C : Int → Int → Prop} {g : Int → Int → Int}
    (rule : ∀ (i j : Int) (t u : Tok) (s : Shared) (Q : Value → Shared → Prop) (E : Value → Shared → Prop), C i j → Q (.int (g i j) s.toks) { s with toks := s.toks + 1 } → wpAny (model X.prog X.w) X.A (f (.int i t) (.int j u)) Q E s) :
    OpR X f (rI C fun i j => .int (g i j)) := by
  intro pins s σ H x y v u Q I rx ry h
  obtain ⟨i, j, rfl, rfl, hc, q⟩ := h
  obtain ⟨t, rfl⟩ := rx
  obtain ⟨t', rfl⟩ := ry
  exact rule i j t t' s _ _ hc ⟨.int (g i j), H, I.tok _, ⟨_, rfl⟩, q⟩
theorem opI0 {f : Value → Value → Sem Value} {g : Int → Int → Int}
    (rule : ∀ (i j : Int) (t u : Tok) (s : Shared) (Q : Value → Shared → Prop) (E : Value → Shared → Prop), Q (.int (g i j) s.toks) { s with toks := s.toks + 1 } → wpAny (model X.prog X.w) X.A (f (.int i t) (.int j u)) Q E s) :
    OpR X f (rI0 fun i j => .int (g i j)) := by
  intro pins s σ H x y v u Q I rx ry h
  obtain ⟨i, j, rfl, rfl, q⟩ := h
  obtain ⟨t, rfl⟩ := rx
  obtain ⟨t', rfl⟩ := ry
  exact rule i j t t' s _ _ ⟨.int (g i j), H, I.tok _, ⟨_, rfl⟩, q⟩
theorem opB0 {f : Value → Value → Sem Value} {g : Int → Int → Bool}
    (rule : ∀ (i j : Int) (t u : Tok) (s : Shared) (Q : Value → Shared → Prop) (E : Value → Shared → Prop), Q (.bool (g i j)) s → wpAny (model X.prog X.w) X.A (f (.int i t) (.int j u)) Q E s) :
    OpR X f (rI0 fun i j => .bl (g i j)) := by
  intro pins s σ H x y v u Q I rx ry h
  obtain ⟨i, j, rfl, rfl, q⟩ := h
  obtain ⟨t, rfl⟩ := rx
  obtain ⟨t', rfl⟩ := ry
  exact rule i j t t' s _ _ ⟨.bl (g i j), H, I, rfl, q⟩

def CDiv (i j : Int) : Prop := 0 < j ∧ j < 1073741824
def CDivN (i j : Int) : Prop := j ≠ 0 ∧ j.natAbs < 1073741824
def CPow (i j : Int) : Prop := 0 ≤ j ∧ j ≤ 1000000 ∧ i.natAbs < 2 ^ 64
def CMul (i j : Int) : Prop := (-(2 ^ 64) < i ∧ i < 2 ^ 64) ∨ (-(2 ^ 64) < j ∧ j < 2 ^ 64)
theorem CMul.ok {i j : Int} (h : CMul i j) : IntMulOk i j := by
  rcases h with ⟨h1, h2⟩ | ⟨h1, h2⟩
  · exact .of_left (intBits_le_64 h1 h2)
  · exact .of_right (intBits_le_64 h1 h2)
theorem op_add : OpR X (binaryOp .Add) (rI0 fun i j => .int (i + j)) := opI0 fun _ _ _ _ _ _ _ q => add_int q
theorem op_mul : OpR X (binaryOp .Mult) (rI CMul fun i j => .int (i * j)) := opI fun _ _ _ _ _ _ _ hc q => mul_int q hc.ok
/-- % by a positive divisor of any size -/
theorem op_mod : OpR X (binaryOp .Mod) (rI (fun _ j => 0 < j) fun i j => .int (i % j)) := opI fun i j _ _ _ _ _ hc q => by
  have h1 : (0 : Int) < j := hc
  exact mod_int' (by omega) (by rw [Int.fmod_eq_emod_of_nonneg i (by omega)]; exact q)
/-! ### bools among ints: n += (a < b) -/
end

/-! ### comparisons -/
/-- the scalars that == tells apart as data does -/
def scal : V → V → Bool
  | .non, .non => true | .non, .int _ => true | .int _, .non => true | .non, .bl _ => true | .bl _, .non => true | .non, .str _ => true | .str _, .non => true
  | .int _, .int _ => true | .bl _, .bl _ => true | .str _, .str _ => true | .byt _, .byt _ => true
  | .int _, .str _ => true | .str _, .int _ => true | .bl _, .str _ => true | .str _, .bl _ => true
  | _, _ => false
def rEq : R2 := fun x y H Q => scal x y = true ∧ Q (.bl (decide (x = y))) H
def rNe : R2 := fun x y H Q => scal x y = true ∧ Q (.bl (!decide (x = y))) H

theorem dec_int {i j : Int} : decide (V.int i = V.int j) = (i == j) := by
  rw [Bool.eq_iff_iff]
  simp
theorem dec_bl {i j : Bool} : decide (V.bl i = V.bl j) = (i == j) := by
  rw [Bool.eq_iff_iff]
  simp
theorem dec_str {i j : Str} : decide (V.str i = V.str j) = (i == j) := by
  rw [Bool.eq_iff_iff]
  simp
theorem dec_byt {i j : Array UInt8} : decide (V.byt i = V.byt j) = (i.toList == j.toList) := by
  rw [Bool.eq_iff_iff]
  cases i
  cases j
  simp

section
variable {X : Cx} {a b c : Expr} {ta tb tc : TE} {pos : Pos}
theorem fin_bl {pins : List (Addr × Obj)} {σ : St} {H : Hp} {s : Shared} {Q : VK} {k k' : Bool} (I : Inv X pins σ H s) (q : Q (.bl k) H) (e : k = k') : EP X pins σ Q (.bool k') s := by
  subst e
  exact ⟨.bl k, H, I, rfl, q⟩
theorem op_eq : OpR X (compareOp .Eq) rEq := by
  intro pins s σ H x y v u Q I rx ry h
  obtain ⟨hs, q⟩ := h
  cases x with
  | non =>
    cases rx
    cases y with
    | non => cases ry; exact PySem.EqNone.eq_none_none (fin_bl I q (by simp))
    | bl j => cases ry; exact PySem.EqNone.eq_none_bool (fin_bl I q (by simp))
    | int j => obtain ⟨t', rfl⟩ := ry; exact PySem.EqNone.eq_none_int (fin_bl I q (by simp))
    | str j => obtain ⟨t', rfl⟩ := ry; exact PySem.EqNone.eq_none_str (fin_bl I q (by simp))
    | _ => exact absurd (show false = true from hs) Bool.false_ne_true
  | bl i =>
    cases rx
    cases y with
    | non => cases ry; exact PySem.EqNone.eq_bool_none (fin_bl I q (by simp))
    | bl j => cases ry; exact eq_bool (fin_bl I q dec_bl)
    | str j => obtain ⟨t', rfl⟩ := ry; exact PySem.EqMixed.eq_bool_str (fin_bl I q (by simp))
    | _ => exact absurd (show false = true from hs) Bool.false_ne_true
  | int i =>
    obtain ⟨t, rfl⟩ := rx
    cases y with
    | non => cases ry; exact PySem.EqNone.eq_int_none (fin_bl I q (by simp))
    | int j => obtain ⟨t', rfl⟩ := ry; exact eq_int (fin_bl I q dec_int)
    | str j => obtain ⟨t', rfl⟩ := ry; exact PySem.EqMixed.eq_int_str (fin_bl I q (by simp))
    | _ => exact absurd (show false = true from hs) Bool.false_ne_true
  | str i =>
    obtain ⟨t, rfl⟩ := rx
    cases y with
    | non => cases ry; exact PySem.EqNone.eq_str_none (fin_bl I q (by simp))
    | bl j => cases ry; exact PySem.EqMixed.eq_str_bool (fin_bl I q (by simp))
    | int j => obtain ⟨t', rfl⟩ := ry; exact PySem.EqMixed.eq_str_int (fin_bl I q (by simp))
    | str j => obtain ⟨t', rfl⟩ := ry; exact eq_str (fin_bl I q dec_str)
    | _ => exact absurd (show false = true from hs) Bool.false_ne_true
  | byt i =>
    obtain ⟨t, rfl⟩ := rx
    cases y with
    | byt j => obtain ⟨t', rfl⟩ := ry; exact PySem.W.eq_bytes (fin_bl I q dec_byt)
    | _ => exact absurd (show false = true from hs) Bool.false_ne_true
  | _ => cases y <;> exact absurd (show false = true from hs) Bool.false_ne_true
theorem op_ne : OpR X (compareOp .NotEq) rNe := by
  intro pins s σ H x y v u Q I rx ry h
  obtain ⟨hs, q⟩ := h
  cases x with
  | non =>
    cases rx
    cases y with
    | non => cases ry; exact PySem.EqNone.ne_none_none (fin_bl I q (by simp))
    | bl j => cases ry; exact PySem.EqNone.ne_none_bool (fin_bl I q (by simp))
    | int j => obtain ⟨t', rfl⟩ := ry; exact PySem.EqNone.ne_none_int (fin_bl I q (by simp))
    | str j => obtain ⟨t', rfl⟩ := ry; exact PySem.EqNone.ne_none_str (fin_bl I q (by simp))
    | _ => exact absurd (show false = true from hs) Bool.false_ne_true
  | bl i =>
    cases rx
    cases y with
    | non => cases ry; exact PySem.EqNone.ne_bool_none (fin_bl I q (by simp))
    | bl j => cases ry; exact ne_bool (fin_bl I q (congrArg not dec_bl))
    | str j => obtain ⟨t', rfl⟩ := ry; exact PySem.EqMixed.ne_bool_str (fin_bl I q (by simp))
    | _ => exact absurd (show false = true from hs) Bool.false_ne_true
  | int i =>
    obtain ⟨t, rfl⟩ := rx
    cases y with
    | non => cases ry; exact PySem.EqNone.ne_int_none (fin_bl I q (by simp))
    | int j => obtain ⟨t', rfl⟩ := ry; exact ne_int (fin_bl I q (congrArg not dec_int))
    | str j => obtain ⟨t', rfl⟩ := ry; exact PySem.EqMixed.ne_int_str (fin_bl I q (by simp))
    | _ => exact absurd (show false = true from hs) Bool.false_ne_true
  | str i =>
    obtain ⟨t, rfl⟩ := rx
    cases y with
    | non => cases ry; exact PySem.EqNone.ne_str_none (fin_bl I q (by simp))
    | bl j => cases ry; exact PySem.EqMixed.ne_str_bool (fin_bl I q (by simp))
    | int j => obtain ⟨t', rfl⟩ := ry; exact PySem.EqMixed.ne_str_int (fin_bl I q (by simp))
    | str j => obtain ⟨t', rfl⟩ := ry; exact ne_str (fin_bl I q (congrArg not dec_str))
    | _ => exact absurd (show false = true from hs) Bool.false_ne_true
  | byt i =>
    obtain ⟨t, rfl⟩ := rx
    cases y with
    | byt j => obtain ⟨t', rfl⟩ := ry; exact PySem.W.ne_bytes (fin_bl I q (congrArg not dec_byt))
    | _ => exact absurd (show false = true from hs) Bool.false_ne_true
  | _ => cases y <;> exact absurd (show false = true from hs) Bool.false_ne_true

theorem op_lt : OpR X (compareOp .Lt) (rI0 fun i j => .bl (decide (i < j))) := opB0 fun _ _ _ _ _ _ _ q => lt_int q
theorem op_le : OpR X (compareOp .LtE) (rI0 fun i j => .bl (decide (i ≤ j))) := opB0 fun _ _ _ _ _ _ _ q => le_int q
theorem op_gt : OpR X (compareOp .Gt) (rI0 fun i j => .bl (decide (j < i))) := opB0 fun _ _ _ _ _ _ _ q => gt_int q
theorem op_ge : OpR X (compareOp .GtE) (rI0 fun i j => .bl (decide (j ≤ i))) := opB0 fun _ _ _ _ _ _ _ q => ge_int q
/-- is, is not of two objects that are tracked lists or instances -/
def isObj : HO → Bool
  | .lst _ => true
  | .ins _ _ _ => true
  | _ => false
/-- two rules for one operation: by cases -/
theorem OpR.or {f : Value → Value → Sem Value} {r r' : R2} (h : OpR X f r) (h' : OpR X f r') : OpR X f (fun x y H Q => r x y H Q ∨ r' x y H Q) := by
  intro pins s σ H x y v u Q I rx ry q
  rcases q with q | q
  · exact h pins s σ H x y v u Q I rx ry q
  · exact h' pins s σ H x y v u Q I rx ry q

theorem nomark (b : Expr) {op : CmpOp} (h : op ≠ .In := by decide) (h2 : op ≠ .NotIn := by decide) : behindInMarks op b = false := by
  have e1 : (op == CmpOp.In) = false := by cases op <;> first | rfl | exact absurd rfl h
  have e2 : (op == CmpOp.NotIn) = false := by cases op <;> first | rfl | exact absurd rfl h2
  cases b <;> simp [behindInMarks, e1, e2]
/-- a comparison as a value; hm: nomark b, or (for in, not in) by with_unfolding_all rfl -/
theorem pe_cmpR {op : CmpOp} {r : R2} (ho : OpR X (compareOp op) r) (ha : PE X a ta) (hb : PE X b tb) (hm : behindInMarks op b = false) : PE X (.Compare a [op] [b] pos) (tOp r ta tb) := by
  intro pins s σ H Q I h
  exact wpAny_Compare1 (binT ha hb I h fun v u s2 x y H2 I2 rx ry q => ho pins s2 σ H2 x y v u Q I2 rx ry q) hm
/-- a reading of a value as a test -/
def tTest (t : TE) : TT := fun σ H Q => t σ H fun x H' => ∃ k, x = .bl k ∧ Q k H'
theorem pt_cmpR {op : CmpOp} {r : R2} (ho : OpR X (compareOp op) r) (ha : PE X a ta) (hb : PE X b tb) (hm : behindInMarks op b = false) : PT X (.Compare a [op] [b] pos) (tTest (tOp r ta tb)) := by
  intro pins s σ H Q I h
  refine wpAny_isTrue_Compare1 (thn (ha pins s σ H _ I h) fun v s1 ⟨x, H1, I1, r1, q1⟩ => thn (hb pins s1 σ H1 _ I1 q1) fun u s2 ⟨y, H2, I2, r2, q2⟩ =>
    thn (ho pins s2 σ H2 x y v u _ I2 r1 r2 q2) fun c s3 ⟨z, H3, I3, r3, k, e, q3⟩ => ?_) hm
  subst e
  cases r3
  exact wpAny_truthy_bool ⟨H3, I3, q3⟩
/-- a op1 b op2 c -/
def tChain (r r' : R2) (ta tb tc : TE) : TE := fun σ H Q => ta σ H fun x H1 => tb σ H1 fun y H2 => r x y H2 fun z H3 => ∃ k, z = .bl k ∧
  (if k = true then tc σ H3 fun w' H4 => r' y w' H4 Q else Q (.bl false) H3)
theorem pt_chain {op op' : CmpOp} {r r' : R2} (ho : OpR X (compareOp op) r) (ho' : OpR X (compareOp op') r') (ha : PE X a ta) (hb : PE X b tb) (hc : PE X c tc)
    (hm : lastMarks [op, op'] [b, c] = false := by with_unfolding_all rfl) : PT X (.Compare a [op, op'] [b, c] pos) (tTest (tChain r r' ta tb tc)) := by
  intro pins s σ H Q I h
  refine isTrue_chain (thn (ha pins s σ H _ I h) fun v s1 ⟨x, H1, I1, r1, q1⟩ => test_link (thn (hb pins s1 σ H1 _ I1 q1) fun u s2 ⟨y, H2, I2, r2, q2⟩ =>
    thn (ho pins s2 σ H2 x y v u _ I2 r1 r2 q2) fun d s3 ⟨z, H3, I3, r3, k, e, q3⟩ => ?_)) hm
  subst e
  cases r3
  refine wpAny_truthy_bool ?_
  cases k with
  | false =>
    obtain ⟨k', e', q'⟩ := q3
    cases e'
    exact ite_ff ⟨H3, I3, q'⟩
  | true =>
    refine ite_tt (test_last (thn (hc pins s3 σ H3 _ I3 q3) fun w' s4 ⟨z', H4, I4, r4, q4⟩ => thn (ho' pins s4 σ H4 y z' u w' _ I4 r2 r4 q4) fun d' s5 ⟨z2, H5, I5, r5, k2, e2, q5⟩ => ?_))
    subst e2
    cases r5
    exact wpAny_truthy_bool ⟨H5, I5, q5⟩

/-! ### truth -/
/-- a value's truth by the abstract heap -/
def TruV (K : PySem.W.Frag) (x : V) (H : Hp) (k : Bool) : Prop :=
  match x with
  | .non => k = false
  | .bl b => k = b
  | .int i => k = (i != 0)
  | .str y => y.length ≤ sizeLine ∧ k = ((y.length : Int) != 0)
  | .byt y => y.size ≤ sizeLine ∧ k = ((y.size : Int) != 0)
  | .ref p => (∃ xs, SqL K H p xs ∧ k = !xs.isEmpty) ∨ (∃ xs, SqT K H p xs ∧ k = !xs.isEmpty) ∨ ∃ kvs, H p = some (.dK kvs) ∧ k = !kvs.isEmpty
  | _ => False
theorem isEmpty_kv {κ : Type} {kvs : List (κ × V)} {vs : List (κ × Value)} (r : KV kvs vs) : (!vs.isEmpty) = !kvs.isEmpty := by
  cases r <;> rfl
theorem isEmpty_of {xs : List V} {its : List Value} (r : Vals xs its) : (!its.toArray.isEmpty) = !xs.isEmpty := by
  cases r <;> simp
theorem line63 : (sizeLine : Nat) < 2 ^ 63 := by rw [sizeLine_eq]; decide
theorem tru_ok : TruR X (fun x H Q => ∃ k, TruV X.K x H k ∧ Q k H) := by
  intro pins s σ H x v Q I rx h
  obtain ⟨k, e, q⟩ := h
  have hl := line63
  have hs : sizeLine = 16777216 := sizeLine_eq
  cases x with
  | non =>
    cases rx
    have e' : k = false := e
    subst e'
    exact truthy_none ⟨H, I, q⟩
  | bl b =>
    cases rx
    have e' : k = b := e
    subst e'
    exact wpAny_truthy_bool ⟨H, I, q⟩
  | int i =>
    obtain ⟨t, rfl⟩ := rx
    have e' : k = (i != 0) := e
    subst e'
    exact PySem.P.truthy_int ⟨H, I, q⟩
  | str y =>
    obtain ⟨t, rfl⟩ := rx
    obtain ⟨hy, e'⟩ : y.length ≤ sizeLine ∧ k = ((y.length : Int) != 0) := e
    subst e'
    exact PySem.P.truthy_str (by omega) ⟨H, I.tok _, q⟩
  | byt y =>
    obtain ⟨t, rfl⟩ := rx
    obtain ⟨hy, e'⟩ : y.size ≤ sizeLine ∧ k = ((y.size : Int) != 0) := e
    subst e'
    exact PySem.W.truthy_bytes (by omega) ⟨H, I.tok _, q⟩
  | ref p =>
    cases rx
    have e' : (∃ xs, SqL X.K H p xs ∧ k = !xs.isEmpty) ∨ (∃ xs, SqT X.K H p xs ∧ k = !xs.isEmpty) ∨ ∃ kvs, H p = some (.dK kvs) ∧ k = !kvs.isEmpty := e
    rcases e' with ⟨xs, hx, e'⟩ | ⟨xs, hx, e'⟩ | ⟨kvs, hx, e'⟩
    · subst e'
      obtain ⟨its, r, pl, hz⟩ := I.list hx
      have hlen := r.length
      exact wpAny_truthy_list pl.isList (by simp only [List.size_toArray]; omega) ⟨H, I.tok _, by rw [isEmpty_of r]; exact q⟩
    · subst e'
      obtain ⟨its, r, pl, hz⟩ := I.tuple hx
      have hlen := r.length
      exact truthy_tuple pl (by simp only [List.size_toArray]; omega) ⟨H, I.tok _, by rw [isEmpty_of r]; exact q⟩
    · subst e'
      obtain ⟨hz, hS, vs, r, m⟩ : kvs.length ≤ sizeLine ∧ (p == sysModules) = false ∧ ∃ vs, KV kvs vs ∧ s.heap.DictOf (mixKind X.prog X.w) p vs := I.hok p _ hx
      have hlen : kvs.length = vs.length := Paired.length r
      exact wpAny_truthy_dict hS m (by omega) ⟨H, I.tok _, by rw [isEmpty_kv r]; exact q⟩
  | _ => exact (show False from e).elim
/-- any expression whose test is its value's truth (a name, a call, a subscript, a field ..: he by fun _ => rfl) -/
theorem pt_truth (ha : PE X a ta) (he : ∀ whole, isTrue a X.env whole = (do let v ← whole; standAt a.pos; holding [v] (truthy v))) :
    PT X a (fun σ H Q => ta σ H fun x H' => ∃ k, TruV X.K x H' k ∧ Q k H') := by
  intro pins s σ H Q I h
  exact isTrue_plain (thn (ha pins s σ H _ I h) fun v s1 ⟨x, H1, I1, r1, q1⟩ => tru_ok pins s1 σ H1 x v Q I1 r1 q1) (he _)

/-! ### strs and bytes -/
theorem op_add_str : OpR X (binaryOp .Add) (fun x y H Q => ∃ i j, x = .str i ∧ y = .str j ∧ i.length + j.length ≤ sizeLine ∧ Q (.str (i ++ j)) H) := by
  intro pins s σ H x y v u Q I rx ry h
  obtain ⟨i, j, rfl, rfl, hz, q⟩ := h
  obtain ⟨t, rfl⟩ := rx
  obtain ⟨t', rfl⟩ := ry
  exact add_str (fun t' tk => ⟨.str (i ++ j), H, I.tok _, ⟨_, rfl⟩, q⟩) hz
def PlainIxT (b : Expr) : Prop := ∀ o i, subscripted b false o i = operate [o, i] (getItem o i)
/-! ### scalar builtins, by CallR -/
theorem vals1 {x : V} {us : List Value} (r : Vals [x] us) : ∃ u, us = [u] ∧ RelV x u := by
  cases r with
  | cons r1 r2 => cases r2; exact ⟨_, rfl, r1⟩
theorem vals2 {x y : V} {us : List Value} (r : Vals [x, y] us) : ∃ u w', us = [u, w'] ∧ RelV x u ∧ RelV y w' := by
  cases r with
  | cons r1 r2 =>
    cases r2 with
    | cons r3 r4 => cases r4; exact ⟨_, _, rfl, r1, r3⟩
theorem call_max2 (hc : X.calm = true) : CallR X (.builtin "max") (fun xs H Q => ∃ i j, xs = [.int i, .int j] ∧ Q (.int (if j > i then j else i)) H) := by
  intro pins s σ H xs us Q I r h
  obtain ⟨i, j, rfl, q⟩ := h
  obtain ⟨u, w', rfl, ⟨t, rfl⟩, ⟨t', rfl⟩⟩ := vals2 r
  refine max_two_ints (I.ok.hd hc) fun h' tk k => ⟨_, H, I.kept k, ?_, q⟩
  by_cases hj : j > i
  · rw [if_pos hj, if_pos hj]; exact ⟨_, rfl⟩
  · rw [if_neg hj, if_neg hj]; exact ⟨_, rfl⟩
theorem call_min2 (hc : X.calm = true) : CallR X (.builtin "min") (fun xs H Q => ∃ i j, xs = [.int i, .int j] ∧ Q (.int (if j < i then j else i)) H) := by
  intro pins s σ H xs us Q I r h
  obtain ⟨i, j, rfl, q⟩ := h
  obtain ⟨u, w', rfl, ⟨t, rfl⟩, ⟨t', rfl⟩⟩ := vals2 r
  refine min_two_ints (I.ok.hd hc) fun h' tk k => ⟨_, H, I.kept k, ?_, q⟩
  by_cases hj : j < i
  · rw [if_pos hj, if_pos hj]; exact ⟨_, rfl⟩
  · rw [if_neg hj, if_neg hj]; exact ⟨_, rfl⟩
theorem call_int1 : CallR X (.type "int") (fun xs H Q => (∃ i, xs = [.int i] ∧ Q (.int i) H) ∨ ∃ k, xs = [.bl k] ∧ Q (.int (if k then 1 else 0)) H) := by
  intro pins s σ H xs us Q I r h
  rcases h with ⟨i, rfl, q⟩ | ⟨k, rfl, q⟩
  · obtain ⟨u, rfl, t, rfl⟩ := vals1 r
    exact call_int_int ⟨.int i, H, I, ⟨_, rfl⟩, q⟩
  · obtain ⟨u, rfl, r1⟩ := vals1 r
    cases r1
    exact call_int_bool ⟨.int (if k then 1 else 0), H, I.tok _, ⟨_, rfl⟩, q⟩
/-- len of a str, a bytes, a list, a tuple -/
def LenV (K : PySem.W.Frag) (x : V) (H : Hp) (n : Nat) : Prop :=
  match x with
  | .str y => y.length ≤ sizeLine ∧ n = y.length
  | .byt y => y.size ≤ sizeLine ∧ n = y.size
  | .ref p => (∃ xs, SqL K H p xs ∧ n = xs.length) ∨ ∃ xs, SqT K H p xs ∧ n = xs.length
  | _ => False
end
end L2

namespace L2
open PySem PySem.Spec PyProof.Rows

/-! ### an instance, its attributes a map -/
structure ObjM (h : Heap) (x dx C : Addr) (mA : Str → Option Value) : Prop where
  obj : h.get? x = some (PySem.W.instObj C dx)
  ns : h.Ns1 dx mA
  ne : dx ≠ x

theorem lookIn_ns {h : Heap} {dx : Addr} {mA : Str → Option Value} (n : h.Ns1 dx mA) : ∃ od, h.get? dx = some od ∧ ∀ name, PySem.W.lookIn name od = some (mA name) := by
  obtain ⟨o, es, ep, ho, hd, hk, _, hm⟩ := n
  refine ⟨o, ho, fun name => ?_⟩
  have e := hm name
  unfold nsFind findBy at e
  rw [← Array.find?_toList] at e
  unfold PySem.W.lookIn
  rw [hd]
  dsimp only
  split
  · rename_i y q
    rw [q] at e
    exact congrArg some e
  · rename_i q
    rw [q] at e
    have a : es.toList.any (·.refKey) = false := by
      rw [List.any_eq_false]
      intro y hy
      obtain ⟨z, t, hkey⟩ := hk y (Array.mem_toList_iff.mp hy)
      simp [DictEntry.refKey, hkey]
    have a' : ¬ es.toList.any (·.refKey) = true := by rw [a]; exact Bool.false_ne_true
    rw [if_neg a']
    exact congrArg some e

theorem ObjM.look {h : Heap} {x dx C : Addr} {mA : Str → Option Value} (I : ObjM h x dx C mA) : ∃ od, PySem.W.InstAt h x (PySem.W.instObj C dx) C (some od) ∧ ∀ name, PySem.W.lookIn name od = some (mA name) :=
  let ⟨od, ho, hl⟩ := lookIn_ns I.ns
  ⟨od, ⟨I.obj, rfl, rfl, ho⟩, hl⟩

section
variable {prog : Program} {w : World} {A : Around} {E : Value → Shared → Prop} {s : Shared} {K : PySem.W.Frag} {x dx C f : Addr} {mA : Str → Option Value} {name : Str} {v : Value}

theorem get_map {expr : Bool} {Q : Value → Shared → Prop} (X : K.In s.heap) (I : ObjM s.heap x dx C mA) (hg : PySem.W.plainGet K C name = true) (hh : PySem.W.hasDictIn K C = true)
    (ha : PySem.W.findIn K (.ref C) name = some none) (hv : mA name = some v) (hv' : PySem.W.handedIn v = true) (h : Q v { s with toks := s.toks + 1 }) :
    wpAny (model prog w) A (getAttr (.ref x) name expr) Q E s := by
  obtain ⟨od, J, hl⟩ := I.look
  exact PySem.W.get_value X J (PySem.W.plainGet_of hg).1 (PySem.W.findObj_own hh ha rfl (by rw [hl, hv])) hv' h

theorem get_meth {pl : Sem Bool} {Q : Value × List Value → Shared → Prop} (X : K.In s.heap) (I : ObjM s.heap x dx C mA) (hg : PySem.W.plainGet K C name = true)
    (hf : PySem.W.findIn K (.ref C) name = some (some (.ref f))) (ht : PySem.W.isFn K (.ref f) = true) (hv : mA name = none) (h : Q (.ref f, [.ref x]) s) :
    wpAny (model prog w) A (getMethod (.ref x) name pl) Q E s := by
  obtain ⟨od, J, hl⟩ := I.look
  exact PySem.W.method_fn X J (PySem.W.plainGet_of hg).1 (PySem.W.plainGet_of hg).2 hf (beq_iff_eq.mp ht) (by show (PySem.W.lookIn name od).map (·.isSome) = some false; rw [hl, hv]; rfl) h

theorem set_map {ns : List Str} {Q : Unit → Shared → Prop} (X : K.In s.heap) (I : ObjM s.heap x dx C mA)
    (hs : PySem.W.findIn K (.ref C) "__setattr__" = some (some (.builtin "object.__setattr__"))) (hp : PySem.W.plainOver K C = true) (ht : PySem.W.takerIn K C name = some none) (hh : PySem.W.hasDictIn K C = true)
    (hw : PySem.Within mA ns) (hsz : ns.length ≤ sizeLine)
    (h : ∀ h', ObjM h' x dx C (fun y => if y = name then some v else mA y) → Heap.SameBut dx s.heap h' → Q () { s with heap := h', toks := s.toks + 2 }) :
    wpAny (model prog w) A (setAttr (.ref x) name v) Q E s := by
  obtain ⟨od, J, hl⟩ := I.look
  refine PySem.W.set_plain X J hs (PySem.W.osa_open (s := { s with toks := s.toks + 1 }) (r := none) X J hp ht fun b => ?_)
  obtain ⟨cd, hc, hd'⟩ := PySem.W.any_some hh
  have hx : s.heap.get? x = some ⟨.ref C, some dx, .plain, #[]⟩ := I.obj
  refine wpAny_bind (wpAny_pure (wpAny_bind (wpAny_bind (wpAny_loadPart hx (wpAny_bind (PySem.W.Looks.here (s := { s with toks := s.toks + 1 }) (PySem.W.looks_clsIn X hc) ?_))))))
  rw [hd']
  refine wpAny_pure (a := some dx) (wpAny_bind (wpAny_pure (wpAny_bind ?_)))
  refine wpAny_nsSet1 (s := { s with toks := s.toks + 1 }) I.ns fun h' hn2 hs2 => ?_
  obtain ⟨oD, esD, epD, hoD, hdD, hcD⟩ := hn2.count (PySem.Within.cons name v hw)
  refine wpAny_bind (wpAny_lookBehind hoD (by rw [hdD]; exact pastItsLine_dict (Nat.le_trans hcD (by rw [List.length_cons]; omega))) ?_)
  exact wpAny_pure (h _ ⟨(hs2.2 _ (Ne.symm I.ne)).trans I.obj, hn2, I.ne⟩ hs2)

/-- C(..): the dict at the heap's end, the instance behind it; then its __init__ -/
theorem make_map {R : Result → Shared → Prop} {vs : List Value} {kw : List (Str × Value)} (X : K.In s.heap) (hm : PySem.W.makesIn K C = true)
    (hi : PySem.W.findIn K (.ref C) "__init__" = some (some (.ref f))) (hf : PySem.W.typeIn K (.ref f) = some (.type "function"))
    (h : codeAny (model prog w) (A.under (.builtin "type.__call__" ⟨.ref C :: vs, kw⟩)) (.call (.ref f) ⟨.ref (s.heap.objs.size + 1) :: vs, kw⟩) (PySem.W.InitBack (s.heap.objs.size + 1) R)
      { s with heap := (s.heap.push PySem.W.emptyDict).push (PySem.W.instObj C s.heap.objs.size) }) :
    codeAny (model prog w) A (.call (.ref C) ⟨vs, kw⟩) R s := by
  obtain ⟨hh, g, d, t, os⟩ := s
  exact PySem.W.make_core (PySem.W.makes_of X hm) (PySem.W.looks_findIn X hi) (fun self => PySem.W.bind_fn X self hf) (.inl rfl) h
end

/-! ### the attributes as a list of pairs -/
def putF (f : Str) (v : V) : List (Str × V) → List (Str × V)
  | [] => [(f, v)]
  | (g, x) :: r => if g = f then (g, v) :: r else (g, x) :: putF f v r
theorem lookup_putF (f g : Str) (v : V) : ∀ fs : List (Str × V), (putF f v fs).lookup g = if g = f then some v else fs.lookup g
  | [] => by
    show List.lookup g [(f, v)] = _
    by_cases h : g = f
    · have hb : (g == f) = true := beq_iff_eq.mpr h
      simp only [List.lookup, hb, if_pos h]
    · have hb : (g == f) = false := beq_eq_false_iff_ne.mpr h
      simp only [List.lookup, hb, if_neg h]
  | (k, x) :: r => by
    have ih := lookup_putF f g v r
    rw [show putF f v ((k, x) :: r) = (if k = f then (k, v) :: r else (k, x) :: putF f v r) from rfl]
    by_cases hk : k = f
    · rw [if_pos hk]
      by_cases h : g = k
      · have hb : (g == k) = true := beq_iff_eq.mpr h
        simp only [List.lookup, hb, if_pos (h.trans hk)]
      · have hb : (g == k) = false := beq_eq_false_iff_ne.mpr h
        simp only [List.lookup, hb, if_neg (fun e : g = f => h (e.trans hk.symm))]
    · rw [if_neg hk]
      by_cases h : g = k
      · have hb : (g == k) = true := beq_iff_eq.mpr h
        simp only [List.lookup, hb, if_neg (fun e : g = f => hk (h.symm.trans e))]
      · have hb : (g == k) = false := beq_eq_false_iff_ne.mpr h
        simp only [List.lookup, hb]
        exact ih
theorem keys_putF (f : Str) (v : V) : ∀ fs : List (Str × V), f ∈ (putF f v fs).map (·.1) ∧ ∀ g, g ∈ fs.map (·.1) → g ∈ (putF f v fs).map (·.1)
  | [] => ⟨by simp [putF], fun g h => by simp at h⟩
  | (k, x) :: r => by
    obtain ⟨i1, i2⟩ := keys_putF f v r
    rw [show putF f v ((k, x) :: r) = (if k = f then (k, v) :: r else (k, x) :: putF f v r) from rfl]
    by_cases hk : k = f
    · rw [if_pos hk]
      subst hk
      exact ⟨by simp, fun g h => by simpa using h⟩
    · rw [if_neg hk]
      refine ⟨?_, fun g h => ?_⟩
      · rw [List.map_cons]
        exact List.mem_cons_of_mem _ i1
      · rw [List.map_cons] at h ⊢
        rcases List.mem_cons.mp h with e | e
        · exact List.mem_cons.mpr (.inl e)
        · exact List.mem_cons_of_mem _ (i2 g e)
theorem length_putF (f : Str) (v : V) : ∀ fs : List (Str × V), (putF f v fs).length ≤ fs.length + 1
  | [] => by simp [putF]
  | (k, x) :: r => by
    have ih := length_putF f v r
    rw [show putF f v ((k, x) :: r) = (if k = f then (k, v) :: r else (k, x) :: putF f v r) from rfl]
    by_cases hk : k = f
    · rw [if_pos hk, List.length_cons, List.length_cons]; omega
    · rw [if_neg hk, List.length_cons, List.length_cons]; omega

theorem RelO.some_of {v : V} {o : Option Value} (r : RelO (some v) o) : ∃ u, o = some u ∧ RelV v u := by
  cases o with
  | none => exact (show False from r).elim
  | some u => exact ⟨u, rfl, r⟩
theorem RelO.none_of {o : Option Value} (r : RelO none o) : o = none := by
  cases o with
  | none => rfl
  | some u => exact (show False from r).elim
theorem handed_of {v : V} {u : Value} (r : RelV v u) : PySem.W.handedIn u = true := by
  cases v with
  | non => cases (show u = Value.none from r); rfl
  | bl b => cases (show u = Value.bool b from r); rfl
  | int i => obtain ⟨t, e⟩ := (show ∃ t, u = Value.int i t from r); cases e; rfl
  | str x => obtain ⟨t, e⟩ := (show ∃ t, u = Value.str x t from r); cases e; rfl
  | byt b => obtain ⟨t, e⟩ := (show ∃ t, u = Value.bytes b t from r); cases e; rfl
  | flt b => obtain ⟨t, e⟩ := (show ∃ t, u = Value.float b t from r); cases e; rfl
  | ref a => cases (show u = Value.ref a from r); rfl
  | ty n => cases (show u = Value.type n from r); rfl

section
variable {P : Program} {w : World} {H H' : Hp} {h h' : Heap} {a C dx : Addr} {fs fs' : List (Str × V)}
theorem ins_get (hok : HOk P w H h) (e : H a = some (.ins C dx fs)) : ∃ mA, ObjM h a dx C mA ∧ (∀ f, RelO (fs.lookup f) (mA f)) ∧ PySem.Within mA (fs.map (·.1)) ∧ fs.length ≤ 1000 ∧ H dx = some (.own a) := by
  obtain ⟨d, z, ne, ob, mA, n, r, q⟩ := (show ObjOk P w H h a (.ins C dx fs) from hok a _ e)
  exact ⟨mA, ⟨ob, n, ne⟩, r, q, z, d⟩
end

/-! ### what of the text a class must have -/
structure Cls (K : PySem.W.Frag) (C : Addr) : Prop where
  pg : PySem.W.plainGet K C Str.empty = true
  hd : PySem.W.hasDictIn K C = true
  po : PySem.W.plainOver K C = true
  sa : PySem.W.findIn K (.ref C) "__setattr__" = some (some (.builtin "object.__setattr__"))
theorem Cls.get {K : PySem.W.Frag} {C : Addr} (c : Cls K C) (f : Str) : PySem.W.plainGet K C f = true := c.pg
/-- no class of it has the name -/
def NoAttr (K : PySem.W.Frag) (C : Addr) (f : Str) : Prop := PySem.W.findIn K (.ref C) f = some none
theorem NoAttr.taker {K : PySem.W.Frag} {C : Addr} {f : Str} (n : NoAttr K C f) : PySem.W.takerIn K C f = some none := by
  unfold PySem.W.takerIn
  rw [show PySem.W.findIn K (.ref C) f = some none from n]
  rfl
/-- a constant of the class -/
structure Con (K : PySem.W.Frag) (C : Addr) (f : Str) (v : V) (u : Value) : Prop where
  at_ : PySem.W.findIn K (.ref C) f = some (some u)
  rel : RelV v u
  get : PySem.W.specialIn K u "__get__" = some none
  cp : PySem.W.copiedNames.contains f = false
/-- a method: a plain def of the class or of one above it -/
structure Meth (K : PySem.W.Frag) (C : Addr) (m : Str) (f : Addr) : Prop where
  at_ : PySem.W.findIn K (.ref C) m = some (some (.ref f))
  fn : PySem.W.isFn K (.ref f) = true
  kp : PySem.W.keepIn K (.ref f) = true

section
variable {X : Cx} {pins : List (Addr × Obj)} {σ : St} {H : Hp} {s : Shared} {a C dx : Addr} {fs : List (Str × V)} {f : Str} {v : V} {A : Around} {E : Value → Shared → Prop}

theorem getattr_ok {b : Bool} {Q : Value → Shared → Prop} (I : Inv X pins σ H s) (e : H a = some (.ins C dx fs)) (c : Cls X.K C) (n : NoAttr X.K C f) (l : fs.lookup f = some v)
    (h : ∀ u s', Inv X pins σ H s' → RelV v u → Q u s') : wpAny (model X.prog X.w) A (getAttr (.ref a) f b) Q E s := by
  obtain ⟨mA, O, r, _, _, _⟩ := ins_get I.hok e
  obtain ⟨u, hu, ru⟩ := RelO.some_of (v := v) (o := mA f) (by rw [← l]; exact r f)
  exact get_map I.kIn O (c.get f) c.hd n hu (handed_of ru) (h u _ (I.tok _) ru)

theorem getmeth_ok {m : Str} {g : Addr} {pl : Sem Bool} {Q : Value × List Value → Shared → Prop} (I : Inv X pins σ H s) (e : H a = some (.ins C dx fs)) (c : Cls X.K C) (k : Meth X.K C m g) (l : fs.lookup m = none)
    (h : Q (.ref g, [.ref a]) s) : wpAny (model X.prog X.w) A (getMethod (.ref a) m pl) Q E s := by
  obtain ⟨mA, O, r, _, _, _⟩ := ins_get I.hok e
  have hn : mA m = none := RelO.none_of (by rw [← l]; exact r m)
  exact get_meth I.kIn O (c.get m) k.at_ k.fn hn h

theorem setattr_ok {y : V} {u : Value} {Q : Unit → Shared → Prop} (I : Inv X pins σ H s) (e : H a = some (.ins C dx fs)) (c : Cls X.K C) (n : NoAttr X.K C f) (hl : fs.length < 1000) (ry : RelV y u)
    (h : ∀ s', Inv X pins σ (upd H a (.ins C dx (putF f y fs))) s' → Q () s') : wpAny (model X.prog X.w) A (setAttr (.ref a) f u) Q E s := by
  obtain ⟨mA, O, r, wi, _, ho⟩ := ins_get I.hok e
  have hz : (fs.map (·.1)).length ≤ sizeLine := by rw [List.length_map, sizeLine_eq]; omega
  refine set_map I.kIn O c.sa c.po n.taker c.hd wi hz fun h' O' sb => h _ ?_
  have hd : ∃ o, h'.get? dx = some o := let ⟨o, _, _, e', _⟩ := O'.ns; ⟨o, e'⟩
  refine I.write (x := a) (e := dx) (by rw [e]; exact True.intro) (.inr ho) (fun b q hb z => (sb.2 b hb).trans z) hd ?_
  refine ⟨by rw [upd_ne O.ne]; exact ho, ?_, O.ne, O'.obj, _, O'.ns, fun g => ?_, fun g hg => ?_⟩
  · have := length_putF f y fs; omega
  · show RelO ((putF f y fs).lookup g) (if g = f then some u else mA g)
    rw [lookup_putF]
    by_cases q : g = f
    · rw [if_pos q, if_pos q]; exact ry
    · rw [if_neg q, if_neg q]; exact r g
  · by_cases q : g = f
    · rw [q]; exact (keys_putF f y fs).1
    · refine (keys_putF f y fs).2 g (wi g fun z => hg ?_)
      show (if g = f then some u else mA g) = none
      rw [if_neg q]; exact z

/-- a new instance, tracked, without attributes -/
theorem Inv.made (I : Inv X pins σ H s) : Inv X pins σ (upd (upd H s.heap.objs.size (.own (s.heap.objs.size + 1))) (s.heap.objs.size + 1) (.ins C s.heap.objs.size []))
    { s with heap := (s.heap.push PySem.W.emptyDict).push (PySem.W.instObj C s.heap.objs.size) } := by
  have e1 : (s.heap.push PySem.W.emptyDict).get? s.heap.objs.size = some PySem.W.emptyDict := Heap.get?_push_size s.heap rfl
  have e2 : ((s.heap.push PySem.W.emptyDict).push (PySem.W.instObj C s.heap.objs.size)).get? (s.heap.objs.size + 1) = some (PySem.W.instObj C s.heap.objs.size) := by
    have := Heap.get?_push_size (s.heap.push PySem.W.emptyDict) (o := PySem.W.instObj C s.heap.objs.size) rfl
    rwa [Heap.size_push] at this
  have e3 : (s.heap.push PySem.W.emptyDict).Ns s.heap.objs.size (fun _ => none) := ⟨PySem.W.emptyDict, #[], _, e1, rfl, (fun e he => absurd he (by simp)), fun _ => rfl⟩
  have I1 := I.laid (a := s.heap.objs.size) (o := .own (s.heap.objs.size + 1)) (h' := s.heap.push PySem.W.emptyDict) (t' := s.toks) (fun b u q => Heap.get?_push_of_some _ q) (Nat.le_refl _) ⟨_, e1⟩
  refine I1.laid (a := s.heap.objs.size + 1) (o := .ins C s.heap.objs.size []) (t' := s.toks) (fun b u q => Heap.get?_push_of_some _ q) (Nat.le_of_eq (Heap.size_push _ _)) ?_
  have ne : s.heap.objs.size ≠ s.heap.objs.size + 1 := Nat.ne_of_lt (Nat.lt_succ_self _)
  refine ⟨by rw [upd_ne ne, upd_same], Nat.zero_le _, ne, e2, fun _ => none, (Heap.Ns1.of_empty e3).at fun o q => Heap.get?_push_of_some _ q, fun _ => True.intro, fun y hy => absurd rfl hy⟩

/-- e.f where nothing but the object is asked: through attributeBase (super) and the last hold -/
theorem attr_of {prog : Program} {w : World} {env : Env} {e : Expr} {f : Str} {pos : Pos} {s : Shared} {Q : Value → Shared → Prop} (hb : attributeBase e f env (eval e env) = eval e env)
    (h : wpAny (model prog w) A (eval e env) (fun o s₁ => wpAny (model prog w) A (getAttr o f true) Q E s₁) E s) : wpAny (model prog w) A (eval (.Attribute e f pos) env) Q E s :=
  Attribute_any_ h (by rw [arm_eval_Attribute, hb])
end

/-! ### readings and rules -/
/-- e.f, an attribute of the instance -/
def tFld (K : PySem.W.Frag) (ta : TE) (f : Str) : TE := fun σ H Q => ta σ H fun x H1 => ∃ a C dx fs v, x = .ref a ∧ H1 a = some (.ins C dx fs) ∧ Cls K C ∧ NoAttr K C f ∧ fs.lookup f = some v ∧ Q v H1
/-- e.f, a constant of the class -/
def tCon (K : PySem.W.Frag) (ta : TE) (f : Str) : TE := fun σ H Q => ta σ H fun x H1 => ∃ a C dx fs v u, x = .ref a ∧ H1 a = some (.ins C dx fs) ∧ Cls K C ∧ Con K C f v u ∧ fs.lookup f = none ∧ Q v H1
/-- e.f = value -/
def sFld (K : PySem.W.Frag) (ta tv : TE) (f : Str) : TS := fun D σ H => tv σ H fun y H1 => ta σ H1 fun x H2 => ∃ a C dx fs, x = .ref a ∧ H2 a = some (.ins C dx fs) ∧ Cls K C ∧ NoAttr K C f ∧ fs.length < 1000 ∧
  D.nx σ (upd H2 a (.ins C dx (putF f y fs)))
/-- an augmented operator on two values -/
def InOp (X : Cx) (op : Operator) (rd : V → V → Hp → VK → Prop) : Prop :=
  ∀ (pins : List (Addr × Obj)) (s : Shared) (σ : St) (H : Hp) (x y : V) (u v : Value) (Q : VK), Inv X pins σ H s → RelV x u → RelV y v → rd x y H Q → wpAny (model X.prog X.w) X.A (inplaceOp op u v) (EP X pins σ Q) X.xe s
/-- e.f op= value -/
def sFldAug (K : PySem.W.Frag) (ta tv : TE) (rd : V → V → Hp → VK → Prop) (f : Str) : TS := fun D σ H => ta σ H fun x H1 => ∃ a C dx fs v, x = .ref a ∧ H1 a = some (.ins C dx fs) ∧ Cls K C ∧ NoAttr K C f ∧ fs.lookup f = some v ∧
  tv σ H1 fun y H2 => rd v y H2 fun z H3 => ∃ dx' fs', H3 a = some (.ins C dx' fs') ∧ fs'.length < 1000 ∧ D.nx σ (upd H3 a (.ins C dx' (putF f z fs')))

section
variable {X : Cx} {o e value : Expr} {f : Str} {pos pos' tpos : Pos} {ta tv : TE}
theorem pe_fld (he : PE X e ta) (hb : attributeBase e f X.env (eval e X.env) = eval e X.env) : PE X (.Attribute e f pos) (tFld X.K ta f) := by
  intro pins s σ H Q I h
  refine attr_of hb (thn (he pins s σ H _ I h) fun u s1 ⟨x, H1, I1, rx, a, C, dx, fs, v, ex, ea, c, n, l, q⟩ => ?_)
  subst ex
  obtain rfl : u = Value.ref a := rx
  exact getattr_ok I1 ea c n l fun u' s2 I2 ru => ⟨v, H1, I2, ru, q⟩
theorem ps_fld (ha : PE X o ta) (hv : PE X value tv) (hs : swapsWith value (some (.Attribute o f pos')) pos.line X.env = pure false) : PS X (.Assign [.Attribute o f pos'] value pos) (sFld X.K ta tv f) := by
  intro pins s σ H D I h
  refine plainObj_wpAny_Assign_Attribute (thn (hv pins s σ H _ I h) fun u s1 ⟨y, H1, I1, ry, q⟩ => thn (ha pins s1 σ H1 _ I1 q) fun ov s2 ⟨x, H2, I2, rx, a, C, dx, fs, ex, ea, c, n, l, q2⟩ => ?_) hs
  subst ex
  obtain rfl : ov = Value.ref a := rx
  exact setattr_ok I2 ea c n l ry fun s3 I3 => ⟨σ, _, I3, q2⟩
def rAdd : V → V → Hp → VK → Prop := fun x y H Q => ∃ i j, x = .int i ∧ y = .int j ∧ Q (.int (i + j)) H
def rSub : V → V → Hp → VK → Prop := fun x y H Q => ∃ i j, x = .int i ∧ y = .int j ∧ Q (.int (i - j)) H
end

/-! ### isinstance -/
section
variable {X : Cx} {pins : List (Addr × Obj)} {σ : St} {H : Hp} {s : Shared} {A : Around} {E : Value → Shared → Prop} {Q : Value → Shared → Prop} {c : Value} {b : Bool}
/-- the type of a value, as the fragment's deciders take it; for an instance its class -/
inductive TyOf (K : PySem.W.Frag) (H : Hp) : V → Value → Prop where
  | non : TyOf K H .non (.type "NoneType")
  | bl (x : Bool) : TyOf K H (.bl x) (.type "bool")
  | int (i : Int) : TyOf K H (.int i) (.type "int")
  | str (x : Str) : TyOf K H (.str x) (.type "str")
  | flt (x : UInt64) : TyOf K H (.flt x) (.type "float")
  | lst {a : Addr} {xs : List V} (e : H a = some (.lst xs)) : TyOf K H (.ref a) (.type "list")
  | frz {a : Addr} {o : Obj} {xs : List V} (e : H a = some (.frz o (.lst xs))) : TyOf K H (.ref a) (.type "list")
  | tup {a : Addr} {xs : List V} (e : H a = some (.tup xs)) : TyOf K H (.ref a) (.type "tuple")
  | dK {a : Addr} {kvs : List (Key × V)} (e : H a = some (.dK kvs)) : TyOf K H (.ref a) (.type "dict")
  | dT {a : Addr} {kvs : List (List Key × V)} (e : H a = some (.dT kvs)) : TyOf K H (.ref a) (.type "dict")
  | ins {a C dx : Addr} {fs : List (Str × V)} (e : H a = some (.ins C dx fs)) (cl : Cls K C) (ha : PySem.W.findIn K (.ref C) "__class__" = some (some (.builtin "object.__class__")))
      (hn : PySem.W.specialIn K (.builtin "object.__class__") "__get__" = some (some (.builtin "getset_descriptor.__get__"))) (htk : PySem.W.takesIn K (.builtin "object.__class__") = some true)
      (hm : PySem.W.mroIn K C (.type "object") = some true) : TyOf K H (.ref a) (.ref C)
/-- isinstance(x, c) for one class c, a built-in or an own one: kitOne's answer -/
theorem isinst_ok {x : V} {u t : Value} (I : Inv X pins σ H s) (rx : RelV x u) (ty : TyOf X.K H x t) (e : PySem.W.kitOne X.K t c = some b) (h : ∀ tk, Q (.bool b) { s with toks := tk }) :
    wpAny (model X.prog X.w) A (call (.builtin "isinstance") [u, c]) Q E s := by
  cases ty with
  | non => cases (show u = Value.none from rx); exact PySem.W.kia_one PySem.W.kitx_none I.kIn True.intro e (fun z => nomatch z) h
  | bl y => cases (show u = Value.bool y from rx); exact PySem.W.kia_one PySem.W.kitx_bool I.kIn True.intro e (fun z => nomatch z) h
  | int i => obtain ⟨t, q⟩ := (show ∃ t, u = Value.int i t from rx); cases q; exact PySem.W.kia_one PySem.W.kitx_int I.kIn True.intro e (fun z => nomatch z) h
  | str y => obtain ⟨t, q⟩ := (show ∃ t, u = Value.str y t from rx); cases q; exact PySem.W.kia_one PySem.W.kitx_str I.kIn True.intro e (fun z => nomatch z) h
  | flt y => obtain ⟨t, q⟩ := (show ∃ t, u = Value.float y t from rx); cases q; exact PySem.W.kia_one PySem.W.kitx_float I.kIn True.intro e (fun z => nomatch z) h
  | @lst a xs ea =>
    cases (show u = Value.ref a from rx)
    obtain ⟨_, _, n, _, h1⟩ := (show ObjOk X.prog X.w H s.heap a (.lst xs) from I.hok a _ ea)
    exact PySem.W.kia_one PySem.W.kitx_list I.kIn ⟨_, h1, rfl⟩ e (fun z => nomatch z) h
  | @frz a ob xs ea =>
    cases (show u = Value.ref a from rx)
    obtain ⟨_, _, _, n, _, h1⟩ := (show ObjOk X.prog X.w H s.heap a (.frz ob (.lst xs)) from I.hok a _ ea)
    exact PySem.W.kia_one PySem.W.kitx_list I.kIn ⟨_, h1, rfl⟩ e (fun z => nomatch z) h
  | @tup a xs ea =>
    cases (show u = Value.ref a from rx)
    obtain ⟨_, _, _, p⟩ := (show ObjOk X.prog X.w H s.heap a (.tup xs) from I.hok a _ ea)
    obtain ⟨o, h1, h2, _⟩ := p
    exact PySem.W.kia_one PySem.W.kitx_tuple I.kIn ⟨o, h1, h2⟩ e (fun z => nomatch z) h
  | @dK a kvs ea =>
    cases (show u = Value.ref a from rx)
    obtain ⟨_, _, vs, _, p⟩ := (show ObjOk X.prog X.w H s.heap a (.dK kvs) from I.hok a _ ea)
    obtain ⟨o, es, ep, h1, h2, _⟩ := p
    exact PySem.W.kia_one PySem.W.kitx_dict I.kIn ⟨o, h1, h2.1⟩ e (fun z => nomatch z) h
  | @dT a kvs ea =>
    cases (show u = Value.ref a from rx)
    obtain ⟨_, _, xs, _, o, es, ep, h1, h2, _⟩ := (show ObjOk X.prog X.w H s.heap a (.dT kvs) from I.hok a _ ea)
    exact PySem.W.kia_one PySem.W.kitx_dict I.kIn ⟨o, h1, h2.1⟩ e (fun z => nomatch z) h
  | @ins a C dx fs ea cl ha hn htk hm =>
    cases (show u = Value.ref a from rx)
    obtain ⟨mA, O, _⟩ := ins_get I.hok ea
    obtain ⟨od, J, _⟩ := O.look
    exact PySem.W.kia_one (PySem.W.kitx_own (cl.get _) cl.hd ha hn htk hm) I.kIn J e (fun z => nomatch z) h
end
end L2

namespace L2
open PySem PySem.Spec PyProof.Rows

/-! ### room -/
structure Room (k : Nat) (A : Around) : Prop where
  hd : A.handled = none
  dp : A.depth + 3 * k + 5 < recursionLimit
  un : A.units + 16 * k + 200 < cLine
theorem Room.mono {j k : Nat} {A : Around} (r : Room k A) (h : j ≤ k) : Room j A := ⟨r.hd, by have := r.dp; omega, by have := r.un; omega⟩
theorem Room.deeper {k : Nat} {A : Around} (r : Room (k + 1) A) (env : Env) : Room k (A.deeper env) :=
  ⟨r.hd, by have := r.dp; show A.depth + 1 + 3 * k + 5 < _; omega, by have := r.un; show A.units + 3 + 16 * k + 200 < _; omega⟩
theorem Room.in1 {k : Nat} {A : Around} (r : Room (k + 1) A) : Room k A.in1 :=
  ⟨r.hd, by have := r.dp; show A.depth + 3 * k + 5 < _; omega, by have := r.un; show A.units + 1 + 16 * k + 200 < _; omega⟩
theorem make_depth {A : Around} {C : Addr} {us : List Value} {kw : List (Str × Value)} : (A.under (.builtin "type.__call__" ⟨.ref C :: us, kw⟩)).depth = A.depth + 1 := by
  first | rfl | simp [Around.under, Code.weight, Code.isCreation, Code.isGuard, Code.isCaller, Code.frames, Code.isFrame, guardIds]
theorem make_units {A : Around} {C : Addr} {us : List Value} {kw : List (Str × Value)} : (A.under (.builtin "type.__call__" ⟨.ref C :: us, kw⟩)).units = A.units + 1 := by
  first | rfl | simp [Around.under, Code.cUnits, Code.frames, Code.isFrame]
theorem Room.make {k : Nat} {A : Around} (r : Room (k + 1) A) (C : Addr) (us : List Value) (kw : List (Str × Value)) : Room k (A.under (.builtin "type.__call__" ⟨.ref C :: us, kw⟩)) :=
  ⟨r.hd, by have := r.dp; rw [make_depth]; omega, by have := r.un; rw [make_units]; omega⟩
theorem Room.depth {k : Nat} {A : Around} (r : Room k A) : A.depth < recursionLimit := by have := r.dp; omega
theorem Room.units {k : Nat} {A : Around} (r : Room k A) : A.units + 64 < cLine := by have := r.un; omega
/-! ### argument lists and displays -/
def tNil : TA := fun _ H Q => Q [] H
def tCons (ta : TE) (tr : TA) : TA := fun σ H Q => ta σ H fun x H1 => tr σ H1 fun xs H2 => Q (x :: xs) H2
section
variable {X : Cx} {e : Expr} {es : List Expr} {te : TE} {t : TA} {pos : Pos}
theorem pa_nil : PA X [] tNil := fun _ _ _ _ H Q I h => Calls.spliced_nil ⟨[], H, I, .nil, h⟩
theorem pa_cons (ha : PE X e te) (hr : PA X es t) (hs : starEach (e :: es) X.env = (false, eval e X.env) :: starEach es X.env := by rfl) : PA X (e :: es) (tCons te t) := by
  intro pos pins s σ H Q I h
  rw [hs]
  show wpAny _ _ (spliced ((false, eval e X.env) :: backTo pos (starEach es X.env))) _ _ s
  refine Calls.spliced_cons (thn (ha pins s σ H _ I h) fun u s1 ⟨x, H1, I1, r1, q1⟩ => ?_)
  exact thn (hr pos pins s1 σ H1 _ I1 q1) fun us s2 ⟨xs, H2, I2, r2, q2⟩ => ⟨x :: xs, H2, I2, .cons r1 r2, q2⟩

/-- a tuple, a list of written items -/
def tTup (t : TA) : TE := fun σ H Q => t σ H fun xs H1 => xs.length ≤ sizeLine ∧ ∀ p, H1 p = none → Q (.ref p) (upd H1 p (.tup xs))
def tLst (t : TA) : TE := fun σ H Q => t σ H fun xs H1 => xs.length ≤ sizeLine ∧ ∀ p, H1 p = none → Q (.ref p) (upd H1 p (.lst xs))
theorem pe_tup {x1} (h : PA X es t) : PE X (.Tuple es x1 pos) (tTup t) := by
  intro pins s σ H Q I hq
  refine wpAny_Tuple_spliced (thn (h pos pins s σ H _ I hq) fun us s1 ⟨xs, H1, I1, r, z, q⟩ => ⟨by rw [← r.length]; exact z, ?_⟩)
  have hf : H1 s1.heap.objs.size = none := I1.hok.fresh (Nat.le_refl _)
  refine ⟨.ref s1.heap.objs.size, upd H1 s1.heap.objs.size (.tup xs), I1.laid (t' := s1.toks) (fun b u e => Heap.get?_push_of_some _ e) (Nat.le_refl _) ?_, rfl, q _ hf⟩
  exact ⟨z, us, r, ⟨_, Heap.get?_push_size _ rfl, rfl, _, rfl⟩⟩
theorem pe_lst (h : PA X es t) : PE X (.List es pos) (tLst t) := by
  intro pins s σ H Q I hq
  refine wpAny_List_spliced (thn (h pos pins s σ H _ I hq) fun us s1 ⟨xs, H1, I1, r, z, q⟩ => ⟨by rw [← r.length]; exact z, ?_⟩)
  have hf : H1 s1.heap.objs.size = none := I1.hok.fresh (Nat.le_refl _)
  refine ⟨.ref s1.heap.objs.size, upd H1 s1.heap.objs.size (.lst xs), I1.laid (t' := s1.toks) (fun b u e => Heap.get?_push_of_some _ e) (Nat.le_refl _) ?_, rfl, q _ hf⟩
  exact ⟨z, us, 0, r, Heap.get?_push_size _ rfl⟩
end

/-! ### what a def promises -/
/-- a def's promise: the bound arguments in the parameters' order, the heap, the wanted end, the wanted exception -/
abbrev Sp := List V → Hp → VK → XK → Prop
/-- how an exception lies behind a call (file 08 gives it): the callers' frames, abstract heap and state ahead of the call, the wish, the exception, the state -/
abbrev CXT := List Env → Hp → Shared → XK → Value → Shared → Prop

/-- the state at a call -/
structure Env0 (P : Program) (w : World) (K : PySem.W.Frag) (mg : Str → Option Value) (base : Heap) (A : Around) (outer : List Env) (s : Shared) (H : Hp) : Prop where
  frames : A.frames = some outer
  mod : Mod K mg base
  bs : ∀ b o, base.get? b = some o → s.heap.get? b = some o ∧ H b = none
  bsz : base.objs.size ≤ s.heap.objs.size
  funs : s.heap.FunFrames base outer
  frf : ∀ b ∈ frs outer, H b = none
  hok : HOk P w H s.heap
  bare : AllBare s.gens
/-- a call's end -/
def CE (outer : List Env) (P : Program) (w : World) (H : Hp) (s : Shared) (Q : VK) (u : Value) (s' : Shared) : Prop :=
  ∃ v H', s'.os = s.os ∧ AllBare s'.gens ∧ Un (frs outer) [] H H' s.heap s'.heap ∧ HOk P w H' s'.heap ∧ RelV v u ∧ Q v H'
def CR (CX : CXT) (outer : List Env) (P : Program) (w : World) (H : Hp) (s : Shared) (Q : VK) (E : XK) (r : Result) (s' : Shared) : Prop :=
  match r with
  | .ok (.ret u) => CE outer P w H s Q u s'
  | .ok _ => False
  | .error e => CX outer H s E e s'
structure FnOk (P : Program) (w : World) (K : PySem.W.Frag) (mg : Str → Option Value) (base : Heap) (CX : CXT) (k : Nat) (f : Addr) (fd : FuncData) (ps : List Str) (sp : Sp) : Prop where
  len : ∀ vs H Q E, sp vs H Q E → vs.length = ps.length
  run : ∀ (A : Around) (outer : List Env) (s : Shared) (H : Hp) (args : Args) (us : List Value) (vs : List V) (Q : VK) (E : XK), Room k A → Env0 P w K mg base A outer s H → BindsTo s fd args (ps.zip us) → Vals vs us → sp vs H Q E →
    codeAny (model P w) A (.call (.ref f) args) (CR CX outer P w H s Q E) s
theorem FnOk.mono {P : Program} {w : World} {K : PySem.W.Frag} {mg : Str → Option Value} {base : Heap} {CX : CXT} {j k : Nat} {f : Addr} {fd : FuncData} {ps : List Str} {sp : Sp} (F : FnOk P w K mg base CX j f fd ps sp) (h : j ≤ k) :
    FnOk P w K mg base CX k f fd ps sp := ⟨F.len, fun A outer s H args us vs Q E hr => F.run A outer s H args us vs Q E (hr.mono h)⟩
/-- a weaker promise -/
theorem FnOk.imp {P : Program} {w : World} {K : PySem.W.Frag} {mg : Str → Option Value} {base : Heap} {CX : CXT} {k : Nat} {f : Addr} {fd : FuncData} {ps : List Str} {sp sp' : Sp} (F : FnOk P w K mg base CX k f fd ps sp)
    (h : ∀ vs H Q E, sp' vs H Q E → sp vs H Q E) : FnOk P w K mg base CX k f fd ps sp' :=
  ⟨fun vs H Q E q => F.len vs H Q E (h _ _ _ _ q), fun A outer s H args us vs Q E hr he hb hv hs => F.run A outer s H args us vs Q E hr he hb hv (h _ _ _ _ hs)⟩

theorem Env0.make {P : Program} {w : World} {K : PySem.W.Frag} {mg : Str → Option Value} {base : Heap} {A : Around} {outer : List Env} {s : Shared} {H : Hp} (e : Env0 P w K mg base A outer s H) (C : Addr) (us : List Value) (kw : List (Str × Value)) :
    Env0 P w K mg base (A.under (.builtin "type.__call__" ⟨.ref C :: us, kw⟩)) outer s H := ⟨by first | exact e.frames | (simpa [Around.under, Code.envs, Code.isFrame, pushEnvs] using e.frames), e.mod, e.bs, e.bsz, e.funs, e.frf, e.hok, e.bare⟩
theorem Env0.in1 {P : Program} {w : World} {K : PySem.W.Frag} {mg : Str → Option Value} {base : Heap} {A : Around} {outer : List Env} {s : Shared} {H : Hp} (e : Env0 P w K mg base A outer s H) :
    Env0 P w K mg base A.in1 outer s H := ⟨e.frames, e.mod, e.bs, e.bsz, e.funs, e.frf, e.hok, e.bare⟩

section
variable {X : Cx} {pins : List (Addr × Obj)} {σ : St} {H : Hp} {s s' : Shared}
/-- from a body: what a callee wants -/
theorem Inv.env0 (I : Inv X pins σ H s) : Env0 X.prog X.w X.K X.mg X.base X.A X.stack s H :=
  ⟨I.ok.frames, I.ok.mod, I.bs, Nat.le_trans I.ok.bsz I.sz, I.stack, I.stkFree, I.hok, I.bare⟩
/-- behind a call -/
theorem Inv.after {Q : VK} {u : Value} (I : Inv X pins σ H s) (h : CE X.stack X.prog X.w H s Q u s') : EP X pins σ Q u s' := by
  obtain ⟨v, H', os, bare, un, hok, r, q⟩ := h
  obtain ⟨hh, g, d, t, os'⟩ := s'
  obtain rfl : os' = s.os := os
  exact ⟨v, H', I.call (h' := hh) (g' := g) (d' := d) (t' := t) (ch := []) un hok bare (fun b z => absurd z (by simp)), r, q⟩
end

/-! ### calls -/
/-- f(..): the written arguments, then the defaults dvs; E: what is wanted of an exception -/
def tCall (sp : Sp) (dvs : List V) (E : XK) (t : TA) : TE := fun σ H Q => t σ H fun vs H1 => sp (vs ++ dvs) H1 Q E
/-- o.m(..) of an instance of the class at C -/
def tMeth (C : Addr) (m : Str) (sp : Sp) (dvs : List V) (E : XK) (ta : TE) (t : TA) : TE := fun σ H Q => ta σ H fun x H1 => ∃ a dx fs, x = .ref a ∧ H1 a = some (.ins C dx fs) ∧ fs.lookup m = none ∧
  t σ H1 fun vs H2 => sp (x :: (vs ++ dvs)) H2 Q E
/-- C(..): a new instance and its dict, then __init__ -/
def tMake (C : Addr) (sp : Sp) (dvs : List V) (E : XK) (t : TA) : TE := fun σ H Q => t σ H fun vs H1 => ∀ x dx, H1 x = none → H1 dx = none → dx ≠ x →
  sp (.ref x :: (vs ++ dvs)) (upd (upd H1 dx (.own x)) x (.ins C dx [])) (fun v H2 => v = .non ∧ Q (.ref x) H2) E

/-- how the parameters are bound: us the positional arguments, kw the keywords' values by name, ds the defaults that fill up -/
def Binds (K : PySem.W.Frag) (fd : FuncData) (ps : List Str) (ds : List Value) : Prop :=
  ∀ (s : Shared) (us : List Value), K.In s.heap → (us ++ ds).length = ps.length → BindsTo s fd ⟨us, []⟩ (ps.zip (us ++ ds))
/-- every parameter is given -/
theorem Binds.all {K : PySem.W.Frag} {fd : FuncData} {ps : List Str} (h : ∀ us : List Value, us.length = ps.length → bindArgs fd ⟨us, []⟩ = pure (ps.zip us)) : Binds K fd ps [] := fun s us _ hl => by
  rw [List.append_nil] at hl ⊢
  exact .of_eq (h us hl)

/-- an exception of a callee reaches what this body wants of exceptions -/
def Passes (CX : CXT) (X : Cx) (E : XK) : Prop := ∀ (pins : List (Addr × Obj)) (σ : St) (H : Hp) (s : Shared) (e : Value) (s' : Shared), Inv X pins σ H s → CX X.stack H s E e s' → X.xe e s'

section
variable {X : Cx} {CX : CXT} {k : Nat} {f C : Addr} {fd : FuncData} {ps : List Str} {sp : Sp} {dvs : List V} {ds : List Value} {E : XK} {x m : Str} {p pos apos : Pos} {e o : Expr} {es : List Expr} {ta : TE} {t : TA}

/-- the callee runs -/
theorem run_fn {pins : List (Addr × Obj)} {σ : St} {H : Hp} {s : Shared} {Q : VK} {us : List Value} {vs : List V} (F : FnOk X.prog X.w X.K X.mg X.base CX k f fd ps sp) (hr : Room k X.A) (hb : Binds X.K fd ps ds) (hd : Vals dvs ds) (hx : Passes CX X E)
    (I : Inv X pins σ H s) (r : Vals vs us) (h : sp (vs ++ dvs) H Q E) : wpAny (model X.prog X.w) X.A (call (.ref f) us) (EP X pins σ Q) X.xe s := by
  have r2 : Vals (vs ++ dvs) (us ++ ds) := r.append hd
  have hl : (us ++ ds).length = ps.length := by rw [← r2.length]; exact F.len _ _ _ _ h
  refine wpAny_call (codeAny_mono (F.run X.A X.stack s H ⟨us, []⟩ (us ++ ds) (vs ++ dvs) Q E hr I.env0 (hb s us I.kIn hl) r2 h) fun r s' hq => ?_)
  cases r with
  | error e => exact hx pins σ H s e s' I hq
  | ok fl =>
    cases fl with
    | ret u => exact I.after hq
    | next => exact False.elim hq
    | brk => exact False.elim hq
    | cont => exact False.elim hq

theorem pe_call (F : FnOk X.prog X.w X.K X.mg X.base CX k f fd ps sp) (hr : Room k X.A) (hg : Gl X x) (hm : X.mg x = some (.ref f)) (hk : PySem.W.keepIn X.K (.ref f) = true) (hb : Binds X.K fd ps ds) (hd : Vals dvs ds) (hx : Passes CX X E)
    (ha : PA X (e :: es) t) (hdb : (x == ("__debug__" : Str)) = false := by decide) (he : starEach (e :: es) X.env = (false, eval e X.env) :: starEach es X.env := by rfl) (hpl : (backTo pos (starEach es X.env)).any (·.1) = false := by rfl) :
    PE X (.Call (.Name x p) (e :: es) [] pos) (tCall sp dvs E t) := by
  intro pins s σ H Q I h
  refine wpAny_Call_Name_kw (ld_glob I hg hm ?_ hdb)
  refine PySem.W.callWith_K (h₀ := X.base) I.ok.mod.kin hk (thn (ha pos pins s σ H _ I h) fun us s1 ⟨vs, H1, I1, r, q⟩ => ⟨I1.kIn, ?_⟩) he hpl
  exact run_fn F hr hb hd hx I1 r q
/-- o.m(e, ..) -/
theorem pe_meth {pl : Sem Bool} (he : PE X o ta) (c : Cls X.K C) (hm : Meth X.K C m f) (F : FnOk X.prog X.w X.K X.mg X.base CX k f fd ps sp) (hr : Room k X.A) (hb : Binds X.K fd ps ds) (hd : Vals dvs ds) (hx : Passes CX X E) (ha : PA X (e :: es) t)
    (hst : starEach (e :: es) X.env = (false, eval e X.env) :: starEach es X.env := by rfl) (hpl : (backTo pos (starEach es X.env)).any (·.1) = false := by rfl)
    (ht : eval (.Call (.Attribute o m apos) (e :: es) [] pos) X.env = (do
      let ov ← eval o X.env
      standAt apos.atName
      let (f, first) ← holding [ov] (getMethod ov m pl)
      callWith pos f first (backTo pos (starEach (e :: es) X.env)) (backToKw pos (keywordEach [] X.env))) := by rfl) :
    PE X (.Call (.Attribute o m apos) (e :: es) [] pos) (tMeth C m sp dvs E ta t) := by
  intro pins s σ H Q I h
  refine PySem.W.methodCall_KW (pl := pl) (thn (he pins s σ H _ I h) fun u s1 ⟨x, H1, I1, rx, a, dx, fs, ex, ea, l, q⟩ => ?_) ht
  subst ex
  obtain rfl : u = Value.ref a := rx
  refine getmeth_ok I1 ea c hm l ?_
  refine PySem.W.callWith_K (first := [.ref a]) (h₀ := X.base) I.ok.mod.kin hm.kp (thn (ha pos pins s1 σ H1 _ I1 q) fun us s2 ⟨vs, H2, I2, r, q2⟩ => ⟨I2.kIn, ?_⟩) hst hpl
  exact run_fn (us := .ref a :: us) (vs := .ref a :: vs) F hr hb hd hx I2 (.cons rfl r) q2
/-- what a class must have to be made -/
structure Mk (K : PySem.W.Frag) (C f : Addr) : Prop where
  makes : PySem.W.makesIn K C = true
  init : PySem.W.findIn K (.ref C) "__init__" = some (some (.ref f))
  fn : PySem.W.isFn K (.ref f) = true
  kp : PySem.W.keepIn K (.ref C) = true

theorem run_make {pins : List (Addr × Obj)} {σ : St} {H : Hp} {s : Shared} {Q : VK} {us : List Value} {vs : List V} (M : Mk X.K C f) (F : FnOk X.prog X.w X.K X.mg X.base CX k f fd ps sp) (hr : Room (k + 1) X.A) (hb : Binds X.K fd ps ds) (hd : Vals dvs ds)
    (hx : Passes CX X E) (I : Inv X pins σ H s) (r : Vals vs us)
    (h : ∀ x dx, H x = none → H dx = none → dx ≠ x → sp (.ref x :: (vs ++ dvs)) (upd (upd H dx (.own x)) x (.ins C dx [])) (fun v H2 => v = .non ∧ Q (.ref x) H2) E) :
    wpAny (model X.prog X.w) X.A (call (.ref C) us) (EP X pins σ Q) X.xe s := by
  have hq := h (s.heap.objs.size + 1) s.heap.objs.size (I.hok.fresh (Nat.le_succ _)) (I.hok.fresh (Nat.le_refl _)) (Nat.ne_of_lt (Nat.lt_succ_self _))
  have I2 := Inv.made (C := C) I
  have r2 : Vals (V.ref (s.heap.objs.size + 1) :: (vs ++ dvs)) (Value.ref (s.heap.objs.size + 1) :: (us ++ ds)) := .cons rfl (r.append hd)
  have hl : (Value.ref (s.heap.objs.size + 1) :: us ++ ds).length = ps.length := by
    have e := r2.length
    rw [F.len _ _ _ _ hq] at e
    exact e.symm
  refine wpAny_call (make_map (f := f) I.kIn M.makes M.init (beq_iff_eq.mp M.fn) (codeAny_mono (F.run _ X.stack _ _ ⟨Value.ref (s.heap.objs.size + 1) :: us, []⟩ (Value.ref (s.heap.objs.size + 1) :: (us ++ ds)) _ _ E (hr.make C us [])
    (I2.env0.make C us []) (hb _ (Value.ref (s.heap.objs.size + 1) :: us) I2.kIn hl) r2 hq) fun r s' hq' => ?_))
  cases r with
  | error e => exact hx pins σ _ _ e s' I2 hq'
  | ok fl =>
    cases fl with
    | ret u =>
      obtain ⟨v, H', I3, rv, ev, q3⟩ := I2.after hq'
      subst ev
      exact ⟨rv, ⟨V.ref (s.heap.objs.size + 1), H', I3, rfl, q3⟩⟩
    | next => exact False.elim hq'
    | brk => exact False.elim hq'
    | cont => exact False.elim hq'
theorem pe_make0 (M : Mk X.K C f) (F : FnOk X.prog X.w X.K X.mg X.base CX k f fd ps sp) (hr : Room (k + 1) X.A) (hg : Gl X x) (hm : X.mg x = some (.ref C)) (hb : Binds X.K fd ps ds) (hd : Vals dvs ds) (hx : Passes CX X E)
    (hdb : (x == ("__debug__" : Str)) = false := by decide) : PE X (.Call (.Name x p) [] [] pos) (tMake C sp dvs E tNil) := by
  intro pins s σ H Q I h
  refine wpAny_Call_Name_kw (ld_glob I hg hm ?_ hdb)
  exact PySem.W.callWith_K0 I.kIn M.kp (run_make (us := []) M F hr hb hd hx I .nil h)
end

/-! ### keywords -/
/-- the values of the keywords, from the left -/
def PK (X : Cx) (kws : List Keyword) (t : TA) : Prop :=
  ∀ (pos : Pos) (pins : List (Addr × Obj)) (s : Shared) (σ : St) (H : Hp) (Q : List V → Hp → Prop), Inv X pins σ H s → t σ H Q → wpAny (model X.prog X.w) X.A (evalAll ((backToKw pos (keywordEach kws X.env)).map (·.2))) (AP X pins σ Q) X.xe s
section
variable {X : Cx} {CX : CXT} {k : Nat} {f C : Addr} {fd : FuncData} {ps ks : List Str} {sp : Sp} {E : XK} {x m : Str} {p pos apos kpos : Pos} {e o : Expr} {es : List Expr} {kws : List Keyword} {te ta : TE} {t tk : TA} {nm : Option Str}
/-- how a call with keywords binds: g puts the positional values us and the keywords' values ws (names ks) in the parameters' order, defaults among them -/
structure KBinds (K : PySem.W.Frag) (fd : FuncData) (ps ks : List Str) (g : List Value → List Value → List Value) (gV : List V → List V → List V) : Prop where
  to : ∀ (s : Shared) (us ws : List Value), K.In s.heap → (g us ws).length = ps.length → BindsTo s fd ⟨us, ks.zip ws⟩ (ps.zip (g us ws))
  rel : ∀ {vs : List V} {us : List Value} {zs : List V} {ws : List Value}, Vals vs us → Vals zs ws → Vals (gV vs zs) (g us ws)
def tCallK (sp : Sp) (gV : List V → List V → List V) (E : XK) (t tk : TA) : TE := fun σ H Q => t σ H fun vs H1 => tk σ H1 fun zs H2 => sp (gV vs zs) H2 Q E
variable {g : List Value → List Value → List Value} {gV : List V → List V → List V}
end

/-! ### a def's body keeps its promise -/
/-- names: the parameters first -/
structure FnScope (N P : List Str) (sc : Scope) : Prop where
  kind : sc.kind = .function
  co : sc.isCoroutine = false
  gen : sc.isGenerator = false
  nd : N.Nodup
  pre : N.take P.length = P
  par : ∀ x ∈ P, sc.names.lookup x = some .local ∨ sc.names.lookup x = some .cell
  nofree : ∀ y ∈ sc.names, y.2 ≠ .free

theorem bindL_out {kindOf : Str → Option NameKind} {x : Str} : ∀ {binds : List (Str × Value)} {m : Str → Option Value}, (∀ v, (x, v) ∉ binds) → bindL kindOf binds m x = m x
  | [], _, _ => rfl
  | (n, v) :: r, m, h => by
    unfold bindL
    rw [bindL_out fun w hw => h w (List.mem_cons_of_mem _ hw)]
    split
    · have : x ≠ n := by rintro rfl; exact h v List.mem_cons_self
      simp [this]
    · rfl
theorem bindC_out {kindOf : Str → Option NameKind} {x : Str} : ∀ {binds : List (Str × Value)} {m : Str → Option Value}, (∀ v, (x, v) ∉ binds) → bindC kindOf binds m x = m x
  | [], _, _ => rfl
  | (n, v) :: r, m, h => by
    unfold bindC
    rw [bindC_out fun w hw => h w (List.mem_cons_of_mem _ hw)]
    split
    · rfl
    · have : x ≠ n := by rintro rfl; exact h v List.mem_cons_self
      simp [this]
theorem bindL_get {kindOf : Str → Option NameKind} {x : Str} {v : Value} : ∀ {P : List Str} {vs : List Value} {i : Nat} {m : Str → Option Value}, P.Nodup → P[i]? = some x → vs[i]? = some v → kindOf x = some .local →
    bindL kindOf (P.zip vs) m x = some v
  | [], _, _, _, _, h, _, _ => by simp at h
  | _ :: _, [], _, _, _, _, h, _ => by simp at h
  | p :: P, w :: vs, 0, m, nd, h1, h2, hk => by
    simp at h1 h2; subst h1; subst h2
    show bindL kindOf ((p, w) :: P.zip vs) m p = _
    unfold bindL
    rw [bindL_out fun v hv => (List.nodup_cons.mp nd).1 (List.of_mem_zip hv).1, if_pos hk]
    simp
  | p :: P, w :: vs, i + 1, m, nd, h1, h2, hk => by
    show bindL kindOf ((p, w) :: P.zip vs) m x = _
    unfold bindL
    exact bindL_get (i := i) (List.nodup_cons.mp nd).2 (by simpa using h1) (by simpa using h2) hk
theorem bindC_get {kindOf : Str → Option NameKind} {x : Str} {v : Value} : ∀ {P : List Str} {vs : List Value} {i : Nat} {m : Str → Option Value}, P.Nodup → P[i]? = some x → vs[i]? = some v → kindOf x ≠ some .local →
    bindC kindOf (P.zip vs) m x = some v
  | [], _, _, _, _, h, _, _ => by simp at h
  | _ :: _, [], _, _, _, _, h, _ => by simp at h
  | p :: P, w :: vs, 0, m, nd, h1, h2, hk => by
    simp at h1 h2; subst h1; subst h2
    show bindC kindOf ((p, w) :: P.zip vs) m p = _
    unfold bindC
    rw [bindC_out fun v hv => (List.nodup_cons.mp nd).1 (List.of_mem_zip hv).1, if_neg hk]
    simp
  | p :: P, w :: vs, i + 1, m, nd, h1, h2, hk => by
    show bindC kindOf ((p, w) :: P.zip vs) m x = _
    unfold bindC
    exact bindC_get (i := i) (List.nodup_cons.mp nd).2 (by simpa using h1) (by simpa using h2) hk

/-- the names' values at the entry -/
def start (N : List Str) (vs : List V) : St := vs.map some ++ List.replicate (N.length - vs.length) none

/-- the context of a def's body, at its entry; an exception leaves the frame, then lies as CX says -/
def cxOf (CX : CXT) (P : Program) (w : World) (K : PySem.W.Frag) (mg : Str → Option Value) (base : Heap) (N : List Str) (qual : Str) (scope : Scope) (f : Addr) (cd : Value) (A : Around) (outer : List Env) (s : Shared) (H : Hp) (E : XK) : Cx where
  prog := P
  w := w
  K := K
  mg := mg
  base := base
  A := A.deeper (envOfC qual scope s.heap.objs.size f cd)
  N := N
  s₀ := s
  H₀ := H
  env := envOfC qual scope s.heap.objs.size f cd
  outer := outer
  stack := envOfC qual scope s.heap.objs.size f cd :: outer
  ex := []
  calm := true
  fn := fun _ => true
  pn := []
  xe := fun e s' => wpAny (model P w) (A.deeper (envOfC qual scope s.heap.objs.size f cd)) (leaving (envOfC qual scope s.heap.objs.size f cd) e) (fun _ s'' => CX outer H s E e s'') (fun e' s'' => CX outer H s E e' s'') s'

theorem cell_has {sc : Scope} {n : Nat} {x : Str} (h : sc.names.lookup x = some .cell) : ∃ c, (cellsFrom n sc.names []).lookup x = some c := by
  have q := PySem.W.cellsFrom_some sc.names n [] (.inl h)
  exact Option.isSome_iff_exists.mp q

theorem inv_start {CX : CXT} {P : Program} {w : World} {K : PySem.W.Frag} {mg : Str → Option Value} {base : Heap} {N ps : List Str} {qual : Str} {scope : Scope} {f : Addr} {cd : Value} {A : Around} {outer : List Env} {s s1 : Shared} {H : Hp} {E : XK} {us : List Value} {vs : List V}
    (S : FnScope N ps scope) (hd : A.handled = none) (e0 : Env0 P w K mg base A outer s H) (hl : vs.length = ps.length) (r : Vals vs us)
    (x : InCallC s s.heap.objs.size (bindL (envOfC qual scope s.heap.objs.size f cd).kindOf (ps.zip us) fun _ => none) (cellsFrom (s.heap.objs.size + 1) scope.names []) (bindC (envOfC qual scope s.heap.objs.size f cd).kindOf (ps.zip us) fun _ => none) s1) :
    Inv (cxOf CX P w K mg base N qual scope f cd A outer s H E) [] (start N vs) H s1 := by
  have hpl : ps.length ≤ N.length := by have := congrArg List.length S.pre; rw [List.length_take] at this; omega
  obtain ⟨h1, tk, rfl, hk⟩ := x.done
  have noA : ∀ b : Addr, b ∉ (cxOf CX P w K mg base N qual scope f cd A outer s H E).ex := fun b z => absurd (show b ∈ ([] : List Addr) from z) (by simp)
  refine ⟨⟨e0.mod, S.kind, rfl, rfl, Nat.le_refl _, fun y z c h1 h2 => ?_, fun y hy => ?_, fun y c _ h => ?_, fun _ => hd, Around.frames_deeper e0.frames, .inr ⟨rfl, rfl⟩, fun b z => absurd z (noA b), e0.bs, e0.bsz, fun b _ _ => noA b, fun b z => absurd z (noA b), e0.funs, e0.frf⟩,
    rfl, e0.bare, Un.kept hk, ⟨_, x.toInCall.ns, fun i y v h1 h2 h3 => ?_⟩, fun y c h => ⟨_, x.cell y c h⟩, e0.hok.fresh (Nat.le_refl _), fun y c h => ?_, fun p hp => absurd (show p ∈ ([] : List (Addr × Obj)) from hp) (by simp), e0.hok.kept hk, ?_⟩
  · exact name_of_addr x.apart (PySem.mem_of_lookup h1) (PySem.mem_of_lookup h2)
  · have hy : scope.names.lookup y = some .cell ∨ scope.names.lookup y = some .free := hy
    rcases hy with hy | hy
    · exact cell_has hy
    · exact absurd rfl (S.nofree _ (PySem.mem_of_lookup hy))
  · exact Nat.le_of_lt (x.above y c (PySem.mem_of_lookup h))
  · have hi : i < vs.length := by
      unfold start at h2
      by_cases hi : i < vs.length
      · exact hi
      · rw [List.getElem?_append_right (by simpa using hi)] at h2
        rw [List.getElem?_replicate] at h2
        split at h2 <;> cases h2
    have ha : vs[i]? = some v := by
      unfold start at h2
      rw [List.getElem?_append_left (by simpa using hi), List.getElem?_map] at h2
      cases e : vs[i]? with
      | none => rw [e] at h2; cases h2
      | some a => rw [e] at h2; cases h2; rfl
    obtain ⟨u, hu, rv⟩ := r.get ha
    have hp : ps[i]? = some y := by
      rw [← S.pre, List.getElem?_take_of_lt (by omega)]; exact h1
    have ndP : ps.Nodup := by rw [← S.pre]; exact S.nd.sublist (List.take_sublist _ _)
    refine ⟨u, rv, ?_⟩
    rcases S.par y (List.mem_of_getElem? hp) with k | k
    · exact .inl ⟨k, bindL_get ndP hp hu k⟩
    · obtain ⟨c, e⟩ := cell_has (n := s.heap.objs.size + 1) k
      refine .inr ⟨.inl k, c, e, ?_⟩
      have q := x.cell y c e
      rw [bindC_get ndP hp hu (by show scope.names.lookup y ≠ _; rw [k]; decide)] at q
      exact q
  · exact e0.hok.fresh (Nat.le_of_lt (x.above y c (PySem.mem_of_lookup h)))
  · unfold start
    show _ = N.length
    rw [List.length_append, List.length_map, List.length_replicate]
    omega

/-- THE RULE: a def (or a method) of the text, by its body. The body's reading t is chosen for each entry; it is run at the parameters' values -/
theorem fn_of {CX : CXT} {P : Program} {w : World} {K : PySem.W.Frag} {mg : Str → Option Value} {base : Heap} {k : Nat} {f : Addr} {name qual : Str} {params : Arguments} {body : List Stmt} {scope : Scope} {dV kV doc pm cdv ct oc : Value} {an od : Option Addr}
    {osl : Array (Option Value)} {N ps : List Str} {sp : Sp} (lk : K.lookup f = some ⟨oc, od, .func (PySem.W.fnOf name qual params body scope dV kV doc pm an cdv ct), osl⟩) (hcd : PySem.W.codeIn K cdv qual = true) (S : FnScope N ps scope)
    (len : ∀ vs H Q E, sp vs H Q E → vs.length = ps.length)
    (hbody : ∀ (A : Around) (outer : List Env) (s : Shared) (H : Hp) (vs : List V) (Q : VK) (E : XK), Room k (A.deeper (envOfC qual scope s.heap.objs.size f cdv)) → sp vs H Q E →
      ∃ t, PSs (cxOf CX P w K mg base N qual scope f cdv A outer s H E) body t ∧ t { nx := fun _ H' => Q .non H', rt := Q } (start N vs) H) :
    FnOk P w K mg base CX (k + 1) f (PySem.W.fnOf name qual params body scope dV kV doc pm an cdv ct) ps sp := by
  refine ⟨len, fun A outer s H args us vs Q E hr e0 hb r hsp => ?_⟩
  have hl := len _ _ _ _ hsp
  have KX : K.In s.heap := e0.mod.kin.keeps fun b o e => (e0.bs b o e).1
  have lim : s.heap.NoLimit := e0.mod.nolimit.keeps fun b o e => (e0.bs b o e).1
  have hkind : ∀ y ∈ ps.zip us, scope.names.lookup y.1 = some .local ∨ (scope.names.lookup y.1 = some .cell ∧ ((cellsFrom (s.heap.objs.size + 1) scope.names []).lookup y.1).isSome = true) := fun ⟨n, v⟩ hy => by
    rcases S.par n (List.of_mem_zip hy).1 with q | q
    · exact .inl q
    · exact .inr ⟨q, PySem.W.cellsFrom_some _ _ _ (.inl q)⟩
  refine codeAny_call_function hr.depth (KX _ _ lk) rfl S.co S.gen rfl (PySem.W.codeRec_of KX hcd) (hb _ _ _ _ ?_)
  refine wpAny_newFunctionEnv_cells S.kind hkind fun env he s1 x => ?_
  subst he
  refine ⟨lim.keeps x.toInCall.keep, codeAny_func ?_⟩
  obtain ⟨t, ht, hq⟩ := hbody A outer s H vs Q E (hr.deeper _) hsp
  have I : Inv (cxOf CX P w K mg base N qual scope f cdv A outer s H E) [] (start N vs) H s1 := inv_start S hr.hd e0 hl r x
  refine wpAny_mono (ht [] s1 (start N vs) H _ I hq) (fun fl s' hs => ?_) fun e s' hs => hs
  have fin : ∀ {σ' : St} {H' : Hp} {v : V} {u : Value}, Inv (cxOf CX P w K mg base N qual scope f cdv A outer s H E) [] σ' H' s' → RelV v u → Q v H' → CE outer P w H s Q u s' :=
    fun {σ' H' v u} J rv q => ⟨v, H', J.os, J.bare, J.base, J.hok, rv, q⟩
  cases fl with
  | ret u =>
    obtain ⟨v, σ', H', J, rv, q⟩ := hs
    exact fin J rv q
  | next =>
    obtain ⟨σ', H', J, q⟩ := hs
    exact fin (v := V.non) (u := Value.none) J rfl q
  | brk =>
    obtain ⟨_, _, _, q⟩ := hs
    exact False.elim q
  | cont =>
    obtain ⟨_, _, _, q⟩ := hs
    exact False.elim q
end L2

namespace L2
open PySem PySem.Spec PyProof.Rows
section
variable {X : Cx} {x : Str} {p pos : Pos} {e : Expr} {es : List Expr} {t : TA} {id T : String} {r : List V → Hp → VK → Prop}

def tCB (r : List V → Hp → VK → Prop) (t : TA) : TE := fun σ H Q => t σ H fun vs H1 => r vs H1 Q
/-- f(e, ..), f a built-in function -/
theorem pe_callB (hc : CallR X (.builtin id) r) (hg : Gl X x) (hm : X.mg x = none) (hv : bootBuiltins x = some (.builtin id)) (ha : PA X (e :: es) t) (hn : x ≠ "__name__" := by decide) (hdb : (x == ("__debug__" : Str)) = false := by decide)
    (he : starEach (e :: es) X.env = (false, eval e X.env) :: starEach es X.env := by rfl) (hpl : (backTo pos (starEach es X.env)).any (·.1) = false := by rfl) : PE X (.Call (.Name x p) (e :: es) [] pos) (tCB r t) := by
  intro pins s σ H Q I h
  refine wpAny_Call_Name_kw (ld_blt I hg hm hv ?_ hn hdb)
  exact PyProof.Rows.callWith_builtin1 (thn (ha pos pins s σ H _ I h) fun us s1 ⟨vs, H1, I1, r1, q1⟩ => hc pins s1 σ H1 vs us Q I1 r1 q1) he hpl
/-- T(e, ..), T a built-in type -/
theorem pe_callTy (hc : CallR X (.type T) r) (hg : Gl X x) (hm : X.mg x = none) (hv : bootBuiltins x = some (.type T)) (ha : PA X (e :: es) t) (hn : x ≠ "__name__" := by decide) (hdb : (x == ("__debug__" : Str)) = false := by decide)
    (he : starEach (e :: es) X.env = (false, eval e X.env) :: starEach es X.env := by rfl) (hpl : (backTo pos (starEach es X.env)).any (·.1) = false := by rfl) : PE X (.Call (.Name x p) (e :: es) [] pos) (tCB r t) := by
  intro pins s σ H Q I h
  refine wpAny_Call_Name_kw (ld_blt I hg hm hv ?_ hn hdb)
  exact PyProof.Rows.callWith_type1 (thn (ha pos pins s σ H _ I h) fun us s1 ⟨vs, H1, I1, r1, q1⟩ => hc pins s1 σ H1 vs us Q I1 r1 q1) he hpl
end
end L2

namespace HT
open PySem PyProof.Rows

/-- t < u of tuples of ints -/
def lexLt : List Int → List Int → Bool
  | [], [] => false
  | [], _ :: _ => true
  | _ :: _, [] => false
  | x :: xs, y :: ys => if x = y then lexLt xs ys else decide (x < y)
section
open PySem.SeqAt
open PySem.AutoSeq1 (wpAny_loadPart')
open PySem.MeetsSeq PySem.MeetsSeq2 PySem.MeetsSeq3

end

section
variable {prog : Program} {w : World} {A : Around} {E : Value → Shared → Prop} {s : Shared}

/-! ### t[a:b], not the whole -/
/-- a slice's bound as a place among n (d where it is left out) -/
def sIx (n d : Nat) : Option Int → Nat
  | none => d
  | some v => if v < 0 then (v + (n : Int)).toNat else min v.toNat n
theorem sIx_none (n d : Nat) : sIx n d none = d := rfl
theorem sIx_nat (n d k : Nat) : sIx n d (some (k : Int)) = min k n := by
  show (if (k : Int) < 0 then ((k : Int) + (n : Int)).toNat else min (k : Int).toNat n) = min k n
  rw [if_neg (by omega), Int.toNat_natCast]
theorem sIx_le (n d : Nat) (hd : d ≤ n) (o : Option Int) : sIx n d o ≤ n := by
  cases o with
  | none => exact hd
  | some v =>
    show (if v < 0 then (v + (n : Int)).toNat else min v.toNat n) ≤ n
    by_cases hv : v < 0
    · rw [if_pos hv]; omega
    · rw [if_neg hv]; exact Nat.min_le_right _ _
end
end HT

namespace L2
open PySem PySem.Spec PyProof.Rows

/-! ### the parts of a slice -/
abbrev TO := St → Hp → (Option Int → Hp → Prop) → Prop
/-- a slice's part (left out, or an int) -/
def PO (X : Cx) (e : Option Expr) (t : TO) : Prop :=
  ∀ (pins : List (Addr × Obj)) (s : Shared) (σ : St) (H : Hp) (Q : Option Int → Hp → Prop), Inv X pins σ H s → t σ H Q →
    wpAny (model X.prog X.w) X.A (evalPart e X.env) (fun u s' => ∃ o H', Inv X pins σ H' s' ∧ IsPart u o ∧ Q o H') X.xe s
def tNoPart : TO := fun _ H Q => Q none H
def tPart (t : TE) : TO := fun σ H Q => t σ H fun x H1 => ∃ i, x = .int i ∧ Q (some i) H1

section
variable {X : Cx} {e : Expr} {te : TE} {lo hi : Option Expr} {tl th : TO} {pos p2 : Pos}

theorem po_none : PO X none tNoPart := by
  intro pins s σ H Q I h
  rw [evalPart_none]
  exact wpAny_pure ⟨none, H, I, .none, h⟩
theorem po_some (h : PE X e te) : PO X (some e) (tPart te) := by
  intro pins s σ H Q I hw
  rw [evalPart_some]
  refine thn (h pins s σ H _ I hw) fun u s1 ⟨x, H1, I1, r1, q1⟩ => ?_
  obtain ⟨i, rfl, q⟩ := q1
  obtain ⟨t, rfl⟩ := r1
  exact ⟨some i, H1, I1, .int i t, q⟩

/-- what a slice of a value is, by values: the slice object stands at sl -/
def SlR (X : Cx) (r : V → Option Int → Option Int → Hp → VK → Prop) : Prop :=
  ∀ (pins : List (Addr × Obj)) (s : Shared) (σ : St) (H : Hp) (x : V) (v vl vu : Value) (lo hi : Option Int) (sl : Addr) (Q : VK), Inv X pins σ H s → RelV x v → s.heap.IsSliceOf sl vl vu .none → IsPart vl lo → IsPart vu hi → r x lo hi H Q →
    ∃ T id, typeLookup (.type T) "__getitem__" = pure (some (.builtin id)) ∧ s.TypeIs v T ∧ wpAny (model X.prog X.w) X.A (getItem v (.ref sl)) (EP X pins σ Q) X.xe s
theorem SlR.or {r r' : V → Option Int → Option Int → Hp → VK → Prop} (h : SlR X r) (h' : SlR X r') : SlR X (fun x lo hi H Q => r x lo hi H Q ∨ r' x lo hi H Q) := by
  intro pins s σ H x v vl vu lo hi sl Q I rx hs pl pu q
  rcases q with q | q
  · exact h pins s σ H x v vl vu lo hi sl Q I rx hs pl pu q
  · exact h' pins s σ H x v vl vu lo hi sl Q I rx hs pl pu q
def tSl (r : V → Option Int → Option Int → Hp → VK → Prop) (te : TE) (tl th : TO) : TE := fun σ H Q => te σ H fun x H1 => tl σ H1 fun l H2 => th σ H2 fun u H3 => r x l u H3 Q
/-- a[lo:hi], any a -/
theorem pe_slice {r : V → Option Int → Option Int → Hp → VK → Prop} (hr : SlR X r) (he : PE X e te) (hl : PO X lo tl) (hu : PO X hi th) : PE X (.Subscript e (.Slice lo hi none p2) pos) (tSl r te tl th) := by
  intro pins s σ H Q I h
  refine Subscript_ (thn (he pins s σ H _ I h) fun v s1 ⟨x, H1, I1, r1, q1⟩ => ?_)
  refine wpAny_Slice (thn (hl pins s1 σ H1 _ I1 q1) fun vl s2 ⟨l, H2, I2, pl, q2⟩ => thn (hu pins s2 σ H2 _ I2 q2) fun vu s3 ⟨u, H3, I3, pu, q3⟩ => ?_)
  rw [evalPart_none]
  refine wpAny_pure ?_
  have I4 : Inv X pins σ H3 { s3 with heap := s3.heap.push { cls := .type "slice", data := .fields #[vl, vu, .none] } } := I3.kept (t' := s3.toks) fun b ob q => Heap.get?_push_of_some _ q
  obtain ⟨T, id, hT, ht, hg⟩ := hr pins { s3 with heap := s3.heap.push { cls := .type "slice", data := .fields #[vl, vu, .none] } } σ H3 x v vl vu l u s3.heap.objs.size Q I4 r1 (Heap.IsSliceOf.new ..) pl pu q3
  show wpAny (model X.prog X.w) X.A (subscriptTail e (.Slice lo hi none p2) v (.ref s3.heap.objs.size)) (EP X pins σ Q) X.xe { s3 with heap := s3.heap.push { cls := .type "slice", data := .fields #[vl, vu, .none] } }
  exact tail_any (ops := [.ref s3.heap.objs.size, v]) ht hT hg (by with_unfolding_all rfl)

/-- the items of xs[lo:hi] -/
def cutV (xs : List V) (lo hi : Option Int) : List V := (xs.drop (HT.sIx xs.length 0 lo)).take (HT.sIx xs.length xs.length hi - HT.sIx xs.length 0 lo)
theorem cutV_length (xs : List V) (lo hi : Option Int) : (cutV xs lo hi).length ≤ xs.length := by
  unfold cutV
  rw [List.length_take, List.length_drop]
  omega
/-- t[lo:hi], not the whole of it (the whole would be t itself) -/
def rSlT (K : PySem.W.Frag) : V → Option Int → Option Int → Hp → VK → Prop := fun x lo hi H Q => ∃ a xs, x = .ref a ∧ SqT K H a xs ∧
  ¬ (HT.sIx xs.length 0 lo = 0 ∧ HT.sIx xs.length xs.length hi = xs.length) ∧ ∀ p, H p = none → Q (.ref p) (upd H p (.tup (cutV xs lo hi)))
/-! ### t < u, t + u -/
def rLtT (K : PySem.W.Frag) : R2 := fun x y H Q => ∃ a b ns ms, x = .ref a ∧ y = .ref b ∧ SqT K H a (ns.map V.int) ∧ SqT K H b (ms.map V.int) ∧ Q (.bl (HT.lexLt ns ms)) H
/-- t + u, t not empty: u empty gives t itself -/
def rCatT (K : PySem.W.Frag) : R2 := fun x y H Q => ∃ a b xs ys, x = .ref a ∧ y = .ref b ∧ SqT K H a xs ∧ SqT K H b ys ∧ xs ≠ [] ∧ xs.length + ys.length ≤ sizeLine ∧
  (ys = [] → Q (.ref a) H) ∧ (ys ≠ [] → ∀ p, H p = none → Q (.ref p) (upd H p (.tup (xs ++ ys))))
end
end L2

namespace L2
open PySem PySem.Spec PyProof.Rows

/-! ### places -/
/-- the place that an index of any sign means -/
def ixN (n : Nat) (i : Int) : Option Nat := if 0 ≤ i then (if i < n then some i.toNat else none) else if -(n : Int) ≤ i then some (i + n).toNat else none
def atI {α : Type} (xs : List α) (i : Int) : Option α := (ixN xs.length i).bind fun j => xs[j]?
theorem ixN_seq {n : Nat} {i : Int} {j : Nat} (h : ixN n i = some j) : seqIndex? i n = some j ∧ j < n ∧ -(n : Int) ≤ i ∧ i < n := by
  unfold ixN at h
  by_cases h0 : 0 ≤ i
  · rw [if_pos h0] at h
    by_cases h1 : i < n
    · rw [if_pos h1] at h
      have e : i.toNat = j := Option.some.inj h
      exact ⟨by rw [seqIndex_of h0 h1, e], by omega, by omega, h1⟩
    · rw [if_neg h1] at h; cases h
  · rw [if_neg h0] at h
    by_cases h1 : -(n : Int) ≤ i
    · rw [if_pos h1] at h
      have e : (i + n).toNat = j := Option.some.inj h
      exact ⟨by rw [seqIndex_neg (by omega) h1, e], by omega, h1, by omega⟩
    · rw [if_neg h1] at h; cases h
theorem atI_get {α : Type} {xs : List α} {i : Int} {v : α} (h : atI xs i = some v) : ∃ j, seqIndex? i xs.length = some j ∧ xs[j]? = some v ∧ j < xs.length ∧ -(xs.length : Int) ≤ i ∧ i < xs.length := by
  unfold atI at h
  cases e : ixN xs.length i with
  | none => rw [e] at h; cases h
  | some j =>
    rw [e] at h
    obtain ⟨h1, h2, h3, h4⟩ := ixN_seq e
    exact ⟨j, h1, h, h2, h3, h4⟩
theorem atI_nat {α : Type} {xs : List α} {j : Nat} {v : α} (h : xs[j]? = some v) : atI xs (j : Int) = some v := by
  have hj : j < xs.length := (List.getElem?_eq_some_iff.mp h).1
  have e : ixN xs.length (j : Int) = some j := by
    unfold ixN
    rw [if_pos (by omega), if_pos (by omega)]; simp
  unfold atI; rw [e]; exact h
/-! ### what may be subscripted -/
/-- what stands as an index of a plain subscript -/
def PlainIx (b : Expr) : Prop := ∀ o i, subscripted b false o i = operate [o, i] (getItem o i)
/-- a subscript by values -/
def IxR (X : Cx) (r : R2) : Prop :=
  ∀ (value slice : Expr) (pins : List (Addr × Obj)) (s : Shared) (σ : St) (H : Hp) (x y : V) (v u : Value) (Q : VK), Inv X pins σ H s → RelV x v → RelV y u → r x y H Q →
    subscripted slice false v u = operate [v, u] (getItem v u) → wpAny (model X.prog X.w) X.A (subscriptTail value slice v u) (EP X pins σ Q) X.xe s
/-- a call of a builtin's method by values: the receiver, the arguments -/
def MtR (X : Cx) (id : String) (r : V → List V → Hp → VK → Prop) : Prop :=
  ∀ (pins : List (Addr × Obj)) (s : Shared) (σ : St) (H : Hp) (x : V) (xs : List V) (v : Value) (us : List Value) (Q : VK), Inv X pins σ H s → RelV x v → Vals xs us → r x xs H Q →
    wpAny (model X.prog X.w) X.A (call (.builtin id) (v :: us)) (EP X pins σ Q) X.xe s
section
variable {X : Cx} {a b : Expr} {ta tb : TE} {pos : Pos}
theorem IxR.or {r r' : R2} (h : IxR X r) (h' : IxR X r') : IxR X (fun x y H Q => r x y H Q ∨ r' x y H Q) := by
  intro value slice pins s σ H x y v u Q I rx ry q hs
  rcases q with q | q
  · exact h value slice pins s σ H x y v u Q I rx ry q hs
  · exact h' value slice pins s σ H x y v u Q I rx ry q hs
theorem MtR.or {id : String} {r r' : V → List V → Hp → VK → Prop} (h : MtR X id r) (h' : MtR X id r') : MtR X id (fun x xs H Q => r x xs H Q ∨ r' x xs H Q) := by
  intro pins s σ H x xs v us Q I rx rs q
  rcases q with q | q
  · exact h pins s σ H x xs v us Q I rx rs q
  · exact h' pins s σ H x xs v us Q I rx rs q
/-- a[b] -/
theorem pe_ix {r : R2} (hr : IxR X r) (ha : PE X a ta) (hb : PE X b tb) (hs : PlainIx b) : PE X (.Subscript a b pos) (tOp r ta tb) := by
  intro pins s σ H Q I h
  exact Subscript_ (binT ha hb I h fun v u s2 x y H2 I2 rx ry q => hr a b pins s2 σ H2 x y v u Q I2 rx ry q (hs _ _))

def rIxL (K : PySem.W.Frag) : R2 := fun x y H Q => ∃ p xs i v, x = .ref p ∧ y = .int i ∧ SqL K H p xs ∧ atI xs i = some v ∧ Q v H
def rIxT (K : PySem.W.Frag) : R2 := fun x y H Q => ∃ p xs i v, x = .ref p ∧ y = .int i ∧ SqT K H p xs ∧ atI xs i = some v ∧ Q v H
def rIxS : R2 := fun x y H Q => ∃ z i c, x = .str z ∧ y = .int i ∧ z.length ≤ sizeLine ∧ atI z.cps.toList i = some c ∧ Q (.str ⟨#[c]⟩) H
theorem ix_list : IxR X (rIxL X.K) := by
  intro value slice pins s σ H x y v u Q I rx ry h hs
  obtain ⟨p, xs, i, z, rfl, rfl, hq, he, q⟩ := h
  cases rx
  obtain ⟨t, rfl⟩ := ry
  obtain ⟨its, r, pl, hz⟩ := I.list hq
  obtain ⟨j, h1, h2, h3, h4, h5⟩ := atI_get he
  obtain ⟨w, ew, rw'⟩ := r.get h2
  have hl := r.length
  have hn := line63
  have fin : EP X pins σ Q w s := ⟨z, H, I, rw', q⟩
  by_cases h0 : 0 ≤ i
  · have hj : i.toNat = j := by
      rw [seqIndex_of h0 h5] at h1
      exact Option.some.inj h1
    exact item_listR pl.isList h0 (by omega) (by rw [hj]; simpa using ew) fin hs
  · have hj : (i + (its.toArray.size : Int)).toNat = j := by
      rw [seqIndex_neg (by omega) h4] at h1
      rw [List.size_toArray, ← hl]
      exact Option.some.inj h1
    exact subscriptTail_builtinR (x := w) pl.isList.typeIs slot_list_getitem.lookup
      (wpAny_getItem_list_neg (Q := fun r s' => r = w ∧ EP X pins σ Q r s') pl.isList (by omega) (by rw [List.size_toArray] <;> omega) (by omega) (by rw [hj]; simpa using ew) ⟨rfl, fin⟩) hs
theorem ix_tup : IxR X (rIxT X.K) := by
  intro value slice pins s σ H x y v u Q I rx ry h hs
  obtain ⟨p, xs, i, z, rfl, rfl, hq, he, q⟩ := h
  cases rx
  obtain ⟨t, rfl⟩ := ry
  obtain ⟨its, r, pl, hz⟩ := I.tuple hq
  obtain ⟨j, h1, h2, h3, h4, h5⟩ := atI_get he
  obtain ⟨w, ew, rw'⟩ := r.get h2
  have hl := r.length
  have hn := line63
  have fin : EP X pins σ Q w s := ⟨z, H, I, rw', q⟩
  exact subscriptTail_builtinR (x := w) pl.typeIs slot_tuple_getitem.lookup
    (getItem_tuple (j := j) (Q := fun r s' => r = w ∧ EP X pins σ Q r s') pl (by omega) (by omega) (by rw [List.size_toArray, ← hl]; exact h1) (by simpa using ew) ⟨rfl, fin⟩) hs
theorem ix_str : IxR X rIxS := by
  intro value slice pins s σ H x y v u Q I rx ry h hs
  obtain ⟨z, i, c, rfl, rfl, hz, he, q⟩ := h
  obtain ⟨t, rfl⟩ := rx
  obtain ⟨t', rfl⟩ := ry
  obtain ⟨j, h1, h2, h3, h4, h5⟩ := atI_get he
  have hl : z.cps.toList.length = z.length := by simp [Str.length]
  rw [hl] at h1 h4 h5
  have hn := line63
  exact tail_any (typeIs_str s z t) slot_str_getitem.lookup (getItem_str (c := c) (by
    have e1 : decide (i < -(2 ^ 63 : Int)) = false := decide_eq_false (by omega)
    have e2 : decide (i ≥ 2 ^ 63) = false := decide_eq_false (by omega)
    rw [e1, e2, Bool.or_false]) (by rw [h1]; simpa using h2) ⟨.str ⟨#[c]⟩, H, I.tok _, ⟨_, rfl⟩, q⟩) hs
/-- list, tuple or str -/
def rIx (K : PySem.W.Frag) : R2 := fun x y H Q => rIxL K x y H Q ∨ rIxT K x y H Q ∨ rIxS x y H Q
/-! ### xs[i] = v, any sign -/
/-- the list's object behind a store -/
theorem mapSeq_set (its : List Value) (n j : Nat) (u : Value) : Obj.mapSeq (·.setIfInBounds j u) { cls := .type "list", data := .seq its.toArray n } = { cls := .type "list", data := .seq (its.set j u).toArray n } := by
  simp [Obj.mapSeq]
theorem Inv.lst {pins : List (Addr × Obj)} {σ : St} {H : Hp} {s : Shared} {p : Addr} {xs : List V} (I : Inv X pins σ H s) (h : H p = some (.lst xs)) :
    ∃ (its : List Value) (n : Nat), Vals xs its ∧ s.heap.get? p = some { cls := .type "list", data := .seq its.toArray n } ∧ xs.length ≤ sizeLine := by
  obtain ⟨z, its, n, r, e⟩ := I.hok p _ h
  exact ⟨its, n, r, e, z⟩
/-- the list at p is written by an update of its object -/
theorem Inv.lstUpd {pins : List (Addr × Obj)} {σ : St} {H : Hp} {s : Shared} {p : Addr} {xs ys : List V} {its its' : List Value} {n n' : Nat} {f : Obj → Obj} (I : Inv X pins σ H s) (h : H p = some (.lst xs))
    (ho : s.heap.get? p = some { cls := .type "list", data := .seq its.toArray n }) (hf : f { cls := .type "list", data := .seq its.toArray n } = { cls := .type "list", data := .seq its'.toArray n' }) (r : Vals ys its') (hz : ys.length ≤ sizeLine) (t : Nat) :
    Inv X pins σ (upd H p (.lst ys)) { s with heap := s.heap.update p f, toks := t } := by
  have e : (s.heap.update p f).get? p = some { cls := .type "list", data := .seq its'.toArray n' } := by
    rw [Heap.get?_update_self f ho (by rw [hf] <;> rfl), hf]
  refine I.write (x := p) (e := p) (by rw [h]; trivial) (.inl rfl) (fun b u hb q => (Heap.get?_update_other _ _ (Ne.symm hb)).trans q) ⟨_, e⟩ ?_
  exact ⟨hz, its', n', r, e⟩
def rSetL : V → V → V → Hp → (Hp → Prop) → Prop := fun o i v H Q => ∃ p xs k j, o = .ref p ∧ i = .int k ∧ H p = some (.lst xs) ∧ ixN xs.length k = some j ∧ Q (upd H p (.lst (xs.set j v)))
theorem set_list : PSet X rSetL := by
  intro pins s σ H o i v ov iv u Q I ro ri rv h
  obtain ⟨p, xs, k, j, rfl, rfl, hp, hj, q⟩ := h
  cases ro
  obtain ⟨t, rfl⟩ := ri
  obtain ⟨its, n, r, ho, hz⟩ := I.lst hp
  obtain ⟨h1, h2, h3, h4⟩ := ixN_seq hj
  have hl := r.length
  have hn := line63
  have I' : Inv X pins σ (upd H p (.lst (xs.set j v))) { s with heap := s.heap.update p (Obj.mapSeq (·.setIfInBounds j u)) } :=
    I.lstUpd hp ho (mapSeq_set its n j u) (r.set rv j) (by rw [List.length_set]; exact hz) s.toks
  by_cases h0 : 0 ≤ k
  · have hk : k.toNat = j := by
      rw [seqIndex_of h0 h4] at h1
      exact Option.some.inj h1
    exact PySem.W.ki_setAt ho h0 (by omega) (by rw [List.size_toArray, ← hl]; exact h4) (by rw [hk]; exact ⟨_, I', q⟩)
  · have hk : (k + (its.toArray.size : Int)).toNat = j := by
      rw [seqIndex_neg (by omega) h3] at h1
      rw [List.size_toArray, ← hl]
      exact Option.some.inj h1
    exact PySem.W.ki_setBack ho (by omega) (by rw [List.size_toArray, ← hl]; exact h3) (by omega) (by rw [hk]; exact ⟨_, I', q⟩)

/-! ### slices -/
theorem slice_bounds (lo hi : Option Int) (n : Nat) : (sliceBounds lo hi none n).1 = ((HT.sIx n 0 lo : Nat) : Int) ∧ (sliceBounds lo hi none n).2.1 = ((HT.sIx n n hi : Nat) : Int) ∧ (sliceBounds lo hi none n).2.2 = 1 := by
  refine ⟨?_, ?_, rfl⟩
  · cases lo with
    | none => simp [sliceBounds, HT.sIx]
    | some i =>
      simp only [sliceBounds, HT.sIx, Option.getD_none, show (1 : Int) > 0 by decide, if_true]
      by_cases h : i < 0
      · simp only [h, if_true] <;> omega
      · simp only [h, if_false] <;> omega
  · cases hi with
    | none => simp [sliceBounds, HT.sIx]
    | some i =>
      simp only [sliceBounds, HT.sIx, Option.getD_none, show (1 : Int) > 0 by decide, if_true]
      by_cases h : i < 0
      · simp only [h, if_true] <;> omega
      · simp only [h, if_false] <;> omega
theorem slicePick_cut (its : List Value) (lo hi : Option Int) : slicePick its.toArray lo hi none = ((its.drop (HT.sIx its.length 0 lo)).take (HT.sIx its.length its.length hi - HT.sIx its.length 0 lo)).toArray := by
  obtain ⟨h1, h2, h3⟩ := slice_bounds lo hi its.toArray.size
  unfold slicePick
  rw [h1, h2, h3]
  simp only [sliceRange_one, pick_run, List.size_toArray] <;> rfl
/-- xs[lo:hi] of a list: a new list -/
def rSlL (K : PySem.W.Frag) : V → Option Int → Option Int → Hp → VK → Prop := fun x lo hi H Q => ∃ a xs, x = .ref a ∧ SqL K H a xs ∧ ∀ p, H p = none → Q (.ref p) (upd H p (.lst (cutV xs lo hi)))
theorem sl_list : SlR X (rSlL X.K) := by
  intro pins s σ H x v vl vu lo hi sl Q I rx hs pl pu h
  obtain ⟨a, xs, rfl, hx, q⟩ := h
  cases rx
  obtain ⟨its, r, ht, hz⟩ := I.list hx
  have hlen := r.length
  refine ⟨"list", _, slot_list_getitem.lookup, ht.isList.typeIs, ?_⟩
  refine wpAny_getItem_list_slice ht.isList hs pl pu .none (by simp) ?_ (by rw [List.size_toArray] <;> omega)
  rw [slicePick_cut, ← hlen]
  refine ⟨.ref s.heap.objs.size, _, I.laid (t' := s.toks) (o := .lst (cutV xs lo hi)) (fun b ob q => Heap.get?_push_of_some _ q) (Nat.le_refl _) ?_, rfl, q _ (I.hok.fresh (Nat.le_refl _))⟩
  exact ⟨Nat.le_trans (cutV_length xs lo hi) hz, _, 0, (r.drop (HT.sIx xs.length 0 lo)).take (HT.sIx xs.length xs.length hi - HT.sIx xs.length 0 lo), Heap.get?_push_size _ rfl⟩

/-! ### in, not in: flat items -/
def flatV : V → Bool
  | .non => true
  | .bl _ => true
  | .int _ => true
  | .str _ => true
  | _ => false
/-- == of flat values -/
def eqV : V → V → Bool
  | .non, .non => true
  | .bl a, .bl b => a == b
  | .bl a, .int b => (if a then 1 else 0) == b
  | .int a, .bl b => a == (if b then 1 else 0)
  | .int a, .int b => a == b
  | .str a, .str b => a == b
  | _, _ => false
theorem eqAt_V {A : Around} {s : Shared} {y x : V} {u v : Value} (ry : RelV y u) (rx : RelV x v) (fy : flatV y = true) (fx : flatV x = true) : SeqAt.EqAt A s u v (eqV y x) := by
  cases y with
  | non =>
    cases ry
    cases x with
    | non => cases rx; exact SeqAt.EqAt.same _
    | bl b => cases rx; exact SeqAt.EqAt.none_bool b
    | int b => obtain ⟨t, rfl⟩ := rx; exact SeqAt.EqAt.none_int b t
    | str b => obtain ⟨t, rfl⟩ := rx; exact SeqAt.EqAt.none_str b t
    | _ => exact absurd (show false = true from fx) Bool.false_ne_true
  | bl a =>
    cases ry
    cases x with
    | non => cases rx; exact SeqAt.EqAt.bool_none a
    | bl b => cases rx; exact SeqAt.EqAt.bool_bool a b
    | int b => obtain ⟨t, rfl⟩ := rx; exact SeqAt.EqAt.bool_int a b t
    | str b => obtain ⟨t, rfl⟩ := rx; exact SeqAt.EqAt.bool_str a b t
    | _ => exact absurd (show false = true from fx) Bool.false_ne_true
  | int a =>
    obtain ⟨t', rfl⟩ := ry
    cases x with
    | non => cases rx; exact SeqAt.EqAt.int_none a t'
    | bl b => cases rx; exact SeqAt.EqAt.int_bool a t' b
    | int b => obtain ⟨t, rfl⟩ := rx; exact SeqAt.EqAt.int_int a t' b t
    | str b => obtain ⟨t, rfl⟩ := rx; exact SeqAt.EqAt.int_str a t' b t
    | _ => exact absurd (show false = true from fx) Bool.false_ne_true
  | str a =>
    obtain ⟨t', rfl⟩ := ry
    cases x with
    | non => cases rx; exact SeqAt.EqAt.str_none a t'
    | bl b => cases rx; exact SeqAt.EqAt.str_bool a t' b
    | int b => obtain ⟨t, rfl⟩ := rx; exact SeqAt.EqAt.str_int a t' b t
    | str b => obtain ⟨t, rfl⟩ := rx; exact SeqAt.EqAt.str_str a t' b t
    | _ => exact absurd (show false = true from fx) Bool.false_ne_true
  | _ => exact absurd (show false = true from fy) Bool.false_ne_true
/-- the items' answers, read off the values (a value's own answer does not lean on its token) -/
def eqU (x : V) (u : Value) : Bool := match u with
  | .none => eqV .non x
  | .bool b => eqV (.bl b) x
  | .int i _ => eqV (.int i) x
  | .str z _ => eqV (.str z) x
  | _ => false
theorem eqU_of {x y : V} {u : Value} (r : RelV y u) (f : flatV y = true) : eqU x u = eqV y x := by
  cases y with
  | non => cases r; rfl
  | bl b => cases r; rfl
  | int i => obtain ⟨t, rfl⟩ := r; rfl
  | str z => obtain ⟨t, rfl⟩ := r; rfl
  | _ => exact absurd (show false = true from f) Bool.false_ne_true
theorem any_eqU {x : V} : ∀ {xs : List V} {us : List Value}, Vals xs us → xs.all flatV = true → us.any (eqU x) = xs.any fun y => eqV y x
  | _, _, .nil, _ => rfl
  | y :: xs, u :: us, .cons r t, f => by
    rw [List.all_cons, Bool.and_eq_true] at f
    rw [List.any_cons, List.any_cons, eqU_of r f.1, any_eqU t f.2]
theorem mem_eqAt {A : Around} {s : Shared} {x : V} {v : Value} (rx : RelV x v) (fx : flatV x = true) : ∀ {xs : List V} {us : List Value}, Vals xs us → xs.all flatV = true → ∀ u ∈ us, SeqAt.EqAt A s u v (eqU x u)
  | _, _, .nil, _ => fun u hu => by cases hu
  | y :: xs, u :: us, .cons r t, f => fun u' hu => by
    rw [List.all_cons, Bool.and_eq_true] at f
    rcases List.mem_cons.mp hu with rfl | hu
    · rw [eqU_of r f.1]; exact eqAt_V r rx f.1 fx
    · exact mem_eqAt rx fx t f.2 u' hu
def inV (x : V) (xs : List V) : Bool := xs.any fun y => eqV y x
/-- x in a list or tuple of flat items -/
def rIn (K : PySem.W.Frag) (neg : Bool) : R2 := fun x y H Q => ∃ p xs, y = .ref p ∧ (SqL K H p xs ∨ SqT K H p xs) ∧ flatV x = true ∧ xs.all flatV = true ∧ Q (.bl (if neg then !inV x xs else inV x xs)) H
theorem op_notIn_seq : OpR X (compareOp .NotIn) (rIn X.K true) := by
  intro pins s σ H x y v u Q I rx ry h
  obtain ⟨p, xs, rfl, hq, fx, fs, q⟩ := h
  cases ry
  rcases hq with hq | hq
  · obtain ⟨its, r, pl, hz⟩ := I.list hq
    refine SeqAt.notIn_listAt (eqU x) pl.isList (fun w hw => mem_eqAt rx fx r fs w (by simpa using hw)) ⟨.bl _, H, I, rfl, ?_⟩
    rw [show its.toArray.any (eqU x) = its.any (eqU x) by simp, any_eqU r fs]
    exact q
  · obtain ⟨its, r, pl, hz⟩ := I.tuple hq
    refine SeqAt.notIn_tupleAt (eqU x) pl (fun w hw => mem_eqAt rx fx r fs w (by simpa using hw)) ⟨.bl _, H, I, rfl, ?_⟩
    rw [show its.toArray.any (eqU x) = its.any (eqU x) by simp, any_eqU r fs]
    exact q
theorem op_notIn_str : OpR X (compareOp .NotIn) (fun x y H Q => ∃ i j, x = .str i ∧ y = .str j ∧ Q (.bl (!(!(Builtin.Str.occurrences j i 0 j.length 1).isEmpty))) H) := by
  intro pins s σ H x y v u Q I rx ry h
  obtain ⟨i, j, rfl, rfl, q⟩ := h
  obtain ⟨t, rfl⟩ := rx
  obtain ⟨t', rfl⟩ := ry
  exact notIn_str ⟨.bl _, H, I, rfl, q⟩

/-! ### len, list(x), tuple(x) of any list or tuple that is read -/
theorem call_len_seq : CallR X (.builtin "len") (fun xs H Q => ∃ p ys, xs = [.ref p] ∧ (SqL X.K H p ys ∨ SqT X.K H p ys) ∧ Q (.int ys.length) H) := by
  intro pins s σ H xs us Q I r h
  obtain ⟨p, ys, rfl, hq, q⟩ := h
  obtain ⟨u, rfl, rx⟩ := vals1 r
  cases rx
  have hn := line63
  rcases hq with hq | hq
  · obtain ⟨its, r', pl, hz⟩ := I.list hq
    have hlen := r'.length
    exact Calls.call_len_list pl.isList (by simp only [List.size_toArray] <;> omega) ⟨.int ys.length, H, I.tok _, ⟨s.toks + 1, by rw [List.size_toArray, hlen]⟩, q⟩
  · obtain ⟨its, r', pl, hz⟩ := I.tuple hq
    have hlen := r'.length
    exact len_tuple pl (by simp only [List.size_toArray] <;> omega) ⟨.int ys.length, H, I.tok _, ⟨s.toks + 1, by rw [List.size_toArray, hlen]⟩, q⟩
theorem call_len_str : CallR X (.builtin "len") (fun xs H Q => ∃ z, xs = [.str z] ∧ z.length ≤ sizeLine ∧ Q (.int z.length) H) := by
  intro pins s σ H xs us Q I r h
  obtain ⟨z, rfl, hz, q⟩ := h
  obtain ⟨u, rfl, t, rfl⟩ := vals1 r
  have hn := line63
  exact len_str (by omega) ⟨.int z.length, H, I.tok _, ⟨_, rfl⟩, q⟩
theorem CallR.or {f : Value} {r r' : List V → Hp → VK → Prop} (h : CallR X f r) (h' : CallR X f r') : CallR X f (fun xs H Q => r xs H Q ∨ r' xs H Q) := by
  intro pins s σ H xs us Q I rs q
  rcases q with q | q
  · exact h pins s σ H xs us Q I rs q
  · exact h' pins s σ H xs us Q I rs q
/-! ### the call of a builtin's method: o.m(..) -/
/-- the value is of that builtin type -/
def tyV (K : PySem.W.Frag) (T : String) (x : V) (H : Hp) : Prop := match x with
  | .str _ => T = "str"
  | .int _ => T = "int"
  | .ref p => (T = "list" ∧ ∃ xs, SqL K H p xs) ∨ (T = "tuple" ∧ ∃ o, K.lookup p = some o ∧ o.cls = .type "tuple" ∧ o.dict = none) ∨
      (T = "dict" ∧ ((∃ kvs, H p = some (.dK kvs)) ∨ ∃ kvs, H p = some (.dT kvs))) ∨ (T = "set" ∧ ∃ S n, H p = some (.set S n))
  | _ => False
theorem tyV_is {pins : List (Addr × Obj)} {σ : St} {H : Hp} {s : Shared} {T : String} {x : V} {v : Value} (I : Inv X pins σ H s) (r : RelV x v) (ty : tyV X.K T x H) :
    s.TypeIs v T ∧ ∀ a, v = .ref a → ∃ ob, s.heap.get? a = some ob ∧ ob.dict = none := by
  cases x with
  | str z =>
    obtain ⟨t, rfl⟩ := r
    cases (show T = "str" from ty)
    exact ⟨typeIs_str s z t, fun _ e => nomatch e⟩
  | int i =>
    obtain ⟨t, rfl⟩ := r
    cases (show T = "int" from ty)
    exact ⟨typeIs_int s i t, fun _ e => nomatch e⟩
  | ref p =>
    cases r
    rcases ty with ⟨rfl, xs, hq⟩ | ⟨rfl, o, hk, hc, hd⟩ | ⟨rfl, hk⟩ | ⟨rfl, S, n, hk⟩
    · obtain ⟨its, _, pl, _⟩ := I.list hq
      refine ⟨pl.isList.typeIs, fun a e => ?_⟩
      cases e
      obtain ⟨o, n, e, c, hd, _⟩ := pl
      exact ⟨o, e, hd⟩
    · refine ⟨⟨o, I.kIn p o hk, hc⟩, fun a e => ?_⟩
      cases e
      exact ⟨o, I.kIn _ o hk, hd⟩
    · have z : ∃ o, s.heap.get? p = some o ∧ o.ExactDict := by
        rcases hk with ⟨kvs, hk⟩ | ⟨kvs, hk⟩
        · obtain ⟨_, _, _, _, o, _, _, e, ex, _⟩ := I.hok p _ hk
          exact ⟨o, e, ex⟩
        · obtain ⟨_, _, _, _, o, _, _, e, ex, _⟩ := I.hok p _ hk
          exact ⟨o, e, ex⟩
      obtain ⟨o, e, ex⟩ := z
      refine ⟨⟨o, e, ex.1⟩, fun a e2 => ?_⟩
      cases e2
      exact ⟨o, e, ex.2.1⟩
    · obtain ⟨o, _, _, _, e, ex, _⟩ := I.hok p _ hk
      refine ⟨⟨o, e, ex.1⟩, fun a e2 => ?_⟩
      cases e2
      exact ⟨o, e, ex.2.1⟩
  | _ => exact False.elim ty
def tBM0 (K : PySem.W.Frag) (T : String) (r : V → List V → Hp → VK → Prop) (to : TE) : TE := fun σ H Q => to σ H fun x H1 => tyV K T x H1 ∧ r x [] H1 Q
def tBM (K : PySem.W.Frag) (T : String) (r : V → List V → Hp → VK → Prop) (to : TE) (t : TA) : TE := fun σ H Q => to σ H fun x H1 => tyV K T x H1 ∧ t σ H1 fun xs H2 => r x xs H2 Q
variable {o e : Expr} {es : List Expr} {to : TE} {t : TA} {name : Str} {apos cpos : Pos} {T id : String} {r : V → List V → Hp → VK → Prop}
theorem pe_bm (pa : PlainAttrs T) (slot : Slot T name id) (hty : typeOf (.builtin id) = pure (.type "method_descriptor")) (hm : MtR X id r) (ho : PE X o to) (ha : PA X (e :: es) t)
    (hbase : attributeBase o name X.env (eval o X.env) = eval o X.env := by rfl)
    (hfew : ((backTo cpos (starEach (e :: es) X.env)).all (fun x => !x.1) && (backToKw cpos (keywordEach [] X.env)).all (fun x => x.1.isSome)
      && decide ((e :: es).length + ([] : List Keyword).length + (if ([] : List Keyword).isEmpty then 0 else 1) < 30)) = true := by rfl)
    (hline : (apos.endLine == cpos.line) = true := by rfl) (hs : starEach (e :: es) X.env = (false, eval e X.env) :: starEach es X.env := by rfl) (hplain : (backTo cpos (starEach es X.env)).any (·.1) = false := by rfl) :
    PE X (.Call (.Attribute o name apos) (e :: es) [] cpos) (tBM X.K T r to t) := by
  intro pins s σ H Q I h
  refine wpAny_Call_method_late hbase hfew hline rfl (thn (ho pins s σ H _ I h) fun v s1 ⟨x, H1, I1, r1, ty, q1⟩ => ?_)
  obtain ⟨h1, h2⟩ := tyV_is I1 r1 ty
  refine ⟨T, id, pa, slot, hty, h1, h2, ?_⟩
  have hA := ha cpos pins s1 σ H1 _ I1 q1
  rw [hs] at hA ⊢
  refine Calls.callWith_builtin (by show (false || (backTo cpos (starEach es X.env)).any (·.1)) = false; rw [hplain] <;> rfl) (Calls.evalArgs_plain ?_)
  exact thn hA fun us s2 ⟨vs, H2, I2, r2, q2⟩ => hm pins s2 σ H2 x vs v us Q I2 r1 r2 q2
/- xs.append(e), list.index on a module's tuple .. are MtR facts of 06m -/
end
end L2

namespace L2
open PySem PySem.Spec PyProof.Rows

def MtM (X : Cx) (id : String) (r : V → List V → Hp → VK → Prop) : Prop :=
  ∀ (pins : List (Addr × Obj)) (s : Shared) (σ : St) (H : Hp) (x : V) (xs : List V) (v : Value) (us : List Value) (Q : VK), Inv X pins σ H s → RelV x v → Vals xs us → r x xs H Q →
    wpAny (model X.prog X.w) X.A (call (.builtin id) (v :: us)) (EP X pins σ Q) X.xe s

/-! ### lists of values -/
theorem Vals.one : ∀ {x : V} {us : List Value}, Vals [x] us → ∃ u, us = [u] ∧ RelV x u
  | _, _, .cons r .nil => ⟨_, rfl, r⟩
theorem Vals.two : ∀ {x y : V} {us : List Value}, Vals [x, y] us → ∃ u v, us = [u, v] ∧ RelV x u ∧ RelV y v
  | _, _, _, .cons r (.cons q .nil) => ⟨_, _, rfl, r, q⟩
theorem Vals.zero : ∀ {us : List Value}, Vals [] us → us = []
  | _, .nil => rfl
theorem Vals.dropLast {xs : List V} {us : List Value} (h : Vals xs us) : Vals xs.dropLast us.dropLast := by
  induction h with
  | nil => exact .nil
  | cons r t ih =>
    cases t with
    | nil => exact .nil
    | cons q t' => exact .cons r ih
theorem Vals.eraseIdx : ∀ {xs : List V} {us : List Value} (i : Nat), Vals xs us → Vals (xs.eraseIdx i) (us.eraseIdx i)
  | _, _, _, .nil => .nil
  | _, _, 0, .cons _ t => t
  | _, _, i + 1, .cons r t => .cons r (Vals.eraseIdx i t)
theorem Vals.reverse {xs : List V} {us : List Value} (h : Vals xs us) : Vals xs.reverse us.reverse := by
  induction h with
  | nil => exact .nil
  | cons r t ih => rw [List.reverse_cons, List.reverse_cons]; exact Vals.append ih (.cons r .nil)
section
variable {X : Cx} {pins : List (Addr × Obj)} {σ : St} {H : Hp} {s : Shared} {l b : Addr} {xs ys zs : List V}

/-! ### the two steps: a tracked list is rewritten, a new list is laid -/
theorem Inv.lset {its its' : List Value} {n : Nat} {f : Array Value → Array Value} {t' : Nat} (I : Inv X pins σ H s) (hH : H l = some (.lst xs))
    (e : s.heap.get? l = some { cls := .type "list", data := .seq its.toArray n }) (hf : f its.toArray = its'.toArray) (hv : Vals ys its') (hz : ys.length ≤ sizeLine) :
    Inv X pins σ (upd H l (.lst ys)) { s with heap := s.heap.update l (Obj.mapSeq f), toks := t' } := by
  have q := PySem.IsL.update e f
  rw [hf] at q
  refine I.write (x := l) (e := l) (by rw [hH]; exact trivial) (.inl rfl) (fun b' u hb hu => (Heap.get?_update_other s.heap (Obj.mapSeq f) (Ne.symm hb)).trans hu) ⟨_, q⟩ ?_
  exact ⟨hz, its', _, hv, q⟩
theorem Inv.lnew {its : List Value} {t' : Nat} (I : Inv X pins σ H s) (hv : Vals ys its) (hz : ys.length ≤ sizeLine) :
    Inv X pins σ (upd H s.heap.objs.size (.lst ys)) { s with heap := s.heap.push { cls := .type "list", data := .seq its.toArray }, toks := t' } :=
  I.laid (fun _ _ q => Heap.get?_push_of_some _ q) (Nat.le_refl _) ⟨hz, its, 0, hv, Heap.get?_push_size _ rfl⟩
theorem Inv.fresh (I : Inv X pins σ H s) : H s.heap.objs.size = none := I.hok.fresh (Nat.le_refl _)
theorem Inv.lstM (I : Inv X pins σ H s) (hH : H l = some (.lst xs)) : xs.length ≤ sizeLine ∧ ∃ (its : List Value) (n : Nat), Vals xs its ∧ xs.length = its.length ∧ s.heap.get? l = some { cls := .type "list", data := .seq its.toArray n } := by
  obtain ⟨z, its, n, r, e⟩ := I.hok l _ hH
  exact ⟨z, its, n, r, r.length, e⟩

end

section
variable {X : Cx}

/-! ### methods -/
def rAppend : V → List V → Hp → VK → Prop := fun x vs H Q => ∃ l xs y, x = .ref l ∧ vs = [y] ∧ H l = some (.lst xs) ∧ xs.length < sizeLine ∧ Q .non (upd H l (.lst (xs ++ [y])))
theorem mt_append : MtM X "list.append" rAppend := by
  intro pins s σ H x vs v us Q I rx rv h
  obtain ⟨l, xs, y, rfl, rfl, hH, hz, q⟩ := h
  cases rx
  obtain ⟨u, rfl, ru⟩ := rv.one
  obtain ⟨z, its, n, r, hl, e⟩ := I.lstM hH
  refine call_meets F.slot_list_append ⟨_, e, rfl⟩ F.entry_list_append (F.args_list_append_2 _ _) (PySem.list_append l its.toArray n u (by rw [List.size_toArray]; omega)) ⟨e, ?_⟩
  refine ⟨.non, _, I.lset (its' := its ++ [u]) hH e (by simp) (r.append (.cons ru .nil)) ?_, rfl, q⟩
  rw [List.length_append, List.length_singleton]
  omega

def rExtend : V → List V → Hp → VK → Prop := fun x vs H Q => ∃ l b xs zs, x = .ref l ∧ vs = [.ref b] ∧ H l = some (.lst xs) ∧ H b = some (.lst zs) ∧ xs.length + zs.length ≤ sizeLine ∧ Q .non (upd H l (.lst (xs ++ zs)))
def rPop : V → List V → Hp → VK → Prop := fun x vs H Q => ∃ l xs y, x = .ref l ∧ vs = [] ∧ H l = some (.lst xs) ∧ xs[xs.length - 1]? = some y ∧ Q y (upd H l (.lst xs.dropLast))
def rPopAt : V → List V → Hp → VK → Prop := fun x vs H Q => ∃ l xs i k y, x = .ref l ∧ vs = [.int i] ∧ H l = some (.lst xs) ∧ -(2 ^ 63) ≤ i ∧ i < 2 ^ 63 ∧ seqIndex? i xs.length = some k ∧ xs[k]? = some y ∧ Q y (upd H l (.lst (xs.eraseIdx k)))
def rReverse : V → List V → Hp → VK → Prop := fun x vs H Q => ∃ l xs, x = .ref l ∧ vs = [] ∧ H l = some (.lst xs) ∧ Q .non (upd H l (.lst xs.reverse))
def rClear : V → List V → Hp → VK → Prop := fun x vs H Q => ∃ l xs, x = .ref l ∧ vs = [] ∧ H l = some (.lst xs) ∧ Q .non (upd H l (.lst []))
/-! ### list + list, list += list, list * int -/
def rCat : R2 := fun x y H Q => ∃ l b xs zs, x = .ref l ∧ y = .ref b ∧ H l = some (.lst xs) ∧ H b = some (.lst zs) ∧ xs.length + zs.length ≤ sizeLine ∧ ∀ p, H p = none → Q (.ref p) (upd H p (.lst (xs ++ zs)))
/-- a list times an int (a negative one is nothing) -/
def rRep : R2 := fun x y H Q => ∃ l k xs, x = .ref l ∧ y = .int k ∧ H l = some (.lst xs) ∧ -(2 ^ 63) ≤ k ∧ k < 2 ^ 63 ∧ xs.length * k.toNat ≤ sizeLine ∧
  ∀ p, H p = none → Q (.ref p) (upd H p (.lst (List.replicate k.toNat xs).flatten))
/-! ### del xs[i] -/
end

/-! ### xs[a:b] = ys -/
section
variable {prog : Program} {w : World} {A : Around} {E : Value → Shared → Prop} {s : Shared}
end

section
variable {X : Cx}
end
end L2

namespace Att
open PySem PySem.W PySem.Calls PyProof.Rows

/-! ### the script -/
theorem ints_of_wellAll {P : Params} {h : Heap} : ∀ (ns : List Int) (vs : List Value), WellAll P h vs (ns.map WData.int) → IntsAre vs ns := by
  intro ns
  induction ns with
  | nil =>
    intro vs w
    rw [List.map_nil] at w
    cases w
    exact .nil
  | cons n ns ih =>
    intro vs w
    rw [List.map_cons] at w
    cases w with
    | cons a b =>
      cases a
      exact .cons _ _ (ih _ b)

theorem script_of {l : OpenLaw} {n : Nat} (hn : l.most = some n) {P : Params} {h : Heap} {args : List WData} {vals : List Value}
    (hpre : l.row.toRowW.claim.pre args = true) (hwl : WellAll P h vals args) :
    ∃ a vs ns, vals = [Value.ref a] ∧ args = [WData.list (ns.map WData.int)] ∧ h.get? a = some { cls := .type "list", data := .seq vs.toArray } ∧ IntsAre vs ns ∧ ns.length ≤ n := by
  have hsh : WShape.hasAll [] args [.list .int] = true := (pre_splitW hpre).1
  have hc : l.pre.holds [] { args := args } = true := (pre_splitW hpre).2
  obtain ⟨d, r, rfl, h1, h2⟩ := hasAllW_cons hsh
  obtain rfl := hasAllW_nil h2
  obtain ⟨xs, rfl, h3⟩ := hasW_list h1
  obtain ⟨ns, rfl⟩ := items_int h3
  have hlen : ns.length ≤ n := by
    unfold OpenLaw.pre at hc
    have h4 : (WTm.not (.lt (.lit (.int (n : Int))) (.len (.arg 0)))).holds [] { args := [.list (ns.map .int)] } = true := by
      have h4 := (holds_andW hc).1
      rw [hn] at h4
      exact h4
    have h5 := condW_of h4 (w_not (w_lt w_lit (w_len_list (w_arg rfl))))
    rw [List.length_map] at h5
    refine Nat.le_of_not_lt fun q => ?_
    have q' : (n : Int) < ((ns.length : Nat) : Int) := by omega
    first
      | (rw [decide_eq_true q'] at h5; exact absurd h5 (by decide))
      | (simp at h5; omega)
  cases hwl with
  | cons w1 w2 =>
    cases w2
    cases w1 with
    | list ho hall => exact ⟨_, _, ns, rfl, rfl, ho, ints_of_wellAll ns _ hall, hlen⟩

theorem post_true (l : OpenLaw) (args : List WData) : l.row.toRowW.claim.post args (.bool true) args = true :=
  postW_of (r := l.row.toRowW) (X := (true == true))
    (show WShape.has [] (.bool true) .bool = true by first | rfl | decide | simp [WShape.has, WShape.arms, WShape.armsAll])
    (show (WTm.eq .res (.lit (.bool true))).value [] { args := args, res := some (.bool true), after := args } = some (.bool (true == true)) from w_eq_bool (w_res rfl) w_lit) rfl

/-! ### the attachment: holds_open's last premise (the goal 'hc' behind k_head) from a wpAny of the law's body -/
/-- the same from a codeAny of the CALL (for a layer whose function contracts speak of calls) -/
theorem attach_call {l : OpenLaw} {n : Nat} {q : Program} {loose : List Str} {XP : (Str → Option Value) → Heap → Prop} {YP : World → Heap → Prop} {d : DefRec}
    (hn : l.most = some n) (hdf : d.params.defaults = [])
    (call : ∀ (w : World) (s₀ s₁ : Shared) (mg mb : Str → Option Value) (fa : Addr) (o : Obj) (pm cd doc : Value) (a : Addr) (vs : List Value) (ns : List Int),
      Ground q loose [] XP w s₀ mg mb s₁.heap → YP w s₁.heap →
      s₁.heap.get? fa = some o → o.data = .func (docDef d.name d.params d.body d.scope pm cd doc) → s₁.heap.CodeRec cd d.name → mg d.name = some (.ref fa) →
      s₁.heap.get? a = some { cls := .type "list", data := .seq vs.toArray } → IntsAre vs ns → ns.length ≤ n → s₁.gens = #[] →
      codeAny (model l.prog w) callerA (.call (.ref fa) ⟨[.ref a], []⟩) (fun r s' => r = .ok (.ret (.bool true)) ∧ OldK s₁.heap s'.heap ∧ s'.os = s₁.os ∧ AllBare s'.gens) s₁) :
    WalkO q loose XP YP l.row.toRowW d [] (fun f vs => PySem.call f vs) := by
  intro w s₀ s₁ mg mb G Y fa o pm cd doc dV kV ho hd hcd hD hmg hg args vals as hpre hlay hrd hwl hlo
  obtain rfl : dV = .none := Dflts.none hD hdf
  obtain rfl : kV = .none := Dflts.noKw hD
  obtain ⟨a, vs, ns, rfl, rfl, hobj, hints, hlen⟩ := script_of hn hpre hwl
  refine enter_call (codeAny_mono (call w s₀ s₁ mg mb fa o pm cd doc a vs ns G Y ho (fd_plain hd) hcd hmg hobj hints hlen hg) fun r s' hq => ?_)
  obtain ⟨rfl, h2, h3, h4⟩ := hq
  exact ⟨.inl ⟨.bool true, .bool true, [], rfl, fun _ => rfl, .bool true, post_true l _, fun _ => ⟨List.Pairwise.nil, fun _ hm => (nomatch hm)⟩⟩, h2, h3, h4⟩

/-! ### rules over ANY heap (no ledger) from facts about the written part K: the library's own take a ledger (News) for what they write -/
section
variable {prog : Program} {w : World} {A : Around} {E : Value → Shared → Prop} {s : Shared} {K : Frag}

/-! the whole heap as the ledger: makes every rule that writes through a ledger a rule over any heap -/
def noObjs (h : Heap) : Heap := { h with objs := #[] }
def ledger (h : Heap) (L d : Addr) : List (Addr × Obj) := (List.range h.objs.size).filterMap fun a => if a = L ∨ a = d then none else (h.get? a).map fun o => (a, o)
end
end Att

namespace L2
open PySem PySem.Spec PyProof.Rows

theorem vals_ints : ∀ {vs : List Value} {ns : List Int}, IntsAre vs ns → Vals (ns.map V.int) vs
  | _, _, .nil => .nil
  | _, _, .cons n t h => .cons ⟨t, rfl⟩ (vals_ints h)

/-- nothing is tracked but the script, known to the object (or it is an object of the module) -/
def Only (H : Hp) : Prop := ∀ b, H b = none ∨ ∃ o xs, H b = some (.frz o (.lst xs))

/-- THE HEAD: the law's promise, at the heap behind the top. F, the promise of the law's def, may use that base is part of the heap (so K.In base, base.Ns mainGlobals mg stand in Mod) -/
theorem law_call {P : Program} {w : World} {K : PySem.W.Frag} {mg mb : Str → Option Value} {CX : CXT} {k : Nat} {fa a : Addr} {fd : FuncData} {x : Str} {sp : Sp} {s₁ : Shared} {vs : List Value} {ns : List Int}
    (KX : K.In s₁.heap) (hns : s₁.heap.Ns mainGlobals mg) (hb : s₁.heap.Ns builtinsNs mb) (hbb : ∀ x : Str, x ≠ "__name__" → mb x = bootBuiltins x) (hlim : s₁.heap.NoLimit) (hg : s₁.gens = #[])
    (ha : s₁.heap.get? a = some { cls := .type "list", data := .seq vs.toArray }) (hi : IntsAre vs ns) (hl : ns.length ≤ sizeLine) (hr : Room k callerA)
    (F : ∀ base : Heap, K.In base → base.Ns mainGlobals mg → FnOk P w K mg base CX k fa fd [x] sp) (hbind : ∀ (s : Shared) (u : Value), BindsTo s fd ⟨[u], []⟩ [(x, u)])
    (hsp : ∀ H : Hp, Only H → SqL K H a (ns.map V.int) → sp [.ref a] H (fun v _ => v = .bl true) fun _ _ _ => False)
    (hCX : ∀ H e s', CX [] H s₁ (fun _ _ _ => False) e s' → False) :
    codeAny (model P w) callerA (.call (.ref fa) ⟨[.ref a], []⟩) (fun r s' => r = .ok (.ret (.bool true)) ∧ OldK s₁.heap s'.heap ∧ s'.os = s₁.os ∧ AllBare s'.gens) s₁ := by
  have rv := vals_ints hi
  have lenV := hi.length
  -- from an abstract heap in which nothing but the script may be tracked
  have core : ∀ H : Hp, Only H → SqL K H a (ns.map V.int) → HOk P w H s₁.heap → (∀ b, H b ≠ none → b = a) → (H a ≠ none → K.lookup a = none) →
      codeAny (model P w) callerA (.call (.ref fa) ⟨[.ref a], []⟩) (fun r s' => r = .ok (.ret (.bool true)) ∧ OldK s₁.heap s'.heap ∧ s'.os = s₁.os ∧ AllBare s'.gens) s₁ := by
    intro H hO hS hok hA hK
    have base_of : ∀ {b : Addr} {o : Obj}, s₁.heap.get? b = some o → H b = none → (hidT s₁.heap H).get? b = some o := fun e n => hidT_get e n
    have noA : ∀ {b : Addr} {o : Obj} {es : Array DictEntry} {ep : Nat}, s₁.heap.get? b = some o → o.data = .dict es ep → H b = none := fun {b o es ep} e d => by
      cases q : H b with
      | none => rfl
      | some u =>
        have e' : b = a := hA b (by rw [q]; simp)
        subst e'
        rw [ha] at e; cases e
        have d' : Data.seq vs.toArray _ = Data.dict es ep := d
        cases d'
    have nsK : ∀ {b : Addr} {m : Str → Option Value}, s₁.heap.Ns b m → (hidT s₁.heap H).Ns b m := fun {b m} ⟨o, es, ep, e, d, r⟩ => ⟨o, es, ep, base_of e (noA e d), d, r⟩
    have hKb : K.In (hidT s₁.heap H) := fun b o e => base_of (KX b o e) (by
      cases q : H b with
      | none => rfl
      | some u =>
        have e' : b = a := hA b (by rw [q]; simp)
        subst e'
        rw [hK (by rw [q]; simp)] at e; cases e)
    have hM : Mod K mg (hidT s₁.heap H) := ⟨hKb, nsK hns, ⟨mb, nsK hb, hbb⟩, let ⟨mc, h1, h2⟩ := hlim; ⟨mc, nsK h1, h2⟩⟩
    have e0 : Env0 P w K mg (hidT s₁.heap H) callerA [] s₁ H := ⟨rfl, hM, fun b o e => of_hidT e, Nat.le_of_eq (hidT_size _ _), trivial, fun b hb => absurd (show b ∈ ([] : List Addr) from hb) (by simp), hok, .of_eq hg⟩
    refine codeAny_mono ((F _ hKb (nsK hns)).run callerA [] s₁ H ⟨[.ref a], []⟩ [.ref a] [.ref a] _ _ hr e0 (hbind s₁ (.ref a)) (.cons rfl .nil) (hsp H hO hS)) fun r s' h => ?_
    cases r with
    | error e => exact (hCX H e s' h).elim
    | ok fl =>
      cases fl with
      | next => exact False.elim h
      | brk => exact False.elim h
      | cont => exact False.elim h
      | ret u =>
        obtain ⟨v, H', os, bare, un, hok', r', q⟩ := h
        have q' : v = .bl true := q
        subst q'
        obtain rfl : u = Value.bool true := r'
        refine ⟨rfl, OldK.of_keep fun b o e => ?_, os, bare⟩
        cases q : H b with
        | none => exact un.keep b o e q (by intro z; exact absurd (show b ∈ ([] : List Addr) from z) (by simp)) (by simp)
        | some u =>
          rcases hO b with z | ⟨ob, xs, z⟩
          · rw [q] at z; cases z
          · have z2 := un.frzs b ob _ z
            obtain ⟨e1, _⟩ := hok b _ z
            obtain ⟨e2, _⟩ := hok' b _ z2
            rw [e] at e1; cases e1
            exact e2
  cases hk : K.lookup a with
  | some o =>
    -- the script is one of the module's own objects
    have e := KX a o hk
    rw [ha] at e
    cases e
    refine core (fun _ => none) (fun _ => .inl rfl) (.inr ⟨_, vs.toArray, _, hk, rfl, rfl, rfl, by rw [List.size_toArray, lenV]; exact hl, by simpa using rv⟩) (fun b u z => by have z' : (none : Option HO) = some u := z; cases z') (fun b z => absurd rfl z) fun z => absurd rfl z
  | none =>
    refine core (fun b => if b = a then some (.frz { cls := .type "list", data := .seq vs.toArray } (.lst (ns.map V.int))) else none) (fun b => ?_) (.inl (.inr ⟨{ cls := .type "list", data := .seq vs.toArray }, if_pos rfl⟩)) (fun b u z => ?_) (fun b z => ?_) fun _ => hk
    · by_cases hb : b = a
      · exact .inr ⟨_, _, if_pos hb⟩
      · exact .inl (if_neg hb)
    · by_cases hb : b = a
      · have z' := (if_pos hb).symm.trans z
        cases z'
        subst hb
        exact ⟨ha, by rw [List.length_map]; exact hl, vs, _, rv, ha⟩
      · have z' := (if_neg hb).symm.trans z
        cases z'
    · by_cases hb : b = a
      · exact hb
      · exact absurd (if_neg hb) z
end L2

namespace L2
open PySem PySem.Spec PyProof.Rows

abbrev KOf {K : PySem.W.Frag} {h : Heap} (_ : K.In h) : PySem.W.Frag := K

/-- the goal that k_head leaves (case hc), from the law's promise. F gives the function object fd (K's own) once, then the promise over every base -/
theorem walk_of {l : PySem.W.OpenLaw} {n k : Nat} {q : Program} {loose : List Str} {XP : (Str → Option Value) → Heap → Prop} {YP : World → Heap → Prop} {d : DefRec} {K : Params → PySem.W.Frag} {CX : World → CXT} {sp : World → Sp} {x : Str}
    (hn : l.most = some n) (hn2 : n ≤ sizeLine) (hdf : d.params.defaults = []) (hr : Room k callerA)
    (hY : ∀ (w : World) (h : Heap), YP w h → (K w.params).In h)
    (F : ∀ (w : World) (mg : Str → Option Value) (fa : Addr) (h : Heap), (K w.params).In h → h.Ns mainGlobals mg → mg d.name = some (.ref fa) →
      ∃ fd : FuncData, (∀ (s : Shared) (u : Value), BindsTo s fd ⟨[u], []⟩ [(x, u)]) ∧
        ∀ base : Heap, (K w.params).In base → base.Ns mainGlobals mg → FnOk l.prog w (K w.params) mg base (CX w) k fa fd [x] (sp w))
    (hsp : ∀ (w : World) (H : Hp) (a : Addr) (ns : List Int), ns.length ≤ n → Only H → SqL (K w.params) H a (ns.map V.int) → sp w [.ref a] H (fun v _ => v = .bl true) fun _ _ _ => False)
    (hCX : ∀ (w : World) (H : Hp) (s : Shared) (e : Value) (s' : Shared), CX w [] H s (fun _ _ _ => False) e s' → False) :
    PySem.W.WalkO q loose XP YP l.row.toRowW d [] (fun f vs => PySem.call f vs) := by
  refine Att.attach_call hn hdf fun w s₀ s₁ mg mb fa o pm cd doc a vs ns G Y ho hd hcd hmg hobj hints hlen hg => ?_
  have KX := hY w _ Y
  obtain ⟨fd, hb, hF⟩ := F w mg fa _ KX G.T.g hmg
  exact law_call KX G.T.g G.T.b G.T.builtins G.T.nolimit hg hobj hints (Nat.le_trans hlen hn2) hr hF hb (fun H hO hS => hsp w H a ns hlen hO hS) fun H e s' => hCX w H s₁ e s'
end L2

/- THE LAST THEOREM (shape; LID, My.* are yours):
   My.Adr: a structure of the addresses that your layer names (classes, functions); My.Txt K t: a structure (Prop) of the equations over K;
   My.txt_mk : {K} {implicit addresses ..} (e1 : nsIn K mainGlobals "law" = some (some (.ref f))) (e2 : K.lookup f = some ⟨oc, od, .func (fnOf "law" "law" params body scope dV kV doc pm an cdv ct), sl⟩) (e3 : codeIn K cdv "law" = true) .. : ∃ t, My.Txt K t

set_option maxRecDepth 100000 in
set_option maxHeartbeats 0 in
theorem PySem.Challenge.cw_LID_holds : PySem.Challenge.rw_LID.Holds := by
  w_on; o_law; k_head; (case hw => w_witness2)
  k_fill
  refine L2.walk_of (l := PySem.Challenge.rw_LID) (n := 63) (k := 40) (x := "script") (CX := fun w => ..) (sp := fun _ => My.sp_law) rfl (by decide) rfl ⟨rfl, by decide, by decide⟩ (fun w h Y => PySem.W.kIn_of Y) ?F ?S ?C
  case F =>
    intro w mg fa h KX G hmg
    have T : ∃ t, My.Txt (L2.KOf KX) t := by
      dsimp only [L2.KOf]                          -- K must stand as «<heap const> w.params» for k_is
      refine' My.txt_mk ?e1 ?e2 ?e3 ..
      (case e1 => PySem.W.k_is)                    -- in the order: a name -> its address -> its object -> its parts
      (case e2 => PySem.W.k_is)
      ..
    obtain ⟨t, T⟩ := T
    have e0 := hmg.symm.trans (PySem.W.mg_of KX G T.law)
    cases e0                                       -- fa is the law's own address
    exact ⟨_, fun s u => .of_eq rfl, fun base kb nb => My.law_fn T kb nb⟩     -- if «.of_eq rfl» comes too early: refine' ⟨_, ?b, fun base kb nb => My.law_fn T kb nb⟩; exact fun s u => .of_eq rfl
  case S => exact fun w H a ns hl hO hS => ..
  case C => exact ..
(the tactic k_is has no namespace: write k_is) -/

/-! SHORT WORDS over the layer: a def of the text, its body, what a loop and a test want. -/
namespace L2
open PySem PySem.Spec PyProof.Rows

/-! ### the text by places -/
/-- the j-th statement of a class's body -/
def inClass (s : Stmt) (j : Nat) : Stmt := match s with
  | .ClassDef _ _ _ body _ _ _ _ _ _ _ => body.getD j (.Pass ⟨0, 0, 0, 0⟩)
  | _ => .Pass ⟨0, 0, 0, 0⟩
def defArgs (s : Stmt) : Arguments := match s with
  | .FunctionDef _ a _ _ _ _ _ _ _ _ => a
  | _ => { posonlyargs := [], args := [], vararg := none, kwonlyargs := [], kw_defaults := [], kwarg := none, defaults := [] }
def defBody (s : Stmt) : List Stmt := match s with
  | .FunctionDef _ _ b _ _ _ _ _ _ _ => b
  | _ => []
def defScope (s : Stmt) : Scope := match s with
  | .FunctionDef _ _ _ _ _ _ sc _ _ _ => sc
  | _ => { kind := .function, names := [], isGenerator := false, isCoroutine := false }

/-! ### no exception leaves a def -/
abbrev CX0 : CXT := fun _ _ _ _ _ _ => False
abbrev E0 : XK := fun _ _ _ => False
theorem pass0 {X : Cx} : Passes CX0 X E0 := fun _ _ _ _ _ _ _ h => h.elim

/-! ### a def (or method) of the text as it stands behind the top -/
structure Fun (K : PySem.W.Frag) (x qual : Str) (st : Stmt) (f : Addr) (fd : FuncData) : Prop where
  ex : ∃ (oc : Value) (od : Option Addr) (kV doc pm : Value) (an : Option Addr) (cdv ct : Value) (osl : Array (Option Value)),
    fd = PySem.W.fnOf x qual (defArgs st) (defBody st) (defScope st) .none kV doc pm an cdv ct ∧ K.lookup f = some ⟨oc, od, .func fd, osl⟩ ∧ PySem.W.codeIn K cdv qual = true
  kp : PySem.W.keepIn K (.ref f) = true
section
variable {P : Program} {w : World} {K : PySem.W.Frag} {mg : Str → Option Value} {base : Heap}
/-- THE RULE for a def: its body as a term of rules, and the reading of that term -/
theorem Fun.ok {x qual : Str} {st : Stmt} {f : Addr} {fd : FuncData} {N ps : List Str} {k : Nat} {sp : Sp} (F : Fun K x qual st f fd) (S : FnScope N ps (defScope st)) (len : ∀ vs H Q E, sp vs H Q E → vs.length = ps.length)
    (hbody : ∀ (cdv : Value) (A : Around) (outer : List Env) (s : Shared) (H : Hp) (vs : List V) (Q : VK) (E : XK), Room k (A.deeper (envOfC qual (defScope st) s.heap.objs.size f cdv)) → sp vs H Q E →
      ∃ t, PSs (cxOf CX0 P w K mg base N qual (defScope st) f cdv A outer s H E).nox (defBody st) t ∧ t { nx := fun _ H' => Q .non H', rt := Q } (start N vs) H) : FnOk P w K mg base CX0 (k + 1) f fd ps sp := by
  obtain ⟨oc, od, kV, doc, pm, an, cdv, ct, osl, rfl, lk, hcd⟩ := F.ex
  refine fn_of lk hcd S len fun A outer s H vs Q E hr hsp => ?_
  obtain ⟨t, h, q⟩ := hbody cdv A outer s H vs Q E hr hsp
  exact ⟨t, h.nox, q⟩
/-- how its arguments bind (no defaults): h is «fun _ _ _ _ _ _ us hl => match us, hl with | [_, _], _ => rfl», one _ a parameter -/
theorem Fun.binds {x qual : Str} {st : Stmt} {f : Addr} {fd : FuncData} {ps : List Str} (F : Fun K x qual st f fd)
    (h : ∀ (kV doc pm : Value) (an : Option Addr) (cdv ct : Value) (us : List Value), us.length = ps.length → bindArgs (PySem.W.fnOf x qual (defArgs st) (defBody st) (defScope st) .none kV doc pm an cdv ct) ⟨us, []⟩ = pure (ps.zip us)) : Binds K fd ps [] := by
  obtain ⟨oc, od, kV, doc, pm, an, cdv, ct, osl, rfl, lk, hcd⟩ := F.ex
  exact .all (h kV doc pm an cdv ct)
theorem fun_mk {x qual : Str} {st : Stmt} {f : Addr} {oc : Value} {od an : Option Addr} {osl : Array (Option Value)} {kV doc pm cdv ct : Value} (l : K.lookup f = some ⟨oc, od, .func (PySem.W.fnOf x qual (defArgs st) (defBody st) (defScope st) .none kV doc pm an cdv ct), osl⟩)
    (c : PySem.W.codeIn K cdv qual = true) (k : PySem.W.keepIn K (.ref f) = true) : Fun K x qual st f (PySem.W.fnOf x qual (defArgs st) (defBody st) (defScope st) .none kV doc pm an cdv ct) := ⟨⟨oc, od, kV, doc, pm, an, cdv, ct, osl, rfl, l, c⟩, k⟩
end
theorem hu_of {A : Around} {k : Nat} (hr : Room k A) : A.units + 1 < cLine := Nat.lt_of_le_of_lt (Nat.add_le_add_left (by decide : 1 ≤ 64) _) hr.units
/-! ### expressions in short: the name that stands in the i-th slot -/
section
variable {X : Cx}
theorem pv (i : Nat) {x : Str} {pos : Pos} (hN : X.N[i]? = some x := by rfl) (hv : Vis X.env.scope x := by first | exact Or.inl rfl | exact Or.inr (Or.inl rfl) | exact Or.inr (Or.inr rfl)) (hd : (x == ("__debug__" : Str)) = false := by decide)
    (hcd : (x == ("__classdict__" : Str)) = false := by decide) : PE X (.Name x pos) (tVar i) := pe_var hN hv hd hcd
end

/-! ### tests -/
theorem ite2 {c A B : Prop} [Decidable c] (h1 : c → A) (h2 : ¬ c → B) : if c then A else B := by
  by_cases h : c
  · rw [if_pos h]
    exact h1 h
  · rw [if_neg h]
    exact h2 h
/-! ### heaps -/
/-- all that was tracked is as it was -/
def Same (H H' : Hp) : Prop := ∀ b o, H b = some o → H' b = some o
theorem Same.refl (H : Hp) : Same H H := fun _ _ h => h
theorem Same.trans {H H1 H2 : Hp} (a : Same H H1) (b : Same H1 H2) : Same H H2 := fun c o h => b c o (a c o h)
theorem Same.free {H H' : Hp} (e : Same H H') {l : Addr} (h : H' l = Option.none) : H l = Option.none := by
  cases q : H l with
  | none => rfl
  | some o =>
    rw [e l o q] at h
    cases h
theorem Same.seq {K : PySem.W.Frag} {H H' : Hp} {a : Addr} {xs : List V} (e : Same H H') (h : SqL K H a xs) : SqL K H' a xs := by
  rcases h with (h | ⟨o, h⟩) | h
  · exact .inl (.inl (e _ _ h))
  · exact .inl (.inr ⟨o, e _ _ h⟩)
  · exact .inr h

end L2

set_option Elab.async false
set_option linter.all false
set_option maxRecDepth 100000
namespace L2
open PySem PySem.Spec PyProof.Rows

end L2

namespace L2
open PySem PySem.Spec PyProof.Rows

section
variable (P : Program) (w : World)
end

section
variable {P : Program} {w : World} {H H' : Hp} {h h' : Heap} {a : Addr} {o : HO}
end

section
variable {P : Program} {w : World} {H : Hp} {h h' : Heap} {x e : Addr} {o' : HO}
end

section
variable {fs fs' ex ex' : List Addr} {H H1 H2 : Hp} {h h1 h2 h' : Heap} {a x e : Addr} {o : HO}
end

end L2

namespace L2
open PySem PySem.Spec PyProof.Rows

section
variable {X : Cx} {pins : List (Addr × Obj)} {σ : List (Option V)} {H H' : Hp} {s : Shared} {h' : Heap}

end

end L2

namespace L2
open PySem PySem.Spec PyProof.Rows
section
variable {X : Cx}

variable {a b : Expr} {ta tb : TE} {pos : Pos}
variable {tA tB' : TT} {rest : List Expr}
end
end L2

namespace L2
open PySem PySem.Spec PyProof.Rows

section
variable {X : Cx} {pins : List (Addr × Obj)} {σ : St} {H : Hp} {s : Shared} {a : Addr} {xs ys : List V}
end

section
variable {X : Cx} {pins : List (Addr × Obj)} {σ : St} {H : Hp} {s : Shared} {E : Value → Shared → Prop}
end

section
variable {X : Cx} {st : Stmt} {rest : List Stmt} {t u : TS} {e : Expr} {te : TE} {pos : Pos}
end

section
variable {X : Cx} {pos : Pos}
end

section
variable {X : Cx} {pos : Pos}
end

end L2

namespace L2
open PySem PySem.Spec PyProof.Rows
section
variable {X : Cx} {tg : Expr}
end

end L2

namespace L2
open PySem PySem.Spec PyProof.Rows

section
variable {X : Cx} {a b c : Expr} {ta tb tc : TE} {pos : Pos}

end

section
variable {X : Cx} {a b c : Expr} {ta tb tc : TE} {pos : Pos}
end
end L2

namespace L2
open PySem PySem.Spec PyProof.Rows

section
variable {prog : Program} {w : World} {A : Around} {E : Value → Shared → Prop} {s : Shared} {K : PySem.W.Frag} {x dx C f : Addr} {mA : Str → Option Value} {name : Str} {v : Value}

end

section
variable {P : Program} {w : World} {H H' : Hp} {h h' : Heap} {a C dx : Addr} {fs fs' : List (Str × V)}
end

section
variable {X : Cx} {pins : List (Addr × Obj)} {σ : St} {H : Hp} {s : Shared} {a C dx : Addr} {fs : List (Str × V)} {f : Str} {v : V} {A : Around} {E : Value → Shared → Prop}

end

section
variable {X : Cx} {o e value : Expr} {f : Str} {pos pos' tpos : Pos} {ta tv : TE}
end

section
variable {X : Cx} {pins : List (Addr × Obj)} {σ : St} {H : Hp} {s : Shared} {A : Around} {E : Value → Shared → Prop} {Q : Value → Shared → Prop} {c : Value} {b : Bool}
end
end L2

namespace L2
open PySem PySem.Spec PyProof.Rows

section
variable {X : Cx} {e : Expr} {es : List Expr} {te : TE} {t : TA} {pos : Pos}
end

section
variable {X : Cx} {pins : List (Addr × Obj)} {σ : St} {H : Hp} {s s' : Shared}
end

section
variable {X : Cx} {CX : CXT} {k : Nat} {f C : Addr} {fd : FuncData} {ps : List Str} {sp : Sp} {dvs : List V} {ds : List Value} {E : XK} {x m : Str} {p pos apos : Pos} {e o : Expr} {es : List Expr} {ta : TE} {t : TA}

end

section
variable {X : Cx} {CX : CXT} {k : Nat} {f C : Addr} {fd : FuncData} {ps ks : List Str} {sp : Sp} {E : XK} {x m : Str} {p pos apos kpos : Pos} {e o : Expr} {es : List Expr} {kws : List Keyword} {te ta : TE} {t tk : TA} {nm : Option Str}
variable {g : List Value → List Value → List Value} {gV : List V → List V → List V}
end

end L2

namespace L2
open PySem PySem.Spec PyProof.Rows
section
variable {X : Cx} {x : Str} {p pos : Pos} {e : Expr} {es : List Expr} {t : TA} {id T : String} {r : List V → Hp → VK → Prop}

end
end L2

namespace L2
open PySem PySem.Spec PyProof.Rows

section
variable {κ : Type} [DecidableEq κ]
def valV (kvs : List (κ × V)) (k : κ) : Option V := (kvs.find? fun kv => decide (kv.1 = k)).map (·.2)
def putK (kvs : List (κ × V)) (k : κ) (v : V) : List (κ × V) :=
  if (kvs.any fun kv => decide (kv.1 = k)) = true then kvs.map (fun kv => if kv.1 = k then (kv.1, v) else kv) else kvs ++ [(k, v)]
def dropK (kvs : List (κ × V)) (k : κ) : List (κ × V) := kvs.filter fun kv => decide (kv.1 ≠ k)

theorem valV_nil {k : κ} : valV ([] : List (κ × V)) k = none := rfl
theorem valV_pos {p : κ × V} {r : List (κ × V)} {k : κ} (e : p.1 = k) : valV (p :: r) k = some p.2 := by simp [valV, List.find?_cons, e]
theorem valV_neg {p : κ × V} {r : List (κ × V)} {k : κ} (e : ¬ p.1 = k) : valV (p :: r) k = valV r k := by simp [valV, List.find?_cons, e]
theorem valV_any (k : κ) : ∀ kvs : List (κ × V), (kvs.any fun kv => decide (kv.1 = k)) = (valV kvs k).isSome
  | [] => rfl
  | p :: r => by
    rw [List.any_cons]
    by_cases e : p.1 = k
    · simp only [valV_pos e, decide_eq_true e, Bool.true_or, Option.isSome_some]
    · rw [valV_neg e, decide_eq_false e, Bool.false_or]; exact valV_any k r
theorem valV_map (k j : κ) (y : V) : ∀ kvs : List (κ × V), valV (kvs.map fun kv => if kv.1 = k then (kv.1, y) else kv) j = (valV kvs j).map fun x => if j = k then y else x
  | [] => rfl
  | p :: r => by
    have ih := valV_map k j y r
    rw [List.map_cons]
    by_cases h : p.1 = k
    · rw [if_pos h]
      by_cases e : p.1 = j
      · rw [valV_pos (p := (p.1, y)) e, valV_pos e, Option.map_some, if_pos (e.symm.trans h)]
      · rw [valV_neg (p := (p.1, y)) e, valV_neg e, ih]
    · rw [if_neg h]
      by_cases e : p.1 = j
      · rw [valV_pos (p := p) e, valV_pos e, Option.map_some, if_neg (fun z => h (e.trans z))]
      · rw [valV_neg (p := p) e, valV_neg e, ih]
theorem valV_snoc (k j : κ) (y : V) : ∀ kvs : List (κ × V), valV kvs k = none → valV (kvs ++ [(k, y)]) j = if j = k then some y else valV kvs j
  | [], _ => by
    by_cases e : k = j
    · rw [if_pos e.symm]; exact valV_pos (p := (k, y)) e
    · rw [if_neg (fun z => e z.symm)]; exact valV_neg (p := (k, y)) e
  | p :: r, hn => by
    rw [List.cons_append]
    have hk : ¬ p.1 = k := fun z => by rw [valV_pos z] at hn; cases hn
    rw [valV_neg hk] at hn
    have ih := valV_snoc k j y r hn
    by_cases e : p.1 = j
    · rw [valV_pos e, valV_pos e, if_neg (fun z => hk (e.trans z))]
    · rw [valV_neg e, valV_neg e, ih]
theorem valV_put (kvs : List (κ × V)) (k j : κ) (y : V) : valV (putK kvs k y) j = if j = k then some y else valV kvs j := by
  unfold putK
  by_cases a : (kvs.any fun kv => decide (kv.1 = k)) = true
  · rw [if_pos a, valV_map]
    rw [valV_any] at a
    by_cases e : j = k
    · obtain ⟨x, hx⟩ := Option.isSome_iff_exists.mp a
      rw [if_pos e, e, hx, Option.map_some, if_pos rfl]
    · rw [if_neg e]
      cases valV kvs j with
      | none => rfl
      | some x => rw [Option.map_some, if_neg e]
  · rw [if_neg a]
    refine valV_snoc k j y kvs ?_
    rw [valV_any] at a
    cases q : valV kvs k with
    | none => rfl
    | some x => rw [q] at a; exact (a rfl).elim
theorem length_putK (kvs : List (κ × V)) (k : κ) (v : V) : (putK kvs k v).length ≤ kvs.length + 1 := by
  unfold putK
  split
  · rw [List.length_map]; omega
  · rw [List.length_append, List.length_cons, List.length_nil]; omega
theorem RelO.isSome_eq {o : Option V} {u : Option Value} (r : RelO o u) : o.isSome = u.isSome := by
  cases o with
  | none => cases u with
    | none => rfl
    | some _ => exact (show False from r).elim
  | some _ => cases u with
    | none => exact (show False from r).elim
    | some _ => rfl
theorem RelO.getD {o : Option V} {u : Option Value} {d : V} {d' : Value} (r : RelO o u) (rd : RelV d d') : RelV (o.getD d) (u.getD d') := by
  cases o with
  | none => cases u with
    | none => exact rd
    | some _ => exact (show False from r).elim
  | some _ => cases u with
    | none => exact (show False from r).elim
    | some _ => exact r

theorem KV.val {kvs : List (κ × V)} {vs : List (κ × Value)} (r : KV kvs vs) (k : κ) : RelO (valV kvs k) (valueAt vs k) := by
  unfold KV at r
  induction r with
  | nil => exact True.intro
  | @cons p q ps qs h t ih =>
    obtain ⟨h1, h2⟩ := h
    by_cases e : p.1 = k
    · have e' : q.1 = k := h1.symm.trans e
      have b : valueAt (q :: qs) k = some q.2 := by simp [valueAt, List.find?_cons, e']
      rw [valV_pos e, b]; exact h2
    · have e' : ¬ q.1 = k := fun z => e (h1.trans z)
      have b : valueAt (q :: qs) k = valueAt qs k := by simp [valueAt, List.find?_cons, e']
      rw [valV_neg e, b]; exact ih
theorem KV.any {kvs : List (κ × V)} {vs : List (κ × Value)} (r : KV kvs vs) (k : κ) : (kvs.any fun kv => decide (kv.1 = k)) = vs.any fun kv => decide (kv.1 = k) := by
  unfold KV at r
  induction r with
  | nil => rfl
  | cons h t ih => rw [List.any_cons, List.any_cons, ih, h.1]
theorem KV.repl {kvs : List (κ × V)} {vs : List (κ × Value)} (r : KV kvs vs) (k : κ) {y : V} {u : Value} (ry : RelV y u) :
    KV (kvs.map fun kv => if kv.1 = k then (kv.1, y) else kv) (vs.map fun kv => if kv.1 = k then (kv.1, u) else kv) := by
  unfold KV at r ⊢
  induction r with
  | nil => exact .nil
  | @cons p q ps qs h t ih =>
    rw [List.map_cons, List.map_cons]
    refine .cons ?_ ih
    obtain ⟨h1, h2⟩ := h
    by_cases e : p.1 = k
    · rw [if_pos e, if_pos (h1.symm.trans e)]; exact ⟨h1, ry⟩
    · rw [if_neg e, if_neg (fun z => e (h1.trans z))]; exact ⟨h1, h2⟩
theorem KV.put {kvs : List (κ × V)} {vs : List (κ × Value)} (r : KV kvs vs) (k : κ) {y : V} {u : Value} (ry : RelV y u) : KV (putK kvs k y) (stored vs k u) := by
  unfold putK stored
  rw [r.any k]
  by_cases e : (vs.any fun kv => decide (kv.1 = k)) = true
  · rw [if_pos e, if_pos e]; exact r.repl k ry
  · rw [if_neg e, if_neg e]; exact Paired.snoc r ⟨rfl, ry⟩
theorem KV.drop {kvs : List (κ × V)} {vs : List (κ × Value)} (r : KV kvs vs) (k : κ) : KV (dropK kvs k) (without vs k) := by
  unfold KV at r ⊢
  unfold dropK without
  induction r with
  | nil => exact .nil
  | @cons p q ps qs h t ih =>
    obtain ⟨h1, h2⟩ := h
    rw [List.filter_cons, List.filter_cons]
    by_cases e : p.1 = k
    · have a : ¬ decide (p.1 ≠ k) = true := by simp [e]
      have b : ¬ decide (q.1 ≠ k) = true := by simp [h1.symm.trans e]
      rw [if_neg a, if_neg b]; exact ih
    · have e' : ¬ q.1 = k := fun z => e (h1.trans z)
      have a : decide (p.1 ≠ k) = true := by simp [e]
      have b : decide (q.1 ≠ k) = true := by simp [e']
      rw [if_pos a, if_pos b]; exact .cons ⟨h1, h2⟩ ih
theorem KV.keys {kvs : List (κ × V)} {vs : List (κ × Value)} (r : KV kvs vs) : kvs.map (·.1) = vs.map (·.1) := by
  unfold KV at r
  induction r with
  | nil => rfl
  | cons h t ih => rw [List.map_cons, List.map_cons, ih, h.1]
theorem KV.length {kvs : List (κ × V)} {vs : List (κ × Value)} (r : KV kvs vs) : kvs.length = vs.length := Paired.length r
theorem dropK_le (kvs : List (κ × V)) (k : κ) : (dropK kvs k).length ≤ kvs.length := List.length_filter_le _ _
end


theorem kV_is {P : Program} {w : World} {k : Key} {u : Value} (r : RelV (kV k) u) : (mixKind P w).is k u = true := by
  cases k with
  | inl i => obtain ⟨t, e⟩ := (show ∃ t, u = Value.int i t from r); subst e; exact mixKind_int P w i t
  | inr x => obtain ⟨t, e⟩ := (show ∃ t, u = Value.str x t from r); subst e; exact mixKind_str P w x t
theorem items_are {P : Program} {w : World} : ∀ {ks : List Key} {us : List Value}, Vals (ks.map kV) us → ItemsAre (mixKind P w) ks us
  | [], _, r => by rw [List.map_nil] at r; cases r; exact .nil
  | k :: ks, _, r => by
    rw [List.map_cons] at r
    cases r with
    | cons h t => exact .cons (kV_is h) (items_are t)

abbrev KT (H : Hp) : List (List Key × V) → List (List Key × Addr × Value) → Prop := Paired fun p q => p.1 = q.1 ∧ H q.2.1 = some (.tup (p.1.map kV)) ∧ RelV p.2 q.2.2
theorem KT.val {H : Hp} {kvs : List (List Key × V)} {xs : List (List Key × Addr × Value)} (r : KT H kvs xs) (k : List Key) : RelO (valV kvs k) ((atKey xs k).map (·.2)) := by
  induction r with
  | nil => exact True.intro
  | @cons p q ps qs h t ih =>
    obtain ⟨h1, _, h2⟩ := h
    by_cases e : p.1 = k
    · have e' : q.1 = k := h1.symm.trans e
      have b : atKey (q :: qs) k = some q.2 := by simp [atKey, List.find?_cons, e']
      rw [valV_pos e, b]; exact h2
    · have e' : ¬ q.1 = k := fun z => e (h1.trans z)
      have b : atKey (q :: qs) k = atKey qs k := by simp [atKey, List.find?_cons, e']
      rw [valV_neg e, b]; exact ih
theorem KT.repl {H : Hp} {kvs : List (List Key × V)} {xs : List (List Key × Addr × Value)} (r : KT H kvs xs) (k : List Key) {y : V} {u : Value} (ry : RelV y u) :
    KT H (kvs.map fun kv => if kv.1 = k then (kv.1, y) else kv) (xs.map (putAt k u)) := by
  induction r with
  | nil => exact .nil
  | @cons p q ps qs h t ih =>
    rw [List.map_cons, List.map_cons]
    refine .cons ?_ ih
    obtain ⟨h1, h2, h3⟩ := h
    unfold putAt
    by_cases e : p.1 = k
    · rw [if_pos e, if_pos (h1.symm.trans e)]; exact ⟨h1, h2, ry⟩
    · rw [if_neg e, if_neg (fun z => e (h1.trans z))]; exact ⟨h1, h2, h3⟩
theorem KT.put {H : Hp} {kvs : List (List Key × V)} {xs : List (List Key × Addr × Value)} (r : KT H kvs xs) (k : List Key) {b : Addr} {y : V} {u : Value} (hb : H b = some (.tup (k.map kV))) (ry : RelV y u) :
    KT H (putK kvs k y) (storedH xs k b u) := by
  have e : (kvs.any fun kv => decide (kv.1 = k)) = (atKey xs k).isSome := by
    rw [valV_any, (r.val k).isSome_eq, Option.isSome_map]
  unfold putK storedH
  rw [e]
  by_cases q : (atKey xs k).isSome = true
  · rw [if_pos q, if_pos q]; exact r.repl k ry
  · rw [if_neg q, if_neg q]; exact Paired.snoc r ⟨rfl, hb, ry⟩
theorem KT.keeps {H H' : Hp} {kvs : List (List Key × V)} {xs : List (List Key × Addr × Value)} (r : KT H kvs xs) (ht : ∀ b ys, H b = some (.tup ys) → H' b = some (.tup ys)) : KT H' kvs xs :=
  Paired.mapP r fun _ _ z => ⟨z.1, ht _ _ z.2.1, z.2.2⟩

section
variable {P : Program} {w : World} {H : Hp} {h : Heap} {a : Addr}
theorem rd_of {u : HO} (ok : HOk P w H h) (e : Rd H a u) : ObjOk P w H h a u := e.ok ok
theorem dk_rd {kvs : List (Key × V)} (ok : HOk P w H h) (e : Rd H a (.dK kvs)) : kvs.length ≤ sizeLine ∧ (a == sysModules) = false ∧ ∃ vs, KV kvs vs ∧ h.DictOf (mixKind P w) a vs :=
  show ObjOk P w H h a (.dK kvs) from rd_of ok e
theorem dk_of {kvs : List (Key × V)} (ok : HOk P w H h) (e : H a = some (.dK kvs)) : kvs.length ≤ sizeLine ∧ (a == sysModules) = false ∧ ∃ vs, KV kvs vs ∧ h.DictOf (mixKind P w) a vs := dk_rd ok (.inl e)
theorem key_of {ks : List Key} (ok : HOk P w H h) (e : H a = some (.tup (ks.map kV))) : (tupleKind (mixKind P w)).is h ks a := by
  obtain ⟨_, its, r, o, h1, h2, n, h3⟩ := (show ObjOk P w H h a (.tup (ks.map kV)) from ok a _ e)
  exact ⟨o, its.toArray, n, h1, h2, h3, by simpa using items_are r⟩
theorem dt_rd {kvs : List (List Key × V)} (ok : HOk P w H h) (e : Rd H a (.dT kvs)) : kvs.length ≤ sizeLine ∧ (a == sysModules) = false ∧
    ∃ xs, KT H kvs xs ∧ h.DictOfH (tupleKind (mixKind P w)) a xs := by
  obtain ⟨z, y, xs, r, o, es, ep, h1, h2, h3, h4, h5⟩ := (show ObjOk P w H h a (.dT kvs) from rd_of ok e)
  refine ⟨z, y, xs, r, o, es, ep, h1, h2, h3, h4, fun x hx => ?_, h5⟩
  have all : ∀ {l : List (List Key × V)} {m : List (List Key × Addr × Value)}, KT H l m → ∀ x ∈ m, (tupleKind (mixKind P w)).is h x.1 x.2.1 := by
    intro l m q
    induction q with
    | nil => intro x hx; exact nomatch hx
    | @cons p q ps qs hq t ih =>
      intro x hx
      rcases List.mem_cons.mp hx with e | hx
      · subst e
        exact key_of ok (by rw [← hq.1]; exact hq.2.1)
      · exact ih x hx
  exact all r x hx
theorem dt_of {kvs : List (List Key × V)} (ok : HOk P w H h) (e : H a = some (.dT kvs)) : kvs.length ≤ sizeLine ∧ (a == sysModules) = false ∧
    ∃ xs, KT H kvs xs ∧ h.DictOfH (tupleKind (mixKind P w)) a xs := dt_rd ok (.inl e)
end

def DGet (H : Hp) (a : Addr) (y : V) (r : Option V) : Prop :=
  (∃ kvs k, Rd H a (.dK kvs) ∧ y = kV k ∧ r = valV kvs k) ∨ ∃ kvs k b, Rd H a (.dT kvs) ∧ y = .ref b ∧ H b = some (.tup (k.map kV)) ∧ r = valV kvs k
def DPut (H : Hp) (a : Addr) (y v : V) (H' : Hp) : Prop :=
  (∃ kvs k, H a = some (.dK kvs) ∧ y = kV k ∧ kvs.length < sizeLine ∧ H' = upd H a (.dK (putK kvs k v))) ∨
  ∃ kvs k b, H a = some (.dT kvs) ∧ y = .ref b ∧ H b = some (.tup (k.map kV)) ∧ kvs.length < sizeLine ∧ H' = upd H a (.dT (putK kvs k v))
theorem DGet.k {H : Hp} {a : Addr} {kvs : List (Key × V)} {k : Key} (e : H a = some (.dK kvs)) : DGet H a (kV k) (valV kvs k) := .inl ⟨kvs, k, .inl e, rfl, rfl⟩
theorem DGet.t {H : Hp} {a b : Addr} {kvs : List (List Key × V)} {k : List Key} (e : H a = some (.dT kvs)) (eb : H b = some (.tup (k.map kV))) : DGet H a (.ref b) (valV kvs k) := .inr ⟨kvs, k, b, .inl e, rfl, eb, rfl⟩
theorem DPut.k {H : Hp} {a : Addr} {kvs : List (Key × V)} {k : Key} {v : V} (e : H a = some (.dK kvs)) (hl : kvs.length < sizeLine) : DPut H a (kV k) v (upd H a (.dK (putK kvs k v))) := .inl ⟨kvs, k, e, rfl, hl, rfl⟩
theorem DPut.t {H : Hp} {a b : Addr} {kvs : List (List Key × V)} {k : List Key} {v : V} (e : H a = some (.dT kvs)) (eb : H b = some (.tup (k.map kV))) (hl : kvs.length < sizeLine) :
    DPut H a (.ref b) v (upd H a (.dT (putK kvs k v))) := .inr ⟨kvs, k, b, e, rfl, eb, hl, rfl⟩


section
variable {X : Cx} {pins : List (Addr × Obj)} {σ : St} {H : Hp} {s : Shared} {a : Addr} {y v : V} {u r : Value} {o : Option V} {A : Around} {E : Value → Shared → Prop}

theorem Inv.big (I : Inv X pins σ H s) : sysModules < s.heap.objs.size := by
  have h : mainGlobals < s.heap.objs.size := (I.mod.glob.keeps I.bk).lt
  exact Nat.lt_trans (by decide) h

theorem d_getItem {Q : Value → Shared → Prop} (hu : A.units + 1 < cLine) (I : Inv X pins σ H s) (g : DGet H a y (some v)) (ry : RelV y u) (h : ∀ w' s', Inv X pins σ H s' → RelV v w' → Q w' s') :
    wpAny (model X.prog X.w) A (getItem (.ref a) u) Q E s := by
  rcases g with ⟨kvs, k, e, ey, l⟩ | ⟨kvs, k, b, e, ey, eb, l⟩
  · subst ey
    obtain ⟨z, hd, vs, rel, dd⟩ := dk_rd I.hok e
    obtain ⟨w', hw, rw'⟩ := RelO.some_of (v := v) (o := valueAt vs k) (by rw [l]; exact rel.val k)
    exact wpAny_getItem_of (kV_is ry) dd.mapOf hw (h w' _ (I.tok _) rw')
  · subst ey
    cases (show u = Value.ref b from ry)
    obtain ⟨z, hd, xs, rel, dd⟩ := dt_rd I.hok e
    obtain ⟨w', hw, rw'⟩ := RelO.some_of (v := v) (o := (atKey xs k).map (·.2)) (by rw [l]; exact rel.val k)
    obtain ⟨p, hp, hp2⟩ := Option.map_eq_some_iff.mp hw
    refine wpAny_getItem_heap (tupleKind_room_in1 hu) (key_of I.hok eb) dd hp ?_
    rw [hp2]
    exact h w' _ (I.tok _) rw'
theorem d_notIn {Q : Value → Shared → Prop} (hu : A.units + 1 < cLine) (I : Inv X pins σ H s) (g : DGet H a y o) (ry : RelV y u) (h : ∀ s', Inv X pins σ H s' → Q (.bool (!o.isSome)) s') :
    wpAny (model X.prog X.w) A (compareOp .NotIn u (.ref a)) Q E s := by
  rcases g with ⟨kvs, k, e, ey, l⟩ | ⟨kvs, k, b, e, ey, eb, l⟩
  · subst ey
    obtain ⟨z, hd, vs, rel, dd⟩ := dk_rd I.hok e
    refine wpAny_notIn_of (kV_is ry) hd dd.mapOf ?_
    rw [← (rel.val k).isSome_eq, ← l]
    exact h _ (I.tok _)
  · subst ey
    cases (show u = Value.ref b from ry)
    obtain ⟨z, hd, xs, rel, dd⟩ := dt_rd I.hok e
    refine wpAny_notIn_heap (tupleKind_room_in1 hu) (key_of I.hok eb) hd dd ?_
    have q := (rel.val k).isSome_eq
    rw [Option.isSome_map] at q
    rw [← q, ← l]
    exact h _ (I.tok _)
theorem d_write {h' : Heap} {t' : Nat} {ob : HO} (I : Inv X pins σ H s) (mu : Mut (H a)) (hs : Heap.SameBut a s.heap h') (he : ∃ q, h'.get? a = some q) (new : ObjOk X.prog X.w (upd H a ob) h' a ob) :
    Inv X pins σ (upd H a ob) { s with heap := h', toks := t' } :=
  I.write (x := a) (e := a) mu (.inl rfl) (fun b q hb z => (hs.2 b hb).trans z) he new
theorem dk_new {P : Program} {w : World} {H' : Hp} {h' : Heap} {kvs : List (Key × V)} {vs : List (Key × Value)} (z : kvs.length ≤ sizeLine) (hd : (a == sysModules) = false) (rel : KV kvs vs) (dd : h'.DictOf (mixKind P w) a vs) :
    ObjOk P w H' h' a (.dK kvs) := ⟨z, hd, vs, rel, dd⟩
theorem d_setItem {H' : Hp} {Q : Unit → Shared → Prop} (hu : A.units + 1 < cLine) (I : Inv X pins σ H s) (g : DPut H a y v H') (ry : RelV y u) (rv : RelV v r) (h : ∀ s', Inv X pins σ H' s' → Q () s') :
    wpAny (model X.prog X.w) A (setItem (.ref a) u r) Q E s := by
  rcases g with ⟨kvs, k, e, ey, l, eH⟩ | ⟨kvs, k, b, e, ey, eb, l, eH⟩
  · subst ey eH
    obtain ⟨z, hd, vs, rel, dd⟩ := dk_of I.hok e
    have hz : vs.length ≤ sizeLine := by rw [← rel.length]; exact z
    have hl : (putK kvs k v).length ≤ sizeLine := by have := length_putK kvs k v; omega
    refine wpAny_setItem_pairs (hsz := hz) (kV_is ry) dd fun h' dd' hs => h _ ?_
    have he : ∃ q, h'.get? a = some q := let ⟨q, _, _, hq, _⟩ := dd'; ⟨q, hq⟩
    exact d_write I (by rw [e]; exact True.intro) hs he (dk_new hl hd (rel.put k rv) dd')
  · subst ey eH
    cases (show u = Value.ref b from ry)
    obtain ⟨z, hd, xs, rel, dd⟩ := dt_of I.hok e
    have hz : xs.length ≤ sizeLine := by rw [← Paired.length rel]; exact z
    have hl : (putK kvs k v).length ≤ sizeLine := by have := length_putK kvs k v; omega
    refine wpAny_setItem_heap (hsz := hz) (tupleKind_room_in1 hu) (key_of I.hok eb) dd fun h' dd' hs => h _ ?_
    obtain ⟨q, es, ep, hq, h2, h3, h4, _, h5⟩ := dd'
    refine d_write I (by rw [e]; exact True.intro) hs ⟨q, hq⟩ ⟨hl, hd, _, (rel.put k eb rv).keeps fun c ys ec => ?_, q, es, ep, hq, h2, h3, h4, h5⟩
    rw [upd_ne (ne_of ec e (fun z => nomatch z))]
    exact ec
end

section
variable {X : Cx} {pins : List (Addr × Obj)} {σ : St} {H : Hp} {s : Shared} {a : Addr} {kvs : List (Key × V)} {k : Key} {u : Value} {A : Around} {E : Value → Shared → Prop}
theorem d_pop {v : V} {more : List Value} {Q : Value → Shared → Prop} (I : Inv X pins σ H s) (e : H a = some (.dK kvs)) (ry : RelV (kV k) u) (l : valV kvs k = some v) (hm : more = [] ∨ ∃ x, more = [x])
    (h : ∀ w' s', Inv X pins σ (upd H a (.dK (dropK kvs k))) s' → RelV v w' → Q w' s') : wpAny (model X.prog X.w) A (call (.builtin "dict.pop") (.ref a :: u :: more)) Q E s := by
  obtain ⟨z, hd, vs, rel, dd⟩ := dk_of I.hok e
  obtain ⟨w', hw, rw'⟩ := RelO.some_of (v := v) (o := valueAt vs k) (by rw [← l]; exact rel.val k)
  have hp : (keyPart u).isSome = true := by
    cases k with
    | inl i => obtain ⟨t, q⟩ := (show ∃ t, u = Value.int i t from ry); subst q; rfl
    | inr x => obtain ⟨t, q⟩ := (show ∃ t, u = Value.str x t from ry); subst q; rfl
  have ha : argsOk "dict.pop" ⟨.ref a :: u :: more, []⟩ := by
    rcases hm with q | ⟨x, q⟩
    · subst q; exact PySem.F.args_dict_pop_2 _ _
    · subst q; exact PySem.F.args_dict_pop_3 _ _ _
  refine call_meetsIn PySem.F.slot_dict_pop dd.typeIs PySem.F.entry_dict_pop ha (meets_dict_pop_there (mixKind X.prog X.w) a (kV_is ry) more hm hp)
    ⟨vs, w', dd, by rw [← rel.length]; exact z, hw, fun h' dd' hs => h w' _ ?_ rw'⟩
  have he : ∃ q, h'.get? a = some q := let ⟨q, _, _, hq, _⟩ := dd'; ⟨q, hq⟩
  exact d_write I (by rw [e]; exact True.intro) hs he (dk_new (Nat.le_trans (dropK_le kvs k) z) hd (rel.drop k) dd')
theorem d_popD {r : Value} {Q : Value → Shared → Prop} (I : Inv X pins σ H s) (e : H a = some (.dK kvs)) (ry : RelV (kV k) u) (l : valV kvs k = none) (h : ∀ s', Inv X pins σ H s' → Q r s') :
    wpAny (model X.prog X.w) A (call (.builtin "dict.pop") [.ref a, u, r]) Q E s := by
  obtain ⟨z, hd, vs, rel, dd⟩ := dk_of I.hok e
  have hn : valueAt vs k = none := RelO.none_of (by rw [← l]; exact rel.val k)
  have hp : (keyPart u).isSome = true := by
    cases k with
    | inl i => obtain ⟨t, q⟩ := (show ∃ t, u = Value.int i t from ry); subst q; rfl
    | inr x => obtain ⟨t, q⟩ := (show ∃ t, u = Value.str x t from ry); subst q; rfl
  exact call_meetsIn PySem.F.slot_dict_pop dd.typeIs PySem.F.entry_dict_pop (PySem.F.args_dict_pop_3 _ _ _) (meets_dict_pop_default (mixKind X.prog X.w) a (kV_is ry) hd hp r) ⟨vs, dd, hn, h _ (I.tok _)⟩
theorem d_len {Q : Value → Shared → Prop} (I : Inv X pins σ H s) (e : Rd H a (.dK kvs)) (h : ∀ t s', Inv X pins σ H s' → Q (.int kvs.length t) s') : wpAny (model X.prog X.w) A (call (.builtin "len") [.ref a]) Q E s := by
  obtain ⟨z, hd, vs, rel, dd⟩ := dk_rd I.hok e
  refine call_len_dict hd dd (by rw [← rel.length]; rw [sizeLine_eq] at z; omega) ?_
  rw [← rel.length]
  exact h _ _ (I.tok _)
end


def NoSl (i : Expr) : Prop := ∀ ov iv, subscripted i false ov iv = operate [ov, iv] (getItem ov iv)
theorem dict_typeIs {X : Cx} {pins : List (Addr × Obj)} {σ : St} {H : Hp} {s : Shared} {a : Addr} {y : V} {o : Option V} (I : Inv X pins σ H s) (g : DGet H a y o) : s.TypeIs (.ref a) "dict" := by
  rcases g with ⟨kvs, k, e, _, _⟩ | ⟨kvs, k, b, e, _, _, _⟩
  · obtain ⟨_, _, vs, _, dd⟩ := dk_rd I.hok e
    exact dd.typeIs
  · obtain ⟨_, _, xs, _, dd⟩ := dt_rd I.hok e
    exact dd.typeIs
def tDGet (td ty : TE) : TE := fun σ H Q => td σ H fun x H1 => ty σ H1 fun y H2 => ∃ a v, x = .ref a ∧ DGet H2 a y (some v) ∧ Q v H2
def tDIn (ty td : TE) : TE := fun σ H Q => ty σ H fun y H1 => td σ H1 fun x H2 => ∃ a o, x = .ref a ∧ DGet H2 a y o ∧ Q (.bl o.isSome) H2
def tDNotIn (ty td : TE) : TE := fun σ H Q => ty σ H fun y H1 => td σ H1 fun x H2 => ∃ a o, x = .ref a ∧ DGet H2 a y o ∧ Q (.bl (!o.isSome)) H2
def sDPut (td ty tv : TE) : TS := fun D σ H => tv σ H fun v H1 => td σ H1 fun x H2 => ty σ H2 fun y H3 => ∃ a H4, x = .ref a ∧ DPut H3 a y v H4 ∧ D.nx σ H4
def sDAug (td ty tv : TE) (rd : V → V → Hp → VK → Prop) : TS := fun D σ H => td σ H fun x H1 => ty σ H1 fun y H2 => ∃ a v, x = .ref a ∧ DGet H2 a y (some v) ∧
  tv σ H2 fun y2 H3 => rd v y2 H3 fun z H4 => ∃ H5, DPut H4 a y z H5 ∧ D.nx σ H5
def sDDel (td ty : TE) : TS := fun D σ H => td σ H fun x H1 => ty σ H1 fun y H2 => ∃ a kvs k, x = .ref a ∧ H2 a = some (.dK kvs) ∧ y = kV k ∧ (valV kvs k).isSome = true ∧ D.nx σ (upd H2 a (.dK (dropK kvs k)))

section
variable {X : Cx} {o i e value : Expr} {pos pos' tpos : Pos} {td ty tv : TE}
end


theorem dk_empty {P : Program} {w : World} {H : Hp} (h : Heap) (hb : sysModules < h.objs.size) : ObjOk P w H (h.push { cls := .type "dict", data := .dict #[] }) h.objs.size (.dK []) :=
  ⟨Nat.zero_le _, beq_eq_false_iff_ne.mpr (Ne.symm (Nat.ne_of_lt hb)), [], .nil, Heap.DictOf.new h⟩
def tDNewK : TE := fun _ H Q => ∀ p, H p = none → Q (.ref p) (upd H p (.dK []))
def tDNewT : TE := fun _ H Q => ∀ p, H p = none → Q (.ref p) (upd H p (.dT []))
section
variable {X : Cx} {pos : Pos}
theorem pe_dnewK : PE X (.Dict [] [] pos) tDNewK := fun pins s σ H Q I h =>
  wpAny_Dict_empty ⟨.ref s.heap.objs.size, _, I.laid (a := s.heap.objs.size) (o := .dK []) (t' := s.toks) (fun _ _ q => Heap.get?_push_of_some _ q) (Nat.le_refl _) (dk_empty s.heap I.big), rfl, h _ (I.hok.fresh (Nat.le_refl _))⟩
end

def tPairs : List (TE × TE) → St → Hp → (List (V × V) → Hp → Prop) → Prop
  | [], _, H, Q => Q [] H
  | (tk, tv) :: r, σ, H, Q => tk σ H fun x H1 => tv σ H1 fun y H2 => tPairs r σ H2 fun ps H3 => Q ((x, y) :: ps) H3
abbrev VV : List (V × V) → List (Value × Value) → Prop := Paired fun p q => RelV p.1 q.1 ∧ RelV p.2 q.2
def PPs (X : Cx) (pos : Pos) (keys : List (Option Expr)) (values : List Expr) (trs : List (TE × TE)) : Prop :=
  ∀ (pins : List (Addr × Obj)) (s : Shared) (σ : St) (H : Hp) (Q : List (V × V) → Hp → Prop), Inv X pins σ H s → tPairs trs σ H Q →
    wpAny (model X.prog X.w) X.A (evalPairs (pairTrees keys values X.env pos)) (fun vs s' => ∃ ps H', Inv X pins σ H' s' ∧ VV ps vs ∧ Q ps H') X.xe s
def mergeK (kvs more : List (Key × V)) : List (Key × V) := more.foldl (fun acc kv => putK acc kv.1 kv.2) kvs
def tDisp (trs : List (TE × TE)) : TE := fun σ H Q => ∀ p, H p = none → tPairs trs σ (upd H p (.dK [])) fun ps H2 => H2 p = some (.dK []) ∧ ∃ kvs : List (Key × V), ps = kvs.map (fun kv => (kV kv.1, kv.2)) ∧ kvs.length ≤ 15 ∧ Q (.ref p) (upd H2 p (.dK (mergeK [] kvs)))
structure M1 (X : Cx) (o : Expr) (m : Str) (apos : Pos) (e : Expr) (cpos : Pos) : Prop where
  base : attributeBase o m X.env (eval o X.env) = eval o X.env
  few : ((backTo cpos (starEach [e] X.env)).all (fun x => !x.1) && (backToKw cpos (keywordEach [] X.env)).all (fun x => x.1.isSome)
    && decide (([e] : List Expr).length + ([] : List Keyword).length + (if ([] : List Keyword).isEmpty then 0 else 1) < 30)) = true
  line : (apos.endLine == cpos.line) = true
  trees : backTo cpos (starEach [e] X.env) = [(false, eval e X.env)]
structure M2 (X : Cx) (o : Expr) (m : Str) (apos : Pos) (e f : Expr) (cpos : Pos) : Prop where
  base : attributeBase o m X.env (eval o X.env) = eval o X.env
  few : ((backTo cpos (starEach [e, f] X.env)).all (fun x => !x.1) && (backToKw cpos (keywordEach [] X.env)).all (fun x => x.1.isSome)
    && decide (([e, f] : List Expr).length + ([] : List Keyword).length + (if ([] : List Keyword).isEmpty then 0 else 1) < 30)) = true
  line : (apos.endLine == cpos.line) = true
  trees : backTo cpos (starEach [e, f] X.env) = [(false, eval e X.env), (false, eval f X.env)]

def IsD (H : Hp) (a : Addr) : Prop := (∃ kvs, Rd H a (.dK kvs)) ∨ ∃ kvs, Rd H a (.dT kvs)
theorem isD_at {X : Cx} {pins : List (Addr × Obj)} {σ : St} {H : Hp} {s : Shared} {a : Addr} (I : Inv X pins σ H s) (d : IsD H a) :
    s.TypeIs (.ref a) "dict" ∧ (∀ b, Value.ref a = .ref b → ∃ ob, s.heap.get? b = some ob ∧ ob.dict = none) ∧ (a == sysModules) = false := by
  rcases d with ⟨kvs, e⟩ | ⟨kvs, e⟩
  · obtain ⟨_, hd, vs, _, dd⟩ := dk_rd I.hok e
    refine ⟨dd.typeIs, fun b q => ?_, hd⟩
    cases q
    obtain ⟨ob, _, _, h1, h2, _⟩ := dd
    exact ⟨ob, h1, h2.2.1⟩
  · obtain ⟨_, hd, xs, _, dd⟩ := dt_rd I.hok e
    refine ⟨dd.typeIs, fun b q => ?_, hd⟩
    cases q
    obtain ⟨ob, _, _, h1, h2, _⟩ := dd
    exact ⟨ob, h1, h2.2.1⟩

section
variable {X : Cx} {pins : List (Addr × Obj)} {σ : St} {H : Hp} {s : Shared} {a : Addr} {y d : V} {u r : Value} {o : Option V} {A : Around} {E : Value → Shared → Prop}
theorem d_get1 {Q : Value → Shared → Prop} (hu : A.units + 1 < cLine) (I : Inv X pins σ H s) (g : DGet H a y o) (ry : RelV y u) (h : ∀ w' s', Inv X pins σ H s' → RelV (o.getD .non) w' → Q w' s') :
    wpAny (model X.prog X.w) A (call (.builtin "dict.get") [.ref a, u]) Q E s := by
  rcases g with ⟨kvs, k, e, ey, l⟩ | ⟨kvs, k, b, e, ey, eb, l⟩
  · subst ey
    obtain ⟨z, hd, vs, rel, dd⟩ := dk_rd I.hok e
    refine call_meetsIn PySem.F.slot_dict_get dd.typeIs PySem.F.entry_dict_get (PySem.F.args_dict_get_2 _ _) (meets_dict_get (mixKind X.prog X.w) a (kV_is ry) hd) ⟨_, dd.mapOf, h _ _ (I.tok _) ?_⟩
    rw [l]
    exact (rel.val k).getD rfl
  · subst ey
    cases (show u = Value.ref b from ry)
    obtain ⟨z, hd, xs, rel, dd⟩ := dt_rd I.hok e
    refine call_meetsIn PySem.F.slot_dict_get dd.typeIs PySem.F.entry_dict_get (PySem.F.args_dict_get_2 _ _) (meetsH_dict_get (tupleKind (mixKind X.prog X.w)) a b hd) ⟨tupleKind_room_in1 hu, k, xs, key_of I.hok eb, dd, h _ _ (I.tok _) ?_⟩
    rw [l]
    exact (rel.val k).getD rfl
end

def tDGet1 (td ty : TE) : TE := fun σ H Q => td σ H fun x H1 => ∃ a, x = .ref a ∧ IsD H1 a ∧ ty σ H1 fun y H2 => ∃ o, DGet H2 a y o ∧ Q (o.getD .non) H2
def tDGet2 (td ty tx : TE) : TE := fun σ H Q => td σ H fun x H1 => ∃ a, x = .ref a ∧ IsD H1 a ∧ ty σ H1 fun y H2 => tx σ H2 fun z H3 => ∃ o, DGet H3 a y o ∧ Q (o.getD z) H3
def tDPop1 (td ty : TE) : TE := fun σ H Q => td σ H fun x H1 => ∃ a, x = .ref a ∧ IsD H1 a ∧ ty σ H1 fun y H2 => ∃ kvs k v, H2 a = some (.dK kvs) ∧ y = kV k ∧ valV kvs k = some v ∧ Q v (upd H2 a (.dK (dropK kvs k)))
def tDPop2 (td ty tx : TE) : TE := fun σ H Q => td σ H fun x H1 => ∃ a, x = .ref a ∧ IsD H1 a ∧ ty σ H1 fun y H2 => tx σ H2 fun z H3 => ∃ kvs k, H3 a = some (.dK kvs) ∧ y = kV k ∧
  (∀ v, valV kvs k = some v → Q v (upd H3 a (.dK (dropK kvs k)))) ∧ (valV kvs k = none → Q z H3)
section
variable {X : Cx} {o e f : Expr} {apos cpos : Pos} {td ty tx : TE}
theorem pe_dget1 (hu : X.A.units + 1 < cLine) (ho : PE X o td) (he : PE X e ty) (m : M1 X o "get" apos e cpos) : PE X (.Call (.Attribute o "get" apos) [e] [] cpos) (tDGet1 td ty) := by
  intro pins s σ H Q I h
  refine wpAny_Call_method m.base m.few m.line PySem.F.plainAttrs_dict PySem.F.slot_dict_get PySem.F.type_dict_get (thn (ho pins s σ H _ I h) fun u s1 ⟨x, H1, I1, rx, a, ex, d, q1⟩ => ?_)
  subst ex
  obtain rfl : u = Value.ref a := rx
  obtain ⟨t1, t2, _⟩ := isD_at I1 d
  refine ⟨t1, t2, ?_⟩
  rw [m.trees]
  refine Calls.callWith_builtin rfl (Calls.evalArgs_plain (Calls.spliced_cons (thn (he pins s1 σ H1 _ I1 q1) fun iv s2 ⟨y, H2, I2, ry, ov, g, q2⟩ => Calls.spliced_nil ?_)))
  exact d_get1 hu I2 g ry fun w' s3 I3 rw' => ⟨_, H2, I3, rw', q2⟩
theorem pe_dpop2 (ho : PE X o td) (he : PE X e ty) (hf : PE X f tx) (m : M2 X o "pop" apos e f cpos) : PE X (.Call (.Attribute o "pop" apos) [e, f] [] cpos) (tDPop2 td ty tx) := by
  intro pins s σ H Q I h
  refine wpAny_Call_method m.base m.few m.line PySem.F.plainAttrs_dict PySem.F.slot_dict_pop PySem.F.type_dict_pop (thn (ho pins s σ H _ I h) fun u s1 ⟨x, H1, I1, rx, a, ex, d, q1⟩ => ?_)
  subst ex
  obtain rfl : u = Value.ref a := rx
  obtain ⟨t1, t2, _⟩ := isD_at I1 d
  refine ⟨t1, t2, ?_⟩
  rw [m.trees]
  refine Calls.callWith_builtin rfl (Calls.evalArgs_plain (Calls.spliced_cons (thn (he pins s1 σ H1 _ I1 q1) fun iv s2 ⟨y, H2, I2, ry, q2⟩ =>
    Calls.spliced_cons (thn (hf pins s2 σ H2 _ I2 q2) fun fv s3 ⟨z, H3, I3, rz, kvs, k, ea, ey, q3, q4⟩ => Calls.spliced_nil ?_))))
  subst ey
  cases l : valV kvs k with
  | some v => exact d_pop I3 ea ry l (.inr ⟨fv, rfl⟩) fun w' s4 I4 rw' => ⟨v, _, I4, rw', q3 v l⟩
  | none => exact d_popD I3 ea ry l fun s4 I4 => ⟨z, H3, I4, rz, q4 l⟩
end

section
variable {X : Cx} {pins : List (Addr × Obj)} {σ : St} {H : Hp} {s : Shared} {a : Addr} {kvs : List (Key × V)} {A : Around} {E : Value → Shared → Prop}
end


section
variable {X : Cx} {pins : List (Addr × Obj)} {σ : St} {H : Hp} {s : Shared} {a : Addr} {y : V} {u : Value} {A : Around} {E : Value → Shared → Prop}
end
end L2

namespace Att
open PySem PySem.W PySem.Calls PyProof.Rows

section
variable {prog : Program} {w : World} {A : Around} {E : Value → Shared → Prop} {s : Shared} {K : Frag}

end
end Att

namespace L2
open PySem PySem.Spec PyProof.Rows

end L2

namespace L2
open PySem PySem.Spec PyProof.Rows

end L2

namespace L2
open PySem PySem.Spec PyProof.Rows

section
variable {P : Program} {w : World} {K : PySem.W.Frag} {mg : Str → Option Value} {base : Heap}
end
section
variable {X : Cx}
theorem call_lenD : CallR X (.builtin "len") (fun xs H Q => ∃ a kvs, xs = [V.ref a] ∧ H a = some (.dK kvs) ∧ Q (.int kvs.length) H) := by
  intro pins s σ H xs us Q I r h
  obtain ⟨a, kvs, rfl, ha, q⟩ := h
  obtain ⟨u, rfl, ru⟩ := vals1 r
  cases ru
  exact d_len I (.inl ha) fun t s' I' => ⟨.int kvs.length, H, I', ⟨t, rfl⟩, q⟩
end

section
variable {κ : Type} [DecidableEq κ]
theorem valV_not {kvs : List (κ × V)} {k : κ} (h : valV kvs k = none) : ¬ k ∈ kvs.map (·.1) := by
  intro m
  obtain ⟨p, hp, e⟩ := List.mem_map.mp m
  have q : (kvs.any fun kv => decide (kv.1 = k)) = true := List.any_eq_true.mpr ⟨p, hp, decide_eq_true e⟩
  rw [valV_any, h] at q
  exact absurd q (by simp)
theorem valV_in {kvs : List (κ × V)} {k : κ} {v : V} (h : valV kvs k = some v) : k ∈ kvs.map (·.1) := by
  have q : (kvs.any fun kv => decide (kv.1 = k)) = true := by
    rw [valV_any, h]
    all_goals rfl
  obtain ⟨p, hp, e⟩ := List.any_eq_true.mp q
  exact List.mem_map.mpr ⟨p, hp, of_decide_eq_true e⟩
theorem dropK_pos {p : κ × V} {r : List (κ × V)} {k : κ} (e : p.1 = k) : dropK (p :: r) k = dropK r k := by
  unfold dropK
  rw [List.filter_cons, if_neg (by simp [e])]
theorem dropK_neg {p : κ × V} {r : List (κ × V)} {k : κ} (e : ¬ p.1 = k) : dropK (p :: r) k = p :: dropK r k := by
  unfold dropK
  rw [List.filter_cons, if_pos (by simp [e])]
end
end L2

set_option Elab.async false
set_option linter.all false
set_option maxRecDepth 100000
set_option maxHeartbeats 4000000
namespace L2
open PySem PySem.Spec PyProof.Rows

/-! ### a comprehension's block -/
def closOf (cells : List (Str × Addr)) : List (Str × NameKind) → List (Str × Addr) → List (Str × Addr)
  | [], cs => cs
  | (n, k) :: r, cs => if k = NameKind.free then (match cells.lookup n with | some a => closOf cells r ((n, a) :: cs) | none => closOf cells r cs) else closOf cells r cs
theorem closOf_pure {env : Env} : ∀ (names : List (Str × NameKind)) (cs : List (Str × Addr)), (∀ y ∈ names, y.2 = NameKind.free → ∃ c, env.cells.lookup y.1 = some c) →
    (forIn names cs fun (x : Str × NameKind) r => match x with
      | (name, kind) => if (kind == NameKind.free) = true then do let a ← cellOf env name; pure (ForInStep.yield ((name, a) :: r)) else pure (ForInStep.yield r)) = (pure (closOf env.cells names cs) : Sem (List (Str × Addr)))
  | [], cs, _ => rfl
  | (n, k) :: r, cs, h => by
    have ih := fun cs' => closOf_pure (env := env) r cs' fun y hy => h y (List.mem_cons_of_mem _ hy)
    rw [List.forIn_cons]
    by_cases hk : k = NameKind.free
    · obtain ⟨c, hc⟩ := h (n, k) List.mem_cons_self hk
      have hc' : env.cells.lookup n = some c := hc
      have hcell : cellOf env n = pure c := by unfold cellOf; rw [hc']
      have e1 : closOf env.cells ((n, k) :: r) cs = closOf env.cells r ((n, c) :: cs) := by
        rw [closOf, if_pos hk, hc']
      rw [e1, ← ih ((n, c) :: cs)]
      subst hk
      dsimp only
      rw [hcell]
      rfl
    · have hb : (k == NameKind.free) = false := by simpa using hk
      have e1 : closOf env.cells ((n, k) :: r) cs = closOf env.cells r cs := by
        rw [closOf, if_neg hk]
      rw [e1, ← ih cs]
      dsimp only
      rw [hb]
      rfl
theorem closure_is {scope : Scope} {env : Env} (h : ∀ y ∈ scope.names, y.2 = NameKind.free → ∃ c, env.cells.lookup y.1 = some c) : closureFor scope env = pure (closOf env.cells scope.names []) := by
  have e := closOf_pure (env := env) scope.names [] h
  unfold closureFor
  exact (congrArg (fun t : Sem (List (Str × Addr)) => t >>= fun s => pure s) e).trans rfl
theorem closOf_sound {cells : List (Str × Addr)} : ∀ (names : List (Str × NameKind)) (cs : List (Str × Addr)), (∀ x c, cs.lookup x = some c → cells.lookup x = some c) → ∀ x c, (closOf cells names cs).lookup x = some c → cells.lookup x = some c
  | [], cs, h, x, c, e => h x c e
  | (n, k) :: r, cs, h, x, c, e => by
    by_cases hk : k = NameKind.free
    · cases q : cells.lookup n with
      | none =>
        rw [closOf, if_pos hk, q] at e
        exact closOf_sound r cs h x c e
      | some a =>
        rw [closOf, if_pos hk, q] at e
        refine closOf_sound r _ (fun y d z => ?_) x c e
        rw [List.lookup_cons] at z
        by_cases hy : (y == n) = true
        · rw [hy] at z
          have hy' : y = n := by simpa using hy
          subst hy'
          exact q.trans z
        · have hy' : (y == n) = false := by simpa using hy
          rw [hy'] at z
          exact h y d z
    · rw [closOf, if_neg hk] at e
      exact closOf_sound r cs h x c e
theorem closOf_keep {cells : List (Str × Addr)} : ∀ (names : List (Str × NameKind)) (cs : List (Str × Addr)) (x : Str), (cs.lookup x).isSome = true → ((closOf cells names cs).lookup x).isSome = true
  | [], cs, x, h => h
  | (n, k) :: r, cs, x, h => by
    by_cases hk : k = NameKind.free
    · cases q : cells.lookup n with
      | none => rw [closOf, if_pos hk, q]; exact closOf_keep r cs x h
      | some a =>
        rw [closOf, if_pos hk, q]
        refine closOf_keep r _ x ?_
        rw [List.lookup_cons]
        cases hy : x == n with
        | true => rfl
        | false => exact h
    · rw [closOf, if_neg hk]; exact closOf_keep r cs x h
theorem closOf_has {cells : List (Str × Addr)} : ∀ (names : List (Str × NameKind)) (cs : List (Str × Addr)) (x : Str), (x, NameKind.free) ∈ names → (cells.lookup x).isSome = true → ((closOf cells names cs).lookup x).isSome = true
  | [], cs, x, h, _ => by simp at h
  | (n, k) :: r, cs, x, h, hc => by
    rcases List.mem_cons.mp h with e | e
    · cases e
      obtain ⟨c, hc'⟩ := Option.isSome_iff_exists.mp hc
      rw [closOf, if_pos rfl, hc']
      refine closOf_keep r _ _ ?_
      rw [List.lookup_cons, beq_self_eq_true]
      rfl
    · by_cases hk : k = NameKind.free
      · cases q : cells.lookup n with
        | none => rw [closOf, if_pos hk, q]; exact closOf_has r cs x e hc
        | some a => rw [closOf, if_pos hk, q]; exact closOf_has r _ x e hc
      · rw [closOf, if_neg hk]; exact closOf_has r cs x e hc
theorem lookup_mem {α : Type} : ∀ {l : List (Str × α)} {x : Str} {a : α}, l.lookup x = some a → (x, a) ∈ l
  | [], x, a, h => by simp at h
  | (n, k) :: r, x, a, h => by
    rw [List.lookup_cons] at h
    cases hx : x == n with
    | true =>
      rw [hx] at h
      have e : x = n := by simpa using hx
      subst e
      cases h
      exact List.mem_cons_self
    | false =>
      rw [hx] at h
      exact List.mem_cons_of_mem _ (lookup_mem h)
/-- a name's kind within the block, from its kind in the comprehension's own table -/
theorem relabel_kind {env : Env} : ∀ (names : List (Str × NameKind)) (x : Str) (k : NameKind),
    (names.map fun (p : Str × NameKind) => match p with | (n, k) => if (k == NameKind.free && env.scope.kind == .function && env.kindOf n == some .cell) then (n, NameKind.cell) else (n, k)).lookup x = some k →
      names.lookup x = some k ∨ (k = .cell ∧ names.lookup x = some .free)
  | [], x, k, h => by simp at h
  | (n, k₀) :: r, x, k, h => by
    rw [List.map_cons] at h
    dsimp only at h
    cases hx : x == n with
    | true =>
      rw [List.lookup_cons, hx]
      by_cases hc : (k₀ == NameKind.free && env.scope.kind == .function && env.kindOf n == some .cell) = true
      · rw [if_pos hc, List.lookup_cons, hx] at h
        cases h
        have : k₀ = .free := by
          simp only [Bool.and_eq_true] at hc
          simpa using hc.1.1
        subst this
        exact .inr ⟨rfl, rfl⟩
      · rw [if_neg hc, List.lookup_cons, hx] at h
        exact .inl h
    | false =>
      rw [List.lookup_cons, hx]
      by_cases hc : (k₀ == NameKind.free && env.scope.kind == .function && env.kindOf n == some .cell) = true
      · rw [if_pos hc, List.lookup_cons, hx] at h
        exact relabel_kind r x k h
      · rw [if_neg hc, List.lookup_cons, hx] at h
        exact relabel_kind r x k h
theorem relabel_free {env : Env} : ∀ (names : List (Str × NameKind)) (x : Str), names.lookup x = some .free →
    (names.map fun (p : Str × NameKind) => match p with | (n, k) => if (k == NameKind.free && env.scope.kind == .function && env.kindOf n == some .cell) then (n, NameKind.cell) else (n, k)).lookup x = some .free ∨
    (names.map fun (p : Str × NameKind) => match p with | (n, k) => if (k == NameKind.free && env.scope.kind == .function && env.kindOf n == some .cell) then (n, NameKind.cell) else (n, k)).lookup x = some .cell
  | [], x, h => by simp at h
  | (n, k₀) :: r, x, h => by
    rw [List.map_cons]
    dsimp only
    cases hx : x == n with
    | true =>
      rw [List.lookup_cons, hx] at h
      cases h
      by_cases hc : (NameKind.free == NameKind.free && env.scope.kind == .function && env.kindOf n == some .cell) = true
      · rw [if_pos hc, List.lookup_cons, hx]
        exact .inr rfl
      · rw [if_neg hc, List.lookup_cons, hx]
        exact .inl rfl
    | false =>
      rw [List.lookup_cons, hx] at h
      by_cases hc : (k₀ == NameKind.free && env.scope.kind == .function && env.kindOf n == some .cell) = true
      · rw [if_pos hc, List.lookup_cons, hx]
        exact relabel_free r x h
      · rw [if_neg hc, List.lookup_cons, hx]
        exact relabel_free r x h

def hideN (x y : Str) : Str := if y = x then Str.empty else y
/-- the context of a comprehension's block: its own name in the first slot, then those of the def (M: the def's names, the block's own one hidden) -/
abbrev blk (X : Cx) (x : Str) (scope : Scope) (M : List Str) (C : Addr) (s₀ : Shared) (H₀ : Hp) (fp : List Addr) : Cx :=
  { X with N := x :: M, s₀ := s₀, H₀ := H₀, env := compEnvC scope (closOf X.env.cells scope.names []) C X.env, outer := X.stack, stack := X.stack, ex := fp, fn := fun _ => false, pn := [], xe := fun _ _ => False }

/-- what is asked of a comprehension's table: sc is the def's own one -/
structure CompOk (N M : List Str) (sc : Scope) (x : Str) (scope : Scope) : Prop where
  kind : scope.kind = .function
  cell : ∀ y ∈ scope.names, y.2 ≠ .cell
  names : ∀ y ∈ scope.names, y.2 = .local → scope.names.lookup y.1 = some .local
  own : scope.names.lookup x = some .local
  free : ∀ y ∈ scope.names, y.2 = .free → sc.names.lookup y.1 = some .cell ∨ sc.names.lookup y.1 = some .free
  hid : N.map (hideN x) = M
  nd : (x :: M).Nodup
  others : ∀ y ∈ M, scope.names.lookup y ≠ some .local
  void : scope.names.lookup Str.empty = none

def tComp (wi : TI) (tt : TT) (te : TE) : TE := fun σ H Q => wi σ H fun J H1 => ∀ D, H1 D = none → ∃ W : Nat → Nat → List V → Hp → Prop, (∃ m, W 0 m [] (upd H1 D (.lst []))) ∧ ∀ i m ys H2, W i m ys H2 →
  (J.stop i H2 ∧ H2 D = some (.lst ys) ∧ Q (.ref D) H2) ∨ (J.go i H2 ∧ ys.length < sizeLine ∧ ∀ x H3, J.yld i H2 x H3 → tt (some x :: σ) H3 fun b H4 =>
    if b = true then te (some x :: σ) H4 fun y H5 => H5 D = some (.lst ys) ∧ ∃ m', m' < m ∧ W (i + 1) m' (ys ++ [y]) (upd H5 D (.lst (ys ++ [y]))) else ∃ m', m' < m ∧ W (i + 1) m' ys H4)
def tYes : TT := fun _ H Q => Q true H

section
variable {prog : Program} {w : World} {A : Around} {R : Result → Shared → Prop} {s : Shared}
theorem compLoop_go {elt target iter : Expr} {ifs : List Expr} {scope : Scope} {pos : Pos} {it acc : Value} {env : Env} (Jv : Nat → Shared → Prop)
    (turn : ∀ n s, Jv n s → wpAny (model prog w) A (pyNext it) (fun r s₁ => match r with
      | none => R (.ok .next) s₁
      | some v => wpAny (model prog w) A (letOwnedTupleGo target it v) (fun _ s₀ => wpAny (model prog w) A (assign target env v) (fun _ s₂ =>
          wpAny (model prog w) A (forIn ifs true fun c r => if r = true then do let ok ← isTrue c env (eval c env); pure (ForInStep.yield ok) else pure (ForInStep.yield r)) (fun ok s₃ =>
            if ok = true then wpAny (model prog w) A (eval elt env) (fun x s₄ => wpAny (model prog w) A (call (.builtin "list.append") [acc, x]) (fun _ s₅ => ∃ m, m < n ∧ Jv m s₅) (fun _ _ => False) s₄) (fun _ _ => False) s₃
            else ∃ m, m < n ∧ Jv m s₃) (fun _ _ => False) s₂) (fun _ _ => False) s₀) (fun _ _ => False) s₁) (fun _ _ => False) s)
    (n : Nat) (h : Jv n s) : codeAny (model prog w) A (.compLoop (.ListComp elt [⟨target, iter, ifs, 0⟩] scope pos) 0 it acc env) R s := by
  have no : ∀ {α : Type} {t : Sem α} {Q : α → Shared → Prop} {E : Value → Shared → Prop} {s' : Shared}, wpAny (model prog w) A t Q (fun _ _ => False) s' → wpAny (model prog w) A t Q E s' := fun h => wpAny_mono h (fun _ _ q => q) fun _ _ f => f.elim
  refine codeAny_loop rfl Jv (fun n s hI => ?_) n h
  refine wpAny_noted (env := env) ?_
  rw [compTurn_list]
  refine wpAny_bind (wpAny_standAt (wpAny_bind (thn (no (turn n s hI)) fun r s₁ h₁ => ?_)))
  cases r with
  | none => exact wpAny_pure h₁
  | some v =>
    refine wpAny_bind (thn (no h₁) fun _ s₀ h₀ => wpAny_bind (thn (no h₀) fun _ s₂ h₂ => wpAny_bind (thn (no h₂) fun ok s₃ h₃ => ?_)))
    cases ok with
    | false => exact wpAny_pure ⟨rfl, h₃⟩
    | true => exact wpAny_bind (wpAny_bind (thn (no h₃) fun x s₄ h₄ => wpAny_bind (thn (no h₄) fun _ s₅ h₅ => wpAny_pure (wpAny_pure ⟨rfl, h₅⟩))))
end

section
variable {X : Cx} {pins : List (Addr × Obj)} {σ : St} {H2 : Hp} {s2 : Shared} {E : Value → Shared → Prop}
theorem blk_ok {N M : List Str} {sc scope : Scope} {x : Str} {C : Addr} {H : Hp} {s : Shared} {fp : List Addr} (I : Inv X pins σ H s) (hsc : X.env.scope = sc) (O : CompOk N M sc x scope) (hC : s.heap.objs.size ≤ C)
    (hf : ∀ b ∈ fp, FpOk X pins H b) (hlt : ∀ b ∈ fp, b < s.heap.objs.size) : (blk X x scope M C s H fp).Ok where
  mod := I.ok.mod
  kind := O.kind
  glob := I.ok.glob
  blt := I.ok.blt
  above := hC
  inj := fun y z c e1 e2 => I.ok.inj y z c (closOf_sound _ _ (fun _ _ z => by simp at z) _ _ e1) (closOf_sound _ _ (fun _ _ z => by simp at z) _ _ e2)
  has := fun y hy => by
    have q : scope.names.lookup y = some .free := by
      rcases hy with hy | hy
      · rcases relabel_kind _ _ _ hy with z | ⟨_, z⟩
        · exact absurd rfl (O.cell _ (lookup_mem z))
        · exact z
      · rcases relabel_kind _ _ _ hy with z | ⟨z, _⟩
        · exact z
        · cases z
    have q2 := O.free _ (lookup_mem q) rfl
    rw [← hsc] at q2
    obtain ⟨c, hc⟩ := I.ok.has y q2
    exact Option.isSome_iff_exists.mp (closOf_has _ _ _ (lookup_mem q) (by rw [hc]; rfl))
  cab := fun y c h => by cases h
  hd := I.ok.hd
  frames := I.ok.frames
  stk := .inl rfl
  exf := fun b hb => ⟨Nat.ne_of_lt (Nat.lt_of_lt_of_le (hlt b hb) hC), fun y c e => (hf b hb).2.2.2.2.1 y c (closOf_sound _ _ (fun _ _ z => by simp at z) _ _ e)⟩
  bs := I.bs
  bsz := Nat.le_trans I.ok.bsz I.sz
  noex := fun b o e hb => by
    rcases (hf b hb).2.2.2.1 with z | z
    · exact I.ok.noex b o e z
    · exact absurd (Nat.lt_of_lt_of_le (Heap.lt_size (I.ok.bs b o e).1) z) (Nat.lt_irrefl _)
  exfs := fun b hb z => by
    obtain ⟨_, f1, f2, _⟩ := hf b hb
    exact (List.mem_cons.mp (I.stkSub b z)).elim f1 f2
  funs := I.stack
  frf := I.stkFree

theorem blk_inv {N M : List Str} {sc scope : Scope} {x : Str} {H : Hp} {s : Shared} {fp : List Addr} {h' : Heap} {tk : Nat} (I : Inv X pins σ H s) (hX : X.N = N) (hsc : X.env.scope = sc) (O : CompOk N M sc x scope)
    (hf : ∀ b ∈ fp, FpOk X pins H b) (hlt : ∀ b ∈ fp, b < s.heap.objs.size) {m : Str → Option Value} (hns : h'.Ns s.heap.objs.size m) (k : ∀ b u, s.heap.get? b = some u → h'.get? b = some u) :
    Inv (blk X x scope M s.heap.objs.size s H fp) [] (none :: σ) H { s with heap := h', toks := tk } where
  ok := blk_ok I hsc O (Nat.le_refl _) hf hlt
  os := rfl
  bare := I.bare
  base := Un.kept k
  loc := by
    refine ⟨m, hns, fun i y v e1 e2 e3 => ?_⟩
    cases i with
    | zero => simp at e2
    | succ i =>
      have e1' : M[i]? = some y := by simpa using e1
      have e2' : σ[i]? = some (some v) := by simpa using e2
      have hyM : y ∈ M := List.mem_of_getElem? e1'
      have hfree : scope.names.lookup y = some .free := by
        rcases e3 with e3 | e3 | e3
        · rcases relabel_kind _ _ _ e3 with z | ⟨z, _⟩
          · exact absurd z (O.others y hyM)
          · cases z
        · rcases relabel_kind _ _ _ e3 with z | ⟨_, z⟩
          · exact absurd rfl (O.cell _ (lookup_mem z))
          · exact z
        · rcases relabel_kind _ _ _ e3 with z | ⟨z, _⟩
          · exact z
          · cases z
      have hN : X.N[i]? = some y := by
        rw [hX]
        rw [← O.hid, List.getElem?_map] at e1'
        cases q : N[i]? with
        | none => rw [q] at e1'; cases e1'
        | some z =>
          rw [q] at e1'
          have e4 : hideN x z = y := Option.some.inj e1'
          unfold hideN at e4
          by_cases hz : z = x
          · rw [if_pos hz] at e4
            rw [← e4, O.void] at hfree
            cases hfree
          · rw [if_neg hz] at e4
            rw [e4]
      have q2 := O.free _ (lookup_mem hfree) rfl
      rw [← hsc] at q2
      have hvis : Vis X.env.scope y := q2.elim (fun z => .inr (.inl z)) fun z => .inr (.inr z)
      obtain ⟨m0, hn0, hl⟩ := I.loc
      obtain ⟨u, r, l⟩ := hl i y v hN e2' hvis
      refine ⟨u, r, ?_⟩
      rcases l with ⟨l, _⟩ | ⟨l, c, hc, z⟩
      · exfalso
        have l' : X.env.scope.names.lookup y = some .local := l
        rcases q2 with q2 | q2
        · have q2' : X.env.scope.names.lookup y = some .cell := q2
          rw [l'] at q2'; cases q2'
        · have q2' : X.env.scope.names.lookup y = some .free := q2
          rw [l'] at q2'; cases q2'
      · have hsome := closOf_has scope.names [] y (lookup_mem hfree) (cells := X.env.cells) (by rw [hc]; rfl)
        obtain ⟨c', hc'⟩ := Option.isSome_iff_exists.mp hsome
        have e5 := closOf_sound _ _ (fun _ _ z => by simp at z) _ _ hc'
        rw [hc] at e5
        cases e5
        obtain ⟨o, ho, hd⟩ := z
        refine .inr ⟨?_, c, hc', o, k c o ho, hd⟩
        rcases relabel_free (env := X.env) _ _ hfree with z | z
        · exact .inr z
        · exact .inl z
  cell := fun y c e => by
    obtain ⟨v, o, ho, hd⟩ := I.cell y c (closOf_sound _ _ (fun _ _ z => by simp at z) _ _ e)
    exact ⟨v, o, k c o ho, hd⟩
  free := I.hok.fresh (Nat.le_refl _)
  freeC := fun y c e => I.freeC y c (closOf_sound _ _ (fun _ _ z => by simp at z) _ _ e)
  pin := fun p hp => by simp at hp
  hok := I.hok.kept k
  len := by
    have e : N.length = M.length := by rw [← O.hid, List.length_map]
    simp only [List.length_cons]
    rw [I.len, hX, e]

variable {elt iter : Expr} {ifs : List Expr} {x : Str} {px pos : Pos} {N M : List Str} {sc scope : Scope} {tt : TT} {te : TE} {it : Addr} {fp : List Addr} {tn : Nat → Heap → Prop} {J : It}
theorem comp_block (hcalm : X.calm = true) (hX : X.N = N) (hsc : X.env.scope = sc) (O : CompOk N M sc x scope)
    (hts : ∀ (C : Addr) (s₀ : Shared) (H₀ : Hp) (fp : List Addr) (pins : List (Addr × Obj)) (s : Shared) (σ : St) (H : Hp) (Q : Bool → Hp → Prop), Inv (blk X x scope M C s₀ H₀ fp) pins σ H s → tt σ H Q →
      wpAny (model X.prog X.w) X.A (forIn ifs true fun c r => if r = true then do let ok ← isTrue c (blk X x scope M C s₀ H₀ fp).env (eval c (blk X x scope M C s₀ H₀ fp).env); pure (ForInStep.yield ok) else pure (ForInStep.yield r)) (TP (blk X x scope M C s₀ H₀ fp) pins σ Q) (fun _ _ => False) s)
    (hel : ∀ (C : Addr) (s₀ : Shared) (H₀ : Hp) (fp : List Addr), PE (blk X x scope M C s₀ H₀ fp) elt te)
    (I2 : Inv X pins σ H2 s2) (T : Turn X.prog X.w X.K (.Name x px) J fp it tn) (st2 : tn 0 s2.heap) (f2 : ∀ b ∈ fp, FpOk X pins H2 b) {Qd : Addr → Hp → Prop}
    (q : ∀ D, H2 D = none → ∃ W : Nat → Nat → List V → Hp → Prop, (∃ m, W 0 m [] (upd H2 D (.lst []))) ∧ ∀ i m ys H3, W i m ys H3 →
      (J.stop i H3 ∧ H3 D = some (.lst ys) ∧ Qd D H3) ∨ (J.go i H3 ∧ ys.length < sizeLine ∧ ∀ x H4, J.yld i H3 x H4 → tt (some x :: σ) H4 fun b H5 =>
        if b = true then te (some x :: σ) H5 fun y H6 => H6 D = some (.lst ys) ∧ ∃ m', m' < m ∧ W (i + 1) m' (ys ++ [y]) (upd H6 D (.lst (ys ++ [y]))) else ∃ m', m' < m ∧ W (i + 1) m' ys H5))
    {RR : Value → Addr → Result → Shared → Prop} (hRR : ∀ D C H' s', Inv X pins σ H' s' → FpOk X pins H' C → (∃ m, s'.heap.Ns C m) → Qd D H' → RR (.ref D) C (.ok .next) s') :
    wpAny (model X.prog X.w) X.A (newList []) (fun acc s₃ => wpAny (model X.prog X.w) X.A (newFunctionEnv scope X.env.globals (closOf X.env.cells scope.names []) [] X.env.qual none .none (some X.env)) (fun cenv s₄ =>
      codeAny (model X.prog X.w) X.A (.compStart (.ListComp elt [⟨.Name x px, iter, ifs, 0⟩] scope pos) 0 (.ref it) acc { cenv with scope := relabel scope X.env }) (RR acc cenv.locals) s₄) E s₃) E s2 := by
  have hlt2 : ∀ b ∈ fp, b < s2.heap.objs.size := fun b hb => let ⟨o, e, _⟩ := T.obj _ _ st2 b hb; Heap.lt_size e
  have nD : H2 s2.heap.objs.size = none := I2.hok.fresh (Nat.le_refl _)
  obtain ⟨W, ⟨m0, w0⟩, turn⟩ := q s2.heap.objs.size nD
  have I3 := I2.lnew (its := []) (ys := []) (t' := s2.toks) .nil (Nat.zero_le _)
  refine wpAny_newObj_type (wpAny_newFunctionEnv O.cell (by intro y hy; simp at hy) (fun h₁ hns₁ hsb₁ => ?_) O.kind)
  dsimp only at hns₁ hsb₁ ⊢
  generalize hs3 : ({ s2 with heap := s2.heap.push { cls := .type "list", data := .seq ([] : List Value).toArray }, toks := s2.toks } : Shared) = s3 at I3
  have eh : s3.heap = s2.heap.push { cls := .type "list", data := .seq ([] : List Value).toArray } := by rw [← hs3]
  have es : s3 = { s2 with heap := s2.heap.push { cls := .type "list", data := .seq ([] : List Value).toArray } } := hs3.symm
  have k1 : ∀ b u, s3.heap.get? b = some u → h₁.get? b = some u := fun b u e => by
    refine hsb₁.extBut b u ?_ (Heap.get?_push_of_some _ (by rw [← eh]; exact e))
    rw [← eh]
    exact Nat.ne_of_lt (Heap.lt_size e)
  have f3 : ∀ b ∈ fp, FpOk X pins (upd H2 s2.heap.objs.size (.lst [])) b := fun b hb => ⟨by rw [upd_ne (Nat.ne_of_lt (hlt2 b hb))]; exact (f2 b hb).1, (f2 b hb).2⟩
  have hlt3 : ∀ b ∈ fp, b < s3.heap.objs.size := fun b hb => by
    rw [eh, Heap.size_push]
    exact Nat.lt_succ_of_lt (hlt2 b hb)
  have st3 : tn 0 h₁ := T.keep _ _ _ st2 fun b hb o e => k1 b o (by rw [eh]; exact Heap.get?_push_of_some _ e)
  have hns3 : h₁.Ns s3.heap.objs.size (fun x => ([] : List (Str × Value)).reverse.lookup x) := by rw [eh]; exact hns₁
  have IB := blk_inv (tk := s2.toks) I3 hX hsc O f3 hlt3 hns3 k1
  have eC : s3.heap.objs.size = (s2.heap.push { cls := .type "list", data := .seq ([] : List Value).toArray }).objs.size := by rw [eh]
  have stat : ∀ {H' : Hp}, (∀ b ∈ fp, H' b = none) → ∀ b ∈ fp, FpOk (blk X x scope M s3.heap.objs.size s3 (upd H2 s2.heap.objs.size (.lst [])) fp) [] H' b := fun hn b hb => by
    obtain ⟨g0, g1, g2, g3, g4, g5⟩ := f3 b hb
    exact ⟨hn b hb, Nat.ne_of_lt (hlt3 b hb), fun z => (List.mem_cons.mp (I3.stkSub b z)).elim g1 g2, .inl hb, fun y c e => g4 y c (closOf_sound _ _ (fun _ _ z => by simp at z) _ _ e), fun p hp => by simp at hp⟩
  have loop : ∀ s4 : Shared, s4 = { s3 with heap := h₁, toks := s2.toks } →
      codeAny (model X.prog X.w) X.A (.compLoop (.ListComp elt [⟨.Name x px, iter, ifs, 0⟩] scope pos) 0 (.ref it) (.ref s2.heap.objs.size) (compEnvC scope (closOf X.env.cells scope.names []) s3.heap.objs.size X.env))
        (RR (.ref s2.heap.objs.size) s3.heap.objs.size) s4 := by
    rintro s4 rfl
    refine compLoop_go (fun n s' => ∃ i ys o H', Inv (blk X x scope M s3.heap.objs.size s3 (upd H2 s2.heap.objs.size (.lst [])) fp) [] (o :: σ) H' s' ∧ tn i s'.heap ∧ (∀ b ∈ fp, H' b = none) ∧ W i n ys H') ?_ m0
      ⟨0, [], none, _, IB, st3, fun b hb => (f3 b hb).1, w0⟩
    rintro n s5 ⟨i, ys, o, H5, I5, st5, fr5, w5⟩
    rcases turn i n ys H5 w5 with ⟨stop, hD, qd⟩ | ⟨go, hz, step⟩
    · refine thn (T.done (blk X x scope M s3.heap.objs.size s3 (upd H2 s2.heap.objs.size (.lst [])) fp) rfl rfl rfl hcalm i [] s5 _ H5 _ I5 (stat fr5) st5 stop) fun r s6 ⟨hr, I6⟩ => ?_
      subst hr
      have IX := I3.call' I6.os I6.base I6.hok I6.bare fun b hb => let ⟨_, g1, _, g3, g4, g5⟩ := f3 b hb; ⟨g3, g1, g4, g5⟩
      obtain ⟨mm, hmm, _⟩ := I6.loc
      exact hRR _ _ H5 s6 IX (I3.fpOk (Nat.le_refl _) I6.free) ⟨mm, hmm⟩ qd
    · refine thn (T.item (blk X x scope M s3.heap.objs.size s3 (upd H2 s2.heap.objs.size (.lst [])) fp) rfl rfl rfl hcalm i [] s5 _ H5 _ I5 (stat fr5) st5 go) fun r s6 ⟨u, hr, h6⟩ => ?_
      subst hr
      refine thn h6 fun _ s7 ⟨y, H7, I7, r7, y7, st7, fr7⟩ => ?_
      have I7' := I7.pinned (stat fr7) (T.obj _ _ st7)
      refine wpAny_assign_Name (store_ok (i := 0) I7' O.nd rfl (.inl (lookup_relabel_local O.own)) r7 (fun s8 I8 => ?_) (.inr (lookup_relabel_local O.own)))
      have I8' : Inv (blk X x scope M s3.heap.objs.size s3 (upd H2 s2.heap.objs.size (.lst [])) fp) ([] ++ pinsAt fp s7.heap) (some y :: σ) H7 s8 := I8
      refine thn (hts _ _ _ _ _ s8 _ H7 _ I8' (step y H7 y7)) fun ok s9 ⟨H9, I9, q9⟩ => ?_
      have again : ∀ {ys' : List V} {H' : Hp} {s' : Shared} {m : Nat}, Inv (blk X x scope M s3.heap.objs.size s3 (upd H2 s2.heap.objs.size (.lst [])) fp) ([] ++ pinsAt fp s7.heap) (some y :: σ) H' s' → m < n → W (i + 1) m ys' H' →
          ∃ m, m < n ∧ ∃ i ys o H', Inv (blk X x scope M s3.heap.objs.size s3 (upd H2 s2.heap.objs.size (.lst [])) fp) [] (o :: σ) H' s' ∧ tn i s'.heap ∧ (∀ b ∈ fp, H' b = none) ∧ W i m ys H' := fun {ys' H' s' m} I' hm w' => by
        refine ⟨m, hm, i + 1, ys', some y, H', I'.unpinned, T.keep _ _ _ st7 fun b hb o e => (I'.pin (b, o) (List.mem_append_right _ (List.mem_append_right _ (mem_pinsAt hb e)))).1, fun b hb => ?_, w'⟩
        obtain ⟨o, e, d⟩ := T.obj _ _ st7 b hb
        exact (I'.pin (b, o) (List.mem_append_right _ (List.mem_append_right _ (mem_pinsAt hb e)))).2.1
      cases ok with
      | false =>
        obtain ⟨m', hm, w'⟩ := q9
        exact again I9 hm w'
      | true =>
        refine thn (hel _ _ _ _ _ s9 _ H9 _ I9 q9) fun u2 s10 ⟨y2, H10, I10, r10, hD, m', hm, w'⟩ => ?_
        refine thn (mt_append _ s10 _ H10 (.ref s2.heap.objs.size) [y2] (.ref s2.heap.objs.size) [u2] (fun _ H' => H' = upd H10 s2.heap.objs.size (.lst (ys ++ [y2]))) I10 rfl (.cons r10 .nil) ⟨_, ys, y2, rfl, rfl, hD, hz, rfl⟩) fun _ s11 ⟨_, H11, I11, _, e11⟩ => ?_
        subst e11
        exact again I11 hm w'
  have fin := codeAny_compStart_list (loop _ rfl) (T.self X.A 0 _ _ _ st3 (loop _ rfl))
  rw [es] at fin
  exact fin
end
end L2

set_option Elab.async false
set_option linter.all false
set_option maxRecDepth 100000
set_option maxHeartbeats 4000000
namespace L2
open PySem PySem.Spec PyProof.Rows

section
variable {X : Cx} {elt iter c : Expr} {ifs : List Expr} {x y : Str} {px py pos spos : Pos} {scope sc : Scope} {N M : List Str} {wi : TI} {tt : TT} {te : TE}
theorem ps_setcG {i : Nat} (hcalm : X.calm = true) (hX : X.N = N) (hsc : X.env.scope = sc) (O : CompOk N M sc x scope) (hi : PI X (.Name x px) iter wi)
    (hts : ∀ (C : Addr) (s₀ : Shared) (H₀ : Hp) (fp : List Addr) (pins : List (Addr × Obj)) (s : Shared) (σ : St) (H : Hp) (Q : Bool → Hp → Prop), Inv (blk X x scope M C s₀ H₀ fp) pins σ H s → tt σ H Q →
      wpAny (model X.prog X.w) X.A (forIn ifs true fun c r => if r = true then do let ok ← isTrue c (blk X x scope M C s₀ H₀ fp).env (eval c (blk X x scope M C s₀ H₀ fp).env); pure (ForInStep.yield ok) else pure (ForInStep.yield r)) (TP (blk X x scope M C s₀ H₀ fp) pins σ Q) (fun _ _ => False) s)
    (hel : ∀ (C : Addr) (s₀ : Shared) (H₀ : Hp) (fp : List Addr), PE (blk X x scope M C s₀ H₀ fp) elt te)
    (hNd : X.N.Nodup) (hiy : X.N[i]? = some y) (hy : X.env.scope.names.lookup y = some .local)
    (hsw : swapsWith (.ListComp elt [⟨.Name x px, iter, ifs, 0⟩] scope pos) (some (.Name y py)) spos.line X.env = pure true) (hs : ∀ x, foldedSetIterable iter X.env x = pure x := by intro _; rfl) :
    PS X (.Assign [.Name y py] (.ListComp elt [⟨.Name x px, iter, ifs, 0⟩] scope pos) spos) (tAsg (tComp wi tt te) (gName i)) := by
  intro pins s σ H D I h
  have hcl : closureFor scope X.env = pure (closOf X.env.cells scope.names []) := closure_is fun z hz hf => by
    have q := O.free z hz hf
    rw [← hsc] at q
    exact I.ok.has z.1 q
  have key : wpAny (model X.prog X.w) X.A (comprehension (.ListComp elt [⟨.Name x px, iter, ifs, 0⟩] scope pos) scope X.env (firstIterPos [⟨.Name x px, iter, ifs, 0⟩] pos) (newList []) false (eval iter X.env) (some (assign (.Name y py) X.env)))
      (fun _ s' => SP X pins D .next s') X.xe s := by
    refine wpAny_comprehension_free (use := some (assign (.Name y py) X.env)) (Q := fun _ s' => SP X pins D .next s') rfl hs hcl O.kind O.names (thn (hi pins s σ H _ I h) fun v s1 h1 => thn h1 fun itv s2 h2 => ?_)
    obtain ⟨it, fp, tn, J, H2, e, I2, T, st2, f2, q2⟩ := h2
    subst e
    refine comp_block (Qd := fun D0 H' => D.nx (σ.set i (some (.ref D0))) H') (RR := fun acc C => compPost (model X.prog X.w) X.A X.xe (some (assign (.Name y py) X.env)) (fun _ s' => SP X pins D .next s') acc C) hcalm hX hsc O hts hel I2 T st2 f2 (fun D0 hD => q2 D0 hD) ?_
    intro D0 C H' s' I' hC hm q'
    obtain ⟨m, hm⟩ := hm
    obtain ⟨c0, c1, c2, c3, c4, c5⟩ := hC
    show wpAny _ _ (assign (.Name y py) X.env (.ref D0)) _ _ s'
    refine wpAny_assign_Name (store_ok2 (v := .ref D0) I' hNd hiy (.inl hy) rfl (fun s'' I'' ⟨a, sb, ha⟩ => ?_) (.inr hy))
    have hCa : C ≠ a := by
      rcases ha with ha | ha
      · rw [ha]; exact c1
      · exact (c4 _ _ ha).symm
    exact ⟨m, hm.sameBut sb hCa, fun h' hs' => ⟨_, H', I''.turned (t' := s''.toks) (fun b o hb e => hs'.extBut b o hb e) c0 c1 c3 c4 c5, q'⟩⟩
  rw [exec_Assign_Name_used _ _ _ _ hsw]
  refine wpAny_bind (wpAny_standAt (wpAny_bind ?_))
  show wpAny _ _ (do let _ ← comprehension (.ListComp elt [⟨.Name x px, iter, ifs, 0⟩] scope pos) scope X.env (firstIterPos [⟨.Name x px, iter, ifs, 0⟩] pos) (newList []) false (eval iter X.env) (some (assign (.Name y py) X.env))) _ _ s
  exact wpAny_bind (wpAny_mono key (fun _ s' hq => wpAny_pure (wpAny_pure hq)) fun _ _ e => e)
/-- y = [elt for x in iter] -/
theorem ps_setc {i : Nat} (N M : List Str) (sc : Scope) (O : CompOk N M sc x scope) (hi : PI X (.Name x px) iter wi) (hel : ∀ (C : Addr) (s₀ : Shared) (H₀ : Hp) (fp : List Addr), PE (blk X x scope M C s₀ H₀ fp) elt te)
    (hNd : X.N.Nodup) (hiy : X.N[i]? = some y := by rfl) (hy : X.env.scope.names.lookup y = some .local := by rfl)
    (hsw : swapsWith (.ListComp elt [⟨.Name x px, iter, [], 0⟩] scope pos) (some (.Name y py)) spos.line X.env = pure true := by rfl)
    (hcalm : X.calm = true := by rfl) (hX : X.N = N := by rfl) (hsc : X.env.scope = sc := by rfl) (hs : ∀ x, foldedSetIterable iter X.env x = pure x := by intro _; rfl) :
    PS X (.Assign [.Name y py] (.ListComp elt [⟨.Name x px, iter, [], 0⟩] scope pos) spos) (tAsg (tComp wi tYes te) (gName i)) :=
  ps_setcG hcalm hX hsc O hi (fun C s₀ H₀ fp pins s σ H Q I h => wpAny_tests_nil ⟨H, I, h⟩) hel hNd hiy hy hsw hs
end

/-! ### the walk of a comprehension by its items -/
/-! ### texts as lists of codes -/
abbrev S (l : List Nat) : Str := ⟨l.toArray⟩
theorem S_of (z : Str) : z = S z.cps.toList := by cases z; simp [S]
theorem S_inj {a b : List Nat} (h : S a = S b) : a = b := by
  have h' : a.toArray = b.toArray := congrArg Str.cps h
  simpa using congrArg Array.toList h'
theorem S_len (l : List Nat) : (S l).length = l.length := by show l.toArray.size = l.length; simp
theorem S_app (a b : List Nat) : S a ++ S b = S (a ++ b) := by
  show (⟨a.toArray ++ b.toArray⟩ : Str) = ⟨(a ++ b).toArray⟩
  simp
def cutL (l : List Nat) (lo hi : Option Int) : List Nat := (l.drop (HT.sIx l.length 0 lo)).take (HT.sIx l.length l.length hi - HT.sIx l.length 0 lo)
theorem cutL_le (l : List Nat) (lo hi : Option Int) : (cutL l lo hi).length ≤ l.length := by
  unfold cutL
  rw [List.length_take, List.length_drop]
  omega
def clipI (d : Int) (n : Nat) : Option Int → Int
  | none => d
  | some i => max 0 (min (if i < 0 then i + (n : Int) else i) (n : Int))
theorem clipI_eq (d n : Nat) (o : Option Int) : clipI (d : Int) n o = ((HT.sIx n d o : Nat) : Int) := by
  cases o with
  | none => rfl
  | some i =>
    simp only [HT.sIx, clipI]
    by_cases h : i < 0
    · simp only [h, if_true] <;> omega
    · simp only [h, if_false] <;> omega
theorem sliceIdx_eq (lo hi : Option Int) (n : Nat) : Builtin.Str.strSliceIndices lo hi 1 n = (List.range (HT.sIx n n hi - HT.sIx n 0 lo)).map (HT.sIx n 0 lo + ·) := by
  have key : Builtin.Str.strSliceIndices lo hi 1 n = sliceRange (clipI ((0 : Nat) : Int) n lo) (clipI (n : Int) n hi) 1 := by
    unfold Builtin.Str.strSliceIndices
    cases lo <;> cases hi <;> simp [clipI]
  rw [key, clipI_eq, clipI_eq, sliceRange_one]
section
variable {X : Cx}
def rSlS : V → Option Int → Option Int → Hp → VK → Prop := fun x lo hi H Q => ∃ l, x = .str (S l) ∧ l.length ≤ sizeLine ∧ Q (.str (S (cutL l lo hi))) H
theorem part_of {v : Value} {o : Option Int} (p : IsPart v o) : ∃ l : Option (Int × Tok), v = partValue l ∧ l.map (·.1) = o := by
  cases p with
  | none => exact ⟨none, rfl, rfl⟩
  | int i t => exact ⟨some (i, t), rfl, rfl⟩
theorem sl_str : SlR X rSlS := by
  intro pins s σ H x v vl vu lo hi sl Q I rx hs pl pu h
  obtain ⟨l, rfl, hz, q⟩ := h
  obtain ⟨t, rfl⟩ := rx
  obtain ⟨a, rfl, rfl⟩ := part_of pl
  obtain ⟨b, rfl, rfl⟩ := part_of pu
  refine ⟨"str", _, F.slot_str_getitem.lookup, typeIs_str _ _ _, ?_⟩
  refine wpAny_getItem_str_slice (l := a) (u := b) (st := none) hs rfl ?_
  have ep : slicePicked (S l) a b none = (List.range (HT.sIx l.length l.length (b.map (·.1)) - HT.sIx l.length 0 (a.map (·.1)))).map (HT.sIx l.length 0 (a.map (·.1)) + ·) := by
    have e := sliceIdx_eq (a.map (·.1)) (b.map (·.1)) (S l).length
    rw [S_len] at e
    unfold slicePicked
    rw [S_len]
    exact e
  have ec : (slicePicked (S l) a b none).filterMap ((S l).cps[·]?) = cutL l (a.map (·.1)) (b.map (·.1)) := by
    rw [ep, pick_run]
    simp only [cutL]
  unfold sliceMade
  split
  · rename_i hc
    have hlen : (slicePicked (S l) a b none).length = l.length := by
      rw [Bool.and_eq_true] at hc
      have := hc.2
      rw [beq_iff_eq, S_len] at this
      exact this
    have e : cutL l (a.map (·.1)) (b.map (·.1)) = l := by
      rw [ep, List.length_map, List.length_range] at hlen
      have h1 := HT.sIx_le l.length l.length (Nat.le_refl _) (b.map (·.1))
      unfold cutL
      have h2 : HT.sIx l.length 0 (a.map (·.1)) = 0 := by
        by_cases hl : l.length = 0
        · have := HT.sIx_le l.length 0 (Nat.zero_le _) (a.map (·.1))
          omega
        · omega
      rw [hlen, h2, List.drop_zero, List.take_length]
    rw [e] at q
    exact ⟨.str (S l), H, I, ⟨t, rfl⟩, q⟩
  · refine ⟨?_, .str (S ((slicePicked (S l) a b none).filterMap ((S l).cps[·]?))), H, I.tok _, ⟨_, rfl⟩, ?_⟩
    · rw [ec]
      show (cutL l _ _).toArray.size ≤ sizeLine
      rw [List.size_toArray]
      exact Nat.le_trans (cutL_le _ _ _) hz
    · rw [ec]
      exact q
end

/-! ### the signs of a text, walked -/
def Its (z : Str) : It := ⟨fun i _ => i < z.cps.size, fun i H x H' => H' = H ∧ ∃ c, z.cps[i]? = some c ∧ x = .str ⟨#[c]⟩, fun i _ => z.cps.size ≤ i⟩
theorem walks_str {P : Program} {w : World} {A : Around} (hA : A.handled = none) (it : Addr) (z : Str) (t : Tok) : Walks P w A it [it] [it] z.cps.size (SignAt z) (fun i h => h.IsStrIter it (strIterType z) z t i) := by
  unfold strIterType
  split
  · exact Walks.strAscii hA it z t
  · exact Walks.strWide hA it z t
theorem strIter_plain (z : Str) : ["enumerate", "zip", "dict_itemiterator", "dict_reverseitemiterator", "odict_iterator", "itertools.zip_longest", "itertools.pairwise"].contains (strIterType z) = false := by
  unfold strIterType
  split <;> decide
theorem turn_str {P : Program} {w : World} {K : PySem.W.Frag} {tg : Expr} (it : Addr) (z : Str) (t : Tok) : Turn P w K tg (Its z) [it] it (fun i h => h.IsStrIter it (strIterType z) z t i) where
  mem := by simp
  obj := fun i h st b hb => by
    have e : b = it := by simpa using hb
    subst e
    obtain ⟨o, e, c, d⟩ := st
    exact ⟨o, e, fun v z => by rw [d] at z; cases z⟩
  keep := fun i h h' st k => let ⟨o, e, r⟩ := st; ⟨o, k it (by simp) o e, r⟩
  item := by
    intro X hP hw hK hc i pins s σ H E I hf st hg
    subst hP hw hK
    obtain ⟨f0, f1, f2, f3, f4, f5⟩ := hf it (by simp)
    refine (walks_str (I.ok.hd hc) it z t).item i s _ _ hg st fun v h' tk hv st' kk => ?_
    obtain ⟨c, u, hcz, rfl⟩ := hv
    have I1 : Inv X pins σ H { s with heap := h', toks := tk } := I.turned (fun b o hb e => kk b o (by simpa using hb) e) f0 f1 f3 f4 f5
    obtain ⟨o, e, ec, d⟩ := id st'
    exact ⟨_, rfl, go_of (s := { s with heap := h', toks := tk }) e ec d (strIter_plain z) ⟨.str ⟨#[c]⟩, H, I1, ⟨u, rfl⟩, ⟨rfl, c, hcz, rfl⟩, st', fun b hb => (hf b hb).1⟩⟩
  done := by
    intro X hP hw hK hc i pins s σ H E I hf st hg
    subst hP hw hK
    obtain ⟨f0, f1, f2, f3, f4, f5⟩ := hf it (by simp)
    have hg' : z.cps.size ≤ i := hg
    by_cases ha : z.cps.all (· < 128) = true
    · have st' : s.heap.IsStrIter it "str_ascii_iterator" z t i := by
        have e : strIterType z = "str_ascii_iterator" := by unfold strIterType; rw [if_pos ha]
        rw [← e]; exact st
      exact wpAny_pyNext_ascii_end (I.ok.hd hc) st' (by simpa using hg') fun h' eb => ⟨rfl, I.turned (t' := s.toks) (fun b o hb e => eb b o hb e) f0 f1 f3 f4 f5⟩
    · have st' : s.heap.IsStrIter it "str_iterator" z t i := by
        have e : strIterType z = "str_iterator" := by unfold strIterType; rw [if_neg ha]
        rw [← e]; exact st
      exact wpAny_pyNext_wide_end (I.ok.hd hc) st' (by simpa using hg') fun h' eb => ⟨rfl, I.turned (t' := s.toks) (fun b o hb e => eb b o hb e) f0 f1 f3 f4 f5⟩
  self := fun A i s Q E st h => by
    by_cases ha : z.cps.all (· < 128) = true
    · have e : strIterType z = "str_ascii_iterator" := by unfold strIterType; rw [if_pos ha]
      exact wpAny_pyIter_striter_ascii (by rw [← e]; exact st) h
    · have e : strIterType z = "str_iterator" := by unfold strIterType; rw [if_neg ha]
      exact wpAny_pyIter_striter_wide (by rw [← e]; exact st) h
section
variable {X : Cx} {tg : Expr}
def iStr (tl : TE) : TI := fun σ H R => tl σ H fun x H1 => ∃ z, x = .str z ∧ R (Its z) H1
end
end L2

set_option Elab.async false
set_option linter.all false
set_option maxRecDepth 100000
set_option maxHeartbeats 4000000
namespace L2
open PySem PySem.Spec PyProof.Rows

theorem hU {k : Nat} {A : Around} (hr : Room k A) : A.units + 64 < cLine := hr.units
theorem hU1 {k : Nat} {A : Around} (hr : Room k A) : A.units + 1 < cLine := hu_of hr

/-! ### module constants -/
def GConst (mg : Str → Option Value) (x : Str) (v : V) : Prop := ∃ u, mg x = some u ∧ RelV v u
/-! ### data: what a value is worth, down to its leaves -/
mutual
inductive Den (K : PySem.W.Frag) (H : Hp) : V → PyData → Prop
  | non : Den K H .non .none
  | bl (b : Bool) : Den K H (.bl b) (.bool b)
  | int (i : Int) : Den K H (.int i) (.int i)
  | str (x : Str) : Den K H (.str x) (.str x)
  | lst {a : Addr} {xs : List V} {ds : List PyData} : SqL K H a xs → DenAll K H xs ds → Den K H (.ref a) (.list ds)
  | tup {a : Addr} {xs : List V} {ds : List PyData} : SqT K H a xs → DenAll K H xs ds → Den K H (.ref a) (.tuple ds)
inductive DenAll (K : PySem.W.Frag) (H : Hp) : List V → List PyData → Prop
  | nil : DenAll K H [] []
  | cons {v : V} {d : PyData} {vs : List V} {ds : List PyData} : Den K H v d → DenAll K H vs ds → DenAll K H (v :: vs) (d :: ds)
end
mutual
theorem Den.reads {X : Cx} {pins : List (Addr × Obj)} {σ : St} {H : Hp} {s : Shared} (I : Inv X pins σ H s) : ∀ {v : V} {d : PyData} {u : Value}, Den X.K H v d → RelV v u → ∃ as, Reads s.heap u d as
  | _, _, _, .non, r => by cases (show _ = Value.none from r); exact ⟨_, .none⟩
  | _, _, _, .bl b, r => by cases (show _ = Value.bool b from r); exact ⟨_, .bool b⟩
  | _, _, _, .int i, r => by obtain ⟨t, rfl⟩ := r; exact ⟨_, .int i t⟩
  | _, _, _, .str x, r => by obtain ⟨t, rfl⟩ := r; exact ⟨_, .str x t⟩
  | _, _, _, .lst h hd, r => by
    cases (show _ = Value.ref _ from r)
    obtain ⟨its, rv, p, hz⟩ := I.list h
    obtain ⟨o, ho, hc, n, hdt⟩ := p.isList
    obtain ⟨as, ra⟩ := DenAll.reads I hd rv
    exact ⟨_, .list ho hc hdt (by simpa using ra)⟩
  | _, _, _, .tup h hd, r => by
    cases (show _ = Value.ref _ from r)
    obtain ⟨its, rv, p, hz⟩ := I.tuple h
    obtain ⟨o, ho, hc, n, hdt⟩ := p
    obtain ⟨as, ra⟩ := DenAll.reads I hd rv
    exact ⟨_, .tuple ho hc hdt (by simpa using ra)⟩
theorem DenAll.reads {X : Cx} {pins : List (Addr × Obj)} {σ : St} {H : Hp} {s : Shared} (I : Inv X pins σ H s) : ∀ {vs : List V} {ds : List PyData} {us : List Value}, DenAll X.K H vs ds → Vals vs us → ∃ as, ReadsAll s.heap us ds as
  | _, _, _, .nil, .nil => ⟨_, .nil⟩
  | _, _, _, .cons h t, .cons r rr => by
    obtain ⟨a, ha⟩ := Den.reads I h r
    obtain ⟨b, hb⟩ := DenAll.reads I t rr
    exact ⟨_, .cons ha hb⟩
end
def isRef : V → Bool
  | .ref _ => true
  | _ => false
def rEqD (K : PySem.W.Frag) (neg : Bool) : R2 := fun x y H Q => (isRef x || isRef y) = true ∧ ∃ d e, Den K H x d ∧ Den K H y e ∧ SeqAt.shaped d = true ∧ SeqAt.shaped e = true ∧ Q (.bl (if neg then !PyData.eqv d e else PyData.eqv d e)) H
section
variable {X : Cx}
theorem op_eqD (hu : X.A.units + 64 < cLine) : OpR X (compareOp .Eq) (rEqD X.K false) := by
  intro pins s σ H x y v u Q I rx ry h
  obtain ⟨_, d, e, hd, he, sd, se, q⟩ := h
  obtain ⟨as, ra⟩ := hd.reads I rx
  obtain ⟨bs, rb⟩ := he.reads I ry
  exact eq_dataH ra rb sd se hu ⟨.bl (PyData.eqv d e), H, I, rfl, q⟩
theorem op_neD (hu : X.A.units + 64 < cLine) : OpR X (compareOp .NotEq) (rEqD X.K true) := by
  intro pins s σ H x y v u Q I rx ry h
  obtain ⟨_, d, e, hd, he, sd, se, q⟩ := h
  obtain ⟨as, ra⟩ := hd.reads I rx
  obtain ⟨bs, rb⟩ := he.reads I ry
  exact ne_dataH ra rb sd se hu ⟨.bl (!PyData.eqv d e), H, I, rfl, q⟩
theorem op_eqA (hu : X.A.units + 64 < cLine) : OpR X (compareOp .Eq) (fun x y H Q => rEq x y H Q ∨ rEqD X.K false x y H Q) := op_eq.or (op_eqD hu)
theorem op_neA (hu : X.A.units + 64 < cLine) : OpR X (compareOp .NotEq) (fun x y H Q => rNe x y H Q ∨ rEqD X.K true x y H Q) := op_ne.or (op_neD hu)

/-! ### < <= > >= of ints and of texts -/
def rStrs (p : List Nat → List Nat → Bool) : R2 := fun x y H Q => ∃ i j, x = .str i ∧ y = .str j ∧ Q (.bl (p i.cps.toList j.cps.toList)) H
theorem op_ltS : OpR X (compareOp .Lt) (rStrs fun a b => decide (a < b)) := by
  intro pins s σ H x y v u Q I rx ry h
  obtain ⟨i, j, rfl, rfl, q⟩ := h
  obtain ⟨t, rfl⟩ := rx
  obtain ⟨t', rfl⟩ := ry
  exact PySem.P.lt_str ⟨.bl (decide (i.cps.toList < j.cps.toList)), H, I, rfl, q⟩
theorem op_leS : OpR X (compareOp .LtE) (rStrs fun a b => !decide (b < a)) := by
  intro pins s σ H x y v u Q I rx ry h
  obtain ⟨i, j, rfl, rfl, q⟩ := h
  obtain ⟨t, rfl⟩ := rx
  obtain ⟨t', rfl⟩ := ry
  exact PySem.P.le_str ⟨.bl (!decide (j.cps.toList < i.cps.toList)), H, I, rfl, q⟩
theorem op_ltA : OpR X (compareOp .Lt) (fun x y H Q => rI0 (fun i j => .bl (decide (i < j))) x y H Q ∨ rStrs (fun a b => decide (a < b)) x y H Q) := op_lt.or op_ltS
theorem op_leA : OpR X (compareOp .LtE) (fun x y H Q => rI0 (fun i j => .bl (decide (i ≤ j))) x y H Q ∨ rStrs (fun a b => !decide (b < a)) x y H Q) := op_le.or op_leS
theorem op_gtA : OpR X (compareOp .Gt) (rI0 fun i j => .bl (decide (j < i))) := op_gt
theorem op_geA : OpR X (compareOp .GtE) (rI0 fun i j => .bl (decide (j ≤ i))) := op_ge

/-! ### + -/
def rCatS (K : PySem.W.Frag) : R2 := fun x y H Q => ∃ l b xs zs, x = .ref l ∧ y = .ref b ∧ SqL K H l xs ∧ SqL K H b zs ∧ xs.length + zs.length ≤ sizeLine ∧ ∀ p, H p = none → Q (.ref p) (upd H p (.lst (xs ++ zs)))
theorem op_catS : OpR X (binaryOp .Add) (rCatS X.K) := by
  intro pins s σ H x y v u Q I rx ry h
  obtain ⟨l, b, xs, zs, rfl, rfl, hH, hB, hz, q⟩ := h
  cases rx
  cases ry
  obtain ⟨its, r, p, z1⟩ := I.list hH
  obtain ⟨its2, r2, p2, z2⟩ := I.list hB
  have h1 := r.length
  have h2 := r2.length
  obtain ⟨⟨cl, dc, dt, sl⟩, ho, hc, n, hd⟩ := p.isList
  obtain ⟨⟨cl2, dc2, dt2, sl2⟩, ho2, hc2, n2, hd2⟩ := p2.isList
  simp only at hc hd hc2 hd2
  subst hc hd hc2 hd2
  refine concat_meets ⟨_, ho, rfl⟩ ⟨_, ho2, rfl⟩ PySem.noFill_list_add PySem.seq_list_add F.slot_list_add F.entry_list_add (F.args_list_add_2 _ _) (list_addW l b its.toArray its2.toArray n n2 dc dc2 sl sl2 (by rw [List.size_toArray, List.size_toArray]; omega)) ⟨ho, ho2, ?_⟩
  have ea : its.toArray ++ its2.toArray = (its ++ its2).toArray := by simp
  rw [ea]
  exact ⟨.ref _, _, I.lnew (t' := s.toks) (r.append r2) (by rw [List.length_append]; omega), rfl, q _ I.fresh⟩
def rCatT2 : R2 := fun x y H Q => ∃ i j, x = .str (S i) ∧ y = .str (S j) ∧ i.length + j.length ≤ sizeLine ∧ Q (.str (S (i ++ j))) H
theorem op_catT2 : OpR X (binaryOp .Add) rCatT2 := by
  intro pins s σ H x y v u Q I rx ry h
  obtain ⟨i, j, rfl, rfl, hz, q⟩ := h
  refine op_add_str pins s σ H _ _ v u Q I rx ry ⟨S i, S j, rfl, rfl, ?_, ?_⟩
  · rw [S_len, S_len]; exact hz
  · rw [S_app]; exact q
theorem op_plus : OpR X (binaryOp .Add) (fun x y H Q => rI0 (fun i j => .int (i + j)) x y H Q ∨ (rCatT2 x y H Q ∨ rCatS X.K x y H Q)) := op_add.or (op_catT2.or op_catS)
/-! ### len, isinstance -/
theorem call_lenT : CallR X (.builtin "len") (fun xs H Q => ∃ l, xs = [.str (S l)] ∧ l.length ≤ sizeLine ∧ Q (.int l.length) H) := by
  intro pins s σ H xs us Q I r h
  obtain ⟨l, rfl, hz, q⟩ := h
  refine call_len_str pins s σ H _ us Q I r ⟨S l, rfl, ?_, ?_⟩
  · rw [S_len]; exact hz
  · rw [S_len]; exact q
theorem call_lenA : CallR X (.builtin "len") (fun xs H Q => (∃ p ys, xs = [.ref p] ∧ (SqL X.K H p ys ∨ SqT X.K H p ys) ∧ Q (.int ys.length) H) ∨ ((∃ l, xs = [.str (S l)] ∧ l.length ≤ sizeLine ∧ Q (.int l.length) H) ∨ (∃ a kvs, xs = [V.ref a] ∧ H a = some (.dK kvs) ∧ Q (.int kvs.length) H))) :=
  call_len_seq.or (call_lenT.or call_lenD)
def rIsi (K : PySem.W.Frag) : List V → Hp → VK → Prop := fun xs H Q => (∃ x t n b, xs = [x, .ty n] ∧ TyOf K H x t ∧ PySem.W.kitOne K t (.type n) = some b ∧ Q (.bl b) H) ∨ (∃ x t C b, xs = [x, .ref C] ∧ TyOf K H x t ∧ PySem.W.kitOne K t (.ref C) = some b ∧ Q (.bl b) H)
theorem call_isinstanceA : CallR X (.builtin "isinstance") (rIsi X.K) := by
  intro pins s σ H xs us Q I r h
  rcases h with ⟨x, t, n, b, rfl, ty, e, q⟩ | ⟨x, t, n, b, rfl, ty, e, q⟩
  · obtain ⟨u, w, rfl, rx, rw'⟩ := vals2 r
    cases rw'
    exact isinst_ok I rx ty e fun tk => ⟨.bl b, H, I.tok tk, rfl, q⟩
  · obtain ⟨u, w, rfl, rx, rw'⟩ := vals2 r
    cases rw'
    exact isinst_ok I rx ty e fun tk => ⟨.bl b, H, I.tok tk, rfl, q⟩
/-! ### o[i] -/
theorem ix_dict (hu : X.A.units + 1 < cLine) : IxR X (fun x y H Q => ∃ a v, x = .ref a ∧ DGet H a y (some v) ∧ Q v H) := by
  intro value slice pins s σ H x y v u Q I rx ry h hs
  obtain ⟨a, z, rfl, g, q⟩ := h
  cases (show v = Value.ref a from rx)
  exact tail_any (dict_typeIs I g) PySem.F.slot_dict_getitem.lookup (d_getItem hu I g ry fun w' s3 I3 rw' => ⟨z, H, I3, rw', q⟩) hs
def rIxS2 : R2 := fun x y H Q => ∃ l i c, x = .str (S l) ∧ y = .int i ∧ l.length ≤ sizeLine ∧ atI l i = some c ∧ Q (.str (S [c])) H
theorem ix_str2 : IxR X rIxS2 := by
  intro value slice pins s σ H x y v u Q I rx ry h hs
  obtain ⟨l, i, c, rfl, rfl, hz, he, q⟩ := h
  exact ix_str value slice pins s σ H _ _ v u Q I rx ry ⟨S l, i, c, rfl, rfl, (by rw [S_len]; exact hz), (by simpa using he), q⟩ hs
def rIxA (K : PySem.W.Frag) : R2 := fun x y H Q => rIxL K x y H Q ∨ (rIxT K x y H Q ∨ (rIxS2 x y H Q ∨ (∃ a v, x = .ref a ∧ DGet H a y (some v) ∧ Q v H)))
theorem ix_any (hu : X.A.units + 1 < cLine) : IxR X (rIxA X.K) := ix_list.or (ix_tup.or (ix_str2.or (ix_dict hu)))
def rSlA (K : PySem.W.Frag) : V → Option Int → Option Int → Hp → VK → Prop := fun x lo hi H Q => rSlL K x lo hi H Q ∨ rSlS x lo hi H Q
theorem sl_any : SlR X (rSlA X.K) := sl_list.or sl_str
def rSetA : V → V → V → Hp → (Hp → Prop) → Prop := fun o i v H Q => rSetL o i v H Q ∨ ∃ a H', o = .ref a ∧ DPut H a i v H' ∧ Q H'
theorem set_any (hu : X.A.units + 1 < cLine) : PSet X rSetA := by
  intro pins s σ H o i v ov iv u Q I ro ri rv h
  rcases h with h | ⟨a, H', rfl, g, q⟩
  · exact set_list pins s σ H o i v ov iv u Q I ro ri rv h
  · cases (show ov = Value.ref a from ro)
    exact d_setItem hu I g ri rv fun s4 I4 => ⟨H', I4, q⟩

/-! ### in -/
theorem op_notInD (hu : X.A.units + 1 < cLine) : OpR X (compareOp .NotIn) (fun y x H Q => ∃ a o, x = .ref a ∧ DGet H a y o ∧ Q (.bl (!o.isSome)) H) := by
  intro pins s σ H y x v u Q I ry rx h
  obtain ⟨a, o, rfl, g, q⟩ := h
  cases (show u = Value.ref a from rx)
  exact d_notIn hu I g ry fun s3 I3 => ⟨.bl (!o.isSome), H, I3, rfl, q⟩
def occB (j i : Str) : Bool := !(Builtin.Str.occurrences j i 0 j.length 1).isEmpty
theorem op_notInA (hu : X.A.units + 1 < cLine) : OpR X (compareOp .NotIn) (fun x y H Q => rIn X.K true x y H Q ∨ ((∃ i j, x = .str i ∧ y = .str j ∧ Q (.bl (!occB j i)) H) ∨ (∃ a o, y = .ref a ∧ DGet H a x o ∧ Q (.bl (!o.isSome)) H))) :=
  op_notIn_seq.or (OpR.or (r := fun x y H Q => ∃ i j, x = .str i ∧ y = .str j ∧ Q (.bl (!occB j i)) H) op_notIn_str (op_notInD hu))

/-! ### sep.join(xs) -/
def joinL (sep : List Nat) : List (List Nat) → List Nat
  | [] => []
  | [x] => x
  | x :: rest => x ++ sep ++ joinL sep rest
def rJoin (K : PySem.W.Frag) : V → List V → Hp → VK → Prop := fun x vs H Q => ∃ sep p ls, x = .str (S sep) ∧ vs = [.ref p] ∧ SqL K H p (ls.map fun l => V.str (S l)) ∧ (ls.map List.length).sum + ls.length * sep.length ≤ 16777216 ∧ Q (.str (S (joinL sep ls))) H
/-! ### for x in (a list, a tuple, a text) -/
def iAny (K : PySem.W.Frag) (tl : TE) : TI := fun σ H R => tl σ H fun x H1 => (∃ a, x = .ref a ∧ (∃ xs, SqL K H1 a xs) ∧ R (Itl K a) H1) ∨ ((∃ a, x = .ref a ∧ (∃ xs, SqT K H1 a xs) ∧ R (Itt K a) H1) ∨ (∃ z, x = .str z ∧ R (Its z) H1))
theorem pi_any {tg l : Expr} {tl : TE} (hl : PE X l tl) : PI X tg l (iAny X.K tl) := by
  intro pins s σ H R I h
  refine thn (hl pins s σ H _ I h) fun v s1 ⟨x, H1, I1, r1, q1⟩ => ?_
  have aux : ∀ {e : Value} {t : TE} {R' : It → Hp → Prop}, True := fun {_ _ _} => trivial
  have fp : ∀ b, b ∈ [s1.heap.objs.size] → FpOk X pins H1 b := fun b hb => by
    have e : b = s1.heap.objs.size := by simpa using hb
    subst e
    exact I1.fpOk (Nat.le_refl _) (I1.hok.fresh (Nat.le_refl _))
  rcases q1 with ⟨a, e, ⟨xs, hq⟩, q⟩ | ⟨a, e, ⟨xs, hq⟩, q⟩ | ⟨z, e, q⟩
  · subst e
    cases r1
    obtain ⟨its, rv, p, hz⟩ := I1.list hq
    refine wpAny_pyIter_list p.isList ?_
    exact ⟨s1.heap.objs.size, [s1.heap.objs.size], _, _, H1, rfl, I1.kept (t' := s1.toks) fun b o e => Heap.get?_push_of_some _ e, turn_list a _, ⟨_, Heap.get?_push_size _ rfl, rfl, rfl⟩, fp, q⟩
  · subst e
    cases r1
    obtain ⟨its, rv, p, hz⟩ := I1.tuple hq
    refine wpAny_pyIter_tuple (show s1.heap.IsTuple a its.toArray from p) ?_
    exact ⟨s1.heap.objs.size, [s1.heap.objs.size], _, _, H1, rfl, I1.kept (t' := s1.toks) fun b o e => Heap.get?_push_of_some _ e, turn_tuple a _, ⟨_, Heap.get?_push_size _ rfl, rfl, rfl⟩, fp, q⟩
  · subst e
    obtain ⟨t, rfl⟩ := r1
    refine wpAny_pyIter_strU ?_
    exact ⟨s1.heap.objs.size, [s1.heap.objs.size], _, _, H1, rfl, I1.kept (t' := s1.toks) fun b o e => Heap.get?_push_of_some _ e, turn_str _ z t, ⟨_, Heap.get?_push_size _ rfl, rfl, rfl⟩, fp, q⟩
end
end L2

set_option Elab.async false
set_option linter.all false
set_option maxRecDepth 100000
set_option maxHeartbeats 4000000
namespace L2
open PySem PySem.Spec PyProof.Rows

/-! ### a comprehension whose test and element leave all that was there as it was -/
theorem comp_mapf {J : It} {tt : TT} {te : TE} {σ : St} {H : Hp} {D : Addr} {Q : Hp → Prop} (n : Nat) (hn : n ≤ sizeLine) (hD : H D = none) (item f : Nat → V) (p : Nat → Bool)
    (hstop : ∀ H', Same H H' → J.stop n H') (hgo : ∀ i H', Same H H' → i < n → J.go i H') (hy : ∀ i H' x H'', Same H H' → i < n → J.yld i H' x H'' → H'' = H' ∧ x = item i)
    (ht : ∀ i H', i < n → Same H H' → ∀ Qt : Bool → Hp → Prop, (∀ H'', Same H' H'' → Qt (p i) H'') → tt (some (item i) :: σ) H' Qt)
    (he : ∀ i H', i < n → p i = true → Same H H' → ∀ Qe : VK, (∀ H'', Same H' H'' → Qe (f i) H'') → te (some (item i) :: σ) H' Qe)
    (hd : ∀ H', Same H H' → H' D = some (.lst (((List.range n).filter p).map f)) → Q H') :
    ∃ W : Nat → Nat → List V → Hp → Prop, (∃ m, W 0 m [] (upd H D (.lst []))) ∧ ∀ i m ys H2, W i m ys H2 →
      (J.stop i H2 ∧ H2 D = some (.lst ys) ∧ Q H2) ∨ (J.go i H2 ∧ ys.length < sizeLine ∧ ∀ x H3, J.yld i H2 x H3 → tt (some x :: σ) H3 fun b H4 =>
        if b = true then te (some x :: σ) H4 fun y H5 => H5 D = some (.lst ys) ∧ ∃ m', m' < m ∧ W (i + 1) m' (ys ++ [y]) (upd H5 D (.lst (ys ++ [y]))) else ∃ m', m' < m ∧ W (i + 1) m' ys H4) := by
  have same0 : ∀ {H' : Hp} {ys : List V}, Same H H' → Same H (upd H' D (.lst ys)) := fun {H' ys} h b o e => by
    rw [upd_ne (ne_of_none e hD)]
    exact h b o e
  refine ⟨fun i m ys H2 => m = n - i ∧ i ≤ n ∧ ys = ((List.range i).filter p).map f ∧ H2 D = some (.lst ys) ∧ Same H H2, ⟨n, rfl, Nat.zero_le _, rfl, upd_same, same0 (Same.refl _)⟩, ?_⟩
  rintro i m ys H2 ⟨rfl, hi, e, hH, hs⟩
  have hlen : ys.length ≤ i := by
    rw [e, List.length_map]
    exact Nat.le_trans (List.length_filter_le _ _) (by rw [List.length_range]; exact Nat.le_refl _)
  by_cases hlt : i < n
  · refine .inr ⟨hgo i H2 hs hlt, by omega, fun x H3 y => ?_⟩
    obtain ⟨rfl, rfl⟩ := hy i H2 x H3 hs hlt y
    have grow : ((List.range (i + 1)).filter p).map f = if p i = true then ys ++ [f i] else ys := by
      rw [List.range_succ, List.filter_append, List.map_append, ← e]
      by_cases hp : p i = true
      · rw [if_pos hp]; simp [hp]
      · have hp' : p i = false := by simpa using hp
        rw [if_neg hp]; simp [hp']
    refine ht i _ hlt hs _ fun H4 s4 => ?_
    by_cases hp : p i = true
    · rw [hp, if_pos rfl]
      rw [if_pos hp] at grow
      refine he i H4 hlt hp (hs.trans s4) _ fun H5 s5 => ⟨s5 _ _ (s4 _ _ hH), n - (i + 1), by omega, rfl, hlt, grow.symm, upd_same, same0 ((hs.trans s4).trans s5)⟩
    · have hp' : p i = false := by simpa using hp
      rw [hp', if_neg Bool.false_ne_true]
      rw [if_neg hp] at grow
      exact ⟨n - (i + 1), by omega, rfl, hlt, grow.symm, s4 _ _ hH, hs.trans s4⟩
  · have ei : i = n := by omega
    subst ei
    rw [e] at hH
    exact .inl ⟨hstop _ hs, by rw [e]; exact hH, hd _ hs hH⟩
theorem filter_true {α : Type} (l : List α) : l.filter (fun _ => true) = l := by induction l <;> simp_all
/-- [f i for i in range(..)] -/
theorem comp_range {te : TE} {σ : St} {H : Hp} {D : Addr} {Q : Hp → Prop} (lo : Int) (n : Nat) (hn : n ≤ sizeLine) (hD : H D = none) (f : Nat → V)
    (he : ∀ i H', i < n → Same H H' → ∀ Qe : VK, (∀ H'', Same H' H'' → Qe (f i) H'') → te (some (.int (lo + i)) :: σ) H' Qe)
    (hd : ∀ H', Same H H' → H' D = some (.lst ((List.range n).map f)) → Q H') :
    ∃ W : Nat → Nat → List V → Hp → Prop, (∃ m, W 0 m [] (upd H D (.lst []))) ∧ ∀ i m ys H2, W i m ys H2 →
      ((Itr lo n).stop i H2 ∧ H2 D = some (.lst ys) ∧ Q H2) ∨ ((Itr lo n).go i H2 ∧ ys.length < sizeLine ∧ ∀ x H3, (Itr lo n).yld i H2 x H3 → tYes (some x :: σ) H3 fun b H4 =>
        if b = true then te (some x :: σ) H4 fun y H5 => H5 D = some (.lst ys) ∧ ∃ m', m' < m ∧ W (i + 1) m' (ys ++ [y]) (upd H5 D (.lst (ys ++ [y]))) else ∃ m', m' < m ∧ W (i + 1) m' ys H4) :=
  comp_mapf (J := Itr lo n) n hn hD (fun i => .int (lo + i)) f (fun _ => true) (fun _ _ => Nat.le_refl _) (fun i _ _ h => h) (fun i H' x H'' _ _ y => y) (fun i H' _ _ Qt q => q H' (Same.refl _)) (fun i H' h _ s Qe q => he i H' h s Qe q)
    (fun H' s h => hd H' s (by rw [filter_true] at h; exact h))
theorem Same.upd {H : Hp} {D : Addr} {o : HO} (hD : H D = none) : Same H (upd H D o) := fun b u e => by
  rw [upd_ne (ne_of_none e hD)]
  exact e
/-- a list's place, in bounds -/
theorem atI_get? {α : Type} {xs : List α} {i : Int} {v : α} (h0 : 0 ≤ i) (h : xs[i.toNat]? = some v) : atI xs i = some v := by
  have := atI_nat (xs := xs) (j := i.toNat) h
  rwa [show ((i.toNat : Nat) : Int) = i by omega] at this
theorem Same.tup {K : PySem.W.Frag} {H H' : Hp} {a : Addr} {xs : List V} (e : Same H H') (h : SqT K H a xs) : SqT K H' a xs := by
  rcases h with (h | ⟨o, h⟩) | h
  · exact .inl (.inl (e _ _ h))
  · exact .inl (.inr ⟨o, e _ _ h⟩)
  · exact .inr h
mutual
theorem Den.same {K : PySem.W.Frag} {H H' : Hp} (s : Same H H') : ∀ {v : V} {d : PyData}, Den K H v d → Den K H' v d
  | _, _, .non => .non
  | _, _, .bl b => .bl b
  | _, _, .int i => .int i
  | _, _, .str x => .str x
  | _, _, .lst h t => .lst (s.seq h) (DenAll.same s t)
  | _, _, .tup h t => .tup (s.tup h) (DenAll.same s t)
theorem DenAll.same {K : PySem.W.Frag} {H H' : Hp} (s : Same H H') : ∀ {v : List V} {d : List PyData}, DenAll K H v d → DenAll K H' v d
  | _, _, .nil => .nil
  | _, _, .cons h t => .cons (Den.same s h) (DenAll.same s t)
end
/-- what isinstance tells of the plain values -/
theorem rIsi_iff {K : PySem.W.Frag} {H : Hp} {Q : VK} {x : V} {n T : String} {b : Bool} (hT : ∀ t, TyOf K H x t ↔ t = .type T) (hk : PySem.W.kitOne K (.type T) (.type n) = some b) : rIsi K [x, .ty n] H Q ↔ Q (.bl b) H := by
  constructor
  · rintro (⟨x', t, n', b', e, ty, k, q⟩ | ⟨x', t, C, b', e, ty, k, q⟩)
    · simp only [List.cons.injEq, V.ty.injEq, and_true] at e
      obtain ⟨rfl, rfl⟩ := e
      rw [(hT t).mp ty, hk] at k
      cases k
      exact q
    · simp at e
  · intro q
    exact .inl ⟨x, _, n, b, rfl, (hT _).mpr rfl, hk, q⟩
theorem tyOf_non {K : PySem.W.Frag} {H : Hp} (t : Value) : TyOf K H .non t ↔ t = .type "NoneType" := ⟨fun h => by cases h; rfl, fun h => h ▸ .non⟩
theorem tyOf_bl {K : PySem.W.Frag} {H : Hp} (b : Bool) (t : Value) : TyOf K H (.bl b) t ↔ t = .type "bool" := ⟨fun h => by cases h; rfl, fun h => h ▸ .bl b⟩
theorem tyOf_int {K : PySem.W.Frag} {H : Hp} (b : Int) (t : Value) : TyOf K H (.int b) t ↔ t = .type "int" := ⟨fun h => by cases h; rfl, fun h => h ▸ .int b⟩
theorem tyOf_str {K : PySem.W.Frag} {H : Hp} (b : Str) (t : Value) : TyOf K H (.str b) t ↔ t = .type "str" := ⟨fun h => by cases h; rfl, fun h => h ▸ .str b⟩
theorem tyOf_lst {K : PySem.W.Frag} {H : Hp} {a : Addr} {xs : List V} (e : H a = some (.lst xs)) (t : Value) : TyOf K H (.ref a) t ↔ t = .type "list" := by
  constructor
  · intro h
    cases h <;> first | rfl | (rename_i e'; rw [e] at e'; cases e') | (rename_i e' _ _ _ _ _; rw [e] at e'; cases e')
  · intro h
    exact h ▸ .lst e
theorem tyOf_dK {K : PySem.W.Frag} {H : Hp} {a : Addr} {xs : List (Key × V)} (e : H a = some (.dK xs)) (t : Value) : TyOf K H (.ref a) t ↔ t = .type "dict" := by
  constructor
  · intro h
    cases h <;> first | rfl | (rename_i e'; rw [e] at e'; cases e') | (rename_i e' _ _ _ _ _; rw [e] at e'; cases e')
  · intro h
    exact h ▸ .dK e
theorem isi_non_int {K : PySem.W.Frag} {H : Hp} {Q : VK} : rIsi K [.non, .ty "int"] H Q ↔ Q (.bl false) H := rIsi_iff (tyOf_non) (by rfl)
theorem isi_non_bool {K : PySem.W.Frag} {H : Hp} {Q : VK} : rIsi K [.non, .ty "bool"] H Q ↔ Q (.bl false) H := rIsi_iff (tyOf_non) (by rfl)
theorem isi_non_str {K : PySem.W.Frag} {H : Hp} {Q : VK} : rIsi K [.non, .ty "str"] H Q ↔ Q (.bl false) H := rIsi_iff (tyOf_non) (by rfl)
theorem isi_non_list {K : PySem.W.Frag} {H : Hp} {Q : VK} : rIsi K [.non, .ty "list"] H Q ↔ Q (.bl false) H := rIsi_iff (tyOf_non) (by rfl)
theorem isi_non_tuple {K : PySem.W.Frag} {H : Hp} {Q : VK} : rIsi K [.non, .ty "tuple"] H Q ↔ Q (.bl false) H := rIsi_iff (tyOf_non) (by rfl)
theorem isi_non_dict {K : PySem.W.Frag} {H : Hp} {Q : VK} : rIsi K [.non, .ty "dict"] H Q ↔ Q (.bl false) H := rIsi_iff (tyOf_non) (by rfl)
theorem isi_bl_int {K : PySem.W.Frag} {H : Hp} {Q : VK} {b : Bool} : rIsi K [(.bl b), .ty "int"] H Q ↔ Q (.bl true) H := rIsi_iff (tyOf_bl _) (by rfl)
theorem isi_bl_bool {K : PySem.W.Frag} {H : Hp} {Q : VK} {b : Bool} : rIsi K [(.bl b), .ty "bool"] H Q ↔ Q (.bl true) H := rIsi_iff (tyOf_bl _) (by rfl)
theorem isi_bl_str {K : PySem.W.Frag} {H : Hp} {Q : VK} {b : Bool} : rIsi K [(.bl b), .ty "str"] H Q ↔ Q (.bl false) H := rIsi_iff (tyOf_bl _) (by rfl)
theorem isi_bl_list {K : PySem.W.Frag} {H : Hp} {Q : VK} {b : Bool} : rIsi K [(.bl b), .ty "list"] H Q ↔ Q (.bl false) H := rIsi_iff (tyOf_bl _) (by rfl)
theorem isi_bl_tuple {K : PySem.W.Frag} {H : Hp} {Q : VK} {b : Bool} : rIsi K [(.bl b), .ty "tuple"] H Q ↔ Q (.bl false) H := rIsi_iff (tyOf_bl _) (by rfl)
theorem isi_bl_dict {K : PySem.W.Frag} {H : Hp} {Q : VK} {b : Bool} : rIsi K [(.bl b), .ty "dict"] H Q ↔ Q (.bl false) H := rIsi_iff (tyOf_bl _) (by rfl)
theorem isi_int_int {K : PySem.W.Frag} {H : Hp} {Q : VK} {b : Int} : rIsi K [(.int b), .ty "int"] H Q ↔ Q (.bl true) H := rIsi_iff (tyOf_int _) (by rfl)
theorem isi_int_bool {K : PySem.W.Frag} {H : Hp} {Q : VK} {b : Int} : rIsi K [(.int b), .ty "bool"] H Q ↔ Q (.bl false) H := rIsi_iff (tyOf_int _) (by rfl)
theorem isi_int_str {K : PySem.W.Frag} {H : Hp} {Q : VK} {b : Int} : rIsi K [(.int b), .ty "str"] H Q ↔ Q (.bl false) H := rIsi_iff (tyOf_int _) (by rfl)
theorem isi_int_list {K : PySem.W.Frag} {H : Hp} {Q : VK} {b : Int} : rIsi K [(.int b), .ty "list"] H Q ↔ Q (.bl false) H := rIsi_iff (tyOf_int _) (by rfl)
theorem isi_int_tuple {K : PySem.W.Frag} {H : Hp} {Q : VK} {b : Int} : rIsi K [(.int b), .ty "tuple"] H Q ↔ Q (.bl false) H := rIsi_iff (tyOf_int _) (by rfl)
theorem isi_int_dict {K : PySem.W.Frag} {H : Hp} {Q : VK} {b : Int} : rIsi K [(.int b), .ty "dict"] H Q ↔ Q (.bl false) H := rIsi_iff (tyOf_int _) (by rfl)
theorem isi_str_int {K : PySem.W.Frag} {H : Hp} {Q : VK} {b : Str} : rIsi K [(.str b), .ty "int"] H Q ↔ Q (.bl false) H := rIsi_iff (tyOf_str _) (by rfl)
theorem isi_str_bool {K : PySem.W.Frag} {H : Hp} {Q : VK} {b : Str} : rIsi K [(.str b), .ty "bool"] H Q ↔ Q (.bl false) H := rIsi_iff (tyOf_str _) (by rfl)
theorem isi_str_str {K : PySem.W.Frag} {H : Hp} {Q : VK} {b : Str} : rIsi K [(.str b), .ty "str"] H Q ↔ Q (.bl true) H := rIsi_iff (tyOf_str _) (by rfl)
theorem isi_str_list {K : PySem.W.Frag} {H : Hp} {Q : VK} {b : Str} : rIsi K [(.str b), .ty "list"] H Q ↔ Q (.bl false) H := rIsi_iff (tyOf_str _) (by rfl)
theorem isi_str_tuple {K : PySem.W.Frag} {H : Hp} {Q : VK} {b : Str} : rIsi K [(.str b), .ty "tuple"] H Q ↔ Q (.bl false) H := rIsi_iff (tyOf_str _) (by rfl)
theorem isi_str_dict {K : PySem.W.Frag} {H : Hp} {Q : VK} {b : Str} : rIsi K [(.str b), .ty "dict"] H Q ↔ Q (.bl false) H := rIsi_iff (tyOf_str _) (by rfl)
theorem isi_lst_list {K : PySem.W.Frag} {H : Hp} {Q : VK} {a : Addr} {xs : List V} (e : H a = some (.lst xs)) : rIsi K [.ref a, .ty "list"] H Q ↔ Q (.bl true) H := rIsi_iff (tyOf_lst e) (by rfl)
theorem isi_dK_dict {K : PySem.W.Frag} {H : Hp} {Q : VK} {a : Addr} {xs : List (Key × V)} (e : H a = some (.dK xs)) : rIsi K [.ref a, .ty "dict"] H Q ↔ Q (.bl true) H := rIsi_iff (tyOf_dK e) (by rfl)
/-! ### loops, kept folded while a body is read -/
def forW (J : It) (g : TG) (tb : TS) (D : Ends) (σ : St) (H1 : Hp) : Prop := ∃ W : Nat → Nat → St → Hp → Prop, (∃ m, W 0 m σ H1) ∧ ∀ i m σ H, W i m σ H →
  (J.stop i H ∧ D.nx σ H) ∨ (J.go i H ∧ ∃ N : St → Hp → Prop, (∀ σ' H', N σ' H' → ∃ m', m' < m ∧ W (i + 1) m' σ' H') ∧ ∀ x H', J.yld i H x H' → g x σ H' fun σ2 H2 => tb { D with nx := N, ct := N, bk := D.nx } σ2 H2)
theorem tFor_eq (wi : TI) (g : TG) (tb : TS) (D : Ends) (σ : St) (H : Hp) : tFor wi g tb D σ H = wi σ H fun J H1 => forW J g tb D σ H1 := rfl
def compW (J : It) (tt : TT) (te : TE) (σ : St) (H1 : Hp) (Q : VK) : Prop := ∀ D, H1 D = none → ∃ W : Nat → Nat → List V → Hp → Prop, (∃ m, W 0 m [] (upd H1 D (.lst []))) ∧ ∀ i m ys H2, W i m ys H2 →
  (J.stop i H2 ∧ H2 D = some (.lst ys) ∧ Q (.ref D) H2) ∨ (J.go i H2 ∧ ys.length < sizeLine ∧ ∀ x H3, J.yld i H2 x H3 → tt (some x :: σ) H3 fun b H4 =>
    if b = true then te (some x :: σ) H4 fun y H5 => H5 D = some (.lst ys) ∧ ∃ m', m' < m ∧ W (i + 1) m' (ys ++ [y]) (upd H5 D (.lst (ys ++ [y]))) else ∃ m', m' < m ∧ W (i + 1) m' ys H4)
theorem tComp_eq (wi : TI) (tt : TT) (te : TE) (σ : St) (H : Hp) (Q : VK) : tComp wi tt te σ H Q = wi σ H fun J H1 => compW J tt te σ H1 Q := rfl
theorem forW_list {K : PySem.W.Frag} {a : Addr} {xs : List V} {g : TG} {tb : TS} {D : Ends} {σ : St} {H : Hp} (Pv : Nat → St → Hp → Prop) (h0 : Pv 0 σ H) (hl : ∀ i σ H, i ≤ xs.length → Pv i σ H → SqL K H a xs)
    (hs : ∀ i x σ H, xs[i]? = some x → Pv i σ H → g x σ H fun σ2 H2 => tb { D with nx := Pv (i + 1), ct := Pv (i + 1), bk := D.nx } σ2 H2) (hd : ∀ σ H, Pv xs.length σ H → D.nx σ H) : forW (Itl K a) g tb D σ H :=
  for_list Pv h0 hl hs hd
theorem forW_tup {K : PySem.W.Frag} {a : Addr} {xs : List V} {g : TG} {tb : TS} {D : Ends} {σ : St} {H : Hp} (Pv : Nat → St → Hp → Prop) (h0 : Pv 0 σ H) (hl : ∀ i σ H, i ≤ xs.length → Pv i σ H → SqT K H a xs)
    (hs : ∀ i x σ H, xs[i]? = some x → Pv i σ H → g x σ H fun σ2 H2 => tb { D with nx := Pv (i + 1), ct := Pv (i + 1), bk := D.nx } σ2 H2) (hd : ∀ σ H, Pv xs.length σ H → D.nx σ H) : forW (Itt K a) g tb D σ H :=
  for_tup Pv h0 hl hs hd
theorem forW_range {lo : Int} {n : Nat} {g : TG} {tb : TS} {D : Ends} {σ : St} {H : Hp} (Pv : Nat → St → Hp → Prop) (h0 : Pv 0 σ H)
    (hs : ∀ i σ H, i < n → Pv i σ H → g (.int (lo + i)) σ H fun σ2 H2 => tb { D with nx := Pv (i + 1), ct := Pv (i + 1), bk := D.nx } σ2 H2) (hd : ∀ σ H, Pv n σ H → D.nx σ H) : forW (Itr lo n) g tb D σ H :=
  for_range Pv h0 hs hd
theorem compW_range {te : TE} {σ : St} {H : Hp} {Q : VK} {lo : Int} {n : Nat} (hn : n ≤ sizeLine) (f : Nat → V)
    (he : ∀ i H', i < n → Same H H' → ∀ Qe : VK, (∀ H'', Same H' H'' → Qe (f i) H'') → te (some (.int (lo + i)) :: σ) H' Qe)
    (hd : ∀ D H', H D = none → Same H H' → H' D = some (.lst ((List.range n).map f)) → Q (.ref D) H') : compW (Itr lo n) tYes te σ H Q :=
  fun D hD => comp_range lo n hn hD f he fun H' s h => hd D H' hD s h
theorem cx_K {CX : CXT} {P : Program} {w : World} {K : PySem.W.Frag} {mg : Str → Option Value} {base : Heap} {N : List Str} {qual : Str} {scope : Scope} {f : Addr} {cd : Value} {A : Around} {outer : List Env} {s : Shared} {H : Hp} {E : XK} :
    (cxOf CX P w K mg base N qual scope f cd A outer s H E).K = K := rfl
theorem S_iff (a b : List Nat) : (S a = S b) = (a = b) := propext ⟨S_inj, fun h => by rw [h]⟩
end L2

set_option Elab.async false
set_option linter.all false
set_option maxRecDepth 100000
set_option maxHeartbeats 4000000
namespace L2
open PySem PySem.Spec PyProof.Rows
/-! ### the joined rules by name -/
def rPlus (K : PySem.W.Frag) : R2 := fun x y H Q => rI0 (fun i j => .int (i + j)) x y H Q ∨ (rCatT2 x y H Q ∨ rCatS K x y H Q)
def rEqq (K : PySem.W.Frag) : R2 := fun x y H Q => rEq x y H Q ∨ rEqD K false x y H Q
def rNeq (K : PySem.W.Frag) : R2 := fun x y H Q => rNe x y H Q ∨ rEqD K true x y H Q
def rLt : R2 := fun x y H Q => rI0 (fun i j => .bl (decide (i < j))) x y H Q ∨ rStrs (fun a b => decide (a < b)) x y H Q
def rLe : R2 := fun x y H Q => rI0 (fun i j => .bl (decide (i ≤ j))) x y H Q ∨ rStrs (fun a b => !decide (b < a)) x y H Q
def rLen (K : PySem.W.Frag) : List V → Hp → VK → Prop := fun xs H Q => (∃ p ys, xs = [.ref p] ∧ (SqL K H p ys ∨ SqT K H p ys) ∧ Q (.int ys.length) H) ∨ ((∃ l, xs = [.str (S l)] ∧ l.length ≤ sizeLine ∧ Q (.int l.length) H) ∨ (∃ a kvs, xs = [V.ref a] ∧ H a = some (.dK kvs) ∧ Q (.int kvs.length) H))
def rInn (K : PySem.W.Frag) : R2 := fun x y H Q => rIn K false x y H Q ∨ ((∃ i j, x = .str i ∧ y = .str j ∧ Q (.bl (occB j i)) H) ∨ (∃ a o, y = .ref a ∧ DGet H a x o ∧ Q (.bl o.isSome) H))
def rNin (K : PySem.W.Frag) : R2 := fun x y H Q => rIn K true x y H Q ∨ ((∃ i j, x = .str i ∧ y = .str j ∧ Q (.bl (!occB j i)) H) ∨ (∃ a o, y = .ref a ∧ DGet H a x o ∧ Q (.bl (!o.isSome)) H))
def rListOf (K : PySem.W.Frag) : List V → Hp → VK → Prop := fun xs H Q => ∃ p ys, xs = [.ref p] ∧ (SqL K H p ys ∨ SqT K H p ys) ∧ ∀ l, H l = none → Q (.ref l) (upd H l (.lst ys))
def rOrd : List V → Hp → VK → Prop := fun xs H Q => ∃ c, xs = [.str (S [c])] ∧ Q (.int (c : Nat)) H
def rAny (K : PySem.W.Frag) (x : V) (H1 : Hp) (R : It → Hp → Prop) : Prop := (∃ a, x = .ref a ∧ (∃ xs, SqL K H1 a xs) ∧ R (Itl K a) H1) ∨ ((∃ a, x = .ref a ∧ (∃ xs, SqT K H1 a xs) ∧ R (Itt K a) H1) ∨ (∃ z, x = .str z ∧ R (Its z) H1))
theorem iAny_eq (K : PySem.W.Frag) (tl : TE) (σ : St) (H : Hp) (R : It → Hp → Prop) : iAny K tl σ H R = tl σ H fun x H1 => rAny K x H1 R := rfl
def tTru (K : PySem.W.Frag) (ta : TE) : TT := fun σ H Q => ta σ H fun x H' => ∃ k, TruV K x H' k ∧ Q k H'
/-! ### the joined rules, read: by equations where no object is met, by lemmas where one is -/
section
variable {K : PySem.W.Frag} {H : Hp} {Q : VK} {R : It → Hp → Prop} {x y : V} {a b p : Addr} {xs zs ys : List V}
theorem rPlus_ii (i j : Int) : rPlus K (.int i) (.int j) H Q = Q (.int (i + j)) H := by simp [rPlus, rI0, rCatT2, rCatS]
theorem rPlus_ss (i j : Str) : rPlus K (.str i) (.str j) H Q = ∃ l m, i = S l ∧ j = S m ∧ l.length + m.length ≤ sizeLine ∧ Q (.str (S (l ++ m))) H := by simp [rPlus, rI0, rCatT2, rCatS]
theorem rEqq_ii (i j : Int) : rEqq K (.int i) (.int j) H Q = Q (.bl (decide (i = j))) H := by simp [rEqq, rEq, rEqD, scal, isRef]
theorem rNeq_ii (i j : Int) : rNeq K (.int i) (.int j) H Q = Q (.bl (!(decide (i = j)))) H := by simp [rNeq, rNe, rEqD, scal, isRef]
theorem rEqq_ss (i j : Str) : rEqq K (.str i) (.str j) H Q = Q (.bl (decide (i = j))) H := by simp [rEqq, rEq, rEqD, scal, isRef]
theorem rNeq_ss (i j : Str) : rNeq K (.str i) (.str j) H Q = Q (.bl (!(decide (i = j)))) H := by simp [rNeq, rNe, rEqD, scal, isRef]
theorem rEqq_bb (i j : Bool) : rEqq K (.bl i) (.bl j) H Q = Q (.bl (decide (i = j))) H := by simp [rEqq, rEq, rEqD, scal, isRef]
theorem rNeq_bb (i j : Bool) : rNeq K (.bl i) (.bl j) H Q = Q (.bl (!(decide (i = j)))) H := by simp [rNeq, rNe, rEqD, scal, isRef]
theorem rEqq_nn  : rEqq K .non .non H Q = Q (.bl (true)) H := by simp [rEqq, rEq, rEqD, scal, isRef]
theorem rNeq_nn  : rNeq K .non .non H Q = Q (.bl (!(true))) H := by simp [rNeq, rNe, rEqD, scal, isRef]
theorem rEqq_ni (j : Int) : rEqq K .non (.int j) H Q = Q (.bl (false)) H := by simp [rEqq, rEq, rEqD, scal, isRef]
theorem rNeq_ni (j : Int) : rNeq K .non (.int j) H Q = Q (.bl (!(false))) H := by simp [rNeq, rNe, rEqD, scal, isRef]
theorem rEqq_in (j : Int) : rEqq K (.int j) .non H Q = Q (.bl (false)) H := by simp [rEqq, rEq, rEqD, scal, isRef]
theorem rNeq_in (j : Int) : rNeq K (.int j) .non H Q = Q (.bl (!(false))) H := by simp [rNeq, rNe, rEqD, scal, isRef]
theorem rEqq_ns (j : Str) : rEqq K .non (.str j) H Q = Q (.bl (false)) H := by simp [rEqq, rEq, rEqD, scal, isRef]
theorem rNeq_ns (j : Str) : rNeq K .non (.str j) H Q = Q (.bl (!(false))) H := by simp [rNeq, rNe, rEqD, scal, isRef]
theorem rEqq_sn (j : Str) : rEqq K (.str j) .non H Q = Q (.bl (false)) H := by simp [rEqq, rEq, rEqD, scal, isRef]
theorem rNeq_sn (j : Str) : rNeq K (.str j) .non H Q = Q (.bl (!(false))) H := by simp [rNeq, rNe, rEqD, scal, isRef]
theorem rEqq_nb (j : Bool) : rEqq K .non (.bl j) H Q = Q (.bl (false)) H := by simp [rEqq, rEq, rEqD, scal, isRef]
theorem rNeq_nb (j : Bool) : rNeq K .non (.bl j) H Q = Q (.bl (!(false))) H := by simp [rNeq, rNe, rEqD, scal, isRef]
theorem rEqq_bn (j : Bool) : rEqq K (.bl j) .non H Q = Q (.bl (false)) H := by simp [rEqq, rEq, rEqD, scal, isRef]
theorem rNeq_bn (j : Bool) : rNeq K (.bl j) .non H Q = Q (.bl (!(false))) H := by simp [rNeq, rNe, rEqD, scal, isRef]
theorem rEqq_is (i : Int) (j : Str) : rEqq K (.int i) (.str j) H Q = Q (.bl (false)) H := by simp [rEqq, rEq, rEqD, scal, isRef]
theorem rNeq_is (i : Int) (j : Str) : rNeq K (.int i) (.str j) H Q = Q (.bl (!(false))) H := by simp [rNeq, rNe, rEqD, scal, isRef]
theorem rEqq_si (i : Int) (j : Str) : rEqq K (.str j) (.int i) H Q = Q (.bl (false)) H := by simp [rEqq, rEq, rEqD, scal, isRef]
theorem rNeq_si (i : Int) (j : Str) : rNeq K (.str j) (.int i) H Q = Q (.bl (!(false))) H := by simp [rNeq, rNe, rEqD, scal, isRef]
theorem rEqq_d {d e : PyData} (hr : (isRef x || isRef y) = true) (h1 : Den K H x d) (h2 : Den K H y e) (s1 : SeqAt.shaped d = true) (s2 : SeqAt.shaped e = true) (q : Q (.bl (PyData.eqv d e)) H) : rEqq K x y H Q := .inr ⟨hr, d, e, h1, h2, s1, s2, q⟩
theorem rNeq_d {d e : PyData} (hr : (isRef x || isRef y) = true) (h1 : Den K H x d) (h2 : Den K H y e) (s1 : SeqAt.shaped d = true) (s2 : SeqAt.shaped e = true) (q : Q (.bl (!PyData.eqv d e)) H) : rNeq K x y H Q := .inr ⟨hr, d, e, h1, h2, s1, s2, q⟩
theorem rLt_ii (i j : Int) : rLt (.int i) (.int j) H Q = Q (.bl (decide (i < j))) H := by simp [rLt, rI0, rStrs]
theorem rLt_ss (i j : Str) : rLt (.str i) (.str j) H Q = Q (.bl (decide (i.cps.toList < j.cps.toList))) H := by simp [rLt, rI0, rStrs]
theorem rLe_ii (i j : Int) : rLe (.int i) (.int j) H Q = Q (.bl (decide (i ≤ j))) H := by simp [rLe, rI0, rStrs]
theorem rLe_ss (i j : Str) : rLe (.str i) (.str j) H Q = Q (.bl (!decide (j.cps.toList < i.cps.toList))) H := by simp [rLe, rI0, rStrs]
theorem rLen_s (i : Str) : rLen K [.str i] H Q = ∃ l, i = S l ∧ l.length ≤ sizeLine ∧ Q (.int l.length) H := by simp [rLen]
theorem rLen_l (h : SqL K H p ys) (q : Q (.int ys.length) H) : rLen K [.ref p] H Q := .inl ⟨p, ys, rfl, .inl h, q⟩
theorem rLen_d {kvs : List (Key × V)} (h : H p = some (.dK kvs)) (q : Q (.int kvs.length) H) : rLen K [.ref p] H Q := .inr (.inr ⟨p, kvs, rfl, h, q⟩)
theorem rInn_s (i j : Str) : rInn K (.str i) (.str j) H Q = Q (.bl (occB j i)) H := by simp [rInn, rIn]
theorem rNin_s (i j : Str) : rNin K (.str i) (.str j) H Q = Q (.bl (!occB j i)) H := by simp [rNin, rIn]
theorem rNin_f (h : SqL K H p xs ∨ SqT K H p xs) (f : flatV x = true) (g : xs.all flatV = true) (q : Q (.bl (!inV x xs)) H) : rNin K x (.ref p) H Q := .inl ⟨p, xs, rfl, h, f, g, q⟩
theorem rNin_d {o : Option V} (h : DGet H p x o) (q : Q (.bl (!o.isSome)) H) : rNin K x (.ref p) H Q := .inr (.inr ⟨p, o, rfl, h, q⟩)
theorem rIxA_s (i : Str) : rIxA K (.str i) y H Q = rIxS2 (.str i) y H Q := by simp [rIxA, rIxL, rIxT]
theorem rIxA_l {i : Int} {v : V} (h : SqL K H p xs) (e : atI xs i = some v) (q : Q v H) : rIxA K (.ref p) (.int i) H Q := .inl ⟨p, xs, i, v, rfl, rfl, h, e, q⟩
theorem rIxA_t {i : Int} {v : V} (h : SqT K H p xs) (e : atI xs i = some v) (q : Q v H) : rIxA K (.ref p) (.int i) H Q := .inr (.inl ⟨p, xs, i, v, rfl, rfl, h, e, q⟩)
theorem rIxA_d {v : V} (h : DGet H p y (some v)) (q : Q v H) : rIxA K (.ref p) y H Q := .inr (.inr (.inr ⟨p, v, rfl, h, q⟩))
theorem rSlA_s (i : Str) (lo hi : Option Int) : rSlA K (.str i) lo hi H Q = rSlS (.str i) lo hi H Q := by simp [rSlA, rSlL]
theorem rSlA_l {lo hi : Option Int} (h : SqL K H a xs) (q : ∀ p, H p = none → Q (.ref p) (upd H p (.lst (cutV xs lo hi)))) : rSlA K (.ref a) lo hi H Q := .inl ⟨a, xs, rfl, h, q⟩
theorem rAny_s (z : Str) : rAny K (.str z) H R = R (Its z) H := by simp [rAny]
theorem rAny_l (h : SqL K H a xs) (q : R (Itl K a) H) : rAny K (.ref a) H R := .inl ⟨a, rfl, ⟨xs, h⟩, q⟩
theorem rAny_t (h : SqT K H a xs) (q : R (Itt K a) H) : rAny K (.ref a) H R := .inr (.inl ⟨a, rfl, ⟨xs, h⟩, q⟩)
theorem rSetA_d {v : V} {H' : Hp} {Qh : Hp → Prop} (h : DPut H p y v H') (q : Qh H') : rSetA (.ref p) y v H Qh := .inr ⟨p, H', rfl, h, q⟩
theorem TruV_b (b k : Bool) : TruV K (.bl b) H k = (k = b) := rfl
theorem TruV_n (k : Bool) : TruV K .non H k = (k = false) := rfl
theorem TruV_i (i : Int) (k : Bool) : TruV K (.int i) H k = (k = (i != 0)) := rfl
end
/-! ### the same rules, the written part named (so that a block's rule does not hang on the block) -/
section
variable {X : Cx} {K : PySem.W.Frag} {a b c e o l tg : Expr} {es : List Expr} {ta tb to te tl : TE} {t : TA} {pos apos cpos p2 : Pos} {f name : Str} {lo hi : Option Expr} {tlo thi : TO}
theorem op_plusK (hK : X.K = K := by rfl) : OpR X (binaryOp .Add) (rPlus K) := hK ▸ op_plus
theorem op_eqK (hu : X.A.units + 64 < cLine) (hK : X.K = K := by rfl) : OpR X (compareOp .Eq) (rEqq K) := hK ▸ op_eqA hu
theorem op_neK (hu : X.A.units + 64 < cLine) (hK : X.K = K := by rfl) : OpR X (compareOp .NotEq) (rNeq K) := hK ▸ op_neA hu
theorem call_lenK (hK : X.K = K := by rfl) : CallR X (.builtin "len") (rLen K) := hK ▸ call_lenA
theorem op_ltK : OpR X (compareOp .Lt) rLt := op_ltA
theorem op_leK : OpR X (compareOp .LtE) rLe := op_leA
theorem call_isinstanceK (hK : X.K = K := by rfl) : CallR X (.builtin "isinstance") (rIsi K) := hK ▸ call_isinstanceA
theorem ix_anyK (hu : X.A.units + 1 < cLine) (hK : X.K = K := by rfl) : IxR X (rIxA K) := hK ▸ ix_any hu
theorem sl_anyK (hK : X.K = K := by rfl) : SlR X (rSlA K) := hK ▸ sl_any
theorem op_notInK (hu : X.A.units + 1 < cLine) (hK : X.K = K := by rfl) : OpR X (compareOp .NotIn) (rNin K) := hK ▸ op_notInA hu
theorem pi_anyK (hl : PE X l tl) (hK : X.K = K := by rfl) : PI X tg l (iAny K tl) := hK ▸ pi_any hl
theorem pe_fldK (he : PE X e ta) (hb : attributeBase e f X.env (eval e X.env) = eval e X.env) (hK : X.K = K := by rfl) : PE X (.Attribute e f pos) (tFld K ta f) := hK ▸ pe_fld he hb
theorem pt_truthK (ha : PE X a ta) (he : ∀ whole, isTrue a X.env whole = (do let v ← whole; standAt a.pos; holding [v] (truthy v))) (hK : X.K = K := by rfl) :
    PT X a (tTru K ta) := hK ▸ pt_truth ha he
theorem pe_bmK {T id : String} {r : V → List V → Hp → VK → Prop} (pa : PlainAttrs T) (slot : Slot T name id) (hty : typeOf (.builtin id) = pure (.type "method_descriptor")) (hm : MtR X id r) (ho : PE X o to) (ha : PA X (e :: es) t)
    (hbase : attributeBase o name X.env (eval o X.env) = eval o X.env := by rfl)
    (hfew : ((backTo cpos (starEach (e :: es) X.env)).all (fun x => !x.1) && (backToKw cpos (keywordEach [] X.env)).all (fun x => x.1.isSome)
      && decide ((e :: es).length + ([] : List Keyword).length + (if ([] : List Keyword).isEmpty then 0 else 1) < 30)) = true := by rfl)
    (hline : (apos.endLine == cpos.line) = true := by rfl) (hs : starEach (e :: es) X.env = (false, eval e X.env) :: starEach es X.env := by rfl) (hplain : (backTo cpos (starEach es X.env)).any (·.1) = false := by rfl) (hK : X.K = K := by rfl) :
    PE X (.Call (.Attribute o name apos) (e :: es) [] cpos) (tBM K T r to t) := hK ▸ pe_bm pa slot hty hm ho ha hbase hfew hline hs hplain
theorem pg_tupK {es : List Expr} {k : Nat} {t : TGs} {n : Nat} (hc : X.calm = true) (h : PGs X es t)
    (hn : (assignEach es X.env).length = n := by rfl) (hst : (assignEach es X.env).findIdx? (·.1) = none := by rfl) (hK : X.K = K := by rfl) : PG X (.Tuple es k pos) (gTup K n t) := hK ▸ pg_tup hc h hn hst
end
end L2

set_option Elab.async false
set_option linter.all false
set_option maxRecDepth 100000
set_option maxHeartbeats 4000000
namespace L2
open PySem PySem.Spec PyProof.Rows

/-! ### x in range(a, b) -/
section
variable {X : Cx}
def tInRng (neg : Bool) (ta : TE) (tr : TA) : TE := fun σ H Q => ta σ H fun x H1 => tr σ H1 fun vs H2 => ∃ i a b : Int, x = .int i ∧ vs = [.int a, .int b] ∧ Q (.bl (if neg then !(decide (a ≤ i) && decide (i < b)) else (decide (a ≤ i) && decide (i < b)))) H2
def tInRng1 (neg : Bool) (ta : TE) (tr : TA) : TE := fun σ H Q => ta σ H fun x H1 => tr σ H1 fun vs H2 => ∃ i b : Int, x = .int i ∧ vs = [.int b] ∧ Q (.bl (if neg then !(decide (0 ≤ i) && decide (i < b)) else (decide (0 ≤ i) && decide (i < b)))) H2
/-! ### all, any, sum of a list -/
def rAll (K : PySem.W.Frag) : List V → Hp → VK → Prop := fun xs H Q => ∃ (p : Addr) (bs : List Bool), xs = [.ref p] ∧ SqL K H p (bs.map V.bl) ∧ Q (.bl (bs.all id)) H
def rAnyB (K : PySem.W.Frag) : List V → Hp → VK → Prop := fun xs H Q => ∃ (p : Addr) (bs : List Bool), xs = [.ref p] ∧ SqL K H p (bs.map V.bl) ∧ Q (.bl (bs.any id)) H
def rSum (K : PySem.W.Frag) : List V → Hp → VK → Prop := fun xs H Q => ∃ (p : Addr) (ns : List Int), xs = [.ref p] ∧ SqL K H p (ns.map V.int) ∧ Q (.int ns.sum) H
/-! ### min, max, int, str -/
def rMax : List V → Hp → VK → Prop := fun xs H Q => ∃ i j, xs = [.int i, .int j] ∧ Q (.int (max i j)) H
def rMin : List V → Hp → VK → Prop := fun xs H Q => ∃ i j, xs = [.int i, .int j] ∧ Q (.int (min i j)) H
theorem call_maxA (hc : X.calm = true) : CallR X (.builtin "max") rMax := by
  intro pins s σ H xs us Q I r h
  obtain ⟨i, j, rfl, q⟩ := h
  refine call_max2 hc pins s σ H _ us Q I r ⟨i, j, rfl, ?_⟩
  rw [show (if j > i then j else i) = max i j by split <;> omega]
  exact q
theorem call_minA (hc : X.calm = true) : CallR X (.builtin "min") rMin := by
  intro pins s σ H xs us Q I r h
  obtain ⟨i, j, rfl, q⟩ := h
  refine call_min2 hc pins s σ H _ us Q I r ⟨i, j, rfl, ?_⟩
  rw [show (if j < i then j else i) = min i j by split <;> omega]
  exact q
def rInt : List V → Hp → VK → Prop := fun xs H Q => (∃ i, xs = [.int i] ∧ Q (.int i) H) ∨ ∃ k, xs = [.bl k] ∧ Q (.int (if k = true then 1 else 0)) H
theorem call_intK {K : PySem.W.Frag} : CallR X (.type "int") rInt := fun pins s σ H xs us Q I r h => call_int1 pins s σ H xs us Q I r h
theorem rInt_i {H : Hp} {Q : VK} (i : Int) : rInt [.int i] H Q = Q (.int i) H := by simp [rInt]
theorem rInt_b {H : Hp} {Q : VK} (k : Bool) : rInt [.bl k] H Q = Q (.int (if k = true then 1 else 0)) H := by simp [rInt]
/-- the figures of a whole number -/
def strI (i : Int) : List Nat := (toString i : Str).cps.toList
def rStrI : List V → Hp → VK → Prop := fun xs H Q => ∃ i, xs = [.int i] ∧ i.natAbs.log2 < 1920 ∧ Q (.str (S (strI i))) H
end
end L2

set_option Elab.async false
set_option linter.all false
set_option maxRecDepth 100000
set_option maxHeartbeats 4000000
namespace L2
open PySem PySem.Spec PyProof.Rows

/-! ### a def with defaults -/
structure FunD (K : PySem.W.Frag) (x qual : Str) (st : Stmt) (f : Addr) (fd : FuncData) (items : List Value) : Prop where
  ex : ∃ (oc : Value) (od : Option Addr) (kV doc pm : Value) (an : Option Addr) (cdv ct : Value) (osl : Array (Option Value)) (tD : Addr) (o : Obj) (n : Nat),
    fd = PySem.W.fnOf x qual (defArgs st) (defBody st) (defScope st) (.ref tD) kV doc pm an cdv ct ∧ K.lookup f = some ⟨oc, od, .func fd, osl⟩ ∧ PySem.W.codeIn K cdv qual = true ∧ K.lookup tD = some o ∧ o.data = .seq items.toArray n
  kp : PySem.W.keepIn K (.ref f) = true
section
variable {P : Program} {w : World} {K : PySem.W.Frag} {mg : Str → Option Value} {base : Heap}
theorem FunD.ok {x qual : Str} {st : Stmt} {f : Addr} {fd : FuncData} {items : List Value} {N ps : List Str} {k : Nat} {sp : Sp} (F : FunD K x qual st f fd items) (S : FnScope N ps (defScope st)) (len : ∀ vs H Q E, sp vs H Q E → vs.length = ps.length)
    (hbody : ∀ (cdv : Value) (A : Around) (outer : List Env) (s : Shared) (H : Hp) (vs : List V) (Q : VK) (E : XK), Room k (A.deeper (envOfC qual (defScope st) s.heap.objs.size f cdv)) → sp vs H Q E →
      ∃ t, PSs (cxOf CX0 P w K mg base N qual (defScope st) f cdv A outer s H E).nox (defBody st) t ∧ t { nx := fun _ H' => Q .non H', rt := Q } (start N vs) H) : FnOk P w K mg base CX0 (k + 1) f fd ps sp := by
  obtain ⟨oc, od, kV, doc, pm, an, cdv, ct, osl, tD, o, n, rfl, lk, hcd, _⟩ := F.ex
  refine fn_of lk hcd S len fun A outer s H vs Q E hr hsp => ?_
  obtain ⟨t, h, q⟩ := hbody cdv A outer s H vs Q E hr hsp
  exact ⟨t, h.nox, q⟩
/-- how its arguments bind, ds the defaults that fill up -/
theorem FunD.binds {x qual : Str} {st : Stmt} {f : Addr} {fd : FuncData} {items : List Value} {ps : List Str} (ds : List Value) (m : Nat) (hm : m + ds.length = ps.length) (F : FunD K x qual st f fd items)
    (h : ∀ (tD : Addr) (kV doc pm : Value) (an : Option Addr) (cdv ct : Value) (us : List Value), us.length = m →
      ∃ kk, bindArgs (PySem.W.fnOf x qual (defArgs st) (defBody st) (defScope st) (.ref tD) kV doc pm an cdv ct) ⟨us, []⟩ = seqItems? (.ref tD) >>= kk ∧ kk (some items.toArray) = pure (ps.zip (us ++ ds))) : Binds K fd ps ds := by
  obtain ⟨oc, od, kV, doc, pm, an, cdv, ct, osl, tD, o, n, rfl, lk, hcd, ho, hs⟩ := F.ex
  intro s us X hl
  rw [List.length_append] at hl
  obtain ⟨kk, h1, h2⟩ := h tD kV doc pm an cdv ct us (by omega)
  exact BindsTo.of_defaults rfl (X _ _ ho) hs h1 h2
theorem funD_mk {x qual : Str} {st : Stmt} {f : Addr} {oc : Value} {od an : Option Addr} {osl : Array (Option Value)} {kV doc pm cdv ct : Value} {tD : Addr} {tc : Value} {td : Option Addr} {tn : Nat} {tsl : Array (Option Value)} {items : List Value}
    (l : K.lookup f = some ⟨oc, od, .func (PySem.W.fnOf x qual (defArgs st) (defBody st) (defScope st) (.ref tD) kV doc pm an cdv ct), osl⟩)
    (c : PySem.W.codeIn K cdv qual = true) (k : PySem.W.keepIn K (.ref f) = true) (dl : K.lookup tD = some ⟨tc, td, .seq items.toArray tn, tsl⟩) : FunD K x qual st f (PySem.W.fnOf x qual (defArgs st) (defBody st) (defScope st) (.ref tD) kV doc pm an cdv ct) items :=
  ⟨⟨oc, od, kV, doc, pm, an, cdv, ct, osl, tD, _, tn, rfl, l, c, dl, rfl⟩, k⟩
end

/-! ### what a step may change -/
/-- of what stood only the objects at A may have changed, tuples never -/
structure Chg (A : List Addr) (H H' : Hp) : Prop where
  keep : ∀ b o, H b = some o → b ∉ A → H' b = some o
  tup : ∀ b xs, H b = some (.tup xs) → H' b = some (.tup xs)
theorem Chg.refl {A : List Addr} (H : Hp) : Chg A H H := ⟨fun _ _ h _ => h, fun _ _ h => h⟩
theorem Chg.of_same {A : List Addr} {H H' : Hp} (s : Same H H') : Chg A H H' := ⟨fun b o h _ => s b o h, fun b xs h => s b _ h⟩
theorem Chg.same {H H' : Hp} (s : Chg [] H H') : Same H H' := fun b o h => s.keep b o h (by simp)
theorem Chg.trans {A : List Addr} {H H1 H2 : Hp} (x : Chg A H H1) (y : Chg A H1 H2) : Chg A H H2 := ⟨fun b o h n => y.keep b o (x.keep b o h n) n, fun b xs h => y.tup b xs (x.tup b xs h)⟩
theorem Chg.mono {A B : List Addr} {H H' : Hp} (x : Chg A H H') (h : ∀ b, b ∈ A → b ∈ B) : Chg B H H' := ⟨fun b o e n => x.keep b o e fun z => n (h b z), x.tup⟩
theorem Chg.upd {A : List Addr} {H : Hp} {a : Addr} {o : HO} (ha : a ∈ A) (hm : ∀ xs, H a ≠ some (.tup xs)) : Chg A H (L2.upd H a o) := by
  refine ⟨fun b u e n => ?_, fun b xs e => ?_⟩
  · have hb : b ≠ a := fun z => by subst z; exact n ha
    rw [upd_ne hb]; exact e
  · have hb : b ≠ a := fun z => by subst z; exact hm xs e
    rw [upd_ne hb]; exact e
theorem Chg.new {A : List Addr} {H : Hp} {a : Addr} {o : HO} (ha : H a = none) : Chg A H (L2.upd H a o) := .of_same (Same.upd ha)
/-- an address that was free stays out of what was there -/
theorem Chg.free {H H' : Hp} {l b : Addr} {A : List Addr} {o : HO} (x : Chg A H H') (h : H' l = none) (e : H b = some o) (n : b ∉ A) : l ≠ b := fun z => by
  have := x.keep b o e n
  rw [← z, h] at this
  cases this
theorem mut_dK {H : Hp} {a : Addr} {kvs : List (Key × V)} (h : H a = some (.dK kvs)) : ∀ xs, H a ≠ some (.tup xs) := fun xs z => by rw [h] at z; cases z
theorem mut_lst {H : Hp} {a : Addr} {kvs : List V} (h : H a = some (.lst kvs)) : ∀ xs, H a ≠ some (.tup xs) := fun xs z => by rw [h] at z; cases z
theorem mut_ins {H : Hp} {a C dx : Addr} {fs : List (Str × V)} (h : H a = some (.ins C dx fs)) : ∀ xs, H a ≠ some (.tup xs) := fun xs z => by rw [h] at z; cases z
/-! ### comprehensions with a test, over a range; over a list -/
/-! ### addresses apart -/
/-- all there -/
def Pres (H : Hp) (l : List Addr) : Prop := ∀ a ∈ l, H a ≠ none
theorem Pres.nil (H : Hp) : Pres H [] := fun a h => by cases h
theorem Pres.same {H H' : Hp} {l : List Addr} (p : Pres H l) (s : Same H H') : Pres H' l := fun a h z => by
  cases e : H a with
  | none => exact p a h e
  | some o => rw [s a o e] at z; cases z
theorem Pres.cons {H : Hp} {l : List Addr} {a : Addr} {o : HO} (p : Pres H l) (h : H a = some o) : Pres H (a :: l) := fun b hb => by
  rcases List.mem_cons.mp hb with rfl | hb
  · rw [h]; intro z; cases z
  · exact p b hb
theorem Pres.new {H : Hp} {l : List Addr} {a : Addr} (p : Pres H l) (nd : l.Nodup) (h : H a = none) : (a :: l).Nodup := List.nodup_cons.mpr ⟨fun hm => p a hm h, nd⟩
end L2

set_option Elab.async false
set_option linter.all false
set_option maxRecDepth 100000
set_option maxHeartbeats 4000000
namespace L2
open PySem PySem.Spec PyProof.Rows
section
variable {X : Cx} {pins : List (Addr × Obj)} {σ : St} {H : Hp} {s : Shared} {h' : Heap}
end

/-! ### zip of two lists -/
def Itz (K : PySem.W.Frag) (a b : Addr) : It :=
  ⟨fun i H => ∃ xs ys x y, SqL K H a xs ∧ SqL K H b ys ∧ xs[i]? = some x ∧ ys[i]? = some y,
   fun i H v H' => ∃ T x y, v = .ref T ∧ H T = none ∧ H' = upd H T (.tup [x, y]) ∧ (∀ xs, SqL K H a xs → xs[i]? = some x) ∧ ∀ ys, SqL K H b ys → ys[i]? = some y,
   fun i H => ∃ xs ys, SqL K H a xs ∧ SqL K H b ys ∧ (xs.length ≤ i ∨ ys.length ≤ i)⟩
section
variable {X : Cx}
def iZip (K : PySem.W.Frag) (ta : TA) : TI := fun σ H R => ta σ H fun vs H1 => ∃ a b xs ys, vs = [.ref a, .ref b] ∧ SqL K H1 a xs ∧ SqL K H1 b ys ∧ R (Itz K a b) H1
/-! ### enumerate of a list -/
end
def Ite (K : PySem.W.Frag) (a : Addr) : It :=
  ⟨fun i H => ∃ xs x, SqL K H a xs ∧ xs[i]? = some x,
   fun i H v H' => ∃ T x, v = .ref T ∧ H T = none ∧ H' = upd H T (.tup [.int (i : Nat), x]) ∧ ∀ xs, SqL K H a xs → xs[i]? = some x,
   fun i H => ∃ xs, SqL K H a xs ∧ xs.length ≤ i⟩
section
variable {X : Cx}
def iEnum (K : PySem.W.Frag) (ta : TA) : TI := fun σ H R => ta σ H fun vs H1 => ∃ a xs, vs = [.ref a] ∧ SqL K H1 a xs ∧ R (Ite K a) H1
end
/-! ### loops over these -/
end L2

set_option Elab.async false
set_option linter.all false
set_option maxRecDepth 100000
set_option maxHeartbeats 4000000
namespace L2
open PySem PySem.Spec PyProof.Rows
/-! ### what the laws' own small defs are worth -/
def mixN (c k : Int) : Int := ((c % 2147483647 * 48271 + 7919 * k + 1) % 2147483647) * ((c % 2147483647 * 48271 + 7919 * k + 1) % 2147483647) % 2147483647
def sp_mixed : Sp := fun vs H Q _ => ∃ c k, vs = [.int c, .int k] ∧ Q (.int (mixN c k)) H
def sp_cell_at (K : PySem.W.Frag) : Sp := fun vs H Q _ => ∃ (p : Addr) (ns : List Int) (k : Int), vs = [.ref p, .int k] ∧ SqL K H p (ns.map V.int) ∧ 0 ≤ k ∧ Q (.int (ns.getD k.toNat 0)) H
def T62 : List Nat := [48, 49, 50, 51, 52, 53, 54, 55, 56, 57, 97, 98, 99, 100, 101, 102, 103, 104, 105, 106, 107, 108, 109, 110, 111, 112, 113, 114, 115, 116, 117, 118, 119, 120, 121, 122, 65, 66, 67, 68, 69, 70, 71, 72, 73, 74, 75, 76, 77, 78, 79, 80, 81, 82, 83, 84, 85, 86, 87, 88, 89, 90]
def T34 : List Nat := [32, 33, 34, 35, 36, 38, 39, 40, 41, 42, 43, 44, 45, 46, 47, 58, 59, 60, 61, 62, 63, 64, 91, 92, 93, 94, 95, 96, 123, 124, 125, 126, 10, 9]
def T96 : List Nat := T62 ++ T34
def sgn (n m : Int) : Nat := T96.getD (n % m).toNat 0
def sp_sign : Sp := fun vs H Q _ => ∃ n m : Int, vs = [.int n, .int m] ∧ 0 < m ∧ m ≤ 96 ∧ Q (.str (S [sgn n m])) H
theorem sgn_at (n m : Int) (h0 : 0 < m) (h1 : m ≤ 96) : T96[(n % m).toNat]? = some (sgn n m) := by
  have hl : (n % m).toNat < T96.length := by
    have h2 := Int.emod_lt_of_pos n h0
    have h3 := Int.emod_nonneg n (show m ≠ 0 by omega)
    have h4 : T96.length = 96 := by decide
    omega
  show T96[(n % m).toNat]? = some (T96.getD (n % m).toNat 0)
  rw [List.getD_eq_getElem?_getD, List.getElem?_eq_getElem hl]
  rfl
/-- texts of the blank to ~ but the per cent sign -/
def okSign (c : Nat) : Bool := decide (32 ≤ c) && decide (c ≤ 126) && decide (c ≠ 37)
def sp_law (K : PySem.W.Frag) : Sp := fun vs H Q _ => ∃ (p : Addr) (ns : List Int), vs = [.ref p] ∧ SqL K H p (ns.map V.int) ∧ ns.length ≤ 63 ∧ ∀ H', Q (.bl true) H'
end L2

set_option Elab.async false
set_option linter.all false
set_option maxRecDepth 100000
set_option maxHeartbeats 4000000
namespace L2
open PySem PySem.Spec PyProof.Rows
/-! ### equal data -/
def okS (l : List Nat) : Prop := ∀ c ∈ l, c < 1114112
theorem okS_app {a b : List Nat} (ha : okS a) (hb : okS b) : okS (a ++ b) := fun c hc => (List.mem_append.mp hc).elim (ha c) (hb c)
theorem okS_sgn (n m : Int) : sgn n m < 1114112 := by
  unfold sgn
  rw [List.getD_eq_getElem?_getD]
  cases h : T96[(n % m).toNat]? with
  | none => decide
  | some c =>
    have key : ∀ c ∈ T96, c < 1114112 := by decide +kernel
    exact key c (List.mem_of_getElem? h)
def wd (n : Nat) (d : PyData) : Prop := d.canLay0 = true ∧ d.depth ≤ n
theorem wd_int (n : Nat) (i : Int) : wd n (.int i) := ⟨rfl, Nat.zero_le _⟩
theorem wd_all {n : Nat} : ∀ {ds : List PyData}, (∀ d ∈ ds, wd n d) → PyData.canLayAll0 ds = true ∧ PyData.depthAll ds ≤ n
  | [], _ => ⟨rfl, Nat.zero_le _⟩
  | d :: r, h => by
    obtain ⟨h1, h2⟩ := h d List.mem_cons_self
    obtain ⟨h3, h4⟩ := wd_all (n := n) (ds := r) fun x hx => h x (List.mem_cons_of_mem _ hx)
    refine ⟨?_, ?_⟩
    · rw [PyData.canLayAll0, h1, h3]; rfl
    · rw [PyData.depthAll]; exact Nat.max_le.mpr ⟨h2, h4⟩
theorem wd_list {n : Nat} {ds : List PyData} (h : ∀ d ∈ ds, wd n d) : wd (n + 1) (.list ds) := by
  obtain ⟨h1, h2⟩ := wd_all h
  exact ⟨by rw [PyData.canLay0]; exact h1, by rw [PyData.depth]; omega⟩
theorem wd.shaped {n : Nat} {d : PyData} (h : wd n d) (hn : n ≤ 64 := by decide) : SeqAt.shaped d = true := by
  unfold SeqAt.shaped
  rw [h.1, decide_eq_true (Nat.le_trans h.2 hn)]
  rfl
theorem rNeq_same {K : PySem.W.Frag} {H : Hp} {Q : VK} {x y : V} {n : Nat} {d : PyData} (h1 : Den K H x d) (h2 : Den K H y d) (hw : wd n d) (hr : (isRef x || isRef y) = true) (q : Q (.bl false) H) (hn : n ≤ 64 := by decide) : rNeq K x y H Q :=
  rNeq_d hr h1 h2 (hw.shaped hn) (hw.shaped hn) (by rw [SeqAt.eqv_refl d hw.1]; exact q)
theorem rEqq_same {K : PySem.W.Frag} {H : Hp} {Q : VK} {x y : V} {n : Nat} {d : PyData} (h1 : Den K H x d) (h2 : Den K H y d) (hw : wd n d) (hr : (isRef x || isRef y) = true) (q : Q (.bl true) H) (hn : n ≤ 64 := by decide) : rEqq K x y H Q :=
  rEqq_d hr h1 h2 (hw.shaped hn) (hw.shaped hn) (by rw [SeqAt.eqv_refl d hw.1]; exact q)
theorem denAll_ints {K : PySem.W.Frag} {H : Hp} : ∀ ns : List Int, DenAll K H (ns.map V.int) (ns.map PyData.int)
  | [] => .nil
  | n :: r => .cons (.int n) (denAll_ints r)
theorem den_ints {K : PySem.W.Frag} {H : Hp} {p : Addr} {ns : List Int} (h : SqL K H p (ns.map V.int)) : Den K H (.ref p) (.list (ns.map PyData.int)) := .lst h (denAll_ints ns)
theorem wd_ints (ns : List Int) : wd 1 (.list (ns.map PyData.int)) := wd_list fun d hd => by
  obtain ⟨n, _, rfl⟩ := List.mem_map.mp hd
  exact wd_int 0 n
/-! ### a list that stays, whatever is done to the objects at A -/
def Scr (K : PySem.W.Frag) (H : Hp) (A : List Addr) (p : Addr) (xs : List V) : Prop := (SqL K H p xs ∧ p ∉ A) ∨ ∀ H', SqL K H' p xs
theorem Scr.chg {K : PySem.W.Frag} {H H' : Hp} {A : List Addr} {p : Addr} {xs : List V} (h : Scr K H A p xs) (c : Chg A H H') : Scr K H' A p xs := by
  rcases h with ⟨h, hp⟩ | h
  · refine .inl ⟨?_, hp⟩
    rcases h with (h | ⟨o, h⟩) | h
    · exact .inl (.inl (c.keep _ _ h hp))
    · exact .inl (.inr ⟨o, c.keep _ _ h hp⟩)
    · exact .inr h
  · exact .inr h
theorem Scr.mono {K : PySem.W.Frag} {H : Hp} {A B : List Addr} {p : Addr} {xs : List V} (h : Scr K H A p xs) (s : ∀ b ∈ B, b ∈ A) : Scr K H B p xs := h.elim (fun h => .inl ⟨h.1, fun z => h.2 (s _ z)⟩) .inr
theorem Scr.of {K : PySem.W.Frag} {H : Hp} {A : List Addr} {p : Addr} {xs : List V} (h : SqL K H p xs) (f : ∀ b ∈ A, H b = none) : Scr K H A p xs := by
  rcases h with (h' | ⟨o, h'⟩) | h'
  · exact .inl ⟨.inl (.inl h'), fun z => by rw [f p z] at h'; cases h'⟩
  · exact .inl ⟨.inl (.inr ⟨o, h'⟩), fun z => by rw [f p z] at h'; cases h'⟩
  · exact .inr fun _ => .inr h'
/-! ### lists of tuples of plain values -/
def scalD : V → PyData
  | .bl b => .bool b
  | .int i => .int i
  | .str x => .str x
  | _ => .none
def okV : V → Prop
  | .str x => okS x.cps.toList
  | _ => True
/-- the tuples at these addresses -/
def TupsAt (H : Hp) : List Addr → List (List V) → Prop := Paired fun t xs => H t = some (.tup xs)
def LTups (H : Hp) (D : Addr) (rows : List (List V)) : Prop := ∃ ts, H D = some (.lst (ts.map V.ref)) ∧ TupsAt H ts rows
theorem TupsAt.chg {A : List Addr} {H H' : Hp} {ts : List Addr} {rows : List (List V)} (h : TupsAt H ts rows) (c : Chg A H H') : TupsAt H' ts rows := Paired.mapP h fun _ _ e => c.tup _ _ e
theorem LTups.chg {A : List Addr} {H H' : Hp} {D : Addr} {rows : List (List V)} (h : LTups H D rows) (c : Chg A H H') (hD : D ∉ A) : LTups H' D rows := by
  obtain ⟨ts, e, t⟩ := h
  exact ⟨ts, c.keep _ _ e hD, t.chg c⟩
theorem LTups.same {H H' : Hp} {D : Addr} {rows : List (List V)} (h : LTups H D rows) (s : Same H H') : LTups H' D rows := h.chg (A := []) (Chg.of_same s) (by simp)
theorem TupsAt.get {H : Hp} {ts : List Addr} {rows : List (List V)} (h : TupsAt H ts rows) : ∀ {i : Nat} {t : Addr}, ts[i]? = some t → ∃ xs, rows[i]? = some xs ∧ H t = some (.tup xs) := by
  unfold TupsAt at h
  induction h with
  | nil => intro i t e; simp at e
  | @cons a b as bs e r ih =>
    intro i t q
    cases i with
    | zero => simp at q; subst q; exact ⟨b, rfl, e⟩
    | succ i => simpa using ih (by simpa using q)
theorem TupsAt.length {H : Hp} {ts : List Addr} {rows : List (List V)} (h : TupsAt H ts rows) : ts.length = rows.length := Paired.length h
theorem TupsAt.snoc {H : Hp} {ts : List Addr} {rows : List (List V)} {t : Addr} {xs : List V} (h : TupsAt H ts rows) (e : H t = some (.tup xs)) : TupsAt H (ts ++ [t]) (rows ++ [xs]) := by
  unfold TupsAt at h ⊢
  induction h with
  | nil => exact .cons e .nil
  | cons e' r ih => exact .cons e' ih
theorem TupsAt.filter {H : Hp} {ts : List Addr} {rows : List (List V)} (h : TupsAt H ts rows) (p : Addr → Bool) (q : List V → Bool) (hpq : ∀ t xs, H t = some (.tup xs) → t ∈ ts → p t = q xs) : TupsAt H (ts.filter p) (rows.filter q) := by
  unfold TupsAt at h ⊢
  induction h with
  | nil => exact .nil
  | @cons t xs ts rows e r ih =>
    have ih' := ih fun t' xs' e' m' => hpq t' xs' e' (List.mem_cons_of_mem _ m')
    have hp := hpq t xs e List.mem_cons_self
    by_cases hq : q xs = true
    · rw [List.filter_cons_of_pos hq, List.filter_cons_of_pos (hp.trans hq)]
      exact .cons e ih'
    · rw [List.filter_cons_of_neg hq, List.filter_cons_of_neg (by rw [hp]; exact hq)]
      exact ih'
theorem TupsAt.take {H : Hp} {ts : List Addr} {rows : List (List V)} (h : TupsAt H ts rows) (n : Nat) : TupsAt H (ts.take n) (rows.take n) := by
  unfold TupsAt at h ⊢
  induction h generalizing n with
  | nil => simp; exact .nil
  | cons e r ih =>
    cases n with
    | zero => exact .nil
    | succ n => exact .cons e (ih n)
/-- rising lists with the same members -/
theorem lt_ext : ∀ {l m : List Int}, l.Pairwise (· < ·) → m.Pairwise (· < ·) → (∀ z, z ∈ l ↔ z ∈ m) → l = m
  | [], [], _, _, _ => rfl
  | [], y :: m, _, _, h => by have := (h y).mpr List.mem_cons_self; simp at this
  | x :: l, [], _, _, h => by have := (h x).mp List.mem_cons_self; simp at this
  | x :: l, y :: m, hl, hm, h => by
    rw [List.pairwise_cons] at hl hm
    have e : x = y := by
      have h1 := (h x).mp List.mem_cons_self
      have h2 := (h y).mpr List.mem_cons_self
      rcases List.mem_cons.mp h1 with e | e
      · exact e
      · rcases List.mem_cons.mp h2 with e' | e'
        · exact e'.symm
        · have a := hm.1 x e
          have b := hl.1 y e'
          omega
    subst e
    rw [lt_ext hl.2 hm.2 fun z => ⟨fun hz => ?_, fun hz => ?_⟩]
    · rcases List.mem_cons.mp ((h z).mp (List.mem_cons_of_mem _ hz)) with e | e
      · have := hl.1 z hz; omega
      · exact e
    · rcases List.mem_cons.mp ((h z).mpr (List.mem_cons_of_mem _ hz)) with e | e
      · have := hm.1 z hz; omega
      · exact e
end L2

set_option Elab.async false
set_option linter.all false
set_option maxRecDepth 100000
set_option maxHeartbeats 4000000
namespace L2
open PySem PySem.Spec PyProof.Rows
/-! ### a row, as it stands -/
abbrev Ltr := List Nat × Option (List Nat) × Int
def wV : Option (List Nat) → V
  | none => .non
  | some l => .str (S l)
def letV (x : Ltr) : List V := [.str (S x.1), wV x.2.1, .int x.2.2]
structure RowM where
  first : Int
  last : Int
  drawn : Int
  L : Int → Option Ltr
def row0 : RowM := ⟨0, 0, 0, fun _ => none⟩
def rowF (M : RowM) (d : Addr) : List (Str × V) := [("first", .int M.first), ("end", .int M.last), ("drawn", .int M.drawn), ("letters", .ref d)]
/-- what a value says of a place: nothing, or the letter's tuple -/
def LetVal (H : Hp) : Option Ltr → V → Prop
  | none, v => v = .non
  | some x, v => ∃ t, v = .ref t ∧ H t = some (.tup (letV x))
def LetsAt (H : Hp) (kvs : List (Key × V)) (L : Int → Option Ltr) : Prop := ∀ p : Int, LetVal H (L p) ((valV kvs (.inl p)).getD .non) ∧ ((valV kvs (.inl p)).isSome = (L p).isSome)
theorem LetVal.chg {A : List Addr} {H H' : Hp} {o : Option Ltr} {v : V} (c : Chg A H H') (h : LetVal H o v) : LetVal H' o v := by
  cases o with
  | none => exact h
  | some x => obtain ⟨t, e, ht⟩ := h; exact ⟨t, e, c.tup _ _ ht⟩
theorem LetsAt.chg {A : List Addr} {H H' : Hp} {kvs : List (Key × V)} {L : Int → Option Ltr} (c : Chg A H H') (h : LetsAt H kvs L) : LetsAt H' kvs L := fun p => ⟨(h p).1.chg c, (h p).2⟩
theorem LetsAt.none {H : Hp} {kvs : List (Key × V)} {L : Int → Option Ltr} (h : LetsAt H kvs L) {p : Int} (e : L p = Option.none) : valV kvs (.inl p) = Option.none := by
  have := (h p).2
  rw [e] at this
  simpa using this
theorem LetsAt.some {H : Hp} {kvs : List (Key × V)} {L : Int → Option Ltr} (h : LetsAt H kvs L) {p : Int} {x : Ltr} (e : L p = Option.some x) : ∃ t, valV kvs (.inl p) = Option.some (.ref t) ∧ H t = Option.some (.tup (letV x)) := by
  obtain ⟨h1, h2⟩ := h p
  rw [e] at h1 h2
  obtain ⟨v, hv⟩ := Option.isSome_iff_exists.mp (h2.trans rfl)
  rw [hv] at h1
  obtain ⟨t, et, ht⟩ := h1
  refine ⟨t, ?_, ht⟩
  rw [hv]
  exact congrArg Option.some et
theorem LetsAt.put {H : Hp} {kvs : List (Key × V)} {L : Int → Option Ltr} (h : LetsAt H kvs L) {p : Int} {x : Ltr} {t : Addr} (ht : H t = Option.some (.tup (letV x))) : LetsAt H (putK kvs (.inl p) (.ref t)) (fun q => if q = p then Option.some x else L q) := by
  intro q
  rw [valV_put]
  by_cases e : q = p
  · subst e
    rw [if_pos rfl]
    dsimp only
    rw [if_pos rfl]
    exact ⟨⟨t, rfl, ht⟩, rfl⟩
  · have e' : ¬ (Sum.inl q : Key) = Sum.inl p := fun z => e (Sum.inl.inj z)
    rw [if_neg e']
    dsimp only
    rw [if_neg e]
    exact h q
theorem valV_drop {κ : Type} [DecidableEq κ] (kvs : List (κ × V)) (k j : κ) : valV (dropK kvs k) j = if j = k then Option.none else valV kvs j := by
  induction kvs with
  | nil => rw [show dropK ([] : List (κ × V)) k = [] from rfl, valV_nil]; split <;> rfl
  | cons p r ih =>
    by_cases e : p.1 = k
    · rw [dropK_pos e, ih]
      by_cases ej : j = k
      · rw [if_pos ej, if_pos ej]
      · rw [if_neg ej, if_neg ej, valV_neg (fun z => ej (z.symm.trans e))]
    · rw [dropK_neg e]
      by_cases ep : p.1 = j
      · rw [valV_pos ep, valV_pos ep, if_neg (fun z => e (ep.trans z))]
      · rw [valV_neg ep, valV_neg ep, ih]
theorem LetsAt.drop {H : Hp} {kvs : List (Key × V)} {L : Int → Option Ltr} (h : LetsAt H kvs L) (p : Int) : LetsAt H (dropK kvs (.inl p)) (fun q => if q = p then Option.none else L q) := by
  intro q
  rw [valV_drop]
  by_cases e : q = p
  · subst e
    rw [if_pos rfl]
    dsimp only
    rw [if_pos rfl]
    exact ⟨rfl, rfl⟩
  · have e' : ¬ (Sum.inl q : Key) = Sum.inl p := fun z => e (Sum.inl.inj z)
    rw [if_neg e']
    dsimp only
    rw [if_neg e]
    exact h q
structure RowAt (C : Addr) (H : Hp) (r d : Addr) (M : RowM) : Prop where
  obj : ∃ dx, H r = some (.ins C dx (rowF M d))
  dict : ∃ kvs, H d = some (.dK kvs) ∧ (kvs.length : Int) ≤ M.last ∧ LetsAt H kvs M.L
  f0 : 0 ≤ M.first
  fl : M.first ≤ M.last
  dr : 0 ≤ M.drawn
  within : ∀ p, (M.L p).isSome = true → M.first ≤ p ∧ p < M.last
theorem RowAt.chg {A : List Addr} {C : Addr} {H H' : Hp} {r d : Addr} {M : RowM} (h : RowAt C H r d M) (c : Chg A H H') (hr : r ∉ A) (hd : d ∉ A) : RowAt C H' r d M := by
  obtain ⟨dx, e⟩ := h.obj
  obtain ⟨kvs, e2, l, t⟩ := h.dict
  exact ⟨⟨dx, c.keep _ _ e hr⟩, ⟨kvs, c.keep _ _ e2 hd, l, t.chg c⟩, h.f0, h.fl, h.dr, h.within⟩
theorem RowAt.ne {C : Addr} {H : Hp} {r d : Addr} {M : RowM} (h : RowAt C H r d M) : r ≠ d := by
  obtain ⟨dx, e⟩ := h.obj
  obtain ⟨kvs, e2, _⟩ := h.dict
  exact ne_of e e2 (by intro z; cases z)
def RowM.add (M : RowM) (x : Ltr) : RowM := { M with last := M.last + 1, L := fun q => if q = M.last then some x else M.L q }
def RowM.out (M : RowM) (p : Int) : RowM := { M with L := fun q => if q = p then none else M.L q }
def RowM.upto (M : RowM) (p : Int) : Int := min p M.last
def RowM.cut (M : RowM) (p : Int) : RowM := { M with first := max M.first (M.upto p), L := fun q => if q < M.upto p then none else M.L q }
def RowM.raised (M : RowM) (p : Int) : RowM := { M with drawn := max M.drawn p }
/-- the places from lo on, n of them, where a letter stands -/
def RowM.standing (M : RowM) (lo : Int) (n : Nat) : List Int := ((List.range n).map fun (i : Nat) => lo + (i : Int)).filter fun q => (M.L q).isSome
def okL (x : Ltr) : Prop := okS x.1 ∧ ∀ w, x.2.1 = some w → okS w
def wordD : Option (List Nat) → PyData
  | none => .none
  | some l => .str (S l)
def letD (x : Ltr) : PyData := .tuple [.str (S x.1), wordD x.2.1, .int x.2.2]
theorem standing_from {M : RowM} (f0 : 0 ≤ M.first) (hw : ∀ p, (M.L p).isSome = true → M.first ≤ p) (u : Int) : M.standing 0 u.toNat = M.standing M.first (u - M.first).toNat := by
  unfold RowM.standing
  by_cases h : u ≤ M.first
  · rw [show (u - M.first).toNat = 0 by omega]
    simp only [List.range_zero, List.map_nil, List.filter_nil]
    rw [List.filter_eq_nil_iff]
    intro z hz hs
    obtain ⟨i, hi, rfl⟩ := List.mem_map.mp hz
    have := hw _ hs
    have := List.mem_range.mp hi
    omega
  · obtain ⟨f, hf⟩ : ∃ f : Nat, M.first = (f : Int) := ⟨M.first.toNat, by omega⟩
    have e : u.toNat = f + (u - M.first).toNat := by omega
    rw [e, List.range_add, List.map_append, List.filter_append]
    have e1 : List.filter (fun q => (M.L q).isSome) (List.map (fun (i : Nat) => (0 : Int) + (i : Int)) (List.range f)) = [] := by
      rw [List.filter_eq_nil_iff]
      intro z hz hs
      obtain ⟨i, hi, rfl⟩ := List.mem_map.mp hz
      have := hw _ hs
      have := List.mem_range.mp hi
      omega
    rw [e1, List.nil_append, List.map_map]
    congr 1
    refine List.map_congr_left fun i _ => ?_
    show (0 : Int) + ((f + i : Nat) : Int) = M.first + (i : Int)
    omega
theorem standing_lt (M : RowM) (lo : Int) (n : Nat) : (M.standing lo n).Pairwise (· < ·) := by
  unfold RowM.standing
  refine List.Pairwise.filter _ ?_
  rw [List.pairwise_map]
  refine List.Pairwise.imp (fun {a b} h => ?_) List.pairwise_lt_range
  omega
theorem standing_mem {M : RowM} {lo : Int} {n : Nat} {z : Int} : z ∈ M.standing lo n ↔ (lo ≤ z ∧ z < lo + (n : Int)) ∧ (M.L z).isSome = true := by
  unfold RowM.standing
  rw [List.mem_filter, List.mem_map]
  constructor
  · rintro ⟨⟨i, hi, rfl⟩, h⟩
    have := List.mem_range.mp hi
    exact ⟨by omega, h⟩
  · rintro ⟨⟨h1, h2⟩, h⟩
    exact ⟨⟨(z - lo).toNat, List.mem_range.mpr (by omega), by omega⟩, h⟩
theorem standing_succ (M : RowM) (lo : Int) (i : Nat) : M.standing lo (i + 1) = M.standing lo i ++ (if (M.L (lo + (i : Int))).isSome = true then [lo + (i : Int)] else []) := by
  unfold RowM.standing
  rw [List.range_succ, List.map_append, List.filter_append]
  congr 1
  simp only [List.map_cons, List.map_nil, List.filter_cons, List.filter_nil]
theorem standing_pre (M : RowM) (lo : Int) {i n : Nat} (h : i ≤ n) : ∃ more, M.standing lo n = M.standing lo i ++ more := by
  obtain ⟨k, rfl⟩ : ∃ k, n = i + k := ⟨n - i, by omega⟩
  clear h
  induction k with
  | zero => exact ⟨[], by simp⟩
  | succ k ih =>
    obtain ⟨m, hm⟩ := ih
    rw [← Nat.add_assoc, standing_succ, hm, List.append_assoc]
    exact ⟨_, rfl⟩
theorem standing_len (M : RowM) (lo : Int) (n : Nat) : (M.standing lo n).length ≤ n := by
  unfold RowM.standing
  exact Nat.le_trans (List.length_filter_le _ _) (by simp)
/-- what is told of a place -/
def RowM.rowV (M : RowM) (p : Int) : List V := match M.L p with
  | some x => [.int p, .str (S x.1), wV x.2.1]
  | none => []
def RowM.seenP (M : RowM) (start limit most : Int) : List Int := (M.standing (max start M.first) (min limit M.last - max start M.first).toNat).take most.toNat
def sp_row_seen (C : Addr) : Sp := fun vs H Q _ => ∃ (r d : Addr) (M : RowM) (st li mo : Int), vs = [.ref r, .int st, .int li, .int mo] ∧ RowAt C H r d M ∧ M.last ≤ 100000 ∧ 0 ≤ st ∧ st ≤ 10 ^ 12 ∧ 0 ≤ li ∧ 0 ≤ mo ∧
  ∀ D H', H D = none → Same H H' → LTups H' D ((M.seenP st li mo).map M.rowV) → Q (.ref D) H'
def sp_row_init (C : Addr) : Sp := fun vs H Q _ => ∃ x dx, vs = [.ref x] ∧ H x = some (.ins C dx []) ∧ ∀ d H', H d = none → d ≠ x → Chg [x] H H' → RowAt C H' x d row0 → Q .non H'
def sp_row_add (C : Addr) : Sp := fun vs H Q _ => ∃ (r d : Addr) (M : RowM) (x : Ltr), vs = [.ref r, .str (S x.1), wV x.2.1, .int x.2.2] ∧ RowAt C H r d M ∧ M.last ≤ 100000 ∧ ∀ H', Chg [r, d] H H' → RowAt C H' r d (M.add x) → Q (.int M.last) H'
def sp_row_at (C : Addr) : Sp := fun vs H Q _ => ∃ (r d : Addr) (M : RowM) (p : Int), vs = [.ref r, .int p] ∧ RowAt C H r d M ∧ ∀ v, LetVal H (M.L p) v → Q v H
def sp_row_out (C : Addr) : Sp := fun vs H Q _ => ∃ (r d : Addr) (M : RowM) (p : Int), vs = [.ref r, .int p] ∧ RowAt C H r d M ∧ ∀ H', Chg [d] H H' → RowAt C H' r d (M.out p) → Q (.bl (M.L p).isSome) H'
def sp_row_cut (C : Addr) : Sp := fun vs H Q _ => ∃ (r d : Addr) (M : RowM) (p : Int), vs = [.ref r, .int p] ∧ RowAt C H r d M ∧ M.last ≤ 100000 ∧ -100000000000 ≤ p ∧
  ∀ D H', H D = none → Chg [r, d] H H' → RowAt C H' r d (M.cut p) → H' D = some (.lst ((M.standing M.first (M.upto p - M.first).toNat).map V.int)) → Q (.ref D) H'
def sp_row_raise (C : Addr) : Sp := fun vs H Q _ => ∃ (r d : Addr) (M : RowM) (p : Int), vs = [.ref r, .int p] ∧ RowAt C H r d M ∧ ∀ H', Chg [r] H H' → RowAt C H' r d (M.raised p) → Q .non H'
theorem row_make {C : Addr} {H : Hp} {P : Addr → Hp → Prop} (h : ∀ x d H', H x = none → H d = none → x ≠ d → Same H H' → RowAt C H' x d row0 → P x H') :
    ∀ (x dx : Addr), H x = none → H dx = none → dx ≠ x → (∃ x_1, upd (upd H dx (HO.own x)) x (HO.ins C dx []) x = some (HO.ins C x_1 [])) ∧
      ∀ (d : Addr) (H' : Hp), upd (upd H dx (HO.own x)) x (HO.ins C dx []) d = none → d ≠ x → Chg [x] (upd (upd H dx (HO.own x)) x (HO.ins C dx [])) H' → RowAt C H' x d row0 → P x H' := by
  intro x dx hx hdx hne
  refine ⟨⟨dx, upd_same⟩, fun d H' hd hdx' c R => ?_⟩
  have hd1 : d ≠ dx := fun z => by rw [upd_ne hdx', z, upd_same] at hd; cases hd
  rw [upd_ne hdx', upd_ne hd1] at hd
  refine h x d H' hx hd (Ne.symm hdx') (fun b o hb => ?_) R
  have hb1 : b ≠ x := ne_of_none hb hx
  have hb2 : b ≠ dx := ne_of_none hb hdx
  exact c.keep _ _ (by rw [upd_ne hb1, upd_ne hb2]; exact hb) (by simp [hb1])
theorem rowF_first (M : RowM) (d : Addr) : (rowF M d).lookup (Str.ofString "first") = some (.int M.first) := rfl
theorem rowF_end (M : RowM) (d : Addr) : (rowF M d).lookup (Str.ofString "end") = some (.int M.last) := rfl
theorem rowF_drawn (M : RowM) (d : Addr) : (rowF M d).lookup (Str.ofString "drawn") = some (.int M.drawn) := rfl
theorem rowF_letters (M : RowM) (d : Addr) : (rowF M d).lookup (Str.ofString "letters") = some (.ref d) := rfl
theorem rowF_add (M : RowM) (d : Addr) : (rowF M d).lookup (Str.ofString "add") = none := rfl
theorem rowF_at (M : RowM) (d : Addr) : (rowF M d).lookup (Str.ofString "at") = none := rfl
theorem rowF_out (M : RowM) (d : Addr) : (rowF M d).lookup (Str.ofString "take_out") = none := rfl
theorem rowF_raise (M : RowM) (d : Addr) : (rowF M d).lookup (Str.ofString "raise_drawn") = none := rfl
theorem rowF_seen (M : RowM) (d : Addr) : (rowF M d).lookup (Str.ofString "seen") = none := rfl
end L2

set_option Elab.async false
set_option linter.all false
set_option maxRecDepth 100000
set_option maxHeartbeats 4000000
namespace L2
open PySem PySem.Spec PyProof.Rows

/-! ### list(range(..)) -/
section
variable {X : Cx}
def rngV (lo : Int) (n : Nat) : List V := (List.range n).map fun (i : Nat) => V.int (lo + (i : Int))
def rngI (lo : Int) (n : Nat) : List Int := (List.range n).map fun (i : Nat) => lo + (i : Int)
def tLR1 (ta : TA) : TE := fun σ H Q => ta σ H fun vs H1 => ∃ j : Int, vs = [.int j] ∧ -(2 ^ 62) ≤ j ∧ j ≤ sizeLine ∧ ∀ l, H1 l = none → Q (.ref l) (upd H1 l (.lst (rngV 0 j.toNat)))
def tLR2 (ta : TA) : TE := fun σ H Q => ta σ H fun vs H1 => ∃ i j : Int, vs = [.int i, .int j] ∧ (-(2 ^ 62) ≤ i ∧ i < 2 ^ 62 ∧ -(2 ^ 62) ≤ j ∧ j < 2 ^ 62) ∧ j - i ≤ sizeLine ∧ ∀ l, H1 l = none → Q (.ref l) (upd H1 l (.lst (rngV i (j - i).toNat)))
/-! ### sorted(list of ints) -/
def rSortI (K : PySem.W.Frag) : List V → Hp → VK → Prop := fun xs H Q => ∃ (p : Addr) (ns : List Int), xs = [.ref p] ∧ SqL K H p (ns.map V.int) ∧ ns.length < 64 ∧
  ∀ l (ms : List Int), H l = none → ms.Perm ns → ms.Pairwise (· ≤ ·) → Q (.ref l) (upd H l (.lst (ms.map V.int)))
end

/-! ### len(set(list of texts)) -/
def addS (l : List Str) (x : Str) : List Str := if l.any (· == x) then l else l ++ [x]
def onceS (l : List Str) : List Str := l.foldl addS []
section
variable {prog : Program} {w : World} {A : Around} {s : Shared}
end
section
variable {prog : Program} {w : World} {A : Around} {E : Value → Shared → Prop} {s : Shared}
def emptySet (led : Bool) : Obj := { cls := .type "set", dict := none, data := .set #[] 0 (.fresh 0 0 led) }
/-- what the init of a set leaves -/
def SetDone (prog : Program) (w : World) (s : Shared) (ls : List Str) (s₂ : Shared) : Prop := ∃ h' tk, s₂ = { s with heap := h', toks := tk } ∧ h'.SetOf (strKind prog w) s.heap.objs.size (fun x => (onceS ls).any (· == x)) (onceS ls).length ∧
  ∀ b o, s.heap.get? b = some o → h'.get? b = some o
end
section
variable {X : Cx}
def tLenSet (K : PySem.W.Frag) (te : TE) : TE := fun σ H Q => te σ H fun x H1 => ∃ (p : Addr) (ls : List Str), x = .ref p ∧ SqL K H1 p (ls.map V.str) ∧ ls.length ≤ 4000 ∧ Q (.int (onceS ls).length) H1
/-- a tuple of the module -/
def TConst (K : PySem.W.Frag) (mg : Str → Option Value) (x : Str) (xs : List V) : Prop := ∃ p, mg x = some (.ref p) ∧ ∀ H, SqT K H p xs
def tCT (K : PySem.W.Frag) (xs : List V) : TE := fun _ H Q => ∀ p, (∀ H', SqT K H' p xs) → Q (.ref p) H
end
end L2

set_option Elab.async false
set_option linter.all false
set_option maxRecDepth 100000
set_option maxHeartbeats 4000000
namespace L2
open PySem PySem.Spec PyProof.Rows
/-! ### a comprehension whose target is a tuple of names -/
def hideT (xs : List Str) (y : Str) : Str := if y ∈ xs then Str.empty else y
abbrev blkT (X : Cx) (xs : List Str) (scope : Scope) (M : List Str) (C : Addr) (s₀ : Shared) (H₀ : Hp) (fp : List Addr) : Cx :=
  { X with N := xs ++ M, s₀ := s₀, H₀ := H₀, env := compEnvC scope (closOf X.env.cells scope.names []) C X.env, outer := X.stack, stack := X.stack, ex := fp, fn := fun _ => false, pn := [], xe := fun _ _ => False }
structure CompOkT (N M : List Str) (sc : Scope) (xs : List Str) (scope : Scope) : Prop where
  kind : scope.kind = .function
  cell : ∀ y ∈ scope.names, y.2 ≠ .cell
  names : ∀ y ∈ scope.names, y.2 = .local → scope.names.lookup y.1 = some .local
  free : ∀ y ∈ scope.names, y.2 = .free → sc.names.lookup y.1 = some .cell ∨ sc.names.lookup y.1 = some .free
  hid : N.map (hideT xs) = M
  others : ∀ y ∈ M, scope.names.lookup y ≠ some .local
  void : scope.names.lookup Str.empty = none
def tCompT (n : Nat) (wi : TI) (g : TG) (tt : TT) (te : TE) : TE := fun σ H Q => wi σ H fun J H1 => ∀ D, H1 D = none → ∃ W : Nat → Nat → List V → Hp → Prop, (∃ m, W 0 m [] (upd H1 D (.lst []))) ∧ ∀ i m ys H2, W i m ys H2 →
  (J.stop i H2 ∧ H2 D = some (.lst ys) ∧ Q (.ref D) H2) ∨ (J.go i H2 ∧ ys.length < sizeLine ∧ ∀ x H3, J.yld i H2 x H3 → ∀ o : St, o.length = n → g x (o ++ σ) H3 fun σ' H3' => (∃ o' : St, o'.length = n ∧ σ' = o' ++ σ) ∧ tt σ' H3' fun b H4 =>
    if b = true then te σ' H4 fun y H5 => H5 D = some (.lst ys) ∧ ∃ m', m' < m ∧ W (i + 1) m' (ys ++ [y]) (upd H5 D (.lst (ys ++ [y]))) else ∃ m', m' < m ∧ W (i + 1) m' ys H4)
section
variable {X : Cx} {pins : List (Addr × Obj)} {σ : St} {H2 : Hp} {s2 : Shared} {E : Value → Shared → Prop}
variable {elt iter tg : Expr} {ifs : List Expr} {xs : List Str} {pos : Pos} {g : TG} {N M : List Str} {sc scope : Scope} {tt : TT} {te : TE} {it : Addr} {fp : List Addr} {tn : Nat → Heap → Prop} {J : It}
end
section
variable {X : Cx} {elt iter c tg : Expr} {ifs : List Expr} {xs : List Str} {y : Str} {py pos spos : Pos} {scope sc : Scope} {N M : List Str} {wi : TI} {tt : TT} {te : TE} {g : TG}
end
end L2

set_option Elab.async false
set_option linter.all false
set_option maxRecDepth 100000
set_option maxHeartbeats 4000000
namespace L2
open PySem PySem.Spec PyProof.Rows
/-! ### a dict is walked: frozen while the loop runs, thawed behind it -/
section
variable {X : Cx} {pins : List (Addr × Obj)} {σ : St} {H : Hp} {s : Shared} {d : Addr} {kvs : List (Key × V)} {od : Obj}
theorem Inv.reH {H' : Hp} (I : Inv X pins σ H s) (same : ∀ b, b ≠ d → H' b = H b) (hd : ∃ o, H d = some o) (hd' : ∃ o, H' d = some o) (nt : ∀ xs, H d ≠ some (.tup xs)) (no : ∀ y, H d ≠ some (.own y))
    (b1 : ∀ xs, X.H₀ d ≠ some (.tup xs)) (b2 : ∀ o u, X.H₀ d ≠ some (.frz o u)) (b3 : ∀ ps, X.H₀ d ≠ some (.tbl ps)) (new : ∀ o, H' d = some o → ObjOk X.prog X.w H' s.heap d o) : Inv X pins σ H' s := by
  obtain ⟨o0, e0⟩ := hd
  have nn : ∀ b, H b = none → H' b = none := fun b hb => by
    rw [same b (fun z => by rw [z, e0] at hb; cases hb)]; exact hb
  refine ⟨I.ok, I.os, I.bare, ⟨I.base.keep, I.base.slot, fun b o e n hx => nn b (I.base.free b o e n hx), I.base.there, fun b xs e => ?_, fun b o u e => ?_, fun b ps e => ?_⟩, I.loc, I.cell, nn _ I.free, fun x c e => nn _ (I.freeC x c e), fun p hp => ?_, fun b u e => ?_, I.len⟩
  · rw [same b (fun z => b1 xs (by rw [← z]; exact e))]; exact I.base.tups b xs e
  · rw [same b (fun z => b2 o u (by rw [← z]; exact e))]; exact I.base.frzs b o u e
  · rw [same b (fun z => b3 ps (by rw [← z]; exact e))]; exact I.base.tbls b ps e
  · obtain ⟨p1, p2, p3⟩ := I.pin p hp
    exact ⟨p1, nn _ p2, p3⟩
  · by_cases hb : b = d
    · subst hb; exact new u e
    · rw [same b hb] at e
      refine (I.hok b u e).stay (fun c v _ q => q) (fun c q => ?_) fun c xs q => ?_
      · rw [same c (fun z => no b (by rw [← z]; exact q))]; exact q
      · rw [same c (fun z => nt xs (by rw [← z]; exact q))]; exact q
/-- a dict that is not frozen at the entry: it may be frozen and thawed here -/
structure Cold (X : Cx) (d : Addr) : Prop where
  tup : ∀ xs, X.H₀ d ≠ some (.tup xs)
  frz : ∀ o u, X.H₀ d ≠ some (.frz o u)
  tbl : ∀ ps, X.H₀ d ≠ some (.tbl ps)
theorem Inv.cold (I : Inv X pins σ H s) (e : H d = some (.dK kvs)) : Cold X d where
  tup := fun xs z => by have q := I.base.tups d xs z; rw [e] at q; cases q
  frz := fun o u z => by have q := I.base.frzs d o u z; rw [e] at q; cases q
  tbl := fun ps z => by obtain ⟨m, q⟩ := I.base.tbls d ps z; rw [e] at q; cases q
theorem Inv.freeze (I : Inv X pins σ H s) (e : H d = some (.dK kvs)) : ∃ od, s.heap.get? d = some od ∧ Inv X pins σ (upd H d (.frz od (.dK kvs))) s := by
  have c := I.cold e
  have ok := I.hok d _ e
  obtain ⟨od, ho⟩ : ∃ od, s.heap.get? d = some od := by
    obtain ⟨_, _, _, _, o, _, _, ho, _⟩ := ok
    exact ⟨o, ho⟩
  refine ⟨od, ho, I.reH (d := d) (fun b hb => upd_ne hb) ⟨_, e⟩ ⟨_, upd_same⟩ (fun xs z => by rw [e] at z; cases z) (fun y z => by rw [e] at z; cases z) c.tup c.frz c.tbl fun o q => ?_⟩
  rw [upd_same] at q
  cases q
  exact ⟨ho, ok⟩
theorem Inv.thaw (I : Inv X pins σ H s) (c : Cold X d) (e : H d = some (.frz od (.dK kvs))) : Inv X pins σ (upd H d (.dK kvs)) s := by
  have ok := I.hok d _ e
  refine I.reH (d := d) (fun b hb => upd_ne hb) ⟨_, e⟩ ⟨_, upd_same⟩ (fun xs z => by rw [e] at z; cases z) (fun y z => by rw [e] at z; cases z) c.tup c.frz c.tbl fun o q => ?_
  rw [upd_same] at q
  cases q
  exact ok.2
theorem kV_of {P : Program} {w : World} {k : Key} {u : Value} (h : (mixKind P w).is k u = true) : RelV (kV k) u := by
  rcases keyIs_shape (show keyIs k u = true from h) with ⟨i, t, rfl, rfl⟩ | ⟨x, t, rfl, rfl⟩
  · exact ⟨t, rfl⟩
  · exact ⟨t, rfl⟩
theorem KV.getP {vs : List (Key × Value)} : ∀ {kvs : List (Key × V)} {vs : List (Key × Value)} {i : Nat} {k : Key} {x : V}, KV kvs vs → kvs[i]? = some (k, x) → ∃ u, vs[i]? = some (k, u) ∧ RelV x u
  | _, _, _, _, _, .nil, e => by simp at e
  | _, (k', u) :: _, 0, k, x, .cons r _, e => by
    simp at e
    subst e
    obtain ⟨r1, r2⟩ := r
    simp only at r1 r2
    subst r1
    exact ⟨u, rfl, r2⟩
  | _, _, i + 1, k, x, .cons _ t, e => by
    obtain ⟨u, h1, h2⟩ := KV.getP (vs := vs) (i := i) (k := k) (x := x) t (by simpa using e)
    exact ⟨u, by simpa using h1, h2⟩
end
theorem valV_nd : ∀ {kvs : List (Key × V)}, (kvs.map (·.1)).Nodup → ∀ {i : Nat} {k : Key} {x : V}, kvs[i]? = some (k, x) → valV kvs k = some x
  | [], _, i, k, x, e => by simp at e
  | p :: r, h, 0, k, x, e => by
    have e' : p = (k, x) := by simpa using e
    subst e'
    exact valV_pos rfl
  | p :: r, h, i + 1, k, x, e => by
    have e' : r[i]? = some (k, x) := by simpa using e
    rw [List.map_cons, List.nodup_cons] at h
    rw [valV_neg (fun z => h.1 (by rw [z]; exact List.mem_map.mpr ⟨_, List.mem_of_getElem? e', rfl⟩))]
    exact valV_nd h.2 e'
/-- the pairs of the dict at d -/
def Iti (d : Addr) (od : Obj) (kvs : List (Key × V)) : It :=
  ⟨fun i H => H d = some (.frz od (.dK kvs)) ∧ i < kvs.length, fun i H v H' => ∃ T k x, v = .ref T ∧ H T = none ∧ H' = upd H T (.tup [kV k, x]) ∧ kvs[i]? = some (k, x) ∧ valV kvs k = some x, fun i H => H d = some (.frz od (.dK kvs)) ∧ kvs.length ≤ i⟩
/-- its keys -/
def Itk (d : Addr) (od : Obj) (kvs : List (Key × V)) : It :=
  ⟨fun i H => H d = some (.frz od (.dK kvs)) ∧ i < kvs.length, fun i H v H' => H' = H ∧ ∃ k x, v = kV k ∧ kvs[i]? = some (k, x) ∧ valV kvs k = some x, fun i H => H d = some (.frz od (.dK kvs)) ∧ kvs.length ≤ i⟩
/-- its values -/
def Itv (d : Addr) (od : Obj) (kvs : List (Key × V)) : It :=
  ⟨fun i H => H d = some (.frz od (.dK kvs)) ∧ i < kvs.length, fun i H v H' => H' = H ∧ ∃ k, kvs[i]? = some (k, v), fun i H => H d = some (.frz od (.dK kvs)) ∧ kvs.length ≤ i⟩
/-- what the object od says -/
def Says (P : Program) (w : World) (d : Addr) (od : Obj) (kvs : List (Key × V)) (vs : List (Key × Value)) (ep : Nat) : Prop := KV kvs vs ∧ ∀ h : Heap, h.get? d = some od → h.DictAt (mixKind P w) d vs ep
theorem says_of {P : Program} {w : World} {h : Heap} {d : Addr} {od : Obj} {kvs : List (Key × V)} {H : Hp} (ok : ObjOk P w H h d (.dK kvs)) (e : h.get? d = some od) : ∃ vs ep, Says P w d od kvs vs ep ∧ (d == sysModules) = false := by
  obtain ⟨_, hs, vs, r, o, es, ep, e', c⟩ := ok
  rw [e] at e'
  cases e'
  exact ⟨vs, ep, ⟨r, fun h' e' => ⟨od, es, e', c⟩⟩, hs⟩
theorem turn_keys {P : Program} {w : World} {K : PySem.W.Frag} {tg : Expr} {d it : Addr} {od : Obj} {kvs : List (Key × V)} {vs : List (Key × Value)} {ep : Nat} (S : Says P w d od kvs vs ep) (hne : d ≠ it) :
    Turn P w K tg (Itk d od kvs) [it] it (fun i h => h.IsKeyIter it d i vs.length ep) where
  mem := by simp
  obj := fun i h st b hb => by
    have e : b = it := by simpa using hb
    subst e
    obtain ⟨o, e, c, q⟩ := st
    exact ⟨o, e, fun v z => by rw [q] at z; cases z⟩
  keep := fun i h h' st k => st.at fun o e => k it (by simp) o e
  item := by
    intro X hP hw hK hc i pins s σ H E I hf st hg
    subst hP hw hK
    obtain ⟨hd, hi⟩ := hg
    obtain ⟨hod, _⟩ := I.hok d _ hd
    have D := S.2 s.heap hod
    obtain ⟨⟨k, x⟩, hx⟩ : ∃ p, kvs[i]? = some p := ⟨kvs[i], by simp [hi]⟩
    obtain ⟨u, hu, ru⟩ := KV.getP (vs := vs) S.1 hx
    obtain ⟨f0, f1, f2, f3, f4, f5⟩ := hf it (by simp)
    refine wpAny_pyNext_dict_item st D hu fun key h' hkey st' sb => ?_
    have I1 : Inv X pins σ H { s with heap := h' } := I.turned (t' := s.toks) (fun b o hb e => sb.extBut _ _ hb e) f0 f1 f3 f4 f5
    obtain ⟨o, e, c, q⟩ := id st'
    exact ⟨key, rfl, go_of (s := { s with heap := h' }) e c q (by decide) ⟨kV k, H, I1, kV_of hkey, ⟨rfl, k, x, rfl, hx, valV_nd (by rw [KV.keys S.1]; obtain ⟨_, _, _, _, _, _, _, n⟩ := D; exact n) hx⟩, st', fun b hb => (hf b hb).1⟩⟩
  done := by
    intro X hP hw hK hc i pins s σ H E I hf st hg
    subst hP hw hK
    obtain ⟨hd, hi⟩ := hg
    obtain ⟨hod, _⟩ := I.hok d _ hd
    have D := S.2 s.heap hod
    obtain ⟨f0, f1, f2, f3, f4, f5⟩ := hf it (by simp)
    have hl : kvs.length = vs.length := Paired.length S.1
    exact wpAny_pyNext_dict_end (I.ok.hd hc) st D (by simp; omega) fun h' eb => ⟨rfl, I.turned (t' := s.toks) (fun b o hb e => eb b o hb e) f0 f1 f3 f4 f5⟩
  self := fun _ _ _ _ _ st h => wpAny_pyIter_keyiter st h
/-! the judgement: an iterator over a frozen dict has come -/
abbrev TIF := St → Hp → (Addr → Obj → List (Key × V) → It → Hp → Prop) → Prop
def PIEF (X : Cx) (pins : List (Addr × Obj)) (σ : St) (tg : Expr) (R : Addr → Obj → List (Key × V) → It → Hp → Prop) (itv : Value) (s2 : Shared) : Prop :=
  ∃ (it : Addr) (fp : List Addr) (tn : Nat → Heap → Prop) (J : It) (H' : Hp) (d : Addr) (od : Obj) (kvs : List (Key × V)), itv = .ref it ∧ Inv X pins σ H' s2 ∧ Turn X.prog X.w X.K tg J fp it tn ∧ tn 0 s2.heap ∧ (∀ b ∈ fp, FpOk X pins H' b) ∧ Cold X d ∧ R d od kvs J H'
def PIF (X : Cx) (tg iter : Expr) (wi : TIF) : Prop :=
  ∀ (pins : List (Addr × Obj)) (s : Shared) (σ : St) (H : Hp) (R : Addr → Obj → List (Key × V) → It → Hp → Prop), Inv X pins σ H s → wi σ H R →
    wpAny (model X.prog X.w) X.A (eval iter X.env) (fun v s1 => wpAny (model X.prog X.w) X.A (pyIter v) (PIEF X pins σ tg R) X.xe s1) X.xe s
def iItems (td : TE) : TIF := fun σ H R => td σ H fun x H1 => ∃ d kvs, x = .ref d ∧ H1 d = some (.dK kvs) ∧ ∀ od, R d od kvs (Iti d od kvs) (upd H1 d (.frz od (.dK kvs)))
def iKeys (td : TE) : TIF := fun σ H R => td σ H fun x H1 => ∃ d kvs, x = .ref d ∧ H1 d = some (.dK kvs) ∧ ∀ od, R d od kvs (Itk d od kvs) (upd H1 d (.frz od (.dK kvs)))
def iVals (td : TE) : TIF := fun σ H R => td σ H fun x H1 => ∃ d kvs, x = .ref d ∧ H1 d = some (.dK kvs) ∧ ∀ od, R d od kvs (Itv d od kvs) (upd H1 d (.frz od (.dK kvs)))
section
variable {X : Cx} {o : Expr} {apos cpos : Pos} {td : TE}
theorem pi_keys {tg : Expr} (ho : PE X o td) : PIF X tg o (iKeys td) := by
  intro pins s σ H R I h
  refine thn (ho pins s σ H _ I h) fun v s1 ⟨x, H1, I1, r1, d, kvs, ex, ed, q1⟩ => ?_
  subst ex
  obtain rfl : v = Value.ref d := r1
  obtain ⟨t1, t2, t3⟩ := isD_at I1 (.inl ⟨kvs, .inl ed⟩)
  obtain ⟨od, hod, IF⟩ := I1.freeze ed
  obtain ⟨vs, ep, S, _⟩ := says_of (I1.hok d _ ed) hod
  have D := S.2 _ hod
  refine wpAny_pyIter_dict t3 D ?_
  have I2 := IF.kept (t' := s1.toks) (h' := s1.heap.push { cls := .type "dict_keyiterator", data := .fields #[.ref d, .int 0 0, .int vs.length 0, .int ep 0] }) fun b ob e => Heap.get?_push_of_some _ e
  have hlt : d < s1.heap.objs.size := Heap.lt_size hod
  refine ⟨s1.heap.objs.size, [s1.heap.objs.size], _, _, _, d, od, kvs, rfl, I2, turn_keys S (Nat.ne_of_lt hlt), ⟨_, Heap.get?_push_size _ rfl, rfl, rfl⟩, fun b hb => ?_, I1.cold ed, q1 od⟩
  have e : b = s1.heap.objs.size := by simpa using hb
  subst e
  exact IF.fpOk (Nat.le_refl _) (IF.hok.fresh (Nat.le_refl _))
end
/-! ### for -/
def thawE (d : Addr) (od : Obj) (kvs : List (Key × V)) (D : Ends) : Ends :=
  { D with nx := fun σ H => H d = some (.frz od (.dK kvs)) ∧ D.nx σ (upd H d (.dK kvs)), rt := fun v H => H d = some (.frz od (.dK kvs)) ∧ D.rt v (upd H d (.dK kvs)) }
def tForD (wi : TIF) (g : TG) (tb : TS) : TS := fun D σ H => wi σ H fun d od kvs J H1 => forW J g tb (thawE d od kvs D) σ H1
section
variable {X : Cx} {tg : Expr}
theorem ps_forD {iter : Expr} {body : List Stmt} {wi : TIF} {g : TG} {tb : TS} {pos : Pos} (hp : PassesOwn (model X.prog X.w) X.A X.env X.xe) (hc : X.calm = true) (hi : PIF X tg iter wi) (hg : PG X tg g) (hb : PSs X body tb)
    (hs : ∀ x, foldedSetIterable iter X.env x = pure x := by intro _; rfl) : PS X (.For tg iter body [] pos) (tForD wi g tb) := by
  intro pins s σ H D I h
  refine wpAny_For (thn (hi pins s σ H _ I h) fun v s1 h1 => thn h1 fun itv s2 h2 => ?_) hs
  obtain ⟨it, fp, tn, J, H2, d, od, kvs, e, I2, T, st2, f2, cold, W, ⟨m0, w0⟩, turn⟩ := h2
  subst e
  have stat : ∀ {H' : Hp}, (∀ b ∈ fp, H' b = none) → ∀ b ∈ fp, FpOk X pins H' b := fun hn b hb => ⟨hn b hb, (f2 b hb).2⟩
  refine codeAny_forLoop_any (fun n s' => ∃ i σ' H', Inv X pins σ' H' s' ∧ tn i s'.heap ∧ (∀ b ∈ fp, H' b = none) ∧ W i n σ' H') ?_ m0 ⟨0, σ, H2, I2, st2, fun b hb => (f2 b hb).1, w0⟩
  rintro n s3 ⟨i, σ3, H3, I3, st3, fr3, w3⟩
  rcases turn i n σ3 H3 w3 with ⟨stop, qn1, qn2⟩ | ⟨go, N, hN, step⟩
  · refine wpAny_passesOwn hp (thn (T.done X rfl rfl rfl hc i pins s3 σ3 H3 X.xe I3 (stat fr3) st3 stop) fun r s4 ⟨hr, I4⟩ => ?_)
    subst hr
    exact wpAny_execs_nil ⟨σ3, _, I4.thaw cold qn1, qn2⟩
  · refine wpAny_passesOwn hp (thn (T.item X rfl rfl rfl hc i pins s3 σ3 H3 X.xe I3 (stat fr3) st3 go) fun r s4 ⟨u, hr, h4⟩ => ?_)
    subst hr
    refine wpAny_passesOwn hp (thn h4 fun _ s5 ⟨x, H5, I5, r5, y5, st5, fr5⟩ => ?_)
    have I5' := I5.pinned (stat fr5) (T.obj _ _ st5)
    refine wpAny_passesOwn hp (thn (hg _ s5 σ3 H5 x u _ I5' r5 (step x H5 y5)) fun _ s6 ⟨σ6, H6, I6, q6⟩ => ?_)
    refine wpAny_passesOwn hp (thn (hb _ s6 σ6 H6 _ I6 q6) fun f s7 q7 => ?_)
    have again : ∀ {σ7 : St} {H7 : Hp}, Inv X (pins ++ pinsAt fp s5.heap) σ7 H7 s7 → N σ7 H7 → ∃ m, m < n ∧ ∃ i σ' H', Inv X pins σ' H' s7 ∧ tn i s7.heap ∧ (∀ b ∈ fp, H' b = none) ∧ W i m σ' H' := fun {σ7 H7} I7 n7 => by
      obtain ⟨m', hm, w7⟩ := hN σ7 H7 n7
      refine ⟨m', hm, i + 1, σ7, H7, I7.unpinned, T.keep _ _ _ st5 fun b hb o e => (I7.pin (b, o) (List.mem_append_right _ (List.mem_append_right _ (mem_pinsAt hb e)))).1, fun b hb => ?_, w7⟩
      obtain ⟨o, e, d⟩ := T.obj _ _ st5 b hb
      exact (I7.pin (b, o) (List.mem_append_right _ (List.mem_append_right _ (mem_pinsAt hb e)))).2.1
    cases f with
    | next => obtain ⟨σ7, H7, I7, n7⟩ := q7; exact again I7 n7
    | cont => obtain ⟨σ7, H7, I7, n7⟩ := q7; exact again I7 n7
    | brk => obtain ⟨σ7, H7, I7, q7, q8⟩ := q7; exact ⟨σ7, _, I7.unpinned.thaw cold q7, q8⟩
    | ret v => obtain ⟨x7, σ7, H7, I7, r7, q7, q8⟩ := q7; exact ⟨x7, σ7, _, I7.unpinned.thaw cold q7, r7, q8⟩
end
theorem tForD_eq (wi : TIF) (g : TG) (tb : TS) (D : Ends) (σ : St) (H : Hp) : tForD wi g tb D σ H = wi σ H fun d od kvs J H1 => forW J g tb (thawE d od kvs D) σ H1 := rfl
theorem forW_keys {d : Addr} {od : Obj} {kvs : List (Key × V)} {g : TG} {tb : TS} {D : Ends} {σ : St} {H : Hp} (Pv : Nat → St → Hp → Prop) (h0 : Pv 0 σ H) (hf : ∀ i σ H, i ≤ kvs.length → Pv i σ H → H d = some (.frz od (.dK kvs)))
    (hs : ∀ i k x σ H, kvs[i]? = some (k, x) → valV kvs k = some x → Pv i σ H → g (kV k) σ H fun σ2 H2 => tb { D with nx := Pv (i + 1), ct := Pv (i + 1), bk := D.nx } σ2 H2) (hd : ∀ σ H, Pv kvs.length σ H → D.nx σ H) :
    forW (Itk d od kvs) g tb D σ H := by
  refine ⟨fun i m σ H => m = kvs.length - i ∧ i ≤ kvs.length ∧ Pv i σ H, ⟨kvs.length, by simp, Nat.zero_le _, h0⟩, ?_⟩
  rintro i m σ H ⟨rfl, hi, p⟩
  have q := hf i σ H hi p
  by_cases hlt : i < kvs.length
  · refine .inr ⟨⟨q, hlt⟩, Pv (i + 1), fun σ' H' p' => ⟨kvs.length - (i + 1), by omega, rfl, hlt, p'⟩, fun x H' y => ?_⟩
    obtain ⟨rfl, k, v, rfl, hx, hv⟩ := y
    exact hs i k v σ _ hx hv p
  · have e : i = kvs.length := by omega
    subst e
    exact .inl ⟨⟨q, Nat.le_refl _⟩, hd σ H p⟩
/-! ### a comprehension over a dict -/
def tCompD (n : Nat) (wi : TIF) (g : TG) (tt : TT) (te : TE) : TE := fun σ H Q => wi σ H fun d od kvs J H1 => ∀ D, H1 D = none → ∃ W : Nat → Nat → List V → Hp → Prop, (∃ m, W 0 m [] (upd H1 D (.lst []))) ∧ ∀ i m ys H2, W i m ys H2 →
  (J.stop i H2 ∧ H2 D = some (.lst ys) ∧ H2 d = some (.frz od (.dK kvs)) ∧ Q (.ref D) (upd H2 d (.dK kvs))) ∨ (J.go i H2 ∧ ys.length < sizeLine ∧ ∀ x H3, J.yld i H2 x H3 → ∀ o : St, o.length = n → g x (o ++ σ) H3 fun σ' H3' => (∃ o' : St, o'.length = n ∧ σ' = o' ++ σ) ∧ tt σ' H3' fun b H4 =>
    if b = true then te σ' H4 fun y H5 => H5 D = some (.lst ys) ∧ ∃ m', m' < m ∧ W (i + 1) m' (ys ++ [y]) (upd H5 D (.lst (ys ++ [y]))) else ∃ m', m' < m ∧ W (i + 1) m' ys H4)
section
variable {X : Cx} {elt iter c tg : Expr} {ifs : List Expr} {xs : List Str} {y : Str} {py pos spos : Pos} {scope sc : Scope} {N M : List Str} {wi : TIF} {tt : TT} {te : TE} {g : TG}
end
end L2

set_option Elab.async false
set_option linter.all false
set_option maxRecDepth 100000
set_option maxHeartbeats 4000000
namespace L2
open PySem PySem.Spec PyProof.Rows
/-! ### text * int -/
def repL (n : Nat) (l : List Nat) : List Nat := (List.replicate n l).flatten
theorem foldl_app_toList (xs : List (Array Nat)) : ∀ a : Array Nat, (xs.foldl (· ++ ·) a).toList = a.toList ++ (xs.map Array.toList).flatten := by
  induction xs with
  | nil => intro a; simp
  | cons x r ih => intro a; rw [List.foldl_cons, ih]; simp
theorem mul_S (l : List Nat) (n : Int) : Txt.mul (S l) n = S (repL n.toNat l) := by
  unfold Txt.mul repL
  by_cases h1 : n < 1
  · rw [if_pos h1]
    have : n.toNat = 0 := by omega
    rw [this]
    rfl
  · rw [if_neg h1]
    by_cases h2 : (n == 1 || (S l).length == 0) = true
    · rw [if_pos h2]
      rw [Bool.or_eq_true] at h2
      rcases h2 with h2 | h2
      · have : n = 1 := by simpa using h2
        subst this
        simp
      · have : l = [] := by
          have : (S l).length = 0 := by simpa using h2
          rw [S_len] at this
          exact List.length_eq_zero_iff.mp this
        subst this
        congr 1
        simp
    · rw [if_neg h2]
      show (⟨_⟩ : Str) = ⟨_⟩
      congr 1
      apply Array.toList_inj.mp
      rw [foldl_app_toList]
      simp
def rRepT : R2 := fun x y H Q => ∃ l n, x = .str (S l) ∧ y = .int n ∧ -(2 ^ 62) ≤ n ∧ n ≤ 65536 ∧ l.length ≤ 200 ∧ Q (.str (S (repL n.toNat l))) H
section
variable {X : Cx}
theorem op_repT : OpR X (binaryOp .Mult) rRepT := by
  intro pins s σ H x y v u Q I rx ry h
  obtain ⟨l, n, rfl, rfl, h0, h1, hl, q⟩ := h
  obtain ⟨t, rfl⟩ := rx
  obtain ⟨t', rfl⟩ := ry
  refine SB.mul ⟨?_, fun h2 _ => ?_, fun h2 _ => ?_⟩ fun t'' k => ⟨.str (S (repL n.toNat l)), H, I.tok k, ⟨t'', by rw [mul_S]⟩, q⟩
  · rw [decide_eq_false (by omega), decide_eq_false (by omega)]; rfl
  · rw [S_len]
    intro h3
    have h4 : (2 ^ 63 - 1 : Int) / n ≥ (2 ^ 63 - 1) / 65536 := by
      refine Int.le_ediv_of_mul_le (by omega) ?_
      have : (2 ^ 63 - 1 : Int) / 65536 * n ≤ (2 ^ 63 - 1 : Int) / 65536 * 65536 := Int.mul_le_mul_of_nonneg_left h1 (by decide)
      have : (2 ^ 63 - 1 : Int) / 65536 * 65536 ≤ 2 ^ 63 - 1 := by decide
      omega
    have h5 : (2 ^ 63 - 1 : Int) / 65536 > 200 := by decide
    omega
  · rw [S_len]
    have h3 : l.length * n.toNat ≤ 200 * 65536 := Nat.mul_le_mul hl (by omega)
    have e : Builtin.Str.tooLong (l.length * n.toNat) = decide (l.length * n.toNat > sizeLine) := rfl
    rw [e, decide_eq_false]
    rw [sizeLine_eq]
    omega
def rMulA : R2 := fun x y H Q => rI CMul (fun i j => .int (i * j)) x y H Q ∨ rRepT x y H Q
theorem op_mulA : OpR X (binaryOp .Mult) rMulA := op_mul.or op_repT
theorem rMul_ii {H : Hp} {Q : VK} (i j : Int) : rMulA (.int i) (.int j) H Q = (CMul i j ∧ Q (.int (i * j)) H) := by
  simp [rMulA, rI, rRepT]
theorem rMul_si {H : Hp} {Q : VK} (z : Str) (n : Int) : rMulA (.str z) (.int n) H Q = ∃ l, z = S l ∧ -(2 ^ 62) ≤ n ∧ n ≤ 65536 ∧ l.length ≤ 200 ∧ Q (.str (S (repL n.toNat l))) H := by
  simp [rMulA, rI, rRepT]
/-! ### isinstance(x, (A, B)) -/
def rIsiT (K : PySem.W.Frag) : List V → Hp → VK → Prop := fun xs H Q => ∃ (x : V) (t : Value) (p : Addr) (ns : List String) (b : Bool), xs = [x, .ref p] ∧ H p = some (.tup (ns.map V.ty)) ∧ TyOf K H x t ∧ PySem.W.kitAny K t (ns.map Value.type) = some b ∧ Q (.bl b) H
theorem vals_ty : ∀ {ns : List String} {us : List Value}, Vals (ns.map V.ty) us → us = ns.map Value.type
  | [], _, .nil => rfl
  | n :: r, _, .cons (b := u) q t => by
    have e : u = Value.type n := q
    rw [e, vals_ty t]
    rfl
theorem isinst_tup {pins : List (Addr × Obj)} {σ : St} {H : Hp} {s : Shared} {A : Around} {E : Value → Shared → Prop} {Q : Value → Shared → Prop} {b : Bool} {tp : Addr} {its : List Value} {x : V} {u t : Value} (I : Inv X pins σ H s) (rx : RelV x u) (ty : TyOf X.K H x t)
    (htp : IsTup s.heap tp its.toArray) (e : PySem.W.kitAny X.K t its = some b) (h : ∀ tk, Q (.bool b) { s with toks := tk }) :
    wpAny (model X.prog X.w) A (call (.builtin "isinstance") [u, .ref tp]) Q E s := by
  obtain ⟨⟨cls, dd, dat, sl⟩, ho, hc, n, hdat⟩ := htp
  simp only at hc hdat
  subst hc hdat
  cases ty with
  | non => cases (show u = Value.none from rx); exact PySem.W.kia_tup PySem.W.kitx_none I.kIn True.intro ho e (fun z => nomatch z) h
  | bl y => cases (show u = Value.bool y from rx); exact PySem.W.kia_tup PySem.W.kitx_bool I.kIn True.intro ho e (fun z => nomatch z) h
  | int i => obtain ⟨t, q⟩ := (show ∃ t, u = Value.int i t from rx); cases q; exact PySem.W.kia_tup PySem.W.kitx_int I.kIn True.intro ho e (fun z => nomatch z) h
  | str y => obtain ⟨t, q⟩ := (show ∃ t, u = Value.str y t from rx); cases q; exact PySem.W.kia_tup PySem.W.kitx_str I.kIn True.intro ho e (fun z => nomatch z) h
  | flt y => obtain ⟨t, q⟩ := (show ∃ t, u = Value.float y t from rx); cases q; exact PySem.W.kia_tup PySem.W.kitx_float I.kIn True.intro ho e (fun z => nomatch z) h
  | @lst a xs ea =>
    cases (show u = Value.ref a from rx)
    obtain ⟨_, _, n, _, h1⟩ := (show ObjOk X.prog X.w H s.heap a (.lst xs) from I.hok a _ ea)
    exact PySem.W.kia_tup PySem.W.kitx_list I.kIn ⟨_, h1, rfl⟩ ho e (fun z => nomatch z) h
  | @frz a ob xs ea =>
    cases (show u = Value.ref a from rx)
    obtain ⟨_, _, _, n, _, h1⟩ := (show ObjOk X.prog X.w H s.heap a (.frz ob (.lst xs)) from I.hok a _ ea)
    exact PySem.W.kia_tup PySem.W.kitx_list I.kIn ⟨_, h1, rfl⟩ ho e (fun z => nomatch z) h
  | @tup a xs ea =>
    cases (show u = Value.ref a from rx)
    obtain ⟨_, _, _, p⟩ := (show ObjOk X.prog X.w H s.heap a (.tup xs) from I.hok a _ ea)
    obtain ⟨o, h1, h2, _⟩ := p
    exact PySem.W.kia_tup PySem.W.kitx_tuple I.kIn ⟨o, h1, h2⟩ ho e (fun z => nomatch z) h
  | @dK a kvs ea =>
    cases (show u = Value.ref a from rx)
    obtain ⟨_, _, vs, _, p⟩ := (show ObjOk X.prog X.w H s.heap a (.dK kvs) from I.hok a _ ea)
    obtain ⟨o, es, ep, h1, h2, _⟩ := p
    exact PySem.W.kia_tup PySem.W.kitx_dict I.kIn ⟨o, h1, h2.1⟩ ho e (fun z => nomatch z) h
  | @dT a kvs ea =>
    cases (show u = Value.ref a from rx)
    obtain ⟨_, _, xs, _, o, es, ep, h1, h2, _⟩ := (show ObjOk X.prog X.w H s.heap a (.dT kvs) from I.hok a _ ea)
    exact PySem.W.kia_tup PySem.W.kitx_dict I.kIn ⟨o, h1, h2.1⟩ ho e (fun z => nomatch z) h
  | @ins a C dx fs ea cl ha hn htk hm =>
    cases (show u = Value.ref a from rx)
    obtain ⟨mA, O, _⟩ := ins_get I.hok ea
    obtain ⟨od, J, _⟩ := O.look
    exact PySem.W.kia_tup (PySem.W.kitx_own (cl.get _) cl.hd ha hn htk hm) I.kIn J ho e (fun z => nomatch z) h
theorem call_isiT : CallR X (.builtin "isinstance") (rIsiT X.K) := by
  intro pins s σ H xs us Q I r h
  obtain ⟨x, t, p, ns, b, rfl, hp, ty, e, q⟩ := h
  obtain ⟨u, w, rfl, rx, rw'⟩ := vals2 r
  cases rw'
  obtain ⟨_, its, rv, it⟩ := (show ObjOk X.prog X.w H s.heap p (.tup (ns.map V.ty)) from I.hok p _ hp)
  have ei := vals_ty rv
  subst ei
  exact isinst_tup I rx ty it e fun tk => ⟨.bl b, H, I.tok tk, rfl, q⟩
theorem call_isiTK {K : PySem.W.Frag} (hK : X.K = K := by rfl) : CallR X (.builtin "isinstance") (rIsiT K) := hK ▸ call_isiT
/-! ### d.clear() -/
def rDClear : V → List V → Hp → VK → Prop := fun x vs H Q => ∃ a kvs, x = .ref a ∧ vs = [] ∧ H a = some (.dK kvs) ∧ Q .non (upd H a (.dK []))
def tDClear (td : TE) : TE := fun σ H Q => td σ H fun x H1 => ∃ a kvs, x = .ref a ∧ H1 a = some (.dK kvs) ∧ Q .non (upd H1 a (.dK []))
end
/-! ### reversed(list) -/
def Itv' (K : PySem.W.Frag) (a : Addr) (n : Nat) : It :=
  ⟨fun i H => i < n ∧ ∃ xs, SqL K H a xs ∧ xs.length = n, fun i H x H' => H' = H ∧ ∀ xs, SqL K H a xs → xs[n - 1 - i]? = some x, fun i H => n ≤ i⟩
theorem turn_rev {P : Program} {w : World} {K : PySem.W.Frag} {tg : Expr} (a it : Addr) (n : Nat) : Turn P w K tg (Itv' K a n) [it] it (fun i h => i ≤ n ∧ h.IsRevIter it a ((n : Int) - 1 - (i : Int))) where
  mem := by simp
  obj := fun i h st b hb => by
    have e : b = it := by simpa using hb
    subst e
    obtain ⟨_, o, e, c, d⟩ := st
    exact ⟨o, e, fun v z => by rw [d] at z; cases z⟩
  keep := fun i h h' st k => ⟨st.1, st.2.at fun o e => k it (by simp) o e⟩
  item := by
    intro X hP hw hK hc i pins s σ H E I hf st hg
    subst hP hw hK
    obtain ⟨hi, xs, hq, hx⟩ := hg
    obtain ⟨its, rv, p, hz⟩ := I.list hq
    obtain ⟨x, ex⟩ : ∃ x, xs[n - 1 - i]? = some x := ⟨xs[n - 1 - i]'(by omega), List.getElem?_eq_getElem (by omega)⟩
    obtain ⟨u, hu, ru⟩ := rv.get ex
    obtain ⟨f0, f1, f2, f3, f4, f5⟩ := hf it (by simp)
    have e : (n : Int) - 1 - (i : Int) = ((n - 1 - i : Nat) : Int) := by omega
    have st2 := st.2
    rw [e] at st2
    refine wpAny_pyNext_rev_item st2 p.isList (x := u) (by simpa using hu) fun h' st' sb => ?_
    have e2 : ((n - 1 - i : Nat) : Int) - 1 = (n : Int) - 1 - ((i + 1 : Nat) : Int) := by omega
    rw [e2] at st'
    have I1 : Inv X pins σ H { s with heap := h' } := I.turned (t' := s.toks) (fun b o hb e => (sb.2 b hb).trans e) f0 f1 f3 f4 f5
    obtain ⟨o, eo, c, d⟩ := id st'
    exact ⟨u, rfl, go_of (s := { s with heap := h' }) eo c d (by decide) ⟨x, H, I1, ru, ⟨rfl, fun ys hy => by rw [I.list_inj hy hq]; exact ex⟩, ⟨hi, st'⟩, fun b hb => (hf b hb).1⟩⟩
  done := by
    intro X hP hw hK hc i pins s σ H E I hf st hg
    subst hP hw hK
    obtain ⟨f0, f1, f2, f3, f4, f5⟩ := hf it (by simp)
    have hg' : n ≤ i := hg
    have e : (n : Int) - 1 - (i : Int) = -1 := by have := st.1; omega
    have st2 := st.2
    rw [e] at st2
    exact wpAny_pyNext_rev_end (I.ok.hd hc) st2 fun h' eb => ⟨rfl, I.turned (t' := s.toks) (fun b o hb e => eb b o hb e) f0 f1 f3 f4 f5⟩
  self := fun _ _ _ _ _ st h => wpAny_pyIter_revIter st.2 h
section
variable {X : Cx}
def iRev (K : PySem.W.Frag) (ta : TA) : TI := fun σ H R => ta σ H fun vs H1 => ∃ a xs, vs = [.ref a] ∧ SqL K H1 a xs ∧ R (Itv' K a xs.length) H1
theorem pi_revH {tg : Expr} {a : Expr} {ta : TA} {p pos : Pos} (hg : Gl X "reversed") (hm : X.mg "reversed" = none) (ha : PA X [a] ta) (hs : starEach [a] X.env = [(false, eval a X.env)] := by rfl) :
    PI X tg (.Call (.Name "reversed" p) [a] [] pos) (iRev X.K ta) := by
  intro pins s σ H R I h
  refine Call_ (ld_blt I hg hm boot_reversed (PyProof.Rows.callWith_type1 (thn (ha pos pins s σ H _ I h) fun us s1 ⟨vs, H1, I1, r1, q1⟩ => ?_) (by rw [hs]; rfl) (by first | rfl | (rw [hs]; rfl))))
  obtain ⟨l1, xs, rfl, hx, q⟩ := q1
  obtain ⟨u, rfl, ru⟩ := vals1 r1
  cases ru
  obtain ⟨its, rx, px, _⟩ := I1.list hx
  refine call_reversed_list px.isList ?_
  have I2 : Inv X pins σ H1 { s1 with heap := s1.heap.push (revObj l1 ((its.toArray.size : Int) - 1)) } := I1.kept (t' := s1.toks) fun b o e => Heap.get?_push_of_some _ e
  have hl := rx.length
  refine wpAny_pyIter_revIter (l := l1) (i := (its.toArray.size : Int) - 1) ⟨_, Heap.get?_push_size _ rfl, rfl, rfl⟩ ⟨_, _, _, _, H1, rfl, I2, turn_rev l1 _ xs.length, ⟨Nat.zero_le _, ⟨_, Heap.get?_push_size _ rfl, rfl, ?_⟩⟩, fun c hc => ?_, q⟩
  · show Data.fields #[.ref l1, rawInt ((its.toArray.size : Int) - 1)] = Data.fields #[.ref l1, rawInt ((xs.length : Int) - 1 - ((0 : Nat) : Int))]
    have e : (its.toArray.size : Int) - 1 = (xs.length : Int) - 1 - ((0 : Nat) : Int) := by rw [List.size_toArray, hl]; omega
    rw [e]
  · have e : c = s1.heap.objs.size := by simpa using hc
    subst e
    exact I1.fpOk (Nat.le_refl _) (I1.hok.fresh (Nat.le_refl _))
theorem pi_reversed {K : PySem.W.Frag} {tg : Expr} {a : Expr} {ta : TA} {p pos : Pos} (hg : Gl X "reversed") (hm : X.mg "reversed" = none) (ha : PA X [a] ta) (hs : starEach [a] X.env = [(false, eval a X.env)] := by rfl) (hK : X.K = K := by rfl) :
    PI X tg (.Call (.Name "reversed" p) [a] [] pos) (iRev K ta) := hK ▸ pi_revH hg hm ha hs
end
theorem forW_rev {K : PySem.W.Frag} {a : Addr} {xs : List V} {g : TG} {tb : TS} {D : Ends} {σ : St} {H : Hp} (Pv : Nat → St → Hp → Prop) (h0 : Pv 0 σ H) (hl : ∀ i σ H, i ≤ xs.length → Pv i σ H → SqL K H a xs)
    (hs : ∀ i x σ H, i < xs.length → xs[xs.length - 1 - i]? = some x → Pv i σ H → g x σ H fun σ2 H2 => tb { D with nx := Pv (i + 1), ct := Pv (i + 1), bk := D.nx } σ2 H2) (hd : ∀ σ H, Pv xs.length σ H → D.nx σ H) :
    forW (Itv' K a xs.length) g tb D σ H := by
  refine ⟨fun i m σ H => m = xs.length - i ∧ i ≤ xs.length ∧ Pv i σ H, ⟨xs.length, by simp, Nat.zero_le _, h0⟩, ?_⟩
  rintro i m σ H ⟨rfl, hi, p⟩
  have q := hl i σ H hi p
  by_cases hlt : i < xs.length
  · refine .inr ⟨⟨hlt, xs, q, rfl⟩, Pv (i + 1), fun σ' H' p' => ⟨xs.length - (i + 1), by omega, rfl, hlt, p'⟩, fun x H' y => ?_⟩
    obtain ⟨e, y⟩ := y
    subst e
    exact hs i x σ _ hlt (y xs q) p
  · have e : i = xs.length := by omega
    subst e
    exact .inl ⟨Nat.le_refl _, hd σ H p⟩
end L2

set_option Elab.async false
set_option linter.all false
set_option maxRecDepth 100000
set_option maxHeartbeats 4000000
namespace L2
open PySem PySem.Spec PyProof.Rows
/-! ### a lending, as it stands -/
abbrev Loan := Int × List Nat × Int
def loanV (x : Loan) : List V := [.int x.1, .str (S x.2.1), .int x.2.2]
structure LendM where
  row : Int
  start : Int
  turns : Int
  tries : Int
  width : Int
  lent : Int
  F : Int → Option Str
  T : Int → Int
  L : Int → Option Loan
  sz : Nat
def lend0 (r s t n w : Int) : LendM := ⟨r, s, t, n, w, 0, fun _ => none, fun _ => 0, fun _ => none, 0⟩
def lendF (M : LendM) (f t l : Addr) : List (Str × V) := [("row", .int M.row), ("start", .int M.start), ("turns", .int M.turns), ("tries", .int M.tries), ("width", .int M.width), ("lent", .int M.lent), ("fates", .ref f), ("tried", .ref t), ("loans", .ref l)]
/-- what a dict's answer says of a loan -/
def LoanO (H : Hp) : Option Loan → Option V → Prop
  | none, v => v = none
  | some x, v => ∃ t, v = some (.ref t) ∧ H t = some (.tup (loanV x))
/-- what a value says of a loan -/
def LoanVal (H : Hp) : Option Loan → V → Prop
  | none, v => v = .non
  | some x, v => ∃ t, v = .ref t ∧ H t = some (.tup (loanV x))
theorem LoanO.val {H : Hp} {o : Option Loan} {v : Option V} (h : LoanO H o v) : LoanVal H o (v.getD .non) := by
  cases o with
  | none => rw [show v = none from h]; rfl
  | some x => obtain ⟨t, e, ht⟩ := h; exact ⟨t, by rw [e]; rfl, ht⟩
theorem LoanO.chg {A : List Addr} {H H' : Hp} {o : Option Loan} {v : Option V} (c : Chg A H H') (h : LoanO H o v) : LoanO H' o v := by
  cases o with
  | none => exact h
  | some x => obtain ⟨t, e, ht⟩ := h; exact ⟨t, e, c.tup _ _ ht⟩
def fateV : Option Str → V
  | none => .non
  | some z => .str z
structure LendAt (C : Addr) (H : Hp) (r f t l : Addr) (M : LendM) : Prop where
  obj : ∃ dx, H r = some (.ins C dx (lendF M f t l))
  fat : ∃ kvs, H f = some (.dK kvs) ∧ kvs.length ≤ M.sz ∧ (∀ p : Int, valV kvs (.inl p) = (M.F p).map V.str) ∧ ∀ z, valV kvs (.inr z) = none
  tri : ∃ kvs, H t = some (.dK kvs) ∧ kvs.length ≤ M.sz ∧ ∀ p : Int, (valV kvs (.inl p)).getD (.int 0) = .int (M.T p)
  loa : ∃ kvs, H l = some (.dK kvs) ∧ kvs.length ≤ M.sz ∧ (∀ p : Int, LoanO H (M.L p) (valV kvs (.inl p))) ∧ ∀ z, valV kvs (.inr z) = none
  rf : r ≠ f
  rt : r ≠ t
  rl : r ≠ l
  ft : f ≠ t
  fl : f ≠ l
  tl : t ≠ l
theorem LendAt.chg {A : List Addr} {C : Addr} {H H' : Hp} {r f t l : Addr} {M : LendM} (h : LendAt C H r f t l M) (c : Chg A H H') (hr : r ∉ A) (hf : f ∉ A) (ht : t ∉ A) (hl : l ∉ A) : LendAt C H' r f t l M := by
  obtain ⟨dx, e⟩ := h.obj
  obtain ⟨k1, e1, l1, v1, w1⟩ := h.fat
  obtain ⟨k2, e2, l2, v2⟩ := h.tri
  obtain ⟨k3, e3, l3, v3, w3⟩ := h.loa
  exact ⟨⟨dx, c.keep _ _ e hr⟩, ⟨k1, c.keep _ _ e1 hf, l1, v1, w1⟩, ⟨k2, c.keep _ _ e2 ht, l2, v2⟩, ⟨k3, c.keep _ _ e3 hl, l3, fun p => (v3 p).chg c, w3⟩, h.rf, h.rt, h.rl, h.ft, h.fl, h.tl⟩
def LendM.lend (M : LendM) (p : Int) (tk : List Nat) (turn : Int) : LendM :=
  { M with lent := M.lent + 1, L := fun q => if q = p then some (M.lent + 1, tk, turn + M.turns) else M.L q, T := fun q => if q = p then M.T p + 1 else M.T q, sz := M.sz + 1 }
def LendM.back (M : LendM) (p : Int) : LendM := { M with L := fun q => if q = p then none else M.L q }
def LendM.fate (M : LendM) (p : Int) (z : Str) : LendM := { M with L := fun q => if q = p then none else M.L q, F := fun q => if q = p then some z else M.F q, sz := M.sz + 1 }
def LendM.isLent (M : LendM) (p turn : Int) : Bool := match M.L p with
  | some x => decide (turn < x.2.2)
  | none => false
def sp_l_init (C : Addr) : Sp := fun vs H Q _ => ∃ (x dx : Addr) (r s t n w : Int), vs = [.ref x, .int r, .int s, .int t, .int n, .int w] ∧ H x = some (.ins C dx []) ∧
  ∀ f u l H', H f = none → H u = none → H l = none → Chg [x] H H' → LendAt C H' x f u l (lend0 r s t n w) → Q .non H'
def sp_l_lend (C : Addr) : Sp := fun vs H Q _ => ∃ (r f t l : Addr) (M : LendM) (p : Int) (tk : List Nat) (turn : Int), vs = [.ref r, .int p, .str (S tk), .int turn] ∧ LendAt C H r f t l M ∧ M.sz ≤ 100000 ∧
  ∀ H', Chg [r, t, l] H H' → LendAt C H' r f t l (M.lend p tk turn) → Q (.int (M.lent + 1)) H'
def sp_l_next (C : Addr) : Sp := fun vs H Q _ => ∃ (r f t l : Addr) (M : LendM), vs = [.ref r] ∧ LendAt C H r f t l M ∧ Q (.int (M.lent + 1)) H
def sp_l_loan_at (C : Addr) : Sp := fun vs H Q _ => ∃ (r f t l : Addr) (M : LendM) (p : Int), vs = [.ref r, .int p] ∧ LendAt C H r f t l M ∧ ∀ v, LoanVal H (M.L p) v → Q v H
def sp_l_tried_at (C : Addr) : Sp := fun vs H Q _ => ∃ (r f t l : Addr) (M : LendM) (p : Int), vs = [.ref r, .int p] ∧ LendAt C H r f t l M ∧ Q (.int (M.T p)) H
def sp_l_fate_at (C : Addr) : Sp := fun vs H Q _ => ∃ (r f t l : Addr) (M : LendM) (p : Int), vs = [.ref r, .int p] ∧ LendAt C H r f t l M ∧ Q (fateV (M.F p)) H
def sp_l_back (C : Addr) : Sp := fun vs H Q _ => ∃ (r f t l : Addr) (M : LendM) (p : Int), vs = [.ref r, .int p] ∧ LendAt C H r f t l M ∧ ∀ H', Chg [l] H H' → LendAt C H' r f t l (M.back p) → Q .non H'
def sp_l_fate (C : Addr) (z : Str) : Sp := fun vs H Q _ => ∃ (r f t l : Addr) (M : LendM) (p : Int), vs = [.ref r, .int p] ∧ LendAt C H r f t l M ∧ M.sz ≤ 100000 ∧ ∀ H', Chg [f, l] H H' → LendAt C H' r f t l (M.fate p z) → Q .non H'
def sp_l_place_of (C : Addr) : Sp := fun vs H Q _ => ∃ (r f t l : Addr) (M : LendM) (p turn : Int) (x : Loan), vs = [.ref r, .int x.1, .int turn] ∧ LendAt C H r f t l M ∧ M.L p = some x ∧ 1 ≤ x.1 ∧ turn < x.2.2 ∧
  (∀ q y, M.L q = some y → y.1 = x.1 → q = p) ∧ ∀ H', Same H H' → Q (.int p) H'
def sp_l_is_lent (C : Addr) : Sp := fun vs H Q _ => ∃ (r f t l : Addr) (M : LendM) (p turn : Int), vs = [.ref r, .int p, .int turn] ∧ LendAt C H r f t l M ∧ Q (.bl (M.isLent p turn)) H
end L2

set_option Elab.async false
set_option linter.all false
set_option maxRecDepth 100000
set_option maxHeartbeats 4000000
namespace L2
open PySem PySem.Spec PyProof.Rows
/-! ### tables of letters -/
/-- place, key, word -/
abbrev L3 := Int × List Nat × Option (List Nat)
def l3V (x : L3) : List V := [.int x.1, .str (S x.2.1), wV x.2.2]
def lastW : List L3 → List Nat → Option (Option (List Nat))
  | [], _ => none
  | x :: r, k => match lastW r k with
    | some y => some y
    | none => if x.2.1 = k then some x.2.2 else none
theorem lastW_app (a b : List L3) (k : List Nat) : lastW (a ++ b) k = match lastW b k with
    | some y => some y
    | none => lastW a k := by
  induction a with
  | nil => rw [List.nil_append]; cases lastW b k <;> rfl
  | cons x r ih =>
    rw [List.cons_append, lastW, ih]
    cases hb : lastW b k with
    | some y => rfl
    | none => rw [lastW]
theorem lastW_snoc (a : List L3) (x : L3) (k : List Nat) : lastW (a ++ [x]) k = if x.2.1 = k then some x.2.2 else lastW a k := by
  rw [lastW_app]
  by_cases h : x.2.1 = k
  · rw [if_pos h]; simp [lastW, h]
  · rw [if_neg h]; simp [lastW, h]
/-- the word that a table of the letters has for a key -/
def wordAt (l : List L3) (k : List Nat) : Option (List Nat) := (lastW l k).join
def NdK (kvs : List (Key × V)) : Prop := (kvs.map (·.1)).Nodup
theorem nd_sub_len {α : Type} [DecidableEq α] : ∀ {l m : List α}, l.Nodup → (∀ x ∈ l, x ∈ m) → l.length ≤ m.length
  | [], m, _, _ => Nat.zero_le _
  | a :: r, m, h, s => by
    rw [List.nodup_cons] at h
    have ha : a ∈ m := s a List.mem_cons_self
    have ih := nd_sub_len (l := r) (m := m.erase a) h.2 fun x hx => (List.mem_erase_of_ne (fun (z : x = a) => h.1 (by rw [← z]; exact hx))).mpr (s x (List.mem_cons_of_mem _ hx))
    rw [List.length_erase_of_mem ha] at ih
    have : 0 < m.length := List.length_pos_of_mem ha
    rw [List.length_cons]
    omega
theorem NdK.nil : NdK [] := List.nodup_nil
theorem NdK.put {kvs : List (Key × V)} (h : NdK kvs) (k : Key) (v : V) : NdK (putK kvs k v) := by
  unfold putK
  by_cases a : (kvs.any fun kv => decide (kv.1 = k)) = true
  · rw [if_pos a]
    unfold NdK
    rw [List.map_map]
    have e : ((fun x : Key × V => x.1) ∘ fun kv : Key × V => if kv.1 = k then (kv.1, v) else kv) = fun x => x.1 := by
      funext x
      show (if x.1 = k then (x.1, v) else x).1 = x.1
      split <;> rfl
    rw [e]
    exact h
  · rw [if_neg a]
    unfold NdK
    rw [List.map_append, List.nodup_append]
    refine ⟨h, by simp, fun x hx y hy => ?_⟩
    have hy' : y = k := by simpa using hy
    subst hy'
    rintro rfl
    obtain ⟨p, hp, e⟩ := List.mem_map.mp hx
    exact a (List.any_eq_true.mpr ⟨p, hp, decide_eq_true e⟩)
theorem NdK.drop {kvs : List (Key × V)} (h : NdK kvs) (k : Key) : NdK (dropK kvs k) := by
  unfold NdK dropK
  exact List.Nodup.sublist (List.Sublist.map _ List.filter_sublist) h
/-- two tables with the same keys have one length -/
theorem NdK.len {a b : List (Key × V)} (ha : NdK a) (hb : NdK b) (h : ∀ k, (valV a k).isSome = (valV b k).isSome) : a.length = b.length := by
  have sub : ∀ {x y : List (Key × V)}, (∀ k, (valV x k).isSome = (valV y k).isSome) → ∀ k, k ∈ x.map (·.1) → k ∈ y.map (·.1) := by
    intro x y h k hk
    have h1 : (valV x k).isSome = true := by
      cases e : valV x k with
      | none => exact absurd hk (valV_not e)
      | some v => rfl
    rw [h k] at h1
    obtain ⟨v, hv⟩ := Option.isSome_iff_exists.mp h1
    exact valV_in hv
  have l1 : (a.map (·.1)).length ≤ (b.map (·.1)).length := nd_sub_len ha fun k hk => sub h k hk
  have l2 : (b.map (·.1)).length ≤ (a.map (·.1)).length := nd_sub_len hb fun k hk => sub (fun k => (h k).symm) k hk
  simp only [List.length_map] at l1 l2
  omega
/-- a dict that is the table of these letters -/
structure TabOf (H : Hp) (d : Addr) (f : List Nat → Option (List Nat)) (n : Nat) : Prop where
  dict : ∃ kvs, H d = some (.dK kvs) ∧ kvs.length ≤ n ∧ NdK kvs ∧ (∀ k : List Nat, valV kvs (.inr (S k)) = (f k).map fun z => V.str (S z)) ∧ ∀ i : Int, valV kvs (.inl i) = none
theorem wordAt_snoc (a : List L3) (x : L3) (k : List Nat) : wordAt (a ++ [x]) k = if x.2.1 = k then x.2.2 else wordAt a k := by
  unfold wordAt
  rw [lastW_snoc]
  split
  · cases x.2.2 <;> rfl
  · rfl
theorem wordAt_cons (x : L3) (r : List L3) (k : List Nat) : wordAt (x :: r) k = match lastW r k with
    | some y => y
    | none => if x.2.1 = k then x.2.2 else none := by
  unfold wordAt
  rw [lastW]
  cases lastW r k with
  | some y => cases y <;> rfl
  | none => by_cases h : x.2.1 = k <;> simp [h] <;> cases x.2.2 <;> rfl
theorem lastW_none {l : List L3} {k : List Nat} : lastW l k = none ↔ ∀ x ∈ l, x.2.1 ≠ k := by
  induction l with
  | nil => simp [lastW]
  | cons x r ih =>
    rw [lastW]
    cases h : lastW r k with
    | some y =>
      simp only [reduceCtorEq, false_iff]
      intro z
      have := ih.mpr (fun y hy => z y (List.mem_cons_of_mem _ hy))
      rw [h] at this
      cases this
    | none =>
      have h' := ih.mp h
      by_cases e : x.2.1 = k
      · rw [if_pos e]
        simp only [reduceCtorEq, false_iff]
        intro z
        exact z x List.mem_cons_self e
      · rw [if_neg e]
        simp only [true_iff]
        intro y hy
        rcases List.mem_cons.mp hy with rfl | hy
        · exact e
        · exact h' y hy
end L2

set_option Elab.async false
set_option linter.all false
set_option maxRecDepth 100000
set_option maxHeartbeats 4000000
namespace L2
open PySem PySem.Spec PyProof.Rows
/-! ### slices by places -/
theorem cutV_pre (l : List V) (k : Nat) : cutV l none (some (k : Int)) = l.take k := by
  unfold cutV
  rw [HT.sIx_nat, HT.sIx_none, List.drop_zero, Nat.sub_zero]
  by_cases h : k ≤ l.length
  · rw [Nat.min_eq_left h]
  · rw [Nat.min_eq_right (by omega), List.take_of_length_le (Nat.le_refl _), List.take_of_length_le (by omega)]
theorem cutV_mid (l : List V) (k j : Nat) : cutV l (some (k : Int)) (some ((k + j : Nat) : Int)) = (l.drop k).take j := by
  unfold cutV
  rw [HT.sIx_nat, HT.sIx_nat]
  by_cases h : k ≤ l.length
  · rw [Nat.min_eq_left h]
    by_cases h2 : k + j ≤ l.length
    · rw [Nat.min_eq_left h2]; congr 1; omega
    · rw [Nat.min_eq_right (by omega), List.take_of_length_le (by rw [List.length_drop]; omega), List.take_of_length_le (by rw [List.length_drop]; omega)]
  · rw [show min k l.length = l.length by omega, List.drop_of_length_le (Nat.le_refl _), List.drop_of_length_le (show l.length ≤ k by omega), List.take_nil, List.take_nil]
end L2

set_option Elab.async false
set_option linter.all false
set_option maxRecDepth 100000
set_option maxHeartbeats 4000000
namespace L2
open PySem PySem.Spec PyProof.Rows
/-! ### comprehensions over lists of tuples -/
def tupV (H : Hp) : V → List V
  | .ref t => match H t with
    | some (.tup xs) => xs
    | _ => []
  | _ => []
theorem TupsAt.mem {H : Hp} {ts : List Addr} {rows : List (List V)} (h : TupsAt H ts rows) {x : V} (hx : x ∈ ts.map V.ref) : ∃ t xs, x = .ref t ∧ xs ∈ rows ∧ H t = some (.tup xs) := by
  obtain ⟨t, ht, rfl⟩ := List.mem_map.mp hx
  obtain ⟨i, hi⟩ := List.getElem?_of_mem ht
  obtain ⟨xs, h1, h2⟩ := h.get hi
  exact ⟨t, xs, rfl, List.mem_of_getElem? h1, h2⟩
/-! ### things, texts, names -/
inductive Thg (H : Hp) : V → Prop
  | non : Thg H .non
  | bl (b : Bool) : Thg H (.bl b)
  | int (i : Int) : Thg H (.int i)
  | str (l : List Nat) (h : l.length ≤ 1000) : Thg H (.str (S l))
  | lst {p : Addr} {xs : List V} (h : H p = some (.lst xs)) : Thg H (.ref p)
  | tup {p : Addr} {xs : List V} (h : H p = some (.tup xs)) : Thg H (.ref p)
def textV (x : V) (lo hi : Int) : Bool := match x with
  | .str z => decide (lo ≤ z.length) && decide ((z.length : Int) ≤ hi)
  | _ => false
def formV (x : V) (lo hi : Int) (p : Nat → Bool) : Bool := match x with
  | .str z => decide (lo ≤ z.length) && (decide ((z.length : Int) ≤ hi) && z.cps.toList.all p)
  | _ => false
def wholeV (x : V) (lo hi : Int) : Bool := match x with
  | .int i => decide (lo ≤ i) && decide (i ≤ hi)
  | _ => false
def T36 : List Nat := [97, 98, 99, 100, 101, 102, 103, 104, 105, 106, 107, 108, 109, 110, 111, 112, 113, 114, 115, 116, 117, 118, 119, 120, 121, 122, 48, 49, 50, 51, 52, 53, 54, 55, 56, 57]
def inN (c : Nat) : Bool := decide (c ∈ T36)
def sp_is_text : Sp := fun vs H Q _ => ∃ (x : V) (lo hi : Int), vs = [x, .int lo, .int hi] ∧ Thg H x ∧ Q (.bl (textV x lo hi)) H
def sp_is_name : Sp := fun vs H Q _ => ∃ x : V, vs = [x] ∧ Thg H x ∧ ∀ H', Same H H' → Q (.bl (formV x 1 12 inN)) H'
def sp_is_whole : Sp := fun vs H Q _ => ∃ (x : V) (lo hi : Int), vs = [x, .int lo, .int hi] ∧ Thg H x ∧ Q (.bl (wholeV x lo hi)) H
/-! ### the spread of a key -/
def foldK (l : List Nat) : Int := l.foldl (fun (h : Int) (c : Nat) => Builtin.bitAnd (h * 37 + (c : Int)) 65535) 1
def sprN (l : List Nat) : Int := Builtin.bitXor (foldK l) (foldK l / 2 ^ (8 : Int).toNat)
/-! ### shelves -/
structure Shf where
  name : List Nat
  rows : Nat
  kind : Str
def Shf.v (x : Shf) : List V := [.str (S x.name), .int x.rows, .str x.kind]
def okShf (x : Shf) : Prop := (1 ≤ x.name.length ∧ x.name.length ≤ 12 ∧ x.name.all inN = true) ∧ (1 ≤ x.rows ∧ x.rows ≤ 9) ∧ (x.kind = Str.ofString "table" ∨ x.kind = Str.ofString "stream")
structure OkShfs (xs : List Shf) : Prop where
  lo : 1 ≤ xs.length
  hi : xs.length ≤ 6
  each : ∀ x ∈ xs, okShf x
  nd : (xs.map Shf.name).Nodup
structure ShAt (C : Addr) (H : Hp) (s l : Addr) (xs : List Shf) : Prop where
  obj : ∃ dx, H s = some (.ins C dx [("shelves", .ref l)])
  lst : LTups H l (xs.map Shf.v)
theorem ShAt.chg {A : List Addr} {C : Addr} {H H' : Hp} {s l : Addr} {xs : List Shf} (h : ShAt C H s l xs) (c : Chg A H H') (hs : s ∉ A) (hl : l ∉ A) : ShAt C H' s l xs := by
  obtain ⟨dx, e⟩ := h.obj
  exact ⟨⟨dx, c.keep _ _ e hs⟩, h.lst.chg c hl⟩
def startOf (xs : List Shf) (k : Nat) : Nat := ((xs.take k).map Shf.rows).sum
def sp_is_kind : Sp := fun vs H Q _ => ∃ z : Str, vs = [.str z] ∧ (z = Str.ofString "table" ∨ z = Str.ofString "stream") ∧ Q (.bl true) H
def sp_is_shelf : Sp := fun vs H Q _ => ∃ (t : Addr) (x : Shf), vs = [.ref t] ∧ H t = some (.tup x.v) ∧ okShf x ∧ ∀ H', Same H H' → Q (.bl true) H'
def sp_are_shelves : Sp := fun vs H Q _ => ∃ (p : Addr) (xs : List Shf), vs = [.ref p] ∧ LTups H p (xs.map Shf.v) ∧ OkShfs xs ∧ ∀ H', Same H H' → Q (.bl true) H'
def sp_sh_init (C : Addr) : Sp := fun vs H Q _ => ∃ (x dx p : Addr) (xs : List Shf), vs = [.ref x, .ref p] ∧ H x = some (.ins C dx []) ∧ LTups H p (xs.map Shf.v) ∧ OkShfs xs ∧ ∀ l H', H l = none → Chg [x] H H' → ShAt C H' x l xs → Q .non H'
def sp_sh_many (C : Addr) : Sp := fun vs H Q _ => ∃ (s l : Addr) (xs : List Shf), vs = [.ref s] ∧ ShAt C H s l xs ∧ xs.length ≤ 1000 ∧ ∀ H', Same H H' → Q (.int (startOf xs xs.length)) H'
def sp_sh_rows_of (C : Addr) : Sp := fun vs H Q _ => ∃ (s l : Addr) (xs : List Shf) (k : Nat) (x : Shf), vs = [.ref s, .str (S x.name)] ∧ ShAt C H s l xs ∧ OkShfs xs ∧ xs[k]? = some x ∧ ∀ D H', H D = none → Same H H' → H' D = some (.lst (rngV (startOf xs k) x.rows)) → Q (.ref D) H'
def rowNo (xs : List Shf) (k : Nat) (x : Shf) (key : List Nat) : Nat := startOf xs k + (sprN key % (x.rows : Int)).toNat
def sp_sh_row_for (C : Addr) : Sp := fun vs H Q _ => ∃ (s l : Addr) (xs : List Shf) (k : Nat) (x : Shf) (key : List Nat), vs = [.ref s, .str (S x.name), .str (S key)] ∧ ShAt C H s l xs ∧ OkShfs xs ∧ xs[k]? = some x ∧ ∀ H', Same H H' → Q (.int (rowNo xs k x key)) H'
def sp_spread : Sp := fun vs H Q _ => ∃ l : List Nat, vs = [.str (S l)] ∧ Q (.int (sprN l)) H
def sp_row_in : Sp := fun vs H Q _ => ∃ (l : List Nat) (m : Int), vs = [.str (S l), .int m] ∧ 0 < m ∧ Q (.int (sprN l % m)) H

/-! ### rows told by a list of letters put there in turn -/
abbrev KW := List Nat × List Nat
def rowOf (c : List KW) : RowM := ⟨0, c.length, 0, fun p => if 0 ≤ p then (c[p.toNat]?).map fun x => (x.1, some x.2, 0) else none⟩
def seenV (c : List KW) (k : Nat) : List (List V) := (c.zipIdx k).map fun y => [.int (y.2 : Nat), .str (S y.1.1), .str (S y.1.2)]
def it (i : Nat) (xs : List V) : V := xs.getD i .non
def kwV (x : KW) : List V := [.str (S x.1), .str (S x.2)]
structure RowsAt (C : Addr) (H : Hp) (R : Addr) (rs : List (Addr × Addr)) (f : Nat → List KW) : Prop where
  lst : H R = some (.lst (rs.map fun y => V.ref y.1))
  row : ∀ (i : Nat) r d, rs[i]? = some (r, d) → RowAt C H r d (rowOf (f i))
theorem RowsAt.same {C : Addr} {H H' : Hp} {R : Addr} {rs : List (Addr × Addr)} {f : Nat → List KW} (h : RowsAt C H R rs f) (s : Same H H') : RowsAt C H' R rs f :=
  ⟨s _ _ h.lst, fun i r d e => (h.row i r d e).chg (A := []) (Chg.of_same s) (by simp) (by simp)⟩
def ofKey (P : List KW) (key : List Nat) : List V := (P.filter fun x => decide (x.1 = key)).map fun x => .str (S x.2)
def sp_of_key : Sp := fun vs H Q _ => ∃ (p : Addr) (P : List KW) (key : List Nat), vs = [.ref p, .str (S key)] ∧ LTups H p (P.map kwV) ∧ P.length ≤ 1000 ∧ ∀ D H', H D = none → Same H H' → H' D = some (.lst (ofKey P key)) → Q (.ref D) H'
/-- the letters of a shelf stand in its own rows by their keys -/
structure Parted (P : List KW) (f : Nat → List KW) (lo n : Nat) : Prop where
  pos : 0 < n
  each : ∀ i, lo ≤ i → i < lo + n → f i = P.filter fun x => decide (lo + (sprN x.1 % (n : Int)).toNat = i)
  few : P.length ≤ 63
  ok : ∀ x ∈ P, okS x.1 ∧ okS x.2
theorem Parted.found {P : List KW} {f : Nat → List KW} {lo n : Nat} (h : Parted P f lo n) (key : List Nat) {r0 : Nat} (hr0 : (sprN key % (n : Int)).toNat = r0) {i : Nat} (hi : i < n) :
    ((f (lo + i)).filter fun x => decide (x.1 = key)).map (fun x => V.str (S x.2)) = if i = r0 then ofKey P key else [] := by
  rw [h.each (lo + i) (by omega) (by omega), List.filter_filter]
  unfold ofKey
  by_cases e : i = r0
  · rw [if_pos e]
    congr 1
    refine List.filter_congr fun x _ => ?_
    by_cases z : x.1 = key
    · rw [z, hr0, e]; simp
    · simp [z]
  · rw [if_neg e]
    have : (P.filter fun x => decide (x.1 = key) && decide (lo + (sprN x.1 % (n : Int)).toNat = lo + i)) = [] := by
      rw [List.filter_eq_nil_iff]
      intro x _ hx
      simp only [Bool.and_eq_true, decide_eq_true_eq] at hx
      rw [hx.1, hr0] at hx
      omega
    rw [this]
    rfl
def sp_shelf_holds (C : Addr) : Sp := fun vs H Q _ => ∃ (R N p kl : Addr) (rs : List (Addr × Addr)) (f : Nat → List KW) (P : List KW) (lo n : Nat) (keys : List (List Nat)), vs = [.ref R, .ref N, .ref p, .ref kl] ∧ RowsAt C H R rs f ∧ H N = some (.lst (rngV lo n)) ∧
  LTups H p (P.map kwV) ∧ H kl = some (.lst (keys.map fun l => .str (S l))) ∧ keys.length ≤ 100 ∧ lo + n ≤ rs.length ∧ n ≤ 9 ∧ Parted P f lo n ∧ ∀ H', Same H H' → Q (.bl true) H'
def ltr36 (n : Int) : Nat := T36.getD (n % 36).toNat 0
def sp_wholeI : Sp := fun vs H Q _ => ∃ x y : Int, vs = [.int x, .int y] ∧ Q (.bl (decide (x = y))) H
def sp_letter : Sp := fun vs H Q _ => ∃ n : Int, vs = [.int n] ∧ Q (.str (S [ltr36 n])) H
def sp_names : Sp := fun vs H Q _ => ∃ (c m : Int), vs = [.int c, .int m] ∧ 1 ≤ m ∧ m ≤ 36 ∧ ∀ D H' (ns : List (List Nat)), H D = none → Same H H' → H' D = some (.lst (ns.map fun l => .str (S l))) → ns.length = m.toNat →
  (∀ l ∈ ns, 1 ≤ l.length ∧ l.length ≤ 12 ∧ l.all inN = true) → ns.Nodup → Q (.ref D) H'
def sp_keys : Sp := fun vs H Q _ => ∃ c : Int, vs = [.int c] ∧ ∀ D H' (ks : List (List Nat)), H D = none → Same H H' → H' D = some (.lst (ks.map fun l => .str (S l))) → ks.length = 12 → (∀ l ∈ ks, okS l ∧ l.length ≤ 24) → Q (.ref D) H'
/-! ### comprehensions whose items are made anew -/
def addrs (rs : List (Addr × Addr)) : List Addr := rs.flatMap fun y => [y.1, y.2]
/-- a letter more: it comes into the row of its key, and the other shelves' rows stay -/
theorem Parted.put {P : List KW} {f : Nat → List KW} {lo n : Nat} (h : Parted P f lo n) (x : KW) (hf : P.length < 63) (ok : okS x.1 ∧ okS x.2) :
    Parted (P ++ [x]) (fun i => if i = lo + (sprN x.1 % (n : Int)).toNat then f i ++ [x] else f i) lo n := by
  refine ⟨h.pos, fun i h1 h2 => ?_, by simp; omega, fun y hy => ?_⟩
  · show (if i = lo + (sprN x.1 % (n : Int)).toNat then f i ++ [x] else f i) = _
    rw [List.filter_append, ← h.each i h1 h2]
    by_cases e : i = lo + (sprN x.1 % (n : Int)).toNat
    · rw [if_pos e]
      simp [e]
    · rw [if_neg e]
      have e' : ¬ lo + (sprN x.1 % (n : Int)).toNat = i := fun z => e z.symm
      simp [e']
  · rcases List.mem_append.mp hy with z | z
    · exact h.ok y z
    · rw [List.mem_singleton.mp z]; exact ok
theorem Parted.other {P : List KW} {f g : Nat → List KW} {lo n : Nat} (h : Parted P f lo n) (e : ∀ i, lo ≤ i → i < lo + n → g i = f i) : Parted P g lo n :=
  ⟨h.pos, fun i h1 h2 => (e i h1 h2).trans (h.each i h1 h2), h.few, h.ok⟩
def shf (c : Int) (i : Nat) (n : List Nat) : Shf := ⟨n, (1 + mixN c (6 + (i : Int)) % 9).toNat, if i % 2 = 0 then Str.ofString "table" else Str.ofString "stream"⟩
def mkS (c : Int) (ns : List (List Nat)) : List Shf := ns.mapIdx fun i n => shf c i n
end L2

set_option Elab.async false
set_option linter.all false
set_option maxRecDepth 100000
set_option maxHeartbeats 4000000
namespace L2
open PySem PySem.Spec PyProof.Rows
/-! ### what the laws of the lending share -/
/-- the mixed cell at a place -/
def cellN (ns : List Int) (k : Int) : Int := mixN (if k < (ns.length : Int) then ns.getD k.toNat 0 else 104729 * k + 7) k
def sp_cellN (K : PySem.W.Frag) : Sp := fun vs H Q _ => ∃ (p : Addr) (ns : List Int) (k : Int), vs = [.ref p, .int k] ∧ SqL K H p (ns.map V.int) ∧ 0 ≤ k ∧ Q (.int (cellN ns k)) H
def manyN (ns : List Int) (f m : Int) : Int := min m (max (cellN ns (f - 1) / 7 % (m + 1)) ((ns.length : Int) - f))
def sp_many (K : PySem.W.Frag) : Sp := fun vs H Q _ => ∃ (p : Addr) (ns : List Int) (f m : Int), vs = [.ref p, .int f, .int m] ∧ SqL K H p (ns.map V.int) ∧ 1 ≤ f ∧ 0 ≤ m ∧ Q (.int (manyN ns f m)) H
def sp_namesL : Sp := fun vs H Q _ => ∃ (c o m : Int), vs = [.int c, .int o, .int m] ∧ 0 ≤ c ∧ 0 ≤ o ∧ 0 ≤ m ∧ m ≤ 36 ∧ ∀ D H' (ns : List (List Nat)), H D = none → Same H H' → (ns.length : Int) = m → H' D = some (.lst (ns.map fun l => V.str (S l))) → Q (.ref D) H'
def sp_loan_eq : Sp := fun vs H Q _ => ∃ (v u : V) (o : Option Loan), vs = [v, u] ∧ LoanVal H o v ∧ LoanVal H o u ∧ Q (.bl true) H
end L2

set_option Elab.async false
set_option linter.all false
set_option maxRecDepth 100000
set_option maxHeartbeats 4000000
namespace L2
open PySem PySem.Spec PyProof.Rows
/-! ### tables, by their pairs -/
structure TabK (kvs : List (Key × V)) (f : List Nat → Option (List Nat)) (n : Nat) : Prop where
  len : kvs.length ≤ n
  nd : NdK kvs
  val : ∀ k : List Nat, valV kvs (.inr (S k)) = (f k).map fun z => V.str (S z)
  int : ∀ i : Int, valV kvs (.inl i) = none
theorem TabK.nil : TabK [] (fun _ => none) 0 := ⟨Nat.le_refl _, NdK.nil, fun _ => rfl, fun _ => rfl⟩
theorem inr_S {q k : List Nat} : (Sum.inr (S q) : Key) = Sum.inr (S k) ↔ q = k := ⟨fun h => S_inj (Sum.inr.inj h), fun h => by rw [h]⟩
theorem TabK.put {kvs : List (Key × V)} {f : List Nat → Option (List Nat)} {n : Nat} (h : TabK kvs f n) (k w : List Nat) : TabK (putK kvs (.inr (S k)) (.str (S w))) (fun q => if q = k then some w else f q) (n + 1) := by
  refine ⟨?_, h.nd.put _ _, fun q => ?_, fun i => ?_⟩
  · have := length_putK kvs (.inr (S k) : Key) (.str (S w)); have := h.len; omega
  · rw [valV_put]
    by_cases e : q = k
    · rw [if_pos (inr_S.mpr e), if_pos e]; rfl
    · rw [if_neg (fun z => e (inr_S.mp z)), if_neg e]; exact h.val q
  · rw [valV_put, if_neg (by intro z; cases z)]; exact h.int i
theorem TabK.drop {kvs : List (Key × V)} {f : List Nat → Option (List Nat)} {n : Nat} (h : TabK kvs f n) (k : List Nat) : TabK (dropK kvs (.inr (S k))) (fun q => if q = k then none else f q) n := by
  refine ⟨Nat.le_trans (dropK_le _ _) h.len, h.nd.drop _, fun q => ?_, fun i => ?_⟩
  · rw [valV_drop]
    by_cases e : q = k
    · rw [if_pos (inr_S.mpr e), if_pos e]; rfl
    · rw [if_neg (fun z => e (inr_S.mp z)), if_neg e]; exact h.val q
  · rw [valV_drop, if_neg (by intro z; cases z)]; exact h.int i
theorem TabK.mono {kvs : List (Key × V)} {f g : List Nat → Option (List Nat)} {n m : Nat} (h : TabK kvs f n) (e : ∀ q, f q = g q) (hn : n ≤ m) : TabK kvs g m := ⟨Nat.le_trans h.len hn, h.nd, fun k => by rw [← e k]; exact h.val k, h.int⟩
/-- a dict that is such a table -/
def Tab (H : Hp) (d : Addr) (f : List Nat → Option (List Nat)) (n : Nat) : Prop := ∃ kvs, H d = some (.dK kvs) ∧ TabK kvs f n
theorem Tab.same {H H' : Hp} {d : Addr} {f : List Nat → Option (List Nat)} {n : Nat} (h : Tab H d f n) (s : Same H H') : Tab H' d f n := let ⟨kvs, e, t⟩ := h; ⟨kvs, s _ _ e, t⟩
theorem Tab.chg {A : List Addr} {H H' : Hp} {d : Addr} {f : List Nat → Option (List Nat)} {n : Nat} (h : Tab H d f n) (c : Chg A H H') (hd : d ∉ A) : Tab H' d f n := let ⟨kvs, e, t⟩ := h; ⟨kvs, c.keep _ _ e hd, t⟩
theorem Tab.ne {H : Hp} {d e : Addr} {f : List Nat → Option (List Nat)} {n : Nat} (h : Tab H d f n) (he : H e = none) : d ≠ e := fun z => by
  obtain ⟨kvs, hk, _⟩ := h
  rw [z, he] at hk
  cases hk
theorem TupsAt.drop {H : Hp} {ts : List Addr} {rows : List (List V)} (h : TupsAt H ts rows) (n : Nat) : TupsAt H (ts.drop n) (rows.drop n) := by
  unfold TupsAt at h ⊢
  induction h generalizing n with
  | nil => simp; exact .nil
  | cons r t ih =>
    cases n with
    | zero => exact .cons r t
    | succ n => exact ih n
theorem TabK.len_eq {a b : List (Key × V)} {f : List Nat → Option (List Nat)} {n m : Nat} (ha : TabK a f n) (hb : TabK b f m) : a.length = b.length := by
  refine NdK.len ha.nd hb.nd fun k => ?_
  cases k with
  | inl i => rw [ha.int, hb.int]
  | inr z => rw [S_of z, ha.val, hb.val]
theorem tab_pair {H : Hp} {d e : Addr} {f : List Nat → Option (List Nat)} {n m : Nat} {R : Hp → Prop} (h1 : Tab H d f n) (h2 : Tab H e f m) (hne : d ≠ e) (k : ∀ H', Same H H' → R H') : ∃ x, (∃ y, Tab H d x y) ∧ (∃ y, Tab H e x y) ∧ d ≠ e ∧ ∀ H', Same H H' → R H' := ⟨f, ⟨n, h1⟩, ⟨m, h2⟩, hne, k⟩
def sp_table (K : PySem.W.Frag) : Sp := fun vs H Q _ => ∃ (p : Addr) (ls : List L3), vs = [.ref p] ∧ LTups H p (ls.map l3V) ∧ ls.length ≤ 100 ∧ ∀ D H', H D = none → Same H H' → Tab H' D (wordAt ls) ls.length → Q (.ref D) H'
def sp_is_table : Sp := fun vs H Q _ => ∃ (d e : Addr) (f : List Nat → Option (List Nat)) (n m : Nat), vs = [.ref d, .ref e] ∧ Tab H d f n ∧ Tab H e f m ∧ d ≠ e ∧ ∀ H', Same H H' → Q (.bl true) H'
def sp_sign94 : Sp := fun vs H Q _ => ∃ n : Int, vs = [.int n] ∧ Q (.str (S [sgn n 94])) H
def sp_keysT : Sp := fun vs H Q _ => ∃ (c m : Int), vs = [.int c, .int m] ∧ 0 ≤ m ∧ m ≤ 36 ∧ ∀ D H' (ks : List (List Nat)), H D = none → Same H H' → (ks.length : Int) = m → (∀ k ∈ ks, okS k) → H' D = some (.lst (ks.map fun l => V.str (S l))) → Q (.ref D) H'
def sp_word : Sp := fun vs H Q _ => ∃ c : Int, vs = [.int c] ∧ ∀ w : List Nat, okS w → Q (.str (S w)) H
theorem okS_rep {l : List Nat} (h : okS l) (n : Nat) : okS (repL n l) := fun c hc => by
  unfold repL at hc
  obtain ⟨x, hx, hcx⟩ := List.mem_flatten.mp hc
  rw [List.eq_of_mem_replicate hx] at hcx
  exact h c hcx
theorem okS_one (n : Int) : okS [sgn n 94] := fun c hc => by rw [List.mem_singleton.mp hc]; exact okS_sgn n 94
theorem sgn94_at (n : Int) : (T62 ++ T34.take 32)[(n % 94).toNat]? = some (sgn n 94) := by
  have h : (n % 94).toNat < 94 := by omega
  have e : T96[(n % 94).toNat]? = some (sgn n 94) := sgn_at n 94 (by decide) (by decide)
  rw [← e]
  have key : ∀ i : Fin 94, (T62 ++ T34.take 32)[i.val]? = T96[i.val]? := by decide +kernel
  exact key ⟨_, h⟩
theorem inV_strs (k : List Nat) (ks : List (List Nat)) : inV (.str (S k)) (ks.map fun l => V.str (S l)) = decide (k ∈ ks) := by
  unfold inV
  induction ks with
  | nil => rfl
  | cons x r ih =>
    rw [List.map_cons, List.any_cons, ih]
    show ((S x == S k) || decide (k ∈ r)) = _
    by_cases e : k = x
    · subst e; simp
    · have e1 : (S x == S k) = false := by
        rw [beq_eq_false_iff_ne]
        exact fun z => e (S_inj z).symm
      rw [e1]
      simp [e]
theorem if_swap {α : Type} {q k : List Nat} {x y : α} : (if q = k then x else y) = (if k = q then x else y) := by
  by_cases e : q = k
  · rw [if_pos e, if_pos e.symm]
  · rw [if_neg e, if_neg (Ne.symm e)]
theorem strs_flat (ks : List (List Nat)) : (ks.map fun l => V.str (S l)).all flatV = true := by
  induction ks with
  | nil => rfl
  | cons x r ih => rw [List.map_cons, List.all_cons, ih]; rfl
theorem lastW_cons_ne {x : L3} {r : List L3} {q : List Nat} : lastW (x :: r) q ≠ none ↔ q = x.2.1 ∨ lastW r q ≠ none := by
  rw [lastW]
  cases h : lastW r q with
  | some y => simp
  | none =>
    by_cases e : x.2.1 = q
    · simp [e]
    · simp [e, Ne.symm e]
theorem wordAt_cons_old {x : L3} {r : List L3} (h : lastW r x.2.1 ≠ none) (q : List Nat) : wordAt r q = wordAt (x :: r) q := by
  rw [wordAt_cons]
  unfold wordAt
  cases e : lastW r q with
  | some y => cases y <;> rfl
  | none =>
    have : ¬ x.2.1 = q := fun z => h (by rw [z]; exact e)
    simp [this]
theorem wordAt_cons_new {x : L3} {r : List L3} (h : lastW r x.2.1 = none) (q : List Nat) : (if q = x.2.1 then x.2.2 else wordAt r q) = wordAt (x :: r) q := by
  rw [wordAt_cons]
  unfold wordAt
  by_cases e : q = x.2.1
  · subst e; rw [if_pos rfl, h]; simp
  · rw [if_neg e]
    cases e2 : lastW r q with
    | some y => cases y <;> rfl
    | none => simp [Ne.symm e]
theorem drop_prev {α : Type} {l : List α} {i : Nat} {y : α} (hi : i < l.length) (h : l[l.length - 1 - i]? = some y) : l.drop (l.length - (i + 1)) = y :: l.drop (l.length - i) := by
  obtain ⟨h1, h2⟩ := List.getElem?_eq_some_iff.mp h
  rw [show l.length - (i + 1) = l.length - 1 - i by omega, List.drop_eq_getElem_cons h1, h2, show l.length - 1 - i + 1 = l.length - i by omega]
theorem LTups.at {K : PySem.W.Frag} {H : Hp} {p : Addr} {rows : List (List V)} (h : LTups H p rows) : ∃ ts : List Addr, SqL K H p (ts.map V.ref) ∧ ts.length = rows.length ∧ ∀ (i : Nat) (x : V), (ts.map V.ref)[i]? = some x → ∃ t r, x = .ref t ∧ rows[i]? = some r ∧ H t = some (.tup r) := by
  obtain ⟨ts, h1, h2⟩ := h
  refine ⟨ts, .inl (.inl h1), h2.length, fun i x hx => ?_⟩
  rw [List.getElem?_map] at hx
  cases e : ts[i]? with
  | none => rw [e] at hx; cases hx
  | some t =>
    rw [e] at hx
    obtain ⟨r, hr, ht⟩ := h2.get e
    exact ⟨t, r, (Option.some.inj hx).symm, hr, ht⟩
theorem same_back {H H' : Hp} {b : Addr} (s : Same H H') (h : H' b = none) : H b = none := by
  cases e : H b with
  | none => rfl
  | some o => rw [s _ _ e] at h; cases h
theorem Same.wr {H H' : Hp} {b : Addr} {o : HO} (s : Same H H') (h : H b = none) : Same H (L2.upd H' b o) := fun c u hc => (upd_ne (ne_of_none hc h)).trans (s c u hc)
def okL3 (x : L3) : Prop := okS x.2.1 ∧ ∀ w, x.2.2 = some w → okS w
end L2

set_option Elab.async false
set_option linter.all false
set_option maxRecDepth 100000
set_option maxHeartbeats 4000000
namespace L2
open PySem PySem.Spec PyProof.Rows
/-! ### plain things: None, texts, ints, lists and tuples of these -/
def Pl (H : Hp) : Nat → V → Prop
  | _, .non => True
  | _, .int _ => True
  | _, .str _ => True
  | n + 1, .ref a => ∃ xs, (H a = some (.lst xs) ∨ H a = some (.tup xs)) ∧ ∀ x ∈ xs, Pl H n x
  | _, _ => False
theorem Pl.same {H H' : Hp} (s : Same H H') : ∀ {n : Nat} {v : V}, Pl H n v → Pl H' n v := by
  intro n
  induction n with
  | zero =>
    intro v h
    cases v with
    | non => trivial
    | int i => trivial
    | str x => trivial
    | _ => exact (show False from h).elim
  | succ n ih =>
    intro v h
    cases v with
    | non => trivial
    | int i => trivial
    | str x => trivial
    | ref a =>
      obtain ⟨xs, h, hx⟩ := (show ∃ xs, (H a = some (.lst xs) ∨ H a = some (.tup xs)) ∧ ∀ x ∈ xs, Pl H n x from h)
      exact ⟨xs, h.elim (fun h => .inl (s _ _ h)) fun h => .inr (s _ _ h), fun x m => ih (hx x m)⟩
    | _ => exact (show False from h).elim
def sp_plainN : Nat → Sp
  | 0 => fun _ _ _ _ => False
  | n + 1 => fun vs H Q _ => ∃ v, vs = [v] ∧ Pl H n v ∧ ∀ H', Same H H' → Q (.bl true) H'
def sp_same (K : PySem.W.Frag) : Sp := fun vs H Q _ => ∃ (x y : V) (d : PyData), vs = [x, y] ∧ Pl H 2 x ∧ Den K H x d ∧ Den K H y d ∧ wd 3 d ∧ ∀ H', Same H H' → Q (.bl true) H'
theorem isiT_no {K : PySem.W.Frag} {H : Hp} {Q : VK} {x : V} {p : Addr} {T : String} (hp : H p = some (.tup [.ty "tuple", .ty "list"])) (ty : TyOf K H x (.type T)) (hk : PySem.W.kitAny K (.type T) [.type "tuple", .type "list"] = some false) (q : Q (.bl false) H) : rIsiT K [x, .ref p] H Q :=
  ⟨x, _, p, ["tuple", "list"], false, rfl, hp, ty, hk, q⟩
theorem isiT_yes {K : PySem.W.Frag} {H : Hp} {Q : VK} {x : V} {p : Addr} {T : String} (hp : H p = some (.tup [.ty "tuple", .ty "list"])) (ty : TyOf K H x (.type T)) (hk : PySem.W.kitAny K (.type T) [.type "tuple", .type "list"] = some true) (q : Q (.bl true) H) : rIsiT K [x, .ref p] H Q :=
  ⟨x, _, p, ["tuple", "list"], true, rfl, hp, ty, hk, q⟩
theorem rEqq_den {K : PySem.W.Frag} {H : Hp} {Q : VK} {x y : V} {n : Nat} {d : PyData} (h1 : Den K H x d) (h2 : Den K H y d) (hw : wd n d) (q : Q (.bl true) H) (hn : n ≤ 64 := by decide) : rEqq K x y H Q := by
  cases hr : (isRef x || isRef y) with
  | true => exact rEqq_same h1 h2 hw hr q hn
  | false =>
    cases h1 with
    | non => cases h2 with
      | non => rw [rEqq_nn]; exact q
    | bl b => cases h2 with
      | bl c => rw [rEqq_bb, decide_eq_true rfl]; exact q
    | int i => cases h2 with
      | int j => rw [rEqq_ii, decide_eq_true rfl]; exact q
    | str z => cases h2 with
      | str u => rw [rEqq_ss, decide_eq_true rfl]; exact q
    | lst h _ => cases hr
    | tup h _ => cases hr
end L2

set_option Elab.async false
set_option linter.all false
set_option maxRecDepth 100000
set_option maxHeartbeats 4000000
namespace L2
open PySem PySem.Spec PyProof.Rows
/-! ### what stands in a row, and what of it is drawn away -/
def RowM.rowL (M : RowM) (p : Int) : L3 := match M.L p with
  | some x => (p, x.1, x.2.1)
  | none => (p, [], none)
theorem rowL_fst (M : RowM) (p : Int) : (M.rowL p).1 = p := by unfold RowM.rowL; split <;> rfl
theorem rowL_V {M : RowM} {p : Int} (h : (M.L p).isSome = true) : M.rowV p = l3V (M.rowL p) := by
  obtain ⟨x, hx⟩ := Option.isSome_iff_exists.mp h
  unfold RowM.rowV RowM.rowL
  rw [hx]
  rfl
/-- all letters that stand -/
def RowM.stand (M : RowM) : List L3 := (M.standing 0 M.last.toNat).map M.rowL
theorem standing_V (M : RowM) (lo : Int) (n : Nat) : (M.standing lo n).map M.rowV = ((M.standing lo n).map M.rowL).map l3V := by
  rw [List.map_map]
  refine List.map_congr_left fun p hp => ?_
  exact rowL_V (standing_mem.mp hp).2
theorem map_filter_fst (M : RowM) (l : List Int) (P : Int → Bool) : (l.map M.rowL).filter (fun x => P x.1) = (l.filter P).map M.rowL := by
  rw [List.filter_map]
  congr 1
  refine List.filter_congr fun p _ => ?_
  show P (M.rowL p).1 = P p
  rw [rowL_fst]
theorem standing_filter_lt (M : RowM) (m n : Nat) (u : Int) (hu : 0 ≤ u) (hm : m = min u.toNat n) : M.standing 0 m = (M.standing 0 n).filter fun p => decide (p < u) := by
  subst hm
  unfold RowM.standing
  rw [List.filter_filter]
  by_cases h : u.toNat ≤ n
  · rw [Nat.min_eq_left h]
    obtain ⟨k, rfl⟩ : ∃ k, n = u.toNat + k := ⟨n - u.toNat, by omega⟩
    rw [List.range_add, List.map_append, List.filter_append]
    have e1 : List.filter (fun a => decide (a < u) && (M.L a).isSome) (List.map (fun (i : Nat) => (0 : Int) + (i : Int)) (List.map (fun x => u.toNat + x) (List.range k))) = [] := by
      rw [List.filter_eq_nil_iff]
      intro z hz hs
      obtain ⟨i, hi, rfl⟩ := List.mem_map.mp hz
      obtain ⟨j, _, rfl⟩ := List.mem_map.mp hi
      simp only [Bool.and_eq_true, decide_eq_true_eq] at hs
      omega
    rw [e1, List.append_nil]
    refine List.filter_congr fun z hz => ?_
    obtain ⟨i, hi, rfl⟩ := List.mem_map.mp hz
    have := List.mem_range.mp hi
    rw [decide_eq_true (show (0 : Int) + (i : Int) < u by omega), Bool.true_and]
  · rw [Nat.min_eq_right (by omega)]
    refine List.filter_congr fun z hz => ?_
    obtain ⟨i, hi, rfl⟩ := List.mem_map.mp hz
    have := List.mem_range.mp hi
    rw [decide_eq_true (show (0 : Int) + (i : Int) < u by omega), Bool.true_and]
/-- what seen tells, by what stands -/
theorem seen_stand {M : RowM} (f0 : 0 ≤ M.first) (fl : M.first ≤ M.last) (hw : ∀ p, (M.L p).isSome = true → M.first ≤ p) {li mo : Int} (hli : 0 ≤ li) (hmo : M.last ≤ mo) : (M.seenP 0 li mo).map M.rowV = (M.stand.filter fun x => decide (x.1 < li)).map l3V := by
  unfold RowM.seenP RowM.stand
  have e0 : max 0 M.first = M.first := by omega
  rw [e0, ← standing_from f0 hw]
  rw [List.take_of_length_le (by have := standing_len M 0 (min li M.last).toNat; omega)]
  rw [standing_V, map_filter_fst M _ fun p => decide (p < li), ← standing_filter_lt M (min li M.last).toNat M.last.toNat li hli (by omega)]
theorem stand_add (M : RowM) (h0 : 0 ≤ M.last) (hw : ∀ p, (M.L p).isSome = true → p < M.last) (x : Ltr) : (M.add x).stand = M.stand ++ [(M.last, x.1, x.2.1)] := by
  unfold RowM.stand
  have e1 : (M.add x).last.toNat = M.last.toNat + 1 := by show (M.last + 1).toNat = _; omega
  rw [e1, standing_succ]
  have e2 : ((M.add x).L (0 + (M.last.toNat : Int))) = some x := by
    show (if 0 + (M.last.toNat : Int) = M.last then some x else M.L _) = some x
    rw [if_pos (by omega)]
  rw [e2, if_pos (show (some x).isSome = true from rfl), List.map_append]
  have e3 : (M.add x).standing 0 M.last.toNat = M.standing 0 M.last.toNat := by
    unfold RowM.standing
    refine List.filter_congr fun z hz => ?_
    obtain ⟨i, hi, rfl⟩ := List.mem_map.mp hz
    have := List.mem_range.mp hi
    show (if 0 + (i : Int) = M.last then some x else M.L _).isSome = _
    rw [if_neg (by omega)]
  rw [e3]
  congr 1
  · refine List.map_congr_left fun p hp => ?_
    have := (standing_mem.mp hp).1.2
    unfold RowM.rowL
    show (match (if p = M.last then some x else M.L p) with | some x => (p, x.1, x.2.1) | none => (p, [], none)) = _
    rw [if_neg (by omega)]
  · show [(M.add x).rowL (0 + (M.last.toNat : Int))] = _
    unfold RowM.rowL
    rw [e2]
    show [((0 : Int) + (M.last.toNat : Int), x.1, x.2.1)] = _
    rw [show (0 : Int) + (M.last.toNat : Int) = M.last by omega]
theorem stand_raised (M : RowM) (p : Int) : (M.raised p).stand = M.stand := rfl
theorem stand_len (M : RowM) : M.stand.length ≤ M.last.toNat := by unfold RowM.stand; rw [List.length_map]; exact standing_len _ _ _
theorem stand_lt (M : RowM) : M.stand.Pairwise fun x y => x.1 < y.1 := by
  unfold RowM.stand
  rw [List.pairwise_map]
  refine List.Pairwise.imp (fun {a b} h => ?_) (standing_lt M 0 M.last.toNat)
  rw [rowL_fst, rowL_fst]
  exact h
/-! the last of each key -/
def lastP : List L3 → List Nat → Option Int
  | [], _ => none
  | x :: r, k => match lastP r k with
    | some y => some y
    | none => if x.2.1 = k then some x.1 else none
theorem lastP_snoc (a : List L3) (x : L3) (k : List Nat) : lastP (a ++ [x]) k = if x.2.1 = k then some x.1 else lastP a k := by
  induction a with
  | nil => rw [List.nil_append]; simp [lastP]
  | cons y r ih =>
    rw [List.cons_append, lastP, ih]
    by_cases h : x.2.1 = k
    · rw [if_pos h, if_pos h]
    · rw [if_neg h, if_neg h, lastP]
theorem lastP_in {l : List L3} {k : List Nat} {y : Int} (h : lastP l k = some y) : ∃ z ∈ l, z.1 = y ∧ z.2.1 = k := by
  induction l with
  | nil => cases h
  | cons x r ih =>
    rw [lastP] at h
    cases e : lastP r k with
    | some w =>
      rw [e] at h
      cases h
      obtain ⟨z, hz, h1, h2⟩ := ih e
      exact ⟨z, List.mem_cons_of_mem _ hz, h1, h2⟩
    | none =>
      rw [e] at h
      by_cases hk : x.2.1 = k
      · have h' : (if x.2.1 = k then some x.1 else none) = some y := h
        rw [if_pos hk] at h'
        cases h'
        exact ⟨x, List.mem_cons_self, rfl, hk⟩
      · have h' : (if x.2.1 = k then some x.1 else none) = some y := h
        rw [if_neg hk] at h'
        cases h'
theorem lastP_none {l : List L3} {k : List Nat} : lastP l k = none ↔ ∀ x ∈ l, x.2.1 ≠ k := by
  induction l with
  | nil => simp [lastP]
  | cons x r ih =>
    rw [lastP]
    cases h : lastP r k with
    | some y =>
      simp only [reduceCtorEq, false_iff]
      intro z
      have := ih.mpr (fun y hy => z y (List.mem_cons_of_mem _ hy))
      rw [h] at this
      cases this
    | none =>
      have h' := ih.mp h
      by_cases e : x.2.1 = k
      · simp [e]
      · simp [e]; intro a b c hm; exact h' (a, b, c) hm
def laterB (ls : List L3) (k : Nat) : Bool := (ls.drop (k + 1)).any fun y => decide (y.2.1 = (ls.getD k (0, [], none)).2.1)
def awayL (ls : List L3) (passed : Int) : List Int := (ls.filter fun x => !(lastP ls x.2.1 == some x.1) || (x.2.2.isNone && decide (x.1 < passed))).map (·.1)
def at3 (ls : List L3) (k : Nat) : L3 := ls.getD k (0, [], none)
open Classical in
noncomputable def tupP (H : Hp) (P : L3 → Bool) (x : V) : Bool := decide (∃ t y, x = .ref t ∧ H t = some (.tup (l3V y)) ∧ P y = true)
open Classical in
theorem Chg.wr {A : List Addr} {H H' : Hp} {b : Addr} {o : HO} (c : Chg A H H') (h : H b = none) : Chg A H (L2.upd H' b o) :=
  ⟨fun e u he n => (upd_ne (ne_of_none he h)).trans (c.keep e u he n), fun e xs he => (upd_ne (ne_of_none he h)).trans (c.tup e xs he)⟩
theorem wd.mono {n m : Nat} {d : PyData} (h : wd n d) (hn : n ≤ m) : wd m d := ⟨h.1, Nat.le_trans h.2 hn⟩
theorem Pl.ints {H : Hp} {p : Addr} {ns : List Int} (h : H p = some (.lst (ns.map V.int))) : Pl H 2 (.ref p) := ⟨_, .inl h, fun x hx => by
  obtain ⟨n, _, rfl⟩ := List.mem_map.mp hx
  trivial⟩
theorem Pl.l3 {H : Hp} {p : Addr} {ls : List L3} (h : LTups H p (ls.map l3V)) : Pl H 2 (.ref p) := by
  obtain ⟨ts, hts, htl, hat⟩ := h.at (K := [])
  obtain ⟨ts', h1, h2⟩ := h
  refine ⟨_, .inl h1, fun x hx => ?_⟩
  obtain ⟨t, ht, rfl⟩ := List.mem_map.mp hx
  obtain ⟨i, hi, e⟩ := List.getElem_of_mem ht
  obtain ⟨r, hr, htr⟩ := h2.get (i := i) (t := t) (by rw [List.getElem?_eq_getElem hi, e])
  rw [List.getElem?_map] at hr
  cases e2 : ls[i]? with
  | none => rw [e2] at hr; cases hr
  | some y =>
    rw [e2] at hr
    cases hr
    refine ⟨_, .inr htr, fun v hv => ?_⟩
    obtain ⟨p0, k, w⟩ := y
    simp only [l3V, List.mem_cons, List.not_mem_nil, or_false] at hv
    rcases hv with rfl | rfl | rfl
    · trivial
    · trivial
    · cases w <;> trivial
theorem stand_mem {M : RowM} {x : L3} (h : x ∈ M.stand) : 0 ≤ x.1 ∧ x.1 < M.last ∧ ∃ l, M.L x.1 = some l ∧ x = (x.1, l.1, l.2.1) := by
  unfold RowM.stand at h
  obtain ⟨p, hp, rfl⟩ := List.mem_map.mp h
  obtain ⟨⟨h1, h2⟩, h3⟩ := standing_mem.mp hp
  obtain ⟨l, hl⟩ := Option.isSome_iff_exists.mp h3
  rw [rowL_fst]
  refine ⟨h1, by omega, l, hl, ?_⟩
  unfold RowM.rowL
  rw [hl]
def sp_drawn (C : Addr) : Sp := fun vs H Q _ => ∃ (r d : Addr) (M : RowM) (fl pa : Int), vs = [.ref r, .int fl, .int pa] ∧ RowAt C H r d M ∧ M.last ≤ 1000 ∧ 0 ≤ fl ∧ ∀ D H', H D = none → Same H H' → H' D = some (.lst ((awayL (M.stand.filter fun x => decide (x.1 < fl)) pa).map V.int)) → Q (.ref D) H'
def sp_later (K : PySem.W.Frag) : Sp := fun vs H Q _ => ∃ (p : Addr) (ls : List L3) (k : Nat), vs = [.ref p, .int k] ∧ LTups H p (ls.map l3V) ∧ k < ls.length ∧ ∀ H', Same H H' → Q (.bl (laterB ls k)) H'
def dueL (ls : List L3) (v : Int) : List Int := ((List.range (ls.filter fun x => decide (x.1 < v)).length).filter fun k => laterB (ls.filter fun x => decide (x.1 < v)) k).map fun k => (at3 (ls.filter fun x => decide (x.1 < v)) k).1
end L2

set_option Elab.async false
set_option linter.all false
set_option maxRecDepth 100000
set_option maxHeartbeats 4000000
namespace L2
open PySem PySem.Spec PyProof.Rows
/-! ### x is True -/
def rIsB : R2 := fun x y H Q => ∃ b c, x = .bl b ∧ y = .bl c ∧ Q (.bl (decide (b = c))) H
def rNotB : R2 := fun x y H Q => ∃ b c, x = .bl b ∧ y = .bl c ∧ Q (.bl (!decide (b = c))) H
section
variable {X : Cx}
theorem op_notB : OpR X (compareOp .IsNot) rNotB := by
  intro pins s σ H x y v u Q I rx ry h
  obtain ⟨b, c, rfl, rfl, q⟩ := h
  cases (show v = Value.bool b from rx)
  cases (show u = Value.bool c from ry)
  refine wpAny_isNot_plain (by cases b <;> cases c <;> rfl) ⟨.bl (!decide (b = c)), H, I, ?_, q⟩
  show Value.bool _ = Value.bool _
  cases b <;> cases c <;> rfl
theorem rIsB_bb {H : Hp} {Q : VK} (b c : Bool) : rIsB (.bl b) (.bl c) H Q = Q (.bl (decide (b = c))) H := by simp [rIsB]
theorem rNotB_bb {H : Hp} {Q : VK} (b c : Bool) : rNotB (.bl b) (.bl c) H Q = Q (.bl (!decide (b = c))) H := by simp [rNotB]
end
/-! ### what is left once it is drawn -/
theorem lastP_max {l : List L3} (hp : l.Pairwise fun x y => x.1 < y.1) {k : List Nat} {y : Int} (h : lastP l k = some y) : ∀ w ∈ l, w.2.1 = k → w.1 ≤ y := by
  induction l with
  | nil => intro w hw; cases hw
  | cons x r ih =>
    rw [List.pairwise_cons] at hp
    rw [lastP] at h
    intro w hw hk
    cases e : lastP r k with
    | some z =>
      rw [e] at h
      have hz : z = y := Option.some.inj h
      subst hz
      rcases List.mem_cons.mp hw with rfl | hw
      · obtain ⟨u, hu, h1, h2⟩ := lastP_in e
        have := hp.1 u hu
        omega
      · exact ih hp.2 e w hw hk
    | none =>
      rw [e] at h
      have h' : (if x.2.1 = k then some x.1 else none) = some y := h
      have hn := lastP_none.mp e
      rcases List.mem_cons.mp hw with rfl | hw
      · rw [if_pos hk] at h'
        have := Option.some.inj h'
        omega
      · exact absurd hk (hn w hw)
theorem lastP_of {l : List L3} (hp : l.Pairwise fun x y => x.1 < y.1) {x : L3} (hx : x ∈ l) (hm : ∀ w ∈ l, w.2.1 = x.2.1 → w.1 ≤ x.1) : lastP l x.2.1 = some x.1 := by
  cases e : lastP l x.2.1 with
  | none => exact absurd rfl (lastP_none.mp e x hx)
  | some y =>
    obtain ⟨z, hz, h1, h2⟩ := lastP_in e
    have a := hm z hz h2
    have b := lastP_max hp e x hx rfl
    congr 1
    omega
/-- goes when drawn -/
def goes (ls : List L3) (pa : Int) (x : L3) : Bool := !(lastP ls x.2.1 == some x.1) || (x.2.2.isNone && decide (x.1 < pa))
theorem awayL_eq (ls : List L3) (pa : Int) : awayL ls pa = (ls.filter (goes ls pa)).map (·.1) := rfl
theorem stay_last {ls : List L3} (hp : ls.Pairwise fun x y => x.1 < y.1) {pa : Int} {P : L3 → Bool} (hP : ∀ x ∈ ls, P x = true → goes ls pa x = false) {x : L3} (hx : x ∈ ls.filter P) : lastP (ls.filter P) x.2.1 = some x.1 ∧ (x.2.2.isNone && decide (x.1 < pa)) = false := by
  obtain ⟨h1, h2⟩ := List.mem_filter.mp hx
  have hg := hP x h1 h2
  unfold goes at hg
  rw [Bool.or_eq_false_iff] at hg
  have hl : lastP ls x.2.1 = some x.1 := by
    have : (lastP ls x.2.1 == some x.1) = true := by simpa using hg.1
    exact beq_iff_eq.mp this
  refine ⟨lastP_of (hp.filter _) hx fun w hw hk => lastP_max hp hl w (List.mem_filter.mp hw).1 hk, hg.2⟩
theorem away_again {ls : List L3} (hp : ls.Pairwise fun x y => x.1 < y.1) {pa : Int} {P : L3 → Bool} (hP : ∀ x ∈ ls, P x = true → goes ls pa x = false) : awayL (ls.filter P) pa = [] := by
  rw [awayL_eq]
  have : (ls.filter P).filter (goes (ls.filter P) pa) = [] := by
    rw [List.filter_eq_nil_iff]
    intro x hx hg
    obtain ⟨a, b⟩ := stay_last hp hP hx
    unfold goes at hg
    rw [a, b] at hg
    simp at hg
  rw [this]
  rfl
end L2

set_option Elab.async false
set_option linter.all false
set_option maxRecDepth 100000
set_option maxHeartbeats 4000000
namespace L2
open PySem PySem.Spec PyProof.Rows
def RowM.outs (M : RowM) (l : List Int) : RowM := { M with L := fun q => if q ∈ l then none else M.L q }
theorem outs_nil (M : RowM) : M.outs [] = M := by
  unfold RowM.outs
  simp
theorem outs_snoc (M : RowM) (l : List Int) (p : Int) : (M.outs l).out p = M.outs (l ++ [p]) := by
  unfold RowM.outs RowM.out
  congr 1
  funext q
  show (if q = p then none else if q ∈ l then none else M.L q) = if q ∈ l ++ [p] then none else M.L q
  by_cases h1 : q = p
  · rw [if_pos h1, if_pos (by simp [h1])]
  · rw [if_neg h1]
    by_cases h2 : q ∈ l
    · rw [if_pos h2, if_pos (by simp [h2])]
    · rw [if_neg h2, if_neg (by simp [h1, h2])]
theorem stand_outs (M : RowM) (l : List Int) : (M.outs l).stand = M.stand.filter fun x => !decide (x.1 ∈ l) := by
  unfold RowM.stand
  rw [map_filter_fst M _ fun q => !decide (q ∈ l)]
  have e : (M.outs l).standing 0 M.last.toNat = (M.standing 0 M.last.toNat).filter fun q => !decide (q ∈ l) := by
    unfold RowM.standing
    rw [List.filter_filter]
    refine List.filter_congr fun z _ => ?_
    show (if z ∈ l then none else M.L z).isSome = _
    by_cases h : z ∈ l
    · rw [if_pos h]; simp [h]
    · rw [if_neg h]; simp [h]
  show ((M.outs l).standing 0 M.last.toNat).map (M.outs l).rowL = _
  rw [e]
  refine List.map_congr_left fun q hq => ?_
  have hq' : q ∉ l := by simpa using (List.mem_filter.mp hq).2
  unfold RowM.rowL
  show (match (if q ∈ l then none else M.L q) with | some x => (q, x.1, x.2.1) | none => (q, [], none)) = _
  rw [if_neg hq']
  try rfl
theorem away_lt {ls : List L3} (hp : ls.Pairwise fun x y => x.1 < y.1) (pa : Int) : (awayL ls pa).Pairwise (· < ·) := by
  rw [awayL_eq, List.pairwise_map]
  exact hp.filter _
theorem away_mem {ls : List L3} {pa : Int} {x : L3} (hx : x ∈ ls) (h : goes ls pa x = true) : x.1 ∈ awayL ls pa := by
  rw [awayL_eq]
  exact List.mem_map.mpr ⟨x, List.mem_filter.mpr ⟨hx, h⟩, rfl⟩
theorem away_in {ls : List L3} {pa p : Int} (h : p ∈ awayL ls pa) : ∃ x ∈ ls, x.1 = p := by
  rw [awayL_eq] at h
  obtain ⟨x, hx, e⟩ := List.mem_map.mp h
  exact ⟨x, (List.mem_filter.mp hx).1, e⟩
theorem away_drawn {M : RowM} (fv pv : Int) {fs : List L3} (hfs : (M.stand.filter fun x => decide (x.1 < fv)) = fs) : ((M.outs (awayL fs pv)).stand.filter fun x => decide (x.1 < fv)) = fs.filter fun x => !decide (x.1 ∈ awayL fs pv) := by
  rw [stand_outs, List.filter_filter, ← hfs, List.filter_filter]
  refine List.filter_congr fun x _ => ?_
  rw [Bool.and_comm]
theorem stays_goes {fs : List L3} {pv : Int} : ∀ x ∈ fs, (!decide (x.1 ∈ awayL fs pv)) = true → goes fs pv x = false := by
  intro x hx h
  cases e : goes fs pv x with
  | false => rfl
  | true =>
    have := away_mem hx e
    simp [this] at h
end L2

set_option Elab.async false
set_option linter.all false
set_option maxRecDepth 100000
set_option maxHeartbeats 4000000
namespace L2
open PySem PySem.Spec PyProof.Rows
/-! ### max(list of ints), max(list of ints, default=d) -/
section
variable {prog : Program} {w : World} {A : Around} {R : Result → Shared → Prop} {I : Addr} {fp wr : List Addr} {n : Nat} {P : Nat → Value → Prop} {St : Nat → Heap → Prop} {kw : List (Str × Value)}
end
section
variable {prog : Program} {w : World} {A : Around} {E : Value → Shared → Prop} {s : Shared}
end
section
variable {X : Cx}
def rMaxL (K : PySem.W.Frag) : List V → Hp → VK → Prop := fun xs H Q => ∃ (p : Addr) (ns : List Int), xs = [.ref p] ∧ SqL K H p (ns.map V.int) ∧ ns ≠ [] ∧ ∀ m ∈ ns, (∀ a ∈ ns, a ≤ m) → Q (.int m) H
def tMaxD (K : PySem.W.Frag) (te td : TE) : TE := fun σ H Q => te σ H fun x H1 => td σ H1 fun y H2 => ∃ (p : Addr) (ns : List Int) (d : Int), x = .ref p ∧ y = .int d ∧ SqL K H2 p (ns.map V.int) ∧ ∀ m, (ns = [] → m = d) → (ns ≠ [] → m ∈ ns ∧ ∀ a ∈ ns, a ≤ m) → Q (.int m) H2
end
end L2

set_option Elab.async false
set_option linter.all false
set_option maxRecDepth 100000
set_option maxHeartbeats 4000000
namespace L2
open PySem PySem.Spec PyProof.Rows
theorem TupsAt.append {H : Hp} {ts us : List Addr} {rows more : List (List V)} (h : TupsAt H ts rows) (h2 : TupsAt H us more) : TupsAt H (ts ++ us) (rows ++ more) := by
  unfold TupsAt at h h2 ⊢
  induction h with
  | nil => exact h2
  | cons r t ih => exact .cons r ih
/-! ### a table that takes letters -/
def tblF (pl : Int) (w l : Addr) : List (Str × V) := [("place", .int pl), ("words", .ref w), ("lasts", .ref l)]
structure WrdK (kvs : List (Key × V)) (tk : List L3) : Prop where
  len : kvs.length ≤ tk.length
  nd : NdK kvs
  val : ∀ k : List Nat, valV kvs (.inr (S k)) = (lastW tk k).map wV
  int : ∀ i : Int, valV kvs (.inl i) = none
structure LstK (kvs : List (Key × V)) (tk : List L3) : Prop where
  len : kvs.length ≤ tk.length
  val : ∀ k : List Nat, valV kvs (.inr (S k)) = (lastP tk k).map V.int
theorem WrdK.nil : WrdK [] [] := ⟨Nat.le_refl _, NdK.nil, fun _ => rfl, fun _ => rfl⟩
theorem LstK.nil : LstK [] [] := ⟨Nat.le_refl _, fun _ => rfl⟩
theorem WrdK.put {kvs : List (Key × V)} {tk : List L3} (h : WrdK kvs tk) (x : L3) : WrdK (putK kvs (.inr (S x.2.1)) (wV x.2.2)) (tk ++ [x]) := by
  refine ⟨?_, h.nd.put _ _, fun q => ?_, fun i => ?_⟩
  · have := length_putK kvs (.inr (S x.2.1) : Key) (wV x.2.2); have := h.len; rw [List.length_append, List.length_singleton]; omega
  · rw [valV_put, lastW_snoc]
    by_cases e : q = x.2.1
    · rw [if_pos (inr_S.mpr e), if_pos e.symm]; rfl
    · rw [if_neg (fun z => e (inr_S.mp z)), if_neg (Ne.symm e)]; exact h.val q
  · rw [valV_put, if_neg (by intro z; cases z)]; exact h.int i
theorem LstK.put {kvs : List (Key × V)} {tk : List L3} (h : LstK kvs tk) (x : L3) : LstK (putK kvs (.inr (S x.2.1)) (.int x.1)) (tk ++ [x]) := by
  refine ⟨?_, fun q => ?_⟩
  · have := length_putK kvs (.inr (S x.2.1) : Key) (.int x.1); have := h.len; rw [List.length_append, List.length_singleton]; omega
  · rw [valV_put, lastP_snoc]
    by_cases e : q = x.2.1
    · rw [if_pos (inr_S.mpr e), if_pos e.symm]; rfl
    · rw [if_neg (fun z => e (inr_S.mp z)), if_neg (Ne.symm e)]; exact h.val q
structure TblAt (C : Addr) (H : Hp) (t w l : Addr) (tk : List L3) (pl : Int) : Prop where
  obj : ∃ dx, H t = some (.ins C dx (tblF pl w l))
  words : ∃ kvs, H w = some (.dK kvs) ∧ WrdK kvs tk
  lasts : ∃ kvs, H l = some (.dK kvs) ∧ LstK kvs tk
  nwl : w ≠ l
theorem TblAt.chg {A : List Addr} {C : Addr} {H H' : Hp} {t w l : Addr} {tk : List L3} {pl : Int} (h : TblAt C H t w l tk pl) (c : Chg A H H') (ht : t ∉ A) (hw : w ∉ A) (hl : l ∉ A) : TblAt C H' t w l tk pl := by
  obtain ⟨dx, e⟩ := h.obj
  obtain ⟨k1, e1, a1⟩ := h.words
  obtain ⟨k2, e2, a2⟩ := h.lasts
  exact ⟨⟨dx, c.keep _ _ e ht⟩, ⟨k1, c.keep _ _ e1 hw, a1⟩, ⟨k2, c.keep _ _ e2 hl, a2⟩, h.nwl⟩
theorem TblAt.same {C : Addr} {H H' : Hp} {t w l : Addr} {tk : List L3} {pl : Int} (h : TblAt C H t w l tk pl) (s : Same H H') : TblAt C H' t w l tk pl := h.chg (A := []) (Chg.of_same s) (by simp) (by simp) (by simp)
/-- what is another thing than a table's parts -/
theorem TblAt.apart {C : Addr} {H : Hp} {t w l b : Addr} {tk : List L3} {pl : Int} (h : TblAt C H t w l tk pl) (hb : ∀ o, H b = some o → (∀ dx, o ≠ .ins C dx (tblF pl w l)) ∧ ∀ kvs, o ≠ .dK kvs) : b ∉ [t, w, l] := by
  obtain ⟨dx, e⟩ := h.obj
  obtain ⟨k1, e1, a1⟩ := h.words
  obtain ⟨k2, e2, a2⟩ := h.lasts
  intro m
  simp only [List.mem_cons, List.not_mem_nil, or_false] at m
  rcases m with rfl | rfl | rfl
  · exact (hb _ e).1 _ rfl
  · exact (hb _ e1).2 _ rfl
  · exact (hb _ e2).2 _ rfl
def sp_tbl_init (C : Addr) : Sp := fun vs H Q _ => ∃ x dx, vs = [.ref x] ∧ H x = some (.ins C dx []) ∧ ∀ w l H', H w = none → H l = none → Chg [x] H H' → TblAt C H' x w l [] 0 → Q .non H'
def sp_tbl_take (C : Addr) : Sp := fun vs H Q _ => ∃ (t w l : Addr) (tk : List L3) (pl : Int) (p : Addr) (ls : List L3) (up : Int), vs = [.ref t, .ref p, .int up] ∧ TblAt C H t w l tk pl ∧ LTups H p (ls.map l3V) ∧ tk.length + ls.length ≤ 1000 ∧
  ∀ H', Chg [t, w, l] H H' → TblAt C H' t w l (tk ++ ls.filter fun x => decide (pl ≤ x.1)) (max pl up) → Q .non H'
def sp_tbl_shown (C : Addr) : Sp := fun vs H Q _ => ∃ (t w l : Addr) (tk : List L3) (pl : Int), vs = [.ref t] ∧ TblAt C H t w l tk pl ∧ tk.length ≤ 1000 ∧ ∀ D H', H D = none → Same H H' → Tab H' D (wordAt tk) tk.length → Q (.ref D) H'
def sp_tbl_last (C : Addr) : Sp := fun vs H Q _ => ∃ (t w l : Addr) (tk : List L3) (pl : Int) (k : List Nat), vs = [.ref t, .str (S k)] ∧ TblAt C H t w l tk pl ∧ Q (.int ((lastP tk k).getD (-1))) H
def sp_last : Sp := fun vs H Q _ => ∃ (p : Addr) (ls : List L3) (k : List Nat), vs = [.ref p, .str (S k)] ∧ LTups H p (ls.map l3V) ∧ ls.length ≤ 100 ∧ (ls.Pairwise fun x y => x.1 < y.1) ∧ ∀ H', Same H H' → Q (.int ((lastP ls k).getD (-1))) H'
def sp_stands (K : PySem.W.Frag) (C : Addr) : Sp := fun vs H Q _ => ∃ (t w l : Addr) (tk : List L3) (pl : Int) (kp p : Addr) (ks : List (List Nat)), vs = [.ref t, .ref kp, .ref p, .int pl] ∧ TblAt C H t w l tk pl ∧ H kp = some (.lst (ks.map fun z => V.str (S z))) ∧ LTups H p (tk.map l3V) ∧ tk.length ≤ 100 ∧ (tk.Pairwise fun x y => x.1 < y.1) ∧
  ∀ H', Same H H' → Q (.bl true) H'
def sp_letters (K : PySem.W.Frag) : Sp := fun vs H Q _ => ∃ (p kp : Addr) (ns : List Int) (ks : List (List Nat)), vs = [.ref p, .ref kp] ∧ SqL K H p (ns.map V.int) ∧ H kp = some (.lst (ks.map fun z => V.str (S z))) ∧ 5 ≤ ks.length ∧ (∀ k ∈ ks, okS k) ∧
  ∀ D H' (ls : List L3), H D = none → Same H H' → ls.length = 30 → (ls.Pairwise fun x y => x.1 < y.1) → (∀ x ∈ ls, okL3 x ∧ 0 ≤ x.1) → LTups H' D (ls.map l3V) → Q (.ref D) H'
end L2

set_option Elab.async false
set_option linter.all false
set_option maxRecDepth 100000
set_option maxHeartbeats 4000000
namespace L2
open PySem PySem.Spec PyProof.Rows
/-! ### lendings: reads while the loans are walked, what is due -/
def LoanAt (C : Addr) (H : Hp) (r l : Addr) (M : LendM) : Prop := (∃ dx f t, H r = some (.ins C dx (lendF M f t l))) ∧ ∃ kvs, Rd H l (.dK kvs) ∧ ∀ p : Int, LoanO H (M.L p) (valV kvs (.inl p))
theorem LendAt.loan {C : Addr} {H : Hp} {r f t l : Addr} {M : LendM} (h : LendAt C H r f t l M) : LoanAt C H r l M := by
  obtain ⟨dx, e⟩ := h.obj
  obtain ⟨kvs, e2, _, v, _⟩ := h.loa
  exact ⟨⟨dx, f, t, e⟩, kvs, .inl e2, v⟩
theorem LendAt.same {C : Addr} {H H' : Hp} {r f t l : Addr} {M : LendM} (h : LendAt C H r f t l M) (s : Same H H') : LendAt C H' r f t l M := h.chg (A := []) (Chg.of_same s) (by simp) (by simp) (by simp) (by simp)
theorem RowAt.same {C : Addr} {H H' : Hp} {r d : Addr} {M : RowM} (h : RowAt C H r d M) (s : Same H H') : RowAt C H' r d M := h.chg (A := []) (Chg.of_same s) (by simp) (by simp)
def LSz (H : Hp) (l : Addr) (c : Nat) : Prop := ∃ kvs, H l = some (.dK kvs) ∧ kvs.length ≤ c
theorem LSz.same {H H' : Hp} {l : Addr} {c : Nat} (h : LSz H l c) (s : Same H H') : LSz H' l c := let ⟨k, e, b⟩ := h; ⟨k, s _ _ e, b⟩
theorem LSz.chg {A : List Addr} {H H' : Hp} {l : Addr} {c : Nat} (h : LSz H l c) (s : Chg A H H') (n : l ∉ A) : LSz H' l c := let ⟨k, e, b⟩ := h; ⟨k, s.keep _ _ e n, b⟩
theorem LSz.mono {H : Hp} {l : Addr} {c d : Nat} (h : LSz H l c) (s : c ≤ d) : LSz H l d := let ⟨k, e, b⟩ := h; ⟨k, e, Nat.le_trans b s⟩
def dueS (M : LendM) (turn : Int) (acc : List Int × Option Int) (p : Int) : List Int × Option Int := match acc.2 with
  | some _ => acc
  | none => if M.isLent p turn = true then acc else if M.T p < M.tries then (acc.1, some p) else (acc.1 ++ [p], none)
def dueG (M : LendM) (turn : Int) (l : List Int) : List Int × Option Int := l.foldl (dueS M turn) ([], none)
def oV : Option Int → V
  | none => .non
  | some p => .int p
def sp_r_loan_at (C : Addr) : Sp := fun vs H Q _ => ∃ (r l : Addr) (M : LendM) (p : Int), vs = [.ref r, .int p] ∧ LoanAt C H r l M ∧ ∀ v, LoanVal H (M.L p) v → Q v H
def sp_r_is_lent (C : Addr) : Sp := fun vs H Q _ => ∃ (r l : Addr) (M : LendM) (p turn : Int), vs = [.ref r, .int p, .int turn] ∧ LoanAt C H r l M ∧ Q (.bl (M.isLent p turn)) H
def sp_l_lend2 (C : Addr) : Sp := fun vs H Q _ => ∃ (r f t l : Addr) (M : LendM) (p : Int) (tk : List Nat) (turn : Int) (c : Nat), vs = [.ref r, .int p, .str (S tk), .int turn] ∧ LendAt C H r f t l M ∧ LSz H l c ∧ M.sz ≤ 100000 ∧
  ∀ H', Chg [r, t, l] H H' → LendAt C H' r f t l (M.lend p tk turn) → LSz H' l (if (M.L p).isSome = true then c else c + 1) → Q (.int (M.lent + 1)) H'
def pwf (M : LendM) (R : RowM) (fr : Int) : List Int := (R.seenP M.start fr R.last).filter fun p => (M.F p).isNone
def sp_pwf (C CR : Addr) : Sp := fun vs H Q _ => ∃ (r f t l : Addr) (M : LendM) (row d : Addr) (R : RowM) (fr : Int), vs = [.ref r, .ref row, .int fr] ∧ LendAt C H r f t l M ∧ RowAt CR H row d R ∧ R.last ≤ 1000 ∧ 0 ≤ M.start ∧ M.start ≤ 1000 ∧ 0 ≤ fr ∧
  ∀ D H', H D = none → Same H H' → H' D = some (.lst ((pwf M R fr).map V.int)) → Q (.ref D) H'
def sp_due_in (C CR : Addr) : Sp := fun vs H Q _ => ∃ (r f t l : Addr) (M : LendM) (row d : Addr) (R : RowM) (fr turn : Int) (c : Nat), vs = [.ref r, .ref row, .int fr, .int turn] ∧ LendAt C H r f t l M ∧ RowAt CR H row d R ∧ R.last ≤ 1000 ∧ 0 ≤ M.start ∧ M.start ≤ 1000 ∧ 0 ≤ fr ∧ LSz H l c ∧ (c : Int) < M.width ∧ c ≤ 1000 ∧
  ∀ A u H', H A = none → H u = none → Same H H' → H' A = some (.lst ((dueG M turn (pwf M R fr)).1.map V.int)) → H' u = some (.tup [.ref A, oV (dueG M turn (pwf M R fr)).2]) → Q (.ref u) H'
def sp_is_due (K : PySem.W.Frag) : Sp := fun vs H Q _ => ∃ (u A B : Addr) (xs : List Int) (o : Option Int), vs = [.ref u, .ref B, oV o] ∧ H u = some (.tup [.ref A, oV o]) ∧ H A = some (.lst (xs.map V.int)) ∧ H B = some (.lst (xs.map V.int)) ∧ xs.length ≤ 1000 ∧ ∀ H', Same H H' → Q (.bl true) H'
end L2

set_option Elab.async false
set_option linter.all false
set_option maxRecDepth 100000
set_option maxHeartbeats 4000000
namespace L2
open PySem PySem.Spec PyProof.Rows
/-! ### list.remove of an int -/
section
variable {X : Cx}
def rRemove : V → List V → Hp → VK → Prop := fun x vs H Q => ∃ (l : Addr) (ns : List Int) (k : Int) (j : Nat), x = .ref l ∧ vs = [.int k] ∧ H l = some (.lst (ns.map V.int)) ∧ ns[j]? = some k ∧ (∀ m, m < j → ns[m]? ≠ some k) ∧ Q .non (upd H l (.lst ((ns.eraseIdx j).map V.int)))
def isIntV (k : Int) : Value → Bool
  | .int n _ => n == k
  | _ => false
end
end L2

set_option Elab.async false
set_option linter.all false
set_option maxRecDepth 100000
set_option maxHeartbeats 4000000
namespace L2
open PySem
/-! ### an exception on its way, its own dict with it -/
/-- the exception at e: its class, its dict, its context, and where the newest entry of its tale stands -/
def TrD (h B : Heap) (e : Addr) (cls : Value) (dc : Option Addr) (a0 fl : Value) : Prop :=
  ∃ oe vs T oT ts, h.get? e = some oe ∧ oe.cls = cls ∧ oe.dict = dc ∧ oe.data = .fields vs ∧ vs[2]? = some a0 ∧ vs[1]? = some (.ref T) ∧ B.get? T = none ∧ T ≠ e ∧ h.get? T = some oT ∧ oT.data = .fields ts ∧ ts[3]? = some fl
/-- it flies through the frames l -/
structure Fly (B : Heap) (l : List Env) (e : Addr) (cls : Value) (dc : Option Addr) (a0 fl : Value) (h : Heap) : Prop where
  stay : B.StaysIn h
  new : B.get? e = none
  fun' : h.FunFrames B l
  tale : TrD h B e cls dc a0 fl
section
variable {M : Model} {A : Around} {E : Value → Shared → Prop} {s : Shared}
theorem Fly.pop {B : Heap} {env : Env} {out : List Env} {e : Addr} {cls : Value} {dc : Option Addr} {a0 fl : Value} {h : Heap} (f : Fly B (env :: out) e cls dc a0 fl h) : Fly B out e cls dc a0 fl h :=
  ⟨f.stay, f.new, let ⟨_, _, z⟩ := f.fun'; z, f.tale⟩
end
end L2

set_option Elab.async false
set_option linter.all false
set_option maxRecDepth 100000
set_option maxHeartbeats 4000000
namespace L2
open PySem PySem.Spec PyProof.Rows
/-! ### an exception leaves a def -/
/-- what B (the heap at the throw, without the frames and the exception) keeps of h -/
structure Bas (l : List Env) (H H' : Hp) (h B : Heap) : Prop where
  keep : ∀ b o, h.get? b = some o → H b = none → b ∉ frs l → B.get? b = some o
  free : ∀ b o, h.get? b = some o → H b = none → H' b = none
  there : ∀ b o, h.get? b = some o → b ∉ frs l → ∃ o', B.get? b = some o'
  tups : ∀ b xs, H b = some (.tup xs) → H' b = some (.tup xs)
  frzs : ∀ b o u, H b = some (.frz o u) → H' b = some (.frz o u)
  tbls : ∀ b ps, H b = some (.tbl ps) → ∃ more, H' b = some (.tbl (ps ++ more))
/-- of the frames only the slots changed -/
def Slo (l : List Env) (h h' : Heap) : Prop := ∀ b o, b ∈ frs l → h.get? b = some o → ∃ sl, h'.get? b = some { o with slots := sl }
structure Thr (P : Program) (w : World) (l : List Env) (H : Hp) (s : Shared) (ea C : Addr) (dx : Option Addr) (fl : Value) (B : Heap) (H' : Hp) (s' : Shared) : Prop where
  os : s'.os = s.os
  bare : AllBare s'.gens
  fly : ∃ a0, Fly B l ea (.ref C) dx a0 fl s'.heap
  hok : HOk P w H' B
  bas : Bas l H H' s.heap B
  slo : Slo l s.heap s'.heap
def CXv (P : Program) (w : World) : CXT := fun l H s E e s' => ∃ ea C dx B H', e = .ref ea ∧ Thr P w l H s ea C dx .none B H' s' ∧ E (.ref C) dx H'
section
variable {P : Program} {w : World} {l : List Env} {H H' : Hp} {s s' : Shared} {ea C : Addr} {dx : Option Addr} {fl : Value} {B : Heap}
theorem Thr.stay (t : Thr P w l H s ea C dx fl B H' s') : B.StaysIn s'.heap := let ⟨_, f⟩ := t.fly; f.stay
theorem Thr.held (t : Thr P w l H s ea C dx fl B H' s') : HOk P w H' s'.heap := t.hok.kept t.stay
theorem Thr.un (t : Thr P w l H s ea C dx fl B H' s') : Un (frs l) [] H H' s.heap s'.heap where
  keep := fun b o e n hb _ => t.stay b o (t.bas.keep b o e n hb)
  slot := fun b o e _ hb _ => t.slo b o hb e
  free := fun b o e n _ => t.bas.free b o e n
  there := fun b o e _ => by
    by_cases hb : b ∈ frs l
    · obtain ⟨sl, q⟩ := t.slo b o hb e; exact ⟨_, q⟩
    · obtain ⟨o', q⟩ := t.bas.there b o e hb; exact ⟨o', t.stay b o' q⟩
  tups := t.bas.tups
  frzs := t.bas.frzs
  tbls := t.bas.tbls
end
section
variable {X : Cx} {pins : List (Addr × Obj)} {σ : St} {H H' : Hp} {s s' : Shared} {ea C : Addr} {dx : Option Addr} {fl : Value} {B : Heap}
theorem Inv.low (I : Inv X pins σ H s) {b : Addr} {o : Obj} (e : X.s₀.heap.get? b = some o) (hb : b ∉ frs X.outer) : b ∉ frs X.stack := fun z => by
  rcases List.mem_cons.mp (I.stkSub b z) with r | r
  · exact absurd (Heap.lt_size e) (by rw [r]; exact Nat.not_lt.mpr I.ok.above)
  · exact hb r
/-- from a body to its caller -/
theorem Bas.out (I : Inv X pins σ H s) (hex : X.ex = []) (t : Bas X.stack H H' s.heap B) : Bas X.outer X.H₀ H' X.s₀.heap B where
  keep := fun b o e n hb => t.keep b o (I.base.keep b o e n hb (by rw [hex]; simp)) (I.base.free b o e n (by rw [hex]; simp)) (I.low e hb)
  free := fun b o e n => by
    obtain ⟨o', q⟩ := I.base.there b o e (by rw [hex]; simp)
    exact t.free b o' q (I.base.free b o e n (by rw [hex]; simp))
  there := fun b o e hb => by
    obtain ⟨o', q⟩ := I.base.there b o e (by rw [hex]; simp)
    exact t.there b o' q (I.low e hb)
  tups := fun b xs q => t.tups b xs (I.base.tups b xs q)
  frzs := fun b o u q => t.frzs b o u (I.base.frzs b o u q)
  tbls := fun b ps q => by
    obtain ⟨m1, e1⟩ := I.base.tbls b ps q
    obtain ⟨m2, e2⟩ := t.tbls b _ e1
    exact ⟨m1 ++ m2, by rw [e2, Array.append_assoc]⟩
theorem Inv.inner (I : Inv X pins σ H s) {b : Addr} (hb : b ∈ frs X.outer) : b ∈ frs X.stack := by
  rcases I.ok.stk with e | ⟨e, hf⟩
  · rw [e]; exact hb
  · rw [e]
    unfold frs
    rw [List.filterMap_cons, hf]
    exact List.mem_cons_of_mem _ hb
theorem Slo.out {h' : Heap} (I : Inv X pins σ H s) (hex : X.ex = []) (t : Slo X.stack s.heap s'.heap) (u : s'.heap.UpToSlots h') : Slo X.outer X.s₀.heap h' := fun b o hb e => by
  obtain ⟨_, o1, ho1, nf⟩ := I.ok.funs.mem hb
  rw [e] at ho1
  cases ho1
  obtain ⟨sl, e1⟩ := I.base.slot b o e (I.ok.frf b hb) hb (by rw [hex]; simp)
  obtain ⟨sl2, e2⟩ := t b _ (I.inner hb) e1
  obtain ⟨sl3, e3⟩ := u b _ e2 nf
  exact ⟨sl3, e3⟩
end
section
variable {P : Program} {w : World} {K : PySem.W.Frag} {mg : Str → Option Value} {base : Heap} {N : List Str} {qual : Str} {scope : Scope} {f : Addr} {cd : Value} {A : Around} {outer : List Env} {s : Shared} {H : Hp} {E : XK}
end
/-! ### an exception's object -/
abbrev XObj (C t : Addr) (dx : Option Addr) : Obj := { cls := .ref C, dict := dx, data := .fields #[.ref t, .none, .none, .none, .bool false, .none] }
def xo (ea C t : Addr) (dx : Option Addr) : HO := .ext fun h => h.get? ea = some (XObj C t dx)
def del (H : Hp) (a : Addr) : Hp := fun b => if b = a then none else H b
/-- where a fresh exception goes -/
def RaiseTo (X : Cx) (E : XK) : Prop := ∀ (pins : List (Addr × Obj)) (σ : St) (H : Hp) (s : Shared) (ea C t : Addr) (dx : Option Addr), Inv X pins σ H s → H ea = some (xo ea C t dx) → X.s₀.heap.objs.size ≤ ea → E (.ref C) dx (del H ea) → X.xe (.ref ea) s
section
variable {X : Cx} {pins : List (Addr × Obj)} {σ : St} {H : Hp} {s : Shared} {ea C t : Addr} {dx : Option Addr}
/-- the heap at the throw -/
def atThrow (X : Cx) (s : Shared) (ea : Addr) : Heap := PySem.W.hideAll s.heap (ea :: frs X.stack)
end
section
variable {P : Program} {w : World} {K : PySem.W.Frag} {mg : Str → Option Value} {base : Heap} {N : List Str} {qual : Str} {scope : Scope} {f : Addr} {cd : Value} {A : Around} {outer : List Env} {s : Shared} {H : Hp} {E : XK}
end
section
variable {P : Program} {w : World} {K : PySem.W.Frag} {mg : Str → Option Value} {base : Heap}
end
end L2

set_option Elab.async false
set_option linter.all false
set_option maxRecDepth 100000
set_option maxHeartbeats 4000000
namespace L2
open PySem PySem.Spec PyProof.Rows Builtin Builtin.ObjectAttr
/-! ### an own exception's class, by the text -/
def valTail : List Value := [.type "ValueError", .type "Exception", .type "BaseException", .type "object"]
def xOver : List Value → Bool
  | .ref _ :: r => xOver r
  | l => l == valTail
def xIn (K : PySem.W.Frag) (C : Addr) : Bool := match K.lookup C with
  | some ⟨.type "type", _, .cls cd, sl⟩ => (match cd.mro, sl.toList with
    | .ref C' :: bm, [_, _, _, _, some (.builtin n), _] => C' == C && (!cd.hasDel && (cd.hasDict && (xOver bm && n == "ValueError.__new__")))
    | _, _ => false)
  | _ => false
structure XCls (K : PySem.W.Frag) (C : Addr) : Prop where
  x : xIn K C = true
  kp : PySem.W.keepIn K (.ref C) = true
  sa : PySem.W.findIn K (.ref C) "__setattr__" = some (some (.builtin "object.__setattr__"))
  ga : PySem.W.findIn K (.ref C) "__getattribute__" = some (some (.builtin "BaseException.__getattribute__"))
  gn : PySem.W.findIn K (.ref C) "__getattr__" = some none
  hd : PySem.W.hasDictIn K C = true
section
variable {M : Model} {A : Around} {E : Value → Shared → Prop} {h : Heap} {g : Array GenState} {d : Drawn} {t : Nat} {os : OsState}
variable {nm qn : Str} {C N : Addr} {bs bm : List Value} {hdct : Bool} {sn : List Str} {sub : List Value} {ab : Bool} {col : Option Bool} {dd : Option Addr} {k0 k1 k2 k3 k5 : Option Value}
end
section
variable {prog : Program} {w : World} {A : Around} {R : Result → Shared → Prop} {h : Heap} {g : Array GenState} {d : Drawn} {t : Nat} {os : OsState}
variable {nm qn : Str} {C N : Addr} {bs bm : List Value} {hdct : Bool} {sn : List Str} {sub : List Value} {ab : Bool} {col : Option Bool} {dd : Option Addr} {k0 k1 k2 k3 k5 : Option Value}
abbrev xTup (us : List Value) : Obj := { cls := .type "tuple", data := .seq us.toArray }
end
section
variable {prog : Program} {w : World} {A : Around} {E : Value → Shared → Prop} {s : Shared} {K : PySem.W.Frag} {x C : Addr} {name : Str} {v : Value}
end
end L2

set_option Elab.async false
set_option linter.all false
set_option maxRecDepth 100000
set_option maxHeartbeats 4000000
namespace L2
open PySem PySem.Spec PyProof.Rows Builtin Builtin.ObjectAttr
/-! ### an exception's own dict -/
def xdo (d : Addr) (fs : List (Str × V)) : HO := .ext fun h => ∃ mA, h.Ns1 d mA ∧ ∀ f, RelO (fs.lookup f) (mA f)
section
variable {prog : Program} {w : World} {A : Around} {E : Value → Shared → Prop} {s : Shared} {K : PySem.W.Frag} {x C t dx : Addr} {name : Str} {v : Value}
end
/-- self.f = v in an exception's __init__ -/
def sXs (K : PySem.W.Frag) (ta tv : TE) (f : Str) : TS := fun D σ H => tv σ H fun y H1 => ta σ H1 fun x H2 => ∃ ea C t, x = .ref ea ∧ XCls K C ∧ NoAttr K C f ∧
  ((H2 ea = some (xo ea C t none) ∧ ∀ d, H2 d = none → d ≠ ea → D.nx σ (upd (upd H2 d (xdo d [(f, y)])) ea (xo ea C t (some d)))) ∨
   ∃ d fs, d ≠ ea ∧ H2 ea = some (xo ea C t (some d)) ∧ H2 d = some (xdo d fs) ∧ fs.length ≤ 100 ∧ D.nx σ (upd H2 d (xdo d (putF f y fs))))
section
variable {X : Cx} {o value : Expr} {f : Str} {pos pos' : Pos} {ta tv : TE}
end
/-! ### raise C(..) -/
/-- what the __init__ of an own exception does: it keeps its arguments under the names -/
def sp_xs (C : Addr) (names : List Str) : Sp := fun vs H Q _ => ∃ (ea t : Addr) (ys : List V), vs = .ref ea :: ys ∧ ys.length = names.length ∧ H ea = some (xo ea C t none) ∧
  ∀ d H', H d = none → d ≠ ea → (∀ b, b ≠ d → b ≠ ea → H' b = H b) → H' ea = some (xo ea C t (some d)) → H' d = some (xdo d (names.zip ys)) → Q .non H'
def tRaise (C : Addr) (names : List Str) (E : XK) (t : TA) : TS := fun _ σ H => t σ H fun ys H1 => ys.length = names.length ∧ ∀ d H', H1 d = none → Same H1 H' → H' d = some (xdo d (names.zip ys)) → E (.ref C) (some d) H'
section
variable {X : Cx} {k : Nat} {f C : Addr} {fd : FuncData} {ps names : List Str} {E : XK} {x : Str} {np cpos pos : Pos} {e : Expr} {es : List Expr} {t : TA}
end
end L2

set_option Elab.async false
set_option linter.all false
set_option maxRecDepth 100000
set_option maxHeartbeats 4000000
namespace L2
open PySem PySem.Spec PyProof.Rows
theorem ObjOk.here {P : Program} {w : World} {H : Hp} {h : Heap} {a : Addr} {o : HO} (x : ObjOk P w H h a o) : ∃ u, h.get? a = some u := by
  cases o with
  | lst xs => obtain ⟨_, _, _, _, e⟩ := x; exact ⟨_, e⟩
  | tup xs => obtain ⟨_, _, _, ob, e, _⟩ := x; exact ⟨_, e⟩
  | dK kvs => obtain ⟨_, _, _, _, o, _, _, e, _⟩ := x; exact ⟨_, e⟩
  | dT kvs => obtain ⟨_, _, _, _, o, _, _, e, _⟩ := x; exact ⟨_, e⟩
  | set S n => obtain ⟨o, _, _, _, e, _⟩ := x; exact ⟨_, e⟩
  | ins C dx fs => obtain ⟨_, _, _, e, _⟩ := x; exact ⟨_, e⟩
  | own y => exact x
  | xd fs => obtain ⟨_, ⟨_, _, _, e, _⟩, _⟩ := x; exact ⟨_, e⟩
  | rng lo hi => obtain ⟨_, _, _, e⟩ := x; exact ⟨_, e⟩
  | frz ob u => obtain ⟨e, _⟩ := x; exact ⟨_, e⟩
  | tbl ps => exact ⟨_, (show h.get? a = some _ from x)⟩
  | met f y => exact ⟨_, (show h.get? a = some _ from x)⟩
  | ext φ => obtain ⟨_, e, _⟩ := x; exact e
/-! ### what surely raises -/
/-- an exception is on its way to this frame -/
def Lands (X : Cx) (pins : List (Addr × Obj)) (σ : St) (E : XK) (e : Value) (s' : Shared) : Prop :=
  ∃ (s : Shared) (H : Hp) (ea C : Addr) (dx : Option Addr) (B : Heap) (H' : Hp), e = .ref ea ∧ Inv X pins σ H s ∧ Thr X.prog X.w X.stack H s ea C dx .none B H' s' ∧ E (.ref C) dx H'
abbrev TX := XK → St → Hp → Prop
def PEx (X : Cx) (e : Expr) (t : TX) : Prop := ∀ (pins : List (Addr × Obj)) (s : Shared) (σ : St) (H : Hp) (E : XK), Inv X pins σ H s → t E σ H → wpAny (model X.prog X.w) X.A (eval e X.env) (fun _ _ => False) (Lands X pins σ E) s
def PSx (X : Cx) (st : Stmt) (t : TX) : Prop := ∀ (pins : List (Addr × Obj)) (s : Shared) (σ : St) (H : Hp) (E : XK), Inv X pins σ H s → t E σ H → wpAny (model X.prog X.w) X.A (exec st X.env) (fun _ _ => False) (Lands X pins σ E) s
def PSsx (X : Cx) (st : List Stmt) (t : TX) : Prop := ∀ (pins : List (Addr × Obj)) (s : Shared) (σ : St) (H : Hp) (E : XK), Inv X pins σ H s → t E σ H → wpAny (model X.prog X.w) X.A (execs st X.env) (fun _ _ => False) (Lands X pins σ E) s
def xCall (sp : Sp) (dvs : List V) (t : TA) : TX := fun E σ H => t σ H fun vs H1 => sp (vs ++ dvs) H1 (fun _ _ => False) E
def xMeth (C : Addr) (m : Str) (sp : Sp) (dvs : List V) (ta : TE) (t : TA) : TX := fun E σ H => ta σ H fun x H1 => ∃ a dx fs, x = .ref a ∧ H1 a = some (.ins C dx fs) ∧ fs.lookup m = none ∧ t σ H1 fun vs H2 => sp (x :: (vs ++ dvs)) H2 (fun _ _ => False) E
def xMake (C : Addr) (sp : Sp) (dvs : List V) (t : TA) : TX := fun E σ H => t σ H fun vs H1 => ∀ x dx, H1 x = none → H1 dx = none → dx ≠ x → sp (.ref x :: (vs ++ dvs)) (upd (upd H1 dx (.own x)) x (.ins C dx [])) (fun _ _ => False) E
/-- it is never so -/
def xNo : TX := fun _ _ _ => False
section
variable {X : Cx} {k : Nat} {f C : Addr} {fd : FuncData} {ps : List Str} {sp : Sp} {dvs : List V} {ds : List Value} {E : XK} {x m : Str} {p pos apos : Pos} {e o : Expr} {es : List Expr} {ta : TE} {t : TA} {pins : List (Addr × Obj)} {σ : St} {H : Hp} {s : Shared}
end
/-! ### within a handler -/
/-- the exception as it lies while it is handled -/
def xh (ea C : Addr) (dx : Option Addr) : HO := .ext fun h => ∃ o vs, h.get? ea = some o ∧ o.cls = .ref C ∧ o.dict = dx ∧ o.data = .fields vs
theorem xh_ok {P : Program} {w : World} {H : Hp} {h : Heap} {ea C : Addr} {dx : Option Addr} {o : Obj} {vs : Array Value} (e : h.get? ea = some o) (e1 : o.cls = .ref C) (e2 : o.dict = dx) (e3 : o.data = .fields vs) : ObjOk P w H h ea (xh ea C dx) :=
  ⟨⟨o, vs, e, e1, e2, e3⟩, ⟨_, e⟩, fun _ _ ⟨o, vs, q, r⟩ k => ⟨o, vs, k _ q, r⟩⟩
/-- e.f of it -/
def tXFld (K : PySem.W.Frag) (ta : TE) (f : Str) : TE := fun σ H Q => ta σ H fun x H1 => ∃ ea C d fs v, x = .ref ea ∧ H1 ea = some (xh ea C (some d)) ∧ H1 d = some (xdo d fs) ∧ XCls K C ∧ NoAttr K C f ∧ fs.lookup f = some v ∧ Q v H1
section
variable {X : Cx} {e : Expr} {f : Str} {pos : Pos} {ta : TE}
end
/-- the context of a handler's suite -/
abbrev Cx.han (X : Cx) (ea : Addr) : Cx := { X with A := X.A.mark (some (.ref ea)), calm := false }
theorem Inv.han {X : Cx} {pins : List (Addr × Obj)} {σ : St} {H : Hp} {s : Shared} (I : Inv X pins σ H s) (ea : Addr) : Inv (X.han ea) pins σ H s :=
  ⟨⟨I.ok.mod, I.ok.kind, I.ok.glob, I.ok.blt, I.ok.above, I.ok.inj, I.ok.has, I.ok.cab, (fun z => nomatch z), I.ok.frames, I.ok.stk, I.ok.exf, I.ok.bs, I.ok.bsz, I.ok.noex, I.ok.exfs, I.ok.funs, I.ok.frf⟩, I.os, I.bare, I.base, I.loc, I.cell, I.free, I.freeC, I.pin, I.hok, I.len⟩
section
variable {X : Cx} {pins : List (Addr × Obj)} {σ : St} {H H' : Hp} {s s' : Shared} {ea C : Addr} {dx : Option Addr} {B : Heap} {fl : Value}
/-- nothing that stood ahead is the exception -/
theorem Thr.new (T : Thr X.prog X.w X.stack H s ea C dx fl B H' s') (I : Inv X pins σ H s) {b : Addr} {o : Obj} (e : s.heap.get? b = some o) : b ≠ ea := by
  rintro rfl
  obtain ⟨a0, f⟩ := T.fly
  by_cases hb : b ∈ frs X.stack
  · obtain ⟨sl, e1⟩ := T.slo b o hb e
    obtain ⟨oe, vs, _, _, _, ge, _, _, dt, _⟩ := f.tale
    obtain ⟨_, o1, ho1, nf⟩ := f.fun'.mem hb
    rw [ge] at ho1
    cases ho1
    exact nf _ dt
  · obtain ⟨o', e1⟩ := T.bas.there b o e hb
    rw [f.new] at e1
    cases e1
theorem Thr.none (T : Thr X.prog X.w X.stack H s ea C dx fl B H' s') : H' ea = none := by
  obtain ⟨a0, f⟩ := T.fly
  cases q : H' ea with
  | none => rfl
  | some u =>
    obtain ⟨o, e⟩ := (T.hok ea u q).here
    rw [f.new] at e
    cases e
theorem Thr.seen (T : Thr X.prog X.w X.stack H s ea C dx fl B H' s') (I : Inv X pins σ H s) : Inv X pins σ (upd H' ea (xh ea C dx)) s' := by
  have hn := T.none
  obtain ⟨a0, f⟩ := T.fly
  obtain ⟨oe, vs, _, _, _, ge, gc, gd, dt, _⟩ := f.tale
  have un := T.un
  refine I.call' (ch := []) T.os ⟨un.keep, un.slot, fun b o e n hx => ?_, un.there, fun b xs e => ?_, fun b o u e => ?_, fun b ps e => ?_⟩ (fun b u e => ?_) T.bare (fun b z => nomatch z)
  · rw [upd_ne (T.new I e)]; exact un.free b o e n hx
  · have := un.tups b xs e; rw [upd_ne (ne_of_none this hn)]; exact this
  · have := un.frzs b o u e; rw [upd_ne (ne_of_none this hn)]; exact this
  · obtain ⟨m, this⟩ := un.tbls b ps e; exact ⟨m, by rw [upd_ne (ne_of_none this hn)]; exact this⟩
  · by_cases hb : b = ea
    · subst hb; rw [upd_same] at e; cases e; exact xh_ok ge gc gd dt
    · rw [upd_ne hb] at e
      exact (T.held b u e).stay (fun c v _ r => r) (fun c r => by rw [upd_ne (ne_of_none r hn)]; exact r) fun c xs r => by rw [upd_ne (ne_of_none r hn)]; exact r
/-- a next station -/
theorem Thr.on {fl' : Value} {h2 : Heap} {a0 : Value} (T : Thr X.prog X.w X.stack H s ea C dx fl B H' s') (f2 : Fly B X.stack ea (.ref C) dx a0 fl' h2) (u : s'.heap.UpToSlots h2) (I : Inv X pins σ H s) : Thr X.prog X.w X.stack H s ea C dx fl' B H' { s' with heap := h2 } :=
  ⟨T.os, T.bare, ⟨a0, f2⟩, T.hok, T.bas, fun b o hb e => by
    obtain ⟨sl, e1⟩ := T.slo b o hb e
    obtain ⟨_, o1, ho1, nf⟩ := I.stack.mem hb
    rw [e] at ho1
    cases ho1
    obtain ⟨sl2, e2⟩ := u b _ e1 nf
    exact ⟨sl2, e2⟩⟩
end
/-! ### handlers -/
section
variable {X : Cx} {pins : List (Addr × Obj)} {σ : St} {H : Hp} {s : Shared} {M : Model} {A : Around} {E : Value → Shared → Prop}
end
abbrev THs := Addr → Addr → Option Addr → TS
def PH (X : Cx) (hs : List ExceptHandler) (th : THs) : Prop :=
  ∀ (pins : List (Addr × Obj)) (σ : St) (H H' : Hp) (D : Ends) (s s' : Shared) (ea C : Addr) (dx : Option Addr) (B : Heap), Inv X pins σ H s → Thr X.prog X.w X.stack H s ea C dx .none B H' s' → th C ea dx D σ H' →
    wpAny (model X.prog X.w) X.A (handleBy (.ref ea) X.env hs) (SP X pins D) X.xe s'
def Ends.less (D : Ends) (i : Nat) : Ends := { nx := fun σ H => D.nx (σ.set i none) H, rt := D.rt, bk := fun σ H => D.bk (σ.set i none) H, ct := fun σ H => D.ct (σ.set i none) H }
def tAs (K : PySem.W.Frag) (Ck : Addr) (i : Nat) (ts : TS) (rest : THs) : THs := fun C ea dx D σ H =>
  (PySem.W.exmOne K (.ref C) (.ref Ck) = some true ∧ ts (D.less i) (σ.set i (some (.ref ea))) (upd H ea (xh ea C dx))) ∨ (PySem.W.exmOne K (.ref C) (.ref Ck) = some false ∧ rest C ea dx D σ H)
def tBare (K : PySem.W.Frag) (Ck : Addr) (ts : TS) (rest : THs) : THs := fun C ea dx D σ H =>
  (PySem.W.exmOne K (.ref C) (.ref Ck) = some true ∧ ts D σ (upd H ea (xh ea C dx))) ∨ (PySem.W.exmOne K (.ref C) (.ref Ck) = some false ∧ rest C ea dx D σ H)
def tNoH : THs := fun _ _ _ _ _ _ => False
def tTry (tb : TS) (tx : TX) (th : THs) : TS := fun D σ H => tb D σ H ∨ ∃ E, tx E σ H ∧ ∀ C dx H' ea, E (.ref C) dx H' → H' ea = none → th C ea dx D σ H'
section
variable {X : Cx} {x n : Str} {np hpos pos : Pos} {b₀ : Stmt} {suite body : List Stmt} {h₀ : ExceptHandler} {rest : List ExceptHandler} {Ck : Addr} {i : Nat} {ts tb : TS} {tx : TX} {tr : THs}
theorem Thr.looks {M : Model} {P : Program} {w : World} {l : List Env} {H H' : Hp} {s s' : Shared} {ea C : Addr} {dx : Option Addr} {fl : Value} {B : Heap} (T : Thr P w l H s ea C dx fl B H' s') : PySem.W.Looks M s'.heap (typeOf (.ref ea)) (.ref C) := by
  obtain ⟨a0, f⟩ := T.fly
  obtain ⟨oe, vs, _, _, _, ge, gc, _⟩ := f.tale
  exact gc ▸ (PySem.W.Looks.ld ge).andThen .now
end
/-- a statement that never raises, in a def that may -/
theorem PS.nox {X : Cx} {st : Stmt} {t : TS} (h : PS X.nox st t) : PS X st t := fun pins s σ H D I hw =>
  wpAny_mono (h pins s σ H D (I.wish _) hw) (fun _ _ q => q.unwish) fun _ _ z => False.elim z
/-- an exception of class C that bears these fields -/
def Bears (E : XK) (H : Hp) (C : Addr) (fs : List (Str × V)) : Prop := ∀ d H', H d = none → Same H H' → H' d = some (xdo d fs) → E (.ref C) (some d) H'
/-- .. and that it is what came -/
def Got (H : Hp) (C : Addr) (fs : List (Str × V)) : XK := fun c dx H' => c = .ref C ∧ ∃ d, dx = some d ∧ H d = none ∧ Same H H' ∧ H' d = some (xdo d fs)
theorem Got.at {H H' : Hp} {C D ea : Addr} {fs : List (Str × V)} {dx : Option Addr} (g : Got H C fs (.ref D) dx H') (he : H' ea = none) : D = C ∧ ∃ d, dx = some d ∧ Same H (upd H' ea (xh ea C (some d))) ∧ upd H' ea (xh ea C (some d)) ea = some (xh ea C (some d)) ∧ upd H' ea (xh ea C (some d)) d = some (xdo d fs) := by
  obtain ⟨e, d, rfl, hd, sm, hdd⟩ := g
  cases e
  have ned : d ≠ ea := fun z => by rw [z, he] at hdd; cases hdd
  exact ⟨rfl, d, rfl, fun b o hb => (upd_ne (ne_of_none (sm _ _ hb) he)).trans (sm _ _ hb), upd_same, (upd_ne ned).trans hdd⟩
end L2

set_option Elab.async false
set_option linter.all false
set_option maxRecDepth 100000
set_option maxHeartbeats 4000000
namespace L2
open PySem PySem.Spec PyProof.Rows
/-! ### senders, as they stand -/
abbrev Spot := Int × Int
def spotV (x : Spot) : List V := [.int x.1, .int x.2]
structure SendM where
  L : Str → Option Int
  T : Str → Int
  P : Str → List Spot
  sz : Nat
def send0 : SendM := ⟨fun _ => none, fun _ => 0, fun _ => [], 0⟩
def sendF (l t p : Addr) : List (Str × V) := [("lives", .ref l), ("lasts", .ref t), ("spots", .ref p)]
/-- Z: lists that are none of its own -/
structure SendAt (C : Addr) (H : Hp) (r l t p : Addr) (Z : List Addr) (M : SendM) : Prop where
  obj : ∃ dx, H r = some (.ins C dx (sendF l t p))
  liv : ∃ kvs, H l = some (.dK kvs) ∧ kvs.length ≤ M.sz ∧ ∀ z, valV kvs (.inr z) = (M.L z).map V.int
  las : ∃ kvs, H t = some (.dK kvs) ∧ kvs.length ≤ M.sz ∧ ∀ z, valV kvs (.inr z) = (M.L z).map fun _ => V.int (M.T z)
  spo : ∃ kvs, H p = some (.dK kvs) ∧ kvs.length ≤ M.sz ∧ ∀ z, (M.L z).isSome = true → ∃ q, valV kvs (.inr z) = some (.ref q) ∧ LTups H q ((M.P z).map spotV) ∧ q ∉ Z
  len : ∀ z, (M.P z).length ≤ 8
  rl : r ≠ l
  rt : r ≠ t
  rp : r ≠ p
  lt : l ≠ t
  lp : l ≠ p
  tp : t ≠ p
theorem SendAt.chg {A : List Addr} {C : Addr} {H H' : Hp} {r l t p : Addr} {Z : List Addr} {M : SendM} (h : SendAt C H r l t p Z M) (c : Chg A H H') (hr : r ∉ A) (hl : l ∉ A) (ht : t ∉ A) (hp : p ∉ A) (hz : ∀ b ∈ A, b ∈ Z ∨ ∀ xs, H b ≠ some (.lst xs)) : SendAt C H' r l t p Z M := by
  obtain ⟨dx, e⟩ := h.obj
  obtain ⟨k1, e1, l1, v1⟩ := h.liv
  obtain ⟨k2, e2, l2, v2⟩ := h.las
  obtain ⟨k3, e3, l3, v3⟩ := h.spo
  refine ⟨⟨dx, c.keep _ _ e hr⟩, ⟨k1, c.keep _ _ e1 hl, l1, v1⟩, ⟨k2, c.keep _ _ e2 ht, l2, v2⟩, ⟨k3, c.keep _ _ e3 hp, l3, fun z hzz => ?_⟩, h.len, h.rl, h.rt, h.rp, h.lt, h.lp, h.tp⟩
  obtain ⟨q, a1, a2, a3⟩ := v3 z hzz
  refine ⟨q, a1, a2.chg c fun m => ?_, a3⟩
  rcases hz q m with y | y
  · exact a3 y
  · obtain ⟨ts, b1, _⟩ := a2
    exact y _ b1
theorem SendAt.same {C : Addr} {H H' : Hp} {r l t p : Addr} {Z : List Addr} {M : SendM} (h : SendAt C H r l t p Z M) (s : Same H H') : SendAt C H' r l t p Z M := h.chg (A := []) (Chg.of_same s) (by simp) (by simp) (by simp) (by simp) (by simp)
theorem SendAt.less {C : Addr} {H : Hp} {r l t p : Addr} {Z Z' : List Addr} {M : SendM} (h : SendAt C H r l t p Z M) (hz : ∀ b ∈ Z', b ∈ Z ∨ H b = none) : SendAt C H r l t p Z' M := by
  obtain ⟨k3, e3, l3, v3⟩ := h.spo
  refine ⟨h.obj, h.liv, h.las, ⟨k3, e3, l3, fun z hzz => ?_⟩, h.len, h.rl, h.rt, h.rp, h.lt, h.lp, h.tp⟩
  obtain ⟨q, a1, a2, a3⟩ := v3 z hzz
  refine ⟨q, a1, a2, fun m => ?_⟩
  rcases hz q m with y | y
  · exact a3 y
  · obtain ⟨ts, b1, _⟩ := a2
    rw [y] at b1
    cases b1
def SendM.hail (M : SendM) (n : Str) : SendM := { M with
  L := fun z => if z = n then some ((M.L n).getD 0 + 1) else M.L z
  T := fun z => if z = n then (if (M.L n).getD 0 = 0 then 0 else M.T n) else M.T z
  P := fun z => if z = n then (if (M.L n).getD 0 = 0 then [] else M.P n) else M.P z
  sz := M.sz + 1 }
def SendM.note (M : SendM) (n : Str) (k : Int) (x : Spot) : SendM := { M with
  T := fun z => if z = n then k else M.T z
  P := fun z => if z = n then (M.P n ++ [x]).drop ((M.P n ++ [x]).length - 8) else M.P z
  sz := M.sz + 1 }
def sp_s_init (C : Addr) : Sp := fun vs H Q _ => ∃ (x dx : Addr), vs = [.ref x] ∧ H x = some (.ins C dx []) ∧
  ∀ l t p H', H l = none → H t = none → H p = none → Chg [x] H H' → SendAt C H' x l t p [] send0 → Q .non H'
def sp_s_hail (C : Addr) : Sp := fun vs H Q _ => ∃ (r l t p : Addr) (Z : List Addr) (M : SendM) (n : Str), vs = [.ref r, .str n] ∧ SendAt C H r l t p Z M ∧ M.sz ≤ 100000 ∧ (∀ v, M.L n = some v → 1 ≤ v) ∧ (∀ b ∈ Z, ∃ o, H b = some o) ∧
  ∀ u H', Chg [l, t, p] H H' → SendAt C H' r l t p Z (M.hail n) → H u = none → H' u = some (.tup [.int ((M.L n).getD 0 + 1), .int ((M.hail n).T n)]) → Q (.ref u) H'
def sp_s_life (C : Addr) : Sp := fun vs H Q _ => ∃ (r l t p : Addr) (Z : List Addr) (M : SendM) (n : Str), vs = [.ref r, .str n] ∧ SendAt C H r l t p Z M ∧ Q (.int ((M.L n).getD 0)) H
def sp_s_last (C : Addr) : Sp := fun vs H Q _ => ∃ (r l t p : Addr) (Z : List Addr) (M : SendM) (n : Str), vs = [.ref r, .str n] ∧ SendAt C H r l t p Z M ∧ Q (.int (if (M.L n).isSome = true then M.T n else 0)) H
def sp_s_need (C CN : Addr) : Sp := fun vs H Q E => ∃ (r l t p : Addr) (Z : List Addr) (M : SendM) (n : Str), vs = [.ref r, .str n] ∧ SendAt C H r l t p Z M ∧
  (((M.L n).isSome = true ∧ Q .non H) ∨ (M.L n = none ∧ Bears E H CN [("name", .str n)]))
def sp_s_allow (C CN CF : Addr) : Sp := fun vs H Q E => ∃ (r l t p : Addr) (Z : List Addr) (M : SendM) (n : Str) (k : Int), vs = [.ref r, .str n, .int k] ∧ SendAt C H r l t p Z M ∧
  ((M.L n = none ∧ Bears E H CN [("name", .str n)]) ∨ ∃ v, M.L n = some v ∧ ((k = v ∧ Q .non H) ∨ (k ≠ v ∧ Bears E H CF [("life", .int v)])))
def sp_s_spot (C CN CG CT : Addr) : Sp := fun vs H Q E => ∃ (r l t p : Addr) (Z : List Addr) (M : SendM) (n : Str) (k : Int), vs = [.ref r, .str n, .int k] ∧ SendAt C H r l t p Z M ∧
  ((M.L n = none ∧ Bears E H CN [("name", .str n)]) ∨ ((M.L n).isSome = true ∧ (
    (M.T n + 1 < k ∧ Bears E H CG [("due", .int (M.T n + 1))]) ∨ (k = M.T n + 1 ∧ Q .non H) ∨ (k < M.T n + 1 - (M.P n).length ∧ Bears E H CT [("number", .int k)]) ∨
    (∃ (i : Nat) (x : Spot), k = M.T n + 1 - (M.P n).length + i ∧ (M.P n)[i]? = some x ∧ ∀ u, H u = some (.tup (spotV x)) → Q (.ref u) H))))
def sp_s_note (C CN CG CT : Addr) : Sp := fun vs H Q E => ∃ (r l t p : Addr) (Z : List Addr) (M : SendM) (n : Str) (k a b : Int), vs = [.ref r, .str n, .int k, .int a, .int b] ∧ SendAt C H r l t p Z M ∧
  ((M.L n = none ∧ Bears E H CN [("name", .str n)]) ∨ ((M.L n).isSome = true ∧ (
    (M.T n + 1 < k ∧ Bears E H CG [("due", .int (M.T n + 1))]) ∨ (k < M.T n + 1 ∧ Bears E H CT [("number", .int k)]) ∨
    (k = M.T n + 1 ∧ M.sz ≤ 100000 ∧ (∀ b ∈ Z, ∃ o, H b = some o) ∧ ∀ H', Chg [t, p] H H' → SendAt C H' r l t p Z (M.note n k (a, b)) → Q .non H'))))
/-! ### pairs that are alike -/
def spotD (x : Spot) : PyData := .tuple [.int x.1, .int x.2]
/-- the last eight -/
def last8 (l : List Spot) : List Spot := l.drop (l.length - 8)
end L2

set_option Elab.async false
set_option linter.all false
set_option maxRecDepth 100000
set_option maxHeartbeats 4000000
namespace L2
open PySem PySem.Spec PyProof.Rows
/-! ### the names that the laws draw -/
def nmSz1 (c k : Int) : Nat := (mixN c (22 + k) % 12).toNat
def nmSz3 (c : Int) : Nat := (1 + mixN c 1 % 12).toNat
def nmAt (c : Int) : Int := mixN c 2 % (1 + mixN c 1 % 12)
def nm6 (c way k : Int) : List Nat :=
  if way = 0 then List.replicate (k + 1).toNat (ltr36 (mixN c 21))
  else if way = 1 then ltr36 (mixN c 21 + 5 * k) :: (List.range (nmSz1 c k)).map fun (j : Nat) => ltr36 (mixN c (200 + 12 * k + (0 + (j : Int))))
  else if way = 2 then (List.range 12).map fun (j : Nat) => ltr36 (mixN c 21 + ((0 + (j : Int)) + k) % 12)
  else (List.range (nmSz3 c)).map fun (j : Nat) => ltr36 (mixN c (3 + (0 + (j : Int))) + 5 * k * (if 0 + (j : Int) = nmAt c then 1 else 0))
def sp_nm6 : Sp := fun vs H Q _ => ∃ (c way k : Int), vs = [.int c, .int way, .int k] ∧ 0 ≤ way ∧ 0 ≤ k ∧ k ≤ 40 ∧ ∀ H', Same H H' → Q (.str (S (nm6 c way k))) H'
def names6 (c : Int) (m : Nat) : List (List Nat) := (List.range m).map fun (k : Nat) => nm6 c (mixN c 20 % 6) (0 + (k : Int))
def sp_names6 : Sp := fun vs H Q _ => ∃ (c : Int) (m : Nat), vs = [.int c, .int m] ∧ m ≤ 40 ∧ ∀ D H', H D = none → Same H H' → H' D = some (.lst ((names6 c m).map fun l => V.str (S l))) → Q (.ref D) H'
end L2

set_option Elab.async false
set_option linter.all false
set_option maxRecDepth 100000
set_option maxHeartbeats 4000000
namespace L2
open PySem PySem.Spec PyProof.Rows
/-! ### min(list of ints) -/
section
variable {X : Cx}
def rMinL (K : PySem.W.Frag) : List V → Hp → VK → Prop := fun xs H Q => ∃ (p : Addr) (ns : List Int), xs = [.ref p] ∧ SqL K H p (ns.map V.int) ∧ ns ≠ [] ∧ ∀ m ∈ ns, (∀ a ∈ ns, m ≤ a) → Q (.int m) H
end
/-! ### for x in d.values() -/
section
variable {X : Cx} {o : Expr} {apos cpos : Pos} {td : TE}
end
end L2

set_option Elab.async false
set_option linter.all false
set_option maxRecDepth 100000
set_option maxHeartbeats 4000000
namespace L2
open PySem PySem.Spec PyProof.Rows
/-! ### readers, as they stand -/
structure ReadM where
  R : Str → Option (Int × Int)
  sz : Nat
def read0 : ReadM := ⟨fun _ => none, 0⟩
def readF (a b : Addr) : List (Str × V) := [("rows", .ref a), ("places", .ref b)]
structure ReadAt (C : Addr) (H : Hp) (r a b : Addr) (M : ReadM) : Prop where
  obj : ∃ dx, H r = some (.ins C dx (readF a b))
  row : ∃ kvs, H a = some (.dK kvs) ∧ kvs.length ≤ M.sz ∧ (∀ z, valV kvs (.inr z) = (M.R z).map fun x => V.int x.1) ∧ ∀ p, valV kvs (.inl p) = none
  pla : ∃ kvs, H b = some (.dK kvs) ∧ kvs.length ≤ M.sz ∧ ∀ z, valV kvs (.inr z) = (M.R z).map fun x => V.int x.2
  ra : r ≠ a
  rb : r ≠ b
  ab : a ≠ b
theorem ReadAt.chg {A : List Addr} {C : Addr} {H H' : Hp} {r a b : Addr} {M : ReadM} (h : ReadAt C H r a b M) (c : Chg A H H') (hr : r ∉ A) (ha : a ∉ A) (hb : b ∉ A) : ReadAt C H' r a b M := by
  obtain ⟨dx, e⟩ := h.obj
  obtain ⟨k1, e1, l1, v1⟩ := h.row
  obtain ⟨k2, e2, l2, v2⟩ := h.pla
  exact ⟨⟨dx, c.keep _ _ e hr⟩, ⟨k1, c.keep _ _ e1 ha, l1, v1⟩, ⟨k2, c.keep _ _ e2 hb, l2, v2⟩, h.ra, h.rb, h.ab⟩
theorem ReadAt.same {C : Addr} {H H' : Hp} {r a b : Addr} {M : ReadM} (h : ReadAt C H r a b M) (s : Same H H') : ReadAt C H' r a b M := h.chg (A := []) (Chg.of_same s) (by simp) (by simp) (by simp)
def ReadM.put (M : ReadM) (n : Str) (x : Int × Int) : ReadM := ⟨fun z => if z = n then some x else M.R z, M.sz + 1⟩
def ReadM.del (M : ReadM) (n : Str) : ReadM := ⟨fun z => if z = n then none else M.R z, M.sz⟩
def sp_r_init (C : Addr) : Sp := fun vs H Q _ => ∃ (x dx : Addr), vs = [.ref x] ∧ H x = some (.ins C dx []) ∧
  ∀ a b H', H a = none → H b = none → Chg [x] H H' → ReadAt C H' x a b read0 → Q .non H'
def sp_r_need (C CN : Addr) : Sp := fun vs H Q E => ∃ (r a b : Addr) (M : ReadM) (n : Str), vs = [.ref r, .str n] ∧ ReadAt C H r a b M ∧
  (((M.R n).isSome = true ∧ Q .non H) ∨ (M.R n = none ∧ Bears E H CN [("name", .str n)]))
def sp_r_new (C CD : Addr) : Sp := fun vs H Q E => ∃ (r a b : Addr) (M : ReadM) (n : Str), vs = [.ref r, .str n] ∧ ReadAt C H r a b M ∧
  ((M.R n = none ∧ Q .non H) ∨ ((M.R n).isSome = true ∧ Bears E H CD [("name", .str n)]))
def sp_r_attach (C CD : Addr) : Sp := fun vs H Q E => ∃ (r a b : Addr) (M : ReadM) (n : Str) (x y : Int), vs = [.ref r, .str n, .int x, .int y] ∧ ReadAt C H r a b M ∧
  ((M.R n = none ∧ M.sz ≤ 1000 ∧ ∀ H', Chg [a, b] H H' → ReadAt C H' r a b (M.put n (x, y)) → Q .non H') ∨ ((M.R n).isSome = true ∧ Bears E H CD [("name", .str n)]))
def sp_r_detach (C CN : Addr) : Sp := fun vs H Q E => ∃ (r a b : Addr) (M : ReadM) (n : Str), vs = [.ref r, .str n] ∧ ReadAt C H r a b M ∧
  (((M.R n).isSome = true ∧ ∀ H', Chg [a, b] H H' → ReadAt C H' r a b (M.del n) → Q .non H') ∨ (M.R n = none ∧ Bears E H CN [("name", .str n)]))
def sp_r_row (C CN : Addr) : Sp := fun vs H Q E => ∃ (r a b : Addr) (M : ReadM) (n : Str), vs = [.ref r, .str n] ∧ ReadAt C H r a b M ∧
  ((∃ x, M.R n = some x ∧ Q (.int x.1) H) ∨ (M.R n = none ∧ Bears E H CN [("name", .str n)]))
def sp_r_place (C CN : Addr) : Sp := fun vs H Q E => ∃ (r a b : Addr) (M : ReadM) (n : Str), vs = [.ref r, .str n] ∧ ReadAt C H r a b M ∧
  ((∃ x, M.R n = some x ∧ Q (.int x.2) H) ∨ (M.R n = none ∧ Bears E H CN [("name", .str n)]))
def sp_r_move (C CN : Addr) : Sp := fun vs H Q E => ∃ (r a b : Addr) (M : ReadM) (n : Str) (y : Int), vs = [.ref r, .str n, .int y] ∧ ReadAt C H r a b M ∧
  ((∃ x, M.R n = some x ∧ M.sz ≤ 1000 ∧ ∀ H', Chg [b] H H' → ReadAt C H' r a b (M.put n (x.1, max x.2 y)) → Q (.int (max x.2 y)) H') ∨ (M.R n = none ∧ Bears E H CN [("name", .str n)]))
def Passed (M : ReadM) (row floor m : Int) : Prop := (m = floor ∨ ∃ z x, M.R z = some x ∧ x.1 = row ∧ x.2 = m) ∧ m ≤ floor ∧ ∀ z x, M.R z = some x → x.1 = row → m ≤ x.2
theorem Passed.eq {M : ReadM} {row floor m m' : Int} (h : Passed M row floor m) (h' : Passed M row floor m') : m = m' := by
  have key : ∀ {a b : Int}, Passed M row floor a → Passed M row floor b → a ≤ b := fun {a b} ha hb => by
    rcases hb.1 with rfl | ⟨z, x, e1, e2, rfl⟩
    · exact ha.2.1
    · exact ha.2.2 z x e1 e2
  have := key h h'
  have := key h' h
  omega
def sp_r_passed (C : Addr) : Sp := fun vs H Q _ => ∃ (r a b : Addr) (M : ReadM) (row floor : Int), vs = [.ref r, .int row, .int floor] ∧ ReadAt C H r a b M ∧ M.sz ≤ 1000 ∧ ∀ m H', Same H H' → Passed M row floor m → Q (.int m) H'
end L2

set_option Elab.async false
set_option linter.all false
namespace L2
open PySem PySem.Spec PyProof.Rows
/-! ### a body walked piece by piece; lists by their length -/
theorem el1 {α : Type} {p : List α → Prop} (h : ∀ a, p [a]) : ∀ us : List α, us.length = 1 → p us
  | [a], _ => h a
theorem el2 {α : Type} {p : List α → Prop} (h : ∀ a b, p [a, b]) : ∀ us : List α, us.length = 2 → p us
  | [a, b], _ => h a b
theorem el3 {α : Type} {p : List α → Prop} (h : ∀ a b c, p [a, b, c]) : ∀ us : List α, us.length = 3 → p us
  | [a, b, c], _ => h a b c
theorem el4 {α : Type} {p : List α → Prop} (h : ∀ a b c d, p [a, b, c, d]) : ∀ us : List α, us.length = 4 → p us
  | [a, b, c, d], _ => h a b c d
end L2

set_option Elab.async false
set_option linter.all false
set_option maxRecDepth 100000
set_option maxHeartbeats 4000000
namespace L2
open PySem PySem.Spec PyProof.Rows Builtin Builtin.ObjectAttr
/-! ### isinstance(e, C) of an exception -/
structure XIs (K : PySem.W.Frag) (C : Addr) : Prop where
  ha : PySem.W.findIn K (.ref C) "__class__" = some (some (.builtin "object.__class__"))
  hn : PySem.W.specialIn K (.builtin "object.__class__") "__get__" = some (some (.builtin "getset_descriptor.__get__"))
  htk : PySem.W.takesIn K (.builtin "object.__class__") = some true
section
variable {prog : Program} {w : World} {A : Around} {E : Value → Shared → Prop} {s : Shared} {K : PySem.W.Frag} {x C : Addr} {v : Value}
end
/-- what isinstance tells of an exception -/
def rIsx (K : PySem.W.Frag) : List V → Hp → VK → Prop := fun xs H Q => ∃ ea C d fs c b, (xs = [.ref ea, c]) ∧ H ea = some (xh ea C (some d)) ∧ H d = some (xdo d fs) ∧ XCls K C ∧ XIs K C ∧ ((∃ n, c = .ty n ∧ PySem.W.kitOne K (.ref C) (.type n) = some b) ∨ ∃ D, c = .ref D ∧ PySem.W.kitOne K (.ref C) (.ref D) = some b) ∧ Q (.bl b) H
end L2

set_option Elab.async false
set_option linter.all false
set_option maxRecDepth 100000
set_option maxHeartbeats 4000000
namespace L2
open PySem PySem.Spec PyProof.Rows
/-! ### readers of a row that is drawn: what they know -/
theorem pw_inj {l : List L3} (hp : l.Pairwise fun x y => x.1 < y.1) {x y : L3} (hx : x ∈ l) (hy : y ∈ l) (e : x.1 = y.1) : x = y := by
  induction l with
  | nil => cases hx
  | cons z r ih =>
    rw [List.pairwise_cons] at hp
    rcases List.mem_cons.mp hx with rfl | hx'
    · rcases List.mem_cons.mp hy with rfl | hy'
      · rfl
      · have := hp.1 _ hy'; omega
    · rcases List.mem_cons.mp hy with rfl | hy'
      · have := hp.1 _ hx'; omega
      · exact ih hp.2 hx' hy'
theorem lastW_of {l : List L3} (hp : l.Pairwise fun x y => x.1 < y.1) {x : L3} {k : List Nat} (hx : x ∈ l) (hk : x.2.1 = k) (hm : ∀ w ∈ l, w.2.1 = k → w.1 ≤ x.1) : lastW l k = some x.2.2 := by
  induction l with
  | nil => cases hx
  | cons z r ih =>
    rw [List.pairwise_cons] at hp
    rcases List.mem_cons.mp hx with rfl | hx'
    · have hn : lastW r k = none := lastW_none.mpr fun w hw e => by
        have := hp.1 w hw
        have := hm w (List.mem_cons_of_mem _ hw) e
        omega
      rw [lastW, hn]
      show (if x.2.1 = k then some x.2.2 else none) = _
      rw [if_pos hk]
    · rw [lastW, ih hp.2 hx' fun w hw => hm w (List.mem_cons_of_mem _ hw)]
theorem lastW_ex {l : List L3} (hp : l.Pairwise fun x y => x.1 < y.1) {k : List Nat} {o : Option (List Nat)} (h : lastW l k = some o) : ∃ x ∈ l, x.2.1 = k ∧ x.2.2 = o ∧ ∀ w ∈ l, w.2.1 = k → w.1 ≤ x.1 := by
  induction l with
  | nil => cases h
  | cons z r ih =>
    rw [List.pairwise_cons] at hp
    rw [lastW] at h
    cases e : lastW r k with
    | some o2 =>
      rw [e] at h
      cases h
      obtain ⟨x, hx, h1, h2, h3⟩ := ih hp.2 e
      refine ⟨x, List.mem_cons_of_mem _ hx, h1, h2, fun w hw hk => ?_⟩
      rcases List.mem_cons.mp hw with rfl | hw'
      · have := hp.1 x hx; omega
      · exact h3 w hw' hk
    | none =>
      rw [e] at h
      have h' : (if z.2.1 = k then some z.2.2 else none) = some o := h
      by_cases hk : z.2.1 = k
      · rw [if_pos hk] at h'
        cases h'
        refine ⟨z, List.mem_cons_self, hk, rfl, fun w hw hk2 => ?_⟩
        rcases List.mem_cons.mp hw with rfl | hw'
        · exact Int.le_refl _
        · exact absurd hk2 (lastW_none.mp e w hw')
      · rw [if_neg hk] at h'
        cases h'
/-- what stands from pl on, below u -/
def ahead (st : List L3) (pl u : Int) : List L3 := st.filter fun x => decide (pl ≤ x.1) && decide (x.1 < u)
def below (st : List L3) (u : Int) : List L3 := st.filter fun x => decide (x.1 < u)
theorem ahead_mem {st : List L3} {pl u : Int} {x : L3} : x ∈ ahead st pl u ↔ x ∈ st ∧ pl ≤ x.1 ∧ x.1 < u := by
  unfold ahead
  rw [List.mem_filter]
  simp
theorem below_mem {st : List L3} {u : Int} {x : L3} : x ∈ below st u ↔ x ∈ st ∧ x.1 < u := by
  unfold below
  rw [List.mem_filter]
  simp
theorem ahead_pw {st : List L3} (hp : st.Pairwise fun x y => x.1 < y.1) (pl u : Int) : (ahead st pl u).Pairwise fun x y => x.1 < y.1 := hp.filter _
theorem ahead_self (st : List L3) (pl : Int) : ahead st pl pl = [] := by
  unfold ahead
  rw [List.filter_eq_nil_iff]
  intro x _ h
  simp at h
  omega
theorem ahead_split {st : List L3} (hp : st.Pairwise fun x y => x.1 < y.1) {a b c : Int} (h1 : a ≤ b) (h2 : b ≤ c) : ahead st a c = ahead st a b ++ ahead st b c := by
  unfold ahead
  induction st with
  | nil => rfl
  | cons x r ih =>
    rw [List.pairwise_cons] at hp
    have ih2 := ih hp.2
    rw [List.filter_cons, List.filter_cons, List.filter_cons]
    by_cases ha : a ≤ x.1
    · by_cases hb : x.1 < b
      · rw [decide_eq_true ha, decide_eq_true (show x.1 < c by omega), decide_eq_true hb, decide_eq_false (show ¬ b ≤ x.1 by omega), ih2]
        rfl
      · have hn : (r.filter fun y => decide (a ≤ y.1) && decide (y.1 < b)) = [] := by
          rw [List.filter_eq_nil_iff]
          intro y hy z
          have := hp.1 y hy
          simp at z
          omega
        rw [hn, List.nil_append] at ih2
        rw [decide_eq_false hb, hn, Bool.and_false, decide_eq_true ha, decide_eq_true (show b ≤ x.1 by omega), ih2]
        rfl
    · rw [decide_eq_false ha, decide_eq_false (show ¬ b ≤ x.1 by omega), ih2]
      rfl
/-- a reader at pl, who took tk, will know at any u from g on what all letters below u say -/
def Due (st Ls tk : List L3) (g pl : Int) : Prop := ∀ u, g ≤ u → pl ≤ u → ∀ k, wordAt (tk ++ ahead st pl u) k = wordAt (below Ls u) k
theorem Due.now {st Ls tk : List L3} {g pl : Int} (h : Due st Ls tk g pl) (hg : g ≤ pl) : wordAt tk = wordAt (below Ls pl) := by
  funext k
  have := h pl hg (Int.le_refl _) k
  rw [ahead_self, List.append_nil] at this
  exact this
theorem Due.read {st Ls tk : List L3} {g pl up : Int} (hp : st.Pairwise fun x y => x.1 < y.1) (h : Due st Ls tk g pl) (hu : pl ≤ up) : Due st Ls (tk ++ ahead st pl up) g up := by
  intro u h1 h2 k
  rw [List.append_assoc, ← ahead_split hp hu h2]
  exact h u h1 (by omega) k
theorem wordAt_app_r {a a' b : List L3} {k : List Nat} (h : wordAt a k = wordAt a' k) : wordAt (a ++ b) k = wordAt (a' ++ b) k := by
  unfold wordAt at h ⊢
  rw [lastW_app, lastW_app]
  cases lastW b k with
  | some o => rfl
  | none => exact h
theorem wordAt_app_l {a b b' : List L3} {k : List Nat} (h : lastW b k = lastW b' k) : wordAt (a ++ b) k = wordAt (a ++ b') k := by
  unfold wordAt
  rw [lastW_app, lastW_app, h]
theorem Due.add {st Ls tk : List L3} {g pl : Int} {x : L3} (h : Due st Ls tk g pl) (h1 : ∀ y ∈ st, y.1 < x.1) (h2 : ∀ y ∈ Ls, y.1 < x.1) (hg : g ≤ x.1) (hl : pl ≤ x.1) : Due (st ++ [x]) (Ls ++ [x]) tk g pl := by
  intro u g1 g2 k
  unfold ahead below
  rw [List.filter_append, List.filter_append]
  by_cases hu : x.1 < u
  · have e1 : ([x].filter fun y => decide (pl ≤ y.1) && decide (y.1 < u)) = [x] := by simp [hl, hu]
    have e2 : ([x].filter fun y => decide (y.1 < u)) = [x] := by simp [hu]
    rw [e1, e2, ← List.append_assoc]
    have h3 := h x.1 hg hl k
    refine wordAt_app_r ?_
    have e3 : (st.filter fun y => decide (pl ≤ y.1) && decide (y.1 < u)) = ahead st pl x.1 := List.filter_congr fun y hy => by
      rw [decide_eq_true (show y.1 < u from Int.lt_trans (h1 y hy) hu), decide_eq_true (h1 y hy)]
    have e4 : (Ls.filter fun y => decide (y.1 < u)) = below Ls x.1 := List.filter_congr fun y hy => by
      rw [decide_eq_true (show y.1 < u from Int.lt_trans (h2 y hy) hu), decide_eq_true (h2 y hy)]
    rw [e3, e4]
    exact h3
  · have e1 : ([x].filter fun y => decide (pl ≤ y.1) && decide (y.1 < u)) = [] := by simp [hu]
    have e2 : ([x].filter fun y => decide (y.1 < u)) = [] := by simp [hu]
    rw [e1, e2, List.append_nil, List.append_nil]
    exact h u g1 g2 k
/-- what is left once drawn at f, passed pa -/
def left (st : List L3) (f pa : Int) : List L3 := st.filter fun x => !decide (x.1 ∈ awayL (below st f) pa)
theorem left_mem {st : List L3} {f pa : Int} {x : L3} : x ∈ left st f pa ↔ x ∈ st ∧ x.1 ∉ awayL (below st f) pa := by
  unfold left
  rw [List.mem_filter]
  simp
theorem away_goes {st : List L3} (hp : st.Pairwise fun x y => x.1 < y.1) {f pa : Int} {x : L3} (hx : x ∈ st) : x.1 ∈ awayL (below st f) pa ↔ x.1 < f ∧ goes (below st f) pa x = true := by
  rw [awayL_eq, List.mem_map]
  constructor
  · rintro ⟨y, hy, e⟩
    obtain ⟨y1, y2⟩ := List.mem_filter.mp hy
    obtain ⟨y3, y4⟩ := below_mem.mp y1
    have := pw_inj hp y3 hx e
    subst this
    exact ⟨y4, y2⟩
  · rintro ⟨h1, h2⟩
    exact ⟨x, List.mem_filter.mpr ⟨below_mem.mpr ⟨hx, h1⟩, h2⟩, rfl⟩
theorem Due.draw {st Ls tk : List L3} {g pl f pa : Int} (hp : st.Pairwise fun x y => x.1 < y.1) (h : Due st Ls tk g pl) (hpa : pa ≤ pl) : Due (left st f pa) Ls tk (max g f) pl := by
  intro u h1 h2 k
  rw [← h u (by omega) h2 k]
  refine wordAt_app_l ?_
  have hpl : (left st f pa).Pairwise fun x y => x.1 < y.1 := hp.filter _
  cases e : lastW (ahead st pl u) k with
  | none =>
    refine lastW_none.mpr fun x hx => ?_
    obtain ⟨a, b⟩ := ahead_mem.mp hx
    exact lastW_none.mp e x (ahead_mem.mpr ⟨(left_mem.mp a).1, b⟩)
  | some o =>
    obtain ⟨x, hx, hk, ho, hm⟩ := lastW_ex (ahead_pw hp pl u) e
    obtain ⟨x1, x2, x3⟩ := ahead_mem.mp hx
    subst ho
    refine lastW_of (ahead_pw hpl pl u) (ahead_mem.mpr ⟨left_mem.mpr ⟨x1, fun ha => ?_⟩, x2, x3⟩) hk fun w hw => hm w ?_
    · obtain ⟨a1, a2⟩ := (away_goes hp x1).mp ha
      have hl : lastP (below st f) x.2.1 = some x.1 := lastP_of (hp.filter _) (below_mem.mpr ⟨x1, a1⟩) fun w hw hk2 => by
        obtain ⟨w1, w2⟩ := below_mem.mp hw
        by_cases hc : w.1 ≤ x.1
        · exact hc
        · exact hm w (ahead_mem.mpr ⟨w1, by omega, by omega⟩) (hk2.trans hk)
      unfold goes at a2
      rw [hl, decide_eq_false (show ¬ x.1 < pa by omega)] at a2
      simp at a2
    · obtain ⟨a, b⟩ := ahead_mem.mp hw
      exact ahead_mem.mpr ⟨(left_mem.mp a).1, b⟩
theorem Due.draw0 {st Ls : List L3} {g f pa : Int} (hp : st.Pairwise fun x y => x.1 < y.1) (h0 : ∀ x ∈ st, 0 ≤ x.1) (h : Due st Ls [] g 0) : Due (left st f pa) Ls [] (max g f) 0 := by
  intro u h1 h2 k
  rw [← h u (by omega) h2 k, List.nil_append, List.nil_append]
  have hpl : (left st f pa).Pairwise fun x y => x.1 < y.1 := hp.filter _
  have sub : ∀ w, w ∈ ahead (left st f pa) 0 u → w ∈ ahead st 0 u := fun w hw => by
    obtain ⟨a, b⟩ := ahead_mem.mp hw
    exact ahead_mem.mpr ⟨(left_mem.mp a).1, b⟩
  unfold wordAt
  cases e : lastW (ahead st 0 u) k with
  | none =>
    rw [lastW_none.mpr fun x hx => lastW_none.mp e x (sub x hx)]
  | some o =>
    obtain ⟨x, hx, hk, ho, hm⟩ := lastW_ex (ahead_pw hp 0 u) e
    obtain ⟨x1, x2, x3⟩ := ahead_mem.mp hx
    subst ho
    by_cases ha : x.1 ∈ awayL (below st f) pa
    · obtain ⟨a1, a2⟩ := (away_goes hp x1).mp ha
      have hl : lastP (below st f) x.2.1 = some x.1 := lastP_of (hp.filter _) (below_mem.mpr ⟨x1, a1⟩) fun w hw hk2 => by
        obtain ⟨w1, w2⟩ := below_mem.mp hw
        exact hm w (ahead_mem.mpr ⟨w1, h0 w w1, by omega⟩) (hk2.trans hk)
      have hs : x.2.2 = none := by
        unfold goes at a2
        rw [hl] at a2
        simp at a2
        exact a2.1
      have hn : lastW (ahead (left st f pa) 0 u) k = none := lastW_none.mpr fun w hw hk2 => by
        have hw2 := sub w hw
        obtain ⟨w1, w2, w3⟩ := ahead_mem.mp hw2
        obtain ⟨w4, _⟩ := ahead_mem.mp hw
        have hle := hm w hw2 hk2
        have hg : goes (below st f) pa w = true := by
          by_cases hwx : w.1 = x.1
          · rw [pw_inj hp w1 x1 hwx]; exact a2
          · unfold goes
            rw [hk2, ← hk, hl]
            have : (some x.1 == some w.1) = false := by
              rw [beq_eq_false_iff_ne]
              intro z
              exact hwx (Option.some.inj z).symm
            rw [this]
            rfl
        exact (left_mem.mp w4).2 ((away_goes hp w1).mpr ⟨by omega, hg⟩)
      rw [hn, hs]
      rfl
    · rw [lastW_of (ahead_pw hpl 0 u) (ahead_mem.mpr ⟨left_mem.mpr ⟨x1, ha⟩, x2, x3⟩) hk fun w hw => hm w (sub w hw)]
theorem seen_ahead {M : RowM} (hf : M.first = 0) (hl : 0 ≤ M.last) {pl li mo : Int} (hp : 0 ≤ pl) (hmo : M.last ≤ mo) : (M.seenP pl li mo).map M.rowV = (ahead M.stand pl li).map l3V := by
  unfold RowM.seenP
  rw [hf, show max pl 0 = pl by omega, List.take_of_length_le (by have := standing_len M pl (min li M.last - pl).toNat; omega), standing_V]
  congr 1
  have e : ahead M.stand pl li = ((M.standing 0 M.last.toNat).filter fun p => decide (pl ≤ p) && decide (p < li)).map M.rowL := map_filter_fst M _ fun p => decide (pl ≤ p) && decide (p < li)
  rw [e]
  congr 1
  refine lt_ext (standing_lt _ _ _) ((standing_lt _ _ _).filter _) fun z => ?_
  rw [standing_mem, List.mem_filter, standing_mem]
  simp only [Bool.and_eq_true, decide_eq_true_eq]
  constructor
  · rintro ⟨⟨a, b⟩, c⟩
    exact ⟨⟨⟨by omega, by omega⟩, c⟩, a, by omega⟩
  · rintro ⟨⟨⟨a, b⟩, c⟩, d1, d2⟩
    exact ⟨⟨d1, by omega⟩, c⟩
theorem stand_left (M : RowM) (f pa : Int) : (M.outs (awayL (M.stand.filter fun x => decide (x.1 < f)) pa)).stand = left M.stand f pa := stand_outs _ _
def sp_draw66 (C CR : Addr) : Sp := fun vs H Q _ => ∃ (r d : Addr) (M : RowM) (rd ra rb : Addr) (R : ReadM) (fl : Int), vs = [.ref r, .ref rd, .int fl] ∧ RowAt C H r d M ∧ ReadAt CR H rd ra rb R ∧ M.last ≤ 100 ∧ R.sz ≤ 1000 ∧ 0 ≤ fl ∧
  ∀ pa H', Passed R 7 fl pa → Chg [r, d] H H' → RowAt C H' r d ((M.outs (awayL (M.stand.filter fun x => decide (x.1 < fl)) pa)).raised fl) → Q (.bl true) H'
def sp_reads66 (C CR CT : Addr) : Sp := fun vs H Q _ => ∃ (r d : Addr) (M : RowM) (rd ra rb : Addr) (R : ReadM) (td : Addr) (n : Str) (up : Int) (t w l : Addr) (tk : List L3) (pl x : Int), vs = [.ref r, .ref rd, .ref td, .str n, .int up] ∧
  RowAt C H r d M ∧ M.first = 0 ∧ M.last ≤ 100 ∧ ReadAt CR H rd ra rb R ∧ R.sz ≤ 1000 ∧ R.R n = some (x, pl) ∧ DGet H td (.str n) (some (.ref t)) ∧ TblAt CT H t w l tk pl ∧ tk.length ≤ 100 ∧ 0 ≤ pl ∧ pl ≤ 100 ∧ (rd ∉ [t, w, l] ∧ ra ∉ [t, w, l] ∧ rb ∉ [t, w, l]) ∧
  ∀ H', Chg [t, w, l, rb] H H' → TblAt CT H' t w l (tk ++ ahead M.stand pl (max pl up)) (max pl up) → ReadAt CR H' rd ra rb (R.put n (x, max pl up)) → Q .non H'
def risen (tk : List L3) (ks : List (List Nat)) : List Int := ks.map fun k => (lastP tk k).getD (-1)
def sp_rises66 (CT : Addr) : Sp := fun vs H Q _ => ∃ (t w l : Addr) (tk : List L3) (pl : Int) (kp b : Addr) (ks : List (List Nat)) (ms : List Int), vs = [.ref t, .ref kp, .ref b] ∧ TblAt CT H t w l tk pl ∧ H kp = some (.lst (ks.map fun z => V.str (S z))) ∧ ks.length ≤ 36 ∧ H b = some (.lst (ms.map V.int)) ∧ ms.length = ks.length ∧ (∀ (i : Nat) (m : Int) (k : List Nat), ms[i]? = some m → ks[i]? = some k → m ≤ (lastP tk k).getD (-1)) ∧ b ≠ kp ∧
  ∀ H', Chg [b] H H' → H' b = some (.lst ((risen tk ks).map V.int)) → Q (.bl true) H'
def sp_wstone : Sp := fun vs H Q _ => ∃ c : Int, vs = [.int c] ∧ ∀ o : Option (List Nat), (∀ w, o = some w → okS w) → Q (wV o) H
/-- a reader's table, as the law holds it -/
structure TM where
  t : Addr
  w : Addr
  l : Addr
  b : Addr
  tk : List L3
  pl : Int
abbrev TMs := Str → Option TM
structure TsK (kvs kls : List (Key × V)) (F : TMs) : Prop where
  len : kvs.length ≤ 200
  val : ∀ z, valV kvs (.inr z) = (F z).map fun m => V.ref m.t
  int : ∀ i : Int, valV kvs (.inl i) = none
  ls : ∀ z m, F z = some m → valV kls (.inr z) = some (.ref m.b)
def LsOk (H : Hp) (F : TMs) (ks : List (List Nat)) : Prop := ∀ z m, F z = some m → ∃ ms : List Int, H m.b = some (.lst (ms.map V.int)) ∧ ms.length = ks.length ∧ ∀ (i : Nat) (x : Int) (k : List Nat), ms[i]? = some x → ks[i]? = some k → x ≤ (lastP m.tk k).getD (-1)
structure Sees (CT : Addr) (H : Hp) (R : ReadM) (F : TMs) (Ls : List L3) (g : Int) (td ld : Addr) (bs : List Addr) : Prop where
  tbl : ∀ z m, F z = some m → TblAt CT H m.t m.w m.l m.tk m.pl
  len : ∀ z m, F z = some m → m.tk.length ≤ 100
  rd : ∀ z m, F z = some m → R.R z = some (7, m.pl)
  now : ∀ z m, F z = some m → g ≤ m.pl → wordAt m.tk = wordAt (below Ls m.pl)
  b : ∀ z m, F z = some m → m.b ∈ bs
  td : ∀ z m, F z = some m → td ∉ [m.t, m.w, m.l]
  bb : ∀ z z' m m', F z = some m → F z' = some m' → z ≠ z' → m.b ≠ m'.b
theorem Sees.chg {A : List Addr} {CT : Addr} {H H' : Hp} {R : ReadM} {F : TMs} {Ls : List L3} {g : Int} {td ld : Addr} {bs : List Addr} (h : Sees CT H R F Ls g td ld bs) (c : Chg A H H') (hA : ∀ b ∈ A, ∀ z m, F z = some m → b ∉ [m.t, m.w, m.l]) : Sees CT H' R F Ls g td ld bs :=
  ⟨fun z m e => (h.tbl z m e).chg c (fun x => hA _ x z m e (by simp)) (fun x => hA _ x z m e (by simp)) (fun x => hA _ x z m e (by simp)), h.len, h.rd, h.now, h.b, h.td, h.bb⟩
def sp_stand66 (CR CT : Addr) : Sp := fun vs H Q _ => ∃ (rd ra rb : Addr) (R : ReadM) (td ld kp p : Addr) (g : Int) (kvs kls : List (Key × V)) (F : TMs) (ks : List (List Nat)) (Ls : List L3) (bs : List Addr), vs = [.ref rd, .ref td, .ref kp, .ref ld, .ref p, .int g] ∧
  ReadAt CR H rd ra rb R ∧ H td = some (.dK kvs) ∧ H ld = some (.dK kls) ∧ TsK kvs kls F ∧ Sees CT H R F Ls g td ld bs ∧ LsOk H F ks ∧ td ∉ [ra, rb, ld] ∧ (∀ b ∈ bs, ∃ xs, H b = some (.lst xs)) ∧ kp ∉ bs ∧ p ∉ bs ∧ H kp = some (.lst (ks.map fun z => V.str (S z))) ∧ ks.length ≤ 36 ∧ LTups H p (Ls.map l3V) ∧ Ls.length ≤ 100 ∧
  ∀ H', Chg bs H H' → LsOk H' F ks → Q (.bl true) H'
end L2

set_option Elab.async false
set_option linter.all false
set_option maxRecDepth 100000
set_option maxHeartbeats 4000000
namespace L2
open PySem PySem.Spec PyProof.Rows
/-! ### sorted(d.values()) -/
section
variable {X : Cx} {o : Expr} {apos cpos : Pos} {td : TE}
def tSortV (td : TE) : TE := fun σ H Q => td σ H fun x H1 => ∃ (d : Addr) (kvs : List (Key × V)) (ns : List Int), x = .ref d ∧ H1 d = some (.dK kvs) ∧ kvs.map (·.2) = ns.map V.int ∧ ns.length < 64 ∧
  ∀ l (ms : List Int), H1 l = none → ms.Perm ns → ms.Pairwise (· ≤ ·) → Q (.ref l) (upd H1 l (.lst (ms.map V.int)))
end
end L2

set_option Elab.async false
set_option linter.all false
set_option maxRecDepth 100000
set_option maxHeartbeats 4000000
namespace L2
open PySem PySem.Spec PyProof.Rows
/-! ### the table of a set: places rise -/
def Ris (l : List Nat) : Prop := l.Pairwise (· < ·)
theorem below_go (xs : Array Nat) (j : Nat) (hr : Ris xs.toList) : ∀ (fuel lo hi : Nat), hi - lo ≤ fuel → lo ≤ hi → hi ≤ xs.size → (∀ (i x : Nat), i < lo → xs[i]? = some x → x < j) → (∀ (i x : Nat), hi ≤ i → xs[i]? = some x → j ≤ x) →
    ∃ r, SetTable.below.go xs j fuel lo hi = r ∧ r ≤ xs.size ∧ (∀ (i x : Nat), i < r → xs[i]? = some x → x < j) ∧ (∀ (i x : Nat), r ≤ i → xs[i]? = some x → j ≤ x)
  | 0, lo, hi, hf, hl, hs, a, b => by
    have : lo = hi := by omega
    subst this
    exact ⟨lo, rfl, hs, a, b⟩
  | fuel + 1, lo, hi, hf, hl, hs, a, b => by
    by_cases h : lo < hi
    · have hm : (lo + hi) / 2 < xs.size := by omega
      have hg : xs.getD ((lo + hi) / 2) j = xs[(lo + hi) / 2] := by simp [Array.getD, hm]
      have mono : ∀ (i k x y : Nat), i < k → xs[i]? = some x → xs[k]? = some y → x < y := by
        intro i k x y hik hx hy
        rw [← Array.getElem?_toList] at hx hy
        obtain ⟨hi', rfl⟩ := List.getElem?_eq_some_iff.mp hx
        obtain ⟨hk', rfl⟩ := List.getElem?_eq_some_iff.mp hy
        exact List.pairwise_iff_getElem.mp hr i k hi' hk' hik
      have hmx : xs[(lo + hi) / 2]? = some xs[(lo + hi) / 2] := by simp [hm]
      by_cases c : xs[(lo + hi) / 2] < j
      · obtain ⟨r, e, h1, h2, h3⟩ := below_go xs j hr fuel ((lo + hi) / 2 + 1) hi (by omega) (by omega) hs (fun i x hi' hx => by
          by_cases e : i = (lo + hi) / 2
          · rw [e, hmx] at hx; cases hx; exact c
          · exact Nat.lt_trans (mono i _ x _ (by omega) hx hmx) c) b
        refine ⟨r, ?_, h1, h2, h3⟩
        unfold SetTable.below.go
        simp only [h, hg, c, ↓reduceIte, e]
      · obtain ⟨r, e, h1, h2, h3⟩ := below_go xs j hr fuel lo ((lo + hi) / 2) (by omega) (by omega) (by omega) a (fun i x hi' hx => by
          by_cases e : i = (lo + hi) / 2
          · rw [e, hmx] at hx; cases hx; omega
          · have := mono _ i _ x (show (lo + hi) / 2 < i by omega) hmx hx; omega)
        refine ⟨r, ?_, h1, h2, h3⟩
        unfold SetTable.below.go
        simp only [h, hg, c, ↓reduceIte, e]
    · have : lo = hi := by omega
      subst this
      refine ⟨lo, ?_, hs, a, b⟩
      unfold SetTable.below.go
      simp
theorem below_at {xs : Array Nat} (j : Nat) (hr : Ris xs.toList) : SetTable.below xs j ≤ xs.size ∧ (∀ (i x : Nat), i < SetTable.below xs j → xs[i]? = some x → x < j) ∧ (∀ (i x : Nat), SetTable.below xs j ≤ i → xs[i]? = some x → j ≤ x) := by
  obtain ⟨r, e, h⟩ := below_go xs j hr xs.size 0 xs.size (by omega) (by omega) (by omega) (fun i x h _ => by omega) (fun i x h hx => by rw [Array.getElem?_eq_none h] at hx; cases hx)
  unfold SetTable.below
  rw [e]
  exact h
/-- the place that is met next: the i-th, when one looks from behind the place ahead of it on -/
theorem below_next {xs : Array Nat} {i x : Nat} (hr : Ris xs.toList) (hx : xs[i]? = some x) : SetTable.below xs (x + 1) = i + 1 := by
  obtain ⟨h1, h2, h3⟩ := below_at (x + 1) hr
  have hi : i < xs.size := by
    by_cases h : i < xs.size
    · exact h
    · rw [Array.getElem?_eq_none (by omega)] at hx; cases hx
  rcases Nat.lt_trichotomy (SetTable.below xs (x + 1)) (i + 1) with h | h | h
  · have := h3 i x (by omega) hx; omega
  · exact h
  · have hk : i + 1 < xs.size := by omega
    have e : xs[i + 1]? = some xs[i + 1] := by simp [hk]
    have a := h2 (i + 1) _ h e
    have b : x < xs[i + 1] := by
      have hx' : xs[i] = x := by simpa [hi] using hx
      rw [← hx']
      have := List.pairwise_iff_getElem.mp hr i (i + 1) (by simpa using hi) (by simpa using hk) (by omega)
      simpa using this
    omega
theorem below_zero {xs : Array Nat} (hr : Ris xs.toList) : SetTable.below xs 0 = 0 := by
  obtain ⟨h1, h2, h3⟩ := below_at 0 hr
  by_cases h : SetTable.below xs 0 = 0
  · exact h
  · have hk : 0 < xs.size := by omega
    have := h2 0 xs[0] (by omega) (by simp [hk])
    omega
theorem ris_insert {xs : Array Nat} {j : Nat} (hr : Ris xs.toList) (hn : xs[SetTable.below xs j]? ≠ some j) : Ris (SetTable.insertAt xs (SetTable.below xs j) j).toList := by
  obtain ⟨h1, h2, h3⟩ := below_at j hr
  rw [SetTable.toList_insertAt]
  unfold Ris at *
  have e : xs.toList = xs.toList.take (SetTable.below xs j) ++ xs.toList.drop (SetTable.below xs j) := (List.take_append_drop _ _).symm
  rw [e, List.pairwise_append] at hr
  rw [List.pairwise_append, List.pairwise_cons]
  have hlt : ∀ a ∈ xs.toList.take (SetTable.below xs j), a < j := by
    intro a ha
    obtain ⟨i, hi, rfl⟩ := List.mem_iff_getElem.mp ha
    rw [List.length_take] at hi
    have := h2 i (xs.toList[i]'(by omega)) (by omega) (by rw [← Array.getElem?_toList]; simp)
    simpa using this
  have hgt : ∀ a ∈ xs.toList.drop (SetTable.below xs j), j < a := by
    intro a ha
    obtain ⟨i, hi, rfl⟩ := List.mem_iff_getElem.mp ha
    rw [List.length_drop] at hi
    have hle := h3 (SetTable.below xs j + i) (xs.toList[SetTable.below xs j + i]'(by omega)) (by omega) (by rw [← Array.getElem?_toList]; simp)
    rw [List.getElem_drop]
    by_cases hi0 : i = 0
    · subst hi0
      have : xs.toList[SetTable.below xs j + 0]'(by omega) ≠ j := by
        intro z
        apply hn
        have h0 : SetTable.below xs j < xs.size := by simp at hi; omega
        rw [Array.getElem?_eq_getElem h0]
        exact congrArg some (by simpa using z)
      omega
    · have h0 : SetTable.below xs j < xs.size := by simp at hi; omega
      have ha := h3 (SetTable.below xs j) xs[SetTable.below xs j] (Nat.le_refl _) (by simp [h0])
      have hp := List.pairwise_iff_getElem.mp (show xs.toList.Pairwise (· < ·) from by rw [e, List.pairwise_append]; exact hr) (SetTable.below xs j) (SetTable.below xs j + i) (by simpa using h0) (by omega) (by omega)
      simp at hp ⊢
      omega
  exact ⟨hr.1, ⟨hgt, hr.2.1⟩, fun a ha b hb => by
    rcases List.mem_cons.mp hb with rfl | hb
    · exact hlt a ha
    · exact Nat.lt_trans (hlt a ha) (hgt b hb)⟩
/-- what is known of a set's table while its set is only added to -/
structure TabOk (led : Bool) (t : SetTable) : Prop where
  ris : Ris t.place.toList
  dum : t.dummies = #[]
  led : t.led = led
theorem range_ris (n : Nat) : Ris (Array.range n).toList := by
  unfold Ris
  rw [Array.toList_range]
  exact List.pairwise_lt_range
theorem TabOk.standIn {led : Bool} {t : SetTable} (h : TabOk led t) (n : Nat) : TabOk led (t.standIn n) := ⟨range_ris n, rfl, h.led⟩
theorem TabOk.orStandIn {led : Bool} {t : SetTable} (h : TabOk led t) (n : Nat) : TabOk led (t.orStandIn n) := by
  unfold SetTable.orStandIn
  split
  · exact h
  · exact h.standIn n
theorem slot_empty {t : SetTable} (hd : t.dummies = #[]) (j : Nat) : t.slot j = .empty ∧ t.place[SetTable.below t.place j]? ≠ some j ∨ ∃ i, t.slot j = .live i := by
  unfold SetTable.slot
  by_cases h : t.place[SetTable.below t.place j]? = some j
  · right; exact ⟨SetTable.below t.place j, by simp [h]⟩
  · left
    refine ⟨?_, h⟩
    have : SetTable.has t.dummies j = false := by rw [hd]; rfl
    simp [h, this]
theorem probe_free {t : SetTable} {hs : Nat → Int} {h : Int} (hd : t.dummies = #[]) : ∀ (fuel : Nat) (p : SetTable.Probe) (j : Nat) (d : Option Nat), p.dummy = none → SetTable.probe.go t hs h fuel p = some (.empty j d) → d = none ∧ t.place[SetTable.below t.place j]? ≠ some j
  | 0, p, j, d, _, e => by simp [SetTable.probe.go] at e
  | fuel + 1, p, j, d, hp, e => by
    unfold SetTable.probe.go at e
    rcases slot_empty hd p.j with ⟨h1, h2⟩ | ⟨i, h1⟩
    · rw [h1] at e
      simp only [Option.some.injEq, SetTable.Met.empty.injEq] at e
      obtain ⟨rfl, rfl⟩ := e
      exact ⟨hp, h2⟩
    · rw [h1] at e
      simp only at e
      split at e
      · cases e
      · refine probe_free hd fuel _ j d ?_ e
        unfold SetTable.advance
        split
        · exact hp
        · exact hp
theorem TabOk.lay {led : Bool} {t : SetTable} (ok : TabOk led t) (es : Array (Int × Value)) (h : Int) (x : Value) : TabOk led (layNew t es h x).2.1 := by
  unfold layNew
  split
  · rename_i slot wd e
    have hfree : t.place[SetTable.below t.place slot]? ≠ some slot := by
      unfold SetTable.freeSlot SetTable.probe at e
      split at e
      · rename_i j d e2
        obtain ⟨rfl, h2⟩ := probe_free ok.dum _ _ _ _ rfl e2
        simp only [Option.some.injEq, Prod.mk.injEq] at e
        rw [← e.1]
        exact h2
      · cases e
    refine TabOk.orStandIn ?_ _
    refine ⟨ris_insert ok.ris hfree, ?_, ok.led⟩
    show (if SetTable.has t.dummies slot then _ else t.dummies) = #[]
    rw [ok.dum]
    rfl
  · exact ok.standIn _
theorem TabOk.relay {led : Bool} {t : SetTable} (ok : TabOk led t) (es : Array (Int × Value)) (n : Nat) : TabOk led (relayAll t es n).2.1 := by
  unfold relayAll
  split
  · rename_i t' order e
    dsimp only
    split
    · unfold SetTable.relaid SetTable.laid at e
      cases ho : SetTable.layClean (SetTable.sizeAbove n - 1) (es.map (·.1)) with
      | none => rw [ho] at e; cases e
      | some owner =>
        rw [ho] at e
        simp only [Option.bind_eq_bind, Option.bind_some, Option.pure_def, Option.some.injEq, Prod.mk.injEq] at e
        obtain ⟨rfl, rfl⟩ := e
        refine ⟨?_, rfl, ok.led⟩
        unfold Ris
        simp only
        rw [List.pairwise_map]
        refine List.Pairwise.filterMap _ (R := (· < ·)) (fun a a' haa b hb b' hb' => ?_) List.pairwise_lt_range
        simp only [Option.map_eq_some_iff] at hb hb'
        obtain ⟨_, _, rfl⟩ := hb
        obtain ⟨_, _, rfl⟩ := hb'
        exact haa
    · exact ok.standIn _
  · exact ok.standIn _

/-! ### sets of whole numbers, each added once -/
section
variable {prog : Program} {w : World} {A : Around} {E : Value → Shared → Prop} {s : Shared}
/-- a set of whole numbers at a, with what is known of its table -/
def SetI (prog : Program) (w : World) (h : Heap) (a : Addr) (S : Int → Bool) (n : Nat) (led : Bool) : Prop :=
  ∃ (o : Obj) (es : Array (Int × Value)) (ep : Nat) (t : SetTable), h.get? a = some o ∧ o.ExactSet ∧ o.data = .set es ep t ∧ ElemsOf (intKind prog w) es.toList ∧ (∀ k, S k = true ↔ ∃ e ∈ es.toList, (intKind prog w).is k e.2 = true)
    ∧ es.size < scanBound ∧ t.fits es.size = true ∧ es.size = n ∧ TabOk led t
theorem SetI.at {h h' : Heap} {a : Addr} {S : Int → Bool} {n : Nat} {led : Bool} (x : SetI prog w h a S n led) (k : ∀ o, h.get? a = some o → h'.get? a = some o) : SetI prog w h' a S n led := by
  obtain ⟨o, es, ep, t, ho, r⟩ := x
  exact ⟨o, es, ep, t, k o ho, r⟩
theorem SetI.re {h : Heap} {a : Addr} {S S' : Int → Bool} {n n' : Nat} {led : Bool} (x : SetI prog w h a S n led) (e : ∀ k, S k = S' k) (en : n = n') : SetI prog w h a S' n' led := by
  rw [← funext e, ← en]; exact x
theorem SetI.stored {h : Heap} {a : Addr} {o : Obj} {es : Array (Int × Value)} {ep : Nat} {t : SetTable} {led : Bool} (ho : h.get? a = some o) (hex : o.ExactSet) (hd : o.data = .set es ep t)
    {es' : Array (Int × Value)} {t' : SetTable} {S' : Int → Bool} (hel : ElemsOf (intKind prog w) es'.toList) (hm : ∀ k, S' k = true ↔ ∃ e ∈ es'.toList, (intKind prog w).is k e.2 = true) (hb : es'.size < scanBound) (hf : t'.fits es'.size = true) (ok : TabOk led t') :
    (h.update a (Obj.putSet es' t')).get? a = some { o with data := .set es' (ep + 1) t' } ∧ SetI prog w (h.update a (Obj.putSet es' t')) a S' es'.size led := by
  obtain ⟨hg, _⟩ := SetOf_store (knd := intKind prog w) ho hex hd hel hm hb hf
  exact ⟨hg, _, es', ep + 1, t', hg, hex, rfl, hel, hm, hb, hf, rfl, ok⟩
theorem TabOk.unplain {led : Bool} {t : SetTable} (ok : TabOk led t) : TabOk led { t with plain := false } := ⟨ok.ris, ok.dum, ok.led⟩
theorem add_new {a : Addr} {S : Int → Bool} {n : Nat} {k : Int} {x : Value} {led : Bool} {Q : Bool → Shared → Prop} (hkey : (intKind prog w).is k x = true) (hsc : x.scannable = true) (hS : SetI prog w s.heap a S n led) (hk : S k = false) (room : n + 1 < scanBound)
    (h : ∀ h', Heap.SameBut a s.heap h' → SetI prog w h' a (fun k' => S k' || decide (k' = k)) (n + 1) led → Q true { s with heap := h' }) :
    wpAny (model prog w) A (setAddHashed a x ((intKind prog w).hash k)) Q E s := by
  obtain ⟨o, es, ep, t, ho, hex, hd, hel, hmem, hb, hf, hn, ok⟩ := hS
  have hroom : es.size + 1 < scanBound := by omega
  unfold setAddHashed setAddHashedIn
  refine wpAny_holding (wpAny_bind (wpAny_setState_of ho hd hf ?_))
  simp only
  rw [byScan_of hsc hb hel, if_pos rfl]
  unfold setAddByScan
  refine wpAny_bind (wpAny_bind (wpAny_rule (wpAny_bind (wpAny_setScan_of hkey ho hd hf hel ?_))))
  have hnone : List.findIdx? (fun e => (intKind prog w).is k e.2) es.toList = none := by
    refine List.findIdx?_eq_none_iff.mpr fun e he => ?_
    by_cases z : (intKind prog w).is k e.2 = true
    · have := (hmem k).mpr ⟨e, he, z⟩
      rw [hk] at this; cases this
    · simpa using z
  rw [hnone]
  simp only
  have gw : ∀ (b : Bool) (s₁ : Shared) (Q' : Unit → Shared → Prop), Q' () s₁ → wpAny (model prog w) A (match b with | true => rule "set.scan.the-table-gave-way" | false => pure ()) Q' E s₁ :=
    fun b s₁ Q' q => by cases b <;> first | exact wpAny_pure q | exact wpAny_rule q
  have hperm := layNew_perm t es ((intKind prog w).hash k) x
  have hfits := layNew_fits t es ((intKind prog w).hash k) x
  have hok := ok.lay es ((intKind prog w).hash k) x
  generalize layNew t es ((intKind prog w).hash k) x = L at hperm hfits hok ⊢
  obtain ⟨es1, t1, wd, gave⟩ := L
  simp only at hperm hfits hok ⊢
  rw [Array.toList_push] at hperm
  have hel1 : ElemsOf (intKind prog w) es1.toList := (hel.push hkey hsc).perm hperm
  have hm1 := mem_push_iff hkey hmem hperm
  have hs1 : es1.size = n + 1 := by
    have := hperm.length_eq
    simp only [Array.length_toList, List.length_append, List.length_singleton] at this
    omega
  have hb1 : es1.size < scanBound := by omega
  refine wpAny_bind (gw _ _ _ ?_)
  have fin : ∀ t2 : SetTable, t2.fits es1.size = true → TabOk led t2 → wpAny (model prog w) A (do
      storeSet a es1 t2
      if (!wd && t2.tooFull) = true then do
        (match (relayAll t2 es1 (SetTable.grown es1.size)).2.2 with | true => rule "set.scan.the-table-gave-way" | false => pure ())
        storeSet a (relayAll t2 es1 (SetTable.grown es1.size)).1 (relayAll t2 es1 (SetTable.grown es1.size)).2.1
        pure (some true)
      else pure (some true)) (fun r s' => r = some true ∧ Q true s') E s := by
    intro t2 hf2 ok2
    obtain ⟨ho1, hS1⟩ := SetI.stored (S' := fun k' => S k' || decide (k' = k)) ho hex hd hel1 hm1 hb1 hf2 ok2
    refine wpAny_bind (wpAny_storeSet_of ho hd ?_ (fits_of_scanBound hb1))
    have sb1 := Heap.SameBut.update s.heap a (Obj.putSet es1 t2)
    split
    · have hp := relayAll_perm t2 es1 (SetTable.grown es1.size)
      have hfr := relayAll_fits t2 es1 (SetTable.grown es1.size)
      have okr := ok2.relay es1 (SetTable.grown es1.size)
      generalize relayAll t2 es1 (SetTable.grown es1.size) = Rl at hp hfr okr ⊢
      obtain ⟨es2, t3, g2⟩ := Rl
      simp only at hp hfr okr ⊢
      have hs2 : es2.size = es1.size := by rw [← Array.length_toList, hp.length_eq, Array.length_toList]
      have hb2 : es2.size < scanBound := by omega
      refine wpAny_bind (gw _ _ _ ?_)
      obtain ⟨_, hS2⟩ := SetI.stored (S' := fun k' => S k' || decide (k' = k)) ho1 hex rfl (hel1.perm hp) (fun k' => (hm1 k').trans ⟨fun ⟨e, he, q⟩ => ⟨e, hp.mem_iff.mpr he, q⟩, fun ⟨e, he, q⟩ => ⟨e, hp.mem_iff.mp he, q⟩⟩) hb2 hfr okr
      refine wpAny_bind (wpAny_storeSet_of ho1 rfl ?_ (fits_of_scanBound hb2))
      exact wpAny_pure ⟨rfl, h _ (sb1.trans (Heap.SameBut.update _ a _)) (hS2.re (fun _ => rfl) (by omega))⟩
    · exact wpAny_pure ⟨rfl, h _ sb1 (hS1.re (fun _ => rfl) (by omega))⟩
  have last : ∀ (r : Option Bool) (s' : Shared), r = some true ∧ Q true s' → wpAny (model prog w) A (match r with | some added => pure added | none => setAddHashedIn a x ((intKind prog w).hash k) 99999) Q E s' := by
    rintro r s' ⟨rfl, q⟩
    exact wpAny_pure q
  split
  · refine wpAny_bind ?_
    rw [hashByValue_scannable 8 hsc]
    refine wpAny_pure ?_
    refine wpAny_mono (fin _ ?_ ?_) last fun _ _ z => z
    · split
      · exact hfits
      · exact SetTable.fits_plain_off hfits
    · split
      · exact hok
      · exact hok.unplain
  · refine wpAny_bind (wpAny_pure ?_)
    simp only [↓reduceIte]
    exact wpAny_mono (fin _ hfits hok) last fun _ _ z => z
end

section
variable {prog : Program} {w : World} {A : Around} {s : Shared}
def memI (l : List Int) : Int → Bool := fun x => l.any (· == x)
/-- the loop of set(..) over whole numbers that differ -/
theorem loop_setI {R : Result → Shared → Prop} {I S : Addr} {fp wr : List Addr} {G : Array GenState → Array GenState → Prop} {ls : List Int} {P : Nat → Value → Prop} {St : Nat → Shared → Prop} {led : Bool} (W : WalksS prog w A.in1 I fp wr G ls.length P St) (hSf : S ∉ fp) (hd : ls.Nodup)
    (hval : ∀ i v, P i v → ∃ x t, ls[i]? = some x ∧ v = .int x t) (hb : ls.length + 1 < scanBound) :
    ∀ (k i : Nat) (s : Shared), ls.length - i = k → i ≤ ls.length → St i s → SetI prog w s.heap S (memI (ls.take i)) i led →
      (∀ s', Moved (S :: wr) G s s' → SetI prog w s'.heap S (memI ls) ls.length led → R (.ok (.ret .none)) s') →
      codeAny (model prog w) A (.builtin "set.update.loop" ⟨[.ref S, .ref I], []⟩) R s := by
  have hSw : S ∉ wr := fun h => hSf (W.sub _ h)
  have hsub : ∀ b ∈ wr, b ∈ S :: wr := fun b hb => List.mem_cons_of_mem _ hb
  have carry : ∀ {T : Int → Bool} {m : Nat} {s s' : Shared}, Moved wr G s s' → SetI prog w s.heap S T m led → SetI prog w s'.heap S T m led := fun hm x => x.at fun o ho => hm.heap S _ hSw ho
  intro k
  induction k with
  | zero =>
    intro i s hk hi hst hS hR
    have hin : i = ls.length := by omega
    refine codeAny_builtin PyProof.Rows.F.entry_set_update_loop ?_
    rw [Around.under_plainId PyProof.Rows.F.plain_set_update_loop _]
    show wpAny _ A.in1 (pyNext (.ref I) >>= _) _ _ s
    rw [hin] at hst hS
    rw [List.take_length] at hS
    refine wpAny_bind (W.done s _ _ hst fun s' hm => ?_)
    show wpAny _ A.in1 (ret Value.none) _ _ s'
    exact wpAny_pure (hR s' (hm.mono hsub) (carry hm hS))
  | succ k ih =>
    intro i s hk hi hst hS hR
    refine codeAny_builtin PyProof.Rows.F.entry_set_update_loop ?_
    rw [Around.under_plainId PyProof.Rows.F.plain_set_update_loop _]
    show wpAny _ A.in1 (pyNext (.ref I) >>= _) _ _ s
    refine wpAny_bind (W.item i s _ _ (by omega) hst fun v s' hP hst' hm => ?_)
    obtain ⟨x, t, hx, rfl⟩ := hval i v hP
    have hS' := carry hm hS
    show wpAny _ A.in1 (holding [Value.int x t] (setAdd S (.int x t)) >>= _) _ _ s'
    refine wpAny_bind (wpAny_holding ?_)
    unfold setAdd
    refine wpAny_holding ?_
    refine wpAny_bind ((intKind prog w).pyHash (k := x) (intKind_is _ _ _ _) ?_)
    have et : ls.take (i + 1) = ls.take i ++ [x] := by rw [List.take_succ, hx]; rfl
    have hnew : memI (ls.take i) x = false := by
      have hdt : (ls.take i ++ [x]).Nodup := by rw [← et]; exact hd.sublist (List.take_sublist _ _)
      unfold memI
      rw [List.any_eq_false]
      intro y hy z
      have hy2 : y = x := by simpa using z
      subst hy2
      exact (List.nodup_append.mp hdt).2.2 y hy y (by simp) rfl
    refine add_new (s := { s' with toks := s'.toks + 1 }) (intKind_is _ _ _ _) rfl hS' hnew (by omega) fun h' hsb hS2 => ?_
    have hSi : SetI prog w h' S (memI (ls.take (i + 1))) (i + 1) led := by
      refine hS2.re (fun y => ?_) rfl
      rw [et]
      unfold memI
      rw [List.any_append]
      by_cases e : y = x
      · subst e; simp
      · have e' : ¬ x = y := fun z => e z.symm
        simp [e, e']
    refine wpAny_pure ⟨plainId_quiet PyProof.Rows.F.plain_set_update_loop _, ih (i + 1) _ (by omega) (by omega) (W.frame _ s' _ _ hst' (Nat.le_succ _) fun b hb o e => ?_) hSi fun s'' hm'' hS'' => ?_⟩
    · rw [hsb.2 b (fun h : b = S => hSf (by rw [← h]; exact hb))]; exact e
    · refine hR s'' (Moved.trans W.gtrans ((hm.mono hsub).then_heap (Nat.le_succ _) fun b o hb e => ?_) hm'') hS''
      rw [hsb.2 b (fun h : b = S => hb (by rw [h]; exact List.mem_cons_self))]; exact e
end
section
variable {prog : Program} {w : World} {A : Around} {E : Value → Shared → Prop} {s : Shared}
def ledOf (w : World) : Bool := !w.params.followText "set-order"
def SetDoneI (prog : Program) (w : World) (s : Shared) (ls : List Int) (s₂ : Shared) : Prop := ∃ h' tk, s₂ = { s with heap := h', toks := tk } ∧ SetI prog w h' s.heap.objs.size (memI ls) ls.length (ledOf w) ∧ ∀ b o, s.heap.get? b = some o → h'.get? b = some o
theorem setI_fresh {h : Heap} {a : Addr} (led : Bool) (e : h.get? a = some (emptySet led)) : SetI prog w h a (memI []) 0 led :=
  ⟨_, #[], 0, _, e, ⟨rfl, rfl, rfl⟩, rfl, fun e he => by simp at he, fun k => by simp [memI], by decide, by rfl, rfl, ⟨List.Pairwise.nil, rfl, rfl⟩⟩
theorem init_setI {l : Addr} {items : Array Value} {ls : List Int} (hh : A.handled = none) (hd : ls.Nodup) (hl : s.heap.IsList l items) (hs : items.size = ls.length) (hi : ∀ (i : Nat) (v : Value), items[i]? = some v → ∃ x t, ls[i]? = some x ∧ v = .int x t) (hb : ls.length + 1 < scanBound) :
    wpAny (model prog w) A.in1.in1 (Builtin.«set.__init__» ⟨[.ref s.heap.objs.size, .ref l], []⟩)
      (fun fin s' => match fin with | .done f => wants (fun r s₂ => r = .none ∧ SetDoneI prog w s ls s₂) E (.ok f) s' | .again c' => c'.quiet = true ∧ codeAny (model prog w) A.in1 c' (wants (fun r s₂ => r = .none ∧ SetDoneI prog w s ls s₂) E) s')
      (fun e s' => wants (fun r s₂ => r = .none ∧ SetDoneI prog w s ls s₂) E (.error e) s') { s with heap := s.heap.push (emptySet (ledOf w)) } := by
  obtain ⟨⟨ocls, odict, odata, oslots⟩, hol, hcl, nl, hdl⟩ := id hl
  simp only at hcl hdl
  subst hcl; subst hdl
  have hlS : l < s.heap.objs.size := Heap.lt_size hol
  have hol' : (s.heap.push (emptySet (ledOf w))).get? l = some { cls := .type "list", dict := odict, data := .seq items nl, slots := oslots } := Heap.get?_push_of_some _ hol
  have hS : (s.heap.push (emptySet (ledOf w))).get? s.heap.objs.size = some (emptySet (ledOf w)) := Heap.get?_push_size _ rfl
  have hl1 : (s.heap.push (emptySet (ledOf w))).IsList l items := ⟨_, hol', rfl, nl, rfl⟩
  have hsls := PySem.F.sub_list_set
  have hslf := PySem.F.sub_list_frozenset
  have hne : (Value.type "list" == Value.type "dict") = false := by decide
  unfold Builtin.«set.__init__» noKeywords Builtin.Frozenset.updateFrom
  generalize hPI : pyIter = PI
  wp_walk
  subst hPI
  refine wpAny_pyIter_list hl1 ?_
  refine wpAny_bind (wpAny_runValue ?_)
  have hneI : l ≠ (s.heap.push (emptySet (ledOf w))).objs.size := by rw [Heap.size_push]; exact Nat.ne_of_lt (Nat.lt_succ_of_lt hlS)
  have hSf : s.heap.objs.size ∉ [(s.heap.push (emptySet (ledOf w))).objs.size, l] := by
    rw [Heap.size_push]
    simp only [List.mem_cons, List.not_mem_nil, or_false, not_or]
    exact ⟨Nat.ne_of_lt (Nat.lt_succ_self _), Nat.ne_of_gt hlS⟩
  have W := (Walks.list (prog := prog) (w := w) (A := A.in1.in1.in1) (by simp [hh]) _ l hneI items).toS
  rw [hs] at W
  refine loop_setI (led := ledOf w) W hSf hd hi hb (ls.length - 0) 0 _ (by omega) (Nat.zero_le _) ⟨⟨_, Heap.get?_push_size _ rfl, rfl, rfl⟩, (hl1.push _)⟩ ?_ fun s' hm hS' => ?_
  · exact setI_fresh _ (Heap.get?_push_of_some _ hS)
  · obtain ⟨h', g', d', tk', os'⟩ := s'
    have eg : g' = s.gens := hm.gens
    have ed : d' = s.drawn := hm.drawn
    have eo : os' = s.os := hm.os
    subst eg; subst ed; subst eo
    show wpAny _ _ _ _ _ _
    refine wpAny_pure ?_
    show wpAny _ _ (ret Value.none) _ _ _
    refine wpAny_pure ⟨rfl, h', tk', rfl, hS', fun b o e => ?_⟩
    have hb' := Heap.lt_size e
    refine hm.heap b o ?_ (Heap.get?_push_of_some _ (Heap.get?_push_of_some _ e))
    rw [Heap.size_push]
    simp only [List.mem_cons, List.not_mem_nil, or_false, not_or]
    exact ⟨Nat.ne_of_lt hb', Nat.ne_of_lt (Nat.lt_succ_of_lt hb')⟩
theorem new_setL (a : Value) {Q₁ : Value → Shared → Prop} (h : Q₁ (.ref s.heap.objs.size) { s with heap := s.heap.push (emptySet (ledOf w)) }) :
    codeAny (model prog w) A (.call (.builtin "set.__new__") ⟨[.type "set", a], []⟩) (wants Q₁ E) s := by
  refine codeAny_of_tree ?_
  show wpAny _ A.in1 (checkBuiltinCall "set.__new__" ⟨[.type "set", a], []⟩ >>= fun _ => again (.builtin "set.__new__" ⟨[.type "set", a], []⟩)) _ _ s
  refine wpAny_bind (wpAny_of_eq (PySem.F.newCall_set_1 a) (wpAny_pure ⟨plainId_quiet PySem.F.plain_set_new _, codeAny_builtin PySem.F.entry_set_new ?_⟩))
  rw [Around.under_plainId PySem.F.plain_set_new _]
  unfold Builtin.«set.__new__» Builtin.Frozenset.newClass
  have hsub := sub_set_self
  obtain ⟨hp, g, d, tk, os⟩ := s
  dsimp only at h ⊢
  wp_walk
  refine wpAny_askSetting (wpAny_pure ?_)
  dsimp only
  simp only [newObj]
  refine wpAny_bind (wpAny_alloc (wpAny_pure ?_))
  exact wpAny_pure h
theorem call_setI {l : Addr} {items : Array Value} {ls : List Int} {Q : Value → Shared → Prop} (hh : A.handled = none) (hd : ls.Nodup) (hl : s.heap.IsList l items) (hs : items.size = ls.length) (hi : ∀ (i : Nat) (v : Value), items[i]? = some v → ∃ x t, ls[i]? = some x ∧ v = .int x t) (hb : ls.length + 1 < scanBound)
    (h : ∀ s', SetDoneI prog w s ls s' → Q (.ref s.heap.objs.size) s') : wpAny (model prog w) A (call (.type "set") [.ref l]) Q E s := by
  have ft := PySem.F.called_set
  obtain ⟨c, tl, hmro⟩ := ft.mro
  have hmade := ft.made
  have hsub := ft.sub
  refine wpAny_call (codeAny_of_tree ?_)
  show wpAny _ _ (callAny (.type "set") _) _ _ _
  refine wpAny_pure ⟨Code.quiet_builtin _ (by decide +kernel), codeAny_builtin PySem.F.entry_type_call ?_⟩
  rw [Around.under_plain (weight_type_call_type "set" [.ref l] []) rfl]
  have h1 := ft.notType
  have h2 := ft.canCreate
  have hct := PySem.F.typeCall_set_1 (.ref l)
  repeat (any_goals (first | assumption | wp_step))
  refine codeAny_mono (new_setL (.ref l) (E := E) (Q₁ := fun obj s₁ => obj = .ref s.heap.objs.size ∧ s₁ = { s with heap := s.heap.push (emptySet (ledOf w)) }) ⟨rfl, rfl⟩) fun r s₁ hr => ?_
  cases r with
  | error e => exact hr
  | ok fl =>
    cases fl with
    | ret obj =>
      obtain ⟨rfl, rfl⟩ := hr
      have hS : (s.heap.push (emptySet (ledOf w))).get? s.heap.objs.size = some (emptySet (ledOf w)) := Heap.get?_push_size _ rfl
      have hT : Shared.TypeIs { s with heap := s.heap.push (emptySet (ledOf w)) } (.ref s.heap.objs.size) "set" := ⟨_, hS, rfl⟩
      have hli := ft.init.lookup
      have hbi := ft.init.bind (.ref s.heap.objs.size)
      repeat (any_goals (first | assumption | wp_step))
      refine codeAny_mono (codeAny_call_builtin ft.init.plain PySem.F.entry_set_init (check_set_init_1 hT (init_setI (E := E) hh hd hl hs hi hb))) fun r₂ s₂ hr₂ => ?_
      cases r₂ with
      | error e => exact hr₂
      | ok fl₂ =>
        cases fl₂ with
        | ret r =>
          obtain ⟨rfl, hd⟩ := hr₂
          repeat (any_goals (first | assumption | wp_step))
          exact h _ hd
        | _ => exact hr₂.elim
    | _ => exact hr.elim
end
end L2

set_option Elab.async false
set_option linter.all false
set_option maxRecDepth 100000
set_option maxHeartbeats 4000000
namespace L2
open PySem PySem.Spec PyProof.Rows
/-! ### a walk of a set of whole numbers -/
theorem erase_perm {α : Type} : ∀ {l : List α} {i : Nat} (h : i < l.length), (l[i] :: l.eraseIdx i).Perm l
  | a :: l, 0, h => .rfl
  | a :: l, i + 1, h => by
    have := erase_perm (l := l) (i := i) (by simpa using h)
    simp only [List.getElem_cons_succ, List.eraseIdx_cons_succ]
    exact (List.Perm.swap _ _ _).trans (this.cons a)
theorem pick_perm {α : Type} (next : Nat → Nat) : ∀ (fuel k : Nat) (left : List α) (out : Array α), left.length = fuel → (pickOrder.go next fuel k left out).toList.Perm (out.toList ++ left)
  | 0, k, left, out, h => by
    have : left = [] := List.length_eq_zero_iff.mp h
    subst this
    simp [pickOrder.go]
  | fuel + 1, k, left, out, h => by
    have hlt : next k % left.length < left.length := Nat.mod_lt _ (by omega)
    unfold pickOrder.go
    rw [List.getElem?_eq_getElem hlt]
    simp only
    refine (pick_perm next fuel (k + 1) _ _ (by rw [List.length_eraseIdx]; simp [hlt]; omega)).trans ?_
    rw [Array.toList_push, List.append_assoc]
    exact List.Perm.append_left _ (erase_perm hlt)
theorem pickOrder_perm {α : Type} (next : Nat → Nat) (xs : Array α) : (pickOrder next xs).toList.Perm xs.toList := by
  unfold pickOrder
  simpa using pick_perm next xs.size 0 xs.toList #[] (by simp)
section
variable {prog : Program} {w : World} {A : Around} {E : Value → Shared → Prop} {s : Shared}
theorem wpAny_choose {src : Source} {n : Nat} {Q : Nat → Shared → Prop} (hn : n ≠ 0) (h : ∀ k dr, k < n → Q k { s with drawn := dr }) : wpAny (model prog w) A (choose src n) Q E s := fun Γ p hΓ =>
  ⟨hn, h _ _ (Nat.mod_lt _ (Nat.pos_of_ne_zero hn))⟩
theorem wp_drawOrder {α : Type} : ∀ (n : Nat) (xs : List α) (s : Shared) (Q : List α → Shared → Prop), xs.length = n → (∀ ys dr, ys.Perm xs → Q ys { s with drawn := dr }) → wpAny (model prog w) A (drawOrder n xs) Q E s
  | 0, xs, s, Q, hl, h => by
    have : xs = [] := List.length_eq_zero_iff.mp hl
    subst this
    unfold drawOrder
    exact wpAny_pure (h [] s.drawn .rfl)
  | n + 1, [], s, Q, hl, h => by cases hl
  | n + 1, x :: xs, s, Q, hl, h => by
    unfold drawOrder
    refine wpAny_bind (wpAny_choose (by simp) fun k dr hk => ?_)
    rw [List.getElem?_eq_getElem hk]
    simp only
    refine wpAny_bind (wp_drawOrder n _ _ _ (by rw [List.length_eraseIdx]; simp only [hk, ↓reduceIte]; omega) fun ys dr' hp => ?_)
    exact wpAny_pure (h _ _ ((List.Perm.cons _ hp).trans (erase_perm hk)))
def setIt (x : Value) (i : Nat) (a : Addr) (n ep : Nat) : Obj := { cls := .type "set_iterator", dict := none, data := .fields #[x, .int i 0, .ref a, .int n 0, .int ep 0], slots := #[] }
theorem slot_sit_next : Slot "set_iterator" "__next__" "set_iterator.__next__" :=
  .of (owner := "set_iterator") (n := "__next__") (by rw [typeLookup_type, builtinLookup_eq_fast]; kernel_rfl) (by decide +kernel) (by decide +kernel) (by decide +kernel) (by first | exact .inl (by decide +kernel) | exact .inr (by decide +kernel)) (by rw [isSubtype_type]; kernel_rfl)
theorem slot_sit_iter : Slot "set_iterator" "__iter__" "set_iterator.__iter__" :=
  .of (owner := "set_iterator") (n := "__iter__") (by rw [typeLookup_type, builtinLookup_eq_fast]; kernel_rfl) (by decide +kernel) (by decide +kernel) (by decide +kernel) (by first | exact .inl (by decide +kernel) | exact .inr (by decide +kernel)) (by rw [isSubtype_type]; kernel_rfl)
theorem entry_sit_next : entryFor table "set_iterator.__next__" = some Builtin.«set_iterator.__next__» := entryFor_of_tree (by kernel_rfl)
theorem entry_sit : entryFor table "set.__iter__" = some Builtin.«frozenset.__iter__» := entryFor_alias (id' := "frozenset.__iter__") (by kernel_rfl) rfl (by decide +kernel) (by kernel_rfl)
theorem owner_sit : Manifest.owners.lookup (String.ofList ['r', 'o', 't', 'a', 'r', 'e', 't', 'i', '_', 't', 'e', 's'].reverse) = some Manifest.sig_set_iterator := by kernel_rfl
theorem args_sit_next (a : Value) : argsOk "set_iterator.__next__" ⟨[a], []⟩ := by
  unfold argsOk
  rw [signature?_of (id := "set_iterator.__next__") (n := ['_', '_', 't', 'x', 'e', 'n', '_', '_']) (o := ['r', 'o', 't', 'a', 'r', 'e', 't', 'i', '_', 't', 'e', 's']) (by kernel_rfl) owner_sit]
  kernel_rfl
theorem args_sit_iter (a : Value) : argsOk "set_iterator.__iter__" ⟨[a], []⟩ := by
  unfold argsOk
  rw [signature?_of (id := "set_iterator.__iter__") (n := ['_', '_', 'r', 'e', 't', 'i', '_', '_']) (o := ['r', 'o', 't', 'a', 'r', 'e', 't', 'i', '_', 't', 'e', 's']) (by kernel_rfl) owner_sit]
  kernel_rfl
theorem entry_sit_iter : entryFor table "set_iterator.__iter__" = some Builtin.«dict_keyiterator.__iter__» := entryFor_alias (id' := "dict_keyiterator.__iter__") (by kernel_rfl) rfl (by decide +kernel) (by kernel_rfl)
theorem sit_self {it : Addr} {x : Value} {i : Nat} {a : Addr} {n ep : Nat} {Q : Value → Shared → Prop} (hit : s.heap.get? it = some (setIt x i a n ep)) (h : Q (.ref it) s) : wpAny (model prog w) A (pyIter (.ref it)) Q E s := by
  have hT : s.TypeIs (.ref it) "set_iterator" := ⟨_, hit, rfl⟩
  refine wpAny_pyIter_slot hT slot_sit_iter (wpAny_call_entry slot_sit_iter hT entry_sit_iter ?_ (args_sit_iter _))
  show wpAny _ _ (ret (.ref it)) _ _ s
  exact wpAny_pure ⟨_, rfl, "set_iterator", _, hT, slot_sit_next.lookup, h⟩
/-- the next item, where the iterator looks by the table or by the text's own order -/
theorem sit_item {it a : Addr} {f i n ep : Nat} {o : Obj} {es : Array (Int × Value)} {t : SetTable} {x : Value} {f' : Nat} {Q : Option Value → Shared → Prop} (hit : s.heap.get? it = some (setIt (.int f 0) i a n ep)) (ho : s.heap.get? a = some o) (hd : o.data = .set es ep t) (hf : t.fits es.size = true) (hn : es.size = n)
    (hN : ∀ A E (Q : Option (Value × Nat) → Shared → Prop), Q (some (x, f')) s → wpAny (model prog w) A (setNext a f i ep) Q E s)
    (h : ∀ h', h'.get? it = some (setIt (.int f' 0) (i + 1) a n ep) → Heap.SameBut it s.heap h' → Q (some x) { s with heap := h' }) : wpAny (model prog w) A (pyNext (.ref it)) Q E s := by
  have hT : s.TypeIs (.ref it) "set_iterator" := ⟨_, hit, rfl⟩
  unfold pyNext
  refine wpAny_bind (wpAny_attempt (wpAny_callSpecial?_slot (name := Str.ofString "__next__") hT slot_sit_next (wpAny_call_entry slot_sit_next hT entry_sit_next ?_ (args_sit_next _))))
  unfold Builtin.«set_iterator.__next__»
  refine wpAny_bind (wpAny_pure ?_)
  refine wpAny_bind (wpAny_fieldsOf hit rfl ?_)
  simp only
  refine wpAny_bind (wpAny_setEntries_of ho hd hf ?_)
  rw [hn]
  simp only [bne_self_eq_false, Bool.false_eq_true, ↓reduceIte, Int.toNat_natCast]
  refine wpAny_bind (hN _ _ _ ?_)
  simp only
  refine wpAny_bind (wpAny_setField_rec hit (show 0 < 5 by decide) fun h1 e1 b1 => ?_)
  refine wpAny_bind (wpAny_setField_rec (s := { s with heap := h1 }) e1 (show 1 < 5 by decide) fun h2 e2 b2 => ?_)
  refine wpAny_pure ⟨_, rfl, wpAny_pure (h h2 ?_ (b1.trans b2))⟩
  exact e2
/-- the iterator's end: StopIteration, which pyNext takes -/
theorem sit_stop {β : Type} {it : Addr} {vs : Array Value} {Q' : β → Shared → Prop} {E' : Value → Shared → Prop} {o : Obj} (hh : A.handled = none) (hit : s.heap.get? it = some o) (hd : o.data = .fields vs) (hk : 2 < vs.size)
    (h : ∀ ea h', Heap.ExtBut it s.heap h' → Shared.TypeIs { s with heap := h' } (.ref ea) "StopIteration" → E' (.ref ea) { s with heap := h' }) :
    wpAny (model prog w) A.in1 (setField (.ref it) 2 .none >>= fun _ => newExc (.type "StopIteration") [] >>= fun e => (raiseNew e : Sem β)) Q' E' s := by
  refine wpAny_bind (wpAny_setField hit hd hk ?_)
  refine wpAny_bind ?_
  simp only [newExc, newTuple]
  refine wpAny_bind (wpAny_newObj_type ?_ (by size_fits))
  refine wpAny_bind (m := firstArgMember _ _) (wpAny_of_eq (a := Value.none) (by first | rfl | (simp only [firstArgMember]; rfl)) ?_)
  refine wpAny_newObj_type ?_ (by size_fits)
  simp only [raiseNew]
  refine wpAny_bind (wpAny_handled ?_)
  rw [show A.in1.handled = none from hh]
  refine wpAny_bind (wpAny_pure (wpAny_throw ?_))
  exact h _ _ (((Heap.SameBut.update ..).extBut.push _).push _) ⟨_, Heap.get?_push_size _ rfl, rfl⟩
theorem sit_end {it a : Addr} {f i n ep : Nat} {o : Obj} {es : Array (Int × Value)} {t : SetTable} {Q : Option Value → Shared → Prop} (hh : A.handled = none) (hit : s.heap.get? it = some (setIt (.int f 0) i a n ep)) (ho : s.heap.get? a = some o) (hd : o.data = .set es ep t) (hf : t.fits es.size = true) (hn : es.size = n)
    (hN : ∀ A E (Q : Option (Value × Nat) → Shared → Prop), Q none s → wpAny (model prog w) A (setNext a f i ep) Q E s)
    (h : ∀ h', Heap.ExtBut it s.heap h' → Q none { s with heap := h' }) : wpAny (model prog w) A (pyNext (.ref it)) Q E s := by
  have hT : s.TypeIs (.ref it) "set_iterator" := ⟨_, hit, rfl⟩
  unfold pyNext
  refine wpAny_bind (wpAny_attempt (wpAny_callSpecial?_slot (name := Str.ofString "__next__") hT slot_sit_next (wpAny_call_entry slot_sit_next hT entry_sit_next ?_ (args_sit_next _))))
  unfold Builtin.«set_iterator.__next__»
  refine wpAny_bind (wpAny_pure ?_)
  refine wpAny_bind (wpAny_fieldsOf hit rfl ?_)
  simp only
  refine wpAny_bind (wpAny_setEntries_of ho hd hf ?_)
  rw [hn]
  simp only [bne_self_eq_false, Bool.false_eq_true, ↓reduceIte, Int.toNat_natCast]
  refine wpAny_bind (hN _ _ _ ?_)
  simp only
  refine sit_stop hh hit rfl (show 2 < 5 by decide) fun ea h' x hT' => ?_
  refine wpAny_bind (wpAny_isInstance (T := "StopIteration") (b := true) hT' isSubtype_stop ?_)
  exact wpAny_pure (h _ x)
end
end L2

set_option Elab.async false
set_option linter.all false
set_option maxRecDepth 100000
set_option maxHeartbeats 4000000
namespace L2
open PySem PySem.Spec PyProof.Rows
section
variable {prog : Program} {w : World} {A : Around} {E : Value → Shared → Prop} {s : Shared}
def atF (t : SetTable) : Nat → Nat
  | 0 => 0
  | i + 1 => t.place.getD i 0 + 1
theorem atF_below {t : SetTable} (hr : Ris t.place.toList) {i : Nat} (hi : i ≤ t.place.size) : SetTable.below t.place (atF t i) = i := by
  cases i with
  | zero => exact below_zero hr
  | succ i =>
    have h : i < t.place.size := by omega
    have : t.place[i]? = some (t.place.getD i 0) := by simp [Array.getD, h]
    exact below_next hr this
theorem next_led {a : Addr} {i ep : Nat} {o : Obj} {es : Array (Int × Value)} {t : SetTable} {Q : Option (Value × Nat) → Shared → Prop} (ho : s.heap.get? a = some o) (hd : o.data = .set es ep t) (hf : t.fits es.size = true) (ok : TabOk true t) (hb : w.params.followText "set-order" = false) (hp : (!t.plain && decide (es.size > 1)) = false) (hi : i ≤ es.size)
    (h : Q (es[i]?.map fun e => (e.2, atF t (i + 1))) s) : wpAny (model prog w) A (setNext a (atF t i) i ep) Q E s := by
  have hsz : t.place.size = es.size := by
    have := hf
    simp only [SetTable.fits, Bool.and_eq_true, beq_iff_eq] at this
    exact this.1
  unfold setNext
  refine wpAny_bind (wpAny_setState_of ho hd hf ?_)
  simp only
  unfold setsByText
  refine wpAny_bind (wpAny_bind (wpAny_askSetting (wpAny_pure ?_)))
  show wpAny _ _ (if w.params.followText "set-order" = true then _ else _) _ _ _
  rw [hb, if_neg Bool.false_ne_true]
  show wpAny _ _ (if (!t.plain && decide (es.size > 1)) = true then _ else _) _ _ _
  rw [hp, if_neg Bool.false_ne_true]
  refine wpAny_bind ?_
  show wpAny _ _ (if (!t.led && !es.isEmpty) = true then _ else _) _ _ _
  rw [ok.led, if_neg (by simp)]
  refine wpAny_pure ?_
  simp only [atF_below ok.ris (show i ≤ t.place.size by omega)]
  by_cases hlt : i < es.size
  · have e1 : es[i]? = some es[i] := by simp [hlt]
    have e2 : t.place[i]? = some t.place[i] := by simp [show i < t.place.size by omega]
    have e3 : t.place.getD i 0 = t.place[i] := by simp [Array.getD, show i < t.place.size by omega]
    rw [e1] at h
    rw [e1, e2]
    have e4 : atF t (i + 1) = t.place[i] + 1 := by show t.place.getD i 0 + 1 = _; rw [e3]
    rw [e4] at h
    exact wpAny_pure h
  · rw [Array.getElem?_eq_none (by omega)] at h
    rw [Array.getElem?_eq_none (by omega)]
    exact wpAny_pure h
theorem next_txt {a : Addr} {i ep : Nat} {o : Obj} {es : Array (Int × Value)} {t : SetTable} {Q : Option (Value × Nat) → Shared → Prop} (ho : s.heap.get? a = some o) (hd : o.data = .set es ep t) (hf : t.fits es.size = true) (hb : w.params.followText "set-order" = true)
    (h : Q ((pickOrder (w.params.setOrder a ep) es)[i]?.map fun e => (e.2, 0)) s) : wpAny (model prog w) A (setNext a 0 i ep) Q E s := by
  unfold setNext
  refine wpAny_bind (wpAny_setState_of ho hd hf ?_)
  simp only
  unfold setsByText
  refine wpAny_bind (wpAny_bind (wpAny_askSetting (wpAny_pure ?_)))
  show wpAny _ _ (if w.params.followText "set-order" = true then _ else _) _ _ _
  rw [hb, if_pos rfl]
  rw [if_neg (by simp)]
  unfold setWalk
  refine wpAny_bind (wpAny_bind (wpAny_setState_of ho hd hf ?_))
  simp only
  unfold setsByText
  refine wpAny_bind (wpAny_bind (wpAny_askSetting (wpAny_pure ?_)))
  show wpAny _ _ (if w.params.followText "set-order" = true then _ else _) _ _ _
  rw [hb, if_pos rfl]
  refine wpAny_bind (wpAny_askSetting ?_)
  exact wpAny_pure (wpAny_pure h)
def tupI (ps : List Nat) : Obj := { cls := .type "tuple", dict := none, data := .seq (ps.map fun (i : Nat) => rawInt i).toArray 0, slots := #[] }
theorem sit_itemD {it a T : Addr} {ps : List Nat} {i p n ep : Nat} {o : Obj} {es : Array (Int × Value)} {t : SetTable} {e : Int × Value} {Q : Option Value → Shared → Prop} (hit : s.heap.get? it = some (setIt (.ref T) i a n ep)) (hT0 : s.heap.get? T = some (tupI ps)) (ho : s.heap.get? a = some o) (hd : o.data = .set es ep t) (hf : t.fits es.size = true) (hn : es.size = n)
    (hp : ps[i]? = some p) (he : es[p]? = some e)
    (h : ∀ h', h'.get? it = some (setIt (.ref T) (i + 1) a n ep) → Heap.SameBut it s.heap h' → Q (some e.2) { s with heap := h' }) : wpAny (model prog w) A (pyNext (.ref it)) Q E s := by
  have hT : s.TypeIs (.ref it) "set_iterator" := ⟨_, hit, rfl⟩
  unfold pyNext
  refine wpAny_bind (wpAny_attempt (wpAny_callSpecial?_slot (name := Str.ofString "__next__") hT slot_sit_next (wpAny_call_entry slot_sit_next hT entry_sit_next ?_ (args_sit_next _))))
  unfold Builtin.«set_iterator.__next__»
  refine wpAny_bind (wpAny_pure ?_)
  refine wpAny_bind (wpAny_fieldsOf hit rfl ?_)
  simp only
  refine wpAny_bind (wpAny_setEntries_of ho hd hf ?_)
  rw [hn]
  simp only [bne_self_eq_false, Bool.false_eq_true, ↓reduceIte, Int.toNat_natCast]
  refine wpAny_bind (wpAny_seqItems hT0 rfl ?_)
  have hg : (ps.map fun (i : Nat) => rawInt i).toArray[i]? = some (rawInt p) := by simp [hp]
  simp only
  rw [hg]
  simp only [rawInt, Int.toNat_natCast]
  unfold setNextDrawn
  refine wpAny_bind (wpAny_bind (wpAny_setState_of ho hd hf ?_))
  simp only [bne_self_eq_false, Bool.false_eq_true, ↓reduceIte, he]
  refine wpAny_pure ?_
  refine wpAny_bind (wpAny_setField_rec hit (show 1 < 5 by decide) fun h2 e2 b2 => ?_)
  refine wpAny_pure ⟨_, rfl, wpAny_pure (h h2 ?_ b2)⟩
  exact e2
theorem sit_endD {it a T : Addr} {ps : List Nat} {i n ep : Nat} {o : Obj} {es : Array (Int × Value)} {t : SetTable} {Q : Option Value → Shared → Prop} (hh : A.handled = none) (hit : s.heap.get? it = some (setIt (.ref T) i a n ep)) (hT0 : s.heap.get? T = some (tupI ps)) (ho : s.heap.get? a = some o) (hd : o.data = .set es ep t) (hf : t.fits es.size = true) (hn : es.size = n)
    (hp : ps[i]? = none) (h : ∀ h', Heap.ExtBut it s.heap h' → Q none { s with heap := h' }) : wpAny (model prog w) A (pyNext (.ref it)) Q E s := by
  have hT : s.TypeIs (.ref it) "set_iterator" := ⟨_, hit, rfl⟩
  unfold pyNext
  refine wpAny_bind (wpAny_attempt (wpAny_callSpecial?_slot (name := Str.ofString "__next__") hT slot_sit_next (wpAny_call_entry slot_sit_next hT entry_sit_next ?_ (args_sit_next _))))
  unfold Builtin.«set_iterator.__next__»
  refine wpAny_bind (wpAny_pure ?_)
  refine wpAny_bind (wpAny_fieldsOf hit rfl ?_)
  simp only
  refine wpAny_bind (wpAny_setEntries_of ho hd hf ?_)
  rw [hn]
  simp only [bne_self_eq_false, Bool.false_eq_true, ↓reduceIte, Int.toNat_natCast]
  refine wpAny_bind (wpAny_seqItems hT0 rfl ?_)
  have hg : (ps.map fun (i : Nat) => rawInt i).toArray[i]? = none := by simpa using hp
  simp only
  rw [hg]
  simp only
  refine wpAny_bind (wpAny_setField_rec hit (show 0 < 5 by decide) fun h1 e1 b1 => ?_)
  refine sit_stop hh e1 rfl (show 2 < 5 by decide) fun ea h' x hT' => ?_
  refine wpAny_bind (wpAny_isInstance (T := "StopIteration") (b := true) hT' isSubtype_stop ?_)
  exact wpAny_pure (h _ fun b o hb e => x b o hb (b1.extBut b o hb e))
end
end L2

set_option Elab.async false
set_option linter.all false
set_option maxRecDepth 100000
set_option maxHeartbeats 4000000
namespace L2
open PySem PySem.Spec PyProof.Rows
section
variable {prog : Program} {w : World} {A : Around} {E : Value → Shared → Prop} {s : Shared}
/-- a walk of the set at a, in the order `ord` -/
theorem walks_set {a : Addr} {o : Obj} {es : Array (Int × Value)} {ep : Nat} {t : SetTable} (hh : A.handled = none) (I : Addr) (hne : a ≠ I) (hd : o.data = .set es ep t) (hf : t.fits es.size = true) (F : Nat → Nat) (ord : Array Value) (hl : ord.size = es.size)
    (hN : ∀ i (s : Shared) A E (Q : Option (Value × Nat) → Shared → Prop), i ≤ es.size → s.heap.get? a = some o → Q (ord[i]?.map fun v => (v, F (i + 1))) s → wpAny (model prog w) A (setNext a (F i) i ep) Q E s) :
    Walks prog w A I [I, a] [I] ord.size (fun i v => ord[i]? = some v) (fun i h => h.get? I = some (setIt (.int (F i) 0) i a es.size ep) ∧ h.get? a = some o) where
  sub := fun b hb => by simp at hb; simp [hb]
  frame := fun _ _ _ st hk => ⟨hk I (by simp) _ st.1, hk a (by simp) _ st.2⟩
  item := fun i s Q E hi st hQ => by
    have hx : ord[i]? = some ord[i] := by simp [hi]
    refine sit_item (x := ord[i]) (f' := F (i + 1)) st.1 st.2 hd hf rfl (fun A E Q q => hN i s A E Q (by omega) st.2 (by rw [hx]; exact q)) fun h' e' b' => ?_
    exact hQ _ h' s.toks hx ⟨e', b'.extBut a o hne st.2⟩ fun b o' hb e => b'.extBut b o' (fun z => hb (by simp [z])) e
  done := fun s Q E st hQ => by
    refine sit_end hh st.1 st.2 hd hf rfl (fun A E Q q => hN ord.size s A E Q (by omega) st.2 (by simpa using q)) fun h' e' => ?_
    exact hQ h' s.toks fun b o' hb e => e' b o' (fun z => hb (by simp [z])) e
  self := fun _ _ _ _ st hQ => sit_self st.1 hQ
theorem walks_setD {a T : Addr} {o : Obj} {es : Array (Int × Value)} {ep : Nat} {t : SetTable} (hh : A.handled = none) (I : Addr) (hne : a ≠ I) (hT : T ≠ I) (hd : o.data = .set es ep t) (hf : t.fits es.size = true) (ps : List Nat) (ord : Array Value) (hl : ord.size = es.size) (hps : ps.length = es.size)
    (hN : ∀ (i p : Nat), ps[i]? = some p → ∃ e, es[p]? = some e ∧ ord[i]? = some e.2) :
    Walks prog w A I [I, a, T] [I] ord.size (fun i v => ord[i]? = some v) (fun i h => h.get? I = some (setIt (.ref T) i a es.size ep) ∧ h.get? a = some o ∧ h.get? T = some (tupI ps)) where
  sub := fun b hb => by simp at hb; simp [hb]
  frame := fun _ _ _ st hk => ⟨hk I (by simp) _ st.1, hk a (by simp) _ st.2.1, hk T (by simp) _ st.2.2⟩
  item := fun i s Q E hi st hQ => by
    have hp : ps[i]? = some ps[i] := by simp [show i < ps.length by omega]
    obtain ⟨e, he, hx⟩ := hN i _ hp
    refine sit_itemD st.1 st.2.2 st.2.1 hd hf rfl hp he fun h' e' b' => ?_
    exact hQ _ h' s.toks hx ⟨e', b'.extBut a o hne st.2.1, b'.extBut T _ hT st.2.2⟩ fun b o' hb e => b'.extBut b o' (fun z => hb (by simp [z])) e
  done := fun s Q E st hQ => by
    refine sit_endD hh st.1 st.2.2 st.2.1 hd hf rfl (by simp; omega) fun h' e' => ?_
    exact hQ h' s.toks fun b o' hb e => e' b o' (fun z => hb (by simp [z])) e
  self := fun _ _ _ _ st hQ => sit_self st.1 hQ
/-- iter(set): some walk of all its items -/
theorem iter_set {a : Addr} {o : Obj} {es : Array (Int × Value)} {ep : Nat} {t : SetTable} {Q : Value → Shared → Prop} (hh : A.handled = none) (ho : s.heap.get? a = some o) (hex : o.ExactSet) (hd : o.data = .set es ep t) (hf : t.fits es.size = true) (ok : TabOk (ledOf w) t)
    (hz : es.size ≤ sizeLine)
    (h : ∀ (I : Addr) (h1 : Heap) (dr : Drawn) (fp : List Addr) (ord : Array Value) (St : Nat → Heap → Prop), (∀ b o, s.heap.get? b = some o → h1.get? b = some o) → s.heap.objs.size ≤ I → (∀ b ∈ fp, b < h1.objs.size ∧ (b = a ∨ s.heap.objs.size ≤ b)) → ord.toList.Perm (es.toList.map (·.2)) →
      Walks prog w A I fp [I] ord.size (fun i v => ord[i]? = some v) St → St 0 h1 → Q (.ref I) { s with heap := h1, drawn := dr }) : wpAny (model prog w) A (pyIter (.ref a)) Q E s := by
  have hT : s.TypeIs (.ref a) "set" := ⟨o, ho, hex.1⟩
  have hlt := Heap.lt_size ho
  refine wpAny_pyIter_slot hT PySem.F.slot_set_iter (wpAny_call_entry PySem.F.slot_set_iter hT entry_sit ?_ (PySem.F.args_set_iter_1 _))
  unfold Builtin.«frozenset.__iter__» Builtin.Frozenset.slot0 slotArgs
  simp only [List.isEmpty_nil, Bool.not_true, Bool.false_eq_true, ↓reduceIte, bind_assoc, List.length_nil, bne_self_eq_false]
  unfold Builtin.Frozenset.addrOf Builtin.Frozenset.sizeOf
  refine wpAny_bind (wpAny_pure ?_)
  try dsimp only
  refine wpAny_bind (wpAny_pure ?_)
  refine wpAny_bind (wpAny_bind (wpAny_setEntries_of ho hd hf (wpAny_pure ?_)))
  unfold setDrawn
  refine wpAny_bind (wpAny_bind (wpAny_setState_of ho hd hf ?_))
  simp only
  unfold setsByText
  refine wpAny_bind (wpAny_bind (wpAny_askSetting (wpAny_pure ?_)))
  refine wpAny_pure ?_
  show wpAny _ _ (if (!w.params.followText "set-order" && (!t.plain && decide (es.size > 1))) = true then _ else _) _ _ s
  by_cases hc : (!w.params.followText "set-order" && (!t.plain && decide (es.size > 1))) = true
  · rw [if_pos hc]
    refine wpAny_bind (wp_drawOrder es.size _ _ _ (by simp) fun ps dr hp => ?_)
    simp only [newTuple, newFields]
    refine wpAny_bind (wpAny_newObj_type ?_ (by
      show (ps.map fun (i : Nat) => rawInt i).toArray.size ≤ sizeLine
      have := hp.length_eq
      simp at this ⊢
      omega))
    have ho1 := Heap.get?_push_of_some (tupI ps) ho
    refine wpAny_bind (wpAny_setEpoch_of (s := { s with heap := s.heap.push (tupI ps), drawn := dr }) ho1 hd hf ?_)
    refine wpAny_bind (wpAny_newObj_type ?_ (by size_fits))
    have hoI : ((s.heap.push (tupI ps)).push (setIt (.ref s.heap.objs.size) 0 a es.size ep)).get? (s.heap.push (tupI ps)).objs.size = some (setIt (.ref s.heap.objs.size) 0 a es.size ep) := Heap.get?_push_size _ rfl
    refine wpAny_pure ⟨_, rfl, "set_iterator", _, ⟨_, hoI, rfl⟩, slot_sit_next.lookup, ?_⟩
    have hsz : (s.heap.push (tupI ps)).objs.size = s.heap.objs.size + 1 := Heap.size_push _ _
    have hlen : ps.length = es.size := by simpa using hp.length_eq
    refine h _ ((s.heap.push (tupI ps)).push (setIt (.ref s.heap.objs.size) 0 a es.size ep)) dr [(s.heap.push (tupI ps)).objs.size, a, s.heap.objs.size] (ps.map fun p => ((es[p]?).map (·.2)).getD .none).toArray _ (fun b o e => Heap.get?_push_of_some _ (Heap.get?_push_of_some _ e)) (by show s.heap.objs.size ≤ (s.heap.push (tupI ps)).objs.size; rw [hsz]; exact Nat.le_succ _) (fun b hb => ?_) ?_
      (walks_setD hh _ (by show a ≠ (s.heap.push (tupI ps)).objs.size; rw [hsz]; exact Nat.ne_of_lt (Nat.lt_succ_of_lt hlt)) (by show s.heap.objs.size ≠ (s.heap.push (tupI ps)).objs.size; rw [hsz]; exact Nat.ne_of_lt (Nat.lt_succ_self _)) hd hf ps _ (by simpa using hlen) hlen fun i p hip => ?_) ⟨hoI, Heap.get?_push_of_some _ ho1, Heap.get?_push_of_some _ (Heap.get?_push_size _ rfl)⟩
    · have hs2 : ((s.heap.push (tupI ps)).push (setIt (.ref s.heap.objs.size) 0 a es.size ep)).objs.size = s.heap.objs.size + 2 := by rw [Heap.size_push, hsz]
      rw [hs2]
      simp only [List.mem_cons, List.not_mem_nil, or_false] at hb
      rcases hb with rfl | rfl | rfl
      · rw [hsz]; exact ⟨Nat.lt_succ_self _, .inr (Nat.le_succ _)⟩
      · exact ⟨Nat.lt_succ_of_lt (Nat.lt_succ_of_lt hlt), .inl rfl⟩
      · exact ⟨Nat.lt_succ_of_lt (Nat.lt_succ_self _), .inr (Nat.le_refl _)⟩
    · refine (hp.map _).trans (List.Perm.of_eq ?_)
      refine List.ext_getElem (by simp) fun i h1 h2 => ?_
      have hi : i < es.size := by simpa using h1
      simp [hi]
    · have hm : p < es.size := by simpa using hp.mem_iff.mp (List.mem_of_getElem? hip)
      exact ⟨es[p], by simp [hm], by simp [hip, hm]⟩
  · rw [if_neg hc]
    simp only [newFields]
    refine wpAny_bind (wpAny_pure ?_)
    refine wpAny_bind (wpAny_setEpoch_of ho hd hf ?_)
    refine wpAny_bind (wpAny_newObj_type ?_ (by size_fits))
    have hoI : (s.heap.push (setIt (.int 0 0) 0 a es.size ep)).get? s.heap.objs.size = some (setIt (.int 0 0) 0 a es.size ep) := Heap.get?_push_size _ rfl
    have ho1 := Heap.get?_push_of_some (setIt (.int 0 0) 0 a es.size ep) ho
    refine wpAny_pure ⟨_, rfl, "set_iterator", _, ⟨_, hoI, rfl⟩, slot_sit_next.lookup, ?_⟩
    have hfp : ∀ b ∈ [s.heap.objs.size, a], b < (s.heap.push (setIt (.int 0 0) 0 a es.size ep)).objs.size ∧ (b = a ∨ s.heap.objs.size ≤ b) := fun b hb => by
      rw [Heap.size_push]
      simp only [List.mem_cons, List.not_mem_nil, or_false] at hb
      rcases hb with rfl | rfl
      · exact ⟨Nat.lt_succ_self _, .inr (Nat.le_refl _)⟩
      · exact ⟨Nat.lt_succ_of_lt hlt, .inl rfl⟩
    cases hb : w.params.followText "set-order" with
    | true =>
      refine h _ _ s.drawn [s.heap.objs.size, a] ((pickOrder (w.params.setOrder a ep) es).map (·.2)) _ (fun b o e => Heap.get?_push_of_some _ e) (Nat.le_refl _) hfp ?_
        (walks_set hh _ (Nat.ne_of_lt hlt) hd hf (fun _ => 0) _ ?_ fun i s1 A1 E1 Q1 hi e1 q1 => ?_) ⟨hoI, ho1⟩
      · rw [Array.toList_map]
        exact (pickOrder_perm _ es).map _
      · have := (pickOrder_perm (w.params.setOrder a ep) es).length_eq
        simpa using this
      · refine next_txt e1 hd hf hb ?_
        simpa [Array.getElem?_map, Option.map_map, Function.comp_def] using q1
    | false =>
      have hpl : (!t.plain && decide (es.size > 1)) = false := by rw [hb] at hc; simpa using hc
      have okT : TabOk true t := ⟨ok.ris, ok.dum, by rw [ok.led, ledOf, hb]; rfl⟩
      refine h _ _ s.drawn [s.heap.objs.size, a] (es.map (·.2)) _ (fun b o e => Heap.get?_push_of_some _ e) (Nat.le_refl _) hfp ?_
        (walks_set hh _ (Nat.ne_of_lt hlt) hd hf (atF t) _ (by simp) fun i s1 A1 E1 Q1 hi e1 q1 => ?_) ⟨hoI, ho1⟩
      · rw [Array.toList_map]
      · refine next_led e1 hd hf okT hb hpl hi ?_
        simpa [Array.getElem?_map, Option.map_map, Function.comp_def] using q1
end
end L2

set_option Elab.async false
set_option linter.all false
set_option maxRecDepth 100000
set_option maxHeartbeats 4000000
namespace L2
open PySem PySem.Spec PyProof.Rows
section
variable {prog : Program} {w : World} {A : Around} {E : Value → Shared → Prop} {s : Shared}
theorem hint_set {r : Addr} {Q : Bool → Shared → Prop} (hT : s.TypeIs (.ref r) "set") (h : Q false s) : wpAny (model prog w) A (Builtin.List.listLengthHint (.ref r)) Q E s := by
  unfold Builtin.List.listLengthHint
  refine wpAny_bind (wpAny_specialOf hT PySem.F.slot_set_len.lookup ?_)
  generalize hid : ("set.__len__" : String) = idS
  wp_delta
  rw [show splitId idS = some ("set", "__len__") from by subst hid; decide +kernel]
  subst hid
  refine wpAny_bind (wpAny_isInstance (T := "set") (b := true) hT (by rw [isSubtype_type]; kernel_rfl) ?_)
  refine wpAny_ite_split (fun z => absurd z (by decide)) (fun _ => ?_)
  refine wpAny_ite_split (fun _ => ?_) (fun z => absurd (by decide +kernel) z)
  exact wpAny_bind (wpAny_typeOf hT (wpAny_pure h))
theorem items_all {ord acc : Array Value} (h : ItemsOf (fun i v => ord[i]? = some v) acc ord.size) : acc.toList = ord.toList := by
  refine List.ext_getElem? fun i => ?_
  rw [Array.getElem?_toList, Array.getElem?_toList]
  have hsz : acc.size = ord.size := h.1
  by_cases hi : i < acc.size
  · have e : acc[i]? = some acc[i] := by simp [hi]
    rw [e]
    exact (h.2 i _ e).symm
  · rw [Array.getElem?_eq_none (by omega), Array.getElem?_eq_none (by omega)]
theorem ext_set {R : Result → Shared → Prop} {a : Addr} {o : Obj} {es : Array (Int × Value)} {ep : Nat} {t : SetTable} (hh : A.handled = none) (ho : s.heap.get? a = some o) (hex : o.ExactSet) (hd : o.data = .set es ep t) (hf : t.fits es.size = true) (ok : TabOk (ledOf w) t) (hz : es.size ≤ sizeLine)
    (S : Addr) (hSa : S ≠ a) (res : Value) (hS : s.heap.get? S = some { cls := .type "list", data := .seq #[] 0 })
    (hR : ∀ (h' : Heap) (tk : Nat) (dr : Drawn) (acc : Array Value) (c : Nat), (∀ b o, b ≠ S → s.heap.get? b = some o → h'.get? b = some o) → h'.get? S = some { cls := .type "list", dict := none, data := .seq acc c, slots := #[] } → acc.toList.Perm (es.toList.map (·.2)) → R (.ok (.ret res)) { s with heap := h', toks := tk, drawn := dr }) :
    wpAny (model prog w) A.in1 (Builtin.List.listExtendWith (.ref S) (.ref a) res) (fun fin s' => match fin with | .done f => R (.ok f) s' | .again c' => c'.quiet = true ∧ codeAny (model prog w) A c' R s') (fun e s' => R (.error e) s') s := by
  have hT : s.TypeIs (.ref a) "set" := ⟨o, ho, hex.1⟩
  have hlS := Heap.lt_size hS
  unfold Builtin.List.listExtendWith
  refine wpAny_bind (wpAny_typeOf hT ?_)
  have h1 : Builtin.List.listSameRef (.ref S) (.ref a) = false := by simp [Builtin.List.listSameRef, hSa]
  have h2 : (Value.type "set" == Value.type "list") = false := by decide
  have h3 : (Value.type "set" == Value.type "tuple") = false := by decide
  simp only [h1, h2, h3, Bool.or_false, Bool.false_eq_true, if_false]
  refine wpAny_bind (iter_set (A := A.in1) hh ho hex hd hf ok hz fun I hI dr fp ord St kp hI0 hfp hperm W st => ?_)
  have hSf : S ∉ fp := fun z => by
    rcases (hfp S z).2 with e | e
    · exact hSa e
    · exact Nat.lt_irrefl _ (Nat.lt_of_lt_of_le hlS e)
  have hIS : S ≠ I := fun z => Nat.lt_irrefl _ (Nat.lt_of_lt_of_le hlS (z ▸ hI0))
  have hos : ord.size = es.size := by have := hperm.length_eq; simpa using this
  have key : ∀ (h : Heap) (c₁ tk : Nat), St 0 h → (∀ b o, b ≠ S → s.heap.get? b = some o → h.get? b = some o) → h.get? S = some { cls := .type "list", data := .seq #[] c₁ } →
      codeAny (model prog w) A (.builtin "list.extend.loop" ⟨[.ref S, .ref I, res], []⟩) R { s with heap := h, toks := tk, drawn := dr } := by
    intro h c₁ tk hst hk hS₁
    refine codeAny_extend_loopS W.toS (by omega) S hSf res ord.size 0 _ #[] c₁ rfl (Nat.zero_le _) hst hS₁ (ItemsOf.nil _) fun s' acc' c' hm hS' hacc => ?_
    rw [Moved.eq_with hm]
    refine hR s'.heap s'.toks dr acc' c' (fun b o hb e => hm.heap b o (fun z => ?_) (hk b o hb e)) hS' (by rw [items_all hacc]; exact hperm)
    rcases List.mem_cons.mp z with z | z
    · exact hb z
    · exact Nat.lt_irrefl _ (Nat.lt_of_lt_of_le (Heap.lt_size e) (by rw [List.mem_singleton.mp z]; exact hI0))
  have hS₁ := kp _ _ hS
  refine wpAny_bind (wpAny_holding (hint_set ⟨o, kp _ _ ho, hex.1⟩ ?_))
  refine wpAny_ite_split (fun _ => ?_) (fun _ => wpAny_pure ⟨plainId_quiet PySem.F.plain_extend_loop _, key _ 0 _ st (fun b o _ e => kp _ _ e) hS₁⟩)
  refine wpAny_bind (wpAny_rule ?_)
  refine wpAny_bind ?_
  show wpAny _ _ (updateSeq S (·.push .none) >>= fun _ => updateSeq S (·.pop)) _ _ _
  refine wpAny_bind (wpAny_updateSeq hS₁ rfl ?_)
  have hS₂ := Heap.get?_update_self (Obj.mapSeq (·.push Value.none)) hS₁ rfl
  refine wpAny_updateSeq (hz := by seq_fits) hS₂ rfl ?_
  have hS₃ := Heap.get?_update_self (Obj.mapSeq (·.pop)) hS₂ rfl
  refine wpAny_pure ⟨plainId_quiet PySem.F.plain_extend_loop _, key _ _ _ (W.frame 0 _ _ st fun b hb o e => ?_) (fun b o hb e => ?_) hS₃⟩
  · have hbS : S ≠ b := fun z => hSf (z ▸ hb)
    exact (Heap.get?_update_other _ _ hbS).trans ((Heap.get?_update_other _ _ hbS).trans e)
  · exact (Heap.get?_update_other _ _ (Ne.symm hb)).trans ((Heap.get?_update_other _ _ (Ne.symm hb)).trans (kp _ _ e))
theorem collect_set {R : List Value → Shared → Prop} {a : Addr} {o : Obj} {es : Array (Int × Value)} {ep : Nat} {t : SetTable} (hh : A.handled = none) (ho : s.heap.get? a = some o) (hex : o.ExactSet) (hd : o.data = .set es ep t) (hf : t.fits es.size = true) (ok : TabOk (ledOf w) t) (hz : es.size ≤ sizeLine)
    (h : ∀ (h' : Heap) (tk : Nat) (dr : Drawn) (acc : List Value), (∀ b o, s.heap.get? b = some o → h'.get? b = some o) → acc.Perm (es.toList.map (·.2)) → R acc { s with heap := h', toks := tk, drawn := dr }) :
    wpAny (model prog w) A (collect (.ref a)) R E s := by
  have hlt := Heap.lt_size ho
  unfold collect
  refine wpAny_bind (wpAny_runValue (codeAny_builtin entry_proto_collect' ?_))
  rw [Around.under_plainId PySem.F.plain_proto_collect _]
  show wpAny _ A.in1 (newList [] >>= fun l => again (.builtin "list.__iadd__" ⟨[l, .ref a], []⟩)) _ _ s
  refine wpAny_bind (wpAny_newObj_type ?_)
  refine wpAny_pure ⟨plainId_quiet PySem.F.plain_list_iadd _, codeAny_builtin entry_list_iadd' ?_⟩
  rw [Around.under_plainId PySem.F.plain_list_iadd _]
  have hS₁ : (s.heap.push { cls := .type "list", data := .seq ([] : List Value).toArray }).get? s.heap.objs.size = some { cls := .type "list", data := .seq #[] } := Heap.get?_push_size _ rfl
  show wpAny _ A.in1 (Builtin.List.listExtendWith (.ref s.heap.objs.size) (.ref a) (.ref s.heap.objs.size)) _ _ _
  have key := ext_set (prog := prog) (A := A) (s := { s with heap := s.heap.push { cls := .type "list", data := .seq ([] : List Value).toArray } })
    (R := fun (q : Result) (s' : Shared) => ∃ (h' : Heap) (tk : Nat) (dr : Drawn) (acc : Array Value) (c : Nat), q = .ok (.ret (.ref s.heap.objs.size)) ∧ s' = { s with heap := h', toks := tk, drawn := dr } ∧
      (∀ b o, s.heap.get? b = some o → h'.get? b = some o) ∧ h'.get? s.heap.objs.size = some { cls := .type "list", dict := none, data := .seq acc c, slots := #[] } ∧ acc.toList.Perm (es.toList.map (·.2)))
    hh (Heap.get?_push_of_some _ ho) hex hd hf ok hz s.heap.objs.size (Nat.ne_of_gt hlt) (.ref s.heap.objs.size) hS₁
    (fun h' tk dr acc c hk hS' hacc => ⟨h', tk, dr, acc, c, rfl, rfl, fun b o e => hk b o (Nat.ne_of_lt (Heap.lt_size e)) (Heap.get?_push_of_some _ e), hS', hacc⟩)
  refine wpAny_mono key (fun fin s' x => ?_) fun e s' x => ?_
  · cases fin with
    | done f =>
      obtain ⟨h', tk, dr, acc, c, e, rfl, hk, hS', hacc⟩ := x
      cases e
      show wpAny _ A (load s.heap.objs.size >>= _) _ _ _
      refine wpAny_bind (wpAny_load hS' ?_)
      exact wpAny_pure (h h' tk dr acc.toList hk hacc)
    | again c₁ =>
      refine ⟨x.1, codeAny_mono x.2 fun q s₂ y => ?_⟩
      obtain ⟨h', tk, dr, acc, c, rfl, rfl, hk, hS', hacc⟩ := y
      show wpAny _ A (load s.heap.objs.size >>= _) _ _ _
      refine wpAny_bind (wpAny_load hS' ?_)
      exact wpAny_pure (h h' tk dr acc.toList hk hacc)
  · obtain ⟨_, _, _, _, _, e', _⟩ := x
    cases e'
end
end L2

set_option Elab.async false
set_option linter.all false
set_option maxRecDepth 100000
set_option maxHeartbeats 4000000
namespace L2
open PySem PySem.Spec PyProof.Rows
theorem perm_of_sub : ∀ {l m : List Int}, l.Nodup → (∀ a ∈ l, a ∈ m) → m.length ≤ l.length → m.Perm l
  | [], m, _, _, h => by
    have : m = [] := List.length_eq_zero_iff.mp (by simpa using h)
    rw [this]
  | a :: l, m, hd, hs, hl => by
    have ha : a ∈ m := hs a (by simp)
    have hp := List.perm_cons_erase ha
    refine hp.trans (List.Perm.cons a (perm_of_sub (List.nodup_cons.mp hd).2 (fun b hb => ?_) ?_))
    · exact (List.mem_erase_of_ne (fun (z : b = a) => (List.nodup_cons.mp hd).1 (by rw [← z]; exact hb))).mpr (hs b (by simp [hb]))
    · rw [List.length_erase_of_mem ha]
      simp at hl
      omega
def getI : Value → Int
  | .int n _ => n
  | _ => 0
theorem getI_are : ∀ {vs : List Value}, (∀ v ∈ vs, ∃ n t, v = .int n t) → IntsAre vs (vs.map getI)
  | [], _ => .nil
  | v :: vs, h => by
    obtain ⟨n, t, rfl⟩ := h v (by simp)
    exact .cons n t (getI_are fun u hu => h u (by simp [hu]))
section
variable {prog : Program} {w : World}
theorem setI_items {h : Heap} {a : Addr} {ns : List Int} {led : Bool} (hd : ns.Nodup) {o : Obj} {es : Array (Int × Value)} (hel : ElemsOf (intKind prog w) es.toList) (hm : ∀ k, memI ns k = true ↔ ∃ e ∈ es.toList, (intKind prog w).is k e.2 = true) (hn : es.size = ns.length) {acc : List Value} (hp : acc.Perm (es.toList.map (·.2))) :
    ∃ ms, IntsAre acc ms ∧ ms.Perm ns := by
  have hall : ∀ v ∈ acc, ∃ n t, v = Value.int n t := by
    intro v hv
    obtain ⟨e, he, rfl⟩ := List.mem_map.mp (hp.mem_iff.mp hv)
    obtain ⟨⟨k, hk, _⟩, _⟩ := hel e he
    obtain ⟨t, ht⟩ := Value.isInt_shape hk
    exact ⟨k, t, ht⟩
  refine ⟨acc.map getI, getI_are hall, perm_of_sub hd (fun k hk => ?_) ?_⟩
  · obtain ⟨e, he, hi⟩ := (hm k).mp (by simpa [memI] using hk)
    obtain ⟨t, ht⟩ := Value.isInt_shape hi
    refine List.mem_map.mpr ⟨e.2, hp.mem_iff.mpr (List.mem_map.mpr ⟨e, he, rfl⟩), ?_⟩
    rw [ht]
    rfl
  · rw [List.length_map, hp.length_eq, List.length_map, Array.length_toList, hn]
    exact Nat.le_refl _
end
section
variable {X : Cx}
theorem int_ats : ∀ {ls : List Int} {us : List Value}, Vals (ls.map V.int) us → ∀ (i : Nat) (v : Value), us[i]? = some v → ∃ x t, ls[i]? = some x ∧ v = .int x t
  | [], us, r, i, v, h => by cases r; simp at h
  | x :: ls, us, r, i, v, h => by
    cases r with
    | cons r1 r2 =>
      cases i with
      | zero => obtain ⟨t, rfl⟩ := r1; simp at h; exact ⟨x, t, rfl, h.symm⟩
      | succ i => simpa using int_ats r2 i v (by simpa using h)
theorem Inv.drew {pins : List (Addr × Obj)} {σ : St} {H : Hp} {s : Shared} {dr : Drawn} (I : Inv X pins σ H s) : Inv X pins σ H { s with drawn := dr } := ⟨I.ok, I.os, I.bare, I.base, I.loc, I.cell, I.free, I.freeC, I.pin, I.hok, I.len⟩
def tSortSet (K : PySem.W.Frag) (te : TE) : TE := fun σ H Q => te σ H fun x H1 => ∃ (p : Addr) (ns : List Int), x = .ref p ∧ SqL K H1 p (ns.map V.int) ∧ ns.Nodup ∧ ns.length < 64 ∧
  ∀ l (ms : List Int), H1 l = none → ms.Perm ns → ms.Pairwise (· ≤ ·) → Q (.ref l) (upd H1 l (.lst (ms.map V.int)))
theorem pe_sortSet {K : PySem.W.Frag} {e : Expr} {te : TE} {p p' pos pos' : Pos} (hc : X.calm = true) (hg' : Gl X "sorted") (hm' : X.mg "sorted" = none) (hg : Gl X "set") (hm : X.mg "set" = none) (hE : PE X e te) (hK : X.K = K := by rfl)
    (hs : starEach [e] X.env = [(false, eval e X.env)] := by rfl)
    (he : starEach [.Call (.Name "set" p) [e] [] pos] X.env = [(false, eval (.Call (.Name "set" p) [e] [] pos) X.env)] := by rfl) :
    PE X (.Call (.Name "sorted" p') [.Call (.Name "set" p) [e] [] pos] [] pos') (tSortSet K te) := by
  subst hK
  intro pins s σ H Q I h
  refine wpAny_Call_Name_kw (ld_blt I hg' hm' boot_sorted ?_ (by decide) (by decide))
  refine PyProof.Rows.callWith_builtin1 ?_ he rfl
  rw [he]
  show wpAny _ _ (spliced [(false, eval (.Call (.Name "set" p) [e] [] pos) X.env)]) _ _ s
  refine Calls.spliced_cons (Call_ (ld_blt I hg hm boot_set (PyProof.Rows.callWith_type1 ?_ hs rfl)))
  rw [hs]
  show wpAny _ _ (spliced [(false, eval e X.env)]) _ _ s
  refine Calls.spliced_cons (thn (hE pins s σ H _ I h) fun u s1 ⟨v, H1, I1, r1, q1⟩ => ?_)
  obtain ⟨a, ns, rfl, hq, hnd, h64, q⟩ := q1
  cases r1
  obtain ⟨its, rv, pl, hz⟩ := I1.list hq
  have hlen : its.length = ns.length := by have := rv.length; simpa using this.symm
  refine Calls.spliced_nil (call_setI (ls := ns) (I1.ok.hd hc) hnd pl.isList (by simpa using hlen) (fun i v hi => int_ats rv i v (by simpa using hi)) (by rw [show scanBound = 4096 from rfl]; omega) fun s2 hd => ?_)
  obtain ⟨h', tk, rfl, hS, kp⟩ := hd
  obtain ⟨o, es, ep, t, ho, hex, hdt, hel, hmem, hb, hf, hn, ok⟩ := hS
  refine Calls.spliced_nil (Calls.call_function_entry kind_sorted plain_sorted entry_sorted (args_sorted1 _) ?_)
  unfold Builtin.«sorted»
  refine wpAny_bind (m := checkCount "sorted" 1 1 _) (wpAny_pure ?_)
  refine wpAny_bind (collect_set (A := X.A.in1) (s := { s1 with heap := h', toks := tk }) (I1.ok.hd hc) ho hex hdt hf ok (fits_of_scanBound hb) fun h2 tk2 dr acc hk hacc => ?_)
  obtain ⟨ms, hi, hp⟩ := setI_items (prog := X.prog) (w := X.w) (h := h') (a := a) (led := true) (o := o) hnd hel hmem hn hacc
  have hal : acc.length = ns.length := by rw [hacc.length_eq, List.length_map, Array.length_toList, hn]
  have hsl : (64 : Nat) ≤ sizeLine := by decide
  refine wpAny_bind (wpAny_newList ?_ (by rw [hal]; omega))
  have hold : ∀ b o, s1.heap.get? b = some o → h2.get? b = some o := fun b o e => hk b o (kp b o e)
  have hoL : (h2.push (seqObj "list" acc.toArray 0)).get? h2.objs.size = some (seqObj "list" acc.toArray 0) := Heap.get?_push_size _ rfl
  show wpAny _ _ _ _ _ { s1 with heap := h2.push (seqObj "list" acc.toArray 0), toks := tk2, drawn := dr }
  refine wpAny_bind (wpAny_holding (wpAny_call_entry slot_list_sort ⟨_, hoL, rfl⟩ entry_list_sort (list_sort_tree hoL hi (by omega) fun out ns' a1 a2 a3 => ⟨_, rfl, ?_⟩) (args_list_sort _)))
  refine wpAny_pure ⟨_, rfl, ?_⟩
  obtain ⟨e, he'⟩ := sortedHeap_at (out := out) hoL
  have hsz1 : s1.heap.objs.size ≤ h2.objs.size := Nat.le_of_lt (Heap.lt_size (hk _ _ ho))
  have hz' : (ns'.map V.int).length ≤ sizeLine := by
    rw [List.length_map, a2.length_eq, hp.length_eq]
    omega
  refine ⟨.ref _, _, Inv.drew (dr := dr) (I1.laid (s := s1) (t' := tk2) (fun b o hb => ?_) hsz1 (show ObjOk X.prog X.w _ (sortedHeap (h2.push (seqObj "list" acc.toArray 0)) h2.objs.size acc out) _ (.lst _) from ⟨hz', out.toList, e, vals_ints a1, he'⟩)), rfl, q _ ns' (I1.hok.fresh hsz1) (a2.trans hp) a3⟩
  have hb' := hold b o hb
  have hlt := Heap.lt_size hb'
  rw [sortedHeap_old (Nat.ne_of_lt hlt) (by rw [size_push']; exact Nat.lt_succ_of_lt hlt)]
  exact Heap.get?_push_of_some _ hb'
end
end L2

set_option Elab.async false
set_option linter.all false
set_option maxRecDepth 100000
set_option maxHeartbeats 4000000
namespace L2
open PySem PySem.Spec PyProof.Rows
/-- letters that stand at their own numbers -/
def Numb (Ls : List L3) : Prop := ∀ (i : Nat) (x : L3), Ls[i]? = some x → x.1 = (i : Int)
theorem numb_nil : Numb [] := fun i x h => by simp at h
theorem Numb.snoc {Ls : List L3} (h : Numb Ls) (x : L3) (hx : x.1 = (Ls.length : Int)) : Numb (Ls ++ [x]) := fun i y hy => by
  by_cases hi : i < Ls.length
  · rw [List.getElem?_append_left hi] at hy
    exact h i y hy
  · rw [List.getElem?_append_right (by omega)] at hy
    by_cases e : i - Ls.length = 0
    · rw [e] at hy
      simp at hy
      rw [← hy, hx]
      omega
    · rw [List.getElem?_eq_none (by simp; omega)] at hy
      cases hy
theorem Numb.lt {Ls : List L3} (h : Numb Ls) : ∀ y ∈ Ls, y.1 < (Ls.length : Int) := fun y hy => by
  obtain ⟨i, hi, e⟩ := List.getElem_of_mem hy
  have := h i y (by rw [List.getElem?_eq_getElem hi, e])
  omega
theorem Numb.below {Ls : List L3} (h : Numb Ls) (u : Nat) : L2.below Ls (u : Int) = Ls.take u := by
  unfold L2.below
  conv => lhs; rw [← List.take_append_drop u Ls]
  rw [List.filter_append]
  have e1 : ((Ls.take u).filter fun x => decide (x.1 < (u : Int))) = Ls.take u := List.filter_eq_self.mpr fun x hx => by
    obtain ⟨i, hi, e⟩ := List.getElem_of_mem hx
    rw [List.length_take] at hi
    have := h i x (by rw [← e, List.getElem_take, List.getElem?_eq_getElem])
    rw [this]
    exact decide_eq_true (by omega)
  have e2 : ((Ls.drop u).filter fun x => decide (x.1 < (u : Int))) = [] := List.filter_eq_nil_iff.mpr fun x hx => by
    obtain ⟨i, hi, e⟩ := List.getElem_of_mem hx
    rw [List.length_drop] at hi
    have := h (u + i) x (by rw [← e, List.getElem_drop, List.getElem?_eq_getElem])
    rw [this]
    simp
    omega
  rw [e1, e2, List.append_nil]
theorem sorted_self {ms ns : List Int} (h : ns.Pairwise (· < ·)) (hp : ms.Perm ns) (hs : ms.Pairwise (· ≤ ·)) : ms = ns :=
  List.Perm.eq_of_pairwise (le := fun a b => a ≤ b) (fun a b _ _ h1 h2 => Int.le_antisymm h1 h2) hs (h.imp fun h => Int.le_of_lt h) hp
def sp_draw67 (C : Addr) : Sp := fun vs H Q _ => ∃ (r d : Addr) (M : RowM) (fl pa : Int), vs = [.ref r, .int fl, .int pa] ∧ RowAt C H r d M ∧ M.last ≤ 60 ∧ 0 ≤ fl ∧
  ∀ H', Chg [r, d] H H' → RowAt C H' r d ((M.outs (awayL (M.stand.filter fun x => decide (x.1 < fl)) pa)).raised fl) → Q (.bl true) H'
def sp_tells67 (C : Addr) : Sp := fun vs H Q _ => ∃ (r d : Addr) (M : RowM) (p : Addr) (Ls : List L3) (g : Int), vs = [.ref r, .ref p, .int g] ∧ RowAt C H r d M ∧ M.first = 0 ∧ LTups H p (Ls.map l3V) ∧ M.last = (Ls.length : Int) ∧ Ls.length ≤ 60 ∧ Numb Ls ∧ 0 ≤ g ∧ g ≤ (Ls.length : Int) ∧ Due M.stand Ls [] g 0 ∧
  ∀ H', Same H H' → Q (.bl true) H'
end L2

set_option Elab.async false
set_option linter.all false
set_option maxRecDepth 100000
set_option maxHeartbeats 4000000
set_option pp.deepTerms true
set_option pp.maxSteps 200000
namespace K67
open PySem PySem.Spec PyProof.Rows L2
def top (i : Nat) : Stmt := PySem.Challenge.pw_lettercell_k67_whole_what_stands_tells_a.main.body.getD i (.Pass ⟨0, 0, 0, 0⟩)
abbrev s_drawn_away : Stmt := top 2
theorem sc_drawn_away : FnScope ["row", "floor", "passed", "letters", "lasts", "place", "key", "word", "away", "is_last"] ["row", "floor", "passed"] (defScope s_drawn_away) := ⟨rfl, rfl, rfl, by decide +kernel, rfl, by decide +kernel, by decide +kernel⟩
abbrev s_table_of : Stmt := top 3
theorem sc_table_of : FnScope ["letters", "table", "place", "key", "word"] ["letters"] (defScope s_table_of) := ⟨rfl, rfl, rfl, by decide +kernel, rfl, by decide +kernel, by decide +kernel⟩
abbrev s_Row___init__ : Stmt := inClass (top 5) 0
theorem sc_Row___init__ : FnScope ["self"] ["self"] (defScope s_Row___init__) := ⟨rfl, rfl, rfl, by decide +kernel, rfl, by decide +kernel, by decide +kernel⟩
abbrev s_Row_add : Stmt := inClass (top 5) 1
theorem sc_Row_add : FnScope ["self", "key", "word", "deed", "place"] ["self", "key", "word", "deed"] (defScope s_Row_add) := ⟨rfl, rfl, rfl, by decide +kernel, rfl, by decide +kernel, by decide +kernel⟩
abbrev s_Row_at : Stmt := inClass (top 5) 2
theorem sc_Row_at : FnScope ["self", "place"] ["self", "place"] (defScope s_Row_at) := ⟨rfl, rfl, rfl, by decide +kernel, rfl, by decide +kernel, by decide +kernel⟩
abbrev s_Row_seen : Stmt := inClass (top 5) 3
theorem sc_Row_seen : FnScope ["self", "start", "limit", "most", "found", "place", "letter"] ["self", "start", "limit", "most"] (defScope s_Row_seen) := ⟨rfl, rfl, rfl, by decide +kernel, rfl, by decide +kernel, by decide +kernel⟩
abbrev s_Row_take_out : Stmt := inClass (top 5) 4
theorem sc_Row_take_out : FnScope ["self", "place"] ["self", "place"] (defScope s_Row_take_out) := ⟨rfl, rfl, rfl, by decide +kernel, rfl, by decide +kernel, by decide +kernel⟩
abbrev s_Row_raise_drawn : Stmt := inClass (top 5) 6
theorem sc_Row_raise_drawn : FnScope ["self", "place"] ["self", "place"] (defScope s_Row_raise_drawn) := ⟨rfl, rfl, rfl, by decide +kernel, rfl, by decide +kernel, by decide +kernel⟩
abbrev s_l_cell_at : Stmt := top 7
theorem sc_l_cell_at : FnScope ["_law_script", "_law_k"] ["_law_script", "_law_k"] (defScope s_l_cell_at) := ⟨rfl, rfl, rfl, by decide +kernel, rfl, by decide +kernel, by decide +kernel⟩
abbrev s_l_mixed : Stmt := top 8
theorem sc_l_mixed : FnScope ["_law_cell", "_law_k", "_law_number"] ["_law_cell", "_law_k"] (defScope s_l_mixed) := ⟨rfl, rfl, rfl, by decide +kernel, rfl, by decide +kernel, by decide +kernel⟩
abbrev s_l_plain : Stmt := top 9
theorem sc_l_plain : FnScope ["_law_thing", "_law_part"] ["_law_thing"] (defScope s_l_plain) := ⟨rfl, rfl, rfl, by decide +kernel, rfl, by decide +kernel, by decide +kernel⟩
abbrev s_l_same : Stmt := top 10
theorem sc_l_same : FnScope ["_law_found", "_law_due"] ["_law_found", "_law_due"] (defScope s_l_same) := ⟨rfl, rfl, rfl, by decide +kernel, rfl, by decide +kernel, by decide +kernel⟩
abbrev s_l_sign : Stmt := top 11
theorem sc_l_sign : FnScope ["_law_number", "_law_some"] ["_law_number"] (defScope s_l_sign) := ⟨rfl, rfl, rfl, by decide +kernel, rfl, by decide +kernel, by decide +kernel⟩
abbrev s_l_keys : Stmt := top 12
theorem sc_l_keys : FnScope ["_law_cell", "_law_many", "_law_size", "_law_at", "_law_some", "_law_k", "_law_key", "_law_j"] ["_law_cell", "_law_many"] (defScope s_l_keys) := ⟨rfl, rfl, rfl, by decide +kernel, rfl, by decide +kernel, by decide +kernel⟩
abbrev s_l_word : Stmt := top 13
theorem sc_l_word : FnScope ["_law_cell", "_law_size"] ["_law_cell"] (defScope s_l_word) := ⟨rfl, rfl, rfl, by decide +kernel, rfl, by decide +kernel, by decide +kernel⟩
abbrev s_l_table : Stmt := top 14
theorem sc_l_table : FnScope ["_law_letters", "_law_due", "_law_seen", "_law_place", "_law_key", "_law_word_here"] ["_law_letters"] (defScope s_l_table) := ⟨rfl, rfl, rfl, by decide +kernel, rfl, by decide +kernel, by decide +kernel⟩
abbrev s_l_is_table : Stmt := top 15
theorem sc_l_is_table : FnScope ["_law_found", "_law_due", "_law_key"] ["_law_found", "_law_due"] (defScope s_l_is_table) := ⟨rfl, rfl, rfl, by decide +kernel, rfl, by decide +kernel, by decide +kernel⟩
abbrev s_l_draw : Stmt := top 16
theorem sc_l_draw : FnScope ["_law_row", "_law_floor", "_law_passed", "_law_gone", "_law_place"] ["_law_row", "_law_floor", "_law_passed"] (defScope s_l_draw) := ⟨rfl, rfl, rfl, by decide +kernel, rfl, by decide +kernel, by decide +kernel⟩
abbrev s_l_tells_all : Stmt := top 17
theorem sc_l_tells_all : FnScope ["_law_row", "_law_letters", "_law_greatest", "_law_place", "_law_stood"] ["_law_row", "_law_letters", "_law_greatest"] (defScope s_l_tells_all) := ⟨rfl, rfl, rfl, by decide +kernel, rfl, by decide +kernel, by decide +kernel⟩
abbrev s_law : Stmt := top 18
theorem sc_law : FnScope ["_law_script", "_law_keys_here", "_law_row", "_law_letters", "_law_greatest", "_law_cell", "_law_key", "_law_word_here", "_law_floor", "_law_passed"] ["_law_script"] (defScope s_law) := ⟨rfl, rfl, rfl, by decide +kernel, rfl, by decide +kernel, by decide +kernel⟩
structure Adr where
  C_Row : Addr
  f_drawn_away : Addr
  d_drawn_away : FuncData
  f_table_of : Addr
  d_table_of : FuncData
  f_Row___init__ : Addr
  d_Row___init__ : FuncData
  f_Row_add : Addr
  d_Row_add : FuncData
  e1_Row_add : List Value
  i_Row_add : List Value
  f_Row_at : Addr
  d_Row_at : FuncData
  f_Row_seen : Addr
  d_Row_seen : FuncData
  f_Row_take_out : Addr
  d_Row_take_out : FuncData
  f_Row_raise_drawn : Addr
  d_Row_raise_drawn : FuncData
  f_l_cell_at : Addr
  d_l_cell_at : FuncData
  f_l_mixed : Addr
  d_l_mixed : FuncData
  f_l_plain : Addr
  d_l_plain : FuncData
  f_l_same : Addr
  d_l_same : FuncData
  f_l_sign : Addr
  d_l_sign : FuncData
  f_l_keys : Addr
  d_l_keys : FuncData
  f_l_word : Addr
  d_l_word : FuncData
  f_l_table : Addr
  d_l_table : FuncData
  f_l_is_table : Addr
  d_l_is_table : FuncData
  f_l_draw : Addr
  d_l_draw : FuncData
  f_l_tells_all : Addr
  d_l_tells_all : FuncData
  f_law : Addr
  d_law : FuncData
structure Txt (K : PySem.W.Frag) (mg : Str → Option Value) (a : Adr) : Prop where
  F_drawn_away : Fun K "drawn_away" "drawn_away" s_drawn_away a.f_drawn_away a.d_drawn_away
  b_drawn_away : Binds K a.d_drawn_away ["row", "floor", "passed"] []
  m_drawn_away : mg "drawn_away" = some (.ref a.f_drawn_away)
  F_table_of : Fun K "table_of" "table_of" s_table_of a.f_table_of a.d_table_of
  b_table_of : Binds K a.d_table_of ["letters"] []
  m_table_of : mg "table_of" = some (.ref a.f_table_of)
  F_Row___init__ : Fun K "__init__" "Row.__init__" s_Row___init__ a.f_Row___init__ a.d_Row___init__
  b_Row___init__ : Binds K a.d_Row___init__ ["self"] []
  b1_Row_add : Binds K a.d_Row_add ["self", "key", "word", "deed"] a.e1_Row_add
  v1_Row_add : Vals [.int 0] a.e1_Row_add
  F_Row_add : FunD K "add" "Row.add" s_Row_add a.f_Row_add a.d_Row_add a.i_Row_add
  b_Row_add : Binds K a.d_Row_add ["self", "key", "word", "deed"] []
  M_Row_add : Meth K a.C_Row "add" a.f_Row_add
  F_Row_at : Fun K "at" "Row.at" s_Row_at a.f_Row_at a.d_Row_at
  b_Row_at : Binds K a.d_Row_at ["self", "place"] []
  M_Row_at : Meth K a.C_Row "at" a.f_Row_at
  F_Row_seen : Fun K "seen" "Row.seen" s_Row_seen a.f_Row_seen a.d_Row_seen
  b_Row_seen : Binds K a.d_Row_seen ["self", "start", "limit", "most"] []
  M_Row_seen : Meth K a.C_Row "seen" a.f_Row_seen
  F_Row_take_out : Fun K "take_out" "Row.take_out" s_Row_take_out a.f_Row_take_out a.d_Row_take_out
  b_Row_take_out : Binds K a.d_Row_take_out ["self", "place"] []
  M_Row_take_out : Meth K a.C_Row "take_out" a.f_Row_take_out
  F_Row_raise_drawn : Fun K "raise_drawn" "Row.raise_drawn" s_Row_raise_drawn a.f_Row_raise_drawn a.d_Row_raise_drawn
  b_Row_raise_drawn : Binds K a.d_Row_raise_drawn ["self", "place"] []
  M_Row_raise_drawn : Meth K a.C_Row "raise_drawn" a.f_Row_raise_drawn
  F_l_cell_at : Fun K "_law_cell_at" "_law_cell_at" s_l_cell_at a.f_l_cell_at a.d_l_cell_at
  b_l_cell_at : Binds K a.d_l_cell_at ["_law_script", "_law_k"] []
  m_l_cell_at : mg "_law_cell_at" = some (.ref a.f_l_cell_at)
  F_l_mixed : Fun K "_law_mixed" "_law_mixed" s_l_mixed a.f_l_mixed a.d_l_mixed
  b_l_mixed : Binds K a.d_l_mixed ["_law_cell", "_law_k"] []
  m_l_mixed : mg "_law_mixed" = some (.ref a.f_l_mixed)
  F_l_plain : Fun K "_law_plain" "_law_plain" s_l_plain a.f_l_plain a.d_l_plain
  b_l_plain : Binds K a.d_l_plain ["_law_thing"] []
  m_l_plain : mg "_law_plain" = some (.ref a.f_l_plain)
  F_l_same : Fun K "_law_same" "_law_same" s_l_same a.f_l_same a.d_l_same
  b_l_same : Binds K a.d_l_same ["_law_found", "_law_due"] []
  m_l_same : mg "_law_same" = some (.ref a.f_l_same)
  F_l_sign : Fun K "_law_sign" "_law_sign" s_l_sign a.f_l_sign a.d_l_sign
  b_l_sign : Binds K a.d_l_sign ["_law_number"] []
  m_l_sign : mg "_law_sign" = some (.ref a.f_l_sign)
  F_l_keys : Fun K "_law_keys" "_law_keys" s_l_keys a.f_l_keys a.d_l_keys
  b_l_keys : Binds K a.d_l_keys ["_law_cell", "_law_many"] []
  m_l_keys : mg "_law_keys" = some (.ref a.f_l_keys)
  F_l_word : Fun K "_law_word" "_law_word" s_l_word a.f_l_word a.d_l_word
  b_l_word : Binds K a.d_l_word ["_law_cell"] []
  m_l_word : mg "_law_word" = some (.ref a.f_l_word)
  F_l_table : Fun K "_law_table" "_law_table" s_l_table a.f_l_table a.d_l_table
  b_l_table : Binds K a.d_l_table ["_law_letters"] []
  m_l_table : mg "_law_table" = some (.ref a.f_l_table)
  F_l_is_table : Fun K "_law_is_table" "_law_is_table" s_l_is_table a.f_l_is_table a.d_l_is_table
  b_l_is_table : Binds K a.d_l_is_table ["_law_found", "_law_due"] []
  m_l_is_table : mg "_law_is_table" = some (.ref a.f_l_is_table)
  F_l_draw : Fun K "_law_draw" "_law_draw" s_l_draw a.f_l_draw a.d_l_draw
  b_l_draw : Binds K a.d_l_draw ["_law_row", "_law_floor", "_law_passed"] []
  m_l_draw : mg "_law_draw" = some (.ref a.f_l_draw)
  F_l_tells_all : Fun K "_law_tells_all" "_law_tells_all" s_l_tells_all a.f_l_tells_all a.d_l_tells_all
  b_l_tells_all : Binds K a.d_l_tells_all ["_law_row", "_law_letters", "_law_greatest"] []
  m_l_tells_all : mg "_law_tells_all" = some (.ref a.f_l_tells_all)
  F_law : Fun K "law" "law" s_law a.f_law a.d_law
  b_law : Binds K a.d_law ["_law_script"] []
  m_law : mg "law" = some (.ref a.f_law)
  cl_Row : Cls K a.C_Row
  mg_Row : mg "Row" = some (.ref a.C_Row)
  k_Row : Mk K a.C_Row a.f_Row___init__
  no_Row_drawn : NoAttr K a.C_Row "drawn"
  no_Row_end : NoAttr K a.C_Row "end"
  no_Row_first : NoAttr K a.C_Row "first"
  no_Row_letters : NoAttr K a.C_Row "letters"
  n_bool : mg "bool" = none
  n_dict : mg "dict" = none
  n_int : mg "int" = none
  n_isinstance : mg "isinstance" = none
  n_len : mg "len" = none
  n_list : mg "list" = none
  n_max : mg "max" = none
  n_min : mg "min" = none
  n_range : mg "range" = none
  n_reversed : mg "reversed" = none
  n_set : mg "set" = none
  n_sorted : mg "sorted" = none
  n_str : mg "str" = none
  n_tuple : mg "tuple" = none
  bl_law : ∀ (s : Shared) (u : Value), BindsTo s a.d_law ⟨[u], []⟩ [("_law_script", u)]

local macro_rules | `(tactic| walk_at "rd") => do
  let ns := (("tSortSet, sp_plainN, sp_same, sp_table, sp_is_table, sp_sign94, sp_keysT, sp_word, sp_mixed, sp_cell_at, sp_row_init, sp_row_add, sp_row_at, sp_row_seen, sp_row_out, sp_row_raise, sp_drawn, sp_draw67, sp_tells67, S_iff, and_assoc, tFor_eq, tComp_eq, cx_K, iAny_eq, iRng1, iRng2, rSlA_s, rSlS, tSl, tNoPart, tPart, tBM, tBM0, tyV, rJoin, tLst, tTup, tSeq, tAsg, gName, gTup, gCons, gNil, gSub, tVar, tC, tOp, tUn, rU, rI, rI0, tTest, tIfS, tRet, tRetN, tNext, tBreak, tCont, tDrop, tCons, tNil, tCall, tMeth, tMake, tCB, tB, tNot, tAnd, tOr, tAndV, tOrV, tNotV, tChain, tIf, tIsN, tNotN, tFld, sFld, tInRng, tInRng1, tDGet1, tDGet2, tDPop1, tDPop2, tDisp, tPairs, tDNewK, rAppend, rMax, rMin, iZip, iEnum, rInt_i, rInt_b, rStrI, rMul_ii, rMul_si, rIsB_bb, rNotB_bb, tForD_eq, iItems, iKeys, iRev, tDClear, rPlus_ii, rPlus_ss, rEqq_ii, rNeq_ii, rEqq_ss, rNeq_ss, rEqq_bb, rNeq_bb, rEqq_nn, rNeq_nn, rEqq_ni, rNeq_ni, rEqq_in, rNeq_in, rEqq_ns, rNeq_ns, rEqq_sn, rNeq_sn, rEqq_nb, rNeq_nb, rEqq_bn, rNeq_bn, rEqq_is, rNeq_is, rEqq_si, rNeq_si, rLt_ii, rLt_ss, rLe_ii, rLe_ss, rLen_s, rInn_s, rNin_s, rOrd, tTru, TruV_b, TruV_n, TruV_i, rIxA_s, rIxS2, rAny_s, isi_non_int, isi_non_bool, isi_non_str, isi_non_list, isi_non_tuple, isi_non_dict, isi_bl_int, isi_bl_bool, isi_bl_str, isi_bl_list, isi_bl_tuple, isi_bl_dict, isi_int_int, isi_int_bool, isi_int_str, isi_int_list, isi_int_tuple, isi_int_dict, isi_str_int, isi_str_bool, isi_str_str, isi_str_list, isi_str_tuple, isi_str_dict, _root_.L2.start, CMul, CDiv, CPow, Int.reduceNeg, Int.reducePow, Int.reduceLT, Int.reduceLE, Int.reduceToNat, or_true, true_or, and_self, Nat.reducePow, List.map_cons, List.map_nil, List.length_cons, List.length_nil, List.replicate, List.cons_append, List.nil_append, List.append_nil, Nat.reduceAdd, Nat.reduceSub, Nat.zero_add, Nat.add_zero, Nat.sub_self, List.getElem?_cons_zero, List.getElem?_cons_succ, List.set_cons_zero, List.set_cons_succ, Option.some.injEq, V.int.injEq, V.bl.injEq, V.str.injEq, V.ref.injEq, V.ty.injEq, reduceCtorEq, exists_eq, exists_eq', not_true_eq_false, not_false_eq_true, exists_eq_left', exists_eq_left, exists_eq_right, exists_eq_right', exists_and_left, exists_and_right, exists_const, false_and, and_false, true_and, and_true, exists_false, or_false, false_or, List.cons.injEq, eq_self_iff_true, Bool.false_eq_true, Bool.or_self, Bool.or_true, Bool.true_or, Bool.or_false, Bool.false_or, if_true, if_false, ite_true, ite_false, Bool.not_true, Bool.not_false, decide_eq_true_eq, Bool.not_eq_true', decide_eq_false_iff_not".splitOn ",").map String.trim).filter (fun s => !s.isEmpty)
  let ls ← ns.mapM fun s => `(Lean.Parser.Tactic.simpLemma| $(Lean.mkIdent s.toName):term)
  let ls := ls.toArray
  `(tactic| simp (maxSteps := 3000000) only [$ls,*, ↓reduceIte])
seal PE PT PW PA PS PSs PG PGs PI PO PPs PC
section
variable {P : Program} {w : World} {K : PySem.W.Frag} {mg : Str → Option Value} {base : Heap} {a : Adr}

theorem ok_l_mixed (T : Txt K mg a) : FnOk P w K mg base CX0 1 a.f_l_mixed a.d_l_mixed ["_law_cell", "_law_k"] sp_mixed := by
  refine T.F_l_mixed.ok sc_l_mixed (fun vs H Q E h => ?_) (fun cdv A outer s H vs Q E hr h => ?_)
  · obtain ⟨c, k, rfl, _⟩ := h
    rfl
  · obtain ⟨c, k, rfl, q⟩ := h
    refine ⟨_, (pss_cons (ps_set (i := 2) sc_l_mixed.nd rfl (Or.inl rfl) (pe_op op_mod (pe_op (op_plusK (K := K)) (pe_op (op_plusK (K := K)) (pe_op op_mulA (pe_op op_mod (pv 0) pe_int) pe_int) (pe_op op_mulA pe_int (pv 1))) pe_int) pe_int))
      (pss_one (ps_ret (pe_op op_mod (pe_op op_mulA (pv 2) (pv 2)) pe_int)))), ?_⟩
    walk_at "rd"
    refine ⟨.inl ?_, q⟩
    omega

theorem ok_l_cell_at (T : Txt K mg a) : FnOk P w K mg base CX0 1 a.f_l_cell_at a.d_l_cell_at ["_law_script", "_law_k"] (sp_cell_at K) := by
  refine T.F_l_cell_at.ok sc_l_cell_at (fun vs H Q E h => ?_) (fun cdv A outer s H vs Q E hr h => ?_)
  · obtain ⟨p, ns, k, rfl, _⟩ := h
    rfl
  · obtain ⟨p, ns, k, rfl, hs, hk, q⟩ := h
    refine ⟨_, (pss_cons (ps_if (pt_cmpR op_ltK (pv 1) (pe_callB (call_lenK (K := K)) (by rfl) T.n_len boot_len (pa_cons (pv 0) pa_nil)) (nomark _)) (pss_one (ps_ret (pe_ix (ix_anyK (K := K) (hU1 hr)) (pv 0) (pv 1) (fun _ _ => rfl)))) pss_nil)
      (pss_one (ps_ret pe_int))), ?_⟩
    walk_at "rd"
    refine rLen_l hs ?_
    walk_at "rd"
    rw [List.length_map]
    refine ite2 (fun hlt => ?_) (fun hge => ?_)
    · refine rIxA_l hs (v := .int (ns.getD k.toNat 0)) (atI_get? hk ?_) q
      rw [List.getElem?_map, List.getD_eq_getElem?_getD, List.getElem?_eq_getElem (show k.toNat < ns.length by omega)]
      rfl
    · rw [List.getD_eq_getElem?_getD, List.getElem?_eq_none (show ns.length ≤ k.toNat by omega)] at q
      exact q

theorem ok_plainN (T : Txt K mg a) : ∀ n, FnOk P w K mg base CX0 (n + 1) a.f_l_plain a.d_l_plain ["_law_thing"] (sp_plainN n)
  | 0 => T.F_l_plain.ok sc_l_plain (fun vs H Q E h => False.elim h) (fun cdv A outer s H vs Q E hr h => False.elim h)
  | n + 1 => by
    have ih := ok_plainN T n
    refine T.F_l_plain.ok sc_l_plain (fun vs H Q E h => ?_) (fun cdv A outer s H vs Q E hr h => ?_)
    · obtain ⟨v, rfl, _⟩ := h
      rfl
    · obtain ⟨v, rfl, pl, q⟩ := h
      refine ⟨_, (pss_cons (ps_if (pt_truthK (K := K) (pe_callB (call_isiTK (K := K)) (by rfl) T.n_isinstance boot_isinstance (pa_cons (pv 0) (pa_cons (pe_tup (pa_cons (pe_bltn (v := .ty "tuple") rfl T.n_tuple boot_tuple rfl) (pa_cons (pe_bltn (v := .ty "list") rfl T.n_list boot_list rfl) pa_nil))) pa_nil))) (by intro _; rfl)) (pss_cons (ps_for PassesOwn.never rfl (pi_anyK (K := K) (pv 0)) (pg_name (i := 1) sc_l_plain.nd rfl (Or.inl rfl)) (pss_one (ps_if (pt_not (pt_truthK (K := K) (pe_call ih (hr.mono (by omega)) rfl T.m_l_plain T.F_l_plain.kp T.b_l_plain .nil pass0 (pa_cons (pv 1) pa_nil)) (by intro _; rfl))) (pss_one (ps_ret pe_bl)) pss_nil)))
      (pss_one (ps_ret pe_bl))) pss_nil)
      (pss_cons (ps_if (PW.pt (pw_or (pt_cmp (pc_isN (pv 0))) (pw_or1 (pt_truthK (K := K) (pe_callB (call_isinstanceK (K := K)) (by rfl) T.n_isinstance boot_isinstance (pa_cons (pv 0) (pa_cons (pe_bltn (v := .ty "str") rfl T.n_str boot_str rfl) pa_nil))) (by intro _; rfl))))) (pss_one (ps_ret pe_bl)) pss_nil)
      (pss_one (ps_ret (pe_and (pe_callB (call_isinstanceK (K := K)) (by rfl) T.n_isinstance boot_isinstance (pa_cons (pv 0) (pa_cons (pe_bltn (v := .ty "int") rfl T.n_int boot_int rfl) pa_nil))) (pe_one (pe_not (pe_callB (call_isinstanceK (K := K)) (by rfl) T.n_isinstance boot_isinstance (pa_cons (pv 0) (pa_cons (pe_bltn (v := .ty "bool") rfl T.n_bool boot_bool rfl) pa_nil)))))))))), ?_⟩
      walk_at "rd"
      refine ⟨by decide, fun p hp => ?_⟩
      have hpt : upd H p (.tup [V.ty "tuple", V.ty "list"]) p = some (.tup [V.ty "tuple", V.ty "list"]) := upd_same
      have sm : Same H (upd H p (.tup [V.ty "tuple", V.ty "list"])) := Same.upd hp
      cases v with
      | non => refine isiT_no hpt .non rfl ?_; walk_at "rd"; exact q _ sm
      | int i => refine isiT_no hpt (.int i) rfl ?_; walk_at "rd"; exact q _ sm
      | str x => refine isiT_no hpt (.str x) rfl ?_; walk_at "rd"; exact q _ sm
      | ref b =>
        cases n with
        | zero => exact (show False from pl).elim
        | succ n =>
          obtain ⟨xs, h, hx⟩ := (show ∃ xs, (H b = some (.lst xs) ∨ H b = some (.tup xs)) ∧ ∀ x ∈ xs, Pl H n x from pl)
          rcases h with h | h
          · refine isiT_yes hpt (.lst (sm _ _ h)) rfl ?_
            walk_at "rd"
            refine rAny_l (.inl (.inl (sm _ _ h))) (forW_list (xs := xs) (fun i σ H' => Same H H' ∧ ∃ v, σ = [some (V.ref b), v]) ⟨sm, none, rfl⟩ (fun i σ H' _ z => .inl (.inl (z.1 _ _ h))) ?_ ?_)
            · rintro i x σ H' hx' ⟨s', v, rfl⟩
              walk_at "rd"
              exact ⟨(hx x (List.mem_of_getElem? hx')).same s', fun H2 s2 => s'.trans s2⟩
            · rintro σ H' ⟨s', v, rfl⟩
              walk_at "rd"
              exact q _ s'
          · refine isiT_yes hpt (.tup (sm _ _ h)) rfl ?_
            walk_at "rd"
            refine rAny_t (.inl (.inl (sm _ _ h))) (forW_tup (xs := xs) (fun i σ H' => Same H H' ∧ ∃ v, σ = [some (V.ref b), v]) ⟨sm, none, rfl⟩ (fun i σ H' _ z => .inl (.inl (z.1 _ _ h))) ?_ ?_)
            · rintro i x σ H' hx' ⟨s', v, rfl⟩
              walk_at "rd"
              exact ⟨(hx x (List.mem_of_getElem? hx')).same s', fun H2 s2 => s'.trans s2⟩
            · rintro σ H' ⟨s', v, rfl⟩
              walk_at "rd"
              exact q _ s'
      | _ => exact (show False by cases n <;> exact pl).elim
theorem ok_l_plain (T : Txt K mg a) : FnOk P w K mg base CX0 4 a.f_l_plain a.d_l_plain ["_law_thing"] (sp_plainN 3) := ok_plainN T 3
theorem ok_l_same (T : Txt K mg a) : FnOk P w K mg base CX0 5 a.f_l_same a.d_l_same ["_law_found", "_law_due"] (sp_same K) := by
  refine T.F_l_same.ok sc_l_same (fun vs H Q E h => ?_) (fun cdv A outer s H vs Q E hr h => ?_)
  · obtain ⟨x, y, d, rfl, _⟩ := h
    rfl
  · obtain ⟨x, y, d, rfl, pl, d1, d2, hw, q⟩ := h
    refine ⟨_, (pss_one (ps_ret (pe_and (pe_call (ok_l_plain T) (hr.mono (by decide)) rfl T.m_l_plain T.F_l_plain.kp T.b_l_plain .nil pass0 (pa_cons (pv 0) pa_nil)) (pe_one (pe_cmpR (op_eqK (K := K) (hU hr)) (pv 0) (pv 1) (nomark _)))))), ?_⟩
    walk_at "rd"
    exact ⟨pl, fun H' sm => rEqq_den (d1.same sm) (d2.same sm) hw (q H' sm)⟩

theorem ok_l_sign (T : Txt K mg a) : FnOk P w K mg base CX0 1 a.f_l_sign a.d_l_sign ["_law_number"] sp_sign94 := by
  refine T.F_l_sign.ok sc_l_sign (fun vs H Q E h => ?_) (fun cdv A outer s H vs Q E hr h => ?_)
  · obtain ⟨n, rfl, _⟩ := h
    rfl
  · obtain ⟨n, rfl, q⟩ := h
    refine ⟨_, (pss_cons (ps_set (i := 1) sc_l_sign.nd rfl (Or.inl rfl) pe_str)
      (pss_cons (ps_set (i := 1) sc_l_sign.nd rfl (Or.inl rfl) (pe_op (op_plusK (K := K)) (pv 1) pe_str))
      (pss_one (ps_ret (pe_ix (ix_anyK (K := K) (hU1 hr)) (pv 1) (pe_op op_mod (pv 0) pe_int) (fun _ _ => rfl)))))), ?_⟩
    walk_at "rd"
    exact ⟨T62, by decide +kernel, T34.take 32, by decide +kernel, by decide, by decide, sgn n 94, atI_get? (by omega) (sgn94_at n), q⟩
theorem ok_l_word (T : Txt K mg a) : FnOk P w K mg base CX0 2 a.f_l_word a.d_l_word ["_law_cell"] sp_word := by
  refine T.F_l_word.ok sc_l_word (fun vs H Q E h => ?_) (fun cdv A outer s H vs Q E hr h => ?_)
  · obtain ⟨c, rfl, _⟩ := h
    rfl
  · obtain ⟨c, rfl, q⟩ := h
    refine ⟨_, (pss_cons (ps_set (i := 1) sc_l_word.nd rfl (Or.inl rfl) (pe_op op_mod (pe_call (ok_l_mixed T) (hr.mono (by decide)) rfl T.m_l_mixed T.F_l_mixed.kp T.b_l_mixed .nil pass0 (pa_cons (pv 0) (pa_cons pe_int pa_nil))) pe_int))
      (pss_cons (ps_if (pt_cmpR (op_eqK (K := K) (hU hr)) (pe_op op_mod (pe_call (ok_l_mixed T) (hr.mono (by decide)) rfl T.m_l_mixed T.F_l_mixed.kp T.b_l_mixed .nil pass0 (pa_cons (pv 0) (pa_cons pe_int pa_nil))) pe_int) pe_int (nomark _)) (pss_one (ps_set (i := 1) sc_l_word.nd rfl (Or.inl rfl) pe_int)) pss_nil)
      (pss_one (ps_ret (pe_op op_mulA (pe_call (ok_l_sign T) (hr.mono (by decide)) rfl T.m_l_sign T.F_l_sign.kp T.b_l_sign .nil pass0 (pa_cons (pe_call (ok_l_mixed T) (hr.mono (by decide)) rfl T.m_l_mixed T.F_l_mixed.kp T.b_l_mixed .nil pass0 (pa_cons (pv 0) (pa_cons pe_int pa_nil))) pa_nil)) (pv 1)))))), ?_⟩
    walk_at "rd"
    refine ite2 (fun _ => ?_) (fun _ => ?_)
    · exact ⟨by decide, q _ (okS_rep (okS_one _) _)⟩
    · exact ⟨by omega, by omega, by decide, q _ (okS_rep (okS_one _) _)⟩
theorem ok_l_keys (T : Txt K mg a) : FnOk P w K mg base CX0 2 a.f_l_keys a.d_l_keys ["_law_cell", "_law_many"] sp_keysT := by
  refine T.F_l_keys.ok sc_l_keys (fun vs H Q E h => ?_) (fun cdv A outer s H vs Q E hr h => ?_)
  · obtain ⟨c, m, rfl, _⟩ := h
    rfl
  · obtain ⟨c, m, rfl, hm0, hm1, q⟩ := h
    refine ⟨_, (pss_cons (ps_set (i := 2) sc_l_keys.nd rfl (Or.inl rfl) (pe_op (op_plusK (K := K)) pe_int (pe_op op_mod (pe_call (ok_l_mixed T) (hr.mono (by decide)) rfl T.m_l_mixed T.F_l_mixed.kp T.b_l_mixed .nil pass0 (pa_cons (pv 0) (pa_cons pe_int pa_nil))) pe_int)))
      (pss_cons (ps_set (i := 3) sc_l_keys.nd rfl (Or.inl rfl) (pe_op op_mod (pe_call (ok_l_mixed T) (hr.mono (by decide)) rfl T.m_l_mixed T.F_l_mixed.kp T.b_l_mixed .nil pass0 (pa_cons (pv 0) (pa_cons pe_int pa_nil))) (pv 2)))
      (pss_cons (ps_set (i := 4) sc_l_keys.nd rfl (Or.inl rfl) (pe_lst pa_nil))
      (pss_cons (ps_for PassesOwn.never rfl (pi_range1 rfl T.n_range (pa_cons (pv 1) pa_nil)) (pg_name (i := 5) sc_l_keys.nd rfl (Or.inl rfl)) (pss_cons (ps_set (i := 6) sc_l_keys.nd rfl (Or.inl rfl) pe_str)
      (pss_cons (ps_for PassesOwn.never rfl (pi_range1 rfl T.n_range (pa_cons (pv 2) pa_nil)) (pg_name (i := 7) sc_l_keys.nd rfl (Or.inl rfl)) (pss_one (ps_set (i := 6) sc_l_keys.nd rfl (Or.inl rfl) (pe_op (op_plusK (K := K)) (pv 6) (pe_call (ok_l_sign T) (hr.mono (by decide)) rfl T.m_l_sign T.F_l_sign.kp T.b_l_sign .nil pass0 (pa_cons (pe_op (op_plusK (K := K)) (pe_call (ok_l_mixed T) (hr.mono (by decide)) rfl T.m_l_mixed T.F_l_mixed.kp T.b_l_mixed .nil pass0 (pa_cons (pv 0) (pa_cons (pe_op (op_plusK (K := K)) pe_int (pv 7)) pa_nil))) (pe_op op_mulA (pe_op op_mulA pe_int (pv 5)) (pe_callTy (call_intK (K := K)) rfl T.n_int boot_int (pa_cons (pe_cmpR (op_eqK (K := K) (hU hr)) (pv 7) (pv 3) (nomark _)) pa_nil)))) pa_nil))))))
      (pss_one (ps_expr (pe_bmK (K := K) PySem.F.plainAttrs_list PySem.F.slot_list_append PySem.F.type_list_append mt_append (pv 4) (pa_cons (pv 6) pa_nil)))))))
      (pss_cons (ps_if (pt_cmpR (op_eqK (K := K) (hU hr)) (pe_op op_mod (pe_call (ok_l_mixed T) (hr.mono (by decide)) rfl T.m_l_mixed T.F_l_mixed.kp T.b_l_mixed .nil pass0 (pa_cons (pv 0) (pa_cons pe_int pa_nil))) pe_int) pe_int (nomark _)) (pss_one (ps_setc (i := 4) ["_law_cell", "_law_many", "_law_size", "_law_at", "_law_some", "_law_k", "_law_key", "_law_j"] ["_law_cell", "_law_many", "_law_size", "_law_at", "_law_some", "", "_law_key", "_law_j"] (defScope s_l_keys) (by exact ⟨rfl, by decide +kernel, by decide +kernel, by decide +kernel, by decide +kernel, by decide +kernel, by decide +kernel, by decide +kernel, by decide +kernel⟩) (pi_range1 rfl T.n_range (pa_cons (pv 1) pa_nil)) (fun C₁ s₁ H₁ f₁ => (pe_op op_mulA (pe_call (ok_l_sign T) (hr.mono (by decide)) rfl T.m_l_sign T.F_l_sign.kp T.b_l_sign .nil pass0 (pa_cons (pe_call (ok_l_mixed T) (hr.mono (by decide)) rfl T.m_l_mixed T.F_l_mixed.kp T.b_l_mixed .nil pass0 (pa_cons (pv 1) (pa_cons pe_int pa_nil))) pa_nil)) (pe_op (op_plusK (K := K)) (pv 0) pe_int))) sc_l_keys.nd)) pss_nil)
      (pss_one (ps_ret (pv 4)))))))), ?_⟩
    walk_at "rd"
    have h24 : 0 ≤ mixN c 1 % 24 ∧ mixN c 1 % 24 < 24 := by omega
    have e0 : Str.ofString "" = S [] := by decide +kernel
    rw [e0]
    generalize hlg : 1 + mixN c 1 % 24 = lg
    have hlg1 : 1 ≤ lg ∧ lg ≤ 24 := by omega
    generalize hat : mixN c 2 % lg = at0
    refine ⟨by omega, Nat.zero_le _, fun p hp => ⟨by omega, by omega, ?_⟩⟩
    refine forW_range (fun i σ H' => ∃ ks : List (List Nat), ks.length = i ∧ (∀ k ∈ ks, okS k) ∧ Same H H' ∧ H' p = some (.lst (ks.map fun l => V.str (S l))) ∧ ∃ v5 v6 v7, σ = [some (V.int c), some (V.int m), some (V.int lg), some (V.int at0), some (V.ref p), v5, v6, v7]) ⟨[], rfl, by simp, Same.upd hp, upd_same, none, none, none, rfl⟩ ?_ ?_
    · rintro i σ H' hi ⟨ks, hks, hok, hs, hpl, v5, v6, v7, rfl⟩
      walk_at "rd"
      refine ⟨by omega, by omega, ?_⟩
      refine forW_range (fun j σ H2 => H2 = H' ∧ ∃ (l : List Nat) (v7 : Option V), l.length = j ∧ okS l ∧ σ = [some (V.int c), some (V.int m), some (V.int lg), some (V.int at0), some (V.ref p), some (V.int (0 + (i : Int))), some (V.str (S l)), v7]) ⟨rfl, [], v7, rfl, by intro c hc; simp at hc, rfl⟩ ?_ ?_
      · rintro j σ H2 hj ⟨rfl, l, v7, hl, hlo, rfl⟩
        walk_at "rd"
        refine ⟨.inl (by omega), Nat.le_trans (show l.length + 1 ≤ 100 by omega) (by decide), _, ?_, okS_app hlo (okS_one _), rfl⟩
        rw [List.length_append, List.length_singleton, hl]
      · rintro σ H2 ⟨rfl, l, v7, hl, hlo, rfl⟩
        walk_at "rd"
        refine ⟨.inl ⟨_, .inl (.inl hpl)⟩, _, hpl, ?_, ks ++ [l], by simp; omega, ?_, fun b u hb => (upd_ne (ne_of_none hb hp)).trans (hs b u hb), ?_⟩
        · rw [List.length_map]; exact Nat.lt_of_le_of_lt (show ks.length ≤ 36 by omega) (by decide)
        · intro k hk
          rcases List.mem_append.mp hk with hk | hk
          · exact hok k hk
          · rw [List.mem_singleton.mp hk]; exact hlo
        · rw [List.map_append]; exact upd_same
    · rintro σ H' ⟨ks, hks, hok, hs, hpl, v5, v6, v7, rfl⟩
      walk_at "rd"
      refine ite2 (fun _ => ⟨by omega, by omega, compW_range (Nat.le_trans (show m.toNat ≤ 36 by omega) (by decide)) (fun k => .str (S (repL (0 + (k : Int) + 1).toNat [sgn (mixN c 31) 94]))) (fun k H2 hk s2 Qe qe => ?_) fun D H2 hD s2 hl => ?_⟩) (fun _ => q p H' ks hp hs (by omega) hok hpl)
      · walk_at "rd"
        exact ⟨by omega, by omega, by decide, qe _ (Same.refl _)⟩
      · refine q D H2 ((List.range m.toNat).map fun (k : Nat) => repL (0 + (k : Int) + 1).toNat [sgn (mixN c 31) 94]) (same_back hs hD) (hs.trans s2) (by rw [List.length_map, List.length_range]; omega) (fun k hk => ?_) (by rw [hl, List.map_map]; rfl)
        obtain ⟨j, _, rfl⟩ := List.mem_map.mp hk
        exact okS_rep (okS_one _) _

theorem ok_l_table (T : Txt K mg a) : FnOk P w K mg base CX0 1 a.f_l_table a.d_l_table ["_law_letters"] (sp_table K) := by
  refine T.F_l_table.ok sc_l_table (fun vs H Q E h => ?_) (fun cdv A outer s H vs Q E hr h => ?_)
  · obtain ⟨p, ls, rfl, _⟩ := h
    rfl
  · obtain ⟨p, ls, rfl, hp, hlen, q⟩ := h
    refine ⟨_, (pss_cons (ps_set (i := 1) sc_l_table.nd rfl (Or.inl rfl) pe_dnewK)
      (pss_cons (ps_set (i := 2) sc_l_table.nd rfl (Or.inl rfl) (pe_lst pa_nil))
      (pss_cons (ps_for PassesOwn.never rfl (pi_reversed rfl T.n_reversed (pa_cons (pv 0) pa_nil)) (pg_tupK (K := K) (n := 3) rfl (pgs_cons (pg_name (i := 3) sc_l_table.nd rfl (Or.inl rfl)) (pgs_cons (pg_name (i := 4) sc_l_table.nd rfl (Or.inl rfl)) (pgs_cons (pg_name (i := 5) sc_l_table.nd rfl (Or.inl rfl)) pgs_nil)))) (pss_one (ps_if (pt_cmpR (op_notInK (K := K) (hU1 hr)) (pv 4) (pv 2) (by rfl)) (pss_cons (ps_expr (pe_bmK (K := K) PySem.F.plainAttrs_list PySem.F.slot_list_append PySem.F.type_list_append mt_append (pv 2) (pa_cons (pv 4) pa_nil)))
      (pss_one (ps_if (pt_cmp (pc_notN (pv 5))) (pss_one (ps_asg (pv 5) (pg_sub (pv 1) (pv 4) (set_any (hU1 hr))))) pss_nil))) pss_nil)))
      (pss_one (ps_ret (pv 1)))))), ?_⟩
    walk_at "rd"
    obtain ⟨ts, hts, htl, htat⟩ := hp.at (K := K)
    rw [List.length_map] at htl
    intro d hd
    refine ⟨Nat.zero_le _, fun se hse => ?_⟩
    have nds : se ≠ d := fun z => by rw [z, upd_same] at hse; cases hse
    have hse0 : H se = none := by rw [upd_ne nds] at hse; exact hse
    have s0 : Same H (upd (upd H d (.dK [])) se (.lst [])) := (Same.upd hd).trans (Same.upd hse)
    refine ⟨ts.map V.ref, s0.seq hts, ?_⟩
    refine forW_rev (fun i σ H' => ∃ (seen : List (List Nat)) (kvs : List (Key × V)), H' d = some (.dK kvs) ∧ H' se = some (.lst (seen.map fun l => V.str (S l))) ∧ Same H H' ∧ TabK kvs (wordAt (ls.drop (ls.length - i))) i ∧ (∀ k, k ∈ seen ↔ lastW (ls.drop (ls.length - i)) k ≠ none) ∧ seen.length ≤ i ∧ ∃ v3 v4 v5, σ = [some (V.ref p), some (V.ref d), some (V.ref se), v3, v4, v5])
      ⟨[], [], (upd_ne (Ne.symm nds)).trans upd_same, upd_same, s0, ?_, ?_, Nat.le_refl _, none, none, none, rfl⟩ (fun i σ H' _ ⟨seen, kvs, _, _, sm, _⟩ => sm.seq hts) ?_ ?_
    · rw [Nat.sub_zero, List.drop_length]; exact TabK.nil.mono (fun q => rfl) (Nat.le_refl _)
    · intro k; rw [Nat.sub_zero, List.drop_length]; simp [lastW]
    · rintro i x σ H' hi hx ⟨seen, kvs, hkv, hsn, sm, tab, iff, hsl, v3, v4, v5, rfl⟩
      obtain ⟨t, r, rfl, hr1, ht⟩ := htat _ _ hx
      rw [List.length_map] at hi hx hr1
      obtain ⟨y, hy, rfl⟩ : ∃ y, ls[ts.length - 1 - i]? = some y ∧ r = l3V y := by
        rw [List.getElem?_map] at hr1
        cases e : ls[ts.length - 1 - i]? with
        | none => rw [e] at hr1; cases hr1
        | some y => rw [e] at hr1; exact ⟨y, rfl, (Option.some.inj hr1).symm⟩
      rw [htl] at hi hy
      have hdp := drop_prev hi hy
      have nse : H' se ≠ none := by rw [hsn]; simp
      refine ⟨t, _, rfl, .inl (.inl (sm _ _ ht)), rfl, ?_⟩
      obtain ⟨pl, ky, wd⟩ := y
      simp only [l3V]
      walk_at "rd"
      refine rNin_f (.inl (.inl (.inl hsn))) rfl (strs_flat seen) ?_
      rw [inV_strs]
      walk_at "rd"
      rw [hdp]
      refine ite2 (fun hin => ?_) (fun hin => ?_)
      · have hnone : lastW (ls.drop (ls.length - i)) ky = none := by
          cases e : lastW (ls.drop (ls.length - i)) ky with
          | none => rfl
          | some z => exact absurd ((iff ky).mpr (by rw [e]; simp)) hin
        have hw := wordAt_cons_new (x := (pl, ky, wd)) hnone
        have hiff : ∀ k, k ∈ seen ++ [ky] ↔ lastW ((pl, ky, wd) :: ls.drop (ls.length - i)) k ≠ none := fun k => by
          rw [lastW_cons_ne, List.mem_append, List.mem_singleton, iff k]
          exact Or.comm
        refine ⟨.inl ⟨_, .inl (.inl hsn)⟩, _, hsn, by rw [List.length_map]; exact Nat.lt_of_le_of_lt (show seen.length ≤ 100 by omega) (by decide), ?_⟩
        have hkv2 : upd H' se (.lst (seen.map (fun l => V.str (S l)) ++ [V.str (S ky)])) d = some (.dK kvs) := (upd_ne (Ne.symm nds)).trans hkv
        have hsn2 : upd H' se (.lst (seen.map (fun l => V.str (S l)) ++ [V.str (S ky)])) se = some (.lst ((seen ++ [ky]).map fun l => V.str (S l))) := by rw [List.map_append]; exact upd_same
        cases wd with
        | none =>
          simp only [wV]
          walk_at "rd"
          have hwn : ∀ q, wordAt (ls.drop (ls.length - i)) q = wordAt ((pl, ky, none) :: ls.drop (ls.length - i)) q := fun q => by
            rw [← hw q]
            by_cases e : q = ky
            · subst e
              show _ = if q = q then none else _
              rw [if_pos rfl]
              unfold wordAt
              rw [hnone]
              rfl
            · show _ = if q = ky then none else _
              rw [if_neg e]
          exact ⟨seen ++ [ky], kvs, hkv2, hsn2, sm.wr hse0, tab.mono hwn (Nat.le_succ i), hiff, by rw [List.length_append, List.length_singleton]; omega⟩
        | some w0 =>
          simp only [wV]
          walk_at "rd"
          refine rSetA_d (DPut.k (k := .inr (S ky)) hkv2 (Nat.lt_of_le_of_lt tab.len (Nat.lt_of_le_of_lt (show i ≤ 100 by omega) (by decide)))) ?_
          exact ⟨seen ++ [ky], _, upd_same, (upd_ne nds).trans hsn2, (sm.wr hse0).wr hd, (tab.put ky w0).mono (fun q => by rw [← hw q]) (Nat.le_refl _), hiff, by rw [List.length_append, List.length_singleton]; omega⟩
      · have hold : lastW (ls.drop (ls.length - i)) ky ≠ none := (iff ky).mp (Classical.not_not.mp hin)
        refine ⟨seen, kvs, hkv, hsn, sm, tab.mono (wordAt_cons_old (x := (pl, ky, wd)) hold) (Nat.le_succ i), fun k => ?_, by omega⟩
        rw [lastW_cons_ne, iff k]
        exact ⟨.inr, fun z => z.elim (fun z => by rw [z]; exact hold) id⟩
    · rintro σ H' ⟨seen, kvs, hkv, hsn, sm, tab, iff, hsl, v3, v4, v5, rfl⟩
      walk_at "rd"
      rw [List.length_map, htl, Nat.sub_self, List.drop_zero] at tab
      exact q d H' hd sm ⟨kvs, hkv, tab⟩
theorem ok_l_is_table (T : Txt K mg a) : FnOk P w K mg base CX0 1 a.f_l_is_table a.d_l_is_table ["_law_found", "_law_due"] sp_is_table := by
  refine T.F_l_is_table.ok sc_l_is_table (fun vs H Q E h => ?_) (fun cdv A outer s H vs Q E hr h => ?_)
  · obtain ⟨d, e, f, n, m, rfl, _⟩ := h
    rfl
  · obtain ⟨d, e, f, n, m, rfl, ⟨k1, hd, t1⟩, ⟨k2, he, t2⟩, hne, q⟩ := h
    refine ⟨_, (pss_cons (ps_if (PW.pt (pw_or (pt_not (pt_truthK (K := K) (pe_callB (call_isinstanceK (K := K)) (by rfl) T.n_isinstance boot_isinstance (pa_cons (pv 0) (pa_cons (pe_bltn (v := .ty "dict") rfl T.n_dict boot_dict rfl) pa_nil))) (by intro _; rfl))) (pw_or1 (pt_cmpR (op_neK (K := K) (hU hr)) (pe_callB (call_lenK (K := K)) (by rfl) T.n_len boot_len (pa_cons (pv 0) pa_nil)) (pe_callB (call_lenK (K := K)) (by rfl) T.n_len boot_len (pa_cons (pv 1) pa_nil)) (nomark _))))) (pss_one (ps_ret pe_bl)) pss_nil)
      (pss_cons (ps_forD PassesOwn.never rfl (pi_keys (pv 1)) (pg_name (i := 2) sc_l_is_table.nd rfl (Or.inl rfl)) (pss_one (ps_if (PW.pt (pw_or (pt_cmpR (op_notInK (K := K) (hU1 hr)) (pv 2) (pv 0) (by rfl)) (pw_or (pt_not (pt_truthK (K := K) (pe_callB (call_isinstanceK (K := K)) (by rfl) T.n_isinstance boot_isinstance (pa_cons (pe_ix (ix_anyK (K := K) (hU1 hr)) (pv 0) (pv 2) (fun _ _ => rfl)) (pa_cons (pe_bltn (v := .ty "str") rfl T.n_str boot_str rfl) pa_nil))) (by intro _; rfl))) (pw_or1 (pt_cmpR (op_neK (K := K) (hU hr)) (pe_ix (ix_anyK (K := K) (hU1 hr)) (pv 0) (pv 2) (fun _ _ => rfl)) (pe_ix (ix_anyK (K := K) (hU1 hr)) (pv 1) (pv 2) (fun _ _ => rfl)) (nomark _)))))) (pss_one (ps_ret pe_bl)) pss_nil)))
      (pss_one (ps_ret pe_bl)))), ?_⟩
    walk_at "rd"
    simp only [isi_dK_dict hd]
    walk_at "rd"
    refine rLen_d hd (rLen_d he ?_)
    walk_at "rd"
    rw [TabK.len_eq t1 t2]
    rw [if_neg (by simp)]
    refine ⟨k2, he, fun od => ?_⟩
    refine forW_keys (fun i σ H' => H' = upd H e (.frz od (.dK k2)) ∧ ∃ v, σ = [some (V.ref d), some (V.ref e), v]) ⟨rfl, none, rfl⟩ (fun i σ H' _ h => by rw [h.1]; exact upd_same) ?_ ?_
    · rintro i k x σ H' hk hv ⟨rfl, v, rfl⟩
      obtain ⟨z, rfl⟩ : ∃ z, k = .inr (S z) := by
        cases k with
        | inl j => rw [t2.int] at hv; cases hv
        | inr z => exact ⟨_, by rw [← S_of z]⟩
      have hv2 := t2.val z
      rw [hv] at hv2
      obtain ⟨w0, hw0⟩ : ∃ w0, f z = some w0 := by
        cases e : f z with
        | none => rw [e] at hv2; cases hv2
        | some w0 => exact ⟨w0, rfl⟩
      rw [hw0] at hv2
      have hx : x = .str (S w0) := Option.some.inj hv2
      subst hx
      have hd' : upd H e (.frz od (.dK k2)) d = some (.dK k1) := (upd_ne hne).trans hd
      have g1 : DGet (upd H e (.frz od (.dK k2))) d (.str (S z)) (some (.str (S w0))) := by
        have := DGet.k (k := .inr (S z)) hd'
        rw [t1.val z, hw0] at this
        exact this
      have g2 : DGet (upd H e (.frz od (.dK k2))) e (.str (S z)) (some (.str (S w0))) := .inl ⟨k2, .inr (S z), .inr ⟨od, upd_same⟩, rfl, hv.symm⟩
      simp only [kV]
      walk_at "rd"
      refine rNin_d g1 ?_
      walk_at "rd"
      refine rIxA_d g1 ?_
      walk_at "rd"
      refine rIxA_d g1 (rIxA_d g2 ?_)
      walk_at "rd"
    · rintro σ H' ⟨rfl, v, rfl⟩
      refine ⟨upd_same, ?_⟩
      walk_at "rd"
      refine q _ fun b o hb => ?_
      by_cases eb : b = e
      · subst eb; rw [he] at hb; cases hb; exact upd_same
      · exact (upd_ne eb).trans ((upd_ne eb).trans hb)


theorem ok_table_of (T : Txt K mg a) : FnOk P w K mg base CX0 1 a.f_table_of a.d_table_of ["letters"] (sp_table K) := by
  refine T.F_table_of.ok sc_table_of (fun vs H Q E h => ?_) (fun cdv A outer s H vs Q E hr h => ?_)
  · obtain ⟨p, ls, rfl, _⟩ := h
    rfl
  · obtain ⟨p, ls, rfl, hp, hlen, q⟩ := h
    refine ⟨_, (pss_cons (ps_set (i := 1) sc_table_of.nd rfl (Or.inl rfl) pe_dnewK)
      (pss_cons (ps_for PassesOwn.never rfl (pi_anyK (K := K) (pv 0)) (pg_tupK (K := K) (n := 3) rfl (pgs_cons (pg_name (i := 2) sc_table_of.nd rfl (Or.inl rfl)) (pgs_cons (pg_name (i := 3) sc_table_of.nd rfl (Or.inl rfl)) (pgs_cons (pg_name (i := 4) sc_table_of.nd rfl (Or.inl rfl)) pgs_nil)))) (pss_one (ps_if (pt_cmp (pc_isN (pv 4))) (pss_one (ps_expr (pe_dpop2 (pv 1) (pv 3) pe_non ⟨rfl, rfl, rfl, rfl⟩))) (pss_one (ps_asg (pv 4) (pg_sub (pv 1) (pv 3) (set_any (hU1 hr))))))))
      (pss_one (ps_ret (pv 1))))), ?_⟩
    walk_at "rd"
    obtain ⟨ts, hts, htl, htat⟩ := hp.at (K := K)
    rw [List.length_map] at htl
    intro d hd
    refine rAny_l ((Same.upd hd).seq hts) ?_
    refine forW_list (xs := ts.map V.ref) (fun i σ H' => ∃ kvs : List (Key × V), H' d = some (.dK kvs) ∧ Same H H' ∧ TabK kvs (wordAt (ls.take i)) i ∧ ∃ v2 v3 v4, σ = [some (V.ref p), some (V.ref d), v2, v3, v4]) ⟨[], upd_same, Same.upd hd, TabK.nil.mono (fun q => rfl) (Nat.le_refl _), none, none, none, rfl⟩ (fun i σ H' _ ⟨kvs, _, sm, _⟩ => sm.seq hts) ?_ ?_
    · rintro i x σ H' hx ⟨kvs, hkv, sm, tab, v2, v3, v4, rfl⟩
      obtain ⟨t, r, rfl, hr1, ht⟩ := htat _ _ hx
      obtain ⟨y, hy, rfl⟩ : ∃ y, ls[i]? = some y ∧ r = l3V y := by
        rw [List.getElem?_map] at hr1
        cases e : ls[i]? with
        | none => rw [e] at hr1; cases hr1
        | some y => rw [e] at hr1; exact ⟨y, rfl, (Option.some.inj hr1).symm⟩
      have hi := (List.getElem?_eq_some_iff.mp hy).1
      have htk : ls.take (i + 1) = ls.take i ++ [y] := by rw [List.take_add_one, hy]; rfl
      refine ⟨t, _, rfl, .inl (.inl (sm _ _ ht)), rfl, ?_⟩
      obtain ⟨pl, ky, wd⟩ := y
      simp only [l3V]
      rw [htk]
      have hw := wordAt_snoc (ls.take i) (pl, ky, wd)
      cases wd with
      | none =>
        simp only [wV]
        walk_at "rd"
        have tab' : TabK (dropK kvs (.inr (S ky))) (wordAt (ls.take i ++ [(pl, ky, none)])) (i + 1) := (tab.drop ky).mono (fun q => by rw [hw q]; exact if_swap) (Nat.le_succ i)
        refine ⟨.inl ⟨kvs, .inl hkv⟩, kvs, hkv, .inr (S ky), rfl, fun v hv => ⟨_, upd_same, sm.wr hd, tab'⟩, fun hv => ⟨kvs, hkv, sm, tab.mono (fun q => ?_) (Nat.le_succ i)⟩⟩
        rw [hw q]
        by_cases e : q = ky
        · subst e
          show _ = if q = q then none else _
          rw [if_pos rfl]
          have := tab.val q
          rw [hv] at this
          cases e2 : wordAt (ls.take i) q with
          | none => rfl
          | some z => rw [e2] at this; cases this
        · show _ = if ky = q then none else _
          rw [if_neg (Ne.symm e)]
      | some w0 =>
        simp only [wV]
        walk_at "rd"
        refine rSetA_d (DPut.k (k := .inr (S ky)) hkv (Nat.lt_of_le_of_lt tab.len (Nat.lt_of_le_of_lt (show i ≤ 100 by omega) (by decide)))) ?_
        refine ⟨_, upd_same, sm.wr hd, (tab.put ky w0).mono (fun q => ?_) (Nat.le_refl _)⟩
        rw [hw q]
        exact if_swap
    · rintro σ H' ⟨kvs, hkv, sm, tab, v2, v3, v4, rfl⟩
      walk_at "rd"
      rw [List.length_map, htl, List.take_of_length_le (Nat.le_refl _)] at tab
      exact q d H' hd sm ⟨kvs, hkv, tab⟩

theorem ok_Row___init__ (T : Txt K mg a) : FnOk P w K mg base CX0 1 a.f_Row___init__ a.d_Row___init__ ["self"] (sp_row_init a.C_Row) := by
  refine T.F_Row___init__.ok sc_Row___init__ (fun vs H Q E h => ?_) (fun cdv A outer s H vs Q E hr h => ?_)
  · obtain ⟨x, dx, rfl, _⟩ := h
    rfl
  · obtain ⟨x, dx, rfl, hx, q⟩ := h
    refine ⟨_, (pss_cons (ps_fld (pv 0) pe_int rfl)
      (pss_cons (ps_fld (pv 0) pe_int rfl)
      (pss_cons (ps_fld (pv 0) pe_int rfl)
      (pss_one (ps_fld (pv 0) pe_dnewK rfl))))), ?_⟩
    walk_at "rd"
    refine ⟨_, dx, [], hx, T.cl_Row, T.no_Row_first, by decide, _, dx, _, upd_same, T.cl_Row, T.no_Row_end, by decide, _, dx, _, upd_same, T.cl_Row, T.no_Row_drawn, by decide, fun d hd => ?_⟩
    have hdx : d ≠ x := fun z => by rw [z, upd_same] at hd; cases hd
    rw [upd_ne hdx, upd_ne hdx, upd_ne hdx] at hd
    refine ⟨_, dx, _, (upd_ne (Ne.symm hdx)).trans upd_same, T.cl_Row, T.no_Row_letters, by decide, ?_⟩
    refine q d _ hd hdx ?_ ⟨⟨dx, upd_same⟩, ⟨[], (upd_ne hdx).trans upd_same, by decide, fun p => ⟨rfl, rfl⟩⟩, by decide, by decide, by decide, fun p h => by cases h⟩
    have m : x ∈ [x] := by simp
    refine (Chg.upd m (mut_ins hx)).trans ((Chg.upd m (mut_ins upd_same)).trans ((Chg.upd m (mut_ins upd_same)).trans ((Chg.new (by rw [upd_ne hdx, upd_ne hdx, upd_ne hdx]; exact hd)).trans (Chg.upd m (mut_ins ((upd_ne (Ne.symm hdx)).trans upd_same))))))

theorem ok_Row_add (T : Txt K mg a) : FnOk P w K mg base CX0 1 a.f_Row_add a.d_Row_add ["self", "key", "word", "deed"] (sp_row_add a.C_Row) := by
  refine T.F_Row_add.ok sc_Row_add (fun vs H Q E h => ?_) (fun cdv A outer s H vs Q E hr h => ?_)
  · obtain ⟨r, d, M, x, rfl, _⟩ := h
    rfl
  · obtain ⟨r, d, M, x, rfl, R, hb, q⟩ := h
    refine ⟨_, (pss_cons (ps_set (i := 4) sc_Row_add.nd rfl (Or.inl rfl) (pe_fldK (K := K) (pv 0) rfl))
      (pss_cons (ps_asg (pe_tup (pa_cons (pv 1) (pa_cons (pv 2) (pa_cons (pv 3) pa_nil)))) (pg_sub (pe_fldK (K := K) (pv 0) rfl) (pv 4) (set_any (hU1 hr))))
      (pss_cons (ps_fld (pv 0) (pe_op (op_plusK (K := K)) (pv 4) pe_int) rfl)
      (pss_one (ps_ret (pv 4)))))), ?_⟩
    obtain ⟨dx, hr⟩ := R.obj
    obtain ⟨kvs, hd, hk, hl⟩ := R.dict
    walk_at "rd"
    refine ⟨_, dx, _, hr, T.cl_Row, T.no_Row_end, _, rowF_end M d, by decide, fun t ht => ?_⟩
    have htr : t ≠ r := fun z => by rw [z, hr] at ht; cases ht
    have htd : t ≠ d := fun z => by rw [z, hd] at ht; cases ht
    have hdr : d ≠ r := Ne.symm R.ne
    have hr1 : upd H t (.tup (letV x)) r = some (.ins a.C_Row dx (rowF M d)) := (upd_ne (Ne.symm htr)).trans hr
    have hd1 : upd H t (.tup (letV x)) d = some (.dK kvs) := (upd_ne (Ne.symm htd)).trans hd
    have hz : kvs.length < sizeLine := Nat.lt_of_le_of_lt (show kvs.length ≤ 100000 by omega) (by decide)
    refine ⟨_, dx, _, hr1, T.cl_Row, T.no_Row_letters, _, rowF_letters M d, rSetA_d (DPut.k (k := .inl M.last) hd1 hz) ?_⟩
    walk_at "rd"
    refine ⟨_, dx, _, (upd_ne (Ne.symm hdr)).trans hr1, T.cl_Row, T.no_Row_end, (show 4 < 1000 by decide), ?_⟩
    have c1 : Chg [r, d] H (upd H t (.tup (letV x))) := Chg.new ht
    have c2 : Chg [r, d] (upd H t (.tup (letV x))) (upd (upd H t (.tup (letV x))) d (.dK (putK kvs (.inl M.last) (.ref t)))) := Chg.upd (by simp) (mut_dK hd1)
    have c3 : Chg [r, d] (upd (upd H t (.tup (letV x))) d (.dK (putK kvs (.inl M.last) (.ref t)))) _ := Chg.upd (o := .ins a.C_Row dx (putF (Str.ofString "end") (.int (M.last + 1)) (rowF M d))) (show r ∈ [r, d] by simp) (mut_ins ((upd_ne (Ne.symm hdr)).trans hr1))
    have c := c1.trans (c2.trans c3)
    have l0 : LetsAt (upd H t (.tup (letV x))) (putK kvs (.inl M.last) (.ref t)) (fun q => if q = M.last then some x else M.L q) := (hl.chg c1).put upd_same
    refine q _ c ⟨⟨dx, upd_same⟩, ⟨_, (upd_ne hdr).trans upd_same, ?_, l0.chg (c2.trans c3)⟩, R.f0, Int.le_trans R.fl (show M.last ≤ M.last + 1 by omega), R.dr, fun p hp => ?_⟩
    · have := length_putK kvs (.inl M.last : Key) (.ref t)
      show ((putK kvs (.inl M.last) (.ref t)).length : Int) ≤ M.last + 1
      omega
    · have f := R.fl
      show M.first ≤ p ∧ p < M.last + 1
      by_cases e : p = M.last
      · omega
      · have hp' : (M.L p).isSome = true := by
          have : (if p = M.last then some x else M.L p).isSome = true := hp
          rwa [if_neg e] at this
        have := R.within p hp'
        omega

theorem ok_Row_at (T : Txt K mg a) : FnOk P w K mg base CX0 1 a.f_Row_at a.d_Row_at ["self", "place"] (sp_row_at a.C_Row) := by
  refine T.F_Row_at.ok sc_Row_at (fun vs H Q E h => ?_) (fun cdv A outer s H vs Q E hr h => ?_)
  · obtain ⟨r, d, M, p, rfl, _⟩ := h
    rfl
  · obtain ⟨r, d, M, p, rfl, R, q⟩ := h
    refine ⟨_, (pss_one (ps_ret (pe_dget1 (hU1 hr) (pe_fldK (K := K) (pv 0) rfl) (pv 1) ⟨rfl, rfl, rfl, rfl⟩))), ?_⟩
    obtain ⟨dx, hr⟩ := R.obj
    obtain ⟨kvs, hd, hk, hl⟩ := R.dict
    walk_at "rd"
    exact ⟨_, dx, _, hr, T.cl_Row, T.no_Row_letters, _, rowF_letters M d, d, rfl, .inl ⟨kvs, .inl hd⟩, _, DGet.k (k := .inl p) hd, q _ (hl p).1⟩

theorem ok_Row_seen (T : Txt K mg a) : FnOk P w K mg base CX0 2 a.f_Row_seen a.d_Row_seen ["self", "start", "limit", "most"] (sp_row_seen a.C_Row) := by
  refine T.F_Row_seen.ok sc_Row_seen (fun vs H Q E h => ?_) (fun cdv A outer s H vs Q E hr h => ?_)
  · obtain ⟨r, d, M, st, li, mo, rfl, _⟩ := h
    rfl
  · obtain ⟨r, d, M, st, li, mo, rfl, R, hb, h0, h1, h2, h3, q⟩ := h
    refine ⟨_, (pss_cons (ps_set (i := 4) sc_Row_seen.nd rfl (Or.inl rfl) (pe_lst pa_nil))
      (pss_cons (ps_for PassesOwn.never rfl (pi_range2 rfl T.n_range (pa_cons (pe_callB (call_maxA rfl) (by rfl) T.n_max boot_max (pa_cons (pv 1) (pa_cons (pe_fldK (K := K) (pv 0) rfl) pa_nil))) (pa_cons (pe_callB (call_minA rfl) (by rfl) T.n_min boot_min (pa_cons (pv 2) (pa_cons (pe_fldK (K := K) (pv 0) rfl) pa_nil))) pa_nil))) (pg_name (i := 5) sc_Row_seen.nd rfl (Or.inl rfl)) (pss_cons (ps_if (pt_cmpR op_geA (pe_callB (call_lenK (K := K)) (by rfl) T.n_len boot_len (pa_cons (pv 4) pa_nil)) (pv 3) (nomark _)) (pss_one ps_break) pss_nil)
      (pss_cons (ps_set (i := 6) sc_Row_seen.nd rfl (Or.inl rfl) (pe_meth (pv 0) T.cl_Row T.M_Row_at (ok_Row_at T) (hr.mono (by decide)) T.b_Row_at .nil pass0 (pa_cons (pv 5) pa_nil)))
      (pss_one (ps_if (pt_cmp (pc_notN (pv 6))) (pss_one (ps_expr (pe_bmK (K := K) PySem.F.plainAttrs_list PySem.F.slot_list_append PySem.F.type_list_append mt_append (pv 4) (pa_cons (pe_tup (pa_cons (pv 5) (pa_cons (pe_ix (ix_anyK (K := K) (hU1 hr)) (pv 6) pe_int (fun _ _ => rfl)) (pa_cons (pe_ix (ix_anyK (K := K) (hU1 hr)) (pv 6) pe_int (fun _ _ => rfl)) pa_nil)))) pa_nil)))) pss_nil)))))
      (pss_one (ps_ret (pv 4))))), ?_⟩
    obtain ⟨dx, hr⟩ := R.obj
    have f0 := R.f0
    have fl := R.fl
    walk_at "rd"
    refine ⟨by decide, fun D hD => ⟨_, dx, _, (Same.upd hD) _ _ hr, T.cl_Row, T.no_Row_first, _, rowF_first M d, _, rfl, _, dx, _, (Same.upd hD) _ _ hr, T.cl_Row, T.no_Row_end, _, rowF_end M d, _, rfl, by omega, by omega, by omega, by omega, ?_⟩⟩
    generalize hlo : max st M.first = lo
    generalize hn : (min li M.last - lo).toNat = n
    have hn1 : n ≤ 100000 := by omega
    have hseen : M.seenP st li mo = (M.standing lo n).take mo.toNat := by unfold RowM.seenP; rw [hlo, hn]
    rw [hseen] at q
    refine forW_range (fun i σ H' => Same H H' ∧ i ≤ n ∧ LTups H' D (((M.standing lo i).take mo.toNat).map M.rowV) ∧ ∃ v1 v2, σ = [some (V.ref r), some (V.int st), some (V.int li), some (V.int mo), some (V.ref D), v1, v2]) ⟨Same.upd hD, Nat.zero_le _, ⟨[], upd_same, ?_⟩, none, none, rfl⟩ ?_ ?_
    · rw [show M.standing lo 0 = [] from rfl, List.take_nil]
      exact .nil
    · rintro i σ H' hi ⟨hs, hin, ⟨ts, hl, ht⟩, v1, v2, rfl⟩
      have hlen := ht.length
      rw [List.length_map, List.length_take] at hlen
      have hsl := standing_len M lo i
      walk_at "rd"
      refine rLen_l (.inl (.inl hl)) ?_
      walk_at "rd"
      rw [List.length_map]
      refine ite2 (fun hm => ?_) (fun hm => ?_)
      · obtain ⟨more, he⟩ := standing_pre M lo hin
        refine q D H' hD hs ?_
        rw [he, List.take_append_of_le_length (by omega)]
        exact ⟨ts, hl, ht⟩
      · have R' := R.chg (A := []) (Chg.of_same hs) (by simp) (by simp)
        refine ⟨dx, _, hs _ _ hr, rowF_at M d, d, M, R', fun v hv => ?_⟩
        have hlt : (M.standing lo i).length < mo.toNat := by omega
        have e1 : (M.standing lo i).take mo.toNat = M.standing lo i := List.take_of_length_le (by omega)
        rw [e1] at ht
        cases hM : M.L (lo + (i : Int)) with
        | none =>
          rw [hM] at hv
          cases (show v = .non from hv)
          simp only [decide_true, Bool.not_true, Bool.false_eq_true, if_false]
          refine ⟨hs, by omega, ⟨ts, hl, ?_⟩⟩
          rw [standing_succ, hM, if_neg (by simp), List.append_nil, e1]
          exact ht
        | some x =>
          rw [hM] at hv
          obtain ⟨t, rfl, htt⟩ := hv
          have hT : SqT K H' t (letV x) := .inl (.inl htt)
          simp only [reduceCtorEq, decide_false, Bool.not_false, if_true]
          refine ⟨.inl ⟨_, .inl (.inl hl)⟩, rIxA_t (v := .str (S x.1)) hT rfl (rIxA_t (v := wV x.2.1) hT rfl ⟨by decide, fun p hp => ?_⟩)⟩
          have hpD : p ≠ D := fun z => by rw [z, hl] at hp; cases hp
          have hl' : upd H' p (.tup [.int (lo + (i : Int)), .str (S x.1), wV x.2.1]) D = some (.lst (ts.map V.ref)) := (upd_ne (Ne.symm hpD)).trans hl
          refine ⟨_, hl', Nat.lt_of_le_of_lt (show (ts.map V.ref).length ≤ 100000 by rw [List.length_map]; omega) (by decide), ?_⟩
          have c1 : Chg [D] H' (upd H' p (.tup [.int (lo + (i : Int)), .str (S x.1), wV x.2.1])) := Chg.new hp
          have c2 : Chg [D] (upd H' p (.tup [.int (lo + (i : Int)), .str (S x.1), wV x.2.1])) (upd (upd H' p (.tup [.int (lo + (i : Int)), .str (S x.1), wV x.2.1])) D (.lst (ts.map V.ref ++ [V.ref p]))) := Chg.upd (by simp) (mut_lst hl')
          refine ⟨fun b o hb => (c1.trans c2).keep _ _ (hs b o hb) ?_, by omega, ⟨ts ++ [p], ?_, ?_⟩⟩
          · simp only [List.mem_cons, List.not_mem_nil, or_false]
            exact ne_of_none hb hD
          · rw [upd_same, List.map_append]; rfl
          · rw [standing_succ, hM, if_pos (show (some x).isSome = true from rfl), List.take_of_length_le (by rw [List.length_append]; simp; omega), List.map_append]
            refine (ht.chg (c1.trans c2)).snoc ?_
            rw [c2.tup _ _ upd_same]
            simp only [RowM.rowV, hM]
    · rintro σ H' ⟨hs, hin, hl, v1, v2, rfl⟩
      walk_at "rd"
      exact q D H' hD hs hl

theorem ok_Row_take_out (T : Txt K mg a) : FnOk P w K mg base CX0 1 a.f_Row_take_out a.d_Row_take_out ["self", "place"] (sp_row_out a.C_Row) := by
  refine T.F_Row_take_out.ok sc_Row_take_out (fun vs H Q E h => ?_) (fun cdv A outer s H vs Q E hr h => ?_)
  · obtain ⟨r, d, M, p, rfl, _⟩ := h
    rfl
  · obtain ⟨r, d, M, p, rfl, R, q⟩ := h
    refine ⟨_, (pss_one (ps_ret (pe_cmp (pc_notN (pe_dpop2 (pe_fldK (K := K) (pv 0) rfl) (pv 1) pe_non ⟨rfl, rfl, rfl, rfl⟩))))), ?_⟩
    obtain ⟨dx, hr⟩ := R.obj
    obtain ⟨kvs, hd, hk, hl⟩ := R.dict
    have hdr : d ≠ r := Ne.symm R.ne
    walk_at "rd"
    refine ⟨_, dx, _, hr, T.cl_Row, T.no_Row_letters, _, rowF_letters M d, d, rfl, .inl ⟨kvs, .inl hd⟩, kvs, hd, .inl p, rfl, fun v hv => ?_, fun hv => ?_⟩
    · have hs : (M.L p).isSome = true := by rw [← (hl p).2, hv]; rfl
      have hn : v ≠ .non := fun z => by
        have := (hl p).1
        rw [hv] at this
        obtain ⟨x, hx⟩ := Option.isSome_iff_exists.mp hs
        rw [hx] at this
        obtain ⟨t, et, _⟩ := this
        rw [z] at et
        cases et
      rw [show (!decide (v = V.non)) = (M.L p).isSome by rw [hs, decide_eq_false hn]; rfl]
      have c : Chg [d] H (upd H d (.dK (dropK kvs (.inl p)))) := Chg.upd (by simp) (mut_dK hd)
      refine q _ c ⟨⟨dx, (upd_ne (Ne.symm hdr)).trans hr⟩, ⟨_, upd_same, ?_, (hl.drop p).chg c⟩, R.f0, R.fl, R.dr, fun z hz => ?_⟩
      · have := dropK_le kvs (.inl p : Key)
        show ((dropK kvs (.inl p)).length : Int) ≤ M.last
        omega
      · have hz' : (if z = p then none else M.L z).isSome = true := hz
        by_cases e : z = p
        · rw [if_pos e] at hz'; cases hz'
        · rw [if_neg e] at hz'; exact R.within z hz'
    · have hs : M.L p = none := by
        have := (hl p).2
        rw [hv] at this
        simpa using this.symm
      rw [show (!decide True) = (M.L p).isSome by rw [hs]; rfl]
      have e : M.out p = M := by
        unfold RowM.out
        have : (fun q => if q = p then none else M.L q) = M.L := by
          funext z
          by_cases ez : z = p
          · rw [if_pos ez, ez, hs]
          · rw [if_neg ez]
        rw [this]
      exact q H (Chg.refl _) (by rw [e]; exact R)

theorem ok_Row_raise_drawn (T : Txt K mg a) : FnOk P w K mg base CX0 1 a.f_Row_raise_drawn a.d_Row_raise_drawn ["self", "place"] (sp_row_raise a.C_Row) := by
  refine T.F_Row_raise_drawn.ok sc_Row_raise_drawn (fun vs H Q E h => ?_) (fun cdv A outer s H vs Q E hr h => ?_)
  · obtain ⟨r, d, M, p, rfl, _⟩ := h
    rfl
  · obtain ⟨r, d, M, p, rfl, R, q⟩ := h
    refine ⟨_, (pss_one (ps_fld (pv 0) (pe_callB (call_maxA rfl) (by rfl) T.n_max boot_max (pa_cons (pe_fldK (K := K) (pv 0) rfl) (pa_cons (pv 1) pa_nil))) rfl)), ?_⟩
    obtain ⟨dx, hr⟩ := R.obj
    obtain ⟨kvs, hd, hk, hl⟩ := R.dict
    have hdr : d ≠ r := Ne.symm R.ne
    walk_at "rd"
    refine ⟨_, dx, _, hr, T.cl_Row, T.no_Row_drawn, _, rowF_drawn M d, _, rfl, _, dx, _, hr, T.cl_Row, T.no_Row_drawn, (show 4 < 1000 by decide), ?_⟩
    have c : Chg [r] H (upd H r (.ins a.C_Row dx (putF (Str.ofString "drawn") (.int (max M.drawn p)) (rowF M d)))) := Chg.upd (by simp) (mut_ins hr)
    exact q _ c ⟨⟨dx, upd_same⟩, ⟨kvs, (upd_ne hdr).trans hd, hk, hl.chg c⟩, R.f0, R.fl, Int.le_trans R.dr (show M.drawn ≤ max M.drawn p by omega), R.within⟩

theorem ok_drawn_away (T : Txt K mg a) : FnOk P w K mg base CX0 3 a.f_drawn_away a.d_drawn_away ["row", "floor", "passed"] (sp_drawn a.C_Row) := by
  refine T.F_drawn_away.ok sc_drawn_away (fun vs H Q E h => ?_) (fun cdv A outer s H vs Q E hr h => ?_)
  · obtain ⟨r, d, M, fl, pa, rfl, _⟩ := h
    rfl
  · obtain ⟨r, d, M, fl, pa, rfl, R, hlast, hfl, q⟩ := h
    refine ⟨_, (pss_cons (ps_set (i := 3) sc_drawn_away.nd rfl (Or.inl rfl) (pe_meth (pv 0) T.cl_Row T.M_Row_seen (ok_Row_seen T) (hr.mono (by decide)) T.b_Row_seen .nil pass0 (pa_cons pe_int (pa_cons (pv 1) (pa_cons (pe_fldK (K := K) (pv 0) rfl) pa_nil)))))
      (pss_cons (ps_set (i := 4) sc_drawn_away.nd rfl (Or.inl rfl) pe_dnewK)
      (pss_cons (ps_for PassesOwn.never rfl (pi_anyK (K := K) (pv 3)) (pg_tupK (K := K) (n := 3) rfl (pgs_cons (pg_name (i := 5) sc_drawn_away.nd rfl (Or.inl rfl)) (pgs_cons (pg_name (i := 6) sc_drawn_away.nd rfl (Or.inl rfl)) (pgs_cons (pg_name (i := 7) sc_drawn_away.nd rfl (Or.inl rfl)) pgs_nil)))) (pss_one (ps_asg (pv 5) (pg_sub (pv 4) (pv 6) (set_any (hU1 hr))))))
      (pss_cons (ps_set (i := 8) sc_drawn_away.nd rfl (Or.inl rfl) (pe_lst pa_nil))
      (pss_cons (ps_for PassesOwn.never rfl (pi_anyK (K := K) (pv 3)) (pg_tupK (K := K) (n := 3) rfl (pgs_cons (pg_name (i := 5) sc_drawn_away.nd rfl (Or.inl rfl)) (pgs_cons (pg_name (i := 6) sc_drawn_away.nd rfl (Or.inl rfl)) (pgs_cons (pg_name (i := 7) sc_drawn_away.nd rfl (Or.inl rfl)) pgs_nil)))) (pss_cons (ps_set (i := 9) sc_drawn_away.nd rfl (Or.inl rfl) (pe_cmpR (op_eqK (K := K) (hU hr)) (pe_ix (ix_anyK (K := K) (hU1 hr)) (pv 4) (pv 6) (fun _ _ => rfl)) (pv 5) (nomark _)))
      (pss_one (ps_if (PW.pt (pw_or (pt_not (pt_truthK (K := K) (pv 9) (by intro _; rfl))) (pw_or1 (PW.pt (pw_and (pt_cmp (pc_isN (pv 7))) (pw_and1 (pt_cmpR op_ltK (pv 5) (pv 2) (nomark _)))))))) (pss_one (ps_expr (pe_bmK (K := K) PySem.F.plainAttrs_list PySem.F.slot_list_append PySem.F.type_list_append mt_append (pv 8) (pa_cons (pv 5) pa_nil)))) pss_nil))))
      (pss_one (ps_ret (pv 8)))))))), ?_⟩
    obtain ⟨dx, hr⟩ := R.obj
    have f0 := R.f0
    have ffl := R.fl
    walk_at "rd"
    refine ⟨dx, _, hr, rowF_seen M d, _, dx, _, hr, T.cl_Row, T.no_Row_end, _, rowF_end M d, d, M, M.last, rfl, R, by omega, hfl, by omega, fun D H1 hD s1 hT p hp => ?_⟩
    rw [seen_stand f0 ffl (fun p h => (R.within p h).1) hfl (Int.le_refl _)] at hT
    have hll : (M.stand.filter fun x => decide (x.1 < fl)).length ≤ 1000 := Nat.le_trans (List.length_filter_le _ _) (Nat.le_trans (stand_len M) (by omega))
    generalize (M.stand.filter fun x => decide (x.1 < fl)) = ls at hT hll q
    obtain ⟨ts, hts, htl, htat⟩ := hT.at (K := K)
    rw [List.length_map] at htl
    have hget : ∀ (i : Nat) (x : V), (ts.map V.ref)[i]? = some x → ∃ t y, x = .ref t ∧ ls[i]? = some y ∧ H1 t = some (.tup (l3V y)) := fun i x hx => by
      obtain ⟨t, r, rfl, hr1, ht⟩ := htat _ _ hx
      rw [List.getElem?_map] at hr1
      cases e : ls[i]? with
      | none => rw [e] at hr1; cases hr1
      | some y => rw [e] at hr1; cases hr1; exact ⟨t, y, rfl, rfl, ht⟩
    refine rAny_l ((Same.upd hp).seq hts) (forW_list (xs := ts.map V.ref) (fun i σ H' => ∃ kvs : List (Key × V), H' p = some (.dK kvs) ∧ Same H1 H' ∧ kvs.length ≤ i ∧ (∀ k : List Nat, valV kvs (.inr (S k)) = (lastP (ls.take i) k).map V.int) ∧ ∃ v5 v6 v7, σ = [some (V.ref r), some (V.int fl), some (V.int pa), some (V.ref D), some (V.ref p), v5, v6, v7, none, none])
      ⟨[], upd_same, Same.upd hp, Nat.le_refl _, fun k => rfl, none, none, none, rfl⟩ (fun i σ H' _ ⟨_, _, sm, _⟩ => sm.seq hts) ?_ ?_)
    · rintro i x σ H' hx ⟨kvs, hkv, sm, hkl, hv, v5, v6, v7, rfl⟩
      obtain ⟨t, y, rfl, hy, ht⟩ := hget i x hx
      have hi := (List.getElem?_eq_some_iff.mp hy).1
      have htk : ls.take (i + 1) = ls.take i ++ [y] := by rw [List.take_add_one, hy]; rfl
      refine ⟨t, _, rfl, .inl (.inl (sm _ _ ht)), rfl, ?_⟩
      obtain ⟨pl, ky, wd⟩ := y
      simp only [l3V]
      walk_at "rd"
      refine rSetA_d (DPut.k (k := .inr (S ky)) hkv (Nat.lt_of_le_of_lt hkl (Nat.lt_of_le_of_lt (show i ≤ 1000 by omega) (by decide)))) ⟨_, upd_same, sm.wr hp, ?_, fun k => ?_⟩
      · have := length_putK kvs (.inr (S ky) : Key) (.int pl); omega
      · rw [valV_put, htk, lastP_snoc]
        by_cases e : k = ky
        · rw [if_pos (inr_S.mpr e)]
          show _ = (if ky = k then some pl else _).map V.int
          rw [if_pos e.symm]; rfl
        · rw [if_neg (fun z => e (inr_S.mp z)), hv k]
          show _ = (if ky = k then some pl else _).map V.int
          rw [if_neg (Ne.symm e)]
    · rintro σ H2 ⟨kvs, hkv, sm, hkl, hv, v5, v6, v7, rfl⟩
      rw [List.length_map, htl, List.take_of_length_le (Nat.le_refl _)] at hv
      walk_at "rd"
      refine ⟨Nat.zero_le _, fun D2 hD2 => rAny_l ((sm.trans (Same.upd hD2)).seq hts) (forW_list (xs := ts.map V.ref) (fun i σ H' => Same H2 H' ∧ H' D2 = some (.lst (((((ls.take i).filter fun x => !(lastP ls x.2.1 == some x.1) || (x.2.2.isNone && decide (x.1 < pa))).map (·.1)).map V.int))) ∧ ∃ v5 v6 v7 v9, σ = [some (V.ref r), some (V.int fl), some (V.int pa), some (V.ref D), some (V.ref p), v5, v6, v7, some (V.ref D2), v9])
        ⟨Same.upd hD2, upd_same, _, _, _, _, rfl⟩ (fun i σ H' _ h => (sm.trans h.1).seq hts) ?_ ?_)⟩
      · rintro i x σ H' hx ⟨sm2, hDl, v5, v6, v7, v9, rfl⟩
        obtain ⟨t, y, rfl, hy, ht⟩ := hget i x hx
        have hi := (List.getElem?_eq_some_iff.mp hy).1
        have htk : ls.take (i + 1) = ls.take i ++ [y] := by rw [List.take_add_one, hy]; rfl
        have hmem : y ∈ ls := List.mem_of_getElem? hy
        refine ⟨t, _, rfl, .inl (.inl (sm2 _ _ (sm _ _ ht))), rfl, ?_⟩
        obtain ⟨pl, ky, wd⟩ := y
        simp only [l3V]
        obtain ⟨z, hz⟩ : ∃ z, lastP ls ky = some z := by
          cases e : lastP ls ky with
          | some z => exact ⟨z, rfl⟩
          | none => exact absurd rfl (lastP_none.mp e _ hmem)
        have hg : DGet H' p (.str (S ky)) (some (.int z)) := by
          have := DGet.k (k := .inr (S ky)) (sm2 _ _ hkv)
          rw [hv ky, hz] at this
          exact this
        have hP : ∀ b : Bool, (!(lastP ls ky == some pl) || (wd.isNone && decide (pl < pa))) = b → ((ls.take (i + 1)).filter fun x => !(lastP ls x.2.1 == some x.1) || (x.2.2.isNone && decide (x.1 < pa))).map (·.1) = ((ls.take i).filter fun x => !(lastP ls x.2.1 == some x.1) || (x.2.2.isNone && decide (x.1 < pa))).map (·.1) ++ (if b = true then [pl] else []) := fun b hb => by
          rw [htk, List.filter_append, List.map_append]
          congr 1
          rw [List.filter_cons]
          show List.map _ (if (!(lastP ls ky == some pl) || (wd.isNone && decide (pl < pa))) = true then _ else _) = _
          rw [hb]
          cases b <;> rfl
        have hzl : (lastP ls ky == some pl) = decide (z = pl) := by rw [hz]; by_cases e : z = pl <;> simp [e]
        rw [hzl] at hP
        have lb : (((ls.take i).filter fun x => !(lastP ls x.2.1 == some x.1) || (x.2.2.isNone && decide (x.1 < pa))).map (·.1)).length ≤ 1000 := by
          rw [List.length_map]
          exact Nat.le_trans (List.length_filter_le _ _) (by rw [List.length_take]; omega)
        generalize ((ls.take i).filter fun x => !(lastP ls x.2.1 == some x.1) || (x.2.2.isNone && decide (x.1 < pa))).map (·.1) = acc at hP lb hDl
        have app : (!decide (z = pl) || (wd.isNone && decide (pl < pa))) = true → Same H2 (upd H' D2 (.lst (acc.map V.int ++ [V.int pl]))) ∧ upd H' D2 (.lst (acc.map V.int ++ [V.int pl])) D2 = some (.lst ((((ls.take (i + 1)).filter fun x => !(lastP ls x.2.1 == some x.1) || (x.2.2.isNone && decide (x.1 < pa))).map (·.1)).map V.int)) := fun hb => by
          rw [hP true hb, if_pos rfl, List.map_append]
          exact ⟨sm2.wr hD2, upd_same⟩
        have non : (!decide (z = pl) || (wd.isNone && decide (pl < pa))) = false → Same H2 H' ∧ H' D2 = some (.lst ((((ls.take (i + 1)).filter fun x => !(lastP ls x.2.1 == some x.1) || (x.2.2.isNone && decide (x.1 < pa))).map (·.1)).map V.int)) := fun hb => by
          rw [hP false hb, if_neg (by decide), List.append_nil]
          exact ⟨sm2, hDl⟩
        have hsz : (acc.map V.int).length < sizeLine := by rw [List.length_map]; exact Nat.lt_of_le_of_lt lb (by decide)
        walk_at "rd"
        refine rIxA_d hg ?_
        walk_at "rd"
        refine ite2 (fun e => ⟨.inl ⟨_, .inl (.inl hDl)⟩, _, hDl, hsz, app (by simp [e])⟩) (fun e => ?_)
        have e' : z = pl := Classical.not_not.mp e
        cases wd with
        | none =>
          rw [if_pos (show wV none = V.non from rfl)]
          refine ite2 (fun e2 => ⟨.inl ⟨_, .inl (.inl hDl)⟩, _, hDl, hsz, app (by simp [e2])⟩) (fun e2 => non (by simp [e', e2]))
        | some w0 =>
          rw [if_neg (show ¬ wV (some w0) = V.non from fun z => by cases z)]
          exact non (by simp [e'])
      · rintro σ H' ⟨sm2, hDl, v5, v6, v7, v9, rfl⟩
        walk_at "rd"
        rw [List.length_map, htl, List.take_of_length_le (Nat.le_refl _)] at hDl
        exact q D2 H' (same_back (s1.trans sm) hD2) (s1.trans (sm.trans sm2)) hDl

theorem ok_l_draw (T : Txt K mg a) : FnOk P w K mg base CX0 6 a.f_l_draw a.d_l_draw ["_law_row", "_law_floor", "_law_passed"] (sp_draw67 a.C_Row) := by
  refine T.F_l_draw.ok sc_l_draw (fun vs H Q E h => ?_) (fun cdv A outer s H vs Q E hr h => ?_)
  · obtain ⟨r, d, M, fl, pa, rfl, _⟩ := h
    rfl
  · obtain ⟨r, d, M, fl, pa, rfl, RA, hla, hfl, q⟩ := h
    refine ⟨_, (pss_cons (ps_set (i := 3) sc_l_draw.nd rfl (Or.inl rfl) (pe_call (ok_drawn_away T) (hr.mono (by decide)) rfl T.m_drawn_away T.F_drawn_away.kp T.b_drawn_away .nil pass0 (pa_cons (pv 0) (pa_cons (pv 1) (pa_cons (pv 2) pa_nil)))))
      (pss_cons (ps_if (PW.pt (pw_or (pt_not (pt_truthK (K := K) (pe_callB (call_isinstanceK (K := K)) (by rfl) T.n_isinstance boot_isinstance (pa_cons (pv 3) (pa_cons (pe_bltn (v := .ty "list") rfl T.n_list boot_list rfl) pa_nil))) (by intro _; rfl))) (pw_or (pt_not (pt_truthK (K := K) (pe_call (ok_l_plain T) (hr.mono (by decide)) rfl T.m_l_plain T.F_l_plain.kp T.b_l_plain .nil pass0 (pa_cons (pv 3) pa_nil)) (by intro _; rfl))) (pw_or1 (pt_cmpR (op_neK (K := K) (hU hr)) (pv 3) (pe_sortSet (K := K) rfl rfl T.n_sorted rfl T.n_set (pv 3)) (nomark _)))))) (pss_one (ps_ret pe_bl)) pss_nil)
      (pss_cons (ps_for PassesOwn.never rfl (pi_anyK (K := K) (pv 3)) (pg_name (i := 4) sc_l_draw.nd rfl (Or.inl rfl)) (pss_one (ps_if (PW.pt (pw_or (pt_not (pt_chain op_leK op_ltK pe_int (pv 4) (pv 1))) (pw_or1 (pt_cmpR op_notB (pe_meth (pv 0) T.cl_Row T.M_Row_take_out (ok_Row_take_out T) (hr.mono (by decide)) T.b_Row_take_out .nil pass0 (pa_cons (pv 4) pa_nil)) pe_bl (nomark _))))) (pss_one (ps_ret pe_bl)) pss_nil)))
      (pss_cons (ps_expr (pe_meth (pv 0) T.cl_Row T.M_Row_raise_drawn (ok_Row_raise_drawn T) (hr.mono (by decide)) T.b_Row_raise_drawn .nil pass0 (pa_cons (pv 1) pa_nil)))
      (pss_one (ps_ret (pe_call (ok_l_same T) (hr.mono (by decide)) rfl T.m_l_same T.F_l_same.kp T.b_l_same .nil pass0 (pa_cons (pe_call (ok_drawn_away T) (hr.mono (by decide)) rfl T.m_drawn_away T.F_drawn_away.kp T.b_drawn_away .nil pass0 (pa_cons (pv 0) (pa_cons (pv 1) (pa_cons (pv 2) pa_nil)))) (pa_cons (pe_lst pa_nil) pa_nil))))))))), ?_⟩
    walk_at "rd"
    refine ⟨d, M, RA, by omega, hfl, fun D H2 hD s2 hl => ?_⟩
    generalize hfs : (M.stand.filter fun x => decide (x.1 < fl)) = fs at hl q
    have hfp : fs.Pairwise fun x y => x.1 < y.1 := by rw [← hfs]; exact (stand_lt M).filter _
    have hfl60 : fs.length ≤ 60 := by
      have h1 := stand_len M
      have h2 : fs.length ≤ M.stand.length := by rw [← hfs]; exact List.length_filter_le _ _
      omega
    have hgl : (awayL fs pa).length ≤ 60 := by
      unfold awayL
      rw [List.length_map]
      exact Nat.le_trans (List.length_filter_le _ _) hfl60
    have hR2 := RA.chg (A := []) (Chg.of_same s2) (by simp) (by simp)
    generalize hgo : awayL fs pa = go at hl q hgl
    have hgp : go.Pairwise (· < ·) := by rw [← hgo]; exact away_lt hfp pa
    have hnd : go.Nodup := hgp.imp fun h => Int.ne_of_lt h
    refine (isi_lst_list hl).mpr ⟨true, rfl, ?_⟩
    rw [if_neg (by decide)]
    refine ⟨Pl.ints hl, fun H3 s3 => ?_⟩
    have hl3 := s3 _ _ hl
    refine ⟨go, .inl (.inl hl3), hnd, by omega, fun l ms hl0 hp hs => ?_⟩
    have e : ms = go := sorted_self hgp hp hs
    subst e
    have s4 : Same H3 (upd H3 l (.lst (ms.map V.int))) := Same.upd hl0
    refine rNeq_same (den_ints (.inl (.inl (s4 _ _ hl3)))) (den_ints (.inl (.inl upd_same))) (wd_ints _) rfl ⟨false, rfl, ?_⟩
    rw [if_neg (by decide)]
    generalize upd H3 l (.lst (ms.map V.int)) = H4 at s4
    have hl4 := s4 _ _ hl3
    have R4 := (hR2.chg (A := []) (Chg.of_same s3) (by simp) (by simp)).chg (A := []) (Chg.of_same s4) (by simp) (by simp)
    obtain ⟨kv0, hd0, _⟩ := RA.dict
    obtain ⟨dx0, hr0⟩ := RA.obj
    have nDd : D ≠ d := fun z => by rw [z, hd0] at hD; cases hD
    have nDr : D ≠ r := fun z => by rw [z, hr0] at hD; cases hD
    have hgm : ∀ g ∈ ms, (M.L g).isSome = true ∧ 0 ≤ g ∧ g < fl := fun g hg => by
      rw [← hgo] at hg
      obtain ⟨x, hx, rfl⟩ := away_in hg
      rw [← hfs] at hx
      obtain ⟨h1, h2⟩ := List.mem_filter.mp hx
      obtain ⟨h3, _, l, hl, _⟩ := stand_mem h1
      exact ⟨by rw [hl]; rfl, h3, by simpa using h2⟩
    refine rAny_l (.inl (.inl hl4)) (forW_list (xs := ms.map V.int) (fun i σ Hx => RowAt a.C_Row Hx r d (M.outs (ms.take i)) ∧ Chg [d] H4 Hx ∧ ∃ v4, σ = [some (V.ref r), some (V.int fl), some (V.int pa), some (V.ref D), v4])
      ⟨by rw [List.take_zero, outs_nil]; exact R4, Chg.refl _, none, rfl⟩ (fun i σ Hx _ ⟨_, c, _⟩ => .inl (.inl (c.keep _ _ hl4 (by simp; exact nDd)))) ?_ ?_)
    · rintro i x σ Hx hx ⟨Rx, cx, v4, rfl⟩
      rw [List.getElem?_map] at hx
      obtain ⟨g, hg, rfl⟩ := Option.map_eq_some_iff.mp hx
      obtain ⟨dxx, hrx⟩ := Rx.obj
      have hgi := (List.getElem?_eq_some_iff.mp hg).1
      obtain ⟨g1, g2, g3⟩ := hgm g (List.mem_of_getElem? hg)
      have hgn : g ∉ ms.take i := fun z => by
        have e : ms = ms.take i ++ ms.drop i := (List.take_append_drop _ _).symm
        have e2 : ms.drop i = g :: ms.drop (i + 1) := by rw [List.drop_eq_getElem_cons hgi]; congr 1; exact (List.getElem?_eq_some_iff.mp hg).2
        rw [e, e2, List.pairwise_append] at hgp
        have := hgp.2.2 g z g List.mem_cons_self
        omega
      have hso : ((M.outs (ms.take i)).L g).isSome = true := by
        show (if g ∈ ms.take i then none else M.L g).isSome = true
        rw [if_neg hgn]
        exact g1
      walk_at "rd"
      rw [if_pos g2, if_neg (by omega)]
      refine ⟨dxx, _, hrx, rowF_out _ d, d, _, Rx, fun Hy cy Ry => ?_⟩
      rw [outs_snoc, show ms.take i ++ [g] = ms.take (i + 1) by rw [List.take_succ, hg]; rfl] at Ry
      rw [hso]
      rw [if_neg (by simp)]
      exact ⟨Ry, cx.trans cy⟩
    · rintro σ Hx ⟨Rx, cx, v4, rfl⟩
      rw [List.length_map, List.take_length] at Rx
      obtain ⟨dxx, hrx⟩ := Rx.obj
      walk_at "rd"
      refine ⟨dxx, _, hrx, rowF_raise _ d, d, _, Rx, fun H7 c7 R7 => ?_⟩
      have hlast : ((M.outs ms).raised fl).last = M.last := rfl
      refine ⟨d, _, R7, by rw [hlast]; omega, hfl, fun D8 H8 hD8 s8 hl8 => ?_⟩
      have hnil : awayL (((M.outs ms).raised fl).stand.filter fun x => decide (x.1 < fl)) pa = [] := by
        rw [stand_raised, ← hgo, away_drawn fl pa hfs]
        exact away_again hfp stays_goes
      rw [hnil] at hl8
      refine ⟨Nat.zero_le _, fun p hp0 => ?_⟩
      have s9 : Same H8 (upd H8 p (.lst [])) := Same.upd hp0
      refine ⟨Pl.ints (s9 _ _ hl8), _, den_ints (.inl (.inl (s9 _ _ hl8))), den_ints (ns := []) (.inl (.inl upd_same)), (wd_ints _).mono (by decide), fun H' s' => q H' ?_ ?_⟩
      · exact (Chg.of_same (s2.trans (s3.trans s4))).trans ((cx.mono (by simp)).trans ((c7.mono (by simp)).trans (Chg.of_same (s8.trans (s9.trans s')))))
      · exact R7.chg (A := []) (Chg.of_same (s8.trans (s9.trans s'))) (by simp) (by simp)
theorem ok_l_tells_all (T : Txt K mg a) : FnOk P w K mg base CX0 6 a.f_l_tells_all a.d_l_tells_all ["_law_row", "_law_letters", "_law_greatest"] (sp_tells67 a.C_Row) := by
  refine T.F_l_tells_all.ok sc_l_tells_all (fun vs H Q E h => ?_) (fun cdv A outer s H vs Q E hr h => ?_)
  · obtain ⟨r, d, M, p, Ls, g, rfl, _⟩ := h
    rfl
  · obtain ⟨r, d, M, p, Ls, g, rfl, RA, hf, hT, hla, hll, hN, hg, hg2, hD, q⟩ := h
    refine ⟨_, (pss_cons (ps_if (pt_not (pt_truthK (K := K) (pe_call (ok_l_same T) (hr.mono (by decide)) rfl T.m_l_same T.F_l_same.kp T.b_l_same .nil pass0 (pa_cons (pe_fldK (K := K) (pv 0) rfl) (pa_cons (pe_callB (call_lenK (K := K)) (by rfl) T.n_len boot_len (pa_cons (pv 1) pa_nil)) pa_nil))) (by intro _; rfl))) (pss_one (ps_ret pe_bl)) pss_nil)
      (pss_cons (ps_for PassesOwn.never rfl (pi_range2 rfl T.n_range (pa_cons (pv 2) (pa_cons (pe_op (op_plusK (K := K)) (pe_callB (call_lenK (K := K)) (by rfl) T.n_len boot_len (pa_cons (pv 1) pa_nil)) pe_int) pa_nil))) (pg_name (i := 3) sc_l_tells_all.nd rfl (Or.inl rfl)) (pss_cons (ps_set (i := 4) sc_l_tells_all.nd rfl (Or.inl rfl) (pe_meth (pv 0) T.cl_Row T.M_Row_seen (ok_Row_seen T) (hr.mono (by decide)) T.b_Row_seen .nil pass0 (pa_cons pe_int (pa_cons (pv 3) (pa_cons pe_int pa_nil)))))
      (pss_one (ps_if (pt_not (pt_truthK (K := K) (pe_call (ok_l_is_table T) (hr.mono (by decide)) rfl T.m_l_is_table T.F_l_is_table.kp T.b_l_is_table .nil pass0 (pa_cons (pe_call (ok_table_of T) (hr.mono (by decide)) rfl T.m_table_of T.F_table_of.kp T.b_table_of .nil pass0 (pa_cons (pv 4) pa_nil)) (pa_cons (pe_call (ok_l_table T) (hr.mono (by decide)) rfl T.m_l_table T.F_l_table.kp T.b_l_table .nil pass0 (pa_cons (pe_slice (sl_anyK (K := K)) (pv 1) po_none (po_some (pv 3))) pa_nil)) pa_nil))) (by intro _; rfl))) (pss_one (ps_ret pe_bl)) pss_nil))))
      (pss_one (ps_ret pe_bl)))), ?_⟩
    obtain ⟨dx0, hr0⟩ := RA.obj
    obtain ⟨ts, hts, htt⟩ := id hT
    have htl := htt.length
    rw [List.length_map] at htl
    have h0 : 0 ≤ M.last := by omega
    have hst0 : ∀ x ∈ M.stand, 0 ≤ x.1 := fun x hx => (stand_mem hx).1
    walk_at "rd"
    refine ⟨_, dx0, _, hr0, T.cl_Row, T.no_Row_end, _, rowF_end M d, ?_⟩
    refine rLen_l (.inl (.inl hts)) ?_
    rw [List.length_map, htl, hla]
    refine ⟨trivial, .int (Ls.length : Int), .int _, .int _, wd_int _ _, fun H1 s1 => ?_⟩
    refine rLen_l (.inl (.inl (s1 _ _ hts))) ?_
    rw [List.length_map, htl]
    walk_at "rd"
    refine ⟨by omega, by omega, by omega, by omega, ?_⟩
    refine forW_range (fun i σ Hx => Same H Hx ∧ ∃ v3 v4, σ = [some (V.ref r), some (V.ref p), some (V.int g), v3, v4]) ⟨s1, none, none, rfl⟩ ?_ ?_
    · rintro i σ Hx hi ⟨sx, v3, v4, rfl⟩
      walk_at "rd"
      have Rx := RA.chg (A := []) (Chg.of_same sx) (by simp) (by simp)
      refine ⟨dx0, _, sx _ _ hr0, rowF_seen M d, d, M, Rx, by omega, by omega, fun D H2 hD2 s2 hT2 => ?_⟩
      rw [seen_ahead hf h0 (Int.le_refl 0) (by omega)] at hT2
      have hal : (ahead M.stand 0 (g + (i : Int))).length ≤ 100 := by
        have h1 := stand_len M
        have h2 : (ahead M.stand 0 (g + (i : Int))).length ≤ M.stand.length := List.length_filter_le _ _
        omega
      refine ⟨_, hT2, hal, fun D1 H3 hD1 s3 t3 => ?_⟩
      have s03 : Same H H3 := sx.trans (s2.trans s3)
      refine rSlA_l (.inl (.inl (s03 _ _ hts))) fun p2 hp2 => ?_
      have e : g + (i : Int) = (((g + (i : Int)).toNat : Nat) : Int) := by omega
      have ew : wordAt (ahead M.stand 0 (g + (i : Int))) = wordAt (Ls.take (g + (i : Int)).toNat) := by
        funext k
        have := hD (g + (i : Int)) (by omega) (by omega) k
        rw [List.nil_append] at this
        rw [this]
        conv => lhs; rw [e]
        rw [hN.below]
      rw [ew] at t3
      have ec : cutV (ts.map V.ref) none (some (g + (i : Int))) = (ts.take (g + (i : Int)).toNat).map V.ref := by
        conv => lhs; rw [e]
        rw [cutV_pre, List.map_take]
      rw [ec]
      have s4 : Same H3 (upd H3 p2 (.lst ((ts.take (g + (i : Int)).toNat).map V.ref))) := Same.upd hp2
      have hT4 : LTups (upd H3 p2 (.lst ((ts.take (g + (i : Int)).toNat).map V.ref))) p2 ((Ls.take (g + (i : Int)).toNat).map l3V) := by
        refine ⟨_, upd_same, ?_⟩
        rw [show (Ls.take (g + (i : Int)).toNat).map l3V = (Ls.map l3V).take (g + (i : Int)).toNat from List.map_take]
        exact (htt.chg (A := []) (Chg.of_same (s03.trans s4))).take _
      refine ⟨p2, rfl, _, hT4, by rw [List.length_take]; omega, fun D2 H5 hD2' s5 t5 => ?_⟩
      exact tab_pair ((t3.same s4).same s5) t5 ((t3.same s4).ne hD2') fun H6 s6 => s03.trans (s4.trans (s5.trans s6))
    · rintro σ Hx ⟨sx, v3, v4, rfl⟩
      walk_at "rd"
      exact q Hx sx

theorem ok_law (T : Txt K mg a) : FnOk P w K mg base CX0 7 a.f_law a.d_law ["_law_script"] (sp_law K) := by
  refine T.F_law.ok sc_law (fun vs H Q E h => ?_) (fun cdv A outer s H vs Q E hr h => ?_)
  · obtain ⟨p, ns, rfl, _⟩ := h
    rfl
  · obtain ⟨p, ns, rfl, hS, hlen, q⟩ := h
    refine ⟨_, (pss_cons (ps_set (i := 1) sc_law.nd rfl (Or.inl rfl) (pe_call (ok_l_keys T) (hr.mono (by decide)) rfl T.m_l_keys T.F_l_keys.kp T.b_l_keys .nil pass0 (pa_cons (pe_call (ok_l_cell_at T) (hr.mono (by decide)) rfl T.m_l_cell_at T.F_l_cell_at.kp T.b_l_cell_at .nil pass0 (pa_cons (pv 0) (pa_cons pe_int pa_nil))) (pa_cons pe_int pa_nil))))
      (pss_cons (ps_set (i := 2) sc_law.nd rfl (Or.inl rfl) (pe_make0 T.k_Row (ok_Row___init__ T) (hr.mono (by decide)) rfl T.mg_Row T.b_Row___init__ .nil pass0))
      (pss_cons (ps_set (i := 3) sc_law.nd rfl (Or.inl rfl) (pe_lst pa_nil))
      (pss_cons (ps_set (i := 4) sc_law.nd rfl (Or.inl rfl) pe_int)
      (pss_cons (ps_for PassesOwn.never rfl (pi_anyK (K := K) (pe_slice (sl_anyK (K := K)) (pv 0) (po_some pe_int) (po_some pe_int))) (pg_name (i := 5) sc_law.nd rfl (Or.inl rfl)) (pss_one (ps_if (pt_cmpR op_gtA (pe_op op_mod (pe_call (ok_l_mixed T) (hr.mono (by decide)) rfl T.m_l_mixed T.F_l_mixed.kp T.b_l_mixed .nil pass0 (pa_cons (pv 5) (pa_cons pe_int pa_nil))) pe_int) pe_int (nomark _)) (pss_cons (ps_set (i := 6) sc_law.nd rfl (Or.inl rfl) (pe_ix (ix_anyK (K := K) (hU1 hr)) (pv 1) (pe_op op_mod (pe_call (ok_l_mixed T) (hr.mono (by decide)) rfl T.m_l_mixed T.F_l_mixed.kp T.b_l_mixed .nil pass0 (pa_cons (pv 5) (pa_cons pe_int pa_nil))) pe_int) (fun _ _ => rfl)))
      (pss_cons (ps_set (i := 7) sc_law.nd rfl (Or.inl rfl) (pe_call (ok_l_word T) (hr.mono (by decide)) rfl T.m_l_word T.F_l_word.kp T.b_l_word .nil pass0 (pa_cons (pv 5) pa_nil)))
      (pss_cons (ps_if (pt_cmpR (op_eqK (K := K) (hU hr)) (pe_op op_mod (pe_call (ok_l_mixed T) (hr.mono (by decide)) rfl T.m_l_mixed T.F_l_mixed.kp T.b_l_mixed .nil pass0 (pa_cons (pv 5) (pa_cons pe_int pa_nil))) pe_int) pe_int (nomark _)) (pss_one (ps_set (i := 7) sc_law.nd rfl (Or.inl rfl) pe_non)) pss_nil)
      (pss_one (ps_expr (pe_bmK (K := K) PySem.F.plainAttrs_list PySem.F.slot_list_append PySem.F.type_list_append mt_append (pv 3) (pa_cons (pe_tup (pa_cons (pe_meth (pv 2) T.cl_Row T.M_Row_add (ok_Row_add T) (hr.mono (by decide)) T.b1_Row_add T.v1_Row_add pass0 (pa_cons (pv 6) (pa_cons (pv 7) pa_nil))) (pa_cons (pv 6) (pa_cons (pv 7) pa_nil)))) pa_nil))))))) (pss_cons (ps_set (i := 8) sc_law.nd rfl (Or.inl rfl) (pe_op op_mod (pe_call (ok_l_mixed T) (hr.mono (by decide)) rfl T.m_l_mixed T.F_l_mixed.kp T.b_l_mixed .nil pass0 (pa_cons (pv 5) (pa_cons pe_int pa_nil))) (pe_op (op_plusK (K := K)) (pe_callB (call_lenK (K := K)) (by rfl) T.n_len boot_len (pa_cons (pv 3) pa_nil)) pe_int)))
      (pss_cons (ps_set (i := 9) sc_law.nd rfl (Or.inl rfl) (pe_op op_mod (pe_call (ok_l_mixed T) (hr.mono (by decide)) rfl T.m_l_mixed T.F_l_mixed.kp T.b_l_mixed .nil pass0 (pa_cons (pv 5) (pa_cons pe_int pa_nil))) (pe_op (op_plusK (K := K)) (pe_callB (call_lenK (K := K)) (by rfl) T.n_len boot_len (pa_cons (pv 3) pa_nil)) pe_int)))
      (pss_cons (ps_set (i := 4) sc_law.nd rfl (Or.inl rfl) (pe_callB (call_maxA rfl) (by rfl) T.n_max boot_max (pa_cons (pv 4) (pa_cons (pv 8) pa_nil))))
      (pss_one (ps_if (PW.pt (pw_or (pt_not (pt_truthK (K := K) (pe_call (ok_l_draw T) (hr.mono (by decide)) rfl T.m_l_draw T.F_l_draw.kp T.b_l_draw .nil pass0 (pa_cons (pv 2) (pa_cons (pv 8) (pa_cons (pv 9) pa_nil)))) (by intro _; rfl))) (pw_or1 (pt_not (pt_truthK (K := K) (pe_call (ok_l_tells_all T) (hr.mono (by decide)) rfl T.m_l_tells_all T.F_l_tells_all.kp T.b_l_tells_all .nil pass0 (pa_cons (pv 2) (pa_cons (pv 3) (pa_cons (pv 4) pa_nil)))) (by intro _; rfl)))))) (pss_one (ps_ret pe_bl)) pss_nil))))))))
      (pss_one (ps_ret (pe_call (ok_l_tells_all T) (hr.mono (by decide)) rfl T.m_l_tells_all T.F_l_tells_all.kp T.b_l_tells_all .nil pass0 (pa_cons (pv 2) (pa_cons (pv 3) (pa_cons (pv 4) pa_nil))))))))))), ?_⟩
    walk_at "rd"
    refine ⟨⟨ns, hS⟩, fun D Hk ks hD sk hkl hok hDl => row_make fun r d H0 hr0 hd0 nrd s0 R0 => ⟨Nat.zero_le _, fun St0 hSt0 => ?_⟩⟩
    have sH0 : Same H H0 := sk.trans s0
    have hD0 : H0 D = some (.lst (ks.map fun l => V.str (S l))) := s0 _ _ hDl
    refine rSlA_l ((sH0.trans (Same.upd hSt0)).seq hS) fun p1 hp1 => rAny_l (.inl (.inl upd_same)) ?_
    have np1 : p1 ≠ St0 := fun z => by rw [z, upd_same] at hp1; cases hp1
    have hp10 : H0 p1 = none := by rw [upd_ne np1] at hp1; exact hp1
    generalize hcs : cutV (ns.map V.int) (some 1) (some 41) = cs
    have hcl : cs.length ≤ 40 := by
      rw [← hcs, show (some (1 : Int)) = some ((1 : Nat) : Int) from rfl, show (some (41 : Int)) = some ((1 + 40 : Nat) : Int) from rfl, cutV_mid, List.length_take]
      omega
    have hci : ∀ x ∈ cs, ∃ c, x = V.int c := fun x hx => by
      rw [← hcs] at hx
      obtain ⟨c, _, rfl⟩ := List.mem_map.mp (List.mem_of_mem_drop (List.mem_of_mem_take hx))
      exact ⟨c, rfl⟩
    obtain ⟨dxr, hrr⟩ := R0.obj
    obtain ⟨kvr, hdd, _⟩ := R0.dict
    have nf : ∀ b, H0 b = none → b ≠ r ∧ b ≠ d ∧ b ≠ D := fun b hb => ⟨(fun z => by rw [z, hrr] at hb; cases hb), (fun z => by rw [z, hdd] at hb; cases hb), (fun z => by rw [z, hD0] at hb; cases hb)⟩
    have nDr : D ≠ r := fun z => by rw [z, hrr] at hD0; cases hD0
    have nDd : D ≠ d := fun z => by rw [z, hdd] at hD0; cases hD0
    refine forW_list (xs := cs) (fun i σ H' => ∃ (M : RowM) (Ls : List L3) (g : Int), RowAt a.C_Row H' r d M ∧ M.first = 0 ∧ LTups H' St0 (Ls.map l3V) ∧ M.last = (Ls.length : Int) ∧ Ls.length ≤ i ∧ Numb Ls ∧ 0 ≤ g ∧ g ≤ (Ls.length : Int) ∧ Due M.stand Ls [] g 0 ∧ Chg [r, d] H0 H' ∧ H' p1 = some (.lst cs) ∧ ∃ v5 v6 v7 v8 v9, σ = [some (V.ref p), some (V.ref D), some (V.ref r), some (V.ref St0), some (V.int g), v5, v6, v7, v8, v9])
      ⟨row0, [], 0, R0.chg (A := []) (Chg.of_same ((Same.upd hSt0).trans (Same.upd hp1))) (by simp) (by simp), rfl, ⟨[], (upd_ne (Ne.symm np1)).trans upd_same, .nil⟩, rfl, Nat.zero_le _, numb_nil, Int.le_refl _, Int.le_refl _, (fun u _ _ k => rfl), Chg.of_same ((Same.upd hSt0).trans (Same.upd hp1)), upd_same, none, none, none, none, none, rfl⟩ (fun i σ H' _ ⟨_, _, _, _, _, _, _, _, _, _, _, _, _, z, _⟩ => .inl (.inl z)) ?_ ?_
    · rintro i x σ H' hx ⟨M, Ls, g, RA, hf, hT, hla, hll, hN, hg, hg2, hDu, cg, hp1', v5, v6, v7, v8, v9, rfl⟩
      obtain ⟨cc, rfl⟩ := hci x (List.mem_of_getElem? hx)
      have hi := (List.getElem?_eq_some_iff.mp hx).1
      obtain ⟨dx, hr'⟩ := RA.obj
      obtain ⟨nSr, nSd, nSD⟩ := nf St0 hSt0
      obtain ⟨npr, npd, npD⟩ := nf p1 hp10
      have hD' : SqL K H' D (ks.map fun l => V.str (S l)) := .inl (.inl (cg.keep _ _ hD0 (by simp; exact ⟨nDr, nDd⟩)))
      obtain ⟨ky, hky, hat⟩ : ∃ ky, okS ky ∧ atI (ks.map fun l => V.str (S l)) (mixN cc 41 % 4) = some (V.str (S ky)) := by
        have h3 : (mixN cc 41 % 4).toNat < ks.length := by omega
        exact ⟨ks[(mixN cc 41 % 4).toNat], hok _ (List.getElem_mem _), atI_get? (by omega) (by rw [List.getElem?_map, List.getElem?_eq_getElem h3]; rfl)⟩
      obtain ⟨ts, hts, htt⟩ := id hT
      have htl := htt.length
      rw [List.length_map] at htl
      have hst : ∀ y ∈ M.stand, y.1 < M.last := fun y hy => (stand_mem hy).2.1
      have hst0 : ∀ y ∈ M.stand, 0 ≤ y.1 := fun y hy => (stand_mem hy).1
      have key : ∀ (wo : Option (List Nat)) (H2 : Hp), Chg [r, d] H' H2 → RowAt a.C_Row H2 r d (M.add (ky, wo, 0)) → ∀ t, H2 t = none → ∃ x, upd H2 t (.tup [V.int M.last, V.str (S ky), wV wo]) St0 = some (.lst x) ∧ x.length < sizeLine ∧
          ∃ M' : RowM, RowAt a.C_Row (upd (upd H2 t (.tup [V.int M.last, V.str (S ky), wV wo])) St0 (.lst (x ++ [V.ref t]))) r d M' ∧ M'.first = 0 ∧ ∃ Ls' : List L3, LTups (upd (upd H2 t (.tup [V.int M.last, V.str (S ky), wV wo])) St0 (.lst (x ++ [V.ref t]))) St0 (Ls'.map l3V) ∧ M'.last = (Ls'.length : Int) ∧ Ls'.length ≤ i + 1 ∧ Numb Ls' ∧
            ∃ g', 0 ≤ g' ∧ g' ≤ (Ls'.length : Int) ∧ L2.Due M'.stand Ls' [] g' 0 ∧ Chg [r, d] H0 (upd (upd H2 t (.tup [V.int M.last, V.str (S ky), wV wo])) St0 (.lst (x ++ [V.ref t]))) ∧ upd (upd H2 t (.tup [V.int M.last, V.str (S ky), wV wo])) St0 (.lst (x ++ [V.ref t])) p1 = some (.lst cs) ∧ g = g' := by
        intro wo H2 c2 R2 t ht
        have hT2 := hT.chg c2 (by simp; exact ⟨nSr, nSd⟩)
        have hp2 : H2 p1 = some (.lst cs) := c2.keep _ _ hp1' (by simp; exact ⟨npr, npd⟩)
        obtain ⟨ts2, hts2, htt2⟩ := hT2
        have htl2 := htt2.length
        rw [List.length_map] at htl2
        have ntS : t ≠ St0 := fun z => by rw [z, hts2] at ht; cases ht
        have ntp : t ≠ p1 := fun z => by rw [z, hp2] at ht; cases ht
        have hts' : upd H2 t (.tup [V.int M.last, V.str (S ky), wV wo]) St0 = some (.lst (ts2.map V.ref)) := (upd_ne (Ne.symm ntS)).trans hts2
        have ca : Chg [St0] H2 (upd H2 t (.tup [V.int M.last, V.str (S ky), wV wo])) := Chg.new ht
        have cb : Chg [St0] (upd H2 t (.tup [V.int M.last, V.str (S ky), wV wo])) (upd (upd H2 t (.tup [V.int M.last, V.str (S ky), wV wo])) St0 (.lst (ts2.map V.ref ++ [V.ref t]))) := Chg.upd (by simp) (by intro xs z; rw [hts'] at z; cases z)
        have hadd := stand_add M (by omega) (fun p h => (RA.within p h).2) (ky, wo, 0)
        refine ⟨_, hts', by rw [List.length_map, htl2]; exact Nat.lt_of_le_of_lt (show Ls.length ≤ 63 by omega) (by decide), M.add (ky, wo, 0), R2.chg (ca.trans cb) (by simp; exact Ne.symm nSr) (by simp; exact Ne.symm nSd), hf, Ls ++ [(M.last, ky, wo)], ⟨ts2 ++ [t], by rw [List.map_append]; exact upd_same, ?_⟩, ?_, by rw [List.length_append, List.length_singleton]; omega, hN.snoc _ hla, g, hg, by rw [List.length_append]; omega, ?_, ?_, ?_, rfl⟩
        · rw [List.map_append]
          exact (htt2.chg (ca.trans cb)).snoc (cb.tup _ _ upd_same)
        · show M.last + 1 = _
          rw [List.length_append, List.length_singleton]
          omega
        · rw [hadd]
          exact hDu.add (x := (M.last, ky, wo)) hst (fun y hy => by rw [hla]; exact hN.lt y hy) (by show g ≤ M.last; omega) (by show 0 ≤ M.last; omega)
        · exact ((cg.trans c2).trans (Chg.new ht)).wr hSt0
        · exact (upd_ne np1).trans ((upd_ne (Ne.symm ntp)).trans hp2)
      walk_at "rd"
      refine ite2 (fun _ => ?_) (fun _ => ?_)
      · refine rIxA_l hD' hat fun w hw => ite2 (fun _ => ?_) (fun _ => ?_)
        · exact ⟨.inl ⟨_, .inl (.inl hts)⟩, dx, _, hr', rowF_add M d, d, M, (ky, none, 0), rfl, rfl, rfl, RA, by omega, fun H2 c2 R2 => ⟨by decide, fun t ht => key none H2 c2 R2 t ht⟩⟩
        · exact ⟨.inl ⟨_, .inl (.inl hts)⟩, dx, _, hr', rowF_add M d, d, M, (ky, some w, 0), rfl, rfl, rfl, RA, by omega, fun H2 c2 R2 => ⟨by decide, fun t ht => key (some w) H2 c2 R2 t ht⟩⟩
      · refine rLen_l (.inl (.inl hts)) ?_
        rw [List.length_map, htl, rPlus_ii]
        refine ⟨_, rfl, by omega, rLen_l (.inl (.inl hts)) ?_⟩
        rw [List.length_map, htl, rPlus_ii]
        refine ⟨_, rfl, by omega, ?_⟩
        have f0 : 0 ≤ mixN cc 43 % ((Ls.length : Int) + 1) := Int.emod_nonneg _ (by omega)
        have f1 : mixN cc 43 % ((Ls.length : Int) + 1) < (Ls.length : Int) + 1 := Int.emod_lt_of_pos _ (by omega)
        generalize mixN cc 43 % ((Ls.length : Int) + 1) = fl at f0 f1
        generalize mixN cc 44 % ((Ls.length : Int) + 2) = pa
        refine ⟨d, M, RA, by omega, f0, fun H2 c2 R2 => ?_⟩
        have hT2 := hT.chg c2 (by simp; exact ⟨nSr, nSd⟩)
        have hp2 : H2 p1 = some (.lst cs) := c2.keep _ _ hp1' (by simp; exact ⟨npr, npd⟩)
        have D2 : L2.Due ((M.outs (awayL (M.stand.filter fun x => decide (x.1 < fl)) pa)).raised fl).stand Ls [] (max g fl) 0 := by
          rw [stand_raised, stand_left]
          exact hDu.draw0 (stand_lt M) hst0
        refine ⟨d, _, R2, hf, Ls, hT2, hla, by omega, hN, by omega, by omega, D2, fun H3 s3 => ?_⟩
        exact ⟨_, R2.chg (A := []) (Chg.of_same s3) (by simp) (by simp), hf, Ls, hT2.same s3, hla, by omega, hN, _, by omega, by omega, D2, (cg.trans c2).trans (Chg.of_same s3), s3 _ _ hp2, rfl⟩
    · rintro σ H' ⟨M, Ls, g, RA, hf, hT, hla, hll, hN, hg, hg2, hDu, cg, hp1', v5, v6, v7, v8, v9, rfl⟩
      walk_at "rd"
      exact ⟨d, M, RA, hf, Ls, hT, hla, by omega, hN, hg, hg2, hDu, fun H'' _ => q H''⟩

end
theorem txt_mk {K : PySem.W.Frag} {h : Heap} {mg : Str → Option Value} (X : K.In h) (G : h.Ns mainGlobals mg)
    {C_Row : Addr}
    {f1 : Addr} {od1 an1 : Option Addr} {sl1 : Array (Option Value)} {oc1 kV1 dc1 pm1 cd1 ct1 : Value}
    {f2 : Addr} {od2 an2 : Option Addr} {sl2 : Array (Option Value)} {oc2 kV2 dc2 pm2 cd2 ct2 : Value}
    {f3 : Addr} {od3 an3 : Option Addr} {sl3 : Array (Option Value)} {oc3 kV3 dc3 pm3 cd3 ct3 : Value}
    {f4 : Addr} {od4 an4 : Option Addr} {sl4 : Array (Option Value)} {oc4 kV4 dc4 pm4 cd4 ct4 : Value}
    {tD4 : Addr} {tc4 : Value} {td4 : Option Addr} {tn4 : Nat} {tsl4 : Array (Option Value)} {tk4_0 : Tok}
    {f5 : Addr} {od5 an5 : Option Addr} {sl5 : Array (Option Value)} {oc5 kV5 dc5 pm5 cd5 ct5 : Value}
    {f6 : Addr} {od6 an6 : Option Addr} {sl6 : Array (Option Value)} {oc6 kV6 dc6 pm6 cd6 ct6 : Value}
    {f7 : Addr} {od7 an7 : Option Addr} {sl7 : Array (Option Value)} {oc7 kV7 dc7 pm7 cd7 ct7 : Value}
    {f8 : Addr} {od8 an8 : Option Addr} {sl8 : Array (Option Value)} {oc8 kV8 dc8 pm8 cd8 ct8 : Value}
    {f9 : Addr} {od9 an9 : Option Addr} {sl9 : Array (Option Value)} {oc9 kV9 dc9 pm9 cd9 ct9 : Value}
    {f10 : Addr} {od10 an10 : Option Addr} {sl10 : Array (Option Value)} {oc10 kV10 dc10 pm10 cd10 ct10 : Value}
    {f11 : Addr} {od11 an11 : Option Addr} {sl11 : Array (Option Value)} {oc11 kV11 dc11 pm11 cd11 ct11 : Value}
    {f12 : Addr} {od12 an12 : Option Addr} {sl12 : Array (Option Value)} {oc12 kV12 dc12 pm12 cd12 ct12 : Value}
    {f13 : Addr} {od13 an13 : Option Addr} {sl13 : Array (Option Value)} {oc13 kV13 dc13 pm13 cd13 ct13 : Value}
    {f14 : Addr} {od14 an14 : Option Addr} {sl14 : Array (Option Value)} {oc14 kV14 dc14 pm14 cd14 ct14 : Value}
    {f15 : Addr} {od15 an15 : Option Addr} {sl15 : Array (Option Value)} {oc15 kV15 dc15 pm15 cd15 ct15 : Value}
    {f16 : Addr} {od16 an16 : Option Addr} {sl16 : Array (Option Value)} {oc16 kV16 dc16 pm16 cd16 ct16 : Value}
    {f17 : Addr} {od17 an17 : Option Addr} {sl17 : Array (Option Value)} {oc17 kV17 dc17 pm17 cd17 ct17 : Value}
    {f18 : Addr} {od18 an18 : Option Addr} {sl18 : Array (Option Value)} {oc18 kV18 dc18 pm18 cd18 ct18 : Value}
    {f19 : Addr} {od19 an19 : Option Addr} {sl19 : Array (Option Value)} {oc19 kV19 dc19 pm19 cd19 ct19 : Value}
    {f20 : Addr} {od20 an20 : Option Addr} {sl20 : Array (Option Value)} {oc20 kV20 dc20 pm20 cd20 ct20 : Value}
    (a1 : PySem.W.nsIn K mainGlobals "drawn_away" = some (some (.ref f1)))
    (l1 : K.lookup f1 = some ⟨oc1, od1, .func (PySem.W.fnOf "drawn_away" "drawn_away" (defArgs s_drawn_away) (defBody s_drawn_away) (defScope s_drawn_away) .none kV1 dc1 pm1 an1 cd1 ct1), sl1⟩) (c1 : PySem.W.codeIn K cd1 "drawn_away" = true) (k1 : PySem.W.keepIn K (.ref f1) = true)
    (a2 : PySem.W.nsIn K mainGlobals "table_of" = some (some (.ref f2)))
    (l2 : K.lookup f2 = some ⟨oc2, od2, .func (PySem.W.fnOf "table_of" "table_of" (defArgs s_table_of) (defBody s_table_of) (defScope s_table_of) .none kV2 dc2 pm2 an2 cd2 ct2), sl2⟩) (c2 : PySem.W.codeIn K cd2 "table_of" = true) (k2 : PySem.W.keepIn K (.ref f2) = true)
    (a3 : PySem.W.findIn K (.ref C_Row) "__init__" = some (some (.ref f3))) (i3 : PySem.W.isFn K (.ref f3) = true)
    (l3 : K.lookup f3 = some ⟨oc3, od3, .func (PySem.W.fnOf "__init__" "Row.__init__" (defArgs s_Row___init__) (defBody s_Row___init__) (defScope s_Row___init__) .none kV3 dc3 pm3 an3 cd3 ct3), sl3⟩) (c3 : PySem.W.codeIn K cd3 "Row.__init__" = true) (k3 : PySem.W.keepIn K (.ref f3) = true)
    (a4 : PySem.W.findIn K (.ref C_Row) "add" = some (some (.ref f4))) (i4 : PySem.W.isFn K (.ref f4) = true)
    (l4 : K.lookup f4 = some ⟨oc4, od4, .func (PySem.W.fnOf "add" "Row.add" (defArgs s_Row_add) (defBody s_Row_add) (defScope s_Row_add) (.ref tD4) kV4 dc4 pm4 an4 cd4 ct4), sl4⟩) (c4 : PySem.W.codeIn K cd4 "Row.add" = true) (k4 : PySem.W.keepIn K (.ref f4) = true)
    (dl4 : K.lookup tD4 = some ⟨tc4, td4, .seq [.int 0 tk4_0].toArray tn4, tsl4⟩)
    (a5 : PySem.W.findIn K (.ref C_Row) "at" = some (some (.ref f5))) (i5 : PySem.W.isFn K (.ref f5) = true)
    (l5 : K.lookup f5 = some ⟨oc5, od5, .func (PySem.W.fnOf "at" "Row.at" (defArgs s_Row_at) (defBody s_Row_at) (defScope s_Row_at) .none kV5 dc5 pm5 an5 cd5 ct5), sl5⟩) (c5 : PySem.W.codeIn K cd5 "Row.at" = true) (k5 : PySem.W.keepIn K (.ref f5) = true)
    (a6 : PySem.W.findIn K (.ref C_Row) "seen" = some (some (.ref f6))) (i6 : PySem.W.isFn K (.ref f6) = true)
    (l6 : K.lookup f6 = some ⟨oc6, od6, .func (PySem.W.fnOf "seen" "Row.seen" (defArgs s_Row_seen) (defBody s_Row_seen) (defScope s_Row_seen) .none kV6 dc6 pm6 an6 cd6 ct6), sl6⟩) (c6 : PySem.W.codeIn K cd6 "Row.seen" = true) (k6 : PySem.W.keepIn K (.ref f6) = true)
    (a7 : PySem.W.findIn K (.ref C_Row) "take_out" = some (some (.ref f7))) (i7 : PySem.W.isFn K (.ref f7) = true)
    (l7 : K.lookup f7 = some ⟨oc7, od7, .func (PySem.W.fnOf "take_out" "Row.take_out" (defArgs s_Row_take_out) (defBody s_Row_take_out) (defScope s_Row_take_out) .none kV7 dc7 pm7 an7 cd7 ct7), sl7⟩) (c7 : PySem.W.codeIn K cd7 "Row.take_out" = true) (k7 : PySem.W.keepIn K (.ref f7) = true)
    (a8 : PySem.W.findIn K (.ref C_Row) "raise_drawn" = some (some (.ref f8))) (i8 : PySem.W.isFn K (.ref f8) = true)
    (l8 : K.lookup f8 = some ⟨oc8, od8, .func (PySem.W.fnOf "raise_drawn" "Row.raise_drawn" (defArgs s_Row_raise_drawn) (defBody s_Row_raise_drawn) (defScope s_Row_raise_drawn) .none kV8 dc8 pm8 an8 cd8 ct8), sl8⟩) (c8 : PySem.W.codeIn K cd8 "Row.raise_drawn" = true) (k8 : PySem.W.keepIn K (.ref f8) = true)
    (a9 : PySem.W.nsIn K mainGlobals "_law_cell_at" = some (some (.ref f9)))
    (l9 : K.lookup f9 = some ⟨oc9, od9, .func (PySem.W.fnOf "_law_cell_at" "_law_cell_at" (defArgs s_l_cell_at) (defBody s_l_cell_at) (defScope s_l_cell_at) .none kV9 dc9 pm9 an9 cd9 ct9), sl9⟩) (c9 : PySem.W.codeIn K cd9 "_law_cell_at" = true) (k9 : PySem.W.keepIn K (.ref f9) = true)
    (a10 : PySem.W.nsIn K mainGlobals "_law_mixed" = some (some (.ref f10)))
    (l10 : K.lookup f10 = some ⟨oc10, od10, .func (PySem.W.fnOf "_law_mixed" "_law_mixed" (defArgs s_l_mixed) (defBody s_l_mixed) (defScope s_l_mixed) .none kV10 dc10 pm10 an10 cd10 ct10), sl10⟩) (c10 : PySem.W.codeIn K cd10 "_law_mixed" = true) (k10 : PySem.W.keepIn K (.ref f10) = true)
    (a11 : PySem.W.nsIn K mainGlobals "_law_plain" = some (some (.ref f11)))
    (l11 : K.lookup f11 = some ⟨oc11, od11, .func (PySem.W.fnOf "_law_plain" "_law_plain" (defArgs s_l_plain) (defBody s_l_plain) (defScope s_l_plain) .none kV11 dc11 pm11 an11 cd11 ct11), sl11⟩) (c11 : PySem.W.codeIn K cd11 "_law_plain" = true) (k11 : PySem.W.keepIn K (.ref f11) = true)
    (a12 : PySem.W.nsIn K mainGlobals "_law_same" = some (some (.ref f12)))
    (l12 : K.lookup f12 = some ⟨oc12, od12, .func (PySem.W.fnOf "_law_same" "_law_same" (defArgs s_l_same) (defBody s_l_same) (defScope s_l_same) .none kV12 dc12 pm12 an12 cd12 ct12), sl12⟩) (c12 : PySem.W.codeIn K cd12 "_law_same" = true) (k12 : PySem.W.keepIn K (.ref f12) = true)
    (a13 : PySem.W.nsIn K mainGlobals "_law_sign" = some (some (.ref f13)))
    (l13 : K.lookup f13 = some ⟨oc13, od13, .func (PySem.W.fnOf "_law_sign" "_law_sign" (defArgs s_l_sign) (defBody s_l_sign) (defScope s_l_sign) .none kV13 dc13 pm13 an13 cd13 ct13), sl13⟩) (c13 : PySem.W.codeIn K cd13 "_law_sign" = true) (k13 : PySem.W.keepIn K (.ref f13) = true)
    (a14 : PySem.W.nsIn K mainGlobals "_law_keys" = some (some (.ref f14)))
    (l14 : K.lookup f14 = some ⟨oc14, od14, .func (PySem.W.fnOf "_law_keys" "_law_keys" (defArgs s_l_keys) (defBody s_l_keys) (defScope s_l_keys) .none kV14 dc14 pm14 an14 cd14 ct14), sl14⟩) (c14 : PySem.W.codeIn K cd14 "_law_keys" = true) (k14 : PySem.W.keepIn K (.ref f14) = true)
    (a15 : PySem.W.nsIn K mainGlobals "_law_word" = some (some (.ref f15)))
    (l15 : K.lookup f15 = some ⟨oc15, od15, .func (PySem.W.fnOf "_law_word" "_law_word" (defArgs s_l_word) (defBody s_l_word) (defScope s_l_word) .none kV15 dc15 pm15 an15 cd15 ct15), sl15⟩) (c15 : PySem.W.codeIn K cd15 "_law_word" = true) (k15 : PySem.W.keepIn K (.ref f15) = true)
    (a16 : PySem.W.nsIn K mainGlobals "_law_table" = some (some (.ref f16)))
    (l16 : K.lookup f16 = some ⟨oc16, od16, .func (PySem.W.fnOf "_law_table" "_law_table" (defArgs s_l_table) (defBody s_l_table) (defScope s_l_table) .none kV16 dc16 pm16 an16 cd16 ct16), sl16⟩) (c16 : PySem.W.codeIn K cd16 "_law_table" = true) (k16 : PySem.W.keepIn K (.ref f16) = true)
    (a17 : PySem.W.nsIn K mainGlobals "_law_is_table" = some (some (.ref f17)))
    (l17 : K.lookup f17 = some ⟨oc17, od17, .func (PySem.W.fnOf "_law_is_table" "_law_is_table" (defArgs s_l_is_table) (defBody s_l_is_table) (defScope s_l_is_table) .none kV17 dc17 pm17 an17 cd17 ct17), sl17⟩) (c17 : PySem.W.codeIn K cd17 "_law_is_table" = true) (k17 : PySem.W.keepIn K (.ref f17) = true)
    (a18 : PySem.W.nsIn K mainGlobals "_law_draw" = some (some (.ref f18)))
    (l18 : K.lookup f18 = some ⟨oc18, od18, .func (PySem.W.fnOf "_law_draw" "_law_draw" (defArgs s_l_draw) (defBody s_l_draw) (defScope s_l_draw) .none kV18 dc18 pm18 an18 cd18 ct18), sl18⟩) (c18 : PySem.W.codeIn K cd18 "_law_draw" = true) (k18 : PySem.W.keepIn K (.ref f18) = true)
    (a19 : PySem.W.nsIn K mainGlobals "_law_tells_all" = some (some (.ref f19)))
    (l19 : K.lookup f19 = some ⟨oc19, od19, .func (PySem.W.fnOf "_law_tells_all" "_law_tells_all" (defArgs s_l_tells_all) (defBody s_l_tells_all) (defScope s_l_tells_all) .none kV19 dc19 pm19 an19 cd19 ct19), sl19⟩) (c19 : PySem.W.codeIn K cd19 "_law_tells_all" = true) (k19 : PySem.W.keepIn K (.ref f19) = true)
    (a20 : PySem.W.nsIn K mainGlobals "law" = some (some (.ref f20)))
    (l20 : K.lookup f20 = some ⟨oc20, od20, .func (PySem.W.fnOf "law" "law" (defArgs s_law) (defBody s_law) (defScope s_law) .none kV20 dc20 pm20 an20 cd20 ct20), sl20⟩) (c20 : PySem.W.codeIn K cd20 "law" = true) (k20 : PySem.W.keepIn K (.ref f20) = true)
    (aC_Row : PySem.W.nsIn K mainGlobals "Row" = some (some (.ref C_Row))) (pg_Row : PySem.W.plainGet K C_Row Str.empty = true) (hd_Row : PySem.W.hasDictIn K C_Row = true) (po_Row : PySem.W.plainOver K C_Row = true) (sa_Row : PySem.W.findIn K (.ref C_Row) "__setattr__" = some (some (.builtin "object.__setattr__"))) (mk_Row : PySem.W.makesIn K C_Row = true) (kc_Row : PySem.W.keepIn K (.ref C_Row) = true)
    (no_Row_drawn : PySem.W.findIn K (.ref C_Row) "drawn" = some none)
    (no_Row_end : PySem.W.findIn K (.ref C_Row) "end" = some none)
    (no_Row_first : PySem.W.findIn K (.ref C_Row) "first" = some none)
    (no_Row_letters : PySem.W.findIn K (.ref C_Row) "letters" = some none)
    (z_bool : PySem.W.nsIn K mainGlobals "bool" = some none)
    (z_dict : PySem.W.nsIn K mainGlobals "dict" = some none)
    (z_int : PySem.W.nsIn K mainGlobals "int" = some none)
    (z_isinstance : PySem.W.nsIn K mainGlobals "isinstance" = some none)
    (z_len : PySem.W.nsIn K mainGlobals "len" = some none)
    (z_list : PySem.W.nsIn K mainGlobals "list" = some none)
    (z_max : PySem.W.nsIn K mainGlobals "max" = some none)
    (z_min : PySem.W.nsIn K mainGlobals "min" = some none)
    (z_range : PySem.W.nsIn K mainGlobals "range" = some none)
    (z_reversed : PySem.W.nsIn K mainGlobals "reversed" = some none)
    (z_set : PySem.W.nsIn K mainGlobals "set" = some none)
    (z_sorted : PySem.W.nsIn K mainGlobals "sorted" = some none)
    (z_str : PySem.W.nsIn K mainGlobals "str" = some none)
    (z_tuple : PySem.W.nsIn K mainGlobals "tuple" = some none) :
    ∃ a, Txt K mg a :=
  ⟨⟨C_Row, f1, (PySem.W.fnOf "drawn_away" "drawn_away" (defArgs s_drawn_away) (defBody s_drawn_away) (defScope s_drawn_away) .none kV1 dc1 pm1 an1 cd1 ct1), f2, (PySem.W.fnOf "table_of" "table_of" (defArgs s_table_of) (defBody s_table_of) (defScope s_table_of) .none kV2 dc2 pm2 an2 cd2 ct2), f3, (PySem.W.fnOf "__init__" "Row.__init__" (defArgs s_Row___init__) (defBody s_Row___init__) (defScope s_Row___init__) .none kV3 dc3 pm3 an3 cd3 ct3), f4, (PySem.W.fnOf "add" "Row.add" (defArgs s_Row_add) (defBody s_Row_add) (defScope s_Row_add) (.ref tD4) kV4 dc4 pm4 an4 cd4 ct4), [.int 0 tk4_0], [.int 0 tk4_0], f5, (PySem.W.fnOf "at" "Row.at" (defArgs s_Row_at) (defBody s_Row_at) (defScope s_Row_at) .none kV5 dc5 pm5 an5 cd5 ct5), f6, (PySem.W.fnOf "seen" "Row.seen" (defArgs s_Row_seen) (defBody s_Row_seen) (defScope s_Row_seen) .none kV6 dc6 pm6 an6 cd6 ct6), f7, (PySem.W.fnOf "take_out" "Row.take_out" (defArgs s_Row_take_out) (defBody s_Row_take_out) (defScope s_Row_take_out) .none kV7 dc7 pm7 an7 cd7 ct7), f8, (PySem.W.fnOf "raise_drawn" "Row.raise_drawn" (defArgs s_Row_raise_drawn) (defBody s_Row_raise_drawn) (defScope s_Row_raise_drawn) .none kV8 dc8 pm8 an8 cd8 ct8), f9, (PySem.W.fnOf "_law_cell_at" "_law_cell_at" (defArgs s_l_cell_at) (defBody s_l_cell_at) (defScope s_l_cell_at) .none kV9 dc9 pm9 an9 cd9 ct9), f10, (PySem.W.fnOf "_law_mixed" "_law_mixed" (defArgs s_l_mixed) (defBody s_l_mixed) (defScope s_l_mixed) .none kV10 dc10 pm10 an10 cd10 ct10), f11, (PySem.W.fnOf "_law_plain" "_law_plain" (defArgs s_l_plain) (defBody s_l_plain) (defScope s_l_plain) .none kV11 dc11 pm11 an11 cd11 ct11), f12, (PySem.W.fnOf "_law_same" "_law_same" (defArgs s_l_same) (defBody s_l_same) (defScope s_l_same) .none kV12 dc12 pm12 an12 cd12 ct12), f13, (PySem.W.fnOf "_law_sign" "_law_sign" (defArgs s_l_sign) (defBody s_l_sign) (defScope s_l_sign) .none kV13 dc13 pm13 an13 cd13 ct13), f14, (PySem.W.fnOf "_law_keys" "_law_keys" (defArgs s_l_keys) (defBody s_l_keys) (defScope s_l_keys) .none kV14 dc14 pm14 an14 cd14 ct14), f15, (PySem.W.fnOf "_law_word" "_law_word" (defArgs s_l_word) (defBody s_l_word) (defScope s_l_word) .none kV15 dc15 pm15 an15 cd15 ct15), f16, (PySem.W.fnOf "_law_table" "_law_table" (defArgs s_l_table) (defBody s_l_table) (defScope s_l_table) .none kV16 dc16 pm16 an16 cd16 ct16), f17, (PySem.W.fnOf "_law_is_table" "_law_is_table" (defArgs s_l_is_table) (defBody s_l_is_table) (defScope s_l_is_table) .none kV17 dc17 pm17 an17 cd17 ct17), f18, (PySem.W.fnOf "_law_draw" "_law_draw" (defArgs s_l_draw) (defBody s_l_draw) (defScope s_l_draw) .none kV18 dc18 pm18 an18 cd18 ct18), f19, (PySem.W.fnOf "_law_tells_all" "_law_tells_all" (defArgs s_l_tells_all) (defBody s_l_tells_all) (defScope s_l_tells_all) .none kV19 dc19 pm19 an19 cd19 ct19), f20, (PySem.W.fnOf "law" "law" (defArgs s_law) (defBody s_law) (defScope s_law) .none kV20 dc20 pm20 an20 cd20 ct20)⟩, {
    m_drawn_away := PySem.W.mg_of X G a1,
    F_drawn_away := fun_mk (st := s_drawn_away) l1 c1 k1,
    b_drawn_away := ((fun_mk (st := s_drawn_away) l1 c1 k1).binds (fun _ _ _ _ _ _ => el3 fun _ _ _ => rfl)),
    m_table_of := PySem.W.mg_of X G a2,
    F_table_of := fun_mk (st := s_table_of) l2 c2 k2,
    b_table_of := ((fun_mk (st := s_table_of) l2 c2 k2).binds (fun _ _ _ _ _ _ => el1 fun _ => rfl)),
    F_Row___init__ := fun_mk (st := s_Row___init__) l3 c3 k3,
    b_Row___init__ := ((fun_mk (st := s_Row___init__) l3 c3 k3).binds (fun _ _ _ _ _ _ => el1 fun _ => rfl)),
    M_Row_add := ⟨a4, i4, k4⟩,
    F_Row_add := (funD_mk (st := s_Row_add) (items := [.int 0 tk4_0]) l4 c4 k4 dl4),
    b_Row_add := (FunD.binds [] 4 rfl (funD_mk (st := s_Row_add) (items := [.int 0 tk4_0]) l4 c4 k4 dl4) (fun _ _ _ _ _ _ _ => el4 fun _ _ _ _ => ⟨_, rfl, rfl⟩)),
    b1_Row_add := (FunD.binds [.int 0 tk4_0] 3 rfl (funD_mk (st := s_Row_add) (items := [.int 0 tk4_0]) l4 c4 k4 dl4) (fun _ _ _ _ _ _ _ => el3 fun _ _ _ => ⟨_, rfl, rfl⟩)),
    v1_Row_add := (.cons ⟨_, rfl⟩ .nil),
    M_Row_at := ⟨a5, i5, k5⟩,
    F_Row_at := fun_mk (st := s_Row_at) l5 c5 k5,
    b_Row_at := ((fun_mk (st := s_Row_at) l5 c5 k5).binds (fun _ _ _ _ _ _ => el2 fun _ _ => rfl)),
    M_Row_seen := ⟨a6, i6, k6⟩,
    F_Row_seen := fun_mk (st := s_Row_seen) l6 c6 k6,
    b_Row_seen := ((fun_mk (st := s_Row_seen) l6 c6 k6).binds (fun _ _ _ _ _ _ => el4 fun _ _ _ _ => rfl)),
    M_Row_take_out := ⟨a7, i7, k7⟩,
    F_Row_take_out := fun_mk (st := s_Row_take_out) l7 c7 k7,
    b_Row_take_out := ((fun_mk (st := s_Row_take_out) l7 c7 k7).binds (fun _ _ _ _ _ _ => el2 fun _ _ => rfl)),
    M_Row_raise_drawn := ⟨a8, i8, k8⟩,
    F_Row_raise_drawn := fun_mk (st := s_Row_raise_drawn) l8 c8 k8,
    b_Row_raise_drawn := ((fun_mk (st := s_Row_raise_drawn) l8 c8 k8).binds (fun _ _ _ _ _ _ => el2 fun _ _ => rfl)),
    m_l_cell_at := PySem.W.mg_of X G a9,
    F_l_cell_at := fun_mk (st := s_l_cell_at) l9 c9 k9,
    b_l_cell_at := ((fun_mk (st := s_l_cell_at) l9 c9 k9).binds (fun _ _ _ _ _ _ => el2 fun _ _ => rfl)),
    m_l_mixed := PySem.W.mg_of X G a10,
    F_l_mixed := fun_mk (st := s_l_mixed) l10 c10 k10,
    b_l_mixed := ((fun_mk (st := s_l_mixed) l10 c10 k10).binds (fun _ _ _ _ _ _ => el2 fun _ _ => rfl)),
    m_l_plain := PySem.W.mg_of X G a11,
    F_l_plain := fun_mk (st := s_l_plain) l11 c11 k11,
    b_l_plain := ((fun_mk (st := s_l_plain) l11 c11 k11).binds (fun _ _ _ _ _ _ => el1 fun _ => rfl)),
    m_l_same := PySem.W.mg_of X G a12,
    F_l_same := fun_mk (st := s_l_same) l12 c12 k12,
    b_l_same := ((fun_mk (st := s_l_same) l12 c12 k12).binds (fun _ _ _ _ _ _ => el2 fun _ _ => rfl)),
    m_l_sign := PySem.W.mg_of X G a13,
    F_l_sign := fun_mk (st := s_l_sign) l13 c13 k13,
    b_l_sign := ((fun_mk (st := s_l_sign) l13 c13 k13).binds (fun _ _ _ _ _ _ => el1 fun _ => rfl)),
    m_l_keys := PySem.W.mg_of X G a14,
    F_l_keys := fun_mk (st := s_l_keys) l14 c14 k14,
    b_l_keys := ((fun_mk (st := s_l_keys) l14 c14 k14).binds (fun _ _ _ _ _ _ => el2 fun _ _ => rfl)),
    m_l_word := PySem.W.mg_of X G a15,
    F_l_word := fun_mk (st := s_l_word) l15 c15 k15,
    b_l_word := ((fun_mk (st := s_l_word) l15 c15 k15).binds (fun _ _ _ _ _ _ => el1 fun _ => rfl)),
    m_l_table := PySem.W.mg_of X G a16,
    F_l_table := fun_mk (st := s_l_table) l16 c16 k16,
    b_l_table := ((fun_mk (st := s_l_table) l16 c16 k16).binds (fun _ _ _ _ _ _ => el1 fun _ => rfl)),
    m_l_is_table := PySem.W.mg_of X G a17,
    F_l_is_table := fun_mk (st := s_l_is_table) l17 c17 k17,
    b_l_is_table := ((fun_mk (st := s_l_is_table) l17 c17 k17).binds (fun _ _ _ _ _ _ => el2 fun _ _ => rfl)),
    m_l_draw := PySem.W.mg_of X G a18,
    F_l_draw := fun_mk (st := s_l_draw) l18 c18 k18,
    b_l_draw := ((fun_mk (st := s_l_draw) l18 c18 k18).binds (fun _ _ _ _ _ _ => el3 fun _ _ _ => rfl)),
    m_l_tells_all := PySem.W.mg_of X G a19,
    F_l_tells_all := fun_mk (st := s_l_tells_all) l19 c19 k19,
    b_l_tells_all := ((fun_mk (st := s_l_tells_all) l19 c19 k19).binds (fun _ _ _ _ _ _ => el3 fun _ _ _ => rfl)),
    m_law := PySem.W.mg_of X G a20,
    F_law := fun_mk (st := s_law) l20 c20 k20,
    b_law := ((fun_mk (st := s_law) l20 c20 k20).binds (fun _ _ _ _ _ _ => el1 fun _ => rfl)),
    cl_Row := ⟨pg_Row, hd_Row, po_Row, sa_Row⟩,
    mg_Row := PySem.W.mg_of X G aC_Row,
    k_Row := ⟨mk_Row, a3, i3, kc_Row⟩,
    no_Row_drawn := no_Row_drawn,
    no_Row_end := no_Row_end,
    no_Row_first := no_Row_first,
    no_Row_letters := no_Row_letters,
    n_bool := PySem.W.mg_none_of X G z_bool,
    n_dict := PySem.W.mg_none_of X G z_dict,
    n_int := PySem.W.mg_none_of X G z_int,
    n_isinstance := PySem.W.mg_none_of X G z_isinstance,
    n_len := PySem.W.mg_none_of X G z_len,
    n_list := PySem.W.mg_none_of X G z_list,
    n_max := PySem.W.mg_none_of X G z_max,
    n_min := PySem.W.mg_none_of X G z_min,
    n_range := PySem.W.mg_none_of X G z_range,
    n_reversed := PySem.W.mg_none_of X G z_reversed,
    n_set := PySem.W.mg_none_of X G z_set,
    n_sorted := PySem.W.mg_none_of X G z_sorted,
    n_str := PySem.W.mg_none_of X G z_str,
    n_tuple := PySem.W.mg_none_of X G z_tuple,
    bl_law := fun s u => .of_eq rfl }⟩
theorem walk {l : PySem.W.OpenLaw} {q : Program} {loose : List Str} {XP : (Str → Option Value) → Heap → Prop} {YP : World → Heap → Prop} {d : DefRec} {K : Params → PySem.W.Frag} (hn : l.most = some 63) (hdf : d.params.defaults = [])
    (hY : ∀ (w : World) (h : Heap), YP w h → (K w.params).In h)
    (F : ∀ (w : World) (mg : Str → Option Value) (fa : Addr) (h : Heap), (K w.params).In h → h.Ns mainGlobals mg → mg d.name = some (.ref fa) →
      ∃ fd : FuncData, (∀ (s : Shared) (u : Value), BindsTo s fd ⟨[u], []⟩ [("_law_script", u)]) ∧ ∀ base : Heap, (K w.params).In base → base.Ns mainGlobals mg → FnOk l.prog w (K w.params) mg base CX0 7 fa fd ["_law_script"] (sp_law (K w.params))) :
    PySem.W.WalkO q loose XP YP l.row.toRowW d [] (fun f vs => PySem.call f vs) :=
  L2.walk_of (n := 63) (k := 7) (x := "_law_script") (CX := fun _ => CX0) (sp := fun w => sp_law (K w.params)) hn (by decide) hdf ⟨rfl, by decide, by decide⟩ hY F (fun _ _ a ns hl _ hS => ⟨a, ns, rfl, hS, hl, fun _ => rfl⟩) fun _ _ _ _ _ z => z
end K67
def PySem.W.Fast.tw7382368778392921713 : Unit := ()
def PySem.W.Fast.tw9621383255968330689 : Unit := ()
def PySem.W.Fast.tw15850358623915324251 : Unit := ()
def PySem.W.Fast.tw1106851342166438531 : Unit := ()
def PySem.W.Fast.tw6578431154684997691 : Unit := ()
def PySem.W.Fast.tw7324508681494199331 : Unit := ()
def PySem.W.Fast.tw453671764497094064 : Unit := ()
def PySem.W.Fast.tw2279209738458528082 : Unit := ()
def PySem.W.Fast.tw6990877297799256753 : Unit := ()
def PySem.W.Fast.tw6067971543521191472 : Unit := ()
def PySem.W.Fast.tw10213982002216749462 : Unit := ()
def PySem.W.Fast.tw13761170498752538549 : Unit := ()
def PySem.W.Fast.tw6120861678929587512 : Unit := ()
def PySem.W.Fast.tw12298261412356476942 : Unit := ()

open PySem PySem.W PyProof.Rows
set_option maxRecDepth 100000 in
set_option maxHeartbeats 0 in
theorem PySem.Challenge.cw_lettercell_k67_whole_what_stands_tells_a_holds : PySem.Challenge.rw_lettercell_k67_whole_what_stands_tells_a.Holds := by
  w_on; o_law; k_head; (case hw => w_witness2)
  k_fill
  refine K67.walk (l := PySem.Challenge.rw_lettercell_k67_whole_what_stands_tells_a) rfl rfl (fun w h Y => PySem.W.kIn_of Y) ?F
  case F =>
    intro w mg fa h KX G hmg
    have T : ∃ t, K67.Txt (L2.KOf KX) mg t := by
      dsimp only [L2.KOf]
      refine' K67.txt_mk KX G ?a1 ?l1 ?c1 ?k1 ?a2 ?l2 ?c2 ?k2 ?a3 ?i3 ?l3 ?c3 ?k3 ?a4 ?i4 ?l4 ?c4 ?k4 ?dl4 ?a5 ?i5 ?l5 ?c5 ?k5 ?a6 ?i6 ?l6 ?c6 ?k6 ?a7 ?i7 ?l7 ?c7 ?k7 ?a8 ?i8 ?l8 ?c8 ?k8 ?a9 ?l9 ?c9 ?k9 ?a10 ?l10 ?c10 ?k10 ?a11 ?l11 ?c11 ?k11 ?a12 ?l12 ?c12 ?k12 ?a13 ?l13 ?c13 ?k13 ?a14 ?l14 ?c14 ?k14 ?a15 ?l15 ?c15 ?k15 ?a16 ?l16 ?c16 ?k16 ?a17 ?l17 ?c17 ?k17 ?a18 ?l18 ?c18 ?k18 ?a19 ?l19 ?c19 ?k19 ?a20 ?l20 ?c20 ?k20 ?aC_Row ?pg_Row ?hd_Row ?po_Row ?sa_Row ?mk_Row ?kc_Row ?no_Row_drawn ?no_Row_end ?no_Row_first ?no_Row_letters ?z_bool ?z_dict ?z_int ?z_isinstance ?z_len ?z_list ?z_max ?z_min ?z_range ?z_reversed ?z_set ?z_sorted ?z_str ?z_tuple
      (case aC_Row => k_is)
      (case a1 => k_is)
      (case l1 => k_is)
      (case c1 => k_is)
      (case k1 => k_is)
      (case a2 => k_is)
      (case l2 => k_is)
      (case c2 => k_is)
      (case k2 => k_is)
      (case a3 => k_is)
      (case i3 => k_is)
      (case l3 => k_is)
      (case c3 => k_is)
      (case k3 => k_is)
      (case a4 => k_is)
      (case i4 => k_is)
      (case l4 => k_is)
      (case c4 => k_is)
      (case k4 => k_is)
      (case dl4 => k_is)
      (case a5 => k_is)
      (case i5 => k_is)
      (case l5 => k_is)
      (case c5 => k_is)
      (case k5 => k_is)
      (case a6 => k_is)
      (case i6 => k_is)
      (case l6 => k_is)
      (case c6 => k_is)
      (case k6 => k_is)
      (case a7 => k_is)
      (case i7 => k_is)
      (case l7 => k_is)
      (case c7 => k_is)
      (case k7 => k_is)
      (case a8 => k_is)
      (case i8 => k_is)
      (case l8 => k_is)
      (case c8 => k_is)
      (case k8 => k_is)
      (case a9 => k_is)
      (case l9 => k_is)
      (case c9 => k_is)
      (case k9 => k_is)
      (case a10 => k_is)
      (case l10 => k_is)
      (case c10 => k_is)
      (case k10 => k_is)
      (case a11 => k_is)
      (case l11 => k_is)
      (case c11 => k_is)
      (case k11 => k_is)
      (case a12 => k_is)
      (case l12 => k_is)
      (case c12 => k_is)
      (case k12 => k_is)
      (case a13 => k_is)
      (case l13 => k_is)
      (case c13 => k_is)
      (case k13 => k_is)
      (case a14 => k_is)
      (case l14 => k_is)
      (case c14 => k_is)
      (case k14 => k_is)
      (case a15 => k_is)
      (case l15 => k_is)
      (case c15 => k_is)
      (case k15 => k_is)
      (case a16 => k_is)
      (case l16 => k_is)
      (case c16 => k_is)
      (case k16 => k_is)
      (case a17 => k_is)
      (case l17 => k_is)
      (case c17 => k_is)
      (case k17 => k_is)
      (case a18 => k_is)
      (case l18 => k_is)
      (case c18 => k_is)
      (case k18 => k_is)
      (case a19 => k_is)
      (case l19 => k_is)
      (case c19 => k_is)
      (case k19 => k_is)
      (case a20 => k_is)
      (case l20 => k_is)
      (case c20 => k_is)
      (case k20 => k_is)
      (case pg_Row => k_is)
      (case hd_Row => k_is)
      (case po_Row => k_is)
      (case sa_Row => k_is)
      (case mk_Row => k_is)
      (case kc_Row => k_is)
      (case no_Row_drawn => k_is)
      (case no_Row_end => k_is)
      (case no_Row_first => k_is)
      (case no_Row_letters => k_is)
      (case z_bool => k_is)
      (case z_dict => k_is)
      (case z_int => k_is)
      (case z_isinstance => k_is)
      (case z_len => k_is)
      (case z_list => k_is)
      (case z_max => k_is)
      (case z_min => k_is)
      (case z_range => k_is)
      (case z_reversed => k_is)
      (case z_set => k_is)
      (case z_sorted => k_is)
      (case z_str => k_is)
      (case z_tuple => k_is)
    obtain ⟨t, T⟩ := T
    have e0 := hmg.symm.trans T.m_law
    cases e0
    exact ⟨_, T.bl_law, fun base kb nb => K67.ok_law T⟩
#print axioms PySem.Challenge.cw_lettercell_k67_whole_what_stands_tells_a_holds

