import PyProof.Rows.All
import Wide.All
import OpenK.AllK
import Wide.FinOn
import Lean
import PyProof.EqAt
import PyProof.EqKinds
import PyProof.TupleCall
import KE.KRevIter
import PyProof.StationsW
import PyProof.ExcBaseAll.ValueError
import PyProof.ExcInit
import PyProof.InstStoreFacts
import KE.KTryMore
import PyProof.NsDelKeeps
import KE.KDictSum
import KE.KDictList
import PyProof.Rows.SeqMore
import KE.KEqDict
import PyProof.Rows.SortStr
import PySem.Challenge.RW_lettercell_k44_whole_no_even_dealing_mov
-- CHANGE: your row's module here, as the last of these rows
set_option Elab.async false
set_option linter.all false
set_option maxRecDepth 100000
/-! THE HAND LAYER, for ints, bools, texts, own classes, LISTS and tuples (index, slices, in, append, pop ..), calls, loops. Paste it whole ahead of your own text; what your proof does not reach may be deleted. -/
namespace L2
open PySem PySem.Spec PyProof.Rows

/-- a key: an int or a str -/
abbrev Key := Sum Int Str
def keyIs : Key → Value → Bool
  | .inl k, v => Value.isInt k v
  | .inr x, v => Value.isStrOf x v
def keyH (w : World) : Key → Int
  | .inl k => hashInt k
  | .inr x => hashStr w x
theorem keyIs_shape : ∀ {k : Key} {v : Value}, keyIs k v = true → (∃ i t, k = Sum.inl i ∧ v = Value.int i t) ∨ (∃ x t, k = Sum.inr x ∧ v = Value.str x t)
  | .inl i, v, h => by
    obtain ⟨t, e⟩ := Value.isInt_shape (k := i) (v := v) h
    exact .inl ⟨i, t, rfl, e⟩
  | .inr x, v, h => by
    obtain ⟨t, e⟩ := Value.isStrOf_shape (x := x) (v := v) h
    exact .inr ⟨x, t, rfl, e⟩
theorem keyIs_int (i : Int) (t : Tok) : keyIs (.inl i) (.int i t) = true := by simp [keyIs, Value.isInt]
theorem keyIs_str (x : Str) (t : Tok) : keyIs (.inr x) (.str x t) = true := by simp [keyIs, Value.isStrOf]
theorem key_ll (a b : Int) : decide ((Sum.inl a : Key) = Sum.inl b) = (a == b) := by
  by_cases e : a = b
  · subst e; simp
  · have h : ¬ (Sum.inl a : Key) = Sum.inl b := fun q => e (Sum.inl.inj q)
    rw [decide_eq_false h]
    exact (beq_eq_false_iff_ne.mpr e).symm
theorem key_rr (a b : Str) : decide ((Sum.inr a : Key) = Sum.inr b) = decide (a = b) := by
  by_cases e : a = b
  · subst e; simp
  · have h : ¬ (Sum.inr a : Key) = Sum.inr b := fun q => e (Sum.inr.inj q)
    rw [decide_eq_false h, decide_eq_false e]
theorem key_lr (a : Int) (b : Str) : decide ((Sum.inl a : Key) = Sum.inr b) = false := decide_eq_false (fun q => nomatch q)
theorem key_rl (a : Str) (b : Int) : decide ((Sum.inr a : Key) = Sum.inl b) = false := decide_eq_false (fun q => nomatch q)

def mixKind (prog : Program) (w : World) : PySem.KeyKind prog w Key where
  is := keyIs
  hash := keyH w
  inj := fun v a b ha hb => by
    rcases keyIs_shape ha with ⟨i, t, rfl, rfl⟩ | ⟨x, t, rfl, rfl⟩
    · rcases keyIs_shape hb with ⟨j, u, rfl, e⟩ | ⟨y, u, rfl, e⟩
      · injection e with e1 _; rw [e1]
      · exact nomatch e
    · rcases keyIs_shape hb with ⟨j, u, rfl, e⟩ | ⟨y, u, rfl, e⟩
      · exact nomatch e
      · injection e with e1 _; rw [e1]
  byValue := fun k v h => by
    rcases keyIs_shape h with ⟨i, t, rfl, rfl⟩ | ⟨x, t, rfl, rfl⟩ <;> rfl
  pyHash := fun hv h => by
    rcases keyIs_shape hv with ⟨i, t, rfl, rfl⟩ | ⟨x, t, rfl, rfl⟩
    · exact wpAny_pyHash_int h
    · exact wpAny_pyHash_str h
  eqBool := fun hu hv h => by
    rcases keyIs_shape hu with ⟨i, t, rfl, rfl⟩ | ⟨x, t, rfl, rfl⟩
    · rcases keyIs_shape hv with ⟨j, u, rfl, rfl⟩ | ⟨y, u, rfl, rfl⟩
      · rw [key_ll] at h; exact wpAny_eqBool_int h
      · rw [key_lr] at h; exact SeqAt.EqAt.int_str i t y u _ _ _ _ h
    · rcases keyIs_shape hv with ⟨j, u, rfl, rfl⟩ | ⟨y, u, rfl, rfl⟩
      · rw [key_rl] at h; exact SeqAt.EqAt.str_int x t j u _ _ _ _ h
      · rw [key_rr] at h; exact wpAny_eqBool_str h
  «strs» := fun k x t v h => by
    rcases keyIs_shape h with ⟨i, u, rfl, e⟩ | ⟨y, u, rfl, e⟩
    · exact nomatch e
    · injection e with e1 _
      subst e1
      cases v <;> rfl

theorem mixKind_int (prog : Program) (w : World) (i : Int) (t : Tok) : (mixKind prog w).is (.inl i) (.int i t) = true := keyIs_int i t
theorem mixKind_str (prog : Program) (w : World) (x : Str) (t : Tok) : (mixKind prog w).is (.inr x) (.str x t) = true := keyIs_str x t
end L2

namespace L2
open PySem PySem.Spec PyProof.Rows

/-- a value, without the heap -/
inductive V where
  | non | bl (b : Bool) | int (i : Int) | str (x : Str) | byt (b : Array UInt8) | flt (b : UInt64) | ref (a : Addr) | ty (n : String)
  deriving DecidableEq

def RelV : V → Value → Prop
  | .non, u => u = Value.none
  | .bl b, u => u = Value.bool b
  | .int i, u => ∃ t, u = Value.int i t
  | .str x, u => ∃ t, u = Value.str x t
  | .byt b, u => ∃ t, u = Value.bytes b t
  | .flt b, u => ∃ t, u = Value.float b t
  | .ref a, u => u = Value.ref a
  | .ty n, u => u = Value.type n

abbrev Vals : List V → List Value → Prop := Paired RelV
theorem Vals.length {xs : List V} {us : List Value} (r : Vals xs us) : xs.length = us.length := Paired.length r
theorem Vals.get : ∀ {xs : List V} {us : List Value} {i : Nat} {x : V}, Vals xs us → xs[i]? = some x → ∃ u, us[i]? = some u ∧ RelV x u
  | _, _, _, _, .nil, e => by simp at e
  | _, _, 0, _, .cons r _, e => by simp at e; subst e; exact ⟨_, rfl, r⟩
  | _, _, i + 1, x, .cons _ t, e => by
    obtain ⟨u, h1, h2⟩ := Vals.get (i := i) (x := x) t (by simpa using e)
    exact ⟨u, by simpa using h1, h2⟩
theorem Vals.set {x : V} {u : Value} (r : RelV x u) : ∀ {xs : List V} {us : List Value} (i : Nat), Vals xs us → Vals (xs.set i x) (us.set i u)
  | _, _, _, .nil => .nil
  | _, _, 0, .cons _ t => .cons r t
  | _, _, i + 1, .cons q t => .cons q (Vals.set r i t)
theorem Vals.append : ∀ {xs ys : List V} {us ws : List Value}, Vals xs us → Vals ys ws → Vals (xs ++ ys) (us ++ ws)
  | _, _, _, _, .nil, s => s
  | _, _, _, _, .cons r t, s => .cons r (Vals.append t s)
theorem Vals.take : ∀ {xs : List V} {us : List Value} (n : Nat), Vals xs us → Vals (xs.take n) (us.take n)
  | _, _, 0, _ => .nil
  | _, _, _ + 1, .nil => .nil
  | _, _, n + 1, .cons r t => .cons r (Vals.take n t)
theorem Vals.drop : ∀ {xs : List V} {us : List Value} (n : Nat), Vals xs us → Vals (xs.drop n) (us.drop n)
  | _, _, 0, r => r
  | _, _, _ + 1, .nil => .nil
  | _, _, n + 1, .cons _ t => Vals.drop n t
theorem Vals.none_of : ∀ {xs : List V} {us : List Value} {i : Nat}, Vals xs us → xs[i]? = none → us[i]? = none := fun {xs us i} r e => by
  have h1 := r.length
  have h2 : xs.length ≤ i := List.getElem?_eq_none_iff.mp e
  exact List.getElem?_eq_none_iff.mpr (by omega)

def RelO : Option V → Option Value → Prop
  | some v, some u => RelV v u
  | none, none => True
  | _, _ => False
def KV {κ : Type} : List (κ × V) → List (κ × Value) → Prop := Paired fun (p : κ × V) (q : κ × Value) => p.1 = q.1 ∧ RelV p.2 q.2

/-- a key of a dict (00_mix): an int or a text -/
def kV : Key → V
  | .inl i => .int i
  | .inr x => .str x

/-- what stands at a tracked address -/
inductive HO where
  /-- a list -/
  | lst (xs : List V)
  /-- a tuple (never changes) -/
  | tup (xs : List V)
  /-- a dict whose keys are ints and texts; one whose keys are tuples of ints and texts (the empty one is both) -/
  | dK (kvs : List (Key × V)) | dT (kvs : List (List Key × V))
  /-- a set of ints: its members, its size -/
  | set (S : Int → Bool) (n : Nat)
  /-- an instance of the class at C, its dict at dx, its attributes -/
  | ins (C dx : Addr) (fs : List (Str × V))
  /-- the dict of the instance at x -/
  | own (x : Addr)
  /-- the dict of an exception -/
  | xd (fs : List (Str × V))
  /-- a bound method, f of x -/
  | met (f x : Addr)
  /-- a range object lo, lo + 1, .. below hi -/
  | rng (lo hi : Int)
  /-- a thing that is known to the object (the script; a dict while a loop walks it): read, never written while it is so -/
  | frz (o : Obj) (u : HO)
  /-- a code object's table -/
  | tbl (ps : Array Value)
  /-- any other thing, by what is true of its one object (a def of one's own: SetO a S n := HO.ext fun h => ..) -/
  | ext (φ : Heap → Prop)

abbrev Hp := Addr → Option HO
def upd (H : Hp) (a : Addr) (o : HO) : Hp := fun b => if b = a then some o else H b
theorem upd_same {H : Hp} {a : Addr} {o : HO} : upd H a o a = some o := by unfold upd; rw [if_pos rfl]
theorem upd_ne {H : Hp} {a b : Addr} {o : HO} (h : b ≠ a) : upd H a o b = H b := by unfold upd; rw [if_neg h]
/-- two objects of different content stand apart -/
theorem ne_of {H : Hp} {a b : Addr} {o u : HO} (h : H a = some o) (h' : H b = some u) (d : o ≠ u) : a ≠ b := by
  intro e; subst e; rw [h] at h'; exact d (Option.some.inj h')
theorem ne_of_none {H : Hp} {a b : Addr} {o : HO} (h : H a = some o) (h' : H b = none) : a ≠ b := by
  intro e; subst e; rw [h] at h'; cases h'

section
variable (P : Program) (w : World)
def ObjOk (H : Hp) (h : Heap) (a : Addr) : HO → Prop
  | .lst xs => xs.length ≤ sizeLine ∧ ∃ (its : List Value) (n : Nat), Vals xs its ∧ h.get? a = some { cls := .type "list", data := .seq its.toArray n }
  | .tup xs => xs.length ≤ sizeLine ∧ ∃ its : List Value, Vals xs its ∧ IsTup h a its.toArray
  | .dK kvs => kvs.length ≤ sizeLine ∧ (a == sysModules) = false ∧ ∃ vs, KV kvs vs ∧ h.DictOf (mixKind P w) a vs
  | .dT kvs => kvs.length ≤ sizeLine ∧ (a == sysModules) = false ∧ ∃ xs : List (List Key × Addr × Value),
      Paired (fun (p : List Key × V) (q : List Key × Addr × Value) => p.1 = q.1 ∧ H q.2.1 = some (.tup (p.1.map kV)) ∧ RelV p.2 q.2.2) kvs xs ∧
      ∃ o es ep, h.get? a = some o ∧ o.ExactDict ∧ o.data = .dict es ep ∧ es.toList = xs.map (entryOfKey (tupleKind (mixKind P w))) ∧ (xs.map (·.1)).Nodup
  | .set S n => h.SetOf (intKind P w) a S n
  | .ins C dx fs => H dx = some (.own a) ∧ fs.length ≤ 1000 ∧ dx ≠ a ∧ h.get? a = some (PySem.W.instObj C dx) ∧
      ∃ mA, h.Ns1 dx mA ∧ (∀ f, RelO (fs.lookup f) (mA f)) ∧ PySem.Within mA (fs.map (·.1))
  | .own _ => ∃ o, h.get? a = some o
  | .xd fs => ∃ mA, h.Ns1 a mA ∧ ∀ f, RelO (fs.lookup f) (mA f)
  | .rng lo hi => ∃ t u v, h.get? a = some { cls := .type "range", data := .fields #[.int lo t, .int hi u, .int 1 v] }
  | .frz o u => h.get? a = some o ∧ ObjOk H h a u
  | .tbl ps => h.get? a = some { cls := .none, data := .fields ps }
  | .met f x => h.get? a = some (PySem.W.methodObj (.ref f) (.ref x))
  | .ext φ => φ h ∧ (∃ o, h.get? a = some o) ∧ ∀ h1 h2 : Heap, φ h1 → (∀ o, h1.get? a = some o → h2.get? a = some o) → φ h2
/-- the abstract heap is held -/
def HOk (H : Hp) (h : Heap) : Prop := ∀ a o, H a = some o → ObjOk P w H h a o
end

section
variable {P : Program} {w : World} {H H' : Hp} {h h' : Heap} {a : Addr} {o : HO}
theorem ObjOk.lt (x : ObjOk P w H h a o) : a < h.objs.size := by
  cases o with
  | lst xs => obtain ⟨_, _, _, _, e⟩ := x; exact Heap.lt_size e
  | tup xs => obtain ⟨_, _, _, p⟩ := x; exact p.lt
  | dK kvs => obtain ⟨_, _, _, _, o, _, _, e, _⟩ := x; exact Heap.lt_size e
  | dT kvs => obtain ⟨_, _, _, _, o, _, _, e, _⟩ := x; exact Heap.lt_size e
  | set S n => obtain ⟨o, _, _, _, e, _⟩ := x; exact Heap.lt_size e
  | ins C dx fs => obtain ⟨_, _, _, e, _⟩ := x; exact Heap.lt_size e
  | own y => obtain ⟨_, e⟩ := x; exact Heap.lt_size e
  | xd fs => obtain ⟨_, ⟨_, _, _, e, _⟩, _⟩ := x; exact Heap.lt_size e
  | rng lo hi => obtain ⟨_, _, _, e⟩ := x; exact Heap.lt_size e
  | frz ob u => obtain ⟨e, _⟩ := x; exact Heap.lt_size e
  | tbl ps => exact Heap.lt_size (show h.get? a = some _ from x)
  | met f y => exact Heap.lt_size (show h.get? a = some _ from x)
  | ext φ => obtain ⟨_, ⟨_, e⟩, _⟩ := x; exact Heap.lt_size e
theorem Paired.mapP {α β : Type} {F G : α → β → Prop} : ∀ {l₁ : List α} {l₂ : List β}, Paired F l₁ l₂ → (∀ a b, F a b → G a b) → Paired G l₁ l₂
  | _, _, .nil, _ => .nil
  | _, _, .cons r t, f => .cons (f _ _ r) (Paired.mapP t f)
/-- what an object's description leans on: its own object, its own dict, the tuples -/
theorem ObjOk.stay (x : ObjOk P w H h a o) (k : ∀ b u, (b = a ∨ H b = some (.own a)) → h.get? b = some u → h'.get? b = some u)
    (ho : ∀ b, H b = some (.own a) → H' b = some (.own a)) (ht : ∀ b xs, H b = some (.tup xs) → H' b = some (.tup xs)) : ObjOk P w H' h' a o := by
  induction o with
  | lst xs => obtain ⟨z, its, n, r, e⟩ := x; exact ⟨z, its, n, r, k _ _ (.inl rfl) e⟩
  | tup xs => obtain ⟨z, its, r, ob, e, c⟩ := x; exact ⟨z, its, r, ob, k _ _ (.inl rfl) e, c⟩
  | dK kvs => obtain ⟨z, y, vs, r, ob, es, ep, e, c⟩ := x; exact ⟨z, y, vs, r, ob, es, ep, k _ _ (.inl rfl) e, c⟩
  | dT kvs =>
    obtain ⟨z, y, xs, r, ob, es, ep, e, c⟩ := x
    exact ⟨z, y, xs, Paired.mapP r fun p q z => ⟨z.1, ht _ _ z.2.1, z.2.2⟩, ob, es, ep, k _ _ (.inl rfl) e, c⟩
  | set S n => obtain ⟨ob, es, ep, t, e, c⟩ := x; exact ⟨ob, es, ep, t, k _ _ (.inl rfl) e, c⟩
  | ins C dx fs =>
    obtain ⟨d, z, ne, e, mA, ⟨od, es, ep, e2, c⟩, r⟩ := x
    exact ⟨ho _ d, z, ne, k _ _ (.inl rfl) e, mA, ⟨od, es, ep, k _ _ (.inr d) e2, c⟩, r⟩
  | own y => obtain ⟨ob, e⟩ := x; exact ⟨ob, k _ _ (.inl rfl) e⟩
  | xd fs => obtain ⟨mA, ⟨od, es, ep, e, c⟩, r⟩ := x; exact ⟨mA, ⟨od, es, ep, k _ _ (.inl rfl) e, c⟩, r⟩
  | rng lo hi => obtain ⟨t, u, v, e⟩ := x; exact ⟨t, u, v, k _ _ (.inl rfl) e⟩
  | frz ob u ih => obtain ⟨e, q⟩ := x; exact ⟨k _ _ (.inl rfl) e, ih q⟩
  | tbl ps =>
    have e : h.get? a = some { cls := .none, data := .fields ps } := x
    show h'.get? a = some { cls := .none, data := .fields ps }
    exact k a _ (.inl rfl) e
  | met f y =>
    have e : h.get? a = some (PySem.W.methodObj (.ref f) (.ref y)) := x
    show h'.get? a = some (PySem.W.methodObj (.ref f) (.ref y))
    exact k a _ (.inl rfl) e
  | ext φ => obtain ⟨p, ⟨o, e⟩, st⟩ := x; exact ⟨st _ _ p fun o q => k _ _ (.inl rfl) q, ⟨o, k _ _ (.inl rfl) e⟩, st⟩
theorem HOk.lt (x : HOk P w H h) (e : H a = some o) : a < h.objs.size := (x a o e).lt
theorem HOk.fresh (x : HOk P w H h) (e : h.objs.size ≤ a) : H a = none := by
  cases q : H a with
  | none => rfl
  | some u => exact absurd (Nat.lt_of_lt_of_le (x.lt q) e) (Nat.lt_irrefl _)
/-- every object of the heap is kept -/
theorem HOk.kept (x : HOk P w H h) (k : ∀ b u, h.get? b = some u → h'.get? b = some u) : HOk P w H h' := fun a o e =>
  (x a o e).stay (fun b u _ q => k b u q) (fun _ q => q) fun _ _ q => q
/-- a new object is laid and tracked -/
theorem HOk.laid (x : HOk P w H h) (k : ∀ b u, h.get? b = some u → h'.get? b = some u) (hp : h.objs.size ≤ a) (new : ObjOk P w (upd H a o) h' a o) : HOk P w (upd H a o) h' := fun b u e => by
  have hn := x.fresh hp
  by_cases hb : b = a
  · subst hb; rw [upd_same] at e; cases e; exact new
  · rw [upd_ne hb] at e
    exact (x b u e).stay (fun c v _ q => k c v q) (fun c q => by rw [upd_ne (ne_of_none q hn)]; exact q) fun c xs q => by rw [upd_ne (ne_of_none q hn)]; exact q
end

/-- what may be read as u: it is u, or a known u -/
def Rd (H : Hp) (a : Addr) (u : HO) : Prop := H a = some u ∨ ∃ o, H a = some (.frz o u)
theorem Rd.of {H : Hp} {a : Addr} {u : HO} (h : H a = some u) : Rd H a u := .inl h
theorem Rd.ok {P : Program} {w : World} {H : Hp} {h : Heap} {a : Addr} {u : HO} (r : Rd H a u) (x : HOk P w H h) : ObjOk P w H h a u := by
  rcases r with r | ⟨o, r⟩
  · exact x a u r
  · obtain ⟨_, q⟩ := x a _ r
    exact q
/-- what may be written -/
def Mut : Option HO → Prop
  | some (.lst _) => True
  | some (.dK _) => True
  | some (.dT _) => True
  | some (.set _ _) => True
  | some (.ins _ _ _) => True
  | some (.ext _) => True
  | _ => False
section
variable {P : Program} {w : World} {H : Hp} {h h' : Heap} {x e : Addr} {o' : HO}
/-- the object at e is changed: x itself, or the dict of the instance x -/
theorem HOk.write (ok : HOk P w H h) (mu : Mut (H x)) (he : e = x ∨ H e = some (.own x)) (k : ∀ b u, b ≠ e → h.get? b = some u → h'.get? b = some u) (heo : ∃ u, h'.get? e = some u)
    (new : ObjOk P w (upd H x o') h' x o') : HOk P w (upd H x o') h' := fun b u q => by
  have nown : ∀ c y, H c = some (.own y) → c ≠ x := fun c y r z => by subst z; rw [r] at mu; exact mu
  have ntup : ∀ c xs, H c = some (.tup xs) → c ≠ x := fun c xs r z => by subst z; rw [r] at mu; exact mu
  by_cases hb : b = x
  · subst hb; rw [upd_same] at q; cases q; exact new
  · rw [upd_ne hb] at q
    by_cases hbe : b = e
    · have q' : H b = some (.own x) := by
        rcases he with z | z
        · exact absurd (hbe.trans z) hb
        · rw [hbe]; exact z
      rw [q] at q'; cases q'
      obtain ⟨v, hv⟩ := heo
      exact ⟨v, by rw [hbe]; exact hv⟩
    · refine (ok b u q).stay (fun c v hc r => k c v ?_ r) (fun c r => by rw [upd_ne (nown c b r)]; exact r) fun c xs r => by rw [upd_ne (ntup c xs r)]; exact r
      rcases hc with rfl | hc
      · exact hbe
      · rintro rfl
        rcases he with z | z
        · exact nown c b hc z
        · rw [hc] at z; cases z; exact hb rfl
end

/-! ### kept unless tracked; of the frames at fs (the callers') the slots may change (an exception that passes writes there); of the records at ex (iterators) nothing is said -/
structure Un (fs ex : List Addr) (H H' : Hp) (h h' : Heap) : Prop where
  keep : ∀ b o, h.get? b = some o → H b = none → b ∉ fs → b ∉ ex → h'.get? b = some o
  slot : ∀ b o, h.get? b = some o → H b = none → b ∈ fs → b ∉ ex → ∃ sl, h'.get? b = some { o with slots := sl }
  free : ∀ b o, h.get? b = some o → H b = none → b ∉ ex → H' b = none
  there : ∀ b o, h.get? b = some o → b ∉ ex → ∃ o', h'.get? b = some o'
  tups : ∀ b xs, H b = some (.tup xs) → H' b = some (.tup xs)
  frzs : ∀ b o u, H b = some (.frz o u) → H' b = some (.frz o u)
  tbls : ∀ b ps, H b = some (.tbl ps) → ∃ more, H' b = some (.tbl (ps ++ more))
section
variable {fs fs' ex ex' : List Addr} {H H1 H2 : Hp} {h h1 h2 h' : Heap} {a x e : Addr} {o : HO}
theorem Un.any (u : Un fs ex H H1 h h1) {b : Addr} {ob : Obj} (q : h.get? b = some ob) (n : H b = none) (hx : b ∉ ex) : ∃ sl, h1.get? b = some { ob with slots := sl } := by
  by_cases hb : b ∈ fs
  · exact u.slot b ob q n hb hx
  · exact ⟨ob.slots, u.keep b ob q n hb hx⟩
theorem Un.trans (a : Un fs ex H H1 h h1) (b : Un fs ex H1 H2 h1 h2) : Un fs ex H H2 h h2 where
  keep := fun c ob q n hc hx => b.keep c ob (a.keep c ob q n hc hx) (a.free c ob q n hx) hc hx
  slot := fun c ob q n hc hx => by
    obtain ⟨sl, e1⟩ := a.slot c ob q n hc hx
    obtain ⟨sl', e2⟩ := b.slot c _ e1 (a.free c ob q n hx) hc hx
    exact ⟨sl', e2⟩
  free := fun c ob q n hx => by
    obtain ⟨o', e1⟩ := a.there c ob q hx
    exact b.free c o' e1 (a.free c ob q n hx) hx
  there := fun c ob q hx => by
    obtain ⟨o', e1⟩ := a.there c ob q hx
    exact b.there c o' e1 hx
  tups := fun c xs q => b.tups c xs (a.tups c xs q)
  frzs := fun c ob xs q => b.frzs c ob xs (a.frzs c ob xs q)
  tbls := fun c ps q => by
    obtain ⟨m1, e1⟩ := a.tbls c ps q
    obtain ⟨m2, e2⟩ := b.tbls c _ e1
    exact ⟨m1 ++ m2, by rw [e2, Array.append_assoc]⟩
theorem Un.kept (k : ∀ b u, h.get? b = some u → h'.get? b = some u) : Un fs ex H H h h' :=
  ⟨fun b ob q _ _ _ => k b ob q, fun b ob q _ _ _ => ⟨ob.slots, k b ob q⟩, fun _ _ _ n _ => n, fun b ob q _ => ⟨ob, k b ob q⟩, fun _ _ q => q, fun _ _ _ q => q, fun _ ps q => ⟨#[], by rw [q]; simp⟩⟩
theorem Un.refl : Un fs ex H H h h := Un.kept fun _ _ q => q
theorem Un.laid (k : ∀ b u, h.get? b = some u → h'.get? b = some u) (hp : h.objs.size ≤ a) (hn : H a = none) : Un fs ex H (upd H a o) h h' where
  keep := fun b u q _ _ _ => k b u q
  slot := fun b u q _ _ _ => ⟨u.slots, k b u q⟩
  free := fun b u q n _ => by rw [upd_ne (Nat.ne_of_lt (Nat.lt_of_lt_of_le (Heap.lt_size q) hp))]; exact n
  there := fun b u q _ => ⟨u, k b u q⟩
  tups := fun b xs q => by rw [upd_ne (ne_of_none q hn)]; exact q
  frzs := fun b u xs q => by rw [upd_ne (ne_of_none q hn)]; exact q
  tbls := fun b ps q => ⟨#[], by rw [upd_ne (ne_of_none q hn), q]; simp⟩
theorem Un.write (mu : Mut (H x)) (he : e = x ∨ H e = some (.own x)) (k : ∀ b u, b ≠ e → h.get? b = some u → h'.get? b = some u) (heo : ∃ u, h'.get? e = some u) : Un fs ex H (upd H x o) h h' := by
  have hx : ∀ b, H b = none → b ≠ x := fun b n z => by subst z; rw [n] at mu; exact mu
  have hb : ∀ b, H b = none → b ≠ e := fun b n z => by
    subst z
    rcases he with r | r
    · exact hx b n r
    · rw [n] at r; cases r
  have hm : ∀ b u, H b = some u → ¬ Mut (some u) → b ≠ x := fun b u q nm z => by subst z; rw [q] at mu; exact nm mu
  refine ⟨fun b u q n _ _ => k b u (hb b n) q, fun b u q n _ _ => ⟨u.slots, k b u (hb b n) q⟩, fun b u q n _ => by rw [upd_ne (hx b n)]; exact n, fun b u q _ => ?_,
    fun b xs q => by rw [upd_ne (hm b _ q fun z => z)]; exact q, fun b u xs q => by rw [upd_ne (hm b _ q fun z => z)]; exact q, fun b ps q => ⟨#[], by rw [upd_ne (hm b _ q fun z => z), q]; simp⟩⟩
  by_cases hbe : b = e
  · subst hbe; exact heo
  · exact ⟨u, k b u hbe q⟩
theorem Un.mono (u : Un fs ex H H1 h h1) (hs : ∀ b ∈ fs, b ∈ fs') (hx : ∀ b ∈ ex, b ∈ ex') : Un fs' ex' H H1 h h1 :=
  ⟨fun b ob q n hb he => u.keep b ob q n (fun z => hb (hs b z)) fun z => he (hx b z), fun _ _ q n _ he => u.any q n fun z => he (hx _ z), fun b ob q n he => u.free b ob q n fun z => he (hx b z), fun b ob q he => u.there b ob q fun z => he (hx b z), u.tups, u.frzs, u.tbls⟩
end

/-! ### the heap without what is tracked -/
def trk (h : Heap) (H : Hp) : List Addr := (List.range h.objs.size).filter fun a => (H a).isSome
def hidT (h : Heap) (H : Hp) : Heap := PySem.W.hideAll h (trk h H)
theorem hidT_size (h : Heap) (H : Hp) : (hidT h H).objs.size = h.objs.size := PySem.W.hideAll_size _ _
theorem hidT_get {h : Heap} {H : Hp} {b : Addr} {o : Obj} (e : h.get? b = some o) (n : H b = none) : (hidT h H).get? b = some o :=
  PySem.W.hideAll_get _ e fun hm => by
    have q : (H b).isSome = true := (List.mem_filter.mp hm).2
    rw [n] at q; simp at q
theorem of_hidT {h : Heap} {H : Hp} {b : Addr} {o : Obj} (e : (hidT h H).get? b = some o) : h.get? b = some o ∧ H b = none := by
  have e' : h.get? b = some o := PySem.W.of_hideAll (trk h H) e
  refine ⟨e', ?_⟩
  cases q : H b with
  | none => rfl
  | some x =>
    have hm : b ∈ trk h H := List.mem_filter.mpr ⟨List.mem_range.mpr (Heap.lt_size e'), by simp [q]⟩
    have z : (hidT h H).get? b = none := PySem.W.hideAll_none (trk h H) hm
    rw [z] at e; cases e

/-! ### OpenK's ledger, filled with every new object but one -/
def allNews (g h : Heap) (L : Addr) : List (Addr × Obj) := (List.range h.objs.size).filterMap fun a => if a = L ∨ (g.get? a).isSome = true then none else (h.get? a).map fun o => (a, o)
def rest (g h : Heap) (L d : Addr) : List (Addr × Obj) := (allNews g h L).filter fun p => decide (p.1 ≠ d)
end L2

namespace L2
open PySem PySem.Spec PyProof.Rows

/-- the module's facts, over the base: the heap at the law's entry without what is tracked there -/
structure Mod (K : PySem.W.Frag) (mg : Str → Option Value) (base : Heap) : Prop where
  kin : K.In base
  glob : base.Ns mainGlobals mg
  blt : ∃ mb, base.Ns builtinsNs mb ∧ ∀ x : Str, x ≠ "__name__" → mb x = bootBuiltins x
  nolimit : base.NoLimit

/-- the context: a def's body (or a comprehension's block) running. base: fixed through the whole law; s₀, H₀: the entry; outer: the frames whose slots others may change (a def's callers); stack: all frames that run;
   ex: iterators that were made ahead of the entry and are walked here (a comprehension's); fn: the names whose cells were made at the entry (a def: all; a comprehension's block: its own); calm: not within an except suite; pn: pins that every state bears; xe: what is wanted of an exception that leaves the code -/
structure Cx where
  prog : Program
  w : World
  K : PySem.W.Frag
  mg : Str → Option Value
  base : Heap
  A : Around
  N : List Str
  s₀ : Shared
  H₀ : Hp
  env : Env
  outer : List Env
  stack : List Env
  ex : List Addr
  fn : Str → Bool
  calm : Bool
  pn : List (Addr × Obj)
  xe : Value → Shared → Prop
/-- the callers' frames -/
def frs (l : List Env) : List Addr := l.filterMap (·.frame)
abbrev Cx.fs (X : Cx) : List Addr := frs X.outer

def Vis (sc : Scope) (x : Str) : Prop := sc.names.lookup x = some .local ∨ sc.names.lookup x = some .cell ∨ sc.names.lookup x = some .free
def Loc (sc : Scope) (x : Str) : Prop := sc.names.lookup x = some .local ∨ sc.names.lookup x = some .cell
def Look (env : Env) (h : Heap) (m : Str → Option Value) (x : Str) (u : Value) : Prop :=
  (env.kindOf x = some .local ∧ m x = some u) ∨ ((env.kindOf x = some .cell ∨ env.kindOf x = some .free) ∧ ∃ c, env.cells.lookup x = some c ∧ h.IsCell c (some u))

structure Cx.Ok (X : Cx) : Prop where
  mod : Mod X.K X.mg X.base
  kind : X.env.scope.kind = .function
  glob : X.env.globals = mainGlobals
  blt : X.env.builtins = builtinsNs
  above : X.s₀.heap.objs.size ≤ X.env.locals
  inj : ∀ x y c, X.env.cells.lookup x = some c → X.env.cells.lookup y = some c → x = y
  has : ∀ x, (X.env.kindOf x = some .cell ∨ X.env.kindOf x = some .free) → ∃ c, X.env.cells.lookup x = some c
  cab : ∀ x c, X.fn x = true → X.env.cells.lookup x = some c → X.s₀.heap.objs.size ≤ c
  hd : X.calm = true → X.A.handled = none
  frames : X.A.frames = some X.stack
  stk : X.stack = X.outer ∨ (X.stack = X.env :: X.outer ∧ X.env.frame = some X.env.locals)
  exf : ∀ b ∈ X.ex, b ≠ X.env.locals ∧ ∀ x c, X.env.cells.lookup x = some c → c ≠ b
  bs : ∀ b o, X.base.get? b = some o → X.s₀.heap.get? b = some o ∧ X.H₀ b = none
  bsz : X.base.objs.size ≤ X.s₀.heap.objs.size
  noex : ∀ b o, X.base.get? b = some o → b ∉ X.ex
  exfs : ∀ b ∈ X.ex, b ∉ X.fs
  funs : X.s₀.heap.FunFrames X.base X.outer
  frf : ∀ b ∈ X.fs, X.H₀ b = none

structure Inv (X : Cx) (pins : List (Addr × Obj)) (σ : List (Option V)) (H : Hp) (s : Shared) : Prop where
  ok : X.Ok
  os : s.os = X.s₀.os
  bare : AllBare s.gens
  base : Un X.fs X.ex X.H₀ H X.s₀.heap s.heap
  loc : ∃ m, s.heap.Ns X.env.locals m ∧ ∀ (i : Nat) (x : Str) (v : V), X.N[i]? = some x → σ[i]? = some (some v) → Vis X.env.scope x → ∃ u, RelV v u ∧ Look X.env s.heap m x u
  cell : ∀ x c, X.env.cells.lookup x = some c → ∃ v, s.heap.IsCell c v
  free : H X.env.locals = none
  freeC : ∀ x c, X.env.cells.lookup x = some c → H c = none
  pin : ∀ p ∈ X.pn ++ pins, s.heap.get? p.1 = some p.2 ∧ H p.1 = none ∧ p.1 ≠ X.env.locals ∧ p.1 ∉ X.fs ∧ ∀ v, p.2.data ≠ .cell v
  hok : HOk X.prog X.w H s.heap
  len : σ.length = X.N.length

section
variable {X : Cx} {pins : List (Addr × Obj)} {σ : List (Option V)} {H H' : Hp} {s : Shared} {h' : Heap}

theorem Cx.Ok.nofr (ok : X.Ok) {b : Addr} {o : Obj} (e : X.base.get? b = some o) : b ∉ X.fs := fun hb => by
  have := (ok.funs.mem hb).1
  rw [e] at this; cases this
theorem Inv.bs (I : Inv X pins σ H s) : ∀ b o, X.base.get? b = some o → s.heap.get? b = some o ∧ H b = none := fun b o e =>
  ⟨I.base.keep b o (I.ok.bs b o e).1 (I.ok.bs b o e).2 (I.ok.nofr e) (I.ok.noex b o e), I.base.free b o (I.ok.bs b o e).1 (I.ok.bs b o e).2 (I.ok.noex b o e)⟩
theorem Inv.bk (I : Inv X pins σ H s) : ∀ b o, X.base.get? b = some o → s.heap.get? b = some o := fun b o e => (I.bs b o e).1
theorem Inv.mod (I : Inv X pins σ H s) : Mod X.K X.mg X.base := I.ok.mod
theorem Inv.kIn (I : Inv X pins σ H s) : X.K.In s.heap := I.ok.mod.kin.keeps I.bk
theorem Inv.nolimit (I : Inv X pins σ H s) : s.heap.NoLimit := I.ok.mod.nolimit.keeps I.bk
/-- the frame over the base: for OpenK's rules (K.In X.base is I.mod.kin) -/
theorem Inv.fr (I : Inv X pins σ H s) : ∃ m, Fr X.base X.env.locals s.heap m :=
  let ⟨m, hn, _⟩ := I.loc
  ⟨m, hn, I.bk, Nat.le_trans I.ok.bsz I.ok.above⟩
theorem Inv.lt (I : Inv X pins σ H s) : X.env.locals < s.heap.objs.size := let ⟨_, hn, _⟩ := I.loc; hn.lt
theorem Inv.sz (I : Inv X pins σ H s) : X.s₀.heap.objs.size ≤ s.heap.objs.size := Nat.le_trans I.ok.above (Nat.le_of_lt I.lt)
theorem Inv.nofs (I : Inv X pins σ H s) {a : Addr} (h : s.heap.objs.size ≤ a) : a ∉ X.fs := fun hb => by
  obtain ⟨_, o, ho, _⟩ := I.ok.funs.mem hb
  exact absurd (Nat.lt_of_lt_of_le (Heap.lt_size ho) (Nat.le_trans I.sz h)) (Nat.lt_irrefl _)
theorem Inv.cne (I : Inv X pins σ H s) : ∀ x c, X.env.cells.lookup x = some c → c ≠ X.env.locals := fun x c e z => by
  obtain ⟨v, o, ho, hd⟩ := I.cell x c e
  obtain ⟨m, ⟨o', es, ep, ho', hd', _⟩, _⟩ := I.loc
  rw [z, ho'] at ho; cases ho; rw [hd'] at hd; cases hd
theorem Inv.funs (I : Inv X pins σ H s) : s.heap.FunFrames X.base X.outer := by
  have all : ∀ (l : List Env), (∀ b ∈ frs l, b ∈ X.fs) → X.s₀.heap.FunFrames X.base l → s.heap.FunFrames X.base l := by
    intro l
    induction l with
    | nil => intro _ _; trivial
    | cons env r ih =>
      intro hs hl
      obtain ⟨hk, ⟨L, o, hf, hn, ho, hd⟩, hr⟩ := hl
      have hL : L ∈ X.fs := hs L (by unfold frs; rw [List.filterMap_cons, hf]; exact List.mem_cons_self)
      obtain ⟨sl, e⟩ := I.base.slot L o ho (I.ok.frf L hL) hL fun z => I.ok.exfs L z hL
      exact ⟨hk, ⟨L, _, hf, hn, e, hd⟩, ih (fun b hb => hs b (by unfold frs; rw [List.filterMap_cons, hf]; exact List.mem_cons_of_mem _ hb)) hr⟩
  exact all X.outer (fun _ hb => hb) I.ok.funs

/-- the frames that run, for a call -/
theorem Inv.stack (I : Inv X pins σ H s) : s.heap.FunFrames X.base X.stack := by
  rcases I.ok.stk with e | ⟨e, hf⟩
  · rw [e]; exact I.funs
  · rw [e]
    obtain ⟨m, hn, _⟩ := I.loc
    refine .cons (by rw [I.ok.kind]; decide) hf hn ?_ I.funs
    exact Heap.get?_none_of_le (Nat.le_trans I.ok.bsz I.ok.above)
theorem Inv.stkSub (I : Inv X pins σ H s) : ∀ b ∈ frs X.stack, b ∈ X.env.locals :: X.fs := fun b hb => by
  rcases I.ok.stk with e | ⟨e, hf⟩
  · rw [e] at hb; exact List.mem_cons_of_mem _ hb
  · rw [e] at hb
    unfold frs at hb
    rw [List.filterMap_cons, hf] at hb
    exact hb
theorem Inv.stkFree (I : Inv X pins σ H s) : ∀ b ∈ frs X.stack, H b = none := fun b hb => by
  rcases List.mem_cons.mp (I.stkSub b hb) with e | hb
  · rw [e]; exact I.free
  · obtain ⟨_, o, ho, _⟩ := I.ok.funs.mem hb
    exact I.base.free b o ho (I.ok.frf b hb) fun z => I.ok.exfs b z hb

/-- THE STEP: the untracked objects but the frame and the records at ch are kept (the callers' frames up to slots), the frame's map is kept, the new abstract heap is held -/
theorem Inv.step {g' : Array GenState} {t' : Nat} {d' : Drawn} {ch : List Addr} (I : Inv X pins σ H s)
    (hch : ∀ b ∈ ch, (b ∈ X.ex ∨ X.s₀.heap.objs.size ≤ b) ∧ b ≠ X.env.locals ∧ (∀ x c, X.env.cells.lookup x = some c → c ≠ b) ∧ ∀ p ∈ X.pn ++ pins, p.1 ≠ b)
    (keep : ∀ b o, b ≠ X.env.locals → b ∉ X.fs → b ∉ ch → s.heap.get? b = some o → H b = none → h'.get? b = some o)
    (slot : ∀ b o, b ≠ X.env.locals → b ∈ X.fs → b ∉ ch → s.heap.get? b = some o → H b = none → ∃ sl, h'.get? b = some { o with slots := sl }) (free : ∀ b o, b ∉ ch → s.heap.get? b = some o → H b = none → H' b = none)
    (there : ∀ b o, b ∉ ch → s.heap.get? b = some o → ∃ o', h'.get? b = some o')
    (tups : ∀ b xs, H b = some (.tup xs) → H' b = some (.tup xs)) (frzs : ∀ b o u, H b = some (.frz o u) → H' b = some (.frz o u)) (tbls : ∀ b ps, H b = some (.tbl ps) → ∃ more, H' b = some (.tbl (ps ++ more)))
    (ns : ∀ m, s.heap.Ns X.env.locals m → h'.Ns X.env.locals m) (hok : HOk X.prog X.w H' h') (hg : AllBare g') :
    Inv X pins σ H' { s with heap := h', gens := g', drawn := d', toks := t' } := by
  have neL : ∀ b o, X.s₀.heap.get? b = some o → b ≠ X.env.locals := fun b o e => Nat.ne_of_lt (Nat.lt_of_lt_of_le (Heap.lt_size e) I.ok.above)
  have neC : ∀ b o, X.s₀.heap.get? b = some o → b ∉ X.ex → b ∉ ch := fun b o e hx hb => by
    rcases (hch b hb).1 with z | z
    · exact hx z
    · exact absurd (Nat.lt_of_lt_of_le (Heap.lt_size e) z) (Nat.lt_irrefl _)
  have cellK : ∀ x c, X.env.cells.lookup x = some c → ∀ v, s.heap.IsCell c v → h'.IsCell c v := fun x c e v ⟨o, ho, hd⟩ => by
    have nch : c ∉ ch := fun z => (hch c z).2.2.1 x c e rfl
    by_cases hc : c ∈ X.fs
    · obtain ⟨sl, q⟩ := slot c o (I.cne x c e) hc nch ho (I.freeC x c e)
      exact ⟨_, q, hd⟩
    · exact ⟨o, keep c o (I.cne x c e) hc nch ho (I.freeC x c e), hd⟩
  refine ⟨I.ok, I.os, hg, ⟨fun b o e n hb hx => ?_, fun b o e n hb hx => ?_, fun b o e n hx => ?_, fun b o e hx => ?_, fun b xs e => tups b xs (I.base.tups b xs e), fun b o xs e => frzs b o xs (I.base.frzs b o xs e), fun b ps e => ?_⟩, ?_, fun x c e => ?_, ?_, fun x c e => ?_, fun p hp => ?_, hok, I.len⟩
  · exact keep b o (neL b o e) hb (neC b o e hx) (I.base.keep b o e n hb hx) (I.base.free b o e n hx)
  · obtain ⟨sl, e1⟩ := I.base.slot b o e n hb hx
    obtain ⟨sl', e2⟩ := slot b _ (neL b o e) hb (neC b o e hx) e1 (I.base.free b o e n hx)
    exact ⟨sl', e2⟩
  · obtain ⟨o', e1⟩ := I.base.there b o e hx
    exact free b o' (neC b o e hx) e1 (I.base.free b o e n hx)
  · obtain ⟨o', e1⟩ := I.base.there b o e hx
    exact there b o' (neC b o e hx) e1
  · obtain ⟨m1, e1⟩ := I.base.tbls b ps e
    obtain ⟨m2, e2⟩ := tbls b _ e1
    exact ⟨m1 ++ m2, by rw [e2, Array.append_assoc]⟩
  · obtain ⟨m, hn, hl⟩ := I.loc
    refine ⟨m, ns m hn, fun i x v e1 e2 e3 => ?_⟩
    obtain ⟨u, r, l⟩ := hl i x v e1 e2 e3
    refine ⟨u, r, ?_⟩
    rcases l with l | ⟨k, c, e, z⟩
    · exact .inl l
    · exact .inr ⟨k, c, e, cellK x c e _ z⟩
  · obtain ⟨v, z⟩ := I.cell x c e
    exact ⟨v, cellK x c e v z⟩
  · obtain ⟨m, ⟨o, _, _, ho, _⟩, _⟩ := I.loc
    exact free _ o (fun z => (hch _ z).2.1 rfl) ho I.free
  · obtain ⟨v, o, ho, hd⟩ := I.cell x c e
    exact free c o (fun z => (hch c z).2.2.1 x c e rfl) ho (I.freeC x c e)
  · obtain ⟨e, n, ne, nf, d⟩ := I.pin p hp
    have nch : p.1 ∉ ch := fun z => (hch p.1 z).2.2.2 p hp rfl
    exact ⟨keep p.1 p.2 ne nf nch e n, free p.1 p.2 nch e n, ne, nf, d⟩
/-- .. where the frame's own object is kept too -/
theorem Inv.un {t' : Nat} (I : Inv X pins σ H s) (u : Un X.fs [] H H' s.heap h') (hok : HOk X.prog X.w H' h') : Inv X pins σ H' { s with heap := h', toks := t' } := by
  obtain ⟨m, ⟨o, es, ep, ho, r⟩, _⟩ := id I.loc
  obtain ⟨sl, hL⟩ := u.any ho I.free (by simp)
  exact I.step (g' := s.gens) (d' := s.drawn) (ch := []) (fun _ z => nomatch z) (fun b o _ hb _ e n => u.keep b o e n hb (by simp)) (fun b o _ hb _ e n => u.slot b o e n hb (by simp)) (fun b o _ e n => u.free b o e n (by simp)) (fun b o _ e => u.there b o e (by simp)) u.tups u.frzs u.tbls (fun m' hm => by
    obtain ⟨o', es', ep', ho', r'⟩ := hm
    rw [ho] at ho'; cases ho'
    exact ⟨_, es', ep', hL, r'⟩) hok I.bare
/-- behind a call (or a comprehension's block): the slots of this frame may have changed too, the records at ch may have turned -/
theorem Inv.call {g' : Array GenState} {t' : Nat} {d' : Drawn} {ch : List Addr} (I : Inv X pins σ H s) (u : Un (frs X.stack) ch H H' s.heap h') (hok : HOk X.prog X.w H' h') (hg : AllBare g')
    (hch : ∀ b ∈ ch, (b ∈ X.ex ∨ X.s₀.heap.objs.size ≤ b) ∧ b ≠ X.env.locals ∧ (∀ x c, X.env.cells.lookup x = some c → c ≠ b) ∧ ∀ p ∈ X.pn ++ pins, p.1 ≠ b) :
    Inv X pins σ H' { s with heap := h', gens := g', drawn := d', toks := t' } := by
  obtain ⟨m, ⟨o, es, ep, ho, r⟩, _⟩ := id I.loc
  obtain ⟨sl, hL⟩ := u.any ho I.free fun z => (hch _ z).2.1 rfl
  exact I.step (ch := ch) hch (fun b o hL hb hc e n => u.keep b o e n (fun z => (List.mem_cons.mp (I.stkSub b z)).elim hL hb) hc) (fun b o _ _ hc e n => u.any e n hc) (fun b o hc e n => u.free b o e n hc) (fun b o hc e => u.there b o e hc) u.tups u.frzs u.tbls (fun m' hm => by
    obtain ⟨o', es', ep', ho', r'⟩ := hm
    rw [ho] at ho'; cases ho'
    exact ⟨_, es', ep', hL, r'⟩) hok hg
/-- an untracked record of ours (an iterator) has turned -/
theorem Inv.turned {t' : Nat} {it : Addr} (I : Inv X pins σ H s) (k : ∀ b o, b ≠ it → s.heap.get? b = some o → h'.get? b = some o) (hn : H it = none) (hL : it ≠ X.env.locals)
    (h1 : it ∈ X.ex ∨ X.s₀.heap.objs.size ≤ it) (h2 : ∀ x c, X.env.cells.lookup x = some c → c ≠ it) (h3 : ∀ p ∈ X.pn ++ pins, p.1 ≠ it) : Inv X pins σ H { s with heap := h', toks := t' } := by
  have nit : ∀ b u, H b = some u → b ≠ it := fun b u e z => by rw [z, hn] at e; cases e
  refine I.step (g' := s.gens) (d' := s.drawn) (ch := [it]) (fun b hb => ?_) (fun b o _ _ hc e _ => k b o (fun z => hc (by simp [z])) e) (fun b o _ _ hc e _ => ⟨o.slots, k b o (fun z => hc (by simp [z])) e⟩) (fun _ _ _ _ n => n)
    (fun b o hc e => ⟨o, k b o (fun z => hc (by simp [z])) e⟩) (fun _ _ e => e) (fun _ _ _ e => e) (fun b ps e => ⟨#[], by rw [e]; simp⟩) (fun m hm => ?_) (fun b u e => ?_) I.bare
  · have e : b = it := by simpa using hb
    subst e
    exact ⟨h1, hL, h2, h3⟩
  · obtain ⟨o, es, ep, ho, r⟩ := hm
    exact ⟨o, es, ep, k _ o (Ne.symm hL) ho, r⟩
  · refine (I.hok b u e).stay (fun c v hc q => k c v ?_ q) (fun _ q => q) fun _ _ q => q
    rcases hc with z | z
    · rw [z]; exact nit b u e
    · exact nit c _ z
theorem Inv.tok (I : Inv X pins σ H s) (t : Nat) : Inv X pins σ H { s with toks := t } := I.un (h' := s.heap) (t' := t) Un.refl I.hok
/-- all objects kept -/
theorem Inv.kept {t' : Nat} (I : Inv X pins σ H s) (k : ∀ b u, s.heap.get? b = some u → h'.get? b = some u) : Inv X pins σ H { s with heap := h', toks := t' } := I.un (Un.kept k) (I.hok.kept k)
/-- a new object laid and tracked -/
theorem Inv.laid {a : Addr} {o : HO} {t' : Nat} (I : Inv X pins σ H s) (k : ∀ b u, s.heap.get? b = some u → h'.get? b = some u) (hp : s.heap.objs.size ≤ a) (new : ObjOk X.prog X.w (upd H a o) h' a o) :
    Inv X pins σ (upd H a o) { s with heap := h', toks := t' } := I.un (Un.laid k hp (I.hok.fresh hp)) (I.hok.laid k hp new)
/-- an object written -/
theorem Inv.write {x e : Addr} {o : HO} {t' : Nat} (I : Inv X pins σ H s) (mu : Mut (H x)) (he : e = x ∨ H e = some (.own x)) (k : ∀ b u, b ≠ e → s.heap.get? b = some u → h'.get? b = some u) (heo : ∃ u, h'.get? e = some u)
    (new : ObjOk X.prog X.w (upd H x o) h' x o) : Inv X pins σ (upd H x o) { s with heap := h', toks := t' } := I.un (Un.write mu he k heo) (I.hok.write mu he k heo new)
theorem Inv.pins_of {pins' : List (Addr × Obj)} (I : Inv X pins σ H s) (h : ∀ p ∈ pins', s.heap.get? p.1 = some p.2 ∧ H p.1 = none ∧ p.1 ≠ X.env.locals ∧ p.1 ∉ X.fs ∧ ∀ v, p.2.data ≠ .cell v) : Inv X pins' σ H s :=
  ⟨I.ok, I.os, I.bare, I.base, I.loc, I.cell, I.free, I.freeC, fun p hp => (List.mem_append.mp hp).elim (fun z => I.pin p (List.mem_append_left _ z)) (h p), I.hok, I.len⟩

theorem nodup_ix {N : List Str} (hN : N.Nodup) {i j : Nat} {x : Str} (a : N[i]? = some x) (b : N[j]? = some x) : i = j := by
  obtain ⟨h1, e1⟩ := List.getElem?_eq_some_iff.mp a
  obtain ⟨h2, e2⟩ := List.getElem?_eq_some_iff.mp b
  exact (List.getElem_inj hN).mp (e1.trans e2.symm)

/-- a name is stored; what changed -/
theorem store_ok2 {M : Model} {A : Around} {E : Value → Shared → Prop} {i : Nat} {x : Str} {v : V} {u : Value} {Q : Unit → Shared → Prop} (I : Inv X pins σ H s) (hN : X.N.Nodup) (hi : X.N[i]? = some x) (hx : Loc X.env.scope x) (r : RelV v u)
    (h : ∀ s', Inv X pins (σ.set i (some v)) H s' → (∃ a, Heap.SameBut a s.heap s'.heap ∧ (a = X.env.locals ∨ X.env.cells.lookup x = some a)) → Q () s') (hf : X.fn x = true ∨ X.env.scope.names.lookup x = some .local := by first | exact .inl rfl | exact .inr rfl | assumption) : wpAny M A (storeName X.env x u) Q E s := by
  obtain ⟨m, hn, hl⟩ := id I.loc
  have hcls : (X.env.scope.kind == .class || (X.env.scope.kind == .module && X.env.locals != X.env.globals)) = false := by rw [I.ok.kind]; rfl
  have hiσ : i < σ.length := by rw [I.len]; exact (List.getElem?_eq_some_iff.mp hi).1
  have cne := I.cne
  have tracked : ∀ {a : Addr} {h' : Heap}, (∃ o, s.heap.get? a = some o ∧ H a = none) → Heap.SameBut a s.heap h' → HOk X.prog X.w H h' := fun {a h'} ha hs b ob e => by
    obtain ⟨_, _, hfree⟩ := ha
    refine (I.hok b ob e).stay (fun c w' hc q => (hs.2 c ?_).trans q) (fun _ q => q) fun _ _ q => q
    rintro rfl
    rcases hc with rfl | hc
    · rw [hfree] at e; cases e
    · rw [hfree] at hc; cases hc
  rcases hx with hk | hk
  · refine wpAny_storeName_local hk hn (fun h' hn' hs => ?_) hcls
    obtain ⟨oL, _, _, hoL, _⟩ := id hn
    refine h _ ⟨I.ok, I.os, I.bare, ⟨fun b o e n hb hx => ?_, fun b o e n hb hx => ?_, I.base.free, fun b o e hx => ?_, I.base.tups, I.base.frzs, I.base.tbls⟩, ⟨_, hn', fun j y v' e1 e2 e3 => ?_⟩, fun y c e => ?_, I.free, I.freeC, fun p hp => ?_, tracked ⟨oL, hoL, I.free⟩ hs, by simpa using I.len⟩ ⟨_, hs, .inl rfl⟩
    · exact (hs.2 b (Nat.ne_of_lt (Nat.lt_of_lt_of_le (Heap.lt_size e) I.ok.above))).trans (I.base.keep b o e n hb hx)
    · obtain ⟨sl, e1⟩ := I.base.slot b o e n hb hx
      exact ⟨sl, (hs.2 b (Nat.ne_of_lt (Nat.lt_of_lt_of_le (Heap.lt_size e) I.ok.above))).trans e1⟩
    · obtain ⟨o', e1⟩ := I.base.there b o e hx
      exact ⟨o', (hs.2 b (Nat.ne_of_lt (Nat.lt_of_lt_of_le (Heap.lt_size e) I.ok.above))).trans e1⟩
    · by_cases hj : j = i
      · subst hj
        rw [hi] at e1; cases e1
        rw [List.getElem?_set_self hiσ] at e2
        cases e2
        exact ⟨u, r, .inl ⟨hk, by simp⟩⟩
      · rw [List.getElem?_set_ne (Ne.symm hj)] at e2
        obtain ⟨u', r', q⟩ := hl j y v' e1 e2 e3
        refine ⟨u', r', ?_⟩
        rcases q with ⟨k, e⟩ | ⟨k, c, e, z⟩
        · refine .inl ⟨k, ?_⟩
          have : y ≠ x := fun e => hj (nodup_ix hN e1 (e ▸ hi))
          simp [this, e]
        · exact .inr ⟨k, c, e, z.sameBut hs (cne y c e)⟩
    · obtain ⟨w', z⟩ := I.cell y c e
      exact ⟨w', z.sameBut hs (cne y c e)⟩
    · obtain ⟨e, n, ne, nf, d⟩ := I.pin p hp
      exact ⟨(hs.2 p.1 ne).trans e, n, ne, nf, d⟩
  · have hfn : X.fn x = true := by
      rcases hf with z | z
      · exact z
      · rw [z] at hk; cases hk
    obtain ⟨c, hc⟩ := I.ok.has x (.inl hk)
    obtain ⟨w', z⟩ := I.cell x c hc
    refine wpAny_storeName_cell I.ok.kind hk hc z (fun h' hc' hs => ?_)
    obtain ⟨oc, hoc, hocd⟩ := id z
    refine h { s with heap := h' } ⟨I.ok, I.os, I.bare, ⟨fun b o e n hb hx => ?_, fun b o e n hb hx => ?_, I.base.free, fun b o e hx => ?_, I.base.tups, I.base.frzs, I.base.tbls⟩, ⟨m, hn.sameBut hs (Ne.symm (cne x c hc)), fun j y v' e1 e2 e3 => ?_⟩, fun y c' e => ?_, I.free, I.freeC, fun p hp => ?_, tracked ⟨oc, hoc, I.freeC x c hc⟩ hs, by simpa using I.len⟩ ⟨c, hs, .inr hc⟩
    · exact (hs.2 b (Nat.ne_of_lt (Nat.lt_of_lt_of_le (Heap.lt_size e) (I.ok.cab x c hfn hc)))).trans (I.base.keep b o e n hb hx)
    · obtain ⟨sl, e1⟩ := I.base.slot b o e n hb hx
      exact ⟨sl, (hs.2 b (Nat.ne_of_lt (Nat.lt_of_lt_of_le (Heap.lt_size e) (I.ok.cab x c hfn hc)))).trans e1⟩
    · obtain ⟨o', e1⟩ := I.base.there b o e hx
      exact ⟨o', (hs.2 b (Nat.ne_of_lt (Nat.lt_of_lt_of_le (Heap.lt_size e) (I.ok.cab x c hfn hc)))).trans e1⟩
    · by_cases hj : j = i
      · subst hj
        rw [hi] at e1; cases e1
        rw [List.getElem?_set_self hiσ] at e2
        cases e2
        exact ⟨u, r, .inr ⟨.inl hk, c, hc, hc'⟩⟩
      · rw [List.getElem?_set_ne (Ne.symm hj)] at e2
        obtain ⟨u', r', q⟩ := hl j y v' e1 e2 e3
        refine ⟨u', r', ?_⟩
        rcases q with q | ⟨k, c', e, z'⟩
        · exact .inl q
        · refine .inr ⟨k, c', e, z'.sameBut hs ?_⟩
          rintro rfl
          exact hj (nodup_ix hN e1 (I.ok.inj _ _ _ e hc ▸ hi))
    · by_cases hcc : c' = c
      · subst hcc; exact ⟨_, hc'⟩
      · obtain ⟨w2, z2⟩ := I.cell y c' e
        exact ⟨w2, z2.sameBut hs hcc⟩
    · obtain ⟨e, n, ne, nf, d⟩ := I.pin p hp
      refine ⟨(hs.2 p.1 ?_).trans e, n, ne, nf, d⟩
      intro q
      rw [q, hoc] at e
      have q' : oc = p.2 := Option.some.inj e
      exact d w' (by rw [← q']; exact hocd)
theorem store_ok {M : Model} {A : Around} {E : Value → Shared → Prop} {i : Nat} {x : Str} {v : V} {u : Value} {Q : Unit → Shared → Prop} (I : Inv X pins σ H s) (hN : X.N.Nodup) (hi : X.N[i]? = some x) (hx : Loc X.env.scope x) (r : RelV v u)
    (h : ∀ s', Inv X pins (σ.set i (some v)) H s' → Q () s') (hf : X.fn x = true ∨ X.env.scope.names.lookup x = some .local := by first | exact .inl rfl | exact .inr rfl | assumption) : wpAny M A (storeName X.env x u) Q E s :=
  store_ok2 I hN hi hx r (fun s' I' _ => h s' I') hf
/-- behind a call or a block, the state as it is -/
theorem Inv.call' {s' : Shared} {ch : List Addr} (I : Inv X pins σ H s) (ho : s'.os = s.os) (u : Un (frs X.stack) ch H H' s.heap s'.heap) (hok : HOk X.prog X.w H' s'.heap) (hg : AllBare s'.gens)
    (hch : ∀ b ∈ ch, (b ∈ X.ex ∨ X.s₀.heap.objs.size ≤ b) ∧ b ≠ X.env.locals ∧ (∀ x c, X.env.cells.lookup x = some c → c ≠ b) ∧ ∀ p ∈ X.pn ++ pins, p.1 ≠ b) : Inv X pins σ H' s' := by
  obtain ⟨h', g', d', t', o'⟩ := s'
  have e : o' = s.os := ho
  subst e
  exact I.call (g' := g') (t' := t') (d' := d') u hok hg hch
end

/-! ### the judgements -/
/-- an exception: its class, its own dict's address (where it has one), the abstract heap behind it -/
abbrev XK := Value → Option Addr → Hp → Prop
abbrev St := List (Option V)
abbrev VK := V → Hp → Prop
/-- an expression's reading; a test's; an argument list's -/
abbrev TE := St → Hp → VK → Prop
abbrev TT := St → Hp → (Bool → Hp → Prop) → Prop
abbrev TA := St → Hp → (List V → Hp → Prop) → Prop
/-- what is wanted behind a statement -/
structure Ends where
  nx : St → Hp → Prop
  rt : VK
  bk : St → Hp → Prop := fun _ _ => False
  ct : St → Hp → Prop := fun _ _ => False
abbrev TS := Ends → St → Hp → Prop

def EP (X : Cx) (pins : List (Addr × Obj)) (σ : St) (Q : VK) (u : Value) (s' : Shared) : Prop := ∃ v H', Inv X pins σ H' s' ∧ RelV v u ∧ Q v H'
def TP (X : Cx) (pins : List (Addr × Obj)) (σ : St) (Q : Bool → Hp → Prop) (b : Bool) (s' : Shared) : Prop := ∃ H', Inv X pins σ H' s' ∧ Q b H'
def AP (X : Cx) (pins : List (Addr × Obj)) (σ : St) (Q : List V → Hp → Prop) (us : List Value) (s' : Shared) : Prop := ∃ vs H', Inv X pins σ H' s' ∧ Vals vs us ∧ Q vs H'
def SP (X : Cx) (pins : List (Addr × Obj)) (D : Ends) (f : Flow) (s' : Shared) : Prop :=
  match f with
  | .next => ∃ σ' H', Inv X pins σ' H' s' ∧ D.nx σ' H'
  | .brk => ∃ σ' H', Inv X pins σ' H' s' ∧ D.bk σ' H'
  | .cont => ∃ σ' H', Inv X pins σ' H' s' ∧ D.ct σ' H'
  | .ret u => ∃ v σ' H', Inv X pins σ' H' s' ∧ RelV v u ∧ D.rt v H'

def PE (X : Cx) (e : Expr) (t : TE) : Prop :=
  ∀ (pins : List (Addr × Obj)) (s : Shared) (σ : St) (H : Hp) (Q : VK), Inv X pins σ H s → t σ H Q → wpAny (model X.prog X.w) X.A (eval e X.env) (EP X pins σ Q) X.xe s
def PT (X : Cx) (e : Expr) (t : TT) : Prop :=
  ∀ (pins : List (Addr × Obj)) (s : Shared) (σ : St) (H : Hp) (Q : Bool → Hp → Prop), Inv X pins σ H s → t σ H Q → wpAny (model X.prog X.w) X.A (isTrue e X.env (eval e X.env)) (TP X pins σ Q) X.xe s
/-- a test whatever its 'whole' is (and, or) -/
def PW (X : Cx) (e : Expr) (t : TT) : Prop :=
  ∀ (whole : Sem Value) (pins : List (Addr × Obj)) (s : Shared) (σ : St) (H : Hp) (Q : Bool → Hp → Prop), Inv X pins σ H s → t σ H Q → wpAny (model X.prog X.w) X.A (isTrue e X.env whole) (TP X pins σ Q) X.xe s
theorem PW.pt {X : Cx} {e : Expr} {t : TT} (h : PW X e t) : PT X e t := h _
/-- an argument list (no star), from the left -/
def PA (X : Cx) (es : List Expr) (t : TA) : Prop :=
  ∀ (pos : Pos) (pins : List (Addr × Obj)) (s : Shared) (σ : St) (H : Hp) (Q : List V → Hp → Prop), Inv X pins σ H s → t σ H Q → wpAny (model X.prog X.w) X.A (spliced (backTo pos (starEach es X.env))) (AP X pins σ Q) X.xe s
def PS (X : Cx) (st : Stmt) (t : TS) : Prop :=
  ∀ (pins : List (Addr × Obj)) (s : Shared) (σ : St) (H : Hp) (D : Ends), Inv X pins σ H s → t D σ H → wpAny (model X.prog X.w) X.A (exec st X.env) (SP X pins D) X.xe s
def PSs (X : Cx) (st : List Stmt) (t : TS) : Prop :=
  ∀ (pins : List (Addr × Obj)) (s : Shared) (σ : St) (H : Hp) (D : Ends), Inv X pins σ H s → t D σ H → wpAny (model X.prog X.w) X.A (execs st X.env) (SP X pins D) X.xe s
/-- weaken the end -/
theorem thn {α : Type} {t : Sem α} {Q Q' : α → Shared → Prop} {M : Model} {A : Around} {E : Value → Shared → Prop} {s : Shared} (h : wpAny M A t Q E s) (hQ : ∀ a s, Q a s → Q' a s) : wpAny M A t Q' E s := wpAny_mono h hQ fun _ _ x => x
end L2

namespace L2
open PySem PySem.Spec PyProof.Rows
section
variable {X : Cx}

/-! ### names and constants -/
def tVar (i : Nat) : TE := fun σ H Q => ∃ v, σ[i]? = some (some v) ∧ Q v H
def tC (v : V) : TE := fun _ H Q => Q v H
theorem pe_var {i : Nat} {x : Str} {pos : Pos} (hN : X.N[i]? = some x) (hv : Vis X.env.scope x) (hd : (x == ("__debug__" : Str)) = false := by decide) (hcd : (x == ("__classdict__" : Str)) = false := by decide) : PE X (.Name x pos) (tVar i) := by
  intro pins s σ H Q I h
  obtain ⟨v, e, h⟩ := h
  obtain ⟨m, hn, hl⟩ := I.loc
  obtain ⟨u, r, l⟩ := hl i x v hN e hv
  have fin : EP X pins σ Q u s := ⟨v, H, I, r, h⟩
  rcases l with ⟨hk, hm⟩ | ⟨hk, c, hc, hcell⟩
  · exact wpAny_Name (wpAny_loadName_local I.ok.kind hk hn hm fin) hd
  · rcases hk with hk | hk
    · exact wpAny_Name (wpAny_loadName_cell I.ok.kind hk hc hcell fin) hd
    · exact wpAny_Name (wpAny_loadName_free I.ok.kind hk hc hcell fin hcd) hd
theorem pe_int {i j pos} : PE X (.Constant (.int i) j pos) (tC (.int i)) := fun _ _ _ H _ I h => wpAny_Constant_int ⟨.int i, H, I.tok _, ⟨_, rfl⟩, h⟩
theorem pe_bl {b j pos} : PE X (.Constant (.bool b) j pos) (tC (.bl b)) := fun _ _ _ H _ I h => Constant_bool ⟨.bl b, H, I, rfl, h⟩
theorem pe_non {j pos} : PE X (.Constant .none j pos) (tC .non) := fun _ _ _ H _ I h => Constant_none ⟨.non, H, I, rfl, h⟩
theorem pe_str {x j pos} : PE X (.Constant (.str x) j pos) (tC (.str x)) := fun _ _ _ H _ I h => Calls.Constant_str ⟨.str x, H, I.tok _, ⟨_, rfl⟩, h⟩

/-- a global name of the def -/
def Gl (X : Cx) (x : Str) : Prop := X.env.kindOf x = some .globalImplicit
theorem ld_glob {E : Value → Shared → Prop} {pins : List (Addr × Obj)} {s : Shared} {σ : St} {H : Hp} {x : Str} {u : Value} {pos : Pos} {Q : Value → Shared → Prop} (I : Inv X pins σ H s) (hg : Gl X x) (hm : X.mg x = some u) (h : Q u s)
    (hd : (x == ("__debug__" : Str)) = false := by decide) : wpAny (model X.prog X.w) X.A (eval (.Name x pos) X.env) Q E s :=
  Calls.Name_function_global I.ok.kind hg (Calls.loadGlobal_global (by rw [I.ok.glob]; exact I.mod.glob.keeps I.bk) hm h) hd
theorem ld_blt {E : Value → Shared → Prop} {pins : List (Addr × Obj)} {s : Shared} {σ : St} {H : Hp} {x : Str} {u : Value} {pos : Pos} {Q : Value → Shared → Prop} (I : Inv X pins σ H s) (hg : Gl X x) (hm : X.mg x = none) (hv : bootBuiltins x = some u) (h : Q u s)
    (hn : x ≠ "__name__" := by decide) (hd : (x == ("__debug__" : Str)) = false := by decide) : wpAny (model X.prog X.w) X.A (eval (.Name x pos) X.env) Q E s := by
  obtain ⟨mb, h1, h2⟩ := I.mod.blt
  exact Calls.Name_function_global I.ok.kind hg (Calls.loadGlobal_builtin (by rw [I.ok.glob]; exact I.mod.glob.keeps I.bk) hm (by rw [I.ok.blt]; exact h1.keeps I.bk) ((h2 x hn).trans hv) h) hd
theorem pe_bltn {x : Str} {v : V} {u : Value} {pos : Pos} (hg : Gl X x) (hm : X.mg x = none) (hv : bootBuiltins x = some u) (r : RelV v u) (hn : x ≠ "__name__" := by decide) (hd : (x == ("__debug__" : Str)) = false := by decide) : PE X (.Name x pos) (tC v) :=
  fun _ _ _ H _ I h => ld_blt I hg hm hv ⟨v, H, I, r, h⟩ hn hd

/-! ### arithmetic -/
/-- two ints -/
def t2I (ta tb : TE) (k : Int → Int → Hp → Prop) : St → Hp → Prop := fun σ H => ta σ H fun x H1 => tb σ H1 fun y H2 => ∃ i j, x = .int i ∧ y = .int j ∧ k i j H2
def tAdd (ta tb : TE) : TE := fun σ H Q => t2I ta tb (fun i j H2 => Q (.int (i + j)) H2) σ H
def tSub (ta tb : TE) : TE := fun σ H Q => t2I ta tb (fun i j H2 => Q (.int (i - j)) H2) σ H
/-- the left factor below 2^64 -/
def tMul (ta tb : TE) : TE := fun σ H Q => t2I ta tb (fun i j H2 => (-(2 ^ 64) < i ∧ i < 2 ^ 64) ∧ Q (.int (i * j)) H2) σ H
variable {a b : Expr} {ta tb : TE} {pos : Pos}
/-! ### comparisons -/
def PC (X : Cx) (op : CmpOp) (a b : Expr) (t : TE) : Prop :=
  ∀ (pins : List (Addr × Obj)) (s : Shared) (σ : St) (H : Hp) (Q : VK), Inv X pins σ H s → t σ H Q →
    wpAny (model X.prog X.w) X.A (eval a X.env) (fun v s₁ => wpAny (model X.prog X.w) X.A (eval b X.env) (fun u s₂ => wpAny (model X.prog X.w) X.A (compareOp op v u) (EP X pins σ Q) X.xe s₂) X.xe s₁) X.xe s
theorem nobehind (b : Expr) {op : CmpOp} (h : op ≠ .In) (h2 : op ≠ .NotIn) : behindInMarks op b = false := by
  have e1 : (op == CmpOp.In) = false := by cases op <;> first | rfl | exact absurd rfl h
  have e2 : (op == CmpOp.NotIn) = false := by cases op <;> first | rfl | exact absurd rfl h2
  cases b <;> simp [behindInMarks, e1, e2]
def tCmp (p : Int → Int → Bool) (ta tb : TE) : TE := fun σ H Q => t2I ta tb (fun i j H2 => Q (.bl (p i j)) H2) σ H
abbrev tLt : TE → TE → TE := tCmp fun i j => decide (i < j)
abbrev tLe : TE → TE → TE := tCmp fun i j => decide (i ≤ j)
abbrev tGt : TE → TE → TE := tCmp fun i j => decide (j < i)
abbrev tGe : TE → TE → TE := tCmp fun i j => decide (j ≤ i)
abbrev tEqI : TE → TE → TE := tCmp fun i j => decide (i = j)
abbrev tNeI : TE → TE → TE := tCmp fun i j => !decide (i = j)
/-- is None -/
def tIsN (ta : TE) : TE := fun σ H Q => ta σ H fun x H1 => Q (.bl (decide (x = .non))) H1
def tNotN (ta : TE) : TE := fun σ H Q => ta σ H fun x H1 => Q (.bl (!decide (x = .non))) H1
theorem RelV.none_iff {x : V} {v : Value} (r : RelV x v) : (v == Value.none) = decide (x = .non) := by
  cases x with
  | non => cases r; rfl
  | bl _ => cases r; rfl
  | int _ => obtain ⟨t, rfl⟩ := r; rfl
  | str _ => obtain ⟨t, rfl⟩ := r; rfl
  | byt _ => obtain ⟨t, rfl⟩ := r; rfl
  | flt _ => obtain ⟨t, rfl⟩ := r; rfl
  | ref _ => cases r; rfl
  | ty _ => cases r; rfl
theorem pc_isN {j pos'} (ha : PE X a ta) : PC X .Is a (.Constant .none j pos') (tIsN ta) := by
  intro pins s σ H Q I h
  refine thn (ha pins s σ H _ I h) fun v s1 ⟨x, H1, I1, r1, q1⟩ => ?_
  exact Constant_none (is_none_gen ⟨.bl _, H1, I1, by rw [r1.none_iff]; rfl, q1⟩)
/-- a comparison as a value, as a test -/
def tB (t : TE) : TT := fun σ H Q => t σ H fun x H1 => ∃ c, x = .bl c ∧ Q c H1
theorem pt_cmp {op : CmpOp} {t : TE} (h : PC X op a b t) (h1 : behindInMarks op b = false := by first | exact nobehind _ (by decide) (by decide) | rfl) : PT X (.Compare a [op] [b] pos) (tB t) := by
  intro pins s σ H Q I hw
  refine wpAny_isTrue_Compare1 (thn (h pins s σ H _ I hw) fun v s1 h1 => thn h1 fun u s2 h2 => thn h2 fun c s3 ⟨x, H1, I1, r1, q1⟩ => ?_) h1
  obtain ⟨d, rfl, q⟩ := q1
  cases r1
  exact wpAny_truthy_bool ⟨H1, I1, q⟩
/-! ### and, or, not -/
variable {tA tB' : TT} {rest : List Expr}
def tAnd (t u : TT) : TT := fun σ H Q => t σ H fun c H1 => if c = true then u σ H1 Q else Q false H1
def tOr (t u : TT) : TT := fun σ H Q => t σ H fun c H1 => if c = true then Q true H1 else u σ H1 Q
def tNot (t : TT) : TT := fun σ H Q => t σ H fun c H1 => Q (!c) H1
theorem pw_and1 (ha : PT X a tA) : PW X (.BoolOp .And [a] pos) tA := by
  intro wh pins s σ H Q I h
  refine isTrue_and (thn (ha pins s σ H Q I h) fun c s1 e => ?_)
  cases c with
  | true => exact isTrue_and_nil e
  | false => exact e
theorem pw_or1 (ha : PT X a tA) : PW X (.BoolOp .Or [a] pos) tA := by
  intro wh pins s σ H Q I h
  refine isTrue_or (thn (ha pins s σ H Q I h) fun c s1 e => ?_)
  cases c with
  | false => exact isTrue_or_nil e
  | true => exact e
theorem pw_and (ha : PT X a tA) (hb : PW X (.BoolOp .And (b :: rest) pos) tB') : PW X (.BoolOp .And (a :: b :: rest) pos) (tAnd tA tB') := by
  intro wh pins s σ H Q I h
  refine isTrue_and (thn (ha pins s σ H _ I h) fun c s1 ⟨H1, I1, q1⟩ => ?_)
  cases c with
  | true => exact hb wh pins s1 σ H1 Q I1 q1
  | false => exact ⟨H1, I1, q1⟩
theorem pw_or (ha : PT X a tA) (hb : PW X (.BoolOp .Or (b :: rest) pos) tB') : PW X (.BoolOp .Or (a :: b :: rest) pos) (tOr tA tB') := by
  intro wh pins s σ H Q I h
  refine isTrue_or (thn (ha pins s σ H _ I h) fun c s1 ⟨H1, I1, q1⟩ => ?_)
  cases c with
  | true => exact ⟨H1, I1, q1⟩
  | false => exact hb wh pins s1 σ H1 Q I1 q1
theorem pt_not (ha : PT X a tA) : PT X (.UnaryOp .Not a pos) (tNot tA) := by
  intro pins s σ H Q I h
  exact isTrue_not (ha pins s σ H (fun c H1 => Q (!c) H1) I h)
/-- .. as values (bools) -/
def tAndV (ta tb : TE) : TE := fun σ H Q => ta σ H fun x H1 => ∃ c, x = .bl c ∧ if c = true then tb σ H1 Q else Q (.bl false) H1
def tOrV (ta tb : TE) : TE := fun σ H Q => ta σ H fun x H1 => ∃ c, x = .bl c ∧ if c = true then Q (.bl true) H1 else tb σ H1 Q
def tNotV (ta : TE) : TE := fun σ H Q => ta σ H fun x H1 => ∃ c, x = .bl c ∧ Q (.bl (!c)) H1
theorem pe_one {op} {t : TE} (h : PE X a t) : PE X (.BoolOp op [a] pos) t := fun pins s σ H Q I hw => BoolOp_one (h pins s σ H Q I hw)
theorem pe_and (ha : PE X a ta) (hb : PE X (.BoolOp .And (b :: rest) pos) tb) : PE X (.BoolOp .And (a :: b :: rest) pos) (tAndV ta tb) := by
  intro pins s σ H Q I h
  refine BoolOp_and (thn (ha pins s σ H _ I h) fun v s1 ⟨x, H1, I1, r1, q1⟩ => ?_)
  obtain ⟨c, rfl, q1⟩ := q1
  cases r1
  refine wpAny_truthy_bool ?_
  cases c with
  | true => exact hb pins s1 σ H1 Q I1 q1
  | false => exact ⟨.bl false, H1, I1, rfl, q1⟩
theorem pe_not (ha : PE X a ta) : PE X (.UnaryOp .Not a pos) (tNotV ta) := by
  intro pins s σ H Q I h
  refine UnaryOp_ (thn (ha pins s σ H _ I h) fun v s1 ⟨x, H1, I1, r1, q1⟩ => ?_)
  obtain ⟨c, rfl, q1⟩ := q1
  cases r1
  exact not_of (wpAny_truthy_bool ⟨.bl (!c), H1, I1, rfl, q1⟩)
/-- a if t else b -/
def tIf (t : TT) (ta tb : TE) : TE := fun σ H Q => t σ H fun c H1 => if c = true then ta σ H1 Q else tb σ H1 Q
theorem pe_ifExp {c : Expr} (hc : PT X c tA) (ha : PE X a ta) (hb : PE X b tb) : PE X (.IfExp c a b pos) (tIf tA ta tb) := by
  intro pins s σ H Q I h
  refine wpAny_IfExp (thn (hc pins s σ H _ I h) fun d s1 ⟨H1, I1, q1⟩ => ?_)
  cases d with
  | true => exact ha pins s1 σ H1 Q I1 q1
  | false => exact hb pins s1 σ H1 Q I1 q1
end
end L2

namespace L2
open PySem PySem.Spec PyProof.Rows

/-! ### a list, a tuple that is read: tracked, frozen, or an object of the module -/
def SqL (K : PySem.W.Frag) (H : Hp) (a : Addr) (xs : List V) : Prop :=
  Rd H a (.lst xs) ∨
    ∃ (o : Obj) (its : Array Value) (n : Nat), K.lookup a = some o ∧ o.cls = .type "list" ∧ o.dict = none ∧ o.data = .seq its n ∧ its.size ≤ sizeLine ∧ Vals xs its.toList
def SqT (K : PySem.W.Frag) (H : Hp) (a : Addr) (xs : List V) : Prop :=
  Rd H a (.tup xs) ∨
    ∃ (o : Obj) (its : Array Value) (n : Nat), K.lookup a = some o ∧ o.cls = .type "tuple" ∧ o.data = .seq its n ∧ its.size ≤ sizeLine ∧ Vals xs its.toList
def absV : Value → Option V
  | .none => some .non
  | .bool b => some (.bl b)
  | .int i _ => some (.int i)
  | .str x _ => some (.str x)
  | .bytes b _ => some (.byt b)
  | .float b _ => some (.flt b)
  | .ref a => some (.ref a)
  | .type n => some (.ty n)
  | _ => none
theorem RelV.abs {x : V} {u : Value} (r : RelV x u) : absV u = some x := by
  cases x with
  | non => cases r; rfl
  | bl _ => cases r; rfl
  | int _ => obtain ⟨t, rfl⟩ := r; rfl
  | str _ => obtain ⟨t, rfl⟩ := r; rfl
  | byt _ => obtain ⟨t, rfl⟩ := r; rfl
  | flt _ => obtain ⟨t, rfl⟩ := r; rfl
  | ref _ => cases r; rfl
  | ty _ => cases r; rfl
theorem RelV.inj {x y : V} {u : Value} (r : RelV x u) (q : RelV y u) : x = y := Option.some.inj (r.abs.symm.trans q.abs)
theorem Vals.inj : ∀ {xs ys : List V} {us : List Value}, Vals xs us → Vals ys us → xs = ys
  | _, _, _, .nil, .nil => rfl
  | _, _, _, .cons r t, .cons r' t' => by rw [r.inj r', Vals.inj t t']
section
variable {X : Cx} {pins : List (Addr × Obj)} {σ : St} {H : Hp} {s : Shared} {a : Addr} {xs ys : List V}
theorem SqL.of {K : PySem.W.Frag} (h : H a = some (.lst xs)) : SqL K H a xs := .inl (.inl h)
theorem SqT.of {K : PySem.W.Frag} (h : H a = some (.tup xs)) : SqT K H a xs := .inl (.inl h)
theorem Inv.list (I : Inv X pins σ H s) (h : SqL X.K H a xs) : ∃ its : List Value, Vals xs its ∧ PlainL s.heap a its.toArray ∧ xs.length ≤ sizeLine := by
  rcases h with h | ⟨o, its, n, hk, hc, hd, hs, hz, r⟩
  · obtain ⟨z, its, n, r, e⟩ := h.ok I.hok
    exact ⟨its, r, ⟨_, n, e, rfl, rfl, rfl⟩, z⟩
  · refine ⟨its.toList, r, ⟨o, n, I.kIn a o hk, hc, hd, by simpa using hs⟩, ?_⟩
    have e := r.length
    simp only [Array.length_toList] at e
    omega
theorem Inv.tuple (I : Inv X pins σ H s) (h : SqT X.K H a xs) : ∃ its : List Value, Vals xs its ∧ IsTup s.heap a its.toArray ∧ xs.length ≤ sizeLine := by
  rcases h with h | ⟨o, its, n, hk, hc, hs, hz, r⟩
  · obtain ⟨z, its, r, p⟩ := h.ok I.hok
    exact ⟨its, r, p, z⟩
  · refine ⟨its.toList, r, ⟨o, I.kIn a o hk, hc, n, by simpa using hs⟩, ?_⟩
    have e := r.length
    simp only [Array.length_toList] at e
    omega
theorem Inv.list_inj (I : Inv X pins σ H s) (h : SqL X.K H a xs) (h' : SqL X.K H a ys) : xs = ys := by
  obtain ⟨its, r, ⟨o, n, e, _, _, d⟩, _⟩ := I.list h
  obtain ⟨its', r', ⟨o', n', e', _, _, d'⟩, _⟩ := I.list h'
  rw [e] at e'; cases e'
  rw [d] at d'
  injection d' with d1 _
  have : its = its' := by simpa using congrArg Array.toList d1
  subst this
  exact r.inj r'
theorem Inv.tuple_inj (I : Inv X pins σ H s) (h : SqT X.K H a xs) (h' : SqT X.K H a ys) : xs = ys := by
  obtain ⟨its, r, ⟨o, e, _, n, d⟩, _⟩ := I.tuple h
  obtain ⟨its', r', ⟨o', e', _, n', d'⟩, _⟩ := I.tuple h'
  rw [e] at e'; cases e'
  rw [d] at d'
  injection d' with d1 _
  have : its = its' := by simpa using congrArg Array.toList d1
  subst this
  exact r.inj r'
end

/-! ### another wish about exceptions -/
abbrev Cx.wish (X : Cx) (E : Value → Shared → Prop) : Cx := { X with xe := E }
/-- no exception leaves -/
abbrev Cx.nox (X : Cx) : Cx := X.wish fun _ _ => False
theorem Cx.Ok.wish {X : Cx} (ok : X.Ok) (E : Value → Shared → Prop) : (X.wish E).Ok :=
  ⟨ok.mod, ok.kind, ok.glob, ok.blt, ok.above, ok.inj, ok.has, ok.cab, ok.hd, ok.frames, ok.stk, ok.exf, ok.bs, ok.bsz, ok.noex, ok.exfs, ok.funs, ok.frf⟩
theorem Cx.Ok.unwish {X : Cx} {E : Value → Shared → Prop} (ok : (X.wish E).Ok) : X.Ok :=
  ⟨ok.mod, ok.kind, ok.glob, ok.blt, ok.above, ok.inj, ok.has, ok.cab, ok.hd, ok.frames, ok.stk, ok.exf, ok.bs, ok.bsz, ok.noex, ok.exfs, ok.funs, ok.frf⟩
section
variable {X : Cx} {pins : List (Addr × Obj)} {σ : St} {H : Hp} {s : Shared} {E : Value → Shared → Prop}
theorem Inv.wish (I : Inv X pins σ H s) (E : Value → Shared → Prop) : Inv (X.wish E) pins σ H s := ⟨I.ok.wish E, I.os, I.bare, I.base, I.loc, I.cell, I.free, I.freeC, I.pin, I.hok, I.len⟩
theorem Inv.unwish (I : Inv (X.wish E) pins σ H s) : Inv X pins σ H s := ⟨I.ok.unwish, I.os, I.bare, I.base, I.loc, I.cell, I.free, I.freeC, I.pin, I.hok, I.len⟩
theorem SP.unwish {D : Ends} {f : Flow} {s' : Shared} (h : SP (X.wish E) pins D f s') : SP X pins D f s' := by
  cases f with
  | next => obtain ⟨σ', H', I, q⟩ := h; exact ⟨σ', H', I.unwish, q⟩
  | brk => obtain ⟨σ', H', I, q⟩ := h; exact ⟨σ', H', I.unwish, q⟩
  | cont => obtain ⟨σ', H', I, q⟩ := h; exact ⟨σ', H', I.unwish, q⟩
  | ret u => obtain ⟨v, σ', H', I, r, q⟩ := h; exact ⟨v, σ', H', I.unwish, r, q⟩
theorem PE.nox {e : Expr} {t : TE} (h : PE X.nox e t) : PE X e t := fun pins s σ H Q I hw =>
  wpAny_mono (h pins s σ H Q (I.wish _) hw) (fun _ _ ⟨v, H', I', r, q⟩ => ⟨v, H', I'.unwish, r, q⟩) fun _ _ z => False.elim z
theorem PT.nox {e : Expr} {t : TT} (h : PT X.nox e t) : PT X e t := fun pins s σ H Q I hw =>
  wpAny_mono (h pins s σ H Q (I.wish _) hw) (fun _ _ ⟨H', I', q⟩ => ⟨H', I'.unwish, q⟩) fun _ _ z => False.elim z
theorem PSs.nox {st : List Stmt} {t : TS} (h : PSs X.nox st t) : PSs X st t := fun pins s σ H D I hw =>
  wpAny_mono (h pins s σ H D (I.wish _) hw) (fun _ _ q => q.unwish) fun _ _ z => False.elim z
end

/-! ### blocks and small statements -/
section
variable {X : Cx} {st : Stmt} {rest : List Stmt} {t u : TS} {e : Expr} {te : TE} {pos : Pos}
def tNext : TS := fun D σ H => D.nx σ H
def tSeq (t u : TS) : TS := fun D σ H => t { D with nx := u D } σ H
theorem pss_nil : PSs X [] tNext := fun _ _ σ H _ I h => wpAny_execs_nil ⟨σ, H, I, h⟩
theorem pss_cons (h1 : PS X st t) (h2 : PSs X rest u) : PSs X (st :: rest) (tSeq t u) := by
  intro pins s σ H D I h
  refine wpAny_execs_cons (thn (h1 pins s σ H { D with nx := u D } I h) fun f s1 q => ?_)
  cases f with
  | next =>
    obtain ⟨σ', H', I', q⟩ := q
    exact h2 pins s1 σ' H' D I' q
  | ret v => exact q
  | brk => exact q
  | cont => exact q
theorem pss_one (h1 : PS X st t) : PSs X [st] t := by
  intro pins s σ H D I h
  refine wpAny_execs_cons (thn (h1 pins s σ H D I h) fun f s1 q => ?_)
  cases f with
  | next => exact wpAny_execs_nil q
  | ret v => exact q
  | brk => exact q
  | cont => exact q
def tBreak : TS := fun D σ H => D.bk σ H
def tCont : TS := fun D σ H => D.ct σ H
/-- in a def's body nothing is shown -/
theorem Inv.quiet {pins : List (Addr × Obj)} {σ : St} {H : Hp} {s : Shared} (I : Inv X pins σ H s) : interactive X.env = false := by simp [interactive, I.ok.kind]
/-- an expression whose value is dropped -/
def tDrop (te : TE) : TS := fun D σ H => te σ H fun _ H1 => D.nx σ H1
theorem ps_expr (he : PE X e te) (hs : swapsWith e none pos.line X.env = pure false := by rfl) : PS X (.Expr e pos) (tDrop te) := by
  intro pins s σ H D I h
  exact wpAny_Expr_any (thn (he pins s σ H _ I h) fun v s1 ⟨x, H1, I1, r1, q1⟩ => ⟨σ, H1, I1, q1⟩) I.quiet hs
def tRet (te : TE) : TS := fun D σ H => te σ H D.rt
theorem ps_ret (he : PE X e te) : PS X (.Return (some e) pos) (tRet te) := by
  intro pins s σ H D I h
  exact wpAny_Return_some (thn (he pins s σ H _ I h) fun v s1 ⟨x, H1, I1, r1, q1⟩ => ⟨x, σ, H1, I1, r1, q1⟩)
def tRetN : TS := fun D _ H => D.rt .non H
def tIfS (c : TT) (t u : TS) : TS := fun D σ H => c σ H fun b H1 => if b = true then t D σ H1 else u D σ H1
theorem ps_if {c : Expr} {a b : List Stmt} {tc : TT} (hc : PT X c tc) (ha : PSs X a t) (hb : PSs X b u) : PS X (.If c a b pos) (tIfS tc t u) := by
  intro pins s σ H D I h
  refine wpAny_If (thn (hc pins s σ H _ I h) fun d s1 ⟨H1, I1, q1⟩ => ?_)
  cases d with
  | true => exact ha pins s1 σ H1 D I1 q1
  | false => exact hb pins s1 σ H1 D I1 q1
/-- code that the proof never comes to -/
def tNever : TS := fun _ _ _ => False
end

/-! ### targets -/
abbrev TG := V → St → Hp → (St → Hp → Prop) → Prop
abbrev TGs := List V → St → Hp → (St → Hp → Prop) → Prop
def PG (X : Cx) (target : Expr) (t : TG) : Prop :=
  ∀ (pins : List (Addr × Obj)) (s : Shared) (σ : St) (H : Hp) (v : V) (u : Value) (Q : St → Hp → Prop), Inv X pins σ H s → RelV v u → t v σ H Q →
    wpAny (model X.prog X.w) X.A (assign target X.env u) (fun _ s' => ∃ σ' H', Inv X pins σ' H' s' ∧ Q σ' H') X.xe s
/-- several targets, one after another -/
def PGs (X : Cx) (ts : List Expr) (t : TGs) : Prop :=
  ∀ (pins : List (Addr × Obj)) (s : Shared) (σ : St) (H : Hp) (vs : List V) (us : List Value) (Q : St → Hp → Prop), Inv X pins σ H s → Vals vs us → t vs σ H Q →
    wpAny (model X.prog X.w) X.A (assignInOrder ((assignEach ts X.env).map (·.2)) us) (fun _ s' => ∃ σ' H', Inv X pins σ' H' s' ∧ Q σ' H') X.xe s
/-- o[i] = v, by values -/
abbrev TSet := V → V → V → Hp → (Hp → Prop) → Prop
def PSet (X : Cx) (t : TSet) : Prop :=
  ∀ (pins : List (Addr × Obj)) (s : Shared) (σ : St) (H : Hp) (o i v : V) (ov iv u : Value) (Q : Hp → Prop), Inv X pins σ H s → RelV o ov → RelV i iv → RelV v u → t o i v H Q →
    wpAny (model X.prog X.w) X.A (setItem ov iv u) (fun _ s' => ∃ H', Inv X pins σ H' s' ∧ Q H') X.xe s
/-- a op= b, by values -/
abbrev TIp := V → V → Hp → VK → Prop
def PIp (X : Cx) (op : Operator) (t : TIp) : Prop :=
  ∀ (pins : List (Addr × Obj)) (s : Shared) (σ : St) (H : Hp) (x y : V) (v u : Value) (Q : VK), Inv X pins σ H s → RelV x v → RelV y u → t x y H Q →
    wpAny (model X.prog X.w) X.A (inplaceOp op v u) (EP X pins σ Q) X.xe s
section
variable {X : Cx} {pos : Pos}
def gName (i : Nat) : TG := fun v σ H Q => Q (σ.set i (some v)) H
theorem pg_name {i : Nat} {x : Str} (hN : X.N.Nodup) (hi : X.N[i]? = some x) (hx : Loc X.env.scope x) (hf : X.fn x = true ∨ X.env.scope.names.lookup x = some .local := by first | exact .inl rfl | exact .inr rfl | assumption) : PG X (.Name x pos) (gName i) := by
  intro pins s σ H v u Q I r h
  exact wpAny_assign_Name (store_ok I hN hi hx r (fun s' I' => ⟨_, H, I', h⟩) hf)
def gNil : TGs := fun vs σ H Q => vs = [] ∧ Q σ H
def gCons (t : TG) (u : TGs) : TGs := fun vs σ H Q => ∃ v r, vs = v :: r ∧ t v σ H fun σ' H' => u r σ' H' Q
theorem pgs_nil : PGs X [] gNil := by
  intro pins s σ H vs us Q I r h
  obtain ⟨e, h⟩ := h
  subst e
  cases r
  exact assignInOrder_nil ⟨σ, H, I, h⟩
theorem pgs_cons {e : Expr} {es : List Expr} {t : TG} {u : TGs} (h1 : PG X e t) (h2 : PGs X es u)
    (hs : (assignEach (e :: es) X.env).map (·.2) = assign e X.env :: (assignEach es X.env).map (·.2) := by rfl) : PGs X (e :: es) (gCons t u) := by
  intro pins s σ H vs us Q I r h
  obtain ⟨v, vr, e1, h⟩ := h
  subst e1
  cases r with
  | cons r rr =>
    rw [hs]
    refine assignInOrder_cons (thn (h1 pins s σ H _ _ _ I r h) fun _ s1 ⟨σ1, H1, I1, q1⟩ => ?_)
    exact h2 pins s1 σ1 H1 _ _ Q I1 rr q1
/-- (a, b, ..) = a tuple of that length -/
def gTup (K : PySem.W.Frag) (n : Nat) (t : TGs) : TG := fun v σ H Q => ∃ a xs, v = .ref a ∧ SqT K H a xs ∧ xs.length = n ∧ t xs σ H Q
theorem pg_tup {es : List Expr} {k : Nat} {t : TGs} {n : Nat} (hc : X.calm = true) (h : PGs X es t)
    (hn : (assignEach es X.env).length = n := by rfl) (hst : (assignEach es X.env).findIdx? (·.1) = none := by rfl) : PG X (.Tuple es k pos) (gTup X.K n t) := by
  intro pins s σ H v u Q I r hw
  obtain ⟨a, xs, e1, hq, hl, hw⟩ := hw
  subst e1
  cases r
  obtain ⟨its, rv, ht, hz⟩ := I.tuple hq
  refine assign_Tuple_tuple (I.ok.hd hc) ht (by simp [hn, ← hl, rv.length]) hst fun h' hx => ?_
  have I1 : Inv X pins σ H { s with heap := h' } := I.kept (t' := s.toks) fun b o e => hx b o (Nat.ne_of_lt (Heap.lt_size e)) e
  exact h pins _ σ H xs _ Q I1 (by simpa using rv) hw
/-- o[i] = .. -/
def gSub (to ti : TE) (t : TSet) : TG := fun v σ H Q => to σ H fun o H1 => ti σ H1 fun i H2 => t o i v H2 fun H3 => Q σ H3
theorem pg_sub {o i : Expr} {to ti : TE} {t : TSet} (ho : PE X o to) (hi : PE X i ti) (hs : PSet X t)
    (ha : ∀ v, assign (.Subscript o i pos) X.env v = (do
      let ov ← holding [v] (eval o X.env)
      let iv ← holding [v, ov] (eval i X.env)
      standAt pos
      holding [v, ov, iv] (setItem ov iv v)
      release [v, ov, iv] []) := by intro _; rfl) : PG X (.Subscript o i pos) (gSub to ti t) := by
  intro pins s σ H v u Q I r h
  rw [ha]
  refine wpAny_bind (wpAny_holding (thn (ho pins s σ H _ I h) fun ov s1 ⟨x, H1, I1, r1, q1⟩ => ?_))
  refine wpAny_bind (wpAny_holding (thn (hi pins s1 σ H1 _ I1 q1) fun iv s2 ⟨y, H2, I2, r2, q2⟩ => ?_))
  refine wpAny_bind (wpAny_standAt (wpAny_bind (wpAny_holding (thn (hs pins s2 σ H2 x y v ov iv u _ I2 r1 r2 r q2) fun _ s3 ⟨H3, I3, q3⟩ => ?_))))
  exact wpAny_release ⟨σ, H3, I3, q3⟩
/-- target = value -/
def tAsg (te : TE) (g : TG) : TS := fun D σ H => te σ H fun x H1 => g x σ H1 D.nx
theorem ps_asg {tg e : Expr} {te : TE} {g : TG} (he : PE X e te) (hg : PG X tg g) (hs : swapsWithSole [tg] e pos.line X.env = pure false := by rfl) (hw : swappedStores [tg] e X.env = pure none := by rfl)
    (h1 : (assignEach [tg] X.env).map (·.2) = [assign tg X.env] := by rfl) : PS X (.Assign [tg] e pos) (tAsg te g) := by
  intro pins s σ H D I h
  refine wpAny_Assign_stores (thn (he pins s σ H _ I h) fun v s1 ⟨x, H1, I1, r1, q1⟩ => ?_) hs hw
  rw [h1]
  exact thn (hg pins s1 σ H1 x v _ I1 r1 q1) fun _ s2 q => q
/-- name = value -/
theorem ps_set {i : Nat} {x : Str} {e : Expr} {te : TE} {pos' : Pos} (hN : X.N.Nodup) (hi : X.N[i]? = some x) (hx : Loc X.env.scope x) (he : PE X e te) (hs : swapsWith e (some (.Name x pos')) pos.line X.env = pure false := by rfl) (hf : X.fn x = true ∨ X.env.scope.names.lookup x = some .local := by first | exact .inl rfl | exact .inr rfl | assumption) :
    PS X (.Assign [.Name x pos'] e pos) (tAsg te (gName i)) := by
  intro pins s σ H D I h
  refine wpAny_Assign_Name (thn (he pins s σ H _ I h) fun v s1 ⟨y, H1, I1, r1, q1⟩ => ?_) hs
  exact store_ok I1 hN hi hx r1 (fun s2 I2 => ⟨_, H1, I2, q1⟩) hf
/-- a, b = x, y with plain local names: stored from the right; the pair itself is not tracked (the opening rows as in PyProof/Rows/TupAssign.lean:23) -/
def tPar (i j : Nat) (ta : TA) : TS := fun D σ H => ta σ H fun vs H1 => ∃ v w, vs = [v, w] ∧ D.nx ((σ.set i (some v)).set j (some w)) H1
/-- name op= e -/
def tAug (i : Nat) (te : TE) (ti : TIp) : TS := fun D σ H => ∃ x, σ[i]? = some (some x) ∧ te σ H fun y H1 => ti x y H1 fun z H2 => D.nx (σ.set i (some z)) H2
/-- o[i] op= e -/
def tAugS (to ti te : TE) (tget : V → V → Hp → VK → Prop) (tip : TIp) (tset : TSet) : TS := fun D σ H => to σ H fun o H1 => ti σ H1 fun i H2 => tget o i H2 fun x H3 => te σ H3 fun y H4 => tip x y H4 fun z H5 => tset o i z H5 fun H6 => D.nx σ H6
/-- o[i], by values -/
def PGet (X : Cx) (t : V → V → Hp → VK → Prop) : Prop :=
  ∀ (pins : List (Addr × Obj)) (s : Shared) (σ : St) (H : Hp) (o i : V) (ov iv : Value) (Q : VK), Inv X pins σ H s → RelV o ov → RelV i iv → t o i H Q →
    wpAny (model X.prog X.w) X.A (getItem ov iv) (EP X pins σ Q) X.xe s
/-- ints -/
def ipI (f : Int → Int → Int) : TIp := fun x y H Q => ∃ i j, x = .int i ∧ y = .int j ∧ Q (.int (f i j)) H
end

/-! ### while -/
section
variable {X : Cx} {pos : Pos}
/-- the invariant W with its measure -/
def tWhile (c : TT) (tb : TS) : TS := fun D σ H => ∃ W : Nat → St → Hp → Prop, (∃ m, W m σ H) ∧ ∀ m σ H, W m σ H →
  c σ H fun b H1 => if b = true then ∃ N : St → Hp → Prop, (∀ σ' H', N σ' H' → ∃ m', m' < m ∧ W m' σ' H') ∧ tb { D with nx := N, ct := N, bk := D.nx } σ H1 else D.nx σ H1
end

/-! ### what a loop or a comprehension walks -/
/-- at turn i: it yields x (the heap may grow), or it stops -/
structure It where
  go : Nat → Hp → Prop
  yld : Nat → Hp → V → Hp → Prop
  stop : Nat → Hp → Prop
/-- the iterator's own objects may turn: they are not the frame's, not pinned, younger than the entry (or a comprehension's own) -/
def FpOk (X : Cx) (pins : List (Addr × Obj)) (H : Hp) (b : Addr) : Prop :=
  H b = none ∧ b ≠ X.env.locals ∧ b ∉ X.fs ∧ (b ∈ X.ex ∨ X.s₀.heap.objs.size ≤ b) ∧ (∀ x c, X.env.cells.lookup x = some c → c ≠ b) ∧ ∀ p ∈ X.pn ++ pins, p.1 ≠ b
theorem Inv.fpOk {X : Cx} {pins : List (Addr × Obj)} {σ : St} {H H' : Hp} {s : Shared} {b : Addr} (I : Inv X pins σ H s) (hb : s.heap.objs.size ≤ b) (hn : H' b = none) : FpOk X pins H' b := by
  refine ⟨hn, Nat.ne_of_gt (Nat.lt_of_lt_of_le I.lt hb), I.nofs hb, .inr (Nat.le_trans I.sz hb), fun x c e z => ?_, fun p hp z => ?_⟩
  · obtain ⟨v, q⟩ := I.cell x c e
    exact absurd (Nat.lt_of_lt_of_le q.lt (by rw [z]; exact hb)) (Nat.lt_irrefl _)
  · exact absurd (Nat.lt_of_lt_of_le (Heap.lt_size (I.pin p hp).1) (by rw [z]; exact hb)) (Nat.lt_irrefl _)
structure Turn (P : Program) (w : World) (K : PySem.W.Frag) (tg : Expr) (J : It) (fp : List Addr) (it : Addr) (tn : Nat → Heap → Prop) : Prop where
  mem : it ∈ fp
  obj : ∀ i h, tn i h → ∀ b ∈ fp, ∃ o, h.get? b = some o ∧ ∀ v, o.data ≠ .cell v
  keep : ∀ i h h', tn i h → (∀ b ∈ fp, ∀ o, h.get? b = some o → h'.get? b = some o) → tn i h'
  item : ∀ (X : Cx), X.prog = P → X.w = w → X.K = K → X.calm = true → ∀ (i : Nat) (pins : List (Addr × Obj)) (s : Shared) (σ : St) (H : Hp) (E : Value → Shared → Prop), Inv X pins σ H s → (∀ b ∈ fp, FpOk X pins H b) → tn i s.heap → J.go i H →
    wpAny (model P w) X.A (pyNext (.ref it)) (fun r s1 => ∃ u, r = some u ∧
      wpAny (model P w) X.A (letOwnedTupleGo tg (.ref it) u) (fun _ s2 => ∃ x H', Inv X pins σ H' s2 ∧ RelV x u ∧ J.yld i H x H' ∧ tn (i + 1) s2.heap ∧ ∀ b ∈ fp, H' b = none) E s1) E s
  done : ∀ (X : Cx), X.prog = P → X.w = w → X.K = K → X.calm = true → ∀ (i : Nat) (pins : List (Addr × Obj)) (s : Shared) (σ : St) (H : Hp) (E : Value → Shared → Prop), Inv X pins σ H s → (∀ b ∈ fp, FpOk X pins H b) → tn i s.heap → J.stop i H →
    wpAny (model P w) X.A (pyNext (.ref it)) (fun r s1 => r = none ∧ Inv X pins σ H s1) E s
  self : ∀ (A : Around) (i : Nat) (s : Shared) (Q : Value → Shared → Prop) (E : Value → Shared → Prop), tn i s.heap → Q (.ref it) s → wpAny (model P w) A (pyIter (.ref it)) Q E s
abbrev TI := St → Hp → (It → Hp → Prop) → Prop
/-- an iterator has come -/
def PIE (X : Cx) (pins : List (Addr × Obj)) (σ : St) (tg : Expr) (R : It → Hp → Prop) (itv : Value) (s2 : Shared) : Prop :=
  ∃ (it : Addr) (fp : List Addr) (tn : Nat → Heap → Prop) (J : It) (H' : Hp), itv = .ref it ∧ Inv X pins σ H' s2 ∧ Turn X.prog X.w X.K tg J fp it tn ∧ tn 0 s2.heap ∧ (∀ b ∈ fp, FpOk X pins H' b) ∧ R J H'
def PI (X : Cx) (tg iter : Expr) (wi : TI) : Prop :=
  ∀ (pins : List (Addr × Obj)) (s : Shared) (σ : St) (H : Hp) (R : It → Hp → Prop), Inv X pins σ H s → wi σ H R →
    wpAny (model X.prog X.w) X.A (eval iter X.env) (fun v s1 => wpAny (model X.prog X.w) X.A (pyIter v) (PIE X pins σ tg R) X.xe s1) X.xe s

/-- the step ahead of the store is nothing for an iterator that keeps no tuple -/
theorem go_of {M : Model} {A : Around} {E : Value → Shared → Prop} {s : Shared} {tg : Expr} {it : Addr} {u : Value} {o : Obj} {n : String} {vs : Array Value} {Q : Unit → Shared → Prop} (ho : s.heap.get? it = some o) (hc : o.cls = .type n) (hd : o.data = .fields vs)
    (hn : ["enumerate", "zip", "dict_itemiterator", "dict_reverseitemiterator", "odict_iterator", "itertools.zip_longest", "itertools.pairwise"].contains n = false) (hQ : Q () s) : wpAny M A (letOwnedTupleGo tg (.ref it) u) Q E s := by
  unfold letOwnedTupleGo
  cases tg <;> first
    | exact wpAny_pure hQ
    | (cases u <;> first
        | exact wpAny_pure hQ
        | (refine wpAny_bind (wpAny_load ho ?_)
           rw [hc, hd]
           show wpAny M A (if (["enumerate", "zip", "dict_itemiterator", "dict_reverseitemiterator", "odict_iterator", "itertools.zip_longest", "itertools.pairwise"].contains n && vs[0]? == some (rawInt _)) = true then _ else _) Q E s
           rw [if_neg (by intro h; rw [hn, Bool.false_and] at h; cases h)]
           exact wpAny_pure hQ))

/-- the list at a, as it stands at each turn (a loop may append to it) -/
def Itl (K : PySem.W.Frag) (a : Addr) : It :=
  ⟨fun i H => ∃ xs x, SqL K H a xs ∧ xs[i]? = some x, fun i H x H' => H' = H ∧ ∀ xs, SqL K H a xs → xs[i]? = some x, fun i H => ∃ xs, SqL K H a xs ∧ xs.length ≤ i⟩
def Itt (K : PySem.W.Frag) (a : Addr) : It :=
  ⟨fun i H => ∃ xs x, SqT K H a xs ∧ xs[i]? = some x, fun i H x H' => H' = H ∧ ∀ xs, SqT K H a xs → xs[i]? = some x, fun i H => ∃ xs, SqT K H a xs ∧ xs.length ≤ i⟩
/-- lo, lo + 1, .. (n of them) -/
def Itr (lo : Int) (n : Nat) : It := ⟨fun i _ => i < n, fun i H x H' => H' = H ∧ x = .int (lo + i), fun i _ => n ≤ i⟩
theorem turn_list {P : Program} {w : World} {K : PySem.W.Frag} {tg : Expr} (a it : Addr) : Turn P w K tg (Itl K a) [it] it (fun i h => h.IsListIter it a i) where
  mem := by simp
  obj := fun i h st b hb => by
    have e : b = it := by simpa using hb
    subst e
    obtain ⟨o, e, c, d⟩ := st
    exact ⟨o, e, fun v z => by rw [d] at z; cases z⟩
  keep := fun i h h' st k => st.at fun o e => k it (by simp) o e
  item := by
    intro X hP hw hK hc i pins s σ H E I hf st hg
    subst hP hw hK
    obtain ⟨xs, x, hq, hx⟩ := hg
    obtain ⟨its, rv, p, hz⟩ := I.list hq
    obtain ⟨u, hu, ru⟩ := rv.get hx
    obtain ⟨f0, f1, f2, f3, f4, f5⟩ := hf it (by simp)
    refine wpAny_pyNext_list_item st p.isList (x := u) (by simpa using hu) fun h' st' sb => ?_
    have I1 : Inv X pins σ H { s with heap := h' } := I.turned (t' := s.toks) (fun b o hb e => (sb.2 b hb).trans e) f0 f1 f3 f4 f5
    obtain ⟨o, e, c, d⟩ := id st'
    exact ⟨u, rfl, go_of (s := { s with heap := h' }) e c d (by decide) ⟨x, H, I1, ru, ⟨rfl, fun ys hy => by rw [I.list_inj hy hq]; exact hx⟩, st', fun b hb => (hf b hb).1⟩⟩
  done := by
    intro X hP hw hK hc i pins s σ H E I hf st hg
    subst hP hw hK
    obtain ⟨xs, hq, hx⟩ := hg
    obtain ⟨its, rv, p, hz⟩ := I.list hq
    obtain ⟨f0, f1, f2, f3, f4, f5⟩ := hf it (by simp)
    have hl := rv.length
    exact wpAny_pyNext_list_end (I.ok.hd hc) st p.isList (by simp; omega) fun h' eb => ⟨rfl, I.turned (t' := s.toks) (fun b o hb e => eb b o hb e) f0 f1 f3 f4 f5⟩
  self := fun _ _ _ _ _ st h => wpAny_pyIter_listiter st h
theorem turn_tuple {P : Program} {w : World} {K : PySem.W.Frag} {tg : Expr} (a it : Addr) : Turn P w K tg (Itt K a) [it] it (fun i h => h.IsTupleIter it a i) where
  mem := by simp
  obj := fun i h st b hb => by
    have e : b = it := by simpa using hb
    subst e
    obtain ⟨o, e, c, d⟩ := st
    exact ⟨o, e, fun v z => by rw [d] at z; cases z⟩
  keep := fun i h h' st k => st.at fun o e => k it (by simp) o e
  item := by
    intro X hP hw hK hc i pins s σ H E I hf st hg
    subst hP hw hK
    obtain ⟨xs, x, hq, hx⟩ := hg
    obtain ⟨its, rv, p, hz⟩ := I.tuple hq
    obtain ⟨u, hu, ru⟩ := rv.get hx
    obtain ⟨f0, f1, f2, f3, f4, f5⟩ := hf it (by simp)
    refine wpAny_pyNext_tuple_item st (show s.heap.IsTuple a its.toArray from p) (x := u) (by simpa using hu) fun h' st' sb => ?_
    have I1 : Inv X pins σ H { s with heap := h' } := I.turned (t' := s.toks) (fun b o hb e => (sb.2 b hb).trans e) f0 f1 f3 f4 f5
    obtain ⟨o, e, c, d⟩ := id st'
    exact ⟨u, rfl, go_of (s := { s with heap := h' }) e c d (by decide) ⟨x, H, I1, ru, ⟨rfl, fun ys hy => by rw [I.tuple_inj hy hq]; exact hx⟩, st', fun b hb => (hf b hb).1⟩⟩
  done := by
    intro X hP hw hK hc i pins s σ H E I hf st hg
    subst hP hw hK
    obtain ⟨xs, hq, hx⟩ := hg
    obtain ⟨its, rv, p, hz⟩ := I.tuple hq
    obtain ⟨f0, f1, f2, f3, f4, f5⟩ := hf it (by simp)
    have hl := rv.length
    exact wpAny_pyNext_tuple_end (I.ok.hd hc) st (show s.heap.IsTuple a its.toArray from p) (by simp; omega) fun h' eb => ⟨rfl, I.turned (t' := s.toks) (fun b o hb e => eb b o hb e) f0 f1 f3 f4 f5⟩
  self := fun _ _ _ _ _ st h => wpAny_pyIter_tupleiter st h
theorem turn_range {P : Program} {w : World} {K : PySem.W.Frag} {tg : Expr} (it : Addr) (lo : Int) (n : Nat) : Turn P w K tg (Itr lo n) [it] it (fun i h => IsRangeIter h it (lo + (i : Nat) * 1) ((n : Int) - (i : Nat)) 1) where
  mem := by simp
  obj := fun i h st b hb => by
    have e : b = it := by simpa using hb
    subst e
    exact ⟨_, st, fun v z => by
      have z' : Data.fields _ = Data.cell v := z
      cases z'⟩
  keep := fun i h h' st k => k it (by simp) _ st
  item := by
    intro X hP hw hK hc i pins s σ H E I hf st hg
    subst hP hw hK
    obtain ⟨f0, f1, f2, f3, f4, f5⟩ := hf it (by simp)
    have W := Walks.range (prog := X.prog) (w := X.w) (I.ok.hd hc) it lo 1 n
    refine W.item i s _ _ hg st fun v h' tk hv st' kk => ?_
    obtain ⟨t, rfl⟩ := hv
    have I1 : Inv X pins σ H { s with heap := h', toks := tk } := I.turned (fun b o hb e => kk b o (by simpa using hb) e) f0 f1 f3 f4 f5
    refine ⟨_, rfl, go_of (s := { s with heap := h', toks := tk }) (n := "range_iterator") st' rfl rfl (by decide) ⟨.int (lo + i), H, I1, ⟨t, ?_⟩, ⟨rfl, rfl⟩, st', fun b hb => (hf b hb).1⟩⟩
    rw [Int.mul_one]
  done := by
    intro X hP hw hK hc i pins s σ H E I hf st hg
    subst hP hw hK
    obtain ⟨f0, f1, f2, f3, f4, f5⟩ := hf it (by simp)
    exact wpAny_pyNext_range_end (I.ok.hd hc) st (by have : n ≤ i := hg; omega) fun h' eb => ⟨rfl, I.turned (t' := s.toks) (fun b o hb e => eb b o hb e) f0 f1 f3 f4 f5⟩
  self := fun _ _ _ _ _ st h => wpAny_pyIter_rangeiter st h
end L2

namespace L2
open PySem PySem.Spec PyProof.Rows
section
variable {X : Cx} {tg : Expr}
def iList (K : PySem.W.Frag) (tl : TE) : TI := fun σ H R => tl σ H fun x H1 => ∃ a, x = .ref a ∧ (∃ xs, SqL K H1 a xs) ∧ R (Itl K a) H1
def iTup (K : PySem.W.Frag) (tl : TE) : TI := fun σ H R => tl σ H fun x H1 => ∃ a, x = .ref a ∧ (∃ xs, SqT K H1 a xs) ∧ R (Itt K a) H1
/-- a range object just made, walked -/
theorem range_it {pins : List (Addr × Obj)} {σ : St} {H : Hp} {s : Shared} {R : It → Hp → Prop} {E : Value → Shared → Prop} {lo hi : Int} {t u v : Tok} {tk : Nat} (I : Inv X pins σ H s) (h1 : -(2 ^ 62) ≤ lo) (h2 : lo < 2 ^ 62) (h3 : -(2 ^ 62) ≤ hi) (h4 : hi < 2 ^ 62)
    (q : R (Itr lo (hi - lo).toNat) H) : wpAny (model X.prog X.w) X.A (pyIter (.ref s.heap.objs.size)) (PIE X pins σ tg R) E { s with heap := s.heap.push { cls := .type "range", data := .fields #[.int lo t, .int hi u, .int 1 v] }, toks := tk } := by
  refine wpAny_pyIter_range (IsRange.new ..) (small_one h1 h2 h3 h4) ?_
  have I1 : Inv X pins σ H { s with heap := s.heap.push { cls := .type "range", data := .fields #[.int lo t, .int hi u, .int 1 v] }, toks := tk } := I.kept fun b o e => Heap.get?_push_of_some _ e
  refine ⟨(s.heap.push { cls := .type "range", data := .fields #[.int lo t, .int hi u, .int 1 v] }).objs.size, [(s.heap.push { cls := .type "range", data := .fields #[.int lo t, .int hi u, .int 1 v] }).objs.size], _, _, H, rfl,
    I1.kept (t' := tk) fun b o e => Heap.get?_push_of_some _ e, turn_range _ lo (hi - lo).toNat, ?_, fun b hb => ?_, q⟩
  · have e1 : lo + ((0 : Nat) : Int) * 1 = lo := by simp
    have e2 : (((hi - lo).toNat : Nat) : Int) - ((0 : Nat) : Int) = Builtin.Range.rangeSize lo hi 1 := by rw [rangeSize_one]; split <;> omega
    show IsRangeIter _ _ (lo + ((0 : Nat) : Int) * 1) ((((hi - lo).toNat : Nat) : Int) - ((0 : Nat) : Int)) 1
    rw [e1, e2]
    exact Heap.get?_push_size _ rfl
  · have e : b = (s.heap.push { cls := .type "range", data := .fields #[.int lo t, .int hi u, .int 1 v] }).objs.size := by simpa using hb
    subst e
    exact I1.fpOk (Nat.le_refl _) (I1.hok.fresh (Nat.le_refl _))
def iRng1 (ta : TA) : TI := fun σ H R => ta σ H fun vs H1 => ∃ j : Int, vs = [.int j] ∧ -(2 ^ 62) ≤ j ∧ j < 2 ^ 62 ∧ R (Itr 0 j.toNat) H1
def iRng2 (ta : TA) : TI := fun σ H R => ta σ H fun vs H1 => ∃ i j : Int, vs = [.int i, .int j] ∧ (-(2 ^ 62) ≤ i ∧ i < 2 ^ 62 ∧ -(2 ^ 62) ≤ j ∧ j < 2 ^ 62) ∧ R (Itr i (j - i).toNat) H1
theorem pi_range1 {a : Expr} {ta : TA} {p pos : Pos} (hg : Gl X "range") (hm : X.mg "range" = none) (ha : PA X [a] ta) (hs : starEach [a] X.env = [(false, eval a X.env)] := by rfl) : PI X tg (.Call (.Name "range" p) [a] [] pos) (iRng1 ta) := by
  intro pins s σ H R I h
  refine Call_ (ld_blt I hg hm boot_range (PyProof.Rows.callWith_type1 (thn (ha pos pins s σ H _ I h) fun us s1 ⟨vs, H1, I1, r1, q1⟩ => ?_) hs rfl))
  obtain ⟨j, e, q1, q2, q⟩ := q1
  subst e
  cases r1 with
  | cons r rr =>
    cases rr
    obtain ⟨t, rfl⟩ := r
    exact call_range_1 (range_it I1 (by omega) (by omega) q1 q2 (by simpa using q))
/-! ### for -/
/-- W: the invariant by the turn and a measure; N: what the body is to reach -/
def tFor (wi : TI) (g : TG) (tb : TS) : TS := fun D σ H => wi σ H fun J H1 => ∃ W : Nat → Nat → St → Hp → Prop, (∃ m, W 0 m σ H1) ∧ ∀ i m σ H, W i m σ H →
  (J.stop i H ∧ D.nx σ H) ∨ (J.go i H ∧ ∃ N : St → Hp → Prop, (∀ σ' H', N σ' H' → ∃ m', m' < m ∧ W (i + 1) m' σ' H') ∧ ∀ x H', J.yld i H x H' → g x σ H' fun σ2 H2 => tb { D with nx := N, ct := N, bk := D.nx } σ2 H2)
/-- the records at fp as they stand -/
def pinsAt (fp : List Addr) (h : Heap) : List (Addr × Obj) := fp.filterMap fun b => (h.get? b).map fun o => (b, o)
theorem mem_pinsAt {fp : List Addr} {h : Heap} {b : Addr} {o : Obj} (hb : b ∈ fp) (e : h.get? b = some o) : (b, o) ∈ pinsAt fp h := List.mem_filterMap.mpr ⟨b, hb, by rw [e]; rfl⟩
theorem of_pinsAt {fp : List Addr} {h : Heap} {p : Addr × Obj} (hp : p ∈ pinsAt fp h) : p.1 ∈ fp ∧ h.get? p.1 = some p.2 := by
  obtain ⟨b, hb, e⟩ := List.mem_filterMap.mp hp
  cases q : h.get? b with
  | none => rw [q] at e; cases e
  | some o =>
    rw [q] at e
    have e' : (b, o) = p := Option.some.inj e
    subst e'
    exact ⟨hb, q⟩
theorem Inv.pinned {pins : List (Addr × Obj)} {σ : St} {H : Hp} {s : Shared} {fp : List Addr} (I : Inv X pins σ H s) (hf : ∀ b ∈ fp, FpOk X pins H b) (ho : ∀ b ∈ fp, ∃ o, s.heap.get? b = some o ∧ ∀ v, o.data ≠ .cell v) : Inv X (pins ++ pinsAt fp s.heap) σ H s :=
  I.pins_of fun p hp => (List.mem_append.mp hp).elim (fun z => I.pin p (List.mem_append_right _ z)) fun z => by
    obtain ⟨hb, e⟩ := of_pinsAt z
    obtain ⟨f0, f1, f2, _⟩ := hf p.1 hb
    obtain ⟨o, e', d⟩ := ho p.1 hb
    rw [e] at e'; cases e'
    exact ⟨e, f0, f1, f2, d⟩
theorem Inv.unpinned {pins pl : List (Addr × Obj)} {σ : St} {H : Hp} {s : Shared} (I : Inv X (pins ++ pl) σ H s) : Inv X pins σ H s := I.pins_of fun p hp => I.pin p (List.mem_append_right _ (List.mem_append_left _ hp))
theorem ps_for {iter : Expr} {body : List Stmt} {wi : TI} {g : TG} {tb : TS} {pos : Pos} (hp : PassesOwn (model X.prog X.w) X.A X.env X.xe) (hc : X.calm = true) (hi : PI X tg iter wi) (hg : PG X tg g) (hb : PSs X body tb)
    (hs : ∀ x, foldedSetIterable iter X.env x = pure x := by intro _; rfl) : PS X (.For tg iter body [] pos) (tFor wi g tb) := by
  intro pins s σ H D I h
  refine wpAny_For (thn (hi pins s σ H _ I h) fun v s1 h1 => thn h1 fun itv s2 h2 => ?_) hs
  obtain ⟨it, fp, tn, J, H2, e, I2, T, st2, f2, W, ⟨m0, w0⟩, turn⟩ := h2
  subst e
  -- what stays true of the iterator's objects through the loop
  have stat : ∀ {H' : Hp}, (∀ b ∈ fp, H' b = none) → ∀ b ∈ fp, FpOk X pins H' b := fun hn b hb => ⟨hn b hb, (f2 b hb).2⟩
  refine codeAny_forLoop_any (fun n s' => ∃ i σ' H', Inv X pins σ' H' s' ∧ tn i s'.heap ∧ (∀ b ∈ fp, H' b = none) ∧ W i n σ' H') ?_ m0 ⟨0, σ, H2, I2, st2, fun b hb => (f2 b hb).1, w0⟩
  rintro n s3 ⟨i, σ3, H3, I3, st3, fr3, w3⟩
  rcases turn i n σ3 H3 w3 with ⟨stop, qn⟩ | ⟨go, N, hN, step⟩
  · refine wpAny_passesOwn hp (thn (T.done X rfl rfl rfl hc i pins s3 σ3 H3 X.xe I3 (stat fr3) st3 stop) fun r s4 ⟨hr, I4⟩ => ?_)
    subst hr
    exact wpAny_execs_nil ⟨σ3, H3, I4, qn⟩
  · refine wpAny_passesOwn hp (thn (T.item X rfl rfl rfl hc i pins s3 σ3 H3 X.xe I3 (stat fr3) st3 go) fun r s4 ⟨u, hr, h4⟩ => ?_)
    subst hr
    refine wpAny_passesOwn hp (thn h4 fun _ s5 ⟨x, H5, I5, r5, y5, st5, fr5⟩ => ?_)
    have I5' := I5.pinned (stat fr5) (T.obj _ _ st5)
    refine wpAny_passesOwn hp (thn (hg _ s5 σ3 H5 x u _ I5' r5 (step x H5 y5)) fun _ s6 ⟨σ6, H6, I6, q6⟩ => ?_)
    refine wpAny_passesOwn hp (thn (hb _ s6 σ6 H6 _ I6 q6) fun f s7 q7 => ?_)
    have again : ∀ {σ7 : St} {H7 : Hp}, Inv X (pins ++ pinsAt fp s5.heap) σ7 H7 s7 → N σ7 H7 → ∃ m, m < n ∧ ∃ i σ' H', Inv X pins σ' H' s7 ∧ tn i s7.heap ∧ (∀ b ∈ fp, H' b = none) ∧ W i m σ' H' := fun {σ7 H7} I7 n7 => by
      obtain ⟨m', hm, w7⟩ := hN σ7 H7 n7
      refine ⟨m', hm, i + 1, σ7, H7, I7.unpinned, T.keep _ _ _ st5 fun b hb o e => (I7.pin (b, o) (List.mem_append_right _ (List.mem_append_right _ (mem_pinsAt hb e)))).1, fun b hb => ?_, w7⟩
      obtain ⟨o, e, d⟩ := T.obj _ _ st5 b hb
      exact (I7.pin (b, o) (List.mem_append_right _ (List.mem_append_right _ (mem_pinsAt hb e)))).2.1
    cases f with
    | next => obtain ⟨σ7, H7, I7, n7⟩ := q7; exact again I7 n7
    | cont => obtain ⟨σ7, H7, I7, n7⟩ := q7; exact again I7 n7
    | brk => obtain ⟨σ7, H7, I7, q7⟩ := q7; exact ⟨σ7, H7, I7.unpinned, q7⟩
    | ret v => obtain ⟨x7, σ7, H7, I7, r7, q7⟩ := q7; exact ⟨x7, σ7, H7, I7.unpinned, r7, q7⟩
end

/-! ### the forms one uses -/
/-- over a list that the body leaves as it is -/
theorem for_list {K : PySem.W.Frag} {a : Addr} {xs : List V} {g : TG} {tb : TS} {D : Ends} {σ : St} {H : Hp} (Pv : Nat → St → Hp → Prop) (h0 : Pv 0 σ H) (hl : ∀ i σ H, i ≤ xs.length → Pv i σ H → SqL K H a xs)
    (hs : ∀ i x σ H, xs[i]? = some x → Pv i σ H → g x σ H fun σ2 H2 => tb { D with nx := Pv (i + 1), ct := Pv (i + 1), bk := D.nx } σ2 H2) (hd : ∀ σ H, Pv xs.length σ H → D.nx σ H) :
    ∃ W : Nat → Nat → St → Hp → Prop, (∃ m, W 0 m σ H) ∧ ∀ i m σ H, W i m σ H →
      ((Itl K a).stop i H ∧ D.nx σ H) ∨ ((Itl K a).go i H ∧ ∃ N : St → Hp → Prop, (∀ σ' H', N σ' H' → ∃ m', m' < m ∧ W (i + 1) m' σ' H') ∧ ∀ x H', (Itl K a).yld i H x H' → g x σ H' fun σ2 H2 => tb { D with nx := N, ct := N, bk := D.nx } σ2 H2) := by
  refine ⟨fun i m σ H => m = xs.length - i ∧ i ≤ xs.length ∧ Pv i σ H, ⟨xs.length, by simp, Nat.zero_le _, h0⟩, ?_⟩
  rintro i m σ H ⟨rfl, hi, p⟩
  have q := hl i σ H hi p
  by_cases hlt : i < xs.length
  · refine .inr ⟨⟨xs, xs[i], q, by simp [hlt]⟩, Pv (i + 1), fun σ' H' p' => ⟨xs.length - (i + 1), by omega, rfl, hlt, p'⟩, fun x H' y => ?_⟩
    obtain ⟨e, y⟩ := y
    subst e
    exact hs i x σ _ (y xs q) p
  · have e : i = xs.length := by omega
    subst e
    exact .inl ⟨⟨xs, q, Nat.le_refl _⟩, hd σ H p⟩
theorem for_tup {K : PySem.W.Frag} {a : Addr} {xs : List V} {g : TG} {tb : TS} {D : Ends} {σ : St} {H : Hp} (Pv : Nat → St → Hp → Prop) (h0 : Pv 0 σ H) (hl : ∀ i σ H, i ≤ xs.length → Pv i σ H → SqT K H a xs)
    (hs : ∀ i x σ H, xs[i]? = some x → Pv i σ H → g x σ H fun σ2 H2 => tb { D with nx := Pv (i + 1), ct := Pv (i + 1), bk := D.nx } σ2 H2) (hd : ∀ σ H, Pv xs.length σ H → D.nx σ H) :
    ∃ W : Nat → Nat → St → Hp → Prop, (∃ m, W 0 m σ H) ∧ ∀ i m σ H, W i m σ H →
      ((Itt K a).stop i H ∧ D.nx σ H) ∨ ((Itt K a).go i H ∧ ∃ N : St → Hp → Prop, (∀ σ' H', N σ' H' → ∃ m', m' < m ∧ W (i + 1) m' σ' H') ∧ ∀ x H', (Itt K a).yld i H x H' → g x σ H' fun σ2 H2 => tb { D with nx := N, ct := N, bk := D.nx } σ2 H2) := by
  refine ⟨fun i m σ H => m = xs.length - i ∧ i ≤ xs.length ∧ Pv i σ H, ⟨xs.length, by simp, Nat.zero_le _, h0⟩, ?_⟩
  rintro i m σ H ⟨rfl, hi, p⟩
  have q := hl i σ H hi p
  by_cases hlt : i < xs.length
  · refine .inr ⟨⟨xs, xs[i], q, by simp [hlt]⟩, Pv (i + 1), fun σ' H' p' => ⟨xs.length - (i + 1), by omega, rfl, hlt, p'⟩, fun x H' y => ?_⟩
    obtain ⟨e, y⟩ := y
    subst e
    exact hs i x σ _ (y xs q) p
  · have e : i = xs.length := by omega
    subst e
    exact .inl ⟨⟨xs, q, Nat.le_refl _⟩, hd σ H p⟩
end L2

namespace L2
open PySem PySem.Spec PyProof.Rows

abbrev R2 := V → V → Hp → VK → Prop
/-- a two-place operation on values: f is binaryOp op, inplaceOp op or compareOp op -/
def OpR (X : Cx) (f : Value → Value → Sem Value) (r : R2) : Prop :=
  ∀ (pins : List (Addr × Obj)) (s : Shared) (σ : St) (H : Hp) (x y : V) (v u : Value) (Q : VK), Inv X pins σ H s → RelV x v → RelV y u → r x y H Q →
    wpAny (model X.prog X.w) X.A (f v u) (EP X pins σ Q) X.xe s
/-- a one-place operation -/
def UnR (X : Cx) (f : Value → Sem Value) (r : V → Hp → VK → Prop) : Prop :=
  ∀ (pins : List (Addr × Obj)) (s : Shared) (σ : St) (H : Hp) (x : V) (v : Value) (Q : VK), Inv X pins σ H s → RelV x v → r x H Q →
    wpAny (model X.prog X.w) X.A (f v) (EP X pins σ Q) X.xe s
/-- a call of a value that is known (a builtin, a type) with values -/
def CallR (X : Cx) (f : Value) (r : List V → Hp → VK → Prop) : Prop :=
  ∀ (pins : List (Addr × Obj)) (s : Shared) (σ : St) (H : Hp) (xs : List V) (us : List Value) (Q : VK), Inv X pins σ H s → Vals xs us → r xs H Q →
    wpAny (model X.prog X.w) X.A (call f us) (EP X pins σ Q) X.xe s
/-- a value's truth -/
def TruR (X : Cx) (r : V → Hp → (Bool → Hp → Prop) → Prop) : Prop :=
  ∀ (pins : List (Addr × Obj)) (s : Shared) (σ : St) (H : Hp) (x : V) (v : Value) (Q : Bool → Hp → Prop), Inv X pins σ H s → RelV x v → r x H Q →
    wpAny (model X.prog X.w) X.A (truthy v) (TP X pins σ Q) X.xe s

def tOp (r : R2) (ta tb : TE) : TE := fun σ H Q => ta σ H fun x H1 => tb σ H1 fun y H2 => r x y H2 Q
def tUn (r : V → Hp → VK → Prop) (ta : TE) : TE := fun σ H Q => ta σ H fun x H1 => r x H1 Q
/-- ints in, under C, and a value out -/
def rI (C : Int → Int → Prop) (g : Int → Int → V) : R2 := fun x y H Q => ∃ i j, x = .int i ∧ y = .int j ∧ C i j ∧ Q (g i j) H
def rI0 (g : Int → Int → V) : R2 := fun x y H Q => ∃ i j, x = .int i ∧ y = .int j ∧ Q (g i j) H
def rU (g : Int → V) : V → Hp → VK → Prop := fun x H Q => ∃ i, x = .int i ∧ Q (g i) H

section
variable {X : Cx} {a b c : Expr} {ta tb tc : TE} {pos : Pos}

theorem binT (ha : PE X a ta) (hb : PE X b tb) {pins : List (Addr × Obj)} {s : Shared} {σ : St} {H : Hp} {R : V → V → Hp → Prop} (I : Inv X pins σ H s)
    (h : ta σ H fun x H1 => tb σ H1 fun y H2 => R x y H2) {Q : Value → Shared → Prop} {f : Value → Value → Sem Value}
    (hf : ∀ v u s2 x y H2, Inv X pins σ H2 s2 → RelV x v → RelV y u → R x y H2 → wpAny (model X.prog X.w) X.A (f v u) Q X.xe s2) :
    wpAny (model X.prog X.w) X.A (eval a X.env) (fun v s₁ => wpAny (model X.prog X.w) X.A (eval b X.env) (fun u s₂ => wpAny (model X.prog X.w) X.A (f v u) Q X.xe s₂) X.xe s₁) X.xe s := by
  refine thn (ha pins s σ H _ I h) fun v s1 ⟨x, H1, I1, r1, q1⟩ => ?_
  refine thn (hb pins s1 σ H1 _ I1 q1) fun u s2 ⟨y, H2, I2, r2, q2⟩ => ?_
  exact hf v u s2 x y H2 I2 r1 r2 q2

theorem pe_op {op : Operator} {r : R2} (ho : OpR X (binaryOp op) r) (ha : PE X a ta) (hb : PE X b tb) : PE X (.BinOp a op b pos) (tOp r ta tb) := by
  intro pins s σ H Q I h
  exact wpAny_BinOp (binT ha hb I h fun v u s2 x y H2 I2 rx ry q => ho pins s2 σ H2 x y v u Q I2 rx ry q)
/-! ### ints -/
theorem opI {f : Value → Value → Sem Value} {C : Int → Int → Prop} {g : Int → Int → Int}
    (rule : ∀ (i j : Int) (t u : Tok) (s : Shared) (Q : Value → Shared → Prop) (E : Value → Shared → Prop), C i j → Q (.int (g i j) s.toks) { s with toks := s.toks + 1 } → wpAny (model X.prog X.w) X.A (f (.int i t) (.int j u)) Q E s) :
    OpR X f (rI C fun i j => .int (g i j)) := by
  intro pins s σ H x y v u Q I rx ry h
  obtain ⟨i, j, rfl, rfl, hc, q⟩ := h
  obtain ⟨t, rfl⟩ := rx
  obtain ⟨t', rfl⟩ := ry
  exact rule i j t t' s _ _ hc ⟨.int (g i j), H, I.tok _, ⟨_, rfl⟩, q⟩
theorem opI0 {f : Value → Value → Sem Value} {g : Int → Int → Int}
    (rule : ∀ (i j : Int) (t u : Tok) (s : Shared) (Q : Value → Shared → Prop) (E : Value → Shared → Prop), Q (.int (g i j) s.toks) { s with toks := s.toks + 1 } → wpAny (model X.prog X.w) X.A (f (.int i t) (.int j u)) Q E s) :
    OpR X f (rI0 fun i j => .int (g i j)) := by
  intro pins s σ H x y v u Q I rx ry h
  obtain ⟨i, j, rfl, rfl, q⟩ := h
  obtain ⟨t, rfl⟩ := rx
  obtain ⟨t', rfl⟩ := ry
  exact rule i j t t' s _ _ ⟨.int (g i j), H, I.tok _, ⟨_, rfl⟩, q⟩
theorem opB0 {f : Value → Value → Sem Value} {g : Int → Int → Bool}
    (rule : ∀ (i j : Int) (t u : Tok) (s : Shared) (Q : Value → Shared → Prop) (E : Value → Shared → Prop), Q (.bool (g i j)) s → wpAny (model X.prog X.w) X.A (f (.int i t) (.int j u)) Q E s) :
    OpR X f (rI0 fun i j => .bl (g i j)) := by
  intro pins s σ H x y v u Q I rx ry h
  obtain ⟨i, j, rfl, rfl, q⟩ := h
  obtain ⟨t, rfl⟩ := rx
  obtain ⟨t', rfl⟩ := ry
  exact rule i j t t' s _ _ ⟨.bl (g i j), H, I, rfl, q⟩

def CDiv (i j : Int) : Prop := 0 < j ∧ j < 1073741824
def CDivN (i j : Int) : Prop := j ≠ 0 ∧ j.natAbs < 1073741824
def CPow (i j : Int) : Prop := 0 ≤ j ∧ j ≤ 1000000 ∧ i.natAbs < 2 ^ 64
def CMul (i j : Int) : Prop := (-(2 ^ 64) < i ∧ i < 2 ^ 64) ∨ (-(2 ^ 64) < j ∧ j < 2 ^ 64)
theorem CMul.ok {i j : Int} (h : CMul i j) : IntMulOk i j := by
  rcases h with ⟨h1, h2⟩ | ⟨h1, h2⟩
  · exact .of_left (intBits_le_64 h1 h2)
  · exact .of_right (intBits_le_64 h1 h2)
theorem op_add : OpR X (binaryOp .Add) (rI0 fun i j => .int (i + j)) := opI0 fun _ _ _ _ _ _ _ q => add_int q
theorem op_sub : OpR X (binaryOp .Sub) (rI0 fun i j => .int (i - j)) := opI0 fun _ _ _ _ _ _ _ q => sub_int q
theorem op_mul : OpR X (binaryOp .Mult) (rI CMul fun i j => .int (i * j)) := opI fun _ _ _ _ _ _ _ hc q => mul_int q hc.ok
/-- // by a positive divisor -/
theorem op_fdiv : OpR X (binaryOp .FloorDiv) (rI CDiv fun i j => .int (i / j)) := opI fun i j _ _ _ _ _ hc q => by
  have h1 : (0 : Int) < j := hc.1
  have h2 : j < 1073741824 := hc.2
  exact floordiv_int (by omega) (by rw [Int.fdiv_eq_ediv_of_nonneg i (by omega)]; exact q) (.inl (PyProof.noPylong_small (by omega)))
/-- % by a positive divisor of any size -/
theorem op_mod : OpR X (binaryOp .Mod) (rI (fun _ j => 0 < j) fun i j => .int (i % j)) := opI fun i j _ _ _ _ _ hc q => by
  have h1 : (0 : Int) < j := hc
  exact mod_int' (by omega) (by rw [Int.fmod_eq_emod_of_nonneg i (by omega)]; exact q)
/-! ### bools among ints: n += (a < b) -/
end

/-! ### comparisons -/
/-- the scalars that == tells apart as data does -/
def scal : V → V → Bool
  | .non, .non => true | .non, .int _ => true | .int _, .non => true | .non, .bl _ => true | .bl _, .non => true | .non, .str _ => true | .str _, .non => true
  | .int _, .int _ => true | .bl _, .bl _ => true | .str _, .str _ => true | .byt _, .byt _ => true
  | .int _, .str _ => true | .str _, .int _ => true | .bl _, .str _ => true | .str _, .bl _ => true
  | _, _ => false
def rEq : R2 := fun x y H Q => scal x y = true ∧ Q (.bl (decide (x = y))) H
def rNe : R2 := fun x y H Q => scal x y = true ∧ Q (.bl (!decide (x = y))) H

theorem dec_int {i j : Int} : decide (V.int i = V.int j) = (i == j) := by
  rw [Bool.eq_iff_iff]
  simp
theorem dec_bl {i j : Bool} : decide (V.bl i = V.bl j) = (i == j) := by
  rw [Bool.eq_iff_iff]
  simp
theorem dec_str {i j : Str} : decide (V.str i = V.str j) = (i == j) := by
  rw [Bool.eq_iff_iff]
  simp
theorem dec_byt {i j : Array UInt8} : decide (V.byt i = V.byt j) = (i.toList == j.toList) := by
  rw [Bool.eq_iff_iff]
  cases i
  cases j
  simp

section
variable {X : Cx} {a b c : Expr} {ta tb tc : TE} {pos : Pos}
theorem fin_bl {pins : List (Addr × Obj)} {σ : St} {H : Hp} {s : Shared} {Q : VK} {k k' : Bool} (I : Inv X pins σ H s) (q : Q (.bl k) H) (e : k = k') : EP X pins σ Q (.bool k') s := by
  subst e
  exact ⟨.bl k, H, I, rfl, q⟩
theorem op_eq : OpR X (compareOp .Eq) rEq := by
  intro pins s σ H x y v u Q I rx ry h
  obtain ⟨hs, q⟩ := h
  cases x with
  | non =>
    cases rx
    cases y with
    | non => cases ry; exact PySem.EqNone.eq_none_none (fin_bl I q (by simp))
    | bl j => cases ry; exact PySem.EqNone.eq_none_bool (fin_bl I q (by simp))
    | int j => obtain ⟨t', rfl⟩ := ry; exact PySem.EqNone.eq_none_int (fin_bl I q (by simp))
    | str j => obtain ⟨t', rfl⟩ := ry; exact PySem.EqNone.eq_none_str (fin_bl I q (by simp))
    | _ => exact absurd (show false = true from hs) Bool.false_ne_true
  | bl i =>
    cases rx
    cases y with
    | non => cases ry; exact PySem.EqNone.eq_bool_none (fin_bl I q (by simp))
    | bl j => cases ry; exact eq_bool (fin_bl I q dec_bl)
    | str j => obtain ⟨t', rfl⟩ := ry; exact PySem.EqMixed.eq_bool_str (fin_bl I q (by simp))
    | _ => exact absurd (show false = true from hs) Bool.false_ne_true
  | int i =>
    obtain ⟨t, rfl⟩ := rx
    cases y with
    | non => cases ry; exact PySem.EqNone.eq_int_none (fin_bl I q (by simp))
    | int j => obtain ⟨t', rfl⟩ := ry; exact eq_int (fin_bl I q dec_int)
    | str j => obtain ⟨t', rfl⟩ := ry; exact PySem.EqMixed.eq_int_str (fin_bl I q (by simp))
    | _ => exact absurd (show false = true from hs) Bool.false_ne_true
  | str i =>
    obtain ⟨t, rfl⟩ := rx
    cases y with
    | non => cases ry; exact PySem.EqNone.eq_str_none (fin_bl I q (by simp))
    | bl j => cases ry; exact PySem.EqMixed.eq_str_bool (fin_bl I q (by simp))
    | int j => obtain ⟨t', rfl⟩ := ry; exact PySem.EqMixed.eq_str_int (fin_bl I q (by simp))
    | str j => obtain ⟨t', rfl⟩ := ry; exact eq_str (fin_bl I q dec_str)
    | _ => exact absurd (show false = true from hs) Bool.false_ne_true
  | byt i =>
    obtain ⟨t, rfl⟩ := rx
    cases y with
    | byt j => obtain ⟨t', rfl⟩ := ry; exact PySem.W.eq_bytes (fin_bl I q dec_byt)
    | _ => exact absurd (show false = true from hs) Bool.false_ne_true
  | _ => cases y <;> exact absurd (show false = true from hs) Bool.false_ne_true
theorem op_ne : OpR X (compareOp .NotEq) rNe := by
  intro pins s σ H x y v u Q I rx ry h
  obtain ⟨hs, q⟩ := h
  cases x with
  | non =>
    cases rx
    cases y with
    | non => cases ry; exact PySem.EqNone.ne_none_none (fin_bl I q (by simp))
    | bl j => cases ry; exact PySem.EqNone.ne_none_bool (fin_bl I q (by simp))
    | int j => obtain ⟨t', rfl⟩ := ry; exact PySem.EqNone.ne_none_int (fin_bl I q (by simp))
    | str j => obtain ⟨t', rfl⟩ := ry; exact PySem.EqNone.ne_none_str (fin_bl I q (by simp))
    | _ => exact absurd (show false = true from hs) Bool.false_ne_true
  | bl i =>
    cases rx
    cases y with
    | non => cases ry; exact PySem.EqNone.ne_bool_none (fin_bl I q (by simp))
    | bl j => cases ry; exact ne_bool (fin_bl I q (congrArg not dec_bl))
    | str j => obtain ⟨t', rfl⟩ := ry; exact PySem.EqMixed.ne_bool_str (fin_bl I q (by simp))
    | _ => exact absurd (show false = true from hs) Bool.false_ne_true
  | int i =>
    obtain ⟨t, rfl⟩ := rx
    cases y with
    | non => cases ry; exact PySem.EqNone.ne_int_none (fin_bl I q (by simp))
    | int j => obtain ⟨t', rfl⟩ := ry; exact ne_int (fin_bl I q (congrArg not dec_int))
    | str j => obtain ⟨t', rfl⟩ := ry; exact PySem.EqMixed.ne_int_str (fin_bl I q (by simp))
    | _ => exact absurd (show false = true from hs) Bool.false_ne_true
  | str i =>
    obtain ⟨t, rfl⟩ := rx
    cases y with
    | non => cases ry; exact PySem.EqNone.ne_str_none (fin_bl I q (by simp))
    | bl j => cases ry; exact PySem.EqMixed.ne_str_bool (fin_bl I q (by simp))
    | int j => obtain ⟨t', rfl⟩ := ry; exact PySem.EqMixed.ne_str_int (fin_bl I q (by simp))
    | str j => obtain ⟨t', rfl⟩ := ry; exact ne_str (fin_bl I q (congrArg not dec_str))
    | _ => exact absurd (show false = true from hs) Bool.false_ne_true
  | byt i =>
    obtain ⟨t, rfl⟩ := rx
    cases y with
    | byt j => obtain ⟨t', rfl⟩ := ry; exact PySem.W.ne_bytes (fin_bl I q (congrArg not dec_byt))
    | _ => exact absurd (show false = true from hs) Bool.false_ne_true
  | _ => cases y <;> exact absurd (show false = true from hs) Bool.false_ne_true

theorem op_lt : OpR X (compareOp .Lt) (rI0 fun i j => .bl (decide (i < j))) := opB0 fun _ _ _ _ _ _ _ q => lt_int q
theorem op_le : OpR X (compareOp .LtE) (rI0 fun i j => .bl (decide (i ≤ j))) := opB0 fun _ _ _ _ _ _ _ q => le_int q
theorem op_gt : OpR X (compareOp .Gt) (rI0 fun i j => .bl (decide (j < i))) := opB0 fun _ _ _ _ _ _ _ q => gt_int q
/-- the one string within the other -/
theorem op_in_str : OpR X (compareOp .In) (fun x y H Q => ∃ i j, x = .str i ∧ y = .str j ∧ Q (.bl (!(Builtin.Str.occurrences j i 0 j.length 1).isEmpty)) H) := by
  intro pins s σ H x y v u Q I rx ry h
  obtain ⟨i, j, rfl, rfl, q⟩ := h
  obtain ⟨t, rfl⟩ := rx
  obtain ⟨t', rfl⟩ := ry
  exact in_str (fin_bl I q rfl)

/-- is, is not of two objects that are tracked lists or instances -/
def isObj : HO → Bool
  | .lst _ => true
  | .ins _ _ _ => true
  | _ => false
/-- two rules for one operation: by cases -/
theorem OpR.or {f : Value → Value → Sem Value} {r r' : R2} (h : OpR X f r) (h' : OpR X f r') : OpR X f (fun x y H Q => r x y H Q ∨ r' x y H Q) := by
  intro pins s σ H x y v u Q I rx ry q
  rcases q with q | q
  · exact h pins s σ H x y v u Q I rx ry q
  · exact h' pins s σ H x y v u Q I rx ry q

theorem nomark (b : Expr) {op : CmpOp} (h : op ≠ .In := by decide) (h2 : op ≠ .NotIn := by decide) : behindInMarks op b = false := by
  have e1 : (op == CmpOp.In) = false := by cases op <;> first | rfl | exact absurd rfl h
  have e2 : (op == CmpOp.NotIn) = false := by cases op <;> first | rfl | exact absurd rfl h2
  cases b <;> simp [behindInMarks, e1, e2]
/-- a comparison as a value; hm: nomark b, or (for in, not in) by with_unfolding_all rfl -/
theorem pe_cmpR {op : CmpOp} {r : R2} (ho : OpR X (compareOp op) r) (ha : PE X a ta) (hb : PE X b tb) (hm : behindInMarks op b = false) : PE X (.Compare a [op] [b] pos) (tOp r ta tb) := by
  intro pins s σ H Q I h
  exact wpAny_Compare1 (binT ha hb I h fun v u s2 x y H2 I2 rx ry q => ho pins s2 σ H2 x y v u Q I2 rx ry q) hm
/-- a reading of a value as a test -/
def tTest (t : TE) : TT := fun σ H Q => t σ H fun x H' => ∃ k, x = .bl k ∧ Q k H'
theorem pt_cmpR {op : CmpOp} {r : R2} (ho : OpR X (compareOp op) r) (ha : PE X a ta) (hb : PE X b tb) (hm : behindInMarks op b = false) : PT X (.Compare a [op] [b] pos) (tTest (tOp r ta tb)) := by
  intro pins s σ H Q I h
  refine wpAny_isTrue_Compare1 (thn (ha pins s σ H _ I h) fun v s1 ⟨x, H1, I1, r1, q1⟩ => thn (hb pins s1 σ H1 _ I1 q1) fun u s2 ⟨y, H2, I2, r2, q2⟩ =>
    thn (ho pins s2 σ H2 x y v u _ I2 r1 r2 q2) fun c s3 ⟨z, H3, I3, r3, k, e, q3⟩ => ?_) hm
  subst e
  cases r3
  exact wpAny_truthy_bool ⟨H3, I3, q3⟩
/-- a op1 b op2 c -/
def tChain (r r' : R2) (ta tb tc : TE) : TE := fun σ H Q => ta σ H fun x H1 => tb σ H1 fun y H2 => r x y H2 fun z H3 => ∃ k, z = .bl k ∧
  (if k = true then tc σ H3 fun w' H4 => r' y w' H4 Q else Q (.bl false) H3)
/-! ### truth -/
/-- a value's truth by the abstract heap -/
def TruV (K : PySem.W.Frag) (x : V) (H : Hp) (k : Bool) : Prop :=
  match x with
  | .non => k = false
  | .bl b => k = b
  | .int i => k = (i != 0)
  | .str y => y.length ≤ sizeLine ∧ k = ((y.length : Int) != 0)
  | .byt y => y.size ≤ sizeLine ∧ k = ((y.size : Int) != 0)
  | .ref p => (∃ xs, SqL K H p xs ∧ k = !xs.isEmpty) ∨ (∃ xs, SqT K H p xs ∧ k = !xs.isEmpty) ∨ ∃ kvs, H p = some (.dK kvs) ∧ k = !kvs.isEmpty
  | _ => False
theorem isEmpty_kv {κ : Type} {kvs : List (κ × V)} {vs : List (κ × Value)} (r : KV kvs vs) : (!vs.isEmpty) = !kvs.isEmpty := by
  cases r <;> rfl
theorem isEmpty_of {xs : List V} {its : List Value} (r : Vals xs its) : (!its.toArray.isEmpty) = !xs.isEmpty := by
  cases r <;> simp
theorem line63 : (sizeLine : Nat) < 2 ^ 63 := by rw [sizeLine_eq]; decide
theorem tru_ok : TruR X (fun x H Q => ∃ k, TruV X.K x H k ∧ Q k H) := by
  intro pins s σ H x v Q I rx h
  obtain ⟨k, e, q⟩ := h
  have hl := line63
  have hs : sizeLine = 16777216 := sizeLine_eq
  cases x with
  | non =>
    cases rx
    have e' : k = false := e
    subst e'
    exact truthy_none ⟨H, I, q⟩
  | bl b =>
    cases rx
    have e' : k = b := e
    subst e'
    exact wpAny_truthy_bool ⟨H, I, q⟩
  | int i =>
    obtain ⟨t, rfl⟩ := rx
    have e' : k = (i != 0) := e
    subst e'
    exact PySem.P.truthy_int ⟨H, I, q⟩
  | str y =>
    obtain ⟨t, rfl⟩ := rx
    obtain ⟨hy, e'⟩ : y.length ≤ sizeLine ∧ k = ((y.length : Int) != 0) := e
    subst e'
    exact PySem.P.truthy_str (by omega) ⟨H, I.tok _, q⟩
  | byt y =>
    obtain ⟨t, rfl⟩ := rx
    obtain ⟨hy, e'⟩ : y.size ≤ sizeLine ∧ k = ((y.size : Int) != 0) := e
    subst e'
    exact PySem.W.truthy_bytes (by omega) ⟨H, I.tok _, q⟩
  | ref p =>
    cases rx
    have e' : (∃ xs, SqL X.K H p xs ∧ k = !xs.isEmpty) ∨ (∃ xs, SqT X.K H p xs ∧ k = !xs.isEmpty) ∨ ∃ kvs, H p = some (.dK kvs) ∧ k = !kvs.isEmpty := e
    rcases e' with ⟨xs, hx, e'⟩ | ⟨xs, hx, e'⟩ | ⟨kvs, hx, e'⟩
    · subst e'
      obtain ⟨its, r, pl, hz⟩ := I.list hx
      have hlen := r.length
      exact wpAny_truthy_list pl.isList (by simp only [List.size_toArray]; omega) ⟨H, I.tok _, by rw [isEmpty_of r]; exact q⟩
    · subst e'
      obtain ⟨its, r, pl, hz⟩ := I.tuple hx
      have hlen := r.length
      exact truthy_tuple pl (by simp only [List.size_toArray]; omega) ⟨H, I.tok _, by rw [isEmpty_of r]; exact q⟩
    · subst e'
      obtain ⟨hz, hS, vs, r, m⟩ : kvs.length ≤ sizeLine ∧ (p == sysModules) = false ∧ ∃ vs, KV kvs vs ∧ s.heap.DictOf (mixKind X.prog X.w) p vs := I.hok p _ hx
      have hlen : kvs.length = vs.length := Paired.length r
      exact wpAny_truthy_dict hS m (by omega) ⟨H, I.tok _, by rw [isEmpty_kv r]; exact q⟩
  | _ => exact (show False from e).elim
/-- any expression whose test is its value's truth (a name, a call, a subscript, a field ..: he by fun _ => rfl) -/
theorem pt_truth (ha : PE X a ta) (he : ∀ whole, isTrue a X.env whole = (do let v ← whole; standAt a.pos; holding [v] (truthy v))) :
    PT X a (fun σ H Q => ta σ H fun x H' => ∃ k, TruV X.K x H' k ∧ Q k H') := by
  intro pins s σ H Q I h
  exact isTrue_plain (thn (ha pins s σ H _ I h) fun v s1 ⟨x, H1, I1, r1, q1⟩ => tru_ok pins s1 σ H1 x v Q I1 r1 q1) (he _)

/-! ### strs and bytes -/
theorem op_add_str : OpR X (binaryOp .Add) (fun x y H Q => ∃ i j, x = .str i ∧ y = .str j ∧ i.length + j.length ≤ sizeLine ∧ Q (.str (i ++ j)) H) := by
  intro pins s σ H x y v u Q I rx ry h
  obtain ⟨i, j, rfl, rfl, hz, q⟩ := h
  obtain ⟨t, rfl⟩ := rx
  obtain ⟨t', rfl⟩ := ry
  exact add_str (fun t' tk => ⟨.str (i ++ j), H, I.tok _, ⟨_, rfl⟩, q⟩) hz
def PlainIxT (b : Expr) : Prop := ∀ o i, subscripted b false o i = operate [o, i] (getItem o i)
/-! ### scalar builtins, by CallR -/
theorem vals1 {x : V} {us : List Value} (r : Vals [x] us) : ∃ u, us = [u] ∧ RelV x u := by
  cases r with
  | cons r1 r2 => cases r2; exact ⟨_, rfl, r1⟩
theorem vals2 {x y : V} {us : List Value} (r : Vals [x, y] us) : ∃ u w', us = [u, w'] ∧ RelV x u ∧ RelV y w' := by
  cases r with
  | cons r1 r2 =>
    cases r2 with
    | cons r3 r4 => cases r4; exact ⟨_, _, rfl, r1, r3⟩
theorem call_min2 (hc : X.calm = true) : CallR X (.builtin "min") (fun xs H Q => ∃ i j, xs = [.int i, .int j] ∧ Q (.int (if j < i then j else i)) H) := by
  intro pins s σ H xs us Q I r h
  obtain ⟨i, j, rfl, q⟩ := h
  obtain ⟨u, w', rfl, ⟨t, rfl⟩, ⟨t', rfl⟩⟩ := vals2 r
  refine min_two_ints (I.ok.hd hc) fun h' tk k => ⟨_, H, I.kept k, ?_, q⟩
  by_cases hj : j < i
  · rw [if_pos hj, if_pos hj]; exact ⟨_, rfl⟩
  · rw [if_neg hj, if_neg hj]; exact ⟨_, rfl⟩
theorem call_int1 : CallR X (.type "int") (fun xs H Q => (∃ i, xs = [.int i] ∧ Q (.int i) H) ∨ ∃ k, xs = [.bl k] ∧ Q (.int (if k then 1 else 0)) H) := by
  intro pins s σ H xs us Q I r h
  rcases h with ⟨i, rfl, q⟩ | ⟨k, rfl, q⟩
  · obtain ⟨u, rfl, t, rfl⟩ := vals1 r
    exact call_int_int ⟨.int i, H, I, ⟨_, rfl⟩, q⟩
  · obtain ⟨u, rfl, r1⟩ := vals1 r
    cases r1
    exact call_int_bool ⟨.int (if k then 1 else 0), H, I.tok _, ⟨_, rfl⟩, q⟩
/-- len of a str, a bytes, a list, a tuple -/
def LenV (K : PySem.W.Frag) (x : V) (H : Hp) (n : Nat) : Prop :=
  match x with
  | .str y => y.length ≤ sizeLine ∧ n = y.length
  | .byt y => y.size ≤ sizeLine ∧ n = y.size
  | .ref p => (∃ xs, SqL K H p xs ∧ n = xs.length) ∨ ∃ xs, SqT K H p xs ∧ n = xs.length
  | _ => False
end
end L2

namespace L2
open PySem PySem.Spec PyProof.Rows

/-! ### an instance, its attributes a map -/
structure ObjM (h : Heap) (x dx C : Addr) (mA : Str → Option Value) : Prop where
  obj : h.get? x = some (PySem.W.instObj C dx)
  ns : h.Ns1 dx mA
  ne : dx ≠ x

theorem lookIn_ns {h : Heap} {dx : Addr} {mA : Str → Option Value} (n : h.Ns1 dx mA) : ∃ od, h.get? dx = some od ∧ ∀ name, PySem.W.lookIn name od = some (mA name) := by
  obtain ⟨o, es, ep, ho, hd, hk, _, hm⟩ := n
  refine ⟨o, ho, fun name => ?_⟩
  have e := hm name
  unfold nsFind findBy at e
  rw [← Array.find?_toList] at e
  unfold PySem.W.lookIn
  rw [hd]
  dsimp only
  split
  · rename_i y q
    rw [q] at e
    exact congrArg some e
  · rename_i q
    rw [q] at e
    have a : es.toList.any (·.refKey) = false := by
      rw [List.any_eq_false]
      intro y hy
      obtain ⟨z, t, hkey⟩ := hk y (Array.mem_toList_iff.mp hy)
      simp [DictEntry.refKey, hkey]
    have a' : ¬ es.toList.any (·.refKey) = true := by rw [a]; exact Bool.false_ne_true
    rw [if_neg a']
    exact congrArg some e

theorem ObjM.look {h : Heap} {x dx C : Addr} {mA : Str → Option Value} (I : ObjM h x dx C mA) : ∃ od, PySem.W.InstAt h x (PySem.W.instObj C dx) C (some od) ∧ ∀ name, PySem.W.lookIn name od = some (mA name) :=
  let ⟨od, ho, hl⟩ := lookIn_ns I.ns
  ⟨od, ⟨I.obj, rfl, rfl, ho⟩, hl⟩

section
variable {prog : Program} {w : World} {A : Around} {E : Value → Shared → Prop} {s : Shared} {K : PySem.W.Frag} {x dx C f : Addr} {mA : Str → Option Value} {name : Str} {v : Value}

end

/-! ### the attributes as a list of pairs -/
def putF (f : Str) (v : V) : List (Str × V) → List (Str × V)
  | [] => [(f, v)]
  | (g, x) :: r => if g = f then (g, v) :: r else (g, x) :: putF f v r
theorem RelO.some_of {v : V} {o : Option Value} (r : RelO (some v) o) : ∃ u, o = some u ∧ RelV v u := by
  cases o with
  | none => exact (show False from r).elim
  | some u => exact ⟨u, rfl, r⟩
theorem RelO.none_of {o : Option Value} (r : RelO none o) : o = none := by
  cases o with
  | none => rfl
  | some u => exact (show False from r).elim
section
variable {P : Program} {w : World} {H H' : Hp} {h h' : Heap} {a C dx : Addr} {fs fs' : List (Str × V)}
theorem ins_get (hok : HOk P w H h) (e : H a = some (.ins C dx fs)) : ∃ mA, ObjM h a dx C mA ∧ (∀ f, RelO (fs.lookup f) (mA f)) ∧ PySem.Within mA (fs.map (·.1)) ∧ fs.length ≤ 1000 ∧ H dx = some (.own a) := by
  obtain ⟨d, z, ne, ob, mA, n, r, q⟩ := (show ObjOk P w H h a (.ins C dx fs) from hok a _ e)
  exact ⟨mA, ⟨ob, n, ne⟩, r, q, z, d⟩
end

/-! ### what of the text a class must have -/
structure Cls (K : PySem.W.Frag) (C : Addr) : Prop where
  pg : PySem.W.plainGet K C Str.empty = true
  hd : PySem.W.hasDictIn K C = true
  po : PySem.W.plainOver K C = true
  sa : PySem.W.findIn K (.ref C) "__setattr__" = some (some (.builtin "object.__setattr__"))
theorem Cls.get {K : PySem.W.Frag} {C : Addr} (c : Cls K C) (f : Str) : PySem.W.plainGet K C f = true := c.pg
/-- no class of it has the name -/
def NoAttr (K : PySem.W.Frag) (C : Addr) (f : Str) : Prop := PySem.W.findIn K (.ref C) f = some none
theorem NoAttr.taker {K : PySem.W.Frag} {C : Addr} {f : Str} (n : NoAttr K C f) : PySem.W.takerIn K C f = some none := by
  unfold PySem.W.takerIn
  rw [show PySem.W.findIn K (.ref C) f = some none from n]
  rfl
/-- a constant of the class -/
structure Con (K : PySem.W.Frag) (C : Addr) (f : Str) (v : V) (u : Value) : Prop where
  at_ : PySem.W.findIn K (.ref C) f = some (some u)
  rel : RelV v u
  get : PySem.W.specialIn K u "__get__" = some none
  cp : PySem.W.copiedNames.contains f = false
/-- a method: a plain def of the class or of one above it -/
structure Meth (K : PySem.W.Frag) (C : Addr) (m : Str) (f : Addr) : Prop where
  at_ : PySem.W.findIn K (.ref C) m = some (some (.ref f))
  fn : PySem.W.isFn K (.ref f) = true
  kp : PySem.W.keepIn K (.ref f) = true

section
variable {X : Cx} {pins : List (Addr × Obj)} {σ : St} {H : Hp} {s : Shared} {a C dx : Addr} {fs : List (Str × V)} {f : Str} {v : V} {A : Around} {E : Value → Shared → Prop}

/-- a new instance, tracked, without attributes -/
theorem Inv.made (I : Inv X pins σ H s) : Inv X pins σ (upd (upd H s.heap.objs.size (.own (s.heap.objs.size + 1))) (s.heap.objs.size + 1) (.ins C s.heap.objs.size []))
    { s with heap := (s.heap.push PySem.W.emptyDict).push (PySem.W.instObj C s.heap.objs.size) } := by
  have e1 : (s.heap.push PySem.W.emptyDict).get? s.heap.objs.size = some PySem.W.emptyDict := Heap.get?_push_size s.heap rfl
  have e2 : ((s.heap.push PySem.W.emptyDict).push (PySem.W.instObj C s.heap.objs.size)).get? (s.heap.objs.size + 1) = some (PySem.W.instObj C s.heap.objs.size) := by
    have := Heap.get?_push_size (s.heap.push PySem.W.emptyDict) (o := PySem.W.instObj C s.heap.objs.size) rfl
    rwa [Heap.size_push] at this
  have e3 : (s.heap.push PySem.W.emptyDict).Ns s.heap.objs.size (fun _ => none) := ⟨PySem.W.emptyDict, #[], _, e1, rfl, (fun e he => absurd he (by simp)), fun _ => rfl⟩
  have I1 := I.laid (a := s.heap.objs.size) (o := .own (s.heap.objs.size + 1)) (h' := s.heap.push PySem.W.emptyDict) (t' := s.toks) (fun b u q => Heap.get?_push_of_some _ q) (Nat.le_refl _) ⟨_, e1⟩
  refine I1.laid (a := s.heap.objs.size + 1) (o := .ins C s.heap.objs.size []) (t' := s.toks) (fun b u q => Heap.get?_push_of_some _ q) (Nat.le_of_eq (Heap.size_push _ _)) ?_
  have ne : s.heap.objs.size ≠ s.heap.objs.size + 1 := Nat.ne_of_lt (Nat.lt_succ_self _)
  refine ⟨by rw [upd_ne ne, upd_same], Nat.zero_le _, ne, e2, fun _ => none, (Heap.Ns1.of_empty e3).at fun o q => Heap.get?_push_of_some _ q, fun _ => True.intro, fun y hy => absurd rfl hy⟩

end

/-! ### readings and rules -/
/-- e.f, an attribute of the instance -/
def tFld (K : PySem.W.Frag) (ta : TE) (f : Str) : TE := fun σ H Q => ta σ H fun x H1 => ∃ a C dx fs v, x = .ref a ∧ H1 a = some (.ins C dx fs) ∧ Cls K C ∧ NoAttr K C f ∧ fs.lookup f = some v ∧ Q v H1
/-- e.f, a constant of the class -/
def tCon (K : PySem.W.Frag) (ta : TE) (f : Str) : TE := fun σ H Q => ta σ H fun x H1 => ∃ a C dx fs v u, x = .ref a ∧ H1 a = some (.ins C dx fs) ∧ Cls K C ∧ Con K C f v u ∧ fs.lookup f = none ∧ Q v H1
/-- e.f = value -/
def sFld (K : PySem.W.Frag) (ta tv : TE) (f : Str) : TS := fun D σ H => tv σ H fun y H1 => ta σ H1 fun x H2 => ∃ a C dx fs, x = .ref a ∧ H2 a = some (.ins C dx fs) ∧ Cls K C ∧ NoAttr K C f ∧ fs.length < 1000 ∧
  D.nx σ (upd H2 a (.ins C dx (putF f y fs)))
/-- an augmented operator on two values -/
def InOp (X : Cx) (op : Operator) (rd : V → V → Hp → VK → Prop) : Prop :=
  ∀ (pins : List (Addr × Obj)) (s : Shared) (σ : St) (H : Hp) (x y : V) (u v : Value) (Q : VK), Inv X pins σ H s → RelV x u → RelV y v → rd x y H Q → wpAny (model X.prog X.w) X.A (inplaceOp op u v) (EP X pins σ Q) X.xe s
/-- e.f op= value -/
def sFldAug (K : PySem.W.Frag) (ta tv : TE) (rd : V → V → Hp → VK → Prop) (f : Str) : TS := fun D σ H => ta σ H fun x H1 => ∃ a C dx fs v, x = .ref a ∧ H1 a = some (.ins C dx fs) ∧ Cls K C ∧ NoAttr K C f ∧ fs.lookup f = some v ∧
  tv σ H1 fun y H2 => rd v y H2 fun z H3 => ∃ dx' fs', H3 a = some (.ins C dx' fs') ∧ fs'.length < 1000 ∧ D.nx σ (upd H3 a (.ins C dx' (putF f z fs')))

section
variable {X : Cx} {o e value : Expr} {f : Str} {pos pos' tpos : Pos} {ta tv : TE}
def rAdd : V → V → Hp → VK → Prop := fun x y H Q => ∃ i j, x = .int i ∧ y = .int j ∧ Q (.int (i + j)) H
def rSub : V → V → Hp → VK → Prop := fun x y H Q => ∃ i j, x = .int i ∧ y = .int j ∧ Q (.int (i - j)) H
end

/-! ### isinstance -/
section
variable {X : Cx} {pins : List (Addr × Obj)} {σ : St} {H : Hp} {s : Shared} {A : Around} {E : Value → Shared → Prop} {Q : Value → Shared → Prop} {c : Value} {b : Bool}
/-- the type of a value, as the fragment's deciders take it; for an instance its class -/
inductive TyOf (K : PySem.W.Frag) (H : Hp) : V → Value → Prop where
  | non : TyOf K H .non (.type "NoneType")
  | bl (x : Bool) : TyOf K H (.bl x) (.type "bool")
  | int (i : Int) : TyOf K H (.int i) (.type "int")
  | str (x : Str) : TyOf K H (.str x) (.type "str")
  | flt (x : UInt64) : TyOf K H (.flt x) (.type "float")
  | lst {a : Addr} {xs : List V} (e : H a = some (.lst xs)) : TyOf K H (.ref a) (.type "list")
  | frz {a : Addr} {o : Obj} {xs : List V} (e : H a = some (.frz o (.lst xs))) : TyOf K H (.ref a) (.type "list")
  | tup {a : Addr} {xs : List V} (e : H a = some (.tup xs)) : TyOf K H (.ref a) (.type "tuple")
  | dK {a : Addr} {kvs : List (Key × V)} (e : H a = some (.dK kvs)) : TyOf K H (.ref a) (.type "dict")
  | dT {a : Addr} {kvs : List (List Key × V)} (e : H a = some (.dT kvs)) : TyOf K H (.ref a) (.type "dict")
  | ins {a C dx : Addr} {fs : List (Str × V)} (e : H a = some (.ins C dx fs)) (cl : Cls K C) (ha : PySem.W.findIn K (.ref C) "__class__" = some (some (.builtin "object.__class__")))
      (hn : PySem.W.specialIn K (.builtin "object.__class__") "__get__" = some (some (.builtin "getset_descriptor.__get__"))) (htk : PySem.W.takesIn K (.builtin "object.__class__") = some true)
      (hm : PySem.W.mroIn K C (.type "object") = some true) : TyOf K H (.ref a) (.ref C)
/-- isinstance(x, c) for one class c, a built-in or an own one: kitOne's answer -/
theorem isinst_ok {x : V} {u t : Value} (I : Inv X pins σ H s) (rx : RelV x u) (ty : TyOf X.K H x t) (e : PySem.W.kitOne X.K t c = some b) (h : ∀ tk, Q (.bool b) { s with toks := tk }) :
    wpAny (model X.prog X.w) A (call (.builtin "isinstance") [u, c]) Q E s := by
  cases ty with
  | non => cases (show u = Value.none from rx); exact PySem.W.kia_one PySem.W.kitx_none I.kIn True.intro e (fun z => nomatch z) h
  | bl y => cases (show u = Value.bool y from rx); exact PySem.W.kia_one PySem.W.kitx_bool I.kIn True.intro e (fun z => nomatch z) h
  | int i => obtain ⟨t, q⟩ := (show ∃ t, u = Value.int i t from rx); cases q; exact PySem.W.kia_one PySem.W.kitx_int I.kIn True.intro e (fun z => nomatch z) h
  | str y => obtain ⟨t, q⟩ := (show ∃ t, u = Value.str y t from rx); cases q; exact PySem.W.kia_one PySem.W.kitx_str I.kIn True.intro e (fun z => nomatch z) h
  | flt y => obtain ⟨t, q⟩ := (show ∃ t, u = Value.float y t from rx); cases q; exact PySem.W.kia_one PySem.W.kitx_float I.kIn True.intro e (fun z => nomatch z) h
  | @lst a xs ea =>
    cases (show u = Value.ref a from rx)
    obtain ⟨_, _, n, _, h1⟩ := (show ObjOk X.prog X.w H s.heap a (.lst xs) from I.hok a _ ea)
    exact PySem.W.kia_one PySem.W.kitx_list I.kIn ⟨_, h1, rfl⟩ e (fun z => nomatch z) h
  | @frz a ob xs ea =>
    cases (show u = Value.ref a from rx)
    obtain ⟨_, _, _, n, _, h1⟩ := (show ObjOk X.prog X.w H s.heap a (.frz ob (.lst xs)) from I.hok a _ ea)
    exact PySem.W.kia_one PySem.W.kitx_list I.kIn ⟨_, h1, rfl⟩ e (fun z => nomatch z) h
  | @tup a xs ea =>
    cases (show u = Value.ref a from rx)
    obtain ⟨_, _, _, p⟩ := (show ObjOk X.prog X.w H s.heap a (.tup xs) from I.hok a _ ea)
    obtain ⟨o, h1, h2, _⟩ := p
    exact PySem.W.kia_one PySem.W.kitx_tuple I.kIn ⟨o, h1, h2⟩ e (fun z => nomatch z) h
  | @dK a kvs ea =>
    cases (show u = Value.ref a from rx)
    obtain ⟨_, _, vs, _, p⟩ := (show ObjOk X.prog X.w H s.heap a (.dK kvs) from I.hok a _ ea)
    obtain ⟨o, es, ep, h1, h2, _⟩ := p
    exact PySem.W.kia_one PySem.W.kitx_dict I.kIn ⟨o, h1, h2.1⟩ e (fun z => nomatch z) h
  | @dT a kvs ea =>
    cases (show u = Value.ref a from rx)
    obtain ⟨_, _, xs, _, o, es, ep, h1, h2, _⟩ := (show ObjOk X.prog X.w H s.heap a (.dT kvs) from I.hok a _ ea)
    exact PySem.W.kia_one PySem.W.kitx_dict I.kIn ⟨o, h1, h2.1⟩ e (fun z => nomatch z) h
  | @ins a C dx fs ea cl ha hn htk hm =>
    cases (show u = Value.ref a from rx)
    obtain ⟨mA, O, _⟩ := ins_get I.hok ea
    obtain ⟨od, J, _⟩ := O.look
    exact PySem.W.kia_one (PySem.W.kitx_own (cl.get _) cl.hd ha hn htk hm) I.kIn J e (fun z => nomatch z) h
end
end L2

namespace L2
open PySem PySem.Spec PyProof.Rows

/-! ### room -/
structure Room (k : Nat) (A : Around) : Prop where
  hd : A.handled = none
  dp : A.depth + 3 * k + 5 < recursionLimit
  un : A.units + 16 * k + 200 < cLine
theorem Room.mono {j k : Nat} {A : Around} (r : Room k A) (h : j ≤ k) : Room j A := ⟨r.hd, by have := r.dp; omega, by have := r.un; omega⟩
theorem Room.deeper {k : Nat} {A : Around} (r : Room (k + 1) A) (env : Env) : Room k (A.deeper env) :=
  ⟨r.hd, by have := r.dp; show A.depth + 1 + 3 * k + 5 < _; omega, by have := r.un; show A.units + 3 + 16 * k + 200 < _; omega⟩
theorem Room.in1 {k : Nat} {A : Around} (r : Room (k + 1) A) : Room k A.in1 :=
  ⟨r.hd, by have := r.dp; show A.depth + 3 * k + 5 < _; omega, by have := r.un; show A.units + 1 + 16 * k + 200 < _; omega⟩
theorem Room.depth {k : Nat} {A : Around} (r : Room k A) : A.depth < recursionLimit := by have := r.dp; omega
theorem Room.units {k : Nat} {A : Around} (r : Room k A) : A.units + 64 < cLine := by have := r.un; omega
/-! ### argument lists and displays -/
def tNil : TA := fun _ H Q => Q [] H
def tCons (ta : TE) (tr : TA) : TA := fun σ H Q => ta σ H fun x H1 => tr σ H1 fun xs H2 => Q (x :: xs) H2
section
variable {X : Cx} {e : Expr} {es : List Expr} {te : TE} {t : TA} {pos : Pos}
theorem pa_nil : PA X [] tNil := fun _ _ _ _ H Q I h => Calls.spliced_nil ⟨[], H, I, .nil, h⟩
theorem pa_cons (ha : PE X e te) (hr : PA X es t) (hs : starEach (e :: es) X.env = (false, eval e X.env) :: starEach es X.env := by rfl) : PA X (e :: es) (tCons te t) := by
  intro pos pins s σ H Q I h
  rw [hs]
  show wpAny _ _ (spliced ((false, eval e X.env) :: backTo pos (starEach es X.env))) _ _ s
  refine Calls.spliced_cons (thn (ha pins s σ H _ I h) fun u s1 ⟨x, H1, I1, r1, q1⟩ => ?_)
  exact thn (hr pos pins s1 σ H1 _ I1 q1) fun us s2 ⟨xs, H2, I2, r2, q2⟩ => ⟨x :: xs, H2, I2, .cons r1 r2, q2⟩

/-- a tuple, a list of written items -/
def tTup (t : TA) : TE := fun σ H Q => t σ H fun xs H1 => xs.length ≤ sizeLine ∧ ∀ p, H1 p = none → Q (.ref p) (upd H1 p (.tup xs))
def tLst (t : TA) : TE := fun σ H Q => t σ H fun xs H1 => xs.length ≤ sizeLine ∧ ∀ p, H1 p = none → Q (.ref p) (upd H1 p (.lst xs))
theorem pe_tup {x1} (h : PA X es t) : PE X (.Tuple es x1 pos) (tTup t) := by
  intro pins s σ H Q I hq
  refine wpAny_Tuple_spliced (thn (h pos pins s σ H _ I hq) fun us s1 ⟨xs, H1, I1, r, z, q⟩ => ⟨by rw [← r.length]; exact z, ?_⟩)
  have hf : H1 s1.heap.objs.size = none := I1.hok.fresh (Nat.le_refl _)
  refine ⟨.ref s1.heap.objs.size, upd H1 s1.heap.objs.size (.tup xs), I1.laid (t' := s1.toks) (fun b u e => Heap.get?_push_of_some _ e) (Nat.le_refl _) ?_, rfl, q _ hf⟩
  exact ⟨z, us, r, ⟨_, Heap.get?_push_size _ rfl, rfl, _, rfl⟩⟩
theorem pe_lst (h : PA X es t) : PE X (.List es pos) (tLst t) := by
  intro pins s σ H Q I hq
  refine wpAny_List_spliced (thn (h pos pins s σ H _ I hq) fun us s1 ⟨xs, H1, I1, r, z, q⟩ => ⟨by rw [← r.length]; exact z, ?_⟩)
  have hf : H1 s1.heap.objs.size = none := I1.hok.fresh (Nat.le_refl _)
  refine ⟨.ref s1.heap.objs.size, upd H1 s1.heap.objs.size (.lst xs), I1.laid (t' := s1.toks) (fun b u e => Heap.get?_push_of_some _ e) (Nat.le_refl _) ?_, rfl, q _ hf⟩
  exact ⟨z, us, 0, r, Heap.get?_push_size _ rfl⟩
end

/-! ### what a def promises -/
/-- a def's promise: the bound arguments in the parameters' order, the heap, the wanted end, the wanted exception -/
abbrev Sp := List V → Hp → VK → XK → Prop
/-- how an exception lies behind a call (file 08 gives it): the callers' frames, abstract heap and state ahead of the call, the wish, the exception, the state -/
abbrev CXT := List Env → Hp → Shared → XK → Value → Shared → Prop

/-- the state at a call -/
structure Env0 (P : Program) (w : World) (K : PySem.W.Frag) (mg : Str → Option Value) (base : Heap) (A : Around) (outer : List Env) (s : Shared) (H : Hp) : Prop where
  frames : A.frames = some outer
  mod : Mod K mg base
  bs : ∀ b o, base.get? b = some o → s.heap.get? b = some o ∧ H b = none
  bsz : base.objs.size ≤ s.heap.objs.size
  funs : s.heap.FunFrames base outer
  frf : ∀ b ∈ frs outer, H b = none
  hok : HOk P w H s.heap
  bare : AllBare s.gens
/-- a call's end -/
def CE (outer : List Env) (P : Program) (w : World) (H : Hp) (s : Shared) (Q : VK) (u : Value) (s' : Shared) : Prop :=
  ∃ v H', s'.os = s.os ∧ AllBare s'.gens ∧ Un (frs outer) [] H H' s.heap s'.heap ∧ HOk P w H' s'.heap ∧ RelV v u ∧ Q v H'
def CR (CX : CXT) (outer : List Env) (P : Program) (w : World) (H : Hp) (s : Shared) (Q : VK) (E : XK) (r : Result) (s' : Shared) : Prop :=
  match r with
  | .ok (.ret u) => CE outer P w H s Q u s'
  | .ok _ => False
  | .error e => CX outer H s E e s'
structure FnOk (P : Program) (w : World) (K : PySem.W.Frag) (mg : Str → Option Value) (base : Heap) (CX : CXT) (k : Nat) (f : Addr) (fd : FuncData) (ps : List Str) (sp : Sp) : Prop where
  len : ∀ vs H Q E, sp vs H Q E → vs.length = ps.length
  run : ∀ (A : Around) (outer : List Env) (s : Shared) (H : Hp) (args : Args) (us : List Value) (vs : List V) (Q : VK) (E : XK), Room k A → Env0 P w K mg base A outer s H → BindsTo s fd args (ps.zip us) → Vals vs us → sp vs H Q E →
    codeAny (model P w) A (.call (.ref f) args) (CR CX outer P w H s Q E) s
theorem FnOk.mono {P : Program} {w : World} {K : PySem.W.Frag} {mg : Str → Option Value} {base : Heap} {CX : CXT} {j k : Nat} {f : Addr} {fd : FuncData} {ps : List Str} {sp : Sp} (F : FnOk P w K mg base CX j f fd ps sp) (h : j ≤ k) :
    FnOk P w K mg base CX k f fd ps sp := ⟨F.len, fun A outer s H args us vs Q E hr => F.run A outer s H args us vs Q E (hr.mono h)⟩
/-- a weaker promise -/
theorem FnOk.imp {P : Program} {w : World} {K : PySem.W.Frag} {mg : Str → Option Value} {base : Heap} {CX : CXT} {k : Nat} {f : Addr} {fd : FuncData} {ps : List Str} {sp sp' : Sp} (F : FnOk P w K mg base CX k f fd ps sp)
    (h : ∀ vs H Q E, sp' vs H Q E → sp vs H Q E) : FnOk P w K mg base CX k f fd ps sp' :=
  ⟨fun vs H Q E q => F.len vs H Q E (h _ _ _ _ q), fun A outer s H args us vs Q E hr he hb hv hs => F.run A outer s H args us vs Q E hr he hb hv (h _ _ _ _ hs)⟩

theorem Env0.in1 {P : Program} {w : World} {K : PySem.W.Frag} {mg : Str → Option Value} {base : Heap} {A : Around} {outer : List Env} {s : Shared} {H : Hp} (e : Env0 P w K mg base A outer s H) :
    Env0 P w K mg base A.in1 outer s H := ⟨e.frames, e.mod, e.bs, e.bsz, e.funs, e.frf, e.hok, e.bare⟩

section
variable {X : Cx} {pins : List (Addr × Obj)} {σ : St} {H : Hp} {s s' : Shared}
/-- from a body: what a callee wants -/
theorem Inv.env0 (I : Inv X pins σ H s) : Env0 X.prog X.w X.K X.mg X.base X.A X.stack s H :=
  ⟨I.ok.frames, I.ok.mod, I.bs, Nat.le_trans I.ok.bsz I.sz, I.stack, I.stkFree, I.hok, I.bare⟩
/-- behind a call -/
theorem Inv.after {Q : VK} {u : Value} (I : Inv X pins σ H s) (h : CE X.stack X.prog X.w H s Q u s') : EP X pins σ Q u s' := by
  obtain ⟨v, H', os, bare, un, hok, r, q⟩ := h
  obtain ⟨hh, g, d, t, os'⟩ := s'
  obtain rfl : os' = s.os := os
  exact ⟨v, H', I.call (h' := hh) (g' := g) (d' := d) (t' := t) (ch := []) un hok bare (fun b z => absurd z (by simp)), r, q⟩
end

/-! ### calls -/
/-- f(..): the written arguments, then the defaults dvs; E: what is wanted of an exception -/
def tCall (sp : Sp) (dvs : List V) (E : XK) (t : TA) : TE := fun σ H Q => t σ H fun vs H1 => sp (vs ++ dvs) H1 Q E
/-- o.m(..) of an instance of the class at C -/
def tMeth (C : Addr) (m : Str) (sp : Sp) (dvs : List V) (E : XK) (ta : TE) (t : TA) : TE := fun σ H Q => ta σ H fun x H1 => ∃ a dx fs, x = .ref a ∧ H1 a = some (.ins C dx fs) ∧ fs.lookup m = none ∧
  t σ H1 fun vs H2 => sp (x :: (vs ++ dvs)) H2 Q E
/-- C(..): a new instance and its dict, then __init__ -/
def tMake (C : Addr) (sp : Sp) (dvs : List V) (E : XK) (t : TA) : TE := fun σ H Q => t σ H fun vs H1 => ∀ x dx, H1 x = none → H1 dx = none → dx ≠ x →
  sp (.ref x :: (vs ++ dvs)) (upd (upd H1 dx (.own x)) x (.ins C dx [])) (fun v H2 => v = .non ∧ Q (.ref x) H2) E

/-- how the parameters are bound: us the positional arguments, kw the keywords' values by name, ds the defaults that fill up -/
def Binds (K : PySem.W.Frag) (fd : FuncData) (ps : List Str) (ds : List Value) : Prop :=
  ∀ (s : Shared) (us : List Value), K.In s.heap → (us ++ ds).length = ps.length → BindsTo s fd ⟨us, []⟩ (ps.zip (us ++ ds))
/-- every parameter is given -/
theorem Binds.all {K : PySem.W.Frag} {fd : FuncData} {ps : List Str} (h : ∀ us : List Value, us.length = ps.length → bindArgs fd ⟨us, []⟩ = pure (ps.zip us)) : Binds K fd ps [] := fun s us _ hl => by
  rw [List.append_nil] at hl ⊢
  exact .of_eq (h us hl)

/-- an exception of a callee reaches what this body wants of exceptions -/
def Passes (CX : CXT) (X : Cx) (E : XK) : Prop := ∀ (pins : List (Addr × Obj)) (σ : St) (H : Hp) (s : Shared) (e : Value) (s' : Shared), Inv X pins σ H s → CX X.stack H s E e s' → X.xe e s'

section
variable {X : Cx} {CX : CXT} {k : Nat} {f C : Addr} {fd : FuncData} {ps : List Str} {sp : Sp} {dvs : List V} {ds : List Value} {E : XK} {x m : Str} {p pos apos : Pos} {e o : Expr} {es : List Expr} {ta : TE} {t : TA}

/-- the callee runs -/
theorem run_fn {pins : List (Addr × Obj)} {σ : St} {H : Hp} {s : Shared} {Q : VK} {us : List Value} {vs : List V} (F : FnOk X.prog X.w X.K X.mg X.base CX k f fd ps sp) (hr : Room k X.A) (hb : Binds X.K fd ps ds) (hd : Vals dvs ds) (hx : Passes CX X E)
    (I : Inv X pins σ H s) (r : Vals vs us) (h : sp (vs ++ dvs) H Q E) : wpAny (model X.prog X.w) X.A (call (.ref f) us) (EP X pins σ Q) X.xe s := by
  have r2 : Vals (vs ++ dvs) (us ++ ds) := r.append hd
  have hl : (us ++ ds).length = ps.length := by rw [← r2.length]; exact F.len _ _ _ _ h
  refine wpAny_call (codeAny_mono (F.run X.A X.stack s H ⟨us, []⟩ (us ++ ds) (vs ++ dvs) Q E hr I.env0 (hb s us I.kIn hl) r2 h) fun r s' hq => ?_)
  cases r with
  | error e => exact hx pins σ H s e s' I hq
  | ok fl =>
    cases fl with
    | ret u => exact I.after hq
    | next => exact False.elim hq
    | brk => exact False.elim hq
    | cont => exact False.elim hq

theorem pe_call (F : FnOk X.prog X.w X.K X.mg X.base CX k f fd ps sp) (hr : Room k X.A) (hg : Gl X x) (hm : X.mg x = some (.ref f)) (hk : PySem.W.keepIn X.K (.ref f) = true) (hb : Binds X.K fd ps ds) (hd : Vals dvs ds) (hx : Passes CX X E)
    (ha : PA X (e :: es) t) (hdb : (x == ("__debug__" : Str)) = false := by decide) (he : starEach (e :: es) X.env = (false, eval e X.env) :: starEach es X.env := by rfl) (hpl : (backTo pos (starEach es X.env)).any (·.1) = false := by rfl) :
    PE X (.Call (.Name x p) (e :: es) [] pos) (tCall sp dvs E t) := by
  intro pins s σ H Q I h
  refine wpAny_Call_Name_kw (ld_glob I hg hm ?_ hdb)
  refine PySem.W.callWith_K (h₀ := X.base) I.ok.mod.kin hk (thn (ha pos pins s σ H _ I h) fun us s1 ⟨vs, H1, I1, r, q⟩ => ⟨I1.kIn, ?_⟩) he hpl
  exact run_fn F hr hb hd hx I1 r q
/-- what a class must have to be made -/
structure Mk (K : PySem.W.Frag) (C f : Addr) : Prop where
  makes : PySem.W.makesIn K C = true
  init : PySem.W.findIn K (.ref C) "__init__" = some (some (.ref f))
  fn : PySem.W.isFn K (.ref f) = true
  kp : PySem.W.keepIn K (.ref C) = true

end

/-! ### keywords -/
/-- the values of the keywords, from the left -/
def PK (X : Cx) (kws : List Keyword) (t : TA) : Prop :=
  ∀ (pos : Pos) (pins : List (Addr × Obj)) (s : Shared) (σ : St) (H : Hp) (Q : List V → Hp → Prop), Inv X pins σ H s → t σ H Q → wpAny (model X.prog X.w) X.A (evalAll ((backToKw pos (keywordEach kws X.env)).map (·.2))) (AP X pins σ Q) X.xe s
section
variable {X : Cx} {CX : CXT} {k : Nat} {f C : Addr} {fd : FuncData} {ps ks : List Str} {sp : Sp} {E : XK} {x m : Str} {p pos apos kpos : Pos} {e o : Expr} {es : List Expr} {kws : List Keyword} {te ta : TE} {t tk : TA} {nm : Option Str}
/-- how a call with keywords binds: g puts the positional values us and the keywords' values ws (names ks) in the parameters' order, defaults among them -/
structure KBinds (K : PySem.W.Frag) (fd : FuncData) (ps ks : List Str) (g : List Value → List Value → List Value) (gV : List V → List V → List V) : Prop where
  to : ∀ (s : Shared) (us ws : List Value), K.In s.heap → (g us ws).length = ps.length → BindsTo s fd ⟨us, ks.zip ws⟩ (ps.zip (g us ws))
  rel : ∀ {vs : List V} {us : List Value} {zs : List V} {ws : List Value}, Vals vs us → Vals zs ws → Vals (gV vs zs) (g us ws)
def tCallK (sp : Sp) (gV : List V → List V → List V) (E : XK) (t tk : TA) : TE := fun σ H Q => t σ H fun vs H1 => tk σ H1 fun zs H2 => sp (gV vs zs) H2 Q E
variable {g : List Value → List Value → List Value} {gV : List V → List V → List V}
end

/-! ### a def's body keeps its promise -/
/-- names: the parameters first -/
structure FnScope (N P : List Str) (sc : Scope) : Prop where
  kind : sc.kind = .function
  co : sc.isCoroutine = false
  gen : sc.isGenerator = false
  nd : N.Nodup
  pre : N.take P.length = P
  par : ∀ x ∈ P, sc.names.lookup x = some .local ∨ sc.names.lookup x = some .cell
  nofree : ∀ y ∈ sc.names, y.2 ≠ .free

theorem bindL_out {kindOf : Str → Option NameKind} {x : Str} : ∀ {binds : List (Str × Value)} {m : Str → Option Value}, (∀ v, (x, v) ∉ binds) → bindL kindOf binds m x = m x
  | [], _, _ => rfl
  | (n, v) :: r, m, h => by
    unfold bindL
    rw [bindL_out fun w hw => h w (List.mem_cons_of_mem _ hw)]
    split
    · have : x ≠ n := by rintro rfl; exact h v List.mem_cons_self
      simp [this]
    · rfl
theorem bindC_out {kindOf : Str → Option NameKind} {x : Str} : ∀ {binds : List (Str × Value)} {m : Str → Option Value}, (∀ v, (x, v) ∉ binds) → bindC kindOf binds m x = m x
  | [], _, _ => rfl
  | (n, v) :: r, m, h => by
    unfold bindC
    rw [bindC_out fun w hw => h w (List.mem_cons_of_mem _ hw)]
    split
    · rfl
    · have : x ≠ n := by rintro rfl; exact h v List.mem_cons_self
      simp [this]
theorem bindL_get {kindOf : Str → Option NameKind} {x : Str} {v : Value} : ∀ {P : List Str} {vs : List Value} {i : Nat} {m : Str → Option Value}, P.Nodup → P[i]? = some x → vs[i]? = some v → kindOf x = some .local →
    bindL kindOf (P.zip vs) m x = some v
  | [], _, _, _, _, h, _, _ => by simp at h
  | _ :: _, [], _, _, _, _, h, _ => by simp at h
  | p :: P, w :: vs, 0, m, nd, h1, h2, hk => by
    simp at h1 h2; subst h1; subst h2
    show bindL kindOf ((p, w) :: P.zip vs) m p = _
    unfold bindL
    rw [bindL_out fun v hv => (List.nodup_cons.mp nd).1 (List.of_mem_zip hv).1, if_pos hk]
    simp
  | p :: P, w :: vs, i + 1, m, nd, h1, h2, hk => by
    show bindL kindOf ((p, w) :: P.zip vs) m x = _
    unfold bindL
    exact bindL_get (i := i) (List.nodup_cons.mp nd).2 (by simpa using h1) (by simpa using h2) hk
theorem bindC_get {kindOf : Str → Option NameKind} {x : Str} {v : Value} : ∀ {P : List Str} {vs : List Value} {i : Nat} {m : Str → Option Value}, P.Nodup → P[i]? = some x → vs[i]? = some v → kindOf x ≠ some .local →
    bindC kindOf (P.zip vs) m x = some v
  | [], _, _, _, _, h, _, _ => by simp at h
  | _ :: _, [], _, _, _, _, h, _ => by simp at h
  | p :: P, w :: vs, 0, m, nd, h1, h2, hk => by
    simp at h1 h2; subst h1; subst h2
    show bindC kindOf ((p, w) :: P.zip vs) m p = _
    unfold bindC
    rw [bindC_out fun v hv => (List.nodup_cons.mp nd).1 (List.of_mem_zip hv).1, if_neg hk]
    simp
  | p :: P, w :: vs, i + 1, m, nd, h1, h2, hk => by
    show bindC kindOf ((p, w) :: P.zip vs) m x = _
    unfold bindC
    exact bindC_get (i := i) (List.nodup_cons.mp nd).2 (by simpa using h1) (by simpa using h2) hk

/-- the names' values at the entry -/
def start (N : List Str) (vs : List V) : St := vs.map some ++ List.replicate (N.length - vs.length) none

/-- the context of a def's body, at its entry; an exception leaves the frame, then lies as CX says -/
def cxOf (CX : CXT) (P : Program) (w : World) (K : PySem.W.Frag) (mg : Str → Option Value) (base : Heap) (N : List Str) (qual : Str) (scope : Scope) (f : Addr) (cd : Value) (A : Around) (outer : List Env) (s : Shared) (H : Hp) (E : XK) : Cx where
  prog := P
  w := w
  K := K
  mg := mg
  base := base
  A := A.deeper (envOfC qual scope s.heap.objs.size f cd)
  N := N
  s₀ := s
  H₀ := H
  env := envOfC qual scope s.heap.objs.size f cd
  outer := outer
  stack := envOfC qual scope s.heap.objs.size f cd :: outer
  ex := []
  calm := true
  fn := fun _ => true
  pn := []
  xe := fun e s' => wpAny (model P w) (A.deeper (envOfC qual scope s.heap.objs.size f cd)) (leaving (envOfC qual scope s.heap.objs.size f cd) e) (fun _ s'' => CX outer H s E e s'') (fun e' s'' => CX outer H s E e' s'') s'

theorem cell_has {sc : Scope} {n : Nat} {x : Str} (h : sc.names.lookup x = some .cell) : ∃ c, (cellsFrom n sc.names []).lookup x = some c := by
  have q := PySem.W.cellsFrom_some sc.names n [] (.inl h)
  exact Option.isSome_iff_exists.mp q

theorem inv_start {CX : CXT} {P : Program} {w : World} {K : PySem.W.Frag} {mg : Str → Option Value} {base : Heap} {N ps : List Str} {qual : Str} {scope : Scope} {f : Addr} {cd : Value} {A : Around} {outer : List Env} {s s1 : Shared} {H : Hp} {E : XK} {us : List Value} {vs : List V}
    (S : FnScope N ps scope) (hd : A.handled = none) (e0 : Env0 P w K mg base A outer s H) (hl : vs.length = ps.length) (r : Vals vs us)
    (x : InCallC s s.heap.objs.size (bindL (envOfC qual scope s.heap.objs.size f cd).kindOf (ps.zip us) fun _ => none) (cellsFrom (s.heap.objs.size + 1) scope.names []) (bindC (envOfC qual scope s.heap.objs.size f cd).kindOf (ps.zip us) fun _ => none) s1) :
    Inv (cxOf CX P w K mg base N qual scope f cd A outer s H E) [] (start N vs) H s1 := by
  have hpl : ps.length ≤ N.length := by have := congrArg List.length S.pre; rw [List.length_take] at this; omega
  obtain ⟨h1, tk, rfl, hk⟩ := x.done
  have noA : ∀ b : Addr, b ∉ (cxOf CX P w K mg base N qual scope f cd A outer s H E).ex := fun b z => absurd (show b ∈ ([] : List Addr) from z) (by simp)
  refine ⟨⟨e0.mod, S.kind, rfl, rfl, Nat.le_refl _, fun y z c h1 h2 => ?_, fun y hy => ?_, fun y c _ h => ?_, fun _ => hd, Around.frames_deeper e0.frames, .inr ⟨rfl, rfl⟩, fun b z => absurd z (noA b), e0.bs, e0.bsz, fun b _ _ => noA b, fun b z => absurd z (noA b), e0.funs, e0.frf⟩,
    rfl, e0.bare, Un.kept hk, ⟨_, x.toInCall.ns, fun i y v h1 h2 h3 => ?_⟩, fun y c h => ⟨_, x.cell y c h⟩, e0.hok.fresh (Nat.le_refl _), fun y c h => ?_, fun p hp => absurd (show p ∈ ([] : List (Addr × Obj)) from hp) (by simp), e0.hok.kept hk, ?_⟩
  · exact name_of_addr x.apart (PySem.mem_of_lookup h1) (PySem.mem_of_lookup h2)
  · have hy : scope.names.lookup y = some .cell ∨ scope.names.lookup y = some .free := hy
    rcases hy with hy | hy
    · exact cell_has hy
    · exact absurd rfl (S.nofree _ (PySem.mem_of_lookup hy))
  · exact Nat.le_of_lt (x.above y c (PySem.mem_of_lookup h))
  · have hi : i < vs.length := by
      unfold start at h2
      by_cases hi : i < vs.length
      · exact hi
      · rw [List.getElem?_append_right (by simpa using hi)] at h2
        rw [List.getElem?_replicate] at h2
        split at h2 <;> cases h2
    have ha : vs[i]? = some v := by
      unfold start at h2
      rw [List.getElem?_append_left (by simpa using hi), List.getElem?_map] at h2
      cases e : vs[i]? with
      | none => rw [e] at h2; cases h2
      | some a => rw [e] at h2; cases h2; rfl
    obtain ⟨u, hu, rv⟩ := r.get ha
    have hp : ps[i]? = some y := by
      rw [← S.pre, List.getElem?_take_of_lt (by omega)]; exact h1
    have ndP : ps.Nodup := by rw [← S.pre]; exact S.nd.sublist (List.take_sublist _ _)
    refine ⟨u, rv, ?_⟩
    rcases S.par y (List.mem_of_getElem? hp) with k | k
    · exact .inl ⟨k, bindL_get ndP hp hu k⟩
    · obtain ⟨c, e⟩ := cell_has (n := s.heap.objs.size + 1) k
      refine .inr ⟨.inl k, c, e, ?_⟩
      have q := x.cell y c e
      rw [bindC_get ndP hp hu (by show scope.names.lookup y ≠ _; rw [k]; decide)] at q
      exact q
  · exact e0.hok.fresh (Nat.le_of_lt (x.above y c (PySem.mem_of_lookup h)))
  · unfold start
    show _ = N.length
    rw [List.length_append, List.length_map, List.length_replicate]
    omega

/-- THE RULE: a def (or a method) of the text, by its body. The body's reading t is chosen for each entry; it is run at the parameters' values -/
theorem fn_of {CX : CXT} {P : Program} {w : World} {K : PySem.W.Frag} {mg : Str → Option Value} {base : Heap} {k : Nat} {f : Addr} {name qual : Str} {params : Arguments} {body : List Stmt} {scope : Scope} {dV kV doc pm cdv ct oc : Value} {an od : Option Addr}
    {osl : Array (Option Value)} {N ps : List Str} {sp : Sp} (lk : K.lookup f = some ⟨oc, od, .func (PySem.W.fnOf name qual params body scope dV kV doc pm an cdv ct), osl⟩) (hcd : PySem.W.codeIn K cdv qual = true) (S : FnScope N ps scope)
    (len : ∀ vs H Q E, sp vs H Q E → vs.length = ps.length)
    (hbody : ∀ (A : Around) (outer : List Env) (s : Shared) (H : Hp) (vs : List V) (Q : VK) (E : XK), Room k (A.deeper (envOfC qual scope s.heap.objs.size f cdv)) → sp vs H Q E →
      ∃ t, PSs (cxOf CX P w K mg base N qual scope f cdv A outer s H E) body t ∧ t { nx := fun _ H' => Q .non H', rt := Q } (start N vs) H) :
    FnOk P w K mg base CX (k + 1) f (PySem.W.fnOf name qual params body scope dV kV doc pm an cdv ct) ps sp := by
  refine ⟨len, fun A outer s H args us vs Q E hr e0 hb r hsp => ?_⟩
  have hl := len _ _ _ _ hsp
  have KX : K.In s.heap := e0.mod.kin.keeps fun b o e => (e0.bs b o e).1
  have lim : s.heap.NoLimit := e0.mod.nolimit.keeps fun b o e => (e0.bs b o e).1
  have hkind : ∀ y ∈ ps.zip us, scope.names.lookup y.1 = some .local ∨ (scope.names.lookup y.1 = some .cell ∧ ((cellsFrom (s.heap.objs.size + 1) scope.names []).lookup y.1).isSome = true) := fun ⟨n, v⟩ hy => by
    rcases S.par n (List.of_mem_zip hy).1 with q | q
    · exact .inl q
    · exact .inr ⟨q, PySem.W.cellsFrom_some _ _ _ (.inl q)⟩
  refine codeAny_call_function hr.depth (KX _ _ lk) rfl S.co S.gen rfl (PySem.W.codeRec_of KX hcd) (hb _ _ _ _ ?_)
  refine wpAny_newFunctionEnv_cells S.kind hkind fun env he s1 x => ?_
  subst he
  refine ⟨lim.keeps x.toInCall.keep, codeAny_func ?_⟩
  obtain ⟨t, ht, hq⟩ := hbody A outer s H vs Q E (hr.deeper _) hsp
  have I : Inv (cxOf CX P w K mg base N qual scope f cdv A outer s H E) [] (start N vs) H s1 := inv_start S hr.hd e0 hl r x
  refine wpAny_mono (ht [] s1 (start N vs) H _ I hq) (fun fl s' hs => ?_) fun e s' hs => hs
  have fin : ∀ {σ' : St} {H' : Hp} {v : V} {u : Value}, Inv (cxOf CX P w K mg base N qual scope f cdv A outer s H E) [] σ' H' s' → RelV v u → Q v H' → CE outer P w H s Q u s' :=
    fun {σ' H' v u} J rv q => ⟨v, H', J.os, J.bare, J.base, J.hok, rv, q⟩
  cases fl with
  | ret u =>
    obtain ⟨v, σ', H', J, rv, q⟩ := hs
    exact fin J rv q
  | next =>
    obtain ⟨σ', H', J, q⟩ := hs
    exact fin (v := V.non) (u := Value.none) J rfl q
  | brk =>
    obtain ⟨_, _, _, q⟩ := hs
    exact False.elim q
  | cont =>
    obtain ⟨_, _, _, q⟩ := hs
    exact False.elim q
end L2

namespace L2
open PySem PySem.Spec PyProof.Rows
section
variable {X : Cx} {x : Str} {p pos : Pos} {e : Expr} {es : List Expr} {t : TA} {id T : String} {r : List V → Hp → VK → Prop}

def tCB (r : List V → Hp → VK → Prop) (t : TA) : TE := fun σ H Q => t σ H fun vs H1 => r vs H1 Q
/-- f(e, ..), f a built-in function -/
theorem pe_callB (hc : CallR X (.builtin id) r) (hg : Gl X x) (hm : X.mg x = none) (hv : bootBuiltins x = some (.builtin id)) (ha : PA X (e :: es) t) (hn : x ≠ "__name__" := by decide) (hdb : (x == ("__debug__" : Str)) = false := by decide)
    (he : starEach (e :: es) X.env = (false, eval e X.env) :: starEach es X.env := by rfl) (hpl : (backTo pos (starEach es X.env)).any (·.1) = false := by rfl) : PE X (.Call (.Name x p) (e :: es) [] pos) (tCB r t) := by
  intro pins s σ H Q I h
  refine wpAny_Call_Name_kw (ld_blt I hg hm hv ?_ hn hdb)
  exact PyProof.Rows.callWith_builtin1 (thn (ha pos pins s σ H _ I h) fun us s1 ⟨vs, H1, I1, r1, q1⟩ => hc pins s1 σ H1 vs us Q I1 r1 q1) he hpl
/-- T(e, ..), T a built-in type -/
theorem pe_callTy (hc : CallR X (.type T) r) (hg : Gl X x) (hm : X.mg x = none) (hv : bootBuiltins x = some (.type T)) (ha : PA X (e :: es) t) (hn : x ≠ "__name__" := by decide) (hdb : (x == ("__debug__" : Str)) = false := by decide)
    (he : starEach (e :: es) X.env = (false, eval e X.env) :: starEach es X.env := by rfl) (hpl : (backTo pos (starEach es X.env)).any (·.1) = false := by rfl) : PE X (.Call (.Name x p) (e :: es) [] pos) (tCB r t) := by
  intro pins s σ H Q I h
  refine wpAny_Call_Name_kw (ld_blt I hg hm hv ?_ hn hdb)
  exact PyProof.Rows.callWith_type1 (thn (ha pos pins s σ H _ I h) fun us s1 ⟨vs, H1, I1, r1, q1⟩ => hc pins s1 σ H1 vs us Q I1 r1 q1) he hpl
end
end L2

namespace HT
open PySem PyProof.Rows

/-- t < u of tuples of ints -/
def lexLt : List Int → List Int → Bool
  | [], [] => false
  | [], _ :: _ => true
  | _ :: _, [] => false
  | x :: xs, y :: ys => if x = y then lexLt xs ys else decide (x < y)
section
open PySem.SeqAt
open PySem.AutoSeq1 (wpAny_loadPart')
open PySem.MeetsSeq PySem.MeetsSeq2 PySem.MeetsSeq3

end

section
variable {prog : Program} {w : World} {A : Around} {E : Value → Shared → Prop} {s : Shared}

/-! ### t[a:b], not the whole -/
/-- a slice's bound as a place among n (d where it is left out) -/
def sIx (n d : Nat) : Option Int → Nat
  | none => d
  | some v => if v < 0 then (v + (n : Int)).toNat else min v.toNat n
theorem sIx_none (n d : Nat) : sIx n d none = d := rfl
theorem sIx_nat (n d k : Nat) : sIx n d (some (k : Int)) = min k n := by
  show (if (k : Int) < 0 then ((k : Int) + (n : Int)).toNat else min (k : Int).toNat n) = min k n
  rw [if_neg (by omega), Int.toNat_natCast]
theorem sIx_le (n d : Nat) (hd : d ≤ n) (o : Option Int) : sIx n d o ≤ n := by
  cases o with
  | none => exact hd
  | some v =>
    show (if v < 0 then (v + (n : Int)).toNat else min v.toNat n) ≤ n
    by_cases hv : v < 0
    · rw [if_pos hv]; omega
    · rw [if_neg hv]; exact Nat.min_le_right _ _
end
end HT

namespace L2
open PySem PySem.Spec PyProof.Rows

/-! ### the parts of a slice -/
abbrev TO := St → Hp → (Option Int → Hp → Prop) → Prop
/-- a slice's part (left out, or an int) -/
def PO (X : Cx) (e : Option Expr) (t : TO) : Prop :=
  ∀ (pins : List (Addr × Obj)) (s : Shared) (σ : St) (H : Hp) (Q : Option Int → Hp → Prop), Inv X pins σ H s → t σ H Q →
    wpAny (model X.prog X.w) X.A (evalPart e X.env) (fun u s' => ∃ o H', Inv X pins σ H' s' ∧ IsPart u o ∧ Q o H') X.xe s
def tNoPart : TO := fun _ H Q => Q none H
def tPart (t : TE) : TO := fun σ H Q => t σ H fun x H1 => ∃ i, x = .int i ∧ Q (some i) H1

theorem intsAre_of {ns : List Int} : ∀ {us : List Value}, Vals (ns.map V.int) us → IntsAre us ns := by
  induction ns with
  | nil => intro us r; rw [List.map_nil] at r; cases r; exact .nil
  | cons n ns ih =>
    intro us r
    rw [List.map_cons] at r
    cases r with
    | cons r1 r2 =>
      obtain ⟨t, e⟩ := r1
      subst e
      exact .cons n t (ih r2)

section
variable {X : Cx} {e : Expr} {te : TE} {lo hi : Option Expr} {tl th : TO} {pos p2 : Pos}

theorem po_none : PO X none tNoPart := by
  intro pins s σ H Q I h
  rw [evalPart_none]
  exact wpAny_pure ⟨none, H, I, .none, h⟩
theorem po_some (h : PE X e te) : PO X (some e) (tPart te) := by
  intro pins s σ H Q I hw
  rw [evalPart_some]
  refine thn (h pins s σ H _ I hw) fun u s1 ⟨x, H1, I1, r1, q1⟩ => ?_
  obtain ⟨i, rfl, q⟩ := q1
  obtain ⟨t, rfl⟩ := r1
  exact ⟨some i, H1, I1, .int i t, q⟩

/-- what a slice of a value is, by values: the slice object stands at sl -/
def SlR (X : Cx) (r : V → Option Int → Option Int → Hp → VK → Prop) : Prop :=
  ∀ (pins : List (Addr × Obj)) (s : Shared) (σ : St) (H : Hp) (x : V) (v vl vu : Value) (lo hi : Option Int) (sl : Addr) (Q : VK), Inv X pins σ H s → RelV x v → s.heap.IsSliceOf sl vl vu .none → IsPart vl lo → IsPart vu hi → r x lo hi H Q →
    ∃ T id, typeLookup (.type T) "__getitem__" = pure (some (.builtin id)) ∧ s.TypeIs v T ∧ wpAny (model X.prog X.w) X.A (getItem v (.ref sl)) (EP X pins σ Q) X.xe s
theorem SlR.or {r r' : V → Option Int → Option Int → Hp → VK → Prop} (h : SlR X r) (h' : SlR X r') : SlR X (fun x lo hi H Q => r x lo hi H Q ∨ r' x lo hi H Q) := by
  intro pins s σ H x v vl vu lo hi sl Q I rx hs pl pu q
  rcases q with q | q
  · exact h pins s σ H x v vl vu lo hi sl Q I rx hs pl pu q
  · exact h' pins s σ H x v vl vu lo hi sl Q I rx hs pl pu q
def tSl (r : V → Option Int → Option Int → Hp → VK → Prop) (te : TE) (tl th : TO) : TE := fun σ H Q => te σ H fun x H1 => tl σ H1 fun l H2 => th σ H2 fun u H3 => r x l u H3 Q
/-- a[lo:hi], any a -/
theorem pe_slice {r : V → Option Int → Option Int → Hp → VK → Prop} (hr : SlR X r) (he : PE X e te) (hl : PO X lo tl) (hu : PO X hi th) : PE X (.Subscript e (.Slice lo hi none p2) pos) (tSl r te tl th) := by
  intro pins s σ H Q I h
  refine Subscript_ (thn (he pins s σ H _ I h) fun v s1 ⟨x, H1, I1, r1, q1⟩ => ?_)
  refine wpAny_Slice (thn (hl pins s1 σ H1 _ I1 q1) fun vl s2 ⟨l, H2, I2, pl, q2⟩ => thn (hu pins s2 σ H2 _ I2 q2) fun vu s3 ⟨u, H3, I3, pu, q3⟩ => ?_)
  rw [evalPart_none]
  refine wpAny_pure ?_
  have I4 : Inv X pins σ H3 { s3 with heap := s3.heap.push { cls := .type "slice", data := .fields #[vl, vu, .none] } } := I3.kept (t' := s3.toks) fun b ob q => Heap.get?_push_of_some _ q
  obtain ⟨T, id, hT, ht, hg⟩ := hr pins { s3 with heap := s3.heap.push { cls := .type "slice", data := .fields #[vl, vu, .none] } } σ H3 x v vl vu l u s3.heap.objs.size Q I4 r1 (Heap.IsSliceOf.new ..) pl pu q3
  show wpAny (model X.prog X.w) X.A (subscriptTail e (.Slice lo hi none p2) v (.ref s3.heap.objs.size)) (EP X pins σ Q) X.xe { s3 with heap := s3.heap.push { cls := .type "slice", data := .fields #[vl, vu, .none] } }
  exact tail_any (ops := [.ref s3.heap.objs.size, v]) ht hT hg (by with_unfolding_all rfl)

/-- the items of xs[lo:hi] -/
def cutV (xs : List V) (lo hi : Option Int) : List V := (xs.drop (HT.sIx xs.length 0 lo)).take (HT.sIx xs.length xs.length hi - HT.sIx xs.length 0 lo)
theorem cutV_length (xs : List V) (lo hi : Option Int) : (cutV xs lo hi).length ≤ xs.length := by
  unfold cutV
  rw [List.length_take, List.length_drop]
  omega
/-- t[lo:hi], not the whole of it (the whole would be t itself) -/
def rSlT (K : PySem.W.Frag) : V → Option Int → Option Int → Hp → VK → Prop := fun x lo hi H Q => ∃ a xs, x = .ref a ∧ SqT K H a xs ∧
  ¬ (HT.sIx xs.length 0 lo = 0 ∧ HT.sIx xs.length xs.length hi = xs.length) ∧ ∀ p, H p = none → Q (.ref p) (upd H p (.tup (cutV xs lo hi)))
/-! ### t < u, t + u -/
def rLtT (K : PySem.W.Frag) : R2 := fun x y H Q => ∃ a b ns ms, x = .ref a ∧ y = .ref b ∧ SqT K H a (ns.map V.int) ∧ SqT K H b (ms.map V.int) ∧ Q (.bl (HT.lexLt ns ms)) H
/-- t + u, t not empty: u empty gives t itself -/
def rCatT (K : PySem.W.Frag) : R2 := fun x y H Q => ∃ a b xs ys, x = .ref a ∧ y = .ref b ∧ SqT K H a xs ∧ SqT K H b ys ∧ xs ≠ [] ∧ xs.length + ys.length ≤ sizeLine ∧
  (ys = [] → Q (.ref a) H) ∧ (ys ≠ [] → ∀ p, H p = none → Q (.ref p) (upd H p (.tup (xs ++ ys))))
end
end L2

namespace L2
open PySem PySem.Spec PyProof.Rows

/-! ### places -/
/-- the place that an index of any sign means -/
def ixN (n : Nat) (i : Int) : Option Nat := if 0 ≤ i then (if i < n then some i.toNat else none) else if -(n : Int) ≤ i then some (i + n).toNat else none
def atI {α : Type} (xs : List α) (i : Int) : Option α := (ixN xs.length i).bind fun j => xs[j]?
theorem ixN_seq {n : Nat} {i : Int} {j : Nat} (h : ixN n i = some j) : seqIndex? i n = some j ∧ j < n ∧ -(n : Int) ≤ i ∧ i < n := by
  unfold ixN at h
  by_cases h0 : 0 ≤ i
  · rw [if_pos h0] at h
    by_cases h1 : i < n
    · rw [if_pos h1] at h
      have e : i.toNat = j := Option.some.inj h
      exact ⟨by rw [seqIndex_of h0 h1, e], by omega, by omega, h1⟩
    · rw [if_neg h1] at h; cases h
  · rw [if_neg h0] at h
    by_cases h1 : -(n : Int) ≤ i
    · rw [if_pos h1] at h
      have e : (i + n).toNat = j := Option.some.inj h
      exact ⟨by rw [seqIndex_neg (by omega) h1, e], by omega, h1, by omega⟩
    · rw [if_neg h1] at h; cases h
theorem atI_get {α : Type} {xs : List α} {i : Int} {v : α} (h : atI xs i = some v) : ∃ j, seqIndex? i xs.length = some j ∧ xs[j]? = some v ∧ j < xs.length ∧ -(xs.length : Int) ≤ i ∧ i < xs.length := by
  unfold atI at h
  cases e : ixN xs.length i with
  | none => rw [e] at h; cases h
  | some j =>
    rw [e] at h
    obtain ⟨h1, h2, h3, h4⟩ := ixN_seq e
    exact ⟨j, h1, h, h2, h3, h4⟩
theorem atI_nat {α : Type} {xs : List α} {j : Nat} {v : α} (h : xs[j]? = some v) : atI xs (j : Int) = some v := by
  have hj : j < xs.length := (List.getElem?_eq_some_iff.mp h).1
  have e : ixN xs.length (j : Int) = some j := by
    unfold ixN
    rw [if_pos (by omega), if_pos (by omega)]; simp
  unfold atI; rw [e]; exact h
/-! ### what may be subscripted -/
/-- what stands as an index of a plain subscript -/
def PlainIx (b : Expr) : Prop := ∀ o i, subscripted b false o i = operate [o, i] (getItem o i)
/-- a subscript by values -/
def IxR (X : Cx) (r : R2) : Prop :=
  ∀ (value slice : Expr) (pins : List (Addr × Obj)) (s : Shared) (σ : St) (H : Hp) (x y : V) (v u : Value) (Q : VK), Inv X pins σ H s → RelV x v → RelV y u → r x y H Q →
    subscripted slice false v u = operate [v, u] (getItem v u) → wpAny (model X.prog X.w) X.A (subscriptTail value slice v u) (EP X pins σ Q) X.xe s
/-- a call of a builtin's method by values: the receiver, the arguments -/
def MtR (X : Cx) (id : String) (r : V → List V → Hp → VK → Prop) : Prop :=
  ∀ (pins : List (Addr × Obj)) (s : Shared) (σ : St) (H : Hp) (x : V) (xs : List V) (v : Value) (us : List Value) (Q : VK), Inv X pins σ H s → RelV x v → Vals xs us → r x xs H Q →
    wpAny (model X.prog X.w) X.A (call (.builtin id) (v :: us)) (EP X pins σ Q) X.xe s
section
variable {X : Cx} {a b : Expr} {ta tb : TE} {pos : Pos}
theorem IxR.or {r r' : R2} (h : IxR X r) (h' : IxR X r') : IxR X (fun x y H Q => r x y H Q ∨ r' x y H Q) := by
  intro value slice pins s σ H x y v u Q I rx ry q hs
  rcases q with q | q
  · exact h value slice pins s σ H x y v u Q I rx ry q hs
  · exact h' value slice pins s σ H x y v u Q I rx ry q hs
theorem MtR.or {id : String} {r r' : V → List V → Hp → VK → Prop} (h : MtR X id r) (h' : MtR X id r') : MtR X id (fun x xs H Q => r x xs H Q ∨ r' x xs H Q) := by
  intro pins s σ H x xs v us Q I rx rs q
  rcases q with q | q
  · exact h pins s σ H x xs v us Q I rx rs q
  · exact h' pins s σ H x xs v us Q I rx rs q
/-- a[b] -/
theorem pe_ix {r : R2} (hr : IxR X r) (ha : PE X a ta) (hb : PE X b tb) (hs : PlainIx b) : PE X (.Subscript a b pos) (tOp r ta tb) := by
  intro pins s σ H Q I h
  exact Subscript_ (binT ha hb I h fun v u s2 x y H2 I2 rx ry q => hr a b pins s2 σ H2 x y v u Q I2 rx ry q (hs _ _))

def rIxL (K : PySem.W.Frag) : R2 := fun x y H Q => ∃ p xs i v, x = .ref p ∧ y = .int i ∧ SqL K H p xs ∧ atI xs i = some v ∧ Q v H
def rIxT (K : PySem.W.Frag) : R2 := fun x y H Q => ∃ p xs i v, x = .ref p ∧ y = .int i ∧ SqT K H p xs ∧ atI xs i = some v ∧ Q v H
def rIxS : R2 := fun x y H Q => ∃ z i c, x = .str z ∧ y = .int i ∧ z.length ≤ sizeLine ∧ atI z.cps.toList i = some c ∧ Q (.str ⟨#[c]⟩) H
theorem ix_list : IxR X (rIxL X.K) := by
  intro value slice pins s σ H x y v u Q I rx ry h hs
  obtain ⟨p, xs, i, z, rfl, rfl, hq, he, q⟩ := h
  cases rx
  obtain ⟨t, rfl⟩ := ry
  obtain ⟨its, r, pl, hz⟩ := I.list hq
  obtain ⟨j, h1, h2, h3, h4, h5⟩ := atI_get he
  obtain ⟨w, ew, rw'⟩ := r.get h2
  have hl := r.length
  have hn := line63
  have fin : EP X pins σ Q w s := ⟨z, H, I, rw', q⟩
  by_cases h0 : 0 ≤ i
  · have hj : i.toNat = j := by
      rw [seqIndex_of h0 h5] at h1
      exact Option.some.inj h1
    exact item_listR pl.isList h0 (by omega) (by rw [hj]; simpa using ew) fin hs
  · have hj : (i + (its.toArray.size : Int)).toNat = j := by
      rw [seqIndex_neg (by omega) h4] at h1
      rw [List.size_toArray, ← hl]
      exact Option.some.inj h1
    exact subscriptTail_builtinR (x := w) pl.isList.typeIs slot_list_getitem.lookup
      (wpAny_getItem_list_neg (Q := fun r s' => r = w ∧ EP X pins σ Q r s') pl.isList (by omega) (by rw [List.size_toArray] <;> omega) (by omega) (by rw [hj]; simpa using ew) ⟨rfl, fin⟩) hs
theorem ix_tup : IxR X (rIxT X.K) := by
  intro value slice pins s σ H x y v u Q I rx ry h hs
  obtain ⟨p, xs, i, z, rfl, rfl, hq, he, q⟩ := h
  cases rx
  obtain ⟨t, rfl⟩ := ry
  obtain ⟨its, r, pl, hz⟩ := I.tuple hq
  obtain ⟨j, h1, h2, h3, h4, h5⟩ := atI_get he
  obtain ⟨w, ew, rw'⟩ := r.get h2
  have hl := r.length
  have hn := line63
  have fin : EP X pins σ Q w s := ⟨z, H, I, rw', q⟩
  exact subscriptTail_builtinR (x := w) pl.typeIs slot_tuple_getitem.lookup
    (getItem_tuple (j := j) (Q := fun r s' => r = w ∧ EP X pins σ Q r s') pl (by omega) (by omega) (by rw [List.size_toArray, ← hl]; exact h1) (by simpa using ew) ⟨rfl, fin⟩) hs
theorem ix_str : IxR X rIxS := by
  intro value slice pins s σ H x y v u Q I rx ry h hs
  obtain ⟨z, i, c, rfl, rfl, hz, he, q⟩ := h
  obtain ⟨t, rfl⟩ := rx
  obtain ⟨t', rfl⟩ := ry
  obtain ⟨j, h1, h2, h3, h4, h5⟩ := atI_get he
  have hl : z.cps.toList.length = z.length := by simp [Str.length]
  rw [hl] at h1 h4 h5
  have hn := line63
  exact tail_any (typeIs_str s z t) slot_str_getitem.lookup (getItem_str (c := c) (by
    have e1 : decide (i < -(2 ^ 63 : Int)) = false := decide_eq_false (by omega)
    have e2 : decide (i ≥ 2 ^ 63) = false := decide_eq_false (by omega)
    rw [e1, e2, Bool.or_false]) (by rw [h1]; simpa using h2) ⟨.str ⟨#[c]⟩, H, I.tok _, ⟨_, rfl⟩, q⟩) hs
/-- list, tuple or str -/
def rIx (K : PySem.W.Frag) : R2 := fun x y H Q => rIxL K x y H Q ∨ rIxT K x y H Q ∨ rIxS x y H Q
/-! ### xs[i] = v, any sign -/
/-- the list's object behind a store -/
theorem mapSeq_set (its : List Value) (n j : Nat) (u : Value) : Obj.mapSeq (·.setIfInBounds j u) { cls := .type "list", data := .seq its.toArray n } = { cls := .type "list", data := .seq (its.set j u).toArray n } := by
  simp [Obj.mapSeq]
theorem Inv.lst {pins : List (Addr × Obj)} {σ : St} {H : Hp} {s : Shared} {p : Addr} {xs : List V} (I : Inv X pins σ H s) (h : H p = some (.lst xs)) :
    ∃ (its : List Value) (n : Nat), Vals xs its ∧ s.heap.get? p = some { cls := .type "list", data := .seq its.toArray n } ∧ xs.length ≤ sizeLine := by
  obtain ⟨z, its, n, r, e⟩ := I.hok p _ h
  exact ⟨its, n, r, e, z⟩
/-- the list at p is written by an update of its object -/
theorem Inv.lstUpd {pins : List (Addr × Obj)} {σ : St} {H : Hp} {s : Shared} {p : Addr} {xs ys : List V} {its its' : List Value} {n n' : Nat} {f : Obj → Obj} (I : Inv X pins σ H s) (h : H p = some (.lst xs))
    (ho : s.heap.get? p = some { cls := .type "list", data := .seq its.toArray n }) (hf : f { cls := .type "list", data := .seq its.toArray n } = { cls := .type "list", data := .seq its'.toArray n' }) (r : Vals ys its') (hz : ys.length ≤ sizeLine) (t : Nat) :
    Inv X pins σ (upd H p (.lst ys)) { s with heap := s.heap.update p f, toks := t } := by
  have e : (s.heap.update p f).get? p = some { cls := .type "list", data := .seq its'.toArray n' } := by
    rw [Heap.get?_update_self f ho (by rw [hf] <;> rfl), hf]
  refine I.write (x := p) (e := p) (by rw [h]; trivial) (.inl rfl) (fun b u hb q => (Heap.get?_update_other _ _ (Ne.symm hb)).trans q) ⟨_, e⟩ ?_
  exact ⟨hz, its', n', r, e⟩
def rSetL : V → V → V → Hp → (Hp → Prop) → Prop := fun o i v H Q => ∃ p xs k j, o = .ref p ∧ i = .int k ∧ H p = some (.lst xs) ∧ ixN xs.length k = some j ∧ Q (upd H p (.lst (xs.set j v)))
theorem set_list : PSet X rSetL := by
  intro pins s σ H o i v ov iv u Q I ro ri rv h
  obtain ⟨p, xs, k, j, rfl, rfl, hp, hj, q⟩ := h
  cases ro
  obtain ⟨t, rfl⟩ := ri
  obtain ⟨its, n, r, ho, hz⟩ := I.lst hp
  obtain ⟨h1, h2, h3, h4⟩ := ixN_seq hj
  have hl := r.length
  have hn := line63
  have I' : Inv X pins σ (upd H p (.lst (xs.set j v))) { s with heap := s.heap.update p (Obj.mapSeq (·.setIfInBounds j u)) } :=
    I.lstUpd hp ho (mapSeq_set its n j u) (r.set rv j) (by rw [List.length_set]; exact hz) s.toks
  by_cases h0 : 0 ≤ k
  · have hk : k.toNat = j := by
      rw [seqIndex_of h0 h4] at h1
      exact Option.some.inj h1
    exact PySem.W.ki_setAt ho h0 (by omega) (by rw [List.size_toArray, ← hl]; exact h4) (by rw [hk]; exact ⟨_, I', q⟩)
  · have hk : (k + (its.toArray.size : Int)).toNat = j := by
      rw [seqIndex_neg (by omega) h3] at h1
      rw [List.size_toArray, ← hl]
      exact Option.some.inj h1
    exact PySem.W.ki_setBack ho (by omega) (by rw [List.size_toArray, ← hl]; exact h3) (by omega) (by rw [hk]; exact ⟨_, I', q⟩)

/-! ### slices -/
theorem slice_bounds (lo hi : Option Int) (n : Nat) : (sliceBounds lo hi none n).1 = ((HT.sIx n 0 lo : Nat) : Int) ∧ (sliceBounds lo hi none n).2.1 = ((HT.sIx n n hi : Nat) : Int) ∧ (sliceBounds lo hi none n).2.2 = 1 := by
  refine ⟨?_, ?_, rfl⟩
  · cases lo with
    | none => simp [sliceBounds, HT.sIx]
    | some i =>
      simp only [sliceBounds, HT.sIx, Option.getD_none, show (1 : Int) > 0 by decide, if_true]
      by_cases h : i < 0
      · simp only [h, if_true] <;> omega
      · simp only [h, if_false] <;> omega
  · cases hi with
    | none => simp [sliceBounds, HT.sIx]
    | some i =>
      simp only [sliceBounds, HT.sIx, Option.getD_none, show (1 : Int) > 0 by decide, if_true]
      by_cases h : i < 0
      · simp only [h, if_true] <;> omega
      · simp only [h, if_false] <;> omega
theorem slicePick_cut (its : List Value) (lo hi : Option Int) : slicePick its.toArray lo hi none = ((its.drop (HT.sIx its.length 0 lo)).take (HT.sIx its.length its.length hi - HT.sIx its.length 0 lo)).toArray := by
  obtain ⟨h1, h2, h3⟩ := slice_bounds lo hi its.toArray.size
  unfold slicePick
  rw [h1, h2, h3]
  simp only [sliceRange_one, pick_run, List.size_toArray] <;> rfl
/-- xs[lo:hi] of a list: a new list -/
def rSlL (K : PySem.W.Frag) : V → Option Int → Option Int → Hp → VK → Prop := fun x lo hi H Q => ∃ a xs, x = .ref a ∧ SqL K H a xs ∧ ∀ p, H p = none → Q (.ref p) (upd H p (.lst (cutV xs lo hi)))
theorem sl_list : SlR X (rSlL X.K) := by
  intro pins s σ H x v vl vu lo hi sl Q I rx hs pl pu h
  obtain ⟨a, xs, rfl, hx, q⟩ := h
  cases rx
  obtain ⟨its, r, ht, hz⟩ := I.list hx
  have hlen := r.length
  refine ⟨"list", _, slot_list_getitem.lookup, ht.isList.typeIs, ?_⟩
  refine wpAny_getItem_list_slice ht.isList hs pl pu .none (by simp) ?_ (by rw [List.size_toArray] <;> omega)
  rw [slicePick_cut, ← hlen]
  refine ⟨.ref s.heap.objs.size, _, I.laid (t' := s.toks) (o := .lst (cutV xs lo hi)) (fun b ob q => Heap.get?_push_of_some _ q) (Nat.le_refl _) ?_, rfl, q _ (I.hok.fresh (Nat.le_refl _))⟩
  exact ⟨Nat.le_trans (cutV_length xs lo hi) hz, _, 0, (r.drop (HT.sIx xs.length 0 lo)).take (HT.sIx xs.length xs.length hi - HT.sIx xs.length 0 lo), Heap.get?_push_size _ rfl⟩

/-! ### in, not in: flat items -/
def flatV : V → Bool
  | .non => true
  | .bl _ => true
  | .int _ => true
  | .str _ => true
  | _ => false
/-- == of flat values -/
def eqV : V → V → Bool
  | .non, .non => true
  | .bl a, .bl b => a == b
  | .bl a, .int b => (if a then 1 else 0) == b
  | .int a, .bl b => a == (if b then 1 else 0)
  | .int a, .int b => a == b
  | .str a, .str b => a == b
  | _, _ => false
theorem eqAt_V {A : Around} {s : Shared} {y x : V} {u v : Value} (ry : RelV y u) (rx : RelV x v) (fy : flatV y = true) (fx : flatV x = true) : SeqAt.EqAt A s u v (eqV y x) := by
  cases y with
  | non =>
    cases ry
    cases x with
    | non => cases rx; exact SeqAt.EqAt.same _
    | bl b => cases rx; exact SeqAt.EqAt.none_bool b
    | int b => obtain ⟨t, rfl⟩ := rx; exact SeqAt.EqAt.none_int b t
    | str b => obtain ⟨t, rfl⟩ := rx; exact SeqAt.EqAt.none_str b t
    | _ => exact absurd (show false = true from fx) Bool.false_ne_true
  | bl a =>
    cases ry
    cases x with
    | non => cases rx; exact SeqAt.EqAt.bool_none a
    | bl b => cases rx; exact SeqAt.EqAt.bool_bool a b
    | int b => obtain ⟨t, rfl⟩ := rx; exact SeqAt.EqAt.bool_int a b t
    | str b => obtain ⟨t, rfl⟩ := rx; exact SeqAt.EqAt.bool_str a b t
    | _ => exact absurd (show false = true from fx) Bool.false_ne_true
  | int a =>
    obtain ⟨t', rfl⟩ := ry
    cases x with
    | non => cases rx; exact SeqAt.EqAt.int_none a t'
    | bl b => cases rx; exact SeqAt.EqAt.int_bool a t' b
    | int b => obtain ⟨t, rfl⟩ := rx; exact SeqAt.EqAt.int_int a t' b t
    | str b => obtain ⟨t, rfl⟩ := rx; exact SeqAt.EqAt.int_str a t' b t
    | _ => exact absurd (show false = true from fx) Bool.false_ne_true
  | str a =>
    obtain ⟨t', rfl⟩ := ry
    cases x with
    | non => cases rx; exact SeqAt.EqAt.str_none a t'
    | bl b => cases rx; exact SeqAt.EqAt.str_bool a t' b
    | int b => obtain ⟨t, rfl⟩ := rx; exact SeqAt.EqAt.str_int a t' b t
    | str b => obtain ⟨t, rfl⟩ := rx; exact SeqAt.EqAt.str_str a t' b t
    | _ => exact absurd (show false = true from fx) Bool.false_ne_true
  | _ => exact absurd (show false = true from fy) Bool.false_ne_true
/-- the items' answers, read off the values (a value's own answer does not lean on its token) -/
def eqU (x : V) (u : Value) : Bool := match u with
  | .none => eqV .non x
  | .bool b => eqV (.bl b) x
  | .int i _ => eqV (.int i) x
  | .str z _ => eqV (.str z) x
  | _ => false
theorem eqU_of {x y : V} {u : Value} (r : RelV y u) (f : flatV y = true) : eqU x u = eqV y x := by
  cases y with
  | non => cases r; rfl
  | bl b => cases r; rfl
  | int i => obtain ⟨t, rfl⟩ := r; rfl
  | str z => obtain ⟨t, rfl⟩ := r; rfl
  | _ => exact absurd (show false = true from f) Bool.false_ne_true
theorem any_eqU {x : V} : ∀ {xs : List V} {us : List Value}, Vals xs us → xs.all flatV = true → us.any (eqU x) = xs.any fun y => eqV y x
  | _, _, .nil, _ => rfl
  | y :: xs, u :: us, .cons r t, f => by
    rw [List.all_cons, Bool.and_eq_true] at f
    rw [List.any_cons, List.any_cons, eqU_of r f.1, any_eqU t f.2]
theorem mem_eqAt {A : Around} {s : Shared} {x : V} {v : Value} (rx : RelV x v) (fx : flatV x = true) : ∀ {xs : List V} {us : List Value}, Vals xs us → xs.all flatV = true → ∀ u ∈ us, SeqAt.EqAt A s u v (eqU x u)
  | _, _, .nil, _ => fun u hu => by cases hu
  | y :: xs, u :: us, .cons r t, f => fun u' hu => by
    rw [List.all_cons, Bool.and_eq_true] at f
    rcases List.mem_cons.mp hu with rfl | hu
    · rw [eqU_of r f.1]; exact eqAt_V r rx f.1 fx
    · exact mem_eqAt rx fx t f.2 u' hu
def inV (x : V) (xs : List V) : Bool := xs.any fun y => eqV y x
/-- x in a list or tuple of flat items -/
def rIn (K : PySem.W.Frag) (neg : Bool) : R2 := fun x y H Q => ∃ p xs, y = .ref p ∧ (SqL K H p xs ∨ SqT K H p xs) ∧ flatV x = true ∧ xs.all flatV = true ∧ Q (.bl (if neg then !inV x xs else inV x xs)) H
theorem op_in_seq : OpR X (compareOp .In) (rIn X.K false) := by
  intro pins s σ H x y v u Q I rx ry h
  obtain ⟨p, xs, rfl, hq, fx, fs, q⟩ := h
  cases ry
  rcases hq with hq | hq
  · obtain ⟨its, r, pl, hz⟩ := I.list hq
    refine SeqAt.in_listAt (eqU x) pl.isList (fun w hw => mem_eqAt rx fx r fs w (by simpa using hw)) ⟨.bl _, H, I, rfl, ?_⟩
    rw [show its.toArray.any (eqU x) = its.any (eqU x) by simp, any_eqU r fs]
    exact q
  · obtain ⟨its, r, pl, hz⟩ := I.tuple hq
    refine SeqAt.in_tupleAt (eqU x) pl (fun w hw => mem_eqAt rx fx r fs w (by simpa using hw)) ⟨.bl _, H, I, rfl, ?_⟩
    rw [show its.toArray.any (eqU x) = its.any (eqU x) by simp, any_eqU r fs]
    exact q
theorem op_notIn_seq : OpR X (compareOp .NotIn) (rIn X.K true) := by
  intro pins s σ H x y v u Q I rx ry h
  obtain ⟨p, xs, rfl, hq, fx, fs, q⟩ := h
  cases ry
  rcases hq with hq | hq
  · obtain ⟨its, r, pl, hz⟩ := I.list hq
    refine SeqAt.notIn_listAt (eqU x) pl.isList (fun w hw => mem_eqAt rx fx r fs w (by simpa using hw)) ⟨.bl _, H, I, rfl, ?_⟩
    rw [show its.toArray.any (eqU x) = its.any (eqU x) by simp, any_eqU r fs]
    exact q
  · obtain ⟨its, r, pl, hz⟩ := I.tuple hq
    refine SeqAt.notIn_tupleAt (eqU x) pl (fun w hw => mem_eqAt rx fx r fs w (by simpa using hw)) ⟨.bl _, H, I, rfl, ?_⟩
    rw [show its.toArray.any (eqU x) = its.any (eqU x) by simp, any_eqU r fs]
    exact q
theorem op_notIn_str : OpR X (compareOp .NotIn) (fun x y H Q => ∃ i j, x = .str i ∧ y = .str j ∧ Q (.bl (!(!(Builtin.Str.occurrences j i 0 j.length 1).isEmpty))) H) := by
  intro pins s σ H x y v u Q I rx ry h
  obtain ⟨i, j, rfl, rfl, q⟩ := h
  obtain ⟨t, rfl⟩ := rx
  obtain ⟨t', rfl⟩ := ry
  exact notIn_str ⟨.bl _, H, I, rfl, q⟩

/-! ### len, list(x), tuple(x) of any list or tuple that is read -/
theorem call_len_seq : CallR X (.builtin "len") (fun xs H Q => ∃ p ys, xs = [.ref p] ∧ (SqL X.K H p ys ∨ SqT X.K H p ys) ∧ Q (.int ys.length) H) := by
  intro pins s σ H xs us Q I r h
  obtain ⟨p, ys, rfl, hq, q⟩ := h
  obtain ⟨u, rfl, rx⟩ := vals1 r
  cases rx
  have hn := line63
  rcases hq with hq | hq
  · obtain ⟨its, r', pl, hz⟩ := I.list hq
    have hlen := r'.length
    exact Calls.call_len_list pl.isList (by simp only [List.size_toArray] <;> omega) ⟨.int ys.length, H, I.tok _, ⟨s.toks + 1, by rw [List.size_toArray, hlen]⟩, q⟩
  · obtain ⟨its, r', pl, hz⟩ := I.tuple hq
    have hlen := r'.length
    exact len_tuple pl (by simp only [List.size_toArray] <;> omega) ⟨.int ys.length, H, I.tok _, ⟨s.toks + 1, by rw [List.size_toArray, hlen]⟩, q⟩
theorem call_len_str : CallR X (.builtin "len") (fun xs H Q => ∃ z, xs = [.str z] ∧ z.length ≤ sizeLine ∧ Q (.int z.length) H) := by
  intro pins s σ H xs us Q I r h
  obtain ⟨z, rfl, hz, q⟩ := h
  obtain ⟨u, rfl, t, rfl⟩ := vals1 r
  have hn := line63
  exact len_str (by omega) ⟨.int z.length, H, I.tok _, ⟨_, rfl⟩, q⟩
theorem CallR.or {f : Value} {r r' : List V → Hp → VK → Prop} (h : CallR X f r) (h' : CallR X f r') : CallR X f (fun xs H Q => r xs H Q ∨ r' xs H Q) := by
  intro pins s σ H xs us Q I rs q
  rcases q with q | q
  · exact h pins s σ H xs us Q I rs q
  · exact h' pins s σ H xs us Q I rs q
theorem call_list_of : CallR X (.type "list") (fun xs H Q => ∃ p ys, xs = [.ref p] ∧ (SqL X.K H p ys ∨ SqT X.K H p ys) ∧ ∀ l, H l = none → Q (.ref l) (upd H l (.lst ys))) := by
  intro pins s σ H xs us Q I r h
  obtain ⟨p, ys, rfl, hq, q⟩ := h
  obtain ⟨u, rfl, rx⟩ := vals1 r
  cases rx
  have fin : ∀ (its : List Value), Vals ys its → ys.length ≤ sizeLine → ∀ (h' : Heap) (c' : Nat), (∀ b o', s.heap.get? b = some o' → h'.get? b = some o') →
      h'.get? s.heap.objs.size = some { cls := .type "list", dict := none, data := .seq its.toArray c', slots := #[] } → EP X pins σ Q (.ref s.heap.objs.size) { s with heap := h' } := fun its r' hz h' c' kp e =>
    ⟨.ref s.heap.objs.size, _, I.laid (t' := s.toks) kp (Nat.le_refl _) (show ObjOk X.prog X.w _ h' _ (.lst ys) from ⟨hz, its, c', r', e⟩), rfl, q _ (I.hok.fresh (Nat.le_refl _))⟩
  rcases hq with hq | hq
  · obtain ⟨its, r', pl, hz⟩ := I.list hq
    have hlen := r'.length
    obtain ⟨o, ho, hc, n, hd⟩ := pl.isList
    exact call_list_seq p (.inl rfl) ho hc hd (fun h' c' kp e => fin its r' hz h' c' kp e) (by simp only [List.size_toArray] <;> omega)
  · obtain ⟨its, r', pl, hz⟩ := I.tuple hq
    have hlen := r'.length
    obtain ⟨o, ho, hc, n, hd⟩ := pl
    exact call_list_seq p (.inr rfl) ho hc hd (fun h' c' kp e => fin its r' hz h' c' kp e) (by simp only [List.size_toArray] <;> omega)
/-! ### the call of a builtin's method: o.m(..) -/
/-- the value is of that builtin type -/
def tyV (K : PySem.W.Frag) (T : String) (x : V) (H : Hp) : Prop := match x with
  | .str _ => T = "str"
  | .int _ => T = "int"
  | .ref p => (T = "list" ∧ ∃ xs, SqL K H p xs) ∨ (T = "tuple" ∧ ∃ o, K.lookup p = some o ∧ o.cls = .type "tuple" ∧ o.dict = none) ∨
      (T = "dict" ∧ ((∃ kvs, H p = some (.dK kvs)) ∨ ∃ kvs, H p = some (.dT kvs))) ∨ (T = "set" ∧ ∃ S n, H p = some (.set S n))
  | _ => False
theorem tyV_is {pins : List (Addr × Obj)} {σ : St} {H : Hp} {s : Shared} {T : String} {x : V} {v : Value} (I : Inv X pins σ H s) (r : RelV x v) (ty : tyV X.K T x H) :
    s.TypeIs v T ∧ ∀ a, v = .ref a → ∃ ob, s.heap.get? a = some ob ∧ ob.dict = none := by
  cases x with
  | str z =>
    obtain ⟨t, rfl⟩ := r
    cases (show T = "str" from ty)
    exact ⟨typeIs_str s z t, fun _ e => nomatch e⟩
  | int i =>
    obtain ⟨t, rfl⟩ := r
    cases (show T = "int" from ty)
    exact ⟨typeIs_int s i t, fun _ e => nomatch e⟩
  | ref p =>
    cases r
    rcases ty with ⟨rfl, xs, hq⟩ | ⟨rfl, o, hk, hc, hd⟩ | ⟨rfl, hk⟩ | ⟨rfl, S, n, hk⟩
    · obtain ⟨its, _, pl, _⟩ := I.list hq
      refine ⟨pl.isList.typeIs, fun a e => ?_⟩
      cases e
      obtain ⟨o, n, e, c, hd, _⟩ := pl
      exact ⟨o, e, hd⟩
    · refine ⟨⟨o, I.kIn p o hk, hc⟩, fun a e => ?_⟩
      cases e
      exact ⟨o, I.kIn _ o hk, hd⟩
    · have z : ∃ o, s.heap.get? p = some o ∧ o.ExactDict := by
        rcases hk with ⟨kvs, hk⟩ | ⟨kvs, hk⟩
        · obtain ⟨_, _, _, _, o, _, _, e, ex, _⟩ := I.hok p _ hk
          exact ⟨o, e, ex⟩
        · obtain ⟨_, _, _, _, o, _, _, e, ex, _⟩ := I.hok p _ hk
          exact ⟨o, e, ex⟩
      obtain ⟨o, e, ex⟩ := z
      refine ⟨⟨o, e, ex.1⟩, fun a e2 => ?_⟩
      cases e2
      exact ⟨o, e, ex.2.1⟩
    · obtain ⟨o, _, _, _, e, ex, _⟩ := I.hok p _ hk
      refine ⟨⟨o, e, ex.1⟩, fun a e2 => ?_⟩
      cases e2
      exact ⟨o, e, ex.2.1⟩
  | _ => exact False.elim ty
def tBM0 (K : PySem.W.Frag) (T : String) (r : V → List V → Hp → VK → Prop) (to : TE) : TE := fun σ H Q => to σ H fun x H1 => tyV K T x H1 ∧ r x [] H1 Q
def tBM (K : PySem.W.Frag) (T : String) (r : V → List V → Hp → VK → Prop) (to : TE) (t : TA) : TE := fun σ H Q => to σ H fun x H1 => tyV K T x H1 ∧ t σ H1 fun xs H2 => r x xs H2 Q
variable {o e : Expr} {es : List Expr} {to : TE} {t : TA} {name : Str} {apos cpos : Pos} {T id : String} {r : V → List V → Hp → VK → Prop}
theorem pe_bm0 (pa : PlainAttrs T) (slot : Slot T name id) (hty : typeOf (.builtin id) = pure (.type "method_descriptor")) (hm : MtR X id r) (ho : PE X o to)
    (hbase : attributeBase o name X.env (eval o X.env) = eval o X.env := by rfl) (hline : (apos.endLine == cpos.line) = true := by rfl) : PE X (.Call (.Attribute o name apos) [] [] cpos) (tBM0 X.K T r to) := by
  intro pins s σ H Q I h
  refine wpAny_Call_method0_late hbase hline (thn (ho pins s σ H _ I h) fun v s1 ⟨x, H1, I1, r1, ty, q1⟩ => ?_)
  obtain ⟨h1, h2⟩ := tyV_is I1 r1 ty
  exact ⟨T, id, pa, slot, hty, h1, h2, Calls.callWith_builtin rfl (PySem.evalArgs_none (hm pins s1 σ H1 x [] v [] Q I1 r1 .nil q1))⟩
theorem pe_bm (pa : PlainAttrs T) (slot : Slot T name id) (hty : typeOf (.builtin id) = pure (.type "method_descriptor")) (hm : MtR X id r) (ho : PE X o to) (ha : PA X (e :: es) t)
    (hbase : attributeBase o name X.env (eval o X.env) = eval o X.env := by rfl)
    (hfew : ((backTo cpos (starEach (e :: es) X.env)).all (fun x => !x.1) && (backToKw cpos (keywordEach [] X.env)).all (fun x => x.1.isSome)
      && decide ((e :: es).length + ([] : List Keyword).length + (if ([] : List Keyword).isEmpty then 0 else 1) < 30)) = true := by rfl)
    (hline : (apos.endLine == cpos.line) = true := by rfl) (hs : starEach (e :: es) X.env = (false, eval e X.env) :: starEach es X.env := by rfl) (hplain : (backTo cpos (starEach es X.env)).any (·.1) = false := by rfl) :
    PE X (.Call (.Attribute o name apos) (e :: es) [] cpos) (tBM X.K T r to t) := by
  intro pins s σ H Q I h
  refine wpAny_Call_method_late hbase hfew hline rfl (thn (ho pins s σ H _ I h) fun v s1 ⟨x, H1, I1, r1, ty, q1⟩ => ?_)
  obtain ⟨h1, h2⟩ := tyV_is I1 r1 ty
  refine ⟨T, id, pa, slot, hty, h1, h2, ?_⟩
  have hA := ha cpos pins s1 σ H1 _ I1 q1
  rw [hs] at hA ⊢
  refine Calls.callWith_builtin (by show (false || (backTo cpos (starEach es X.env)).any (·.1)) = false; rw [hplain] <;> rfl) (Calls.evalArgs_plain ?_)
  exact thn hA fun us s2 ⟨vs, H2, I2, r2, q2⟩ => hm pins s2 σ H2 x vs v us Q I2 r1 r2 q2
/- xs.append(e), list.index on a module's tuple .. are MtR facts of 06m -/
end
end L2

namespace L2
open PySem PySem.Spec PyProof.Rows

def MtM (X : Cx) (id : String) (r : V → List V → Hp → VK → Prop) : Prop :=
  ∀ (pins : List (Addr × Obj)) (s : Shared) (σ : St) (H : Hp) (x : V) (xs : List V) (v : Value) (us : List Value) (Q : VK), Inv X pins σ H s → RelV x v → Vals xs us → r x xs H Q →
    wpAny (model X.prog X.w) X.A (call (.builtin id) (v :: us)) (EP X pins σ Q) X.xe s

/-! ### lists of values -/
theorem Vals.one : ∀ {x : V} {us : List Value}, Vals [x] us → ∃ u, us = [u] ∧ RelV x u
  | _, _, .cons r .nil => ⟨_, rfl, r⟩
theorem Vals.two : ∀ {x y : V} {us : List Value}, Vals [x, y] us → ∃ u v, us = [u, v] ∧ RelV x u ∧ RelV y v
  | _, _, _, .cons r (.cons q .nil) => ⟨_, _, rfl, r, q⟩
theorem Vals.zero : ∀ {us : List Value}, Vals [] us → us = []
  | _, .nil => rfl
theorem Vals.dropLast {xs : List V} {us : List Value} (h : Vals xs us) : Vals xs.dropLast us.dropLast := by
  induction h with
  | nil => exact .nil
  | cons r t ih =>
    cases t with
    | nil => exact .nil
    | cons q t' => exact .cons r ih
theorem Vals.eraseIdx : ∀ {xs : List V} {us : List Value} (i : Nat), Vals xs us → Vals (xs.eraseIdx i) (us.eraseIdx i)
  | _, _, _, .nil => .nil
  | _, _, 0, .cons _ t => t
  | _, _, i + 1, .cons r t => .cons r (Vals.eraseIdx i t)
theorem Vals.reverse {xs : List V} {us : List Value} (h : Vals xs us) : Vals xs.reverse us.reverse := by
  induction h with
  | nil => exact .nil
  | cons r t ih => rw [List.reverse_cons, List.reverse_cons]; exact Vals.append ih (.cons r .nil)
theorem Vals.rep {xs : List V} {us : List Value} (h : Vals xs us) : ∀ k : Nat, Vals (List.replicate k xs).flatten (List.replicate k us).flatten
  | 0 => .nil
  | k + 1 => by
    rw [List.replicate_succ, List.replicate_succ, List.flatten_cons, List.flatten_cons]
    exact Vals.append h (Vals.rep h k)
theorem foldl_rep (its : List Value) : ∀ (k : Nat) (acc : List Value),
    List.foldl (fun x1 x2 => x1 ++ x2) acc.toArray (List.replicate k its.toArray) = (acc ++ (List.replicate k its).flatten).toArray
  | 0, acc => by simp
  | k + 1, acc => by
    have e : acc.toArray ++ its.toArray = (acc ++ its).toArray := by simp
    have e2 : (acc ++ its) ++ (List.replicate k its).flatten = acc ++ (List.replicate (k + 1) its).flatten := by
      rw [List.replicate_succ, List.flatten_cons, List.append_assoc]
    rw [← e2, ← foldl_rep its k (acc ++ its), ← e, List.replicate_succ, List.foldl_cons]

section
variable {X : Cx} {pins : List (Addr × Obj)} {σ : St} {H : Hp} {s : Shared} {l b : Addr} {xs ys zs : List V}

/-! ### the two steps: a tracked list is rewritten, a new list is laid -/
theorem Inv.lset {its its' : List Value} {n : Nat} {f : Array Value → Array Value} {t' : Nat} (I : Inv X pins σ H s) (hH : H l = some (.lst xs))
    (e : s.heap.get? l = some { cls := .type "list", data := .seq its.toArray n }) (hf : f its.toArray = its'.toArray) (hv : Vals ys its') (hz : ys.length ≤ sizeLine) :
    Inv X pins σ (upd H l (.lst ys)) { s with heap := s.heap.update l (Obj.mapSeq f), toks := t' } := by
  have q := PySem.IsL.update e f
  rw [hf] at q
  refine I.write (x := l) (e := l) (by rw [hH]; exact trivial) (.inl rfl) (fun b' u hb hu => (Heap.get?_update_other s.heap (Obj.mapSeq f) (Ne.symm hb)).trans hu) ⟨_, q⟩ ?_
  exact ⟨hz, its', _, hv, q⟩
theorem Inv.lnew {its : List Value} {t' : Nat} (I : Inv X pins σ H s) (hv : Vals ys its) (hz : ys.length ≤ sizeLine) :
    Inv X pins σ (upd H s.heap.objs.size (.lst ys)) { s with heap := s.heap.push { cls := .type "list", data := .seq its.toArray }, toks := t' } :=
  I.laid (fun _ _ q => Heap.get?_push_of_some _ q) (Nat.le_refl _) ⟨hz, its, 0, hv, Heap.get?_push_size _ rfl⟩
theorem Inv.fresh (I : Inv X pins σ H s) : H s.heap.objs.size = none := I.hok.fresh (Nat.le_refl _)
theorem Inv.lstM (I : Inv X pins σ H s) (hH : H l = some (.lst xs)) : xs.length ≤ sizeLine ∧ ∃ (its : List Value) (n : Nat), Vals xs its ∧ xs.length = its.length ∧ s.heap.get? l = some { cls := .type "list", data := .seq its.toArray n } := by
  obtain ⟨z, its, n, r, e⟩ := I.hok l _ hH
  exact ⟨z, its, n, r, r.length, e⟩

theorem notLongL {n : Nat} (h : n ≤ sizeLine) : Builtin.List.listTooLong n = false := by
  unfold Builtin.List.listTooLong
  exact decide_eq_false (by omega)
end

section
variable {X : Cx}

/-! ### methods -/
def rAppend : V → List V → Hp → VK → Prop := fun x vs H Q => ∃ l xs y, x = .ref l ∧ vs = [y] ∧ H l = some (.lst xs) ∧ xs.length < sizeLine ∧ Q .non (upd H l (.lst (xs ++ [y])))
theorem mt_append : MtM X "list.append" rAppend := by
  intro pins s σ H x vs v us Q I rx rv h
  obtain ⟨l, xs, y, rfl, rfl, hH, hz, q⟩ := h
  cases rx
  obtain ⟨u, rfl, ru⟩ := rv.one
  obtain ⟨z, its, n, r, hl, e⟩ := I.lstM hH
  refine call_meets F.slot_list_append ⟨_, e, rfl⟩ F.entry_list_append (F.args_list_append_2 _ _) (PySem.list_append l its.toArray n u (by rw [List.size_toArray]; omega)) ⟨e, ?_⟩
  refine ⟨.non, _, I.lset (its' := its ++ [u]) hH e (by simp) (r.append (.cons ru .nil)) ?_, rfl, q⟩
  rw [List.length_append, List.length_singleton]
  omega

def rExtend : V → List V → Hp → VK → Prop := fun x vs H Q => ∃ l b xs zs, x = .ref l ∧ vs = [.ref b] ∧ H l = some (.lst xs) ∧ H b = some (.lst zs) ∧ xs.length + zs.length ≤ sizeLine ∧ Q .non (upd H l (.lst (xs ++ zs)))
theorem mt_extend : MtM X "list.extend" rExtend := by
  intro pins s σ H x vs v us Q I rx rv h
  obtain ⟨l, b, xs, zs, rfl, rfl, hH, hB, hz, q⟩ := h
  cases rx
  obtain ⟨u, rfl, ru⟩ := rv.one
  cases ru
  obtain ⟨z, its, n, r, hl, e⟩ := I.lstM hH
  obtain ⟨z2, its2, n2, r2, hl2, e2⟩ := I.lstM hB
  have hsz : its.toArray.size + its2.toArray.size ≤ sizeLine := by rw [List.size_toArray, List.size_toArray]; omega
  have hlong : ¬ (!its.toArray.isEmpty && Builtin.List.listTooLong (its.toArray.size + its2.toArray.size)) = true := by
    rw [notLongL hsz, Bool.and_false]
    exact Bool.false_ne_true
  refine call_meets F.slot_list_extend ⟨_, e, rfl⟩ F.entry_list_extend (F.args_list_extend_2 _ _)
    (AutoSeq1.list_extend_list_list_0 l its.toArray n b its2.toArray n2 hlong (by rw [List.size_toArray]; omega) (by omega)) ⟨e, e2, ?_⟩
  refine ⟨.non, _, I.lset (its' := its ++ its2) hH e (by simp) (r.append r2) ?_, rfl, q⟩
  rw [List.length_append]
  omega

def rPop : V → List V → Hp → VK → Prop := fun x vs H Q => ∃ l xs y, x = .ref l ∧ vs = [] ∧ H l = some (.lst xs) ∧ xs[xs.length - 1]? = some y ∧ Q y (upd H l (.lst xs.dropLast))
def rPopAt : V → List V → Hp → VK → Prop := fun x vs H Q => ∃ l xs i k y, x = .ref l ∧ vs = [.int i] ∧ H l = some (.lst xs) ∧ -(2 ^ 63) ≤ i ∧ i < 2 ^ 63 ∧ seqIndex? i xs.length = some k ∧ xs[k]? = some y ∧ Q y (upd H l (.lst (xs.eraseIdx k)))
def rReverse : V → List V → Hp → VK → Prop := fun x vs H Q => ∃ l xs, x = .ref l ∧ vs = [] ∧ H l = some (.lst xs) ∧ Q .non (upd H l (.lst xs.reverse))
theorem mt_reverse : MtM X "list.reverse" rReverse := by
  intro pins s σ H x vs v us Q I rx rv h
  obtain ⟨l, xs, rfl, rfl, hH, q⟩ := h
  cases rx
  have hus := rv.zero
  subst hus
  obtain ⟨z, its, n, r, hl, e⟩ := I.lstM hH
  refine call_meets F.slot_list_reverse ⟨_, e, rfl⟩ F.entry_list_reverse (F.args_list_reverse_1 _) (AutoSeq1.list_reverse_list_0 l its.toArray n (by rw [List.size_toArray]; omega)) ⟨e, ?_⟩
  refine ⟨.non, _, I.lset (its' := its.reverse) hH e (by simp) r.reverse ?_, rfl, q⟩
  rw [List.length_reverse]
  omega

def rClear : V → List V → Hp → VK → Prop := fun x vs H Q => ∃ l xs, x = .ref l ∧ vs = [] ∧ H l = some (.lst xs) ∧ Q .non (upd H l (.lst []))
/-! ### list + list, list += list, list * int -/
def rCat : R2 := fun x y H Q => ∃ l b xs zs, x = .ref l ∧ y = .ref b ∧ H l = some (.lst xs) ∧ H b = some (.lst zs) ∧ xs.length + zs.length ≤ sizeLine ∧ ∀ p, H p = none → Q (.ref p) (upd H p (.lst (xs ++ zs)))
/-- a list times an int (a negative one is nothing) -/
def rRep : R2 := fun x y H Q => ∃ l k xs, x = .ref l ∧ y = .int k ∧ H l = some (.lst xs) ∧ -(2 ^ 63) ≤ k ∧ k < 2 ^ 63 ∧ xs.length * k.toNat ≤ sizeLine ∧
  ∀ p, H p = none → Q (.ref p) (upd H p (.lst (List.replicate k.toNat xs).flatten))
theorem len_rep {α : Type} (xs : List α) (k : Nat) : (List.replicate k xs).flatten.length = k * xs.length := by
  induction k with
  | zero => simp
  | succ k ih => rw [List.replicate_succ, List.flatten_cons, List.length_append, ih, Nat.succ_mul, Nat.add_comm]
theorem op_rep : OpR X (binaryOp .Mult) rRep := by
  intro pins s σ H x y v u Q I rx ry h
  obtain ⟨l, k, xs, rfl, rfl, hH, h1, h2, hz, q⟩ := h
  cases rx
  obtain ⟨t, rfl⟩ := ry
  obtain ⟨z, its, n, r, hl, e⟩ := I.lstM hH
  have hlen : its.toArray.size * k.toNat ≤ sizeLine := by rw [List.size_toArray, ← hl]; exact hz
  have hcap : ¬ its.toArray.size * k.toNat > (2 ^ 63 - 1) / 8 := by
    have : (sizeLine : Nat) ≤ (2 ^ 63 - 1) / 8 := by decide
    omega
  have hfit : ¬ (!Builtin.List.listFitsIndex k) = true := by
    rw [fitsIndex_both h1 h2]
    exact Bool.false_ne_true
  have hlong : ¬ Builtin.List.listTooLong (its.toArray.size * k.toNat) = true := by
    rw [notLongL hlen]
    exact Bool.false_ne_true
  have hnew : List.foldl (fun x1 x2 => x1 ++ x2) #[] (List.replicate (if its.toArray.isEmpty = true then 0 else k.toNat) its.toArray) = (List.replicate k.toNat its).flatten.toArray := by
    have f0 : ∀ m : Nat, List.foldl (fun x1 x2 => x1 ++ x2) #[] (List.replicate m its.toArray) = (List.replicate m its).flatten.toArray := fun m => by
      have := foldl_rep its m []
      rw [List.nil_append] at this
      exact this
    rw [f0]
    cases its with
    | nil => simp
    | cons a r' => rw [if_neg (by simp)]
  refine wpAny_binaryOp_repeat_ref (T := "list") (U := "int") (by decide) ⟨_, e, rfl⟩ (fun s' => typeIs_int s' k t) noFill_list_mul F.fills_int_mul F.slot_int_rmul repeat_list F.slot_int_index.lookup
    (call_meets F.slot_int_rmul (typeIs_int s k t) F.entry_int_rmul (F.args_int_rmul_2 _ _) (int___rmul___int_list k t l its.toArray n)
      ⟨e, rfl, ⟨_, e, rfl⟩, call_meets F.slot_list_mul ⟨_, e, rfl⟩ F.entry_list_mul (F.args_list_mul_2 _ _) (AutoListH.list___mul___list_int_3 l its.toArray n k t hfit hcap hlong) ⟨e, ?_⟩⟩)
  rw [hnew]
  exact ⟨.ref _, _, I.lnew (t' := s.toks) (r.rep k.toNat) (by rw [len_rep, Nat.mul_comm]; exact hz), rfl, q _ I.fresh⟩

/-! ### del xs[i] -/
end

/-! ### xs[a:b] = ys -/
section
variable {prog : Program} {w : World} {A : Around} {E : Value → Shared → Prop} {s : Shared}
end

section
variable {X : Cx}
end
end L2

namespace Att
open PySem PySem.W PySem.Calls PyProof.Rows

/-! ### the script -/
theorem ints_of_wellAll {P : Params} {h : Heap} : ∀ (ns : List Int) (vs : List Value), WellAll P h vs (ns.map WData.int) → IntsAre vs ns := by
  intro ns
  induction ns with
  | nil =>
    intro vs w
    rw [List.map_nil] at w
    cases w
    exact .nil
  | cons n ns ih =>
    intro vs w
    rw [List.map_cons] at w
    cases w with
    | cons a b =>
      cases a
      exact .cons _ _ (ih _ b)

theorem script_of {l : OpenLaw} {n : Nat} (hn : l.most = some n) {P : Params} {h : Heap} {args : List WData} {vals : List Value}
    (hpre : l.row.toRowW.claim.pre args = true) (hwl : WellAll P h vals args) :
    ∃ a vs ns, vals = [Value.ref a] ∧ args = [WData.list (ns.map WData.int)] ∧ h.get? a = some { cls := .type "list", data := .seq vs.toArray } ∧ IntsAre vs ns ∧ ns.length ≤ n := by
  have hsh : WShape.hasAll [] args [.list .int] = true := (pre_splitW hpre).1
  have hc : l.pre.holds [] { args := args } = true := (pre_splitW hpre).2
  obtain ⟨d, r, rfl, h1, h2⟩ := hasAllW_cons hsh
  obtain rfl := hasAllW_nil h2
  obtain ⟨xs, rfl, h3⟩ := hasW_list h1
  obtain ⟨ns, rfl⟩ := items_int h3
  have hlen : ns.length ≤ n := by
    unfold OpenLaw.pre at hc
    have h4 : (WTm.not (.lt (.lit (.int (n : Int))) (.len (.arg 0)))).holds [] { args := [.list (ns.map .int)] } = true := by
      have h4 := (holds_andW hc).1
      rw [hn] at h4
      exact h4
    have h5 := condW_of h4 (w_not (w_lt w_lit (w_len_list (w_arg rfl))))
    rw [List.length_map] at h5
    refine Nat.le_of_not_lt fun q => ?_
    have q' : (n : Int) < ((ns.length : Nat) : Int) := by omega
    first
      | (rw [decide_eq_true q'] at h5; exact absurd h5 (by decide))
      | (simp at h5; omega)
  cases hwl with
  | cons w1 w2 =>
    cases w2
    cases w1 with
    | list ho hall => exact ⟨_, _, ns, rfl, rfl, ho, ints_of_wellAll ns _ hall, hlen⟩

theorem post_true (l : OpenLaw) (args : List WData) : l.row.toRowW.claim.post args (.bool true) args = true :=
  postW_of (r := l.row.toRowW) (X := (true == true))
    (show WShape.has [] (.bool true) .bool = true by first | rfl | decide | simp [WShape.has, WShape.arms, WShape.armsAll])
    (show (WTm.eq .res (.lit (.bool true))).value [] { args := args, res := some (.bool true), after := args } = some (.bool (true == true)) from w_eq_bool (w_res rfl) w_lit) rfl

/-! ### the attachment: holds_open's last premise (the goal 'hc' behind k_head) from a wpAny of the law's body -/
/-- the same from a codeAny of the CALL (for a layer whose function contracts speak of calls) -/
theorem attach_call {l : OpenLaw} {n : Nat} {q : Program} {loose : List Str} {XP : (Str → Option Value) → Heap → Prop} {YP : World → Heap → Prop} {d : DefRec}
    (hn : l.most = some n) (hdf : d.params.defaults = [])
    (call : ∀ (w : World) (s₀ s₁ : Shared) (mg mb : Str → Option Value) (fa : Addr) (o : Obj) (pm cd doc : Value) (a : Addr) (vs : List Value) (ns : List Int),
      Ground q loose [] XP w s₀ mg mb s₁.heap → YP w s₁.heap →
      s₁.heap.get? fa = some o → o.data = .func (docDef d.name d.params d.body d.scope pm cd doc) → s₁.heap.CodeRec cd d.name → mg d.name = some (.ref fa) →
      s₁.heap.get? a = some { cls := .type "list", data := .seq vs.toArray } → IntsAre vs ns → ns.length ≤ n → s₁.gens = #[] →
      codeAny (model l.prog w) callerA (.call (.ref fa) ⟨[.ref a], []⟩) (fun r s' => r = .ok (.ret (.bool true)) ∧ OldK s₁.heap s'.heap ∧ s'.os = s₁.os ∧ AllBare s'.gens) s₁) :
    WalkO q loose XP YP l.row.toRowW d [] (fun f vs => PySem.call f vs) := by
  intro w s₀ s₁ mg mb G Y fa o pm cd doc dV kV ho hd hcd hD hmg hg args vals as hpre hlay hrd hwl hlo
  obtain rfl : dV = .none := Dflts.none hD hdf
  obtain rfl : kV = .none := Dflts.noKw hD
  obtain ⟨a, vs, ns, rfl, rfl, hobj, hints, hlen⟩ := script_of hn hpre hwl
  refine enter_call (codeAny_mono (call w s₀ s₁ mg mb fa o pm cd doc a vs ns G Y ho (fd_plain hd) hcd hmg hobj hints hlen hg) fun r s' hq => ?_)
  obtain ⟨rfl, h2, h3, h4⟩ := hq
  exact ⟨.inl ⟨.bool true, .bool true, [], rfl, fun _ => rfl, .bool true, post_true l _, fun _ => ⟨List.Pairwise.nil, fun _ hm => (nomatch hm)⟩⟩, h2, h3, h4⟩

/-! ### rules over ANY heap (no ledger) from facts about the written part K: the library's own take a ledger (News) for what they write -/
section
variable {prog : Program} {w : World} {A : Around} {E : Value → Shared → Prop} {s : Shared} {K : Frag}

/-! the whole heap as the ledger: makes every rule that writes through a ledger a rule over any heap -/
def noObjs (h : Heap) : Heap := { h with objs := #[] }
def ledger (h : Heap) (L d : Addr) : List (Addr × Obj) := (List.range h.objs.size).filterMap fun a => if a = L ∨ a = d then none else (h.get? a).map fun o => (a, o)
end
end Att

namespace L2
open PySem PySem.Spec PyProof.Rows

theorem vals_ints : ∀ {vs : List Value} {ns : List Int}, IntsAre vs ns → Vals (ns.map V.int) vs
  | _, _, .nil => .nil
  | _, _, .cons n t h => .cons ⟨t, rfl⟩ (vals_ints h)

/-- nothing is tracked but the script, known to the object (or it is an object of the module) -/
def Only (H : Hp) : Prop := ∀ b, H b = none ∨ ∃ o xs, H b = some (.frz o (.lst xs))

/-- THE HEAD: the law's promise, at the heap behind the top. F, the promise of the law's def, may use that base is part of the heap (so K.In base, base.Ns mainGlobals mg stand in Mod) -/
theorem law_call {P : Program} {w : World} {K : PySem.W.Frag} {mg mb : Str → Option Value} {CX : CXT} {k : Nat} {fa a : Addr} {fd : FuncData} {x : Str} {sp : Sp} {s₁ : Shared} {vs : List Value} {ns : List Int}
    (KX : K.In s₁.heap) (hns : s₁.heap.Ns mainGlobals mg) (hb : s₁.heap.Ns builtinsNs mb) (hbb : ∀ x : Str, x ≠ "__name__" → mb x = bootBuiltins x) (hlim : s₁.heap.NoLimit) (hg : s₁.gens = #[])
    (ha : s₁.heap.get? a = some { cls := .type "list", data := .seq vs.toArray }) (hi : IntsAre vs ns) (hl : ns.length ≤ sizeLine) (hr : Room k callerA)
    (F : ∀ base : Heap, K.In base → base.Ns mainGlobals mg → FnOk P w K mg base CX k fa fd [x] sp) (hbind : ∀ (s : Shared) (u : Value), BindsTo s fd ⟨[u], []⟩ [(x, u)])
    (hsp : ∀ H : Hp, Only H → SqL K H a (ns.map V.int) → sp [.ref a] H (fun v _ => v = .bl true) fun _ _ _ => False)
    (hCX : ∀ H e s', CX [] H s₁ (fun _ _ _ => False) e s' → False) :
    codeAny (model P w) callerA (.call (.ref fa) ⟨[.ref a], []⟩) (fun r s' => r = .ok (.ret (.bool true)) ∧ OldK s₁.heap s'.heap ∧ s'.os = s₁.os ∧ AllBare s'.gens) s₁ := by
  have rv := vals_ints hi
  have lenV := hi.length
  -- from an abstract heap in which nothing but the script may be tracked
  have core : ∀ H : Hp, Only H → SqL K H a (ns.map V.int) → HOk P w H s₁.heap → (∀ b, H b ≠ none → b = a) → (H a ≠ none → K.lookup a = none) →
      codeAny (model P w) callerA (.call (.ref fa) ⟨[.ref a], []⟩) (fun r s' => r = .ok (.ret (.bool true)) ∧ OldK s₁.heap s'.heap ∧ s'.os = s₁.os ∧ AllBare s'.gens) s₁ := by
    intro H hO hS hok hA hK
    have base_of : ∀ {b : Addr} {o : Obj}, s₁.heap.get? b = some o → H b = none → (hidT s₁.heap H).get? b = some o := fun e n => hidT_get e n
    have noA : ∀ {b : Addr} {o : Obj} {es : Array DictEntry} {ep : Nat}, s₁.heap.get? b = some o → o.data = .dict es ep → H b = none := fun {b o es ep} e d => by
      cases q : H b with
      | none => rfl
      | some u =>
        have e' : b = a := hA b (by rw [q]; simp)
        subst e'
        rw [ha] at e; cases e
        have d' : Data.seq vs.toArray _ = Data.dict es ep := d
        cases d'
    have nsK : ∀ {b : Addr} {m : Str → Option Value}, s₁.heap.Ns b m → (hidT s₁.heap H).Ns b m := fun {b m} ⟨o, es, ep, e, d, r⟩ => ⟨o, es, ep, base_of e (noA e d), d, r⟩
    have hKb : K.In (hidT s₁.heap H) := fun b o e => base_of (KX b o e) (by
      cases q : H b with
      | none => rfl
      | some u =>
        have e' : b = a := hA b (by rw [q]; simp)
        subst e'
        rw [hK (by rw [q]; simp)] at e; cases e)
    have hM : Mod K mg (hidT s₁.heap H) := ⟨hKb, nsK hns, ⟨mb, nsK hb, hbb⟩, let ⟨mc, h1, h2⟩ := hlim; ⟨mc, nsK h1, h2⟩⟩
    have e0 : Env0 P w K mg (hidT s₁.heap H) callerA [] s₁ H := ⟨rfl, hM, fun b o e => of_hidT e, Nat.le_of_eq (hidT_size _ _), trivial, fun b hb => absurd (show b ∈ ([] : List Addr) from hb) (by simp), hok, .of_eq hg⟩
    refine codeAny_mono ((F _ hKb (nsK hns)).run callerA [] s₁ H ⟨[.ref a], []⟩ [.ref a] [.ref a] _ _ hr e0 (hbind s₁ (.ref a)) (.cons rfl .nil) (hsp H hO hS)) fun r s' h => ?_
    cases r with
    | error e => exact (hCX H e s' h).elim
    | ok fl =>
      cases fl with
      | next => exact False.elim h
      | brk => exact False.elim h
      | cont => exact False.elim h
      | ret u =>
        obtain ⟨v, H', os, bare, un, hok', r', q⟩ := h
        have q' : v = .bl true := q
        subst q'
        obtain rfl : u = Value.bool true := r'
        refine ⟨rfl, OldK.of_keep fun b o e => ?_, os, bare⟩
        cases q : H b with
        | none => exact un.keep b o e q (by intro z; exact absurd (show b ∈ ([] : List Addr) from z) (by simp)) (by simp)
        | some u =>
          rcases hO b with z | ⟨ob, xs, z⟩
          · rw [q] at z; cases z
          · have z2 := un.frzs b ob _ z
            obtain ⟨e1, _⟩ := hok b _ z
            obtain ⟨e2, _⟩ := hok' b _ z2
            rw [e] at e1; cases e1
            exact e2
  cases hk : K.lookup a with
  | some o =>
    -- the script is one of the module's own objects
    have e := KX a o hk
    rw [ha] at e
    cases e
    refine core (fun _ => none) (fun _ => .inl rfl) (.inr ⟨_, vs.toArray, _, hk, rfl, rfl, rfl, by rw [List.size_toArray, lenV]; exact hl, by simpa using rv⟩) (fun b u z => by have z' : (none : Option HO) = some u := z; cases z') (fun b z => absurd rfl z) fun z => absurd rfl z
  | none =>
    refine core (fun b => if b = a then some (.frz { cls := .type "list", data := .seq vs.toArray } (.lst (ns.map V.int))) else none) (fun b => ?_) (.inl (.inr ⟨{ cls := .type "list", data := .seq vs.toArray }, if_pos rfl⟩)) (fun b u z => ?_) (fun b z => ?_) fun _ => hk
    · by_cases hb : b = a
      · exact .inr ⟨_, _, if_pos hb⟩
      · exact .inl (if_neg hb)
    · by_cases hb : b = a
      · have z' := (if_pos hb).symm.trans z
        cases z'
        subst hb
        exact ⟨ha, by rw [List.length_map]; exact hl, vs, _, rv, ha⟩
      · have z' := (if_neg hb).symm.trans z
        cases z'
    · by_cases hb : b = a
      · exact hb
      · exact absurd (if_neg hb) z
end L2

namespace L2
open PySem PySem.Spec PyProof.Rows

abbrev KOf {K : PySem.W.Frag} {h : Heap} (_ : K.In h) : PySem.W.Frag := K

/-- the goal that k_head leaves (case hc), from the law's promise. F gives the function object fd (K's own) once, then the promise over every base -/
theorem walk_of {l : PySem.W.OpenLaw} {n k : Nat} {q : Program} {loose : List Str} {XP : (Str → Option Value) → Heap → Prop} {YP : World → Heap → Prop} {d : DefRec} {K : Params → PySem.W.Frag} {CX : World → CXT} {sp : World → Sp} {x : Str}
    (hn : l.most = some n) (hn2 : n ≤ sizeLine) (hdf : d.params.defaults = []) (hr : Room k callerA)
    (hY : ∀ (w : World) (h : Heap), YP w h → (K w.params).In h)
    (F : ∀ (w : World) (mg : Str → Option Value) (fa : Addr) (h : Heap), (K w.params).In h → h.Ns mainGlobals mg → mg d.name = some (.ref fa) →
      ∃ fd : FuncData, (∀ (s : Shared) (u : Value), BindsTo s fd ⟨[u], []⟩ [(x, u)]) ∧
        ∀ base : Heap, (K w.params).In base → base.Ns mainGlobals mg → FnOk l.prog w (K w.params) mg base (CX w) k fa fd [x] (sp w))
    (hsp : ∀ (w : World) (H : Hp) (a : Addr) (ns : List Int), ns.length ≤ n → Only H → SqL (K w.params) H a (ns.map V.int) → sp w [.ref a] H (fun v _ => v = .bl true) fun _ _ _ => False)
    (hCX : ∀ (w : World) (H : Hp) (s : Shared) (e : Value) (s' : Shared), CX w [] H s (fun _ _ _ => False) e s' → False) :
    PySem.W.WalkO q loose XP YP l.row.toRowW d [] (fun f vs => PySem.call f vs) := by
  refine Att.attach_call hn hdf fun w s₀ s₁ mg mb fa o pm cd doc a vs ns G Y ho hd hcd hmg hobj hints hlen hg => ?_
  have KX := hY w _ Y
  obtain ⟨fd, hb, hF⟩ := F w mg fa _ KX G.T.g hmg
  exact law_call KX G.T.g G.T.b G.T.builtins G.T.nolimit hg hobj hints (Nat.le_trans hlen hn2) hr hF hb (fun H hO hS => hsp w H a ns hlen hO hS) fun H e s' => hCX w H s₁ e s'
end L2

/- THE LAST THEOREM (shape; LID, My.* are yours):
   My.Adr: a structure of the addresses that your layer names (classes, functions); My.Txt K t: a structure (Prop) of the equations over K;
   My.txt_mk : {K} {implicit addresses ..} (e1 : nsIn K mainGlobals "law" = some (some (.ref f))) (e2 : K.lookup f = some ⟨oc, od, .func (fnOf "law" "law" params body scope dV kV doc pm an cdv ct), sl⟩) (e3 : codeIn K cdv "law" = true) .. : ∃ t, My.Txt K t

set_option maxRecDepth 100000 in
set_option maxHeartbeats 0 in
theorem PySem.Challenge.cw_LID_holds : PySem.Challenge.rw_LID.Holds := by
  w_on; o_law; k_head; (case hw => w_witness2)
  k_fill
  refine L2.walk_of (l := PySem.Challenge.rw_LID) (n := 63) (k := 40) (x := "script") (CX := fun w => ..) (sp := fun _ => My.sp_law) rfl (by decide) rfl ⟨rfl, by decide, by decide⟩ (fun w h Y => PySem.W.kIn_of Y) ?F ?S ?C
  case F =>
    intro w mg fa h KX G hmg
    have T : ∃ t, My.Txt (L2.KOf KX) t := by
      dsimp only [L2.KOf]                          -- K must stand as «<heap const> w.params» for k_is
      refine' My.txt_mk ?e1 ?e2 ?e3 ..
      (case e1 => PySem.W.k_is)                    -- in the order: a name -> its address -> its object -> its parts
      (case e2 => PySem.W.k_is)
      ..
    obtain ⟨t, T⟩ := T
    have e0 := hmg.symm.trans (PySem.W.mg_of KX G T.law)
    cases e0                                       -- fa is the law's own address
    exact ⟨_, fun s u => .of_eq rfl, fun base kb nb => My.law_fn T kb nb⟩     -- if «.of_eq rfl» comes too early: refine' ⟨_, ?b, fun base kb nb => My.law_fn T kb nb⟩; exact fun s u => .of_eq rfl
  case S => exact fun w H a ns hl hO hS => ..
  case C => exact ..
(the tactic k_is has no namespace: write k_is) -/

/-! SHORT WORDS over the layer: a def of the text, its body, what a loop and a test want. -/
namespace L2
open PySem PySem.Spec PyProof.Rows

/-! ### the text by places -/
/-- the j-th statement of a class's body -/
def inClass (s : Stmt) (j : Nat) : Stmt := match s with
  | .ClassDef _ _ _ body _ _ _ _ _ _ _ => body.getD j (.Pass ⟨0, 0, 0, 0⟩)
  | _ => .Pass ⟨0, 0, 0, 0⟩
def defArgs (s : Stmt) : Arguments := match s with
  | .FunctionDef _ a _ _ _ _ _ _ _ _ => a
  | _ => { posonlyargs := [], args := [], vararg := none, kwonlyargs := [], kw_defaults := [], kwarg := none, defaults := [] }
def defBody (s : Stmt) : List Stmt := match s with
  | .FunctionDef _ _ b _ _ _ _ _ _ _ => b
  | _ => []
def defScope (s : Stmt) : Scope := match s with
  | .FunctionDef _ _ _ _ _ _ sc _ _ _ => sc
  | _ => { kind := .function, names := [], isGenerator := false, isCoroutine := false }

/-! ### no exception leaves a def -/
abbrev CX0 : CXT := fun _ _ _ _ _ _ => False
abbrev E0 : XK := fun _ _ _ => False
theorem pass0 {X : Cx} : Passes CX0 X E0 := fun _ _ _ _ _ _ _ h => h.elim

/-! ### a def (or method) of the text as it stands behind the top -/
structure Fun (K : PySem.W.Frag) (x qual : Str) (st : Stmt) (f : Addr) (fd : FuncData) : Prop where
  ex : ∃ (oc : Value) (od : Option Addr) (kV doc pm : Value) (an : Option Addr) (cdv ct : Value) (osl : Array (Option Value)),
    fd = PySem.W.fnOf x qual (defArgs st) (defBody st) (defScope st) .none kV doc pm an cdv ct ∧ K.lookup f = some ⟨oc, od, .func fd, osl⟩ ∧ PySem.W.codeIn K cdv qual = true
  kp : PySem.W.keepIn K (.ref f) = true
section
variable {P : Program} {w : World} {K : PySem.W.Frag} {mg : Str → Option Value} {base : Heap}
/-- THE RULE for a def: its body as a term of rules, and the reading of that term -/
theorem Fun.ok {x qual : Str} {st : Stmt} {f : Addr} {fd : FuncData} {N ps : List Str} {k : Nat} {sp : Sp} (F : Fun K x qual st f fd) (S : FnScope N ps (defScope st)) (len : ∀ vs H Q E, sp vs H Q E → vs.length = ps.length)
    (hbody : ∀ (cdv : Value) (A : Around) (outer : List Env) (s : Shared) (H : Hp) (vs : List V) (Q : VK) (E : XK), Room k (A.deeper (envOfC qual (defScope st) s.heap.objs.size f cdv)) → sp vs H Q E →
      ∃ t, PSs (cxOf CX0 P w K mg base N qual (defScope st) f cdv A outer s H E).nox (defBody st) t ∧ t { nx := fun _ H' => Q .non H', rt := Q } (start N vs) H) : FnOk P w K mg base CX0 (k + 1) f fd ps sp := by
  obtain ⟨oc, od, kV, doc, pm, an, cdv, ct, osl, rfl, lk, hcd⟩ := F.ex
  refine fn_of lk hcd S len fun A outer s H vs Q E hr hsp => ?_
  obtain ⟨t, h, q⟩ := hbody cdv A outer s H vs Q E hr hsp
  exact ⟨t, h.nox, q⟩
/-- how its arguments bind (no defaults): h is «fun _ _ _ _ _ _ us hl => match us, hl with | [_, _], _ => rfl», one _ a parameter -/
theorem Fun.binds {x qual : Str} {st : Stmt} {f : Addr} {fd : FuncData} {ps : List Str} (F : Fun K x qual st f fd)
    (h : ∀ (kV doc pm : Value) (an : Option Addr) (cdv ct : Value) (us : List Value), us.length = ps.length → bindArgs (PySem.W.fnOf x qual (defArgs st) (defBody st) (defScope st) .none kV doc pm an cdv ct) ⟨us, []⟩ = pure (ps.zip us)) : Binds K fd ps [] := by
  obtain ⟨oc, od, kV, doc, pm, an, cdv, ct, osl, rfl, lk, hcd⟩ := F.ex
  exact .all (h kV doc pm an cdv ct)
theorem fun_mk {x qual : Str} {st : Stmt} {f : Addr} {oc : Value} {od an : Option Addr} {osl : Array (Option Value)} {kV doc pm cdv ct : Value} (l : K.lookup f = some ⟨oc, od, .func (PySem.W.fnOf x qual (defArgs st) (defBody st) (defScope st) .none kV doc pm an cdv ct), osl⟩)
    (c : PySem.W.codeIn K cdv qual = true) (k : PySem.W.keepIn K (.ref f) = true) : Fun K x qual st f (PySem.W.fnOf x qual (defArgs st) (defBody st) (defScope st) .none kV doc pm an cdv ct) := ⟨⟨oc, od, kV, doc, pm, an, cdv, ct, osl, rfl, l, c⟩, k⟩
end
theorem hu_of {A : Around} {k : Nat} (hr : Room k A) : A.units + 1 < cLine := Nat.lt_of_le_of_lt (Nat.add_le_add_left (by decide : 1 ≤ 64) _) hr.units
/-! ### expressions in short: the name that stands in the i-th slot -/
section
variable {X : Cx}
theorem pv (i : Nat) {x : Str} {pos : Pos} (hN : X.N[i]? = some x := by rfl) (hv : Vis X.env.scope x := by first | exact Or.inl rfl | exact Or.inr (Or.inl rfl) | exact Or.inr (Or.inr rfl)) (hd : (x == ("__debug__" : Str)) = false := by decide)
    (hcd : (x == ("__classdict__" : Str)) = false := by decide) : PE X (.Name x pos) (tVar i) := pe_var hN hv hd hcd
end

/-! ### tests -/
theorem ite2 {c A B : Prop} [Decidable c] (h1 : c → A) (h2 : ¬ c → B) : if c then A else B := by
  by_cases h : c
  · rw [if_pos h]
    exact h1 h
  · rw [if_neg h]
    exact h2 h
/-! ### heaps -/
/-- all that was tracked is as it was -/
def Same (H H' : Hp) : Prop := ∀ b o, H b = some o → H' b = some o
theorem Same.refl (H : Hp) : Same H H := fun _ _ h => h
theorem Same.trans {H H1 H2 : Hp} (a : Same H H1) (b : Same H1 H2) : Same H H2 := fun c o h => b c o (a c o h)
theorem Same.free {H H' : Hp} (e : Same H H') {l : Addr} (h : H' l = Option.none) : H l = Option.none := by
  cases q : H l with
  | none => rfl
  | some o =>
    rw [e l o q] at h
    cases h
theorem Same.seq {K : PySem.W.Frag} {H H' : Hp} {a : Addr} {xs : List V} (e : Same H H') (h : SqL K H a xs) : SqL K H' a xs := by
  rcases h with (h | ⟨o, h⟩) | h
  · exact .inl (.inl (e _ _ h))
  · exact .inl (.inr ⟨o, e _ _ h⟩)
  · exact .inr h

end L2

set_option Elab.async false
set_option linter.all false
set_option maxRecDepth 100000
namespace L2
open PySem PySem.Spec PyProof.Rows

end L2

namespace L2
open PySem PySem.Spec PyProof.Rows

section
variable (P : Program) (w : World)
end

section
variable {P : Program} {w : World} {H H' : Hp} {h h' : Heap} {a : Addr} {o : HO}
end

section
variable {P : Program} {w : World} {H : Hp} {h h' : Heap} {x e : Addr} {o' : HO}
end

section
variable {fs fs' ex ex' : List Addr} {H H1 H2 : Hp} {h h1 h2 h' : Heap} {a x e : Addr} {o : HO}
end

end L2

namespace L2
open PySem PySem.Spec PyProof.Rows

section
variable {X : Cx} {pins : List (Addr × Obj)} {σ : List (Option V)} {H H' : Hp} {s : Shared} {h' : Heap}

end

end L2

namespace L2
open PySem PySem.Spec PyProof.Rows
section
variable {X : Cx}

variable {a b : Expr} {ta tb : TE} {pos : Pos}
variable {tA tB' : TT} {rest : List Expr}
end
end L2

namespace L2
open PySem PySem.Spec PyProof.Rows

section
variable {X : Cx} {pins : List (Addr × Obj)} {σ : St} {H : Hp} {s : Shared} {a : Addr} {xs ys : List V}
end

section
variable {X : Cx} {pins : List (Addr × Obj)} {σ : St} {H : Hp} {s : Shared} {E : Value → Shared → Prop}
end

section
variable {X : Cx} {st : Stmt} {rest : List Stmt} {t u : TS} {e : Expr} {te : TE} {pos : Pos}
end

section
variable {X : Cx} {pos : Pos}
end

section
variable {X : Cx} {pos : Pos}
end

end L2

namespace L2
open PySem PySem.Spec PyProof.Rows
section
variable {X : Cx} {tg : Expr}
end

end L2

namespace L2
open PySem PySem.Spec PyProof.Rows

section
variable {X : Cx} {a b c : Expr} {ta tb tc : TE} {pos : Pos}

end

section
variable {X : Cx} {a b c : Expr} {ta tb tc : TE} {pos : Pos}
end
end L2

namespace L2
open PySem PySem.Spec PyProof.Rows

section
variable {prog : Program} {w : World} {A : Around} {E : Value → Shared → Prop} {s : Shared} {K : PySem.W.Frag} {x dx C f : Addr} {mA : Str → Option Value} {name : Str} {v : Value}

end

section
variable {P : Program} {w : World} {H H' : Hp} {h h' : Heap} {a C dx : Addr} {fs fs' : List (Str × V)}
end

section
variable {X : Cx} {pins : List (Addr × Obj)} {σ : St} {H : Hp} {s : Shared} {a C dx : Addr} {fs : List (Str × V)} {f : Str} {v : V} {A : Around} {E : Value → Shared → Prop}

end

section
variable {X : Cx} {o e value : Expr} {f : Str} {pos pos' tpos : Pos} {ta tv : TE}
end

section
variable {X : Cx} {pins : List (Addr × Obj)} {σ : St} {H : Hp} {s : Shared} {A : Around} {E : Value → Shared → Prop} {Q : Value → Shared → Prop} {c : Value} {b : Bool}
end
end L2

namespace L2
open PySem PySem.Spec PyProof.Rows

section
variable {X : Cx} {e : Expr} {es : List Expr} {te : TE} {t : TA} {pos : Pos}
end

section
variable {X : Cx} {pins : List (Addr × Obj)} {σ : St} {H : Hp} {s s' : Shared}
end

section
variable {X : Cx} {CX : CXT} {k : Nat} {f C : Addr} {fd : FuncData} {ps : List Str} {sp : Sp} {dvs : List V} {ds : List Value} {E : XK} {x m : Str} {p pos apos : Pos} {e o : Expr} {es : List Expr} {ta : TE} {t : TA}

end

section
variable {X : Cx} {CX : CXT} {k : Nat} {f C : Addr} {fd : FuncData} {ps ks : List Str} {sp : Sp} {E : XK} {x m : Str} {p pos apos kpos : Pos} {e o : Expr} {es : List Expr} {kws : List Keyword} {te ta : TE} {t tk : TA} {nm : Option Str}
variable {g : List Value → List Value → List Value} {gV : List V → List V → List V}
end

end L2

namespace L2
open PySem PySem.Spec PyProof.Rows
section
variable {X : Cx} {x : Str} {p pos : Pos} {e : Expr} {es : List Expr} {t : TA} {id T : String} {r : List V → Hp → VK → Prop}

end
end L2

namespace L2
open PySem PySem.Spec PyProof.Rows

section
variable {κ : Type} [DecidableEq κ]
def valV (kvs : List (κ × V)) (k : κ) : Option V := (kvs.find? fun kv => decide (kv.1 = k)).map (·.2)
def putK (kvs : List (κ × V)) (k : κ) (v : V) : List (κ × V) :=
  if (kvs.any fun kv => decide (kv.1 = k)) = true then kvs.map (fun kv => if kv.1 = k then (kv.1, v) else kv) else kvs ++ [(k, v)]
def dropK (kvs : List (κ × V)) (k : κ) : List (κ × V) := kvs.filter fun kv => decide (kv.1 ≠ k)

theorem valV_nil {k : κ} : valV ([] : List (κ × V)) k = none := rfl
theorem valV_pos {p : κ × V} {r : List (κ × V)} {k : κ} (e : p.1 = k) : valV (p :: r) k = some p.2 := by simp [valV, List.find?_cons, e]
theorem valV_neg {p : κ × V} {r : List (κ × V)} {k : κ} (e : ¬ p.1 = k) : valV (p :: r) k = valV r k := by simp [valV, List.find?_cons, e]
theorem valV_any (k : κ) : ∀ kvs : List (κ × V), (kvs.any fun kv => decide (kv.1 = k)) = (valV kvs k).isSome
  | [] => rfl
  | p :: r => by
    rw [List.any_cons]
    by_cases e : p.1 = k
    · simp only [valV_pos e, decide_eq_true e, Bool.true_or, Option.isSome_some]
    · rw [valV_neg e, decide_eq_false e, Bool.false_or]; exact valV_any k r
theorem valV_map (k j : κ) (y : V) : ∀ kvs : List (κ × V), valV (kvs.map fun kv => if kv.1 = k then (kv.1, y) else kv) j = (valV kvs j).map fun x => if j = k then y else x
  | [] => rfl
  | p :: r => by
    have ih := valV_map k j y r
    rw [List.map_cons]
    by_cases h : p.1 = k
    · rw [if_pos h]
      by_cases e : p.1 = j
      · rw [valV_pos (p := (p.1, y)) e, valV_pos e, Option.map_some, if_pos (e.symm.trans h)]
      · rw [valV_neg (p := (p.1, y)) e, valV_neg e, ih]
    · rw [if_neg h]
      by_cases e : p.1 = j
      · rw [valV_pos (p := p) e, valV_pos e, Option.map_some, if_neg (fun z => h (e.trans z))]
      · rw [valV_neg (p := p) e, valV_neg e, ih]
theorem valV_snoc (k j : κ) (y : V) : ∀ kvs : List (κ × V), valV kvs k = none → valV (kvs ++ [(k, y)]) j = if j = k then some y else valV kvs j
  | [], _ => by
    by_cases e : k = j
    · rw [if_pos e.symm]; exact valV_pos (p := (k, y)) e
    · rw [if_neg (fun z => e z.symm)]; exact valV_neg (p := (k, y)) e
  | p :: r, hn => by
    rw [List.cons_append]
    have hk : ¬ p.1 = k := fun z => by rw [valV_pos z] at hn; cases hn
    rw [valV_neg hk] at hn
    have ih := valV_snoc k j y r hn
    by_cases e : p.1 = j
    · rw [valV_pos e, valV_pos e, if_neg (fun z => hk (e.trans z))]
    · rw [valV_neg e, valV_neg e, ih]
theorem valV_put (kvs : List (κ × V)) (k j : κ) (y : V) : valV (putK kvs k y) j = if j = k then some y else valV kvs j := by
  unfold putK
  by_cases a : (kvs.any fun kv => decide (kv.1 = k)) = true
  · rw [if_pos a, valV_map]
    rw [valV_any] at a
    by_cases e : j = k
    · obtain ⟨x, hx⟩ := Option.isSome_iff_exists.mp a
      rw [if_pos e, e, hx, Option.map_some, if_pos rfl]
    · rw [if_neg e]
      cases valV kvs j with
      | none => rfl
      | some x => rw [Option.map_some, if_neg e]
  · rw [if_neg a]
    refine valV_snoc k j y kvs ?_
    rw [valV_any] at a
    cases q : valV kvs k with
    | none => rfl
    | some x => rw [q] at a; exact (a rfl).elim
theorem length_putK (kvs : List (κ × V)) (k : κ) (v : V) : (putK kvs k v).length ≤ kvs.length + 1 := by
  unfold putK
  split
  · rw [List.length_map]; omega
  · rw [List.length_append, List.length_cons, List.length_nil]; omega
theorem putK_new {kvs : List (κ × V)} {k : κ} (v : V) (h : valV kvs k = none) : putK kvs k v = kvs ++ [(k, v)] := by
  unfold putK
  rw [valV_any, h]
  exact if_neg (by decide)

theorem RelO.isSome_eq {o : Option V} {u : Option Value} (r : RelO o u) : o.isSome = u.isSome := by
  cases o with
  | none => cases u with
    | none => rfl
    | some _ => exact (show False from r).elim
  | some _ => cases u with
    | none => exact (show False from r).elim
    | some _ => rfl
theorem RelO.getD {o : Option V} {u : Option Value} {d : V} {d' : Value} (r : RelO o u) (rd : RelV d d') : RelV (o.getD d) (u.getD d') := by
  cases o with
  | none => cases u with
    | none => exact rd
    | some _ => exact (show False from r).elim
  | some _ => cases u with
    | none => exact (show False from r).elim
    | some _ => exact r

theorem KV.val {kvs : List (κ × V)} {vs : List (κ × Value)} (r : KV kvs vs) (k : κ) : RelO (valV kvs k) (valueAt vs k) := by
  unfold KV at r
  induction r with
  | nil => exact True.intro
  | @cons p q ps qs h t ih =>
    obtain ⟨h1, h2⟩ := h
    by_cases e : p.1 = k
    · have e' : q.1 = k := h1.symm.trans e
      have b : valueAt (q :: qs) k = some q.2 := by simp [valueAt, List.find?_cons, e']
      rw [valV_pos e, b]; exact h2
    · have e' : ¬ q.1 = k := fun z => e (h1.trans z)
      have b : valueAt (q :: qs) k = valueAt qs k := by simp [valueAt, List.find?_cons, e']
      rw [valV_neg e, b]; exact ih
theorem KV.any {kvs : List (κ × V)} {vs : List (κ × Value)} (r : KV kvs vs) (k : κ) : (kvs.any fun kv => decide (kv.1 = k)) = vs.any fun kv => decide (kv.1 = k) := by
  unfold KV at r
  induction r with
  | nil => rfl
  | cons h t ih => rw [List.any_cons, List.any_cons, ih, h.1]
theorem KV.repl {kvs : List (κ × V)} {vs : List (κ × Value)} (r : KV kvs vs) (k : κ) {y : V} {u : Value} (ry : RelV y u) :
    KV (kvs.map fun kv => if kv.1 = k then (kv.1, y) else kv) (vs.map fun kv => if kv.1 = k then (kv.1, u) else kv) := by
  unfold KV at r ⊢
  induction r with
  | nil => exact .nil
  | @cons p q ps qs h t ih =>
    rw [List.map_cons, List.map_cons]
    refine .cons ?_ ih
    obtain ⟨h1, h2⟩ := h
    by_cases e : p.1 = k
    · rw [if_pos e, if_pos (h1.symm.trans e)]; exact ⟨h1, ry⟩
    · rw [if_neg e, if_neg (fun z => e (h1.trans z))]; exact ⟨h1, h2⟩
theorem KV.put {kvs : List (κ × V)} {vs : List (κ × Value)} (r : KV kvs vs) (k : κ) {y : V} {u : Value} (ry : RelV y u) : KV (putK kvs k y) (stored vs k u) := by
  unfold putK stored
  rw [r.any k]
  by_cases e : (vs.any fun kv => decide (kv.1 = k)) = true
  · rw [if_pos e, if_pos e]; exact r.repl k ry
  · rw [if_neg e, if_neg e]; exact Paired.snoc r ⟨rfl, ry⟩
theorem KV.drop {kvs : List (κ × V)} {vs : List (κ × Value)} (r : KV kvs vs) (k : κ) : KV (dropK kvs k) (without vs k) := by
  unfold KV at r ⊢
  unfold dropK without
  induction r with
  | nil => exact .nil
  | @cons p q ps qs h t ih =>
    obtain ⟨h1, h2⟩ := h
    rw [List.filter_cons, List.filter_cons]
    by_cases e : p.1 = k
    · have a : ¬ decide (p.1 ≠ k) = true := by simp [e]
      have b : ¬ decide (q.1 ≠ k) = true := by simp [h1.symm.trans e]
      rw [if_neg a, if_neg b]; exact ih
    · have e' : ¬ q.1 = k := fun z => e (h1.trans z)
      have a : decide (p.1 ≠ k) = true := by simp [e]
      have b : decide (q.1 ≠ k) = true := by simp [e']
      rw [if_pos a, if_pos b]; exact .cons ⟨h1, h2⟩ ih
theorem KV.keys {kvs : List (κ × V)} {vs : List (κ × Value)} (r : KV kvs vs) : kvs.map (·.1) = vs.map (·.1) := by
  unfold KV at r
  induction r with
  | nil => rfl
  | cons h t ih => rw [List.map_cons, List.map_cons, ih, h.1]
theorem KV.length {kvs : List (κ × V)} {vs : List (κ × Value)} (r : KV kvs vs) : kvs.length = vs.length := Paired.length r
theorem dropK_le (kvs : List (κ × V)) (k : κ) : (dropK kvs k).length ≤ kvs.length := List.length_filter_le _ _
end


theorem kV_is {P : Program} {w : World} {k : Key} {u : Value} (r : RelV (kV k) u) : (mixKind P w).is k u = true := by
  cases k with
  | inl i => obtain ⟨t, e⟩ := (show ∃ t, u = Value.int i t from r); subst e; exact mixKind_int P w i t
  | inr x => obtain ⟨t, e⟩ := (show ∃ t, u = Value.str x t from r); subst e; exact mixKind_str P w x t
theorem items_are {P : Program} {w : World} : ∀ {ks : List Key} {us : List Value}, Vals (ks.map kV) us → ItemsAre (mixKind P w) ks us
  | [], _, r => by rw [List.map_nil] at r; cases r; exact .nil
  | k :: ks, _, r => by
    rw [List.map_cons] at r
    cases r with
    | cons h t => exact .cons (kV_is h) (items_are t)

abbrev KT (H : Hp) : List (List Key × V) → List (List Key × Addr × Value) → Prop := Paired fun p q => p.1 = q.1 ∧ H q.2.1 = some (.tup (p.1.map kV)) ∧ RelV p.2 q.2.2
theorem KT.val {H : Hp} {kvs : List (List Key × V)} {xs : List (List Key × Addr × Value)} (r : KT H kvs xs) (k : List Key) : RelO (valV kvs k) ((atKey xs k).map (·.2)) := by
  induction r with
  | nil => exact True.intro
  | @cons p q ps qs h t ih =>
    obtain ⟨h1, _, h2⟩ := h
    by_cases e : p.1 = k
    · have e' : q.1 = k := h1.symm.trans e
      have b : atKey (q :: qs) k = some q.2 := by simp [atKey, List.find?_cons, e']
      rw [valV_pos e, b]; exact h2
    · have e' : ¬ q.1 = k := fun z => e (h1.trans z)
      have b : atKey (q :: qs) k = atKey qs k := by simp [atKey, List.find?_cons, e']
      rw [valV_neg e, b]; exact ih
theorem KT.repl {H : Hp} {kvs : List (List Key × V)} {xs : List (List Key × Addr × Value)} (r : KT H kvs xs) (k : List Key) {y : V} {u : Value} (ry : RelV y u) :
    KT H (kvs.map fun kv => if kv.1 = k then (kv.1, y) else kv) (xs.map (putAt k u)) := by
  induction r with
  | nil => exact .nil
  | @cons p q ps qs h t ih =>
    rw [List.map_cons, List.map_cons]
    refine .cons ?_ ih
    obtain ⟨h1, h2, h3⟩ := h
    unfold putAt
    by_cases e : p.1 = k
    · rw [if_pos e, if_pos (h1.symm.trans e)]; exact ⟨h1, h2, ry⟩
    · rw [if_neg e, if_neg (fun z => e (h1.trans z))]; exact ⟨h1, h2, h3⟩
theorem KT.put {H : Hp} {kvs : List (List Key × V)} {xs : List (List Key × Addr × Value)} (r : KT H kvs xs) (k : List Key) {b : Addr} {y : V} {u : Value} (hb : H b = some (.tup (k.map kV))) (ry : RelV y u) :
    KT H (putK kvs k y) (storedH xs k b u) := by
  have e : (kvs.any fun kv => decide (kv.1 = k)) = (atKey xs k).isSome := by
    rw [valV_any, (r.val k).isSome_eq, Option.isSome_map]
  unfold putK storedH
  rw [e]
  by_cases q : (atKey xs k).isSome = true
  · rw [if_pos q, if_pos q]; exact r.repl k ry
  · rw [if_neg q, if_neg q]; exact Paired.snoc r ⟨rfl, hb, ry⟩
theorem KT.keeps {H H' : Hp} {kvs : List (List Key × V)} {xs : List (List Key × Addr × Value)} (r : KT H kvs xs) (ht : ∀ b ys, H b = some (.tup ys) → H' b = some (.tup ys)) : KT H' kvs xs :=
  Paired.mapP r fun _ _ z => ⟨z.1, ht _ _ z.2.1, z.2.2⟩

section
variable {P : Program} {w : World} {H : Hp} {h : Heap} {a : Addr}
theorem rd_of {u : HO} (ok : HOk P w H h) (e : Rd H a u) : ObjOk P w H h a u := e.ok ok
theorem dk_rd {kvs : List (Key × V)} (ok : HOk P w H h) (e : Rd H a (.dK kvs)) : kvs.length ≤ sizeLine ∧ (a == sysModules) = false ∧ ∃ vs, KV kvs vs ∧ h.DictOf (mixKind P w) a vs :=
  show ObjOk P w H h a (.dK kvs) from rd_of ok e
theorem dk_of {kvs : List (Key × V)} (ok : HOk P w H h) (e : H a = some (.dK kvs)) : kvs.length ≤ sizeLine ∧ (a == sysModules) = false ∧ ∃ vs, KV kvs vs ∧ h.DictOf (mixKind P w) a vs := dk_rd ok (.inl e)
theorem key_of {ks : List Key} (ok : HOk P w H h) (e : H a = some (.tup (ks.map kV))) : (tupleKind (mixKind P w)).is h ks a := by
  obtain ⟨_, its, r, o, h1, h2, n, h3⟩ := (show ObjOk P w H h a (.tup (ks.map kV)) from ok a _ e)
  exact ⟨o, its.toArray, n, h1, h2, h3, by simpa using items_are r⟩
theorem dt_rd {kvs : List (List Key × V)} (ok : HOk P w H h) (e : Rd H a (.dT kvs)) : kvs.length ≤ sizeLine ∧ (a == sysModules) = false ∧
    ∃ xs, KT H kvs xs ∧ h.DictOfH (tupleKind (mixKind P w)) a xs := by
  obtain ⟨z, y, xs, r, o, es, ep, h1, h2, h3, h4, h5⟩ := (show ObjOk P w H h a (.dT kvs) from rd_of ok e)
  refine ⟨z, y, xs, r, o, es, ep, h1, h2, h3, h4, fun x hx => ?_, h5⟩
  have all : ∀ {l : List (List Key × V)} {m : List (List Key × Addr × Value)}, KT H l m → ∀ x ∈ m, (tupleKind (mixKind P w)).is h x.1 x.2.1 := by
    intro l m q
    induction q with
    | nil => intro x hx; exact nomatch hx
    | @cons p q ps qs hq t ih =>
      intro x hx
      rcases List.mem_cons.mp hx with e | hx
      · subst e
        exact key_of ok (by rw [← hq.1]; exact hq.2.1)
      · exact ih x hx
  exact all r x hx
theorem dt_of {kvs : List (List Key × V)} (ok : HOk P w H h) (e : H a = some (.dT kvs)) : kvs.length ≤ sizeLine ∧ (a == sysModules) = false ∧
    ∃ xs, KT H kvs xs ∧ h.DictOfH (tupleKind (mixKind P w)) a xs := dt_rd ok (.inl e)
end

def DGet (H : Hp) (a : Addr) (y : V) (r : Option V) : Prop :=
  (∃ kvs k, Rd H a (.dK kvs) ∧ y = kV k ∧ r = valV kvs k) ∨ ∃ kvs k b, Rd H a (.dT kvs) ∧ y = .ref b ∧ H b = some (.tup (k.map kV)) ∧ r = valV kvs k
def DPut (H : Hp) (a : Addr) (y v : V) (H' : Hp) : Prop :=
  (∃ kvs k, H a = some (.dK kvs) ∧ y = kV k ∧ kvs.length < sizeLine ∧ H' = upd H a (.dK (putK kvs k v))) ∨
  ∃ kvs k b, H a = some (.dT kvs) ∧ y = .ref b ∧ H b = some (.tup (k.map kV)) ∧ kvs.length < sizeLine ∧ H' = upd H a (.dT (putK kvs k v))
theorem DGet.k {H : Hp} {a : Addr} {kvs : List (Key × V)} {k : Key} (e : H a = some (.dK kvs)) : DGet H a (kV k) (valV kvs k) := .inl ⟨kvs, k, .inl e, rfl, rfl⟩
theorem DGet.t {H : Hp} {a b : Addr} {kvs : List (List Key × V)} {k : List Key} (e : H a = some (.dT kvs)) (eb : H b = some (.tup (k.map kV))) : DGet H a (.ref b) (valV kvs k) := .inr ⟨kvs, k, b, .inl e, rfl, eb, rfl⟩
theorem DPut.k {H : Hp} {a : Addr} {kvs : List (Key × V)} {k : Key} {v : V} (e : H a = some (.dK kvs)) (hl : kvs.length < sizeLine) : DPut H a (kV k) v (upd H a (.dK (putK kvs k v))) := .inl ⟨kvs, k, e, rfl, hl, rfl⟩
theorem DPut.t {H : Hp} {a b : Addr} {kvs : List (List Key × V)} {k : List Key} {v : V} (e : H a = some (.dT kvs)) (eb : H b = some (.tup (k.map kV))) (hl : kvs.length < sizeLine) :
    DPut H a (.ref b) v (upd H a (.dT (putK kvs k v))) := .inr ⟨kvs, k, b, e, rfl, eb, hl, rfl⟩


section
variable {X : Cx} {pins : List (Addr × Obj)} {σ : St} {H : Hp} {s : Shared} {a : Addr} {y v : V} {u r : Value} {o : Option V} {A : Around} {E : Value → Shared → Prop}

theorem Inv.big (I : Inv X pins σ H s) : sysModules < s.heap.objs.size := by
  have h : mainGlobals < s.heap.objs.size := (I.mod.glob.keeps I.bk).lt
  exact Nat.lt_trans (by decide) h

theorem d_getItem {Q : Value → Shared → Prop} (hu : A.units + 1 < cLine) (I : Inv X pins σ H s) (g : DGet H a y (some v)) (ry : RelV y u) (h : ∀ w' s', Inv X pins σ H s' → RelV v w' → Q w' s') :
    wpAny (model X.prog X.w) A (getItem (.ref a) u) Q E s := by
  rcases g with ⟨kvs, k, e, ey, l⟩ | ⟨kvs, k, b, e, ey, eb, l⟩
  · subst ey
    obtain ⟨z, hd, vs, rel, dd⟩ := dk_rd I.hok e
    obtain ⟨w', hw, rw'⟩ := RelO.some_of (v := v) (o := valueAt vs k) (by rw [l]; exact rel.val k)
    exact wpAny_getItem_of (kV_is ry) dd.mapOf hw (h w' _ (I.tok _) rw')
  · subst ey
    cases (show u = Value.ref b from ry)
    obtain ⟨z, hd, xs, rel, dd⟩ := dt_rd I.hok e
    obtain ⟨w', hw, rw'⟩ := RelO.some_of (v := v) (o := (atKey xs k).map (·.2)) (by rw [l]; exact rel.val k)
    obtain ⟨p, hp, hp2⟩ := Option.map_eq_some_iff.mp hw
    refine wpAny_getItem_heap (tupleKind_room_in1 hu) (key_of I.hok eb) dd hp ?_
    rw [hp2]
    exact h w' _ (I.tok _) rw'
theorem d_in {Q : Value → Shared → Prop} (hu : A.units + 1 < cLine) (I : Inv X pins σ H s) (g : DGet H a y o) (ry : RelV y u) (h : ∀ s', Inv X pins σ H s' → Q (.bool o.isSome) s') :
    wpAny (model X.prog X.w) A (compareOp .In u (.ref a)) Q E s := by
  rcases g with ⟨kvs, k, e, ey, l⟩ | ⟨kvs, k, b, e, ey, eb, l⟩
  · subst ey
    obtain ⟨z, hd, vs, rel, dd⟩ := dk_rd I.hok e
    refine wpAny_in_of (kV_is ry) hd dd.mapOf ?_
    rw [← (rel.val k).isSome_eq, ← l]
    exact h _ (I.tok _)
  · subst ey
    cases (show u = Value.ref b from ry)
    obtain ⟨z, hd, xs, rel, dd⟩ := dt_rd I.hok e
    refine wpAny_in_heap (tupleKind_room_in1 hu) (key_of I.hok eb) hd dd ?_
    have q := (rel.val k).isSome_eq
    rw [Option.isSome_map] at q
    rw [← q, ← l]
    exact h _ (I.tok _)
theorem d_notIn {Q : Value → Shared → Prop} (hu : A.units + 1 < cLine) (I : Inv X pins σ H s) (g : DGet H a y o) (ry : RelV y u) (h : ∀ s', Inv X pins σ H s' → Q (.bool (!o.isSome)) s') :
    wpAny (model X.prog X.w) A (compareOp .NotIn u (.ref a)) Q E s := by
  rcases g with ⟨kvs, k, e, ey, l⟩ | ⟨kvs, k, b, e, ey, eb, l⟩
  · subst ey
    obtain ⟨z, hd, vs, rel, dd⟩ := dk_rd I.hok e
    refine wpAny_notIn_of (kV_is ry) hd dd.mapOf ?_
    rw [← (rel.val k).isSome_eq, ← l]
    exact h _ (I.tok _)
  · subst ey
    cases (show u = Value.ref b from ry)
    obtain ⟨z, hd, xs, rel, dd⟩ := dt_rd I.hok e
    refine wpAny_notIn_heap (tupleKind_room_in1 hu) (key_of I.hok eb) hd dd ?_
    have q := (rel.val k).isSome_eq
    rw [Option.isSome_map] at q
    rw [← q, ← l]
    exact h _ (I.tok _)
theorem d_write {h' : Heap} {t' : Nat} {ob : HO} (I : Inv X pins σ H s) (mu : Mut (H a)) (hs : Heap.SameBut a s.heap h') (he : ∃ q, h'.get? a = some q) (new : ObjOk X.prog X.w (upd H a ob) h' a ob) :
    Inv X pins σ (upd H a ob) { s with heap := h', toks := t' } :=
  I.write (x := a) (e := a) mu (.inl rfl) (fun b q hb z => (hs.2 b hb).trans z) he new
theorem dk_new {P : Program} {w : World} {H' : Hp} {h' : Heap} {kvs : List (Key × V)} {vs : List (Key × Value)} (z : kvs.length ≤ sizeLine) (hd : (a == sysModules) = false) (rel : KV kvs vs) (dd : h'.DictOf (mixKind P w) a vs) :
    ObjOk P w H' h' a (.dK kvs) := ⟨z, hd, vs, rel, dd⟩
theorem d_setItem {H' : Hp} {Q : Unit → Shared → Prop} (hu : A.units + 1 < cLine) (I : Inv X pins σ H s) (g : DPut H a y v H') (ry : RelV y u) (rv : RelV v r) (h : ∀ s', Inv X pins σ H' s' → Q () s') :
    wpAny (model X.prog X.w) A (setItem (.ref a) u r) Q E s := by
  rcases g with ⟨kvs, k, e, ey, l, eH⟩ | ⟨kvs, k, b, e, ey, eb, l, eH⟩
  · subst ey eH
    obtain ⟨z, hd, vs, rel, dd⟩ := dk_of I.hok e
    have hz : vs.length ≤ sizeLine := by rw [← rel.length]; exact z
    have hl : (putK kvs k v).length ≤ sizeLine := by have := length_putK kvs k v; omega
    refine wpAny_setItem_pairs (hsz := hz) (kV_is ry) dd fun h' dd' hs => h _ ?_
    have he : ∃ q, h'.get? a = some q := let ⟨q, _, _, hq, _⟩ := dd'; ⟨q, hq⟩
    exact d_write I (by rw [e]; exact True.intro) hs he (dk_new hl hd (rel.put k rv) dd')
  · subst ey eH
    cases (show u = Value.ref b from ry)
    obtain ⟨z, hd, xs, rel, dd⟩ := dt_of I.hok e
    have hz : xs.length ≤ sizeLine := by rw [← Paired.length rel]; exact z
    have hl : (putK kvs k v).length ≤ sizeLine := by have := length_putK kvs k v; omega
    refine wpAny_setItem_heap (hsz := hz) (tupleKind_room_in1 hu) (key_of I.hok eb) dd fun h' dd' hs => h _ ?_
    obtain ⟨q, es, ep, hq, h2, h3, h4, _, h5⟩ := dd'
    refine d_write I (by rw [e]; exact True.intro) hs ⟨q, hq⟩ ⟨hl, hd, _, (rel.put k eb rv).keeps fun c ys ec => ?_, q, es, ep, hq, h2, h3, h4, h5⟩
    rw [upd_ne (ne_of ec e (fun z => nomatch z))]
    exact ec
end

section
variable {X : Cx} {pins : List (Addr × Obj)} {σ : St} {H : Hp} {s : Shared} {a : Addr} {kvs : List (Key × V)} {k : Key} {u : Value} {A : Around} {E : Value → Shared → Prop}
theorem d_len {Q : Value → Shared → Prop} (I : Inv X pins σ H s) (e : Rd H a (.dK kvs)) (h : ∀ t s', Inv X pins σ H s' → Q (.int kvs.length t) s') : wpAny (model X.prog X.w) A (call (.builtin "len") [.ref a]) Q E s := by
  obtain ⟨z, hd, vs, rel, dd⟩ := dk_rd I.hok e
  refine call_len_dict hd dd (by rw [← rel.length]; rw [sizeLine_eq] at z; omega) ?_
  rw [← rel.length]
  exact h _ _ (I.tok _)
end


def NoSl (i : Expr) : Prop := ∀ ov iv, subscripted i false ov iv = operate [ov, iv] (getItem ov iv)
theorem dict_typeIs {X : Cx} {pins : List (Addr × Obj)} {σ : St} {H : Hp} {s : Shared} {a : Addr} {y : V} {o : Option V} (I : Inv X pins σ H s) (g : DGet H a y o) : s.TypeIs (.ref a) "dict" := by
  rcases g with ⟨kvs, k, e, _, _⟩ | ⟨kvs, k, b, e, _, _, _⟩
  · obtain ⟨_, _, vs, _, dd⟩ := dk_rd I.hok e
    exact dd.typeIs
  · obtain ⟨_, _, xs, _, dd⟩ := dt_rd I.hok e
    exact dd.typeIs
def tDGet (td ty : TE) : TE := fun σ H Q => td σ H fun x H1 => ty σ H1 fun y H2 => ∃ a v, x = .ref a ∧ DGet H2 a y (some v) ∧ Q v H2
def tDIn (ty td : TE) : TE := fun σ H Q => ty σ H fun y H1 => td σ H1 fun x H2 => ∃ a o, x = .ref a ∧ DGet H2 a y o ∧ Q (.bl o.isSome) H2
def tDNotIn (ty td : TE) : TE := fun σ H Q => ty σ H fun y H1 => td σ H1 fun x H2 => ∃ a o, x = .ref a ∧ DGet H2 a y o ∧ Q (.bl (!o.isSome)) H2
def sDPut (td ty tv : TE) : TS := fun D σ H => tv σ H fun v H1 => td σ H1 fun x H2 => ty σ H2 fun y H3 => ∃ a H4, x = .ref a ∧ DPut H3 a y v H4 ∧ D.nx σ H4
def sDAug (td ty tv : TE) (rd : V → V → Hp → VK → Prop) : TS := fun D σ H => td σ H fun x H1 => ty σ H1 fun y H2 => ∃ a v, x = .ref a ∧ DGet H2 a y (some v) ∧
  tv σ H2 fun y2 H3 => rd v y2 H3 fun z H4 => ∃ H5, DPut H4 a y z H5 ∧ D.nx σ H5
def sDDel (td ty : TE) : TS := fun D σ H => td σ H fun x H1 => ty σ H1 fun y H2 => ∃ a kvs k, x = .ref a ∧ H2 a = some (.dK kvs) ∧ y = kV k ∧ (valV kvs k).isSome = true ∧ D.nx σ (upd H2 a (.dK (dropK kvs k)))

section
variable {X : Cx} {o i e value : Expr} {pos pos' tpos : Pos} {td ty tv : TE}
end


theorem dk_empty {P : Program} {w : World} {H : Hp} (h : Heap) (hb : sysModules < h.objs.size) : ObjOk P w H (h.push { cls := .type "dict", data := .dict #[] }) h.objs.size (.dK []) :=
  ⟨Nat.zero_le _, beq_eq_false_iff_ne.mpr (Ne.symm (Nat.ne_of_lt hb)), [], .nil, Heap.DictOf.new h⟩
def tDNewK : TE := fun _ H Q => ∀ p, H p = none → Q (.ref p) (upd H p (.dK []))
def tDNewT : TE := fun _ H Q => ∀ p, H p = none → Q (.ref p) (upd H p (.dT []))
section
variable {X : Cx} {pos : Pos}
theorem pe_dnewK : PE X (.Dict [] [] pos) tDNewK := fun pins s σ H Q I h =>
  wpAny_Dict_empty ⟨.ref s.heap.objs.size, _, I.laid (a := s.heap.objs.size) (o := .dK []) (t' := s.toks) (fun _ _ q => Heap.get?_push_of_some _ q) (Nat.le_refl _) (dk_empty s.heap I.big), rfl, h _ (I.hok.fresh (Nat.le_refl _))⟩
end

def tPairs : List (TE × TE) → St → Hp → (List (V × V) → Hp → Prop) → Prop
  | [], _, H, Q => Q [] H
  | (tk, tv) :: r, σ, H, Q => tk σ H fun x H1 => tv σ H1 fun y H2 => tPairs r σ H2 fun ps H3 => Q ((x, y) :: ps) H3
abbrev VV : List (V × V) → List (Value × Value) → Prop := Paired fun p q => RelV p.1 q.1 ∧ RelV p.2 q.2
def PPs (X : Cx) (pos : Pos) (keys : List (Option Expr)) (values : List Expr) (trs : List (TE × TE)) : Prop :=
  ∀ (pins : List (Addr × Obj)) (s : Shared) (σ : St) (H : Hp) (Q : List (V × V) → Hp → Prop), Inv X pins σ H s → tPairs trs σ H Q →
    wpAny (model X.prog X.w) X.A (evalPairs (pairTrees keys values X.env pos)) (fun vs s' => ∃ ps H', Inv X pins σ H' s' ∧ VV ps vs ∧ Q ps H') X.xe s
def mergeK (kvs more : List (Key × V)) : List (Key × V) := more.foldl (fun acc kv => putK acc kv.1 kv.2) kvs
def tDisp (trs : List (TE × TE)) : TE := fun σ H Q => ∀ p, H p = none → tPairs trs σ (upd H p (.dK [])) fun ps H2 => H2 p = some (.dK []) ∧ ∃ kvs : List (Key × V), ps = kvs.map (fun kv => (kV kv.1, kv.2)) ∧ kvs.length ≤ 15 ∧ Q (.ref p) (upd H2 p (.dK (mergeK [] kvs)))
structure M1 (X : Cx) (o : Expr) (m : Str) (apos : Pos) (e : Expr) (cpos : Pos) : Prop where
  base : attributeBase o m X.env (eval o X.env) = eval o X.env
  few : ((backTo cpos (starEach [e] X.env)).all (fun x => !x.1) && (backToKw cpos (keywordEach [] X.env)).all (fun x => x.1.isSome)
    && decide (([e] : List Expr).length + ([] : List Keyword).length + (if ([] : List Keyword).isEmpty then 0 else 1) < 30)) = true
  line : (apos.endLine == cpos.line) = true
  trees : backTo cpos (starEach [e] X.env) = [(false, eval e X.env)]
structure M2 (X : Cx) (o : Expr) (m : Str) (apos : Pos) (e f : Expr) (cpos : Pos) : Prop where
  base : attributeBase o m X.env (eval o X.env) = eval o X.env
  few : ((backTo cpos (starEach [e, f] X.env)).all (fun x => !x.1) && (backToKw cpos (keywordEach [] X.env)).all (fun x => x.1.isSome)
    && decide (([e, f] : List Expr).length + ([] : List Keyword).length + (if ([] : List Keyword).isEmpty then 0 else 1) < 30)) = true
  line : (apos.endLine == cpos.line) = true
  trees : backTo cpos (starEach [e, f] X.env) = [(false, eval e X.env), (false, eval f X.env)]

def IsD (H : Hp) (a : Addr) : Prop := (∃ kvs, Rd H a (.dK kvs)) ∨ ∃ kvs, Rd H a (.dT kvs)
theorem isD_at {X : Cx} {pins : List (Addr × Obj)} {σ : St} {H : Hp} {s : Shared} {a : Addr} (I : Inv X pins σ H s) (d : IsD H a) :
    s.TypeIs (.ref a) "dict" ∧ (∀ b, Value.ref a = .ref b → ∃ ob, s.heap.get? b = some ob ∧ ob.dict = none) ∧ (a == sysModules) = false := by
  rcases d with ⟨kvs, e⟩ | ⟨kvs, e⟩
  · obtain ⟨_, hd, vs, _, dd⟩ := dk_rd I.hok e
    refine ⟨dd.typeIs, fun b q => ?_, hd⟩
    cases q
    obtain ⟨ob, _, _, h1, h2, _⟩ := dd
    exact ⟨ob, h1, h2.2.1⟩
  · obtain ⟨_, hd, xs, _, dd⟩ := dt_rd I.hok e
    refine ⟨dd.typeIs, fun b q => ?_, hd⟩
    cases q
    obtain ⟨ob, _, _, h1, h2, _⟩ := dd
    exact ⟨ob, h1, h2.2.1⟩

section
variable {X : Cx} {pins : List (Addr × Obj)} {σ : St} {H : Hp} {s : Shared} {a : Addr} {y d : V} {u r : Value} {o : Option V} {A : Around} {E : Value → Shared → Prop}
theorem d_get1 {Q : Value → Shared → Prop} (hu : A.units + 1 < cLine) (I : Inv X pins σ H s) (g : DGet H a y o) (ry : RelV y u) (h : ∀ w' s', Inv X pins σ H s' → RelV (o.getD .non) w' → Q w' s') :
    wpAny (model X.prog X.w) A (call (.builtin "dict.get") [.ref a, u]) Q E s := by
  rcases g with ⟨kvs, k, e, ey, l⟩ | ⟨kvs, k, b, e, ey, eb, l⟩
  · subst ey
    obtain ⟨z, hd, vs, rel, dd⟩ := dk_rd I.hok e
    refine call_meetsIn PySem.F.slot_dict_get dd.typeIs PySem.F.entry_dict_get (PySem.F.args_dict_get_2 _ _) (meets_dict_get (mixKind X.prog X.w) a (kV_is ry) hd) ⟨_, dd.mapOf, h _ _ (I.tok _) ?_⟩
    rw [l]
    exact (rel.val k).getD rfl
  · subst ey
    cases (show u = Value.ref b from ry)
    obtain ⟨z, hd, xs, rel, dd⟩ := dt_rd I.hok e
    refine call_meetsIn PySem.F.slot_dict_get dd.typeIs PySem.F.entry_dict_get (PySem.F.args_dict_get_2 _ _) (meetsH_dict_get (tupleKind (mixKind X.prog X.w)) a b hd) ⟨tupleKind_room_in1 hu, k, xs, key_of I.hok eb, dd, h _ _ (I.tok _) ?_⟩
    rw [l]
    exact (rel.val k).getD rfl
end

def tDGet1 (td ty : TE) : TE := fun σ H Q => td σ H fun x H1 => ∃ a, x = .ref a ∧ IsD H1 a ∧ ty σ H1 fun y H2 => ∃ o, DGet H2 a y o ∧ Q (o.getD .non) H2
def tDGet2 (td ty tx : TE) : TE := fun σ H Q => td σ H fun x H1 => ∃ a, x = .ref a ∧ IsD H1 a ∧ ty σ H1 fun y H2 => tx σ H2 fun z H3 => ∃ o, DGet H3 a y o ∧ Q (o.getD z) H3
def tDPop1 (td ty : TE) : TE := fun σ H Q => td σ H fun x H1 => ∃ a, x = .ref a ∧ IsD H1 a ∧ ty σ H1 fun y H2 => ∃ kvs k v, H2 a = some (.dK kvs) ∧ y = kV k ∧ valV kvs k = some v ∧ Q v (upd H2 a (.dK (dropK kvs k)))
def tDPop2 (td ty tx : TE) : TE := fun σ H Q => td σ H fun x H1 => ∃ a, x = .ref a ∧ IsD H1 a ∧ ty σ H1 fun y H2 => tx σ H2 fun z H3 => ∃ kvs k, H3 a = some (.dK kvs) ∧ y = kV k ∧
  (∀ v, valV kvs k = some v → Q v (upd H3 a (.dK (dropK kvs k)))) ∧ (valV kvs k = none → Q z H3)
section
variable {X : Cx} {o e f : Expr} {apos cpos : Pos} {td ty tx : TE}
theorem pe_dget1 (hu : X.A.units + 1 < cLine) (ho : PE X o td) (he : PE X e ty) (m : M1 X o "get" apos e cpos) : PE X (.Call (.Attribute o "get" apos) [e] [] cpos) (tDGet1 td ty) := by
  intro pins s σ H Q I h
  refine wpAny_Call_method m.base m.few m.line PySem.F.plainAttrs_dict PySem.F.slot_dict_get PySem.F.type_dict_get (thn (ho pins s σ H _ I h) fun u s1 ⟨x, H1, I1, rx, a, ex, d, q1⟩ => ?_)
  subst ex
  obtain rfl : u = Value.ref a := rx
  obtain ⟨t1, t2, _⟩ := isD_at I1 d
  refine ⟨t1, t2, ?_⟩
  rw [m.trees]
  refine Calls.callWith_builtin rfl (Calls.evalArgs_plain (Calls.spliced_cons (thn (he pins s1 σ H1 _ I1 q1) fun iv s2 ⟨y, H2, I2, ry, ov, g, q2⟩ => Calls.spliced_nil ?_)))
  exact d_get1 hu I2 g ry fun w' s3 I3 rw' => ⟨_, H2, I3, rw', q2⟩
end

section
variable {X : Cx} {pins : List (Addr × Obj)} {σ : St} {H : Hp} {s : Shared} {a : Addr} {kvs : List (Key × V)} {A : Around} {E : Value → Shared → Prop}
theorem d_copyOf {Q : Value → Shared → Prop} (I : Inv X pins σ H s) (e : Rd H a (.dK kvs)) (h : ∀ p s', H p = none → Inv X pins σ (upd H p (.dK kvs)) s' → Q (.ref p) s') : wpAny (model X.prog X.w) A (call (.type "dict") [.ref a]) Q E s := by
  obtain ⟨z, hd, vs, rel, dd⟩ := dk_rd I.hok e
  refine kt_call_dict hd dd (by rw [← rel.length]; exact z) fun h' dd' hs => ?_
  refine h _ _ (I.hok.fresh (Nat.le_refl _)) (I.laid (a := s.heap.objs.size) (o := .dK kvs) (t' := s.toks) (fun b q hq => ?_) (Nat.le_refl _) (dk_new z (beq_eq_false_iff_ne.mpr (Ne.symm (Nat.ne_of_lt I.big))) rel dd'))
  exact (hs.2 b (Nat.ne_of_lt (Heap.lt_size hq))).trans (Heap.get?_push_of_some _ hq)
end


section
variable {X : Cx} {pins : List (Addr × Obj)} {σ : St} {H : Hp} {s : Shared} {a : Addr} {y : V} {u : Value} {A : Around} {E : Value → Shared → Prop}
end
end L2

namespace Att
open PySem PySem.W PySem.Calls PyProof.Rows

section
variable {prog : Program} {w : World} {A : Around} {E : Value → Shared → Prop} {s : Shared} {K : Frag}

end
end Att

namespace L2
open PySem PySem.Spec PyProof.Rows

end L2

namespace L2
open PySem PySem.Spec PyProof.Rows

end L2

namespace L2
open PySem PySem.Spec PyProof.Rows

section
variable {P : Program} {w : World} {K : PySem.W.Frag} {mg : Str → Option Value} {base : Heap}
end
section
variable {X : Cx}
theorem call_lenD : CallR X (.builtin "len") (fun xs H Q => ∃ a kvs, xs = [V.ref a] ∧ H a = some (.dK kvs) ∧ Q (.int kvs.length) H) := by
  intro pins s σ H xs us Q I r h
  obtain ⟨a, kvs, rfl, ha, q⟩ := h
  obtain ⟨u, rfl, ru⟩ := vals1 r
  cases ru
  exact d_len I (.inl ha) fun t s' I' => ⟨.int kvs.length, H, I', ⟨t, rfl⟩, q⟩
end

section
variable {κ : Type} [DecidableEq κ]
theorem valV_not {kvs : List (κ × V)} {k : κ} (h : valV kvs k = none) : ¬ k ∈ kvs.map (·.1) := by
  intro m
  obtain ⟨p, hp, e⟩ := List.mem_map.mp m
  have q : (kvs.any fun kv => decide (kv.1 = k)) = true := List.any_eq_true.mpr ⟨p, hp, decide_eq_true e⟩
  rw [valV_any, h] at q
  exact absurd q (by simp)
theorem valV_in {kvs : List (κ × V)} {k : κ} {v : V} (h : valV kvs k = some v) : k ∈ kvs.map (·.1) := by
  have q : (kvs.any fun kv => decide (kv.1 = k)) = true := by
    rw [valV_any, h]
    all_goals rfl
  obtain ⟨p, hp, e⟩ := List.any_eq_true.mp q
  exact List.mem_map.mpr ⟨p, hp, of_decide_eq_true e⟩
theorem dropK_pos {p : κ × V} {r : List (κ × V)} {k : κ} (e : p.1 = k) : dropK (p :: r) k = dropK r k := by
  unfold dropK
  rw [List.filter_cons, if_neg (by simp [e])]
theorem dropK_neg {p : κ × V} {r : List (κ × V)} {k : κ} (e : ¬ p.1 = k) : dropK (p :: r) k = p :: dropK r k := by
  unfold dropK
  rw [List.filter_cons, if_pos (by simp [e])]
end
end L2

set_option Elab.async false
set_option linter.all false
set_option maxRecDepth 100000
set_option maxHeartbeats 4000000
namespace L2
open PySem PySem.Spec PyProof.Rows

/-! ### a comprehension's block -/
def closOf (cells : List (Str × Addr)) : List (Str × NameKind) → List (Str × Addr) → List (Str × Addr)
  | [], cs => cs
  | (n, k) :: r, cs => if k = NameKind.free then (match cells.lookup n with | some a => closOf cells r ((n, a) :: cs) | none => closOf cells r cs) else closOf cells r cs
theorem closOf_pure {env : Env} : ∀ (names : List (Str × NameKind)) (cs : List (Str × Addr)), (∀ y ∈ names, y.2 = NameKind.free → ∃ c, env.cells.lookup y.1 = some c) →
    (forIn names cs fun (x : Str × NameKind) r => match x with
      | (name, kind) => if (kind == NameKind.free) = true then do let a ← cellOf env name; pure (ForInStep.yield ((name, a) :: r)) else pure (ForInStep.yield r)) = (pure (closOf env.cells names cs) : Sem (List (Str × Addr)))
  | [], cs, _ => rfl
  | (n, k) :: r, cs, h => by
    have ih := fun cs' => closOf_pure (env := env) r cs' fun y hy => h y (List.mem_cons_of_mem _ hy)
    rw [List.forIn_cons]
    by_cases hk : k = NameKind.free
    · obtain ⟨c, hc⟩ := h (n, k) List.mem_cons_self hk
      have hc' : env.cells.lookup n = some c := hc
      have hcell : cellOf env n = pure c := by unfold cellOf; rw [hc']
      have e1 : closOf env.cells ((n, k) :: r) cs = closOf env.cells r ((n, c) :: cs) := by
        rw [closOf, if_pos hk, hc']
      rw [e1, ← ih ((n, c) :: cs)]
      subst hk
      dsimp only
      rw [hcell]
      rfl
    · have hb : (k == NameKind.free) = false := by simpa using hk
      have e1 : closOf env.cells ((n, k) :: r) cs = closOf env.cells r cs := by
        rw [closOf, if_neg hk]
      rw [e1, ← ih cs]
      dsimp only
      rw [hb]
      rfl
theorem closure_is {scope : Scope} {env : Env} (h : ∀ y ∈ scope.names, y.2 = NameKind.free → ∃ c, env.cells.lookup y.1 = some c) : closureFor scope env = pure (closOf env.cells scope.names []) := by
  have e := closOf_pure (env := env) scope.names [] h
  unfold closureFor
  exact (congrArg (fun t : Sem (List (Str × Addr)) => t >>= fun s => pure s) e).trans rfl
theorem closOf_sound {cells : List (Str × Addr)} : ∀ (names : List (Str × NameKind)) (cs : List (Str × Addr)), (∀ x c, cs.lookup x = some c → cells.lookup x = some c) → ∀ x c, (closOf cells names cs).lookup x = some c → cells.lookup x = some c
  | [], cs, h, x, c, e => h x c e
  | (n, k) :: r, cs, h, x, c, e => by
    by_cases hk : k = NameKind.free
    · cases q : cells.lookup n with
      | none =>
        rw [closOf, if_pos hk, q] at e
        exact closOf_sound r cs h x c e
      | some a =>
        rw [closOf, if_pos hk, q] at e
        refine closOf_sound r _ (fun y d z => ?_) x c e
        rw [List.lookup_cons] at z
        by_cases hy : (y == n) = true
        · rw [hy] at z
          have hy' : y = n := by simpa using hy
          subst hy'
          exact q.trans z
        · have hy' : (y == n) = false := by simpa using hy
          rw [hy'] at z
          exact h y d z
    · rw [closOf, if_neg hk] at e
      exact closOf_sound r cs h x c e
theorem closOf_keep {cells : List (Str × Addr)} : ∀ (names : List (Str × NameKind)) (cs : List (Str × Addr)) (x : Str), (cs.lookup x).isSome = true → ((closOf cells names cs).lookup x).isSome = true
  | [], cs, x, h => h
  | (n, k) :: r, cs, x, h => by
    by_cases hk : k = NameKind.free
    · cases q : cells.lookup n with
      | none => rw [closOf, if_pos hk, q]; exact closOf_keep r cs x h
      | some a =>
        rw [closOf, if_pos hk, q]
        refine closOf_keep r _ x ?_
        rw [List.lookup_cons]
        cases hy : x == n with
        | true => rfl
        | false => exact h
    · rw [closOf, if_neg hk]; exact closOf_keep r cs x h
theorem closOf_has {cells : List (Str × Addr)} : ∀ (names : List (Str × NameKind)) (cs : List (Str × Addr)) (x : Str), (x, NameKind.free) ∈ names → (cells.lookup x).isSome = true → ((closOf cells names cs).lookup x).isSome = true
  | [], cs, x, h, _ => by simp at h
  | (n, k) :: r, cs, x, h, hc => by
    rcases List.mem_cons.mp h with e | e
    · cases e
      obtain ⟨c, hc'⟩ := Option.isSome_iff_exists.mp hc
      rw [closOf, if_pos rfl, hc']
      refine closOf_keep r _ _ ?_
      rw [List.lookup_cons, beq_self_eq_true]
      rfl
    · by_cases hk : k = NameKind.free
      · cases q : cells.lookup n with
        | none => rw [closOf, if_pos hk, q]; exact closOf_has r cs x e hc
        | some a => rw [closOf, if_pos hk, q]; exact closOf_has r _ x e hc
      · rw [closOf, if_neg hk]; exact closOf_has r cs x e hc
theorem lookup_mem {α : Type} : ∀ {l : List (Str × α)} {x : Str} {a : α}, l.lookup x = some a → (x, a) ∈ l
  | [], x, a, h => by simp at h
  | (n, k) :: r, x, a, h => by
    rw [List.lookup_cons] at h
    cases hx : x == n with
    | true =>
      rw [hx] at h
      have e : x = n := by simpa using hx
      subst e
      cases h
      exact List.mem_cons_self
    | false =>
      rw [hx] at h
      exact List.mem_cons_of_mem _ (lookup_mem h)
/-- a name's kind within the block, from its kind in the comprehension's own table -/
theorem relabel_kind {env : Env} : ∀ (names : List (Str × NameKind)) (x : Str) (k : NameKind),
    (names.map fun (p : Str × NameKind) => match p with | (n, k) => if (k == NameKind.free && env.scope.kind == .function && env.kindOf n == some .cell) then (n, NameKind.cell) else (n, k)).lookup x = some k →
      names.lookup x = some k ∨ (k = .cell ∧ names.lookup x = some .free)
  | [], x, k, h => by simp at h
  | (n, k₀) :: r, x, k, h => by
    rw [List.map_cons] at h
    dsimp only at h
    cases hx : x == n with
    | true =>
      rw [List.lookup_cons, hx]
      by_cases hc : (k₀ == NameKind.free && env.scope.kind == .function && env.kindOf n == some .cell) = true
      · rw [if_pos hc, List.lookup_cons, hx] at h
        cases h
        have : k₀ = .free := by
          simp only [Bool.and_eq_true] at hc
          simpa using hc.1.1
        subst this
        exact .inr ⟨rfl, rfl⟩
      · rw [if_neg hc, List.lookup_cons, hx] at h
        exact .inl h
    | false =>
      rw [List.lookup_cons, hx]
      by_cases hc : (k₀ == NameKind.free && env.scope.kind == .function && env.kindOf n == some .cell) = true
      · rw [if_pos hc, List.lookup_cons, hx] at h
        exact relabel_kind r x k h
      · rw [if_neg hc, List.lookup_cons, hx] at h
        exact relabel_kind r x k h
theorem relabel_free {env : Env} : ∀ (names : List (Str × NameKind)) (x : Str), names.lookup x = some .free →
    (names.map fun (p : Str × NameKind) => match p with | (n, k) => if (k == NameKind.free && env.scope.kind == .function && env.kindOf n == some .cell) then (n, NameKind.cell) else (n, k)).lookup x = some .free ∨
    (names.map fun (p : Str × NameKind) => match p with | (n, k) => if (k == NameKind.free && env.scope.kind == .function && env.kindOf n == some .cell) then (n, NameKind.cell) else (n, k)).lookup x = some .cell
  | [], x, h => by simp at h
  | (n, k₀) :: r, x, h => by
    rw [List.map_cons]
    dsimp only
    cases hx : x == n with
    | true =>
      rw [List.lookup_cons, hx] at h
      cases h
      by_cases hc : (NameKind.free == NameKind.free && env.scope.kind == .function && env.kindOf n == some .cell) = true
      · rw [if_pos hc, List.lookup_cons, hx]
        exact .inr rfl
      · rw [if_neg hc, List.lookup_cons, hx]
        exact .inl rfl
    | false =>
      rw [List.lookup_cons, hx] at h
      by_cases hc : (k₀ == NameKind.free && env.scope.kind == .function && env.kindOf n == some .cell) = true
      · rw [if_pos hc, List.lookup_cons, hx]
        exact relabel_free r x h
      · rw [if_neg hc, List.lookup_cons, hx]
        exact relabel_free r x h

def hideN (x y : Str) : Str := if y = x then Str.empty else y
/-- the context of a comprehension's block: its own name in the first slot, then those of the def (M: the def's names, the block's own one hidden) -/
abbrev blk (X : Cx) (x : Str) (scope : Scope) (M : List Str) (C : Addr) (s₀ : Shared) (H₀ : Hp) (fp : List Addr) : Cx :=
  { X with N := x :: M, s₀ := s₀, H₀ := H₀, env := compEnvC scope (closOf X.env.cells scope.names []) C X.env, outer := X.stack, stack := X.stack, ex := fp, fn := fun _ => false, pn := [], xe := fun _ _ => False }

/-- what is asked of a comprehension's table: sc is the def's own one -/
structure CompOk (N M : List Str) (sc : Scope) (x : Str) (scope : Scope) : Prop where
  kind : scope.kind = .function
  cell : ∀ y ∈ scope.names, y.2 ≠ .cell
  names : ∀ y ∈ scope.names, y.2 = .local → scope.names.lookup y.1 = some .local
  own : scope.names.lookup x = some .local
  free : ∀ y ∈ scope.names, y.2 = .free → sc.names.lookup y.1 = some .cell ∨ sc.names.lookup y.1 = some .free
  hid : N.map (hideN x) = M
  nd : (x :: M).Nodup
  others : ∀ y ∈ M, scope.names.lookup y ≠ some .local
  void : scope.names.lookup Str.empty = none

def tComp (wi : TI) (tt : TT) (te : TE) : TE := fun σ H Q => wi σ H fun J H1 => ∀ D, H1 D = none → ∃ W : Nat → Nat → List V → Hp → Prop, (∃ m, W 0 m [] (upd H1 D (.lst []))) ∧ ∀ i m ys H2, W i m ys H2 →
  (J.stop i H2 ∧ H2 D = some (.lst ys) ∧ Q (.ref D) H2) ∨ (J.go i H2 ∧ ys.length < sizeLine ∧ ∀ x H3, J.yld i H2 x H3 → tt (some x :: σ) H3 fun b H4 =>
    if b = true then te (some x :: σ) H4 fun y H5 => H5 D = some (.lst ys) ∧ ∃ m', m' < m ∧ W (i + 1) m' (ys ++ [y]) (upd H5 D (.lst (ys ++ [y]))) else ∃ m', m' < m ∧ W (i + 1) m' ys H4)
def tYes : TT := fun _ H Q => Q true H

section
variable {prog : Program} {w : World} {A : Around} {R : Result → Shared → Prop} {s : Shared}
theorem compLoop_go {elt target iter : Expr} {ifs : List Expr} {scope : Scope} {pos : Pos} {it acc : Value} {env : Env} (Jv : Nat → Shared → Prop)
    (turn : ∀ n s, Jv n s → wpAny (model prog w) A (pyNext it) (fun r s₁ => match r with
      | none => R (.ok .next) s₁
      | some v => wpAny (model prog w) A (letOwnedTupleGo target it v) (fun _ s₀ => wpAny (model prog w) A (assign target env v) (fun _ s₂ =>
          wpAny (model prog w) A (forIn ifs true fun c r => if r = true then do let ok ← isTrue c env (eval c env); pure (ForInStep.yield ok) else pure (ForInStep.yield r)) (fun ok s₃ =>
            if ok = true then wpAny (model prog w) A (eval elt env) (fun x s₄ => wpAny (model prog w) A (call (.builtin "list.append") [acc, x]) (fun _ s₅ => ∃ m, m < n ∧ Jv m s₅) (fun _ _ => False) s₄) (fun _ _ => False) s₃
            else ∃ m, m < n ∧ Jv m s₃) (fun _ _ => False) s₂) (fun _ _ => False) s₀) (fun _ _ => False) s₁) (fun _ _ => False) s)
    (n : Nat) (h : Jv n s) : codeAny (model prog w) A (.compLoop (.ListComp elt [⟨target, iter, ifs, 0⟩] scope pos) 0 it acc env) R s := by
  have no : ∀ {α : Type} {t : Sem α} {Q : α → Shared → Prop} {E : Value → Shared → Prop} {s' : Shared}, wpAny (model prog w) A t Q (fun _ _ => False) s' → wpAny (model prog w) A t Q E s' := fun h => wpAny_mono h (fun _ _ q => q) fun _ _ f => f.elim
  refine codeAny_loop rfl Jv (fun n s hI => ?_) n h
  refine wpAny_noted (env := env) ?_
  rw [compTurn_list]
  refine wpAny_bind (wpAny_standAt (wpAny_bind (thn (no (turn n s hI)) fun r s₁ h₁ => ?_)))
  cases r with
  | none => exact wpAny_pure h₁
  | some v =>
    refine wpAny_bind (thn (no h₁) fun _ s₀ h₀ => wpAny_bind (thn (no h₀) fun _ s₂ h₂ => wpAny_bind (thn (no h₂) fun ok s₃ h₃ => ?_)))
    cases ok with
    | false => exact wpAny_pure ⟨rfl, h₃⟩
    | true => exact wpAny_bind (wpAny_bind (thn (no h₃) fun x s₄ h₄ => wpAny_bind (thn (no h₄) fun _ s₅ h₅ => wpAny_pure (wpAny_pure ⟨rfl, h₅⟩))))
end

section
variable {X : Cx} {pins : List (Addr × Obj)} {σ : St} {H2 : Hp} {s2 : Shared} {E : Value → Shared → Prop}
theorem blk_ok {N M : List Str} {sc scope : Scope} {x : Str} {C : Addr} {H : Hp} {s : Shared} {fp : List Addr} (I : Inv X pins σ H s) (hsc : X.env.scope = sc) (O : CompOk N M sc x scope) (hC : s.heap.objs.size ≤ C)
    (hf : ∀ b ∈ fp, FpOk X pins H b) (hlt : ∀ b ∈ fp, b < s.heap.objs.size) : (blk X x scope M C s H fp).Ok where
  mod := I.ok.mod
  kind := O.kind
  glob := I.ok.glob
  blt := I.ok.blt
  above := hC
  inj := fun y z c e1 e2 => I.ok.inj y z c (closOf_sound _ _ (fun _ _ z => by simp at z) _ _ e1) (closOf_sound _ _ (fun _ _ z => by simp at z) _ _ e2)
  has := fun y hy => by
    have q : scope.names.lookup y = some .free := by
      rcases hy with hy | hy
      · rcases relabel_kind _ _ _ hy with z | ⟨_, z⟩
        · exact absurd rfl (O.cell _ (lookup_mem z))
        · exact z
      · rcases relabel_kind _ _ _ hy with z | ⟨z, _⟩
        · exact z
        · cases z
    have q2 := O.free _ (lookup_mem q) rfl
    rw [← hsc] at q2
    obtain ⟨c, hc⟩ := I.ok.has y q2
    exact Option.isSome_iff_exists.mp (closOf_has _ _ _ (lookup_mem q) (by rw [hc]; rfl))
  cab := fun y c h => by cases h
  hd := I.ok.hd
  frames := I.ok.frames
  stk := .inl rfl
  exf := fun b hb => ⟨Nat.ne_of_lt (Nat.lt_of_lt_of_le (hlt b hb) hC), fun y c e => (hf b hb).2.2.2.2.1 y c (closOf_sound _ _ (fun _ _ z => by simp at z) _ _ e)⟩
  bs := I.bs
  bsz := Nat.le_trans I.ok.bsz I.sz
  noex := fun b o e hb => by
    rcases (hf b hb).2.2.2.1 with z | z
    · exact I.ok.noex b o e z
    · exact absurd (Nat.lt_of_lt_of_le (Heap.lt_size (I.ok.bs b o e).1) z) (Nat.lt_irrefl _)
  exfs := fun b hb z => by
    obtain ⟨_, f1, f2, _⟩ := hf b hb
    exact (List.mem_cons.mp (I.stkSub b z)).elim f1 f2
  funs := I.stack
  frf := I.stkFree

theorem blk_inv {N M : List Str} {sc scope : Scope} {x : Str} {H : Hp} {s : Shared} {fp : List Addr} {h' : Heap} {tk : Nat} (I : Inv X pins σ H s) (hX : X.N = N) (hsc : X.env.scope = sc) (O : CompOk N M sc x scope)
    (hf : ∀ b ∈ fp, FpOk X pins H b) (hlt : ∀ b ∈ fp, b < s.heap.objs.size) {m : Str → Option Value} (hns : h'.Ns s.heap.objs.size m) (k : ∀ b u, s.heap.get? b = some u → h'.get? b = some u) :
    Inv (blk X x scope M s.heap.objs.size s H fp) [] (none :: σ) H { s with heap := h', toks := tk } where
  ok := blk_ok I hsc O (Nat.le_refl _) hf hlt
  os := rfl
  bare := I.bare
  base := Un.kept k
  loc := by
    refine ⟨m, hns, fun i y v e1 e2 e3 => ?_⟩
    cases i with
    | zero => simp at e2
    | succ i =>
      have e1' : M[i]? = some y := by simpa using e1
      have e2' : σ[i]? = some (some v) := by simpa using e2
      have hyM : y ∈ M := List.mem_of_getElem? e1'
      have hfree : scope.names.lookup y = some .free := by
        rcases e3 with e3 | e3 | e3
        · rcases relabel_kind _ _ _ e3 with z | ⟨z, _⟩
          · exact absurd z (O.others y hyM)
          · cases z
        · rcases relabel_kind _ _ _ e3 with z | ⟨_, z⟩
          · exact absurd rfl (O.cell _ (lookup_mem z))
          · exact z
        · rcases relabel_kind _ _ _ e3 with z | ⟨z, _⟩
          · exact z
          · cases z
      have hN : X.N[i]? = some y := by
        rw [hX]
        rw [← O.hid, List.getElem?_map] at e1'
        cases q : N[i]? with
        | none => rw [q] at e1'; cases e1'
        | some z =>
          rw [q] at e1'
          have e4 : hideN x z = y := Option.some.inj e1'
          unfold hideN at e4
          by_cases hz : z = x
          · rw [if_pos hz] at e4
            rw [← e4, O.void] at hfree
            cases hfree
          · rw [if_neg hz] at e4
            rw [e4]
      have q2 := O.free _ (lookup_mem hfree) rfl
      rw [← hsc] at q2
      have hvis : Vis X.env.scope y := q2.elim (fun z => .inr (.inl z)) fun z => .inr (.inr z)
      obtain ⟨m0, hn0, hl⟩ := I.loc
      obtain ⟨u, r, l⟩ := hl i y v hN e2' hvis
      refine ⟨u, r, ?_⟩
      rcases l with ⟨l, _⟩ | ⟨l, c, hc, z⟩
      · exfalso
        have l' : X.env.scope.names.lookup y = some .local := l
        rcases q2 with q2 | q2
        · have q2' : X.env.scope.names.lookup y = some .cell := q2
          rw [l'] at q2'; cases q2'
        · have q2' : X.env.scope.names.lookup y = some .free := q2
          rw [l'] at q2'; cases q2'
      · have hsome := closOf_has scope.names [] y (lookup_mem hfree) (cells := X.env.cells) (by rw [hc]; rfl)
        obtain ⟨c', hc'⟩ := Option.isSome_iff_exists.mp hsome
        have e5 := closOf_sound _ _ (fun _ _ z => by simp at z) _ _ hc'
        rw [hc] at e5
        cases e5
        obtain ⟨o, ho, hd⟩ := z
        refine .inr ⟨?_, c, hc', o, k c o ho, hd⟩
        rcases relabel_free (env := X.env) _ _ hfree with z | z
        · exact .inr z
        · exact .inl z
  cell := fun y c e => by
    obtain ⟨v, o, ho, hd⟩ := I.cell y c (closOf_sound _ _ (fun _ _ z => by simp at z) _ _ e)
    exact ⟨v, o, k c o ho, hd⟩
  free := I.hok.fresh (Nat.le_refl _)
  freeC := fun y c e => I.freeC y c (closOf_sound _ _ (fun _ _ z => by simp at z) _ _ e)
  pin := fun p hp => by simp at hp
  hok := I.hok.kept k
  len := by
    have e : N.length = M.length := by rw [← O.hid, List.length_map]
    simp only [List.length_cons]
    rw [I.len, hX, e]

variable {elt iter : Expr} {ifs : List Expr} {x : Str} {px pos : Pos} {N M : List Str} {sc scope : Scope} {tt : TT} {te : TE} {it : Addr} {fp : List Addr} {tn : Nat → Heap → Prop} {J : It}
theorem comp_block (hcalm : X.calm = true) (hX : X.N = N) (hsc : X.env.scope = sc) (O : CompOk N M sc x scope)
    (hts : ∀ (C : Addr) (s₀ : Shared) (H₀ : Hp) (fp : List Addr) (pins : List (Addr × Obj)) (s : Shared) (σ : St) (H : Hp) (Q : Bool → Hp → Prop), Inv (blk X x scope M C s₀ H₀ fp) pins σ H s → tt σ H Q →
      wpAny (model X.prog X.w) X.A (forIn ifs true fun c r => if r = true then do let ok ← isTrue c (blk X x scope M C s₀ H₀ fp).env (eval c (blk X x scope M C s₀ H₀ fp).env); pure (ForInStep.yield ok) else pure (ForInStep.yield r)) (TP (blk X x scope M C s₀ H₀ fp) pins σ Q) (fun _ _ => False) s)
    (hel : ∀ (C : Addr) (s₀ : Shared) (H₀ : Hp) (fp : List Addr), PE (blk X x scope M C s₀ H₀ fp) elt te)
    (I2 : Inv X pins σ H2 s2) (T : Turn X.prog X.w X.K (.Name x px) J fp it tn) (st2 : tn 0 s2.heap) (f2 : ∀ b ∈ fp, FpOk X pins H2 b) {Qd : Addr → Hp → Prop}
    (q : ∀ D, H2 D = none → ∃ W : Nat → Nat → List V → Hp → Prop, (∃ m, W 0 m [] (upd H2 D (.lst []))) ∧ ∀ i m ys H3, W i m ys H3 →
      (J.stop i H3 ∧ H3 D = some (.lst ys) ∧ Qd D H3) ∨ (J.go i H3 ∧ ys.length < sizeLine ∧ ∀ x H4, J.yld i H3 x H4 → tt (some x :: σ) H4 fun b H5 =>
        if b = true then te (some x :: σ) H5 fun y H6 => H6 D = some (.lst ys) ∧ ∃ m', m' < m ∧ W (i + 1) m' (ys ++ [y]) (upd H6 D (.lst (ys ++ [y]))) else ∃ m', m' < m ∧ W (i + 1) m' ys H5))
    {RR : Value → Addr → Result → Shared → Prop} (hRR : ∀ D C H' s', Inv X pins σ H' s' → FpOk X pins H' C → (∃ m, s'.heap.Ns C m) → Qd D H' → RR (.ref D) C (.ok .next) s') :
    wpAny (model X.prog X.w) X.A (newList []) (fun acc s₃ => wpAny (model X.prog X.w) X.A (newFunctionEnv scope X.env.globals (closOf X.env.cells scope.names []) [] X.env.qual none .none (some X.env)) (fun cenv s₄ =>
      codeAny (model X.prog X.w) X.A (.compStart (.ListComp elt [⟨.Name x px, iter, ifs, 0⟩] scope pos) 0 (.ref it) acc { cenv with scope := relabel scope X.env }) (RR acc cenv.locals) s₄) E s₃) E s2 := by
  have hlt2 : ∀ b ∈ fp, b < s2.heap.objs.size := fun b hb => let ⟨o, e, _⟩ := T.obj _ _ st2 b hb; Heap.lt_size e
  have nD : H2 s2.heap.objs.size = none := I2.hok.fresh (Nat.le_refl _)
  obtain ⟨W, ⟨m0, w0⟩, turn⟩ := q s2.heap.objs.size nD
  have I3 := I2.lnew (its := []) (ys := []) (t' := s2.toks) .nil (Nat.zero_le _)
  refine wpAny_newObj_type (wpAny_newFunctionEnv O.cell (by intro y hy; simp at hy) (fun h₁ hns₁ hsb₁ => ?_) O.kind)
  dsimp only at hns₁ hsb₁ ⊢
  generalize hs3 : ({ s2 with heap := s2.heap.push { cls := .type "list", data := .seq ([] : List Value).toArray }, toks := s2.toks } : Shared) = s3 at I3
  have eh : s3.heap = s2.heap.push { cls := .type "list", data := .seq ([] : List Value).toArray } := by rw [← hs3]
  have es : s3 = { s2 with heap := s2.heap.push { cls := .type "list", data := .seq ([] : List Value).toArray } } := hs3.symm
  have k1 : ∀ b u, s3.heap.get? b = some u → h₁.get? b = some u := fun b u e => by
    refine hsb₁.extBut b u ?_ (Heap.get?_push_of_some _ (by rw [← eh]; exact e))
    rw [← eh]
    exact Nat.ne_of_lt (Heap.lt_size e)
  have f3 : ∀ b ∈ fp, FpOk X pins (upd H2 s2.heap.objs.size (.lst [])) b := fun b hb => ⟨by rw [upd_ne (Nat.ne_of_lt (hlt2 b hb))]; exact (f2 b hb).1, (f2 b hb).2⟩
  have hlt3 : ∀ b ∈ fp, b < s3.heap.objs.size := fun b hb => by
    rw [eh, Heap.size_push]
    exact Nat.lt_succ_of_lt (hlt2 b hb)
  have st3 : tn 0 h₁ := T.keep _ _ _ st2 fun b hb o e => k1 b o (by rw [eh]; exact Heap.get?_push_of_some _ e)
  have hns3 : h₁.Ns s3.heap.objs.size (fun x => ([] : List (Str × Value)).reverse.lookup x) := by rw [eh]; exact hns₁
  have IB := blk_inv (tk := s2.toks) I3 hX hsc O f3 hlt3 hns3 k1
  have eC : s3.heap.objs.size = (s2.heap.push { cls := .type "list", data := .seq ([] : List Value).toArray }).objs.size := by rw [eh]
  have stat : ∀ {H' : Hp}, (∀ b ∈ fp, H' b = none) → ∀ b ∈ fp, FpOk (blk X x scope M s3.heap.objs.size s3 (upd H2 s2.heap.objs.size (.lst [])) fp) [] H' b := fun hn b hb => by
    obtain ⟨g0, g1, g2, g3, g4, g5⟩ := f3 b hb
    exact ⟨hn b hb, Nat.ne_of_lt (hlt3 b hb), fun z => (List.mem_cons.mp (I3.stkSub b z)).elim g1 g2, .inl hb, fun y c e => g4 y c (closOf_sound _ _ (fun _ _ z => by simp at z) _ _ e), fun p hp => by simp at hp⟩
  have loop : ∀ s4 : Shared, s4 = { s3 with heap := h₁, toks := s2.toks } →
      codeAny (model X.prog X.w) X.A (.compLoop (.ListComp elt [⟨.Name x px, iter, ifs, 0⟩] scope pos) 0 (.ref it) (.ref s2.heap.objs.size) (compEnvC scope (closOf X.env.cells scope.names []) s3.heap.objs.size X.env))
        (RR (.ref s2.heap.objs.size) s3.heap.objs.size) s4 := by
    rintro s4 rfl
    refine compLoop_go (fun n s' => ∃ i ys o H', Inv (blk X x scope M s3.heap.objs.size s3 (upd H2 s2.heap.objs.size (.lst [])) fp) [] (o :: σ) H' s' ∧ tn i s'.heap ∧ (∀ b ∈ fp, H' b = none) ∧ W i n ys H') ?_ m0
      ⟨0, [], none, _, IB, st3, fun b hb => (f3 b hb).1, w0⟩
    rintro n s5 ⟨i, ys, o, H5, I5, st5, fr5, w5⟩
    rcases turn i n ys H5 w5 with ⟨stop, hD, qd⟩ | ⟨go, hz, step⟩
    · refine thn (T.done (blk X x scope M s3.heap.objs.size s3 (upd H2 s2.heap.objs.size (.lst [])) fp) rfl rfl rfl hcalm i [] s5 _ H5 _ I5 (stat fr5) st5 stop) fun r s6 ⟨hr, I6⟩ => ?_
      subst hr
      have IX := I3.call' I6.os I6.base I6.hok I6.bare fun b hb => let ⟨_, g1, _, g3, g4, g5⟩ := f3 b hb; ⟨g3, g1, g4, g5⟩
      obtain ⟨mm, hmm, _⟩ := I6.loc
      exact hRR _ _ H5 s6 IX (I3.fpOk (Nat.le_refl _) I6.free) ⟨mm, hmm⟩ qd
    · refine thn (T.item (blk X x scope M s3.heap.objs.size s3 (upd H2 s2.heap.objs.size (.lst [])) fp) rfl rfl rfl hcalm i [] s5 _ H5 _ I5 (stat fr5) st5 go) fun r s6 ⟨u, hr, h6⟩ => ?_
      subst hr
      refine thn h6 fun _ s7 ⟨y, H7, I7, r7, y7, st7, fr7⟩ => ?_
      have I7' := I7.pinned (stat fr7) (T.obj _ _ st7)
      refine wpAny_assign_Name (store_ok (i := 0) I7' O.nd rfl (.inl (lookup_relabel_local O.own)) r7 (fun s8 I8 => ?_) (.inr (lookup_relabel_local O.own)))
      have I8' : Inv (blk X x scope M s3.heap.objs.size s3 (upd H2 s2.heap.objs.size (.lst [])) fp) ([] ++ pinsAt fp s7.heap) (some y :: σ) H7 s8 := I8
      refine thn (hts _ _ _ _ _ s8 _ H7 _ I8' (step y H7 y7)) fun ok s9 ⟨H9, I9, q9⟩ => ?_
      have again : ∀ {ys' : List V} {H' : Hp} {s' : Shared} {m : Nat}, Inv (blk X x scope M s3.heap.objs.size s3 (upd H2 s2.heap.objs.size (.lst [])) fp) ([] ++ pinsAt fp s7.heap) (some y :: σ) H' s' → m < n → W (i + 1) m ys' H' →
          ∃ m, m < n ∧ ∃ i ys o H', Inv (blk X x scope M s3.heap.objs.size s3 (upd H2 s2.heap.objs.size (.lst [])) fp) [] (o :: σ) H' s' ∧ tn i s'.heap ∧ (∀ b ∈ fp, H' b = none) ∧ W i m ys H' := fun {ys' H' s' m} I' hm w' => by
        refine ⟨m, hm, i + 1, ys', some y, H', I'.unpinned, T.keep _ _ _ st7 fun b hb o e => (I'.pin (b, o) (List.mem_append_right _ (List.mem_append_right _ (mem_pinsAt hb e)))).1, fun b hb => ?_, w'⟩
        obtain ⟨o, e, d⟩ := T.obj _ _ st7 b hb
        exact (I'.pin (b, o) (List.mem_append_right _ (List.mem_append_right _ (mem_pinsAt hb e)))).2.1
      cases ok with
      | false =>
        obtain ⟨m', hm, w'⟩ := q9
        exact again I9 hm w'
      | true =>
        refine thn (hel _ _ _ _ _ s9 _ H9 _ I9 q9) fun u2 s10 ⟨y2, H10, I10, r10, hD, m', hm, w'⟩ => ?_
        refine thn (mt_append _ s10 _ H10 (.ref s2.heap.objs.size) [y2] (.ref s2.heap.objs.size) [u2] (fun _ H' => H' = upd H10 s2.heap.objs.size (.lst (ys ++ [y2]))) I10 rfl (.cons r10 .nil) ⟨_, ys, y2, rfl, rfl, hD, hz, rfl⟩) fun _ s11 ⟨_, H11, I11, _, e11⟩ => ?_
        subst e11
        exact again I11 hm w'
  have fin := codeAny_compStart_list (loop _ rfl) (T.self X.A 0 _ _ _ st3 (loop _ rfl))
  rw [es] at fin
  exact fin
end
end L2

set_option Elab.async false
set_option linter.all false
set_option maxRecDepth 100000
set_option maxHeartbeats 4000000
namespace L2
open PySem PySem.Spec PyProof.Rows

section
variable {X : Cx} {elt iter c : Expr} {ifs : List Expr} {x y : Str} {px py pos spos : Pos} {scope sc : Scope} {N M : List Str} {wi : TI} {tt : TT} {te : TE}
theorem pe_compG (hcalm : X.calm = true) (hX : X.N = N) (hsc : X.env.scope = sc) (O : CompOk N M sc x scope) (hi : PI X (.Name x px) iter wi)
    (hts : ∀ (C : Addr) (s₀ : Shared) (H₀ : Hp) (fp : List Addr) (pins : List (Addr × Obj)) (s : Shared) (σ : St) (H : Hp) (Q : Bool → Hp → Prop), Inv (blk X x scope M C s₀ H₀ fp) pins σ H s → tt σ H Q →
      wpAny (model X.prog X.w) X.A (forIn ifs true fun c r => if r = true then do let ok ← isTrue c (blk X x scope M C s₀ H₀ fp).env (eval c (blk X x scope M C s₀ H₀ fp).env); pure (ForInStep.yield ok) else pure (ForInStep.yield r)) (TP (blk X x scope M C s₀ H₀ fp) pins σ Q) (fun _ _ => False) s)
    (hel : ∀ (C : Addr) (s₀ : Shared) (H₀ : Hp) (fp : List Addr), PE (blk X x scope M C s₀ H₀ fp) elt te) (hs : ∀ x, foldedSetIterable iter X.env x = pure x := by intro _; rfl) :
    PE X (.ListComp elt [⟨.Name x px, iter, ifs, 0⟩] scope pos) (tComp wi tt te) := by
  intro pins s σ H Q I h
  rw [eval_ListComp]
  have hcl : closureFor scope X.env = pure (closOf X.env.cells scope.names []) := closure_is fun z hz hf => by
    have q := O.free z hz hf
    rw [← hsc] at q
    exact I.ok.has z.1 q
  refine wpAny_comprehension_free (use := none) rfl hs hcl O.kind O.names (thn (hi pins s σ H _ I h) fun v s1 h1 => thn h1 fun itv s2 h2 => ?_)
  obtain ⟨it, fp, tn, J, H2, e, I2, T, st2, f2, q2⟩ := h2
  subst e
  refine comp_block (Qd := fun D H' => Q (.ref D) H') (RR := fun acc C => compPost (model X.prog X.w) X.A X.xe none (EP X pins σ Q) acc C) hcalm hX hsc O hts hel I2 T st2 f2 (fun D hD => q2 D hD) ?_
  intro D C H' s' I' hC hm q'
  obtain ⟨m, hm⟩ := hm
  obtain ⟨c0, c1, c2, c3, c4, c5⟩ := hC
  exact ⟨m, hm, fun h' hs' => ⟨.ref D, H', I'.turned (t' := s'.toks) (fun b o hb e => hs'.extBut b o hb e) c0 c1 c3 c4 c5, rfl, q'⟩⟩
theorem ps_setcG {i : Nat} (hcalm : X.calm = true) (hX : X.N = N) (hsc : X.env.scope = sc) (O : CompOk N M sc x scope) (hi : PI X (.Name x px) iter wi)
    (hts : ∀ (C : Addr) (s₀ : Shared) (H₀ : Hp) (fp : List Addr) (pins : List (Addr × Obj)) (s : Shared) (σ : St) (H : Hp) (Q : Bool → Hp → Prop), Inv (blk X x scope M C s₀ H₀ fp) pins σ H s → tt σ H Q →
      wpAny (model X.prog X.w) X.A (forIn ifs true fun c r => if r = true then do let ok ← isTrue c (blk X x scope M C s₀ H₀ fp).env (eval c (blk X x scope M C s₀ H₀ fp).env); pure (ForInStep.yield ok) else pure (ForInStep.yield r)) (TP (blk X x scope M C s₀ H₀ fp) pins σ Q) (fun _ _ => False) s)
    (hel : ∀ (C : Addr) (s₀ : Shared) (H₀ : Hp) (fp : List Addr), PE (blk X x scope M C s₀ H₀ fp) elt te)
    (hNd : X.N.Nodup) (hiy : X.N[i]? = some y) (hy : X.env.scope.names.lookup y = some .local)
    (hsw : swapsWith (.ListComp elt [⟨.Name x px, iter, ifs, 0⟩] scope pos) (some (.Name y py)) spos.line X.env = pure true) (hs : ∀ x, foldedSetIterable iter X.env x = pure x := by intro _; rfl) :
    PS X (.Assign [.Name y py] (.ListComp elt [⟨.Name x px, iter, ifs, 0⟩] scope pos) spos) (tAsg (tComp wi tt te) (gName i)) := by
  intro pins s σ H D I h
  have hcl : closureFor scope X.env = pure (closOf X.env.cells scope.names []) := closure_is fun z hz hf => by
    have q := O.free z hz hf
    rw [← hsc] at q
    exact I.ok.has z.1 q
  have key : wpAny (model X.prog X.w) X.A (comprehension (.ListComp elt [⟨.Name x px, iter, ifs, 0⟩] scope pos) scope X.env (firstIterPos [⟨.Name x px, iter, ifs, 0⟩] pos) (newList []) false (eval iter X.env) (some (assign (.Name y py) X.env)))
      (fun _ s' => SP X pins D .next s') X.xe s := by
    refine wpAny_comprehension_free (use := some (assign (.Name y py) X.env)) (Q := fun _ s' => SP X pins D .next s') rfl hs hcl O.kind O.names (thn (hi pins s σ H _ I h) fun v s1 h1 => thn h1 fun itv s2 h2 => ?_)
    obtain ⟨it, fp, tn, J, H2, e, I2, T, st2, f2, q2⟩ := h2
    subst e
    refine comp_block (Qd := fun D0 H' => D.nx (σ.set i (some (.ref D0))) H') (RR := fun acc C => compPost (model X.prog X.w) X.A X.xe (some (assign (.Name y py) X.env)) (fun _ s' => SP X pins D .next s') acc C) hcalm hX hsc O hts hel I2 T st2 f2 (fun D0 hD => q2 D0 hD) ?_
    intro D0 C H' s' I' hC hm q'
    obtain ⟨m, hm⟩ := hm
    obtain ⟨c0, c1, c2, c3, c4, c5⟩ := hC
    show wpAny _ _ (assign (.Name y py) X.env (.ref D0)) _ _ s'
    refine wpAny_assign_Name (store_ok2 (v := .ref D0) I' hNd hiy (.inl hy) rfl (fun s'' I'' ⟨a, sb, ha⟩ => ?_) (.inr hy))
    have hCa : C ≠ a := by
      rcases ha with ha | ha
      · rw [ha]; exact c1
      · exact (c4 _ _ ha).symm
    exact ⟨m, hm.sameBut sb hCa, fun h' hs' => ⟨_, H', I''.turned (t' := s''.toks) (fun b o hb e => hs'.extBut b o hb e) c0 c1 c3 c4 c5, q'⟩⟩
  rw [exec_Assign_Name_used _ _ _ _ hsw]
  refine wpAny_bind (wpAny_standAt (wpAny_bind ?_))
  show wpAny _ _ (do let _ ← comprehension (.ListComp elt [⟨.Name x px, iter, ifs, 0⟩] scope pos) scope X.env (firstIterPos [⟨.Name x px, iter, ifs, 0⟩] pos) (newList []) false (eval iter X.env) (some (assign (.Name y py) X.env))) _ _ s
  exact wpAny_bind (wpAny_mono key (fun _ s' hq => wpAny_pure (wpAny_pure hq)) fun _ _ e => e)
/-- [elt for x in iter] -/
theorem pe_comp (N M : List Str) (sc : Scope) (O : CompOk N M sc x scope) (hi : PI X (.Name x px) iter wi) (hel : ∀ (C : Addr) (s₀ : Shared) (H₀ : Hp) (fp : List Addr), PE (blk X x scope M C s₀ H₀ fp) elt te)
    (hcalm : X.calm = true := by rfl) (hX : X.N = N := by rfl) (hsc : X.env.scope = sc := by rfl) (hs : ∀ x, foldedSetIterable iter X.env x = pure x := by intro _; rfl) :
    PE X (.ListComp elt [⟨.Name x px, iter, [], 0⟩] scope pos) (tComp wi tYes te) :=
  pe_compG hcalm hX hsc O hi (fun C s₀ H₀ fp pins s σ H Q I h => wpAny_tests_nil ⟨H, I, h⟩) hel hs
/-- [elt for x in iter if c] -/
theorem pe_compIf (N M : List Str) (sc : Scope) (O : CompOk N M sc x scope) (hi : PI X (.Name x px) iter wi) (hc : ∀ (C : Addr) (s₀ : Shared) (H₀ : Hp) (fp : List Addr), PT (blk X x scope M C s₀ H₀ fp) c tt)
    (hel : ∀ (C : Addr) (s₀ : Shared) (H₀ : Hp) (fp : List Addr), PE (blk X x scope M C s₀ H₀ fp) elt te)
    (hcalm : X.calm = true := by rfl) (hX : X.N = N := by rfl) (hsc : X.env.scope = sc := by rfl) (hs : ∀ x, foldedSetIterable iter X.env x = pure x := by intro _; rfl) :
    PE X (.ListComp elt [⟨.Name x px, iter, [c], 0⟩] scope pos) (tComp wi tt te) :=
  pe_compG hcalm hX hsc O hi (fun C s₀ H₀ fp pins s σ H Q I h => wpAny_tests_one (hc C s₀ H₀ fp pins s σ H Q I h)) hel hs
/-- y = [elt for x in iter] -/
theorem ps_setc {i : Nat} (N M : List Str) (sc : Scope) (O : CompOk N M sc x scope) (hi : PI X (.Name x px) iter wi) (hel : ∀ (C : Addr) (s₀ : Shared) (H₀ : Hp) (fp : List Addr), PE (blk X x scope M C s₀ H₀ fp) elt te)
    (hNd : X.N.Nodup) (hiy : X.N[i]? = some y := by rfl) (hy : X.env.scope.names.lookup y = some .local := by rfl)
    (hsw : swapsWith (.ListComp elt [⟨.Name x px, iter, [], 0⟩] scope pos) (some (.Name y py)) spos.line X.env = pure true := by rfl)
    (hcalm : X.calm = true := by rfl) (hX : X.N = N := by rfl) (hsc : X.env.scope = sc := by rfl) (hs : ∀ x, foldedSetIterable iter X.env x = pure x := by intro _; rfl) :
    PS X (.Assign [.Name y py] (.ListComp elt [⟨.Name x px, iter, [], 0⟩] scope pos) spos) (tAsg (tComp wi tYes te) (gName i)) :=
  ps_setcG hcalm hX hsc O hi (fun C s₀ H₀ fp pins s σ H Q I h => wpAny_tests_nil ⟨H, I, h⟩) hel hNd hiy hy hsw hs
theorem ps_setcIf {i : Nat} (N M : List Str) (sc : Scope) (O : CompOk N M sc x scope) (hi : PI X (.Name x px) iter wi) (hc : ∀ (C : Addr) (s₀ : Shared) (H₀ : Hp) (fp : List Addr), PT (blk X x scope M C s₀ H₀ fp) c tt)
    (hel : ∀ (C : Addr) (s₀ : Shared) (H₀ : Hp) (fp : List Addr), PE (blk X x scope M C s₀ H₀ fp) elt te)
    (hNd : X.N.Nodup) (hiy : X.N[i]? = some y := by rfl) (hy : X.env.scope.names.lookup y = some .local := by rfl)
    (hsw : swapsWith (.ListComp elt [⟨.Name x px, iter, [c], 0⟩] scope pos) (some (.Name y py)) spos.line X.env = pure true := by rfl)
    (hcalm : X.calm = true := by rfl) (hX : X.N = N := by rfl) (hsc : X.env.scope = sc := by rfl) (hs : ∀ x, foldedSetIterable iter X.env x = pure x := by intro _; rfl) :
    PS X (.Assign [.Name y py] (.ListComp elt [⟨.Name x px, iter, [c], 0⟩] scope pos) spos) (tAsg (tComp wi tt te) (gName i)) :=
  ps_setcG hcalm hX hsc O hi (fun C s₀ H₀ fp pins s σ H Q I h => wpAny_tests_one (hc C s₀ H₀ fp pins s σ H Q I h)) hel hNd hiy hy hsw hs
end

/-! ### the walk of a comprehension by its items -/
/-! ### texts as lists of codes -/
abbrev S (l : List Nat) : Str := ⟨l.toArray⟩
theorem S_of (z : Str) : z = S z.cps.toList := by cases z; simp [S]
theorem S_inj {a b : List Nat} (h : S a = S b) : a = b := by
  have h' : a.toArray = b.toArray := congrArg Str.cps h
  simpa using congrArg Array.toList h'
theorem S_len (l : List Nat) : (S l).length = l.length := by show l.toArray.size = l.length; simp
theorem S_app (a b : List Nat) : S a ++ S b = S (a ++ b) := by
  show (⟨a.toArray ++ b.toArray⟩ : Str) = ⟨(a ++ b).toArray⟩
  simp
def cutL (l : List Nat) (lo hi : Option Int) : List Nat := (l.drop (HT.sIx l.length 0 lo)).take (HT.sIx l.length l.length hi - HT.sIx l.length 0 lo)
theorem cutL_le (l : List Nat) (lo hi : Option Int) : (cutL l lo hi).length ≤ l.length := by
  unfold cutL
  rw [List.length_take, List.length_drop]
  omega
def clipI (d : Int) (n : Nat) : Option Int → Int
  | none => d
  | some i => max 0 (min (if i < 0 then i + (n : Int) else i) (n : Int))
theorem clipI_eq (d n : Nat) (o : Option Int) : clipI (d : Int) n o = ((HT.sIx n d o : Nat) : Int) := by
  cases o with
  | none => rfl
  | some i =>
    simp only [HT.sIx, clipI]
    by_cases h : i < 0
    · simp only [h, if_true] <;> omega
    · simp only [h, if_false] <;> omega
theorem sliceIdx_eq (lo hi : Option Int) (n : Nat) : Builtin.Str.strSliceIndices lo hi 1 n = (List.range (HT.sIx n n hi - HT.sIx n 0 lo)).map (HT.sIx n 0 lo + ·) := by
  have key : Builtin.Str.strSliceIndices lo hi 1 n = sliceRange (clipI ((0 : Nat) : Int) n lo) (clipI (n : Int) n hi) 1 := by
    unfold Builtin.Str.strSliceIndices
    cases lo <;> cases hi <;> simp [clipI]
  rw [key, clipI_eq, clipI_eq, sliceRange_one]
section
variable {X : Cx}
def rSlS : V → Option Int → Option Int → Hp → VK → Prop := fun x lo hi H Q => ∃ l, x = .str (S l) ∧ l.length ≤ sizeLine ∧ Q (.str (S (cutL l lo hi))) H
theorem part_of {v : Value} {o : Option Int} (p : IsPart v o) : ∃ l : Option (Int × Tok), v = partValue l ∧ l.map (·.1) = o := by
  cases p with
  | none => exact ⟨none, rfl, rfl⟩
  | int i t => exact ⟨some (i, t), rfl, rfl⟩
theorem sl_str : SlR X rSlS := by
  intro pins s σ H x v vl vu lo hi sl Q I rx hs pl pu h
  obtain ⟨l, rfl, hz, q⟩ := h
  obtain ⟨t, rfl⟩ := rx
  obtain ⟨a, rfl, rfl⟩ := part_of pl
  obtain ⟨b, rfl, rfl⟩ := part_of pu
  refine ⟨"str", _, F.slot_str_getitem.lookup, typeIs_str _ _ _, ?_⟩
  refine wpAny_getItem_str_slice (l := a) (u := b) (st := none) hs rfl ?_
  have ep : slicePicked (S l) a b none = (List.range (HT.sIx l.length l.length (b.map (·.1)) - HT.sIx l.length 0 (a.map (·.1)))).map (HT.sIx l.length 0 (a.map (·.1)) + ·) := by
    have e := sliceIdx_eq (a.map (·.1)) (b.map (·.1)) (S l).length
    rw [S_len] at e
    unfold slicePicked
    rw [S_len]
    exact e
  have ec : (slicePicked (S l) a b none).filterMap ((S l).cps[·]?) = cutL l (a.map (·.1)) (b.map (·.1)) := by
    rw [ep, pick_run]
    simp only [cutL]
  unfold sliceMade
  split
  · rename_i hc
    have hlen : (slicePicked (S l) a b none).length = l.length := by
      rw [Bool.and_eq_true] at hc
      have := hc.2
      rw [beq_iff_eq, S_len] at this
      exact this
    have e : cutL l (a.map (·.1)) (b.map (·.1)) = l := by
      rw [ep, List.length_map, List.length_range] at hlen
      have h1 := HT.sIx_le l.length l.length (Nat.le_refl _) (b.map (·.1))
      unfold cutL
      have h2 : HT.sIx l.length 0 (a.map (·.1)) = 0 := by
        by_cases hl : l.length = 0
        · have := HT.sIx_le l.length 0 (Nat.zero_le _) (a.map (·.1))
          omega
        · omega
      rw [hlen, h2, List.drop_zero, List.take_length]
    rw [e] at q
    exact ⟨.str (S l), H, I, ⟨t, rfl⟩, q⟩
  · refine ⟨?_, .str (S ((slicePicked (S l) a b none).filterMap ((S l).cps[·]?))), H, I.tok _, ⟨_, rfl⟩, ?_⟩
    · rw [ec]
      show (cutL l _ _).toArray.size ≤ sizeLine
      rw [List.size_toArray]
      exact Nat.le_trans (cutL_le _ _ _) hz
    · rw [ec]
      exact q
end

/-! ### the signs of a text, walked -/
def Its (z : Str) : It := ⟨fun i _ => i < z.cps.size, fun i H x H' => H' = H ∧ ∃ c, z.cps[i]? = some c ∧ x = .str ⟨#[c]⟩, fun i _ => z.cps.size ≤ i⟩
theorem walks_str {P : Program} {w : World} {A : Around} (hA : A.handled = none) (it : Addr) (z : Str) (t : Tok) : Walks P w A it [it] [it] z.cps.size (SignAt z) (fun i h => h.IsStrIter it (strIterType z) z t i) := by
  unfold strIterType
  split
  · exact Walks.strAscii hA it z t
  · exact Walks.strWide hA it z t
theorem strIter_plain (z : Str) : ["enumerate", "zip", "dict_itemiterator", "dict_reverseitemiterator", "odict_iterator", "itertools.zip_longest", "itertools.pairwise"].contains (strIterType z) = false := by
  unfold strIterType
  split <;> decide
theorem turn_str {P : Program} {w : World} {K : PySem.W.Frag} {tg : Expr} (it : Addr) (z : Str) (t : Tok) : Turn P w K tg (Its z) [it] it (fun i h => h.IsStrIter it (strIterType z) z t i) where
  mem := by simp
  obj := fun i h st b hb => by
    have e : b = it := by simpa using hb
    subst e
    obtain ⟨o, e, c, d⟩ := st
    exact ⟨o, e, fun v z => by rw [d] at z; cases z⟩
  keep := fun i h h' st k => let ⟨o, e, r⟩ := st; ⟨o, k it (by simp) o e, r⟩
  item := by
    intro X hP hw hK hc i pins s σ H E I hf st hg
    subst hP hw hK
    obtain ⟨f0, f1, f2, f3, f4, f5⟩ := hf it (by simp)
    refine (walks_str (I.ok.hd hc) it z t).item i s _ _ hg st fun v h' tk hv st' kk => ?_
    obtain ⟨c, u, hcz, rfl⟩ := hv
    have I1 : Inv X pins σ H { s with heap := h', toks := tk } := I.turned (fun b o hb e => kk b o (by simpa using hb) e) f0 f1 f3 f4 f5
    obtain ⟨o, e, ec, d⟩ := id st'
    exact ⟨_, rfl, go_of (s := { s with heap := h', toks := tk }) e ec d (strIter_plain z) ⟨.str ⟨#[c]⟩, H, I1, ⟨u, rfl⟩, ⟨rfl, c, hcz, rfl⟩, st', fun b hb => (hf b hb).1⟩⟩
  done := by
    intro X hP hw hK hc i pins s σ H E I hf st hg
    subst hP hw hK
    obtain ⟨f0, f1, f2, f3, f4, f5⟩ := hf it (by simp)
    have hg' : z.cps.size ≤ i := hg
    by_cases ha : z.cps.all (· < 128) = true
    · have st' : s.heap.IsStrIter it "str_ascii_iterator" z t i := by
        have e : strIterType z = "str_ascii_iterator" := by unfold strIterType; rw [if_pos ha]
        rw [← e]; exact st
      exact wpAny_pyNext_ascii_end (I.ok.hd hc) st' (by simpa using hg') fun h' eb => ⟨rfl, I.turned (t' := s.toks) (fun b o hb e => eb b o hb e) f0 f1 f3 f4 f5⟩
    · have st' : s.heap.IsStrIter it "str_iterator" z t i := by
        have e : strIterType z = "str_iterator" := by unfold strIterType; rw [if_neg ha]
        rw [← e]; exact st
      exact wpAny_pyNext_wide_end (I.ok.hd hc) st' (by simpa using hg') fun h' eb => ⟨rfl, I.turned (t' := s.toks) (fun b o hb e => eb b o hb e) f0 f1 f3 f4 f5⟩
  self := fun A i s Q E st h => by
    by_cases ha : z.cps.all (· < 128) = true
    · have e : strIterType z = "str_ascii_iterator" := by unfold strIterType; rw [if_pos ha]
      exact wpAny_pyIter_striter_ascii (by rw [← e]; exact st) h
    · have e : strIterType z = "str_iterator" := by unfold strIterType; rw [if_neg ha]
      exact wpAny_pyIter_striter_wide (by rw [← e]; exact st) h
section
variable {X : Cx} {tg : Expr}
def iStr (tl : TE) : TI := fun σ H R => tl σ H fun x H1 => ∃ z, x = .str z ∧ R (Its z) H1
end
end L2

set_option Elab.async false
set_option linter.all false
set_option maxRecDepth 100000
set_option maxHeartbeats 4000000
namespace L2
open PySem PySem.Spec PyProof.Rows

theorem hU {k : Nat} {A : Around} (hr : Room k A) : A.units + 64 < cLine := hr.units
theorem hU1 {k : Nat} {A : Around} (hr : Room k A) : A.units + 1 < cLine := hu_of hr

/-! ### module constants -/
def GConst (mg : Str → Option Value) (x : Str) (v : V) : Prop := ∃ u, mg x = some u ∧ RelV v u
/-! ### data: what a value is worth, down to its leaves -/
mutual
inductive Den (K : PySem.W.Frag) (H : Hp) : V → PyData → Prop
  | non : Den K H .non .none
  | bl (b : Bool) : Den K H (.bl b) (.bool b)
  | int (i : Int) : Den K H (.int i) (.int i)
  | str (x : Str) : Den K H (.str x) (.str x)
  | lst {a : Addr} {xs : List V} {ds : List PyData} : SqL K H a xs → DenAll K H xs ds → Den K H (.ref a) (.list ds)
  | tup {a : Addr} {xs : List V} {ds : List PyData} : SqT K H a xs → DenAll K H xs ds → Den K H (.ref a) (.tuple ds)
inductive DenAll (K : PySem.W.Frag) (H : Hp) : List V → List PyData → Prop
  | nil : DenAll K H [] []
  | cons {v : V} {d : PyData} {vs : List V} {ds : List PyData} : Den K H v d → DenAll K H vs ds → DenAll K H (v :: vs) (d :: ds)
end
mutual
theorem Den.reads {X : Cx} {pins : List (Addr × Obj)} {σ : St} {H : Hp} {s : Shared} (I : Inv X pins σ H s) : ∀ {v : V} {d : PyData} {u : Value}, Den X.K H v d → RelV v u → ∃ as, Reads s.heap u d as
  | _, _, _, .non, r => by cases (show _ = Value.none from r); exact ⟨_, .none⟩
  | _, _, _, .bl b, r => by cases (show _ = Value.bool b from r); exact ⟨_, .bool b⟩
  | _, _, _, .int i, r => by obtain ⟨t, rfl⟩ := r; exact ⟨_, .int i t⟩
  | _, _, _, .str x, r => by obtain ⟨t, rfl⟩ := r; exact ⟨_, .str x t⟩
  | _, _, _, .lst h hd, r => by
    cases (show _ = Value.ref _ from r)
    obtain ⟨its, rv, p, hz⟩ := I.list h
    obtain ⟨o, ho, hc, n, hdt⟩ := p.isList
    obtain ⟨as, ra⟩ := DenAll.reads I hd rv
    exact ⟨_, .list ho hc hdt (by simpa using ra)⟩
  | _, _, _, .tup h hd, r => by
    cases (show _ = Value.ref _ from r)
    obtain ⟨its, rv, p, hz⟩ := I.tuple h
    obtain ⟨o, ho, hc, n, hdt⟩ := p
    obtain ⟨as, ra⟩ := DenAll.reads I hd rv
    exact ⟨_, .tuple ho hc hdt (by simpa using ra)⟩
theorem DenAll.reads {X : Cx} {pins : List (Addr × Obj)} {σ : St} {H : Hp} {s : Shared} (I : Inv X pins σ H s) : ∀ {vs : List V} {ds : List PyData} {us : List Value}, DenAll X.K H vs ds → Vals vs us → ∃ as, ReadsAll s.heap us ds as
  | _, _, _, .nil, .nil => ⟨_, .nil⟩
  | _, _, _, .cons h t, .cons r rr => by
    obtain ⟨a, ha⟩ := Den.reads I h r
    obtain ⟨b, hb⟩ := DenAll.reads I t rr
    exact ⟨_, .cons ha hb⟩
end
def isRef : V → Bool
  | .ref _ => true
  | _ => false
def rEqD (K : PySem.W.Frag) (neg : Bool) : R2 := fun x y H Q => (isRef x || isRef y) = true ∧ ∃ d e, Den K H x d ∧ Den K H y e ∧ SeqAt.shaped d = true ∧ SeqAt.shaped e = true ∧ Q (.bl (if neg then !PyData.eqv d e else PyData.eqv d e)) H
section
variable {X : Cx}
theorem op_eqD (hu : X.A.units + 64 < cLine) : OpR X (compareOp .Eq) (rEqD X.K false) := by
  intro pins s σ H x y v u Q I rx ry h
  obtain ⟨_, d, e, hd, he, sd, se, q⟩ := h
  obtain ⟨as, ra⟩ := hd.reads I rx
  obtain ⟨bs, rb⟩ := he.reads I ry
  exact eq_dataH ra rb sd se hu ⟨.bl (PyData.eqv d e), H, I, rfl, q⟩
theorem op_neD (hu : X.A.units + 64 < cLine) : OpR X (compareOp .NotEq) (rEqD X.K true) := by
  intro pins s σ H x y v u Q I rx ry h
  obtain ⟨_, d, e, hd, he, sd, se, q⟩ := h
  obtain ⟨as, ra⟩ := hd.reads I rx
  obtain ⟨bs, rb⟩ := he.reads I ry
  exact ne_dataH ra rb sd se hu ⟨.bl (!PyData.eqv d e), H, I, rfl, q⟩
theorem op_eqA (hu : X.A.units + 64 < cLine) : OpR X (compareOp .Eq) (fun x y H Q => rEq x y H Q ∨ rEqD X.K false x y H Q) := op_eq.or (op_eqD hu)
theorem op_neA (hu : X.A.units + 64 < cLine) : OpR X (compareOp .NotEq) (fun x y H Q => rNe x y H Q ∨ rEqD X.K true x y H Q) := op_ne.or (op_neD hu)

/-! ### < <= > >= of ints and of texts -/
def rStrs (p : List Nat → List Nat → Bool) : R2 := fun x y H Q => ∃ i j, x = .str i ∧ y = .str j ∧ Q (.bl (p i.cps.toList j.cps.toList)) H
theorem op_ltS : OpR X (compareOp .Lt) (rStrs fun a b => decide (a < b)) := by
  intro pins s σ H x y v u Q I rx ry h
  obtain ⟨i, j, rfl, rfl, q⟩ := h
  obtain ⟨t, rfl⟩ := rx
  obtain ⟨t', rfl⟩ := ry
  exact PySem.P.lt_str ⟨.bl (decide (i.cps.toList < j.cps.toList)), H, I, rfl, q⟩
theorem op_leS : OpR X (compareOp .LtE) (rStrs fun a b => !decide (b < a)) := by
  intro pins s σ H x y v u Q I rx ry h
  obtain ⟨i, j, rfl, rfl, q⟩ := h
  obtain ⟨t, rfl⟩ := rx
  obtain ⟨t', rfl⟩ := ry
  exact PySem.P.le_str ⟨.bl (!decide (j.cps.toList < i.cps.toList)), H, I, rfl, q⟩
theorem op_ltA : OpR X (compareOp .Lt) (fun x y H Q => rI0 (fun i j => .bl (decide (i < j))) x y H Q ∨ rStrs (fun a b => decide (a < b)) x y H Q) := op_lt.or op_ltS
theorem op_leA : OpR X (compareOp .LtE) (fun x y H Q => rI0 (fun i j => .bl (decide (i ≤ j))) x y H Q ∨ rStrs (fun a b => !decide (b < a)) x y H Q) := op_le.or op_leS
theorem op_gtA : OpR X (compareOp .Gt) (rI0 fun i j => .bl (decide (j < i))) := op_gt
/-! ### + -/
def rCatS (K : PySem.W.Frag) : R2 := fun x y H Q => ∃ l b xs zs, x = .ref l ∧ y = .ref b ∧ SqL K H l xs ∧ SqL K H b zs ∧ xs.length + zs.length ≤ sizeLine ∧ ∀ p, H p = none → Q (.ref p) (upd H p (.lst (xs ++ zs)))
theorem op_catS : OpR X (binaryOp .Add) (rCatS X.K) := by
  intro pins s σ H x y v u Q I rx ry h
  obtain ⟨l, b, xs, zs, rfl, rfl, hH, hB, hz, q⟩ := h
  cases rx
  cases ry
  obtain ⟨its, r, p, z1⟩ := I.list hH
  obtain ⟨its2, r2, p2, z2⟩ := I.list hB
  have h1 := r.length
  have h2 := r2.length
  obtain ⟨⟨cl, dc, dt, sl⟩, ho, hc, n, hd⟩ := p.isList
  obtain ⟨⟨cl2, dc2, dt2, sl2⟩, ho2, hc2, n2, hd2⟩ := p2.isList
  simp only at hc hd hc2 hd2
  subst hc hd hc2 hd2
  refine concat_meets ⟨_, ho, rfl⟩ ⟨_, ho2, rfl⟩ PySem.noFill_list_add PySem.seq_list_add F.slot_list_add F.entry_list_add (F.args_list_add_2 _ _) (list_addW l b its.toArray its2.toArray n n2 dc dc2 sl sl2 (by rw [List.size_toArray, List.size_toArray]; omega)) ⟨ho, ho2, ?_⟩
  have ea : its.toArray ++ its2.toArray = (its ++ its2).toArray := by simp
  rw [ea]
  exact ⟨.ref _, _, I.lnew (t' := s.toks) (r.append r2) (by rw [List.length_append]; omega), rfl, q _ I.fresh⟩
def rCatT2 : R2 := fun x y H Q => ∃ i j, x = .str (S i) ∧ y = .str (S j) ∧ i.length + j.length ≤ sizeLine ∧ Q (.str (S (i ++ j))) H
theorem op_catT2 : OpR X (binaryOp .Add) rCatT2 := by
  intro pins s σ H x y v u Q I rx ry h
  obtain ⟨i, j, rfl, rfl, hz, q⟩ := h
  refine op_add_str pins s σ H _ _ v u Q I rx ry ⟨S i, S j, rfl, rfl, ?_, ?_⟩
  · rw [S_len, S_len]; exact hz
  · rw [S_app]; exact q
theorem op_plus : OpR X (binaryOp .Add) (fun x y H Q => rI0 (fun i j => .int (i + j)) x y H Q ∨ (rCatT2 x y H Q ∨ rCatS X.K x y H Q)) := op_add.or (op_catT2.or op_catS)
/-! ### len, isinstance -/
theorem call_lenT : CallR X (.builtin "len") (fun xs H Q => ∃ l, xs = [.str (S l)] ∧ l.length ≤ sizeLine ∧ Q (.int l.length) H) := by
  intro pins s σ H xs us Q I r h
  obtain ⟨l, rfl, hz, q⟩ := h
  refine call_len_str pins s σ H _ us Q I r ⟨S l, rfl, ?_, ?_⟩
  · rw [S_len]; exact hz
  · rw [S_len]; exact q
theorem call_lenA : CallR X (.builtin "len") (fun xs H Q => (∃ p ys, xs = [.ref p] ∧ (SqL X.K H p ys ∨ SqT X.K H p ys) ∧ Q (.int ys.length) H) ∨ ((∃ l, xs = [.str (S l)] ∧ l.length ≤ sizeLine ∧ Q (.int l.length) H) ∨ (∃ a kvs, xs = [V.ref a] ∧ H a = some (.dK kvs) ∧ Q (.int kvs.length) H))) :=
  call_len_seq.or (call_lenT.or call_lenD)
def rIsi (K : PySem.W.Frag) : List V → Hp → VK → Prop := fun xs H Q => (∃ x t n b, xs = [x, .ty n] ∧ TyOf K H x t ∧ PySem.W.kitOne K t (.type n) = some b ∧ Q (.bl b) H) ∨ (∃ x t C b, xs = [x, .ref C] ∧ TyOf K H x t ∧ PySem.W.kitOne K t (.ref C) = some b ∧ Q (.bl b) H)
theorem call_isinstanceA : CallR X (.builtin "isinstance") (rIsi X.K) := by
  intro pins s σ H xs us Q I r h
  rcases h with ⟨x, t, n, b, rfl, ty, e, q⟩ | ⟨x, t, n, b, rfl, ty, e, q⟩
  · obtain ⟨u, w, rfl, rx, rw'⟩ := vals2 r
    cases rw'
    exact isinst_ok I rx ty e fun tk => ⟨.bl b, H, I.tok tk, rfl, q⟩
  · obtain ⟨u, w, rfl, rx, rw'⟩ := vals2 r
    cases rw'
    exact isinst_ok I rx ty e fun tk => ⟨.bl b, H, I.tok tk, rfl, q⟩
/-! ### o[i] -/
theorem ix_dict (hu : X.A.units + 1 < cLine) : IxR X (fun x y H Q => ∃ a v, x = .ref a ∧ DGet H a y (some v) ∧ Q v H) := by
  intro value slice pins s σ H x y v u Q I rx ry h hs
  obtain ⟨a, z, rfl, g, q⟩ := h
  cases (show v = Value.ref a from rx)
  exact tail_any (dict_typeIs I g) PySem.F.slot_dict_getitem.lookup (d_getItem hu I g ry fun w' s3 I3 rw' => ⟨z, H, I3, rw', q⟩) hs
def rIxS2 : R2 := fun x y H Q => ∃ l i c, x = .str (S l) ∧ y = .int i ∧ l.length ≤ sizeLine ∧ atI l i = some c ∧ Q (.str (S [c])) H
theorem ix_str2 : IxR X rIxS2 := by
  intro value slice pins s σ H x y v u Q I rx ry h hs
  obtain ⟨l, i, c, rfl, rfl, hz, he, q⟩ := h
  exact ix_str value slice pins s σ H _ _ v u Q I rx ry ⟨S l, i, c, rfl, rfl, (by rw [S_len]; exact hz), (by simpa using he), q⟩ hs
def rIxA (K : PySem.W.Frag) : R2 := fun x y H Q => rIxL K x y H Q ∨ (rIxT K x y H Q ∨ (rIxS2 x y H Q ∨ (∃ a v, x = .ref a ∧ DGet H a y (some v) ∧ Q v H)))
theorem ix_any (hu : X.A.units + 1 < cLine) : IxR X (rIxA X.K) := ix_list.or (ix_tup.or (ix_str2.or (ix_dict hu)))
def rSlA (K : PySem.W.Frag) : V → Option Int → Option Int → Hp → VK → Prop := fun x lo hi H Q => rSlL K x lo hi H Q ∨ rSlS x lo hi H Q
theorem sl_any : SlR X (rSlA X.K) := sl_list.or sl_str
def rSetA : V → V → V → Hp → (Hp → Prop) → Prop := fun o i v H Q => rSetL o i v H Q ∨ ∃ a H', o = .ref a ∧ DPut H a i v H' ∧ Q H'
theorem set_any (hu : X.A.units + 1 < cLine) : PSet X rSetA := by
  intro pins s σ H o i v ov iv u Q I ro ri rv h
  rcases h with h | ⟨a, H', rfl, g, q⟩
  · exact set_list pins s σ H o i v ov iv u Q I ro ri rv h
  · cases (show ov = Value.ref a from ro)
    exact d_setItem hu I g ri rv fun s4 I4 => ⟨H', I4, q⟩

/-! ### in -/
theorem op_inD (hu : X.A.units + 1 < cLine) : OpR X (compareOp .In) (fun y x H Q => ∃ a o, x = .ref a ∧ DGet H a y o ∧ Q (.bl o.isSome) H) := by
  intro pins s σ H y x v u Q I ry rx h
  obtain ⟨a, o, rfl, g, q⟩ := h
  cases (show u = Value.ref a from rx)
  exact d_in hu I g ry fun s3 I3 => ⟨.bl o.isSome, H, I3, rfl, q⟩
theorem op_notInD (hu : X.A.units + 1 < cLine) : OpR X (compareOp .NotIn) (fun y x H Q => ∃ a o, x = .ref a ∧ DGet H a y o ∧ Q (.bl (!o.isSome)) H) := by
  intro pins s σ H y x v u Q I ry rx h
  obtain ⟨a, o, rfl, g, q⟩ := h
  cases (show u = Value.ref a from rx)
  exact d_notIn hu I g ry fun s3 I3 => ⟨.bl (!o.isSome), H, I3, rfl, q⟩
def occB (j i : Str) : Bool := !(Builtin.Str.occurrences j i 0 j.length 1).isEmpty
theorem op_inA (hu : X.A.units + 1 < cLine) : OpR X (compareOp .In) (fun x y H Q => rIn X.K false x y H Q ∨ ((∃ i j, x = .str i ∧ y = .str j ∧ Q (.bl (occB j i)) H) ∨ (∃ a o, y = .ref a ∧ DGet H a x o ∧ Q (.bl o.isSome) H))) :=
  op_in_seq.or (OpR.or (r := fun x y H Q => ∃ i j, x = .str i ∧ y = .str j ∧ Q (.bl (occB j i)) H) op_in_str (op_inD hu))
theorem op_notInA (hu : X.A.units + 1 < cLine) : OpR X (compareOp .NotIn) (fun x y H Q => rIn X.K true x y H Q ∨ ((∃ i j, x = .str i ∧ y = .str j ∧ Q (.bl (!occB j i)) H) ∨ (∃ a o, y = .ref a ∧ DGet H a x o ∧ Q (.bl (!o.isSome)) H))) :=
  op_notIn_seq.or (OpR.or (r := fun x y H Q => ∃ i j, x = .str i ∧ y = .str j ∧ Q (.bl (!occB j i)) H) op_notIn_str (op_notInD hu))

/-! ### sep.join(xs) -/
def joinL (sep : List Nat) : List (List Nat) → List Nat
  | [] => []
  | [x] => x
  | x :: rest => x ++ sep ++ joinL sep rest
theorem joinL_nil (ls : List (List Nat)) : joinL [] ls = ls.flatten := by
  induction ls with
  | nil => rfl
  | cons a r ih =>
    cases r with
    | nil => simp [joinL]
    | cons b t => rw [joinL, ih]; simp; intro h; cases h
theorem join_S (sep : List Nat) : ∀ ls : List (List Nat), Str.join (S sep) (ls.map S) = S (joinL sep ls)
  | [] => rfl
  | [x] => rfl
  | x :: y :: r => by
    have ih := join_S sep (y :: r)
    show S x ++ S sep ++ Str.join (S sep) ((y :: r).map S) = S (x ++ sep ++ joinL sep (y :: r))
    rw [ih, S_app, S_app]
theorem strsAre_of {ls : List (List Nat)} : ∀ {us : List Value}, Vals (ls.map fun l => V.str (S l)) us → StrsAre us (ls.map S) := by
  induction ls with
  | nil => intro us r; cases r; exact .nil
  | cons a r ih =>
    intro us h
    cases h with
    | cons h1 h2 =>
      obtain ⟨t, rfl⟩ := h1
      exact .cons _ t (ih h2)
def rJoin (K : PySem.W.Frag) : V → List V → Hp → VK → Prop := fun x vs H Q => ∃ sep p ls, x = .str (S sep) ∧ vs = [.ref p] ∧ SqL K H p (ls.map fun l => V.str (S l)) ∧ (ls.map List.length).sum + ls.length * sep.length ≤ 16777216 ∧ Q (.str (S (joinL sep ls))) H
theorem mt_join : MtR X "str.join" (rJoin X.K) := by
  intro pins s σ H x vs v us Q I rx rv h
  obtain ⟨sep, p, ls, rfl, rfl, hq, hz, q⟩ := h
  obtain ⟨t, rfl⟩ := rx
  obtain ⟨u, rfl, ru⟩ := vals1 rv
  cases ru
  obtain ⟨its, r, pl, _⟩ := I.list hq
  refine join_list pl.isList (ys := ls.map S) (by simpa using strsAre_of r) ?_ fun t' k => ?_
  · rw [List.map_map, List.length_map]
    have e : (Str.length ∘ S) = List.length := by funext l; exact S_len l
    rw [e, S_len]
    exact hz
  · have e : Txt.join (S sep) (ls.map S) = S (joinL sep ls) := (StrLaws.glued_eq_join _ _).trans (join_S sep ls)
    rw [e]
    exact ⟨.str (S (joinL sep ls)), H, I.tok k, ⟨t', rfl⟩, q⟩

/-! ### for x in (a list, a tuple, a text) -/
def iAny (K : PySem.W.Frag) (tl : TE) : TI := fun σ H R => tl σ H fun x H1 => (∃ a, x = .ref a ∧ (∃ xs, SqL K H1 a xs) ∧ R (Itl K a) H1) ∨ ((∃ a, x = .ref a ∧ (∃ xs, SqT K H1 a xs) ∧ R (Itt K a) H1) ∨ (∃ z, x = .str z ∧ R (Its z) H1))
theorem pi_any {tg l : Expr} {tl : TE} (hl : PE X l tl) : PI X tg l (iAny X.K tl) := by
  intro pins s σ H R I h
  refine thn (hl pins s σ H _ I h) fun v s1 ⟨x, H1, I1, r1, q1⟩ => ?_
  have aux : ∀ {e : Value} {t : TE} {R' : It → Hp → Prop}, True := fun {_ _ _} => trivial
  have fp : ∀ b, b ∈ [s1.heap.objs.size] → FpOk X pins H1 b := fun b hb => by
    have e : b = s1.heap.objs.size := by simpa using hb
    subst e
    exact I1.fpOk (Nat.le_refl _) (I1.hok.fresh (Nat.le_refl _))
  rcases q1 with ⟨a, e, ⟨xs, hq⟩, q⟩ | ⟨a, e, ⟨xs, hq⟩, q⟩ | ⟨z, e, q⟩
  · subst e
    cases r1
    obtain ⟨its, rv, p, hz⟩ := I1.list hq
    refine wpAny_pyIter_list p.isList ?_
    exact ⟨s1.heap.objs.size, [s1.heap.objs.size], _, _, H1, rfl, I1.kept (t' := s1.toks) fun b o e => Heap.get?_push_of_some _ e, turn_list a _, ⟨_, Heap.get?_push_size _ rfl, rfl, rfl⟩, fp, q⟩
  · subst e
    cases r1
    obtain ⟨its, rv, p, hz⟩ := I1.tuple hq
    refine wpAny_pyIter_tuple (show s1.heap.IsTuple a its.toArray from p) ?_
    exact ⟨s1.heap.objs.size, [s1.heap.objs.size], _, _, H1, rfl, I1.kept (t' := s1.toks) fun b o e => Heap.get?_push_of_some _ e, turn_tuple a _, ⟨_, Heap.get?_push_size _ rfl, rfl, rfl⟩, fp, q⟩
  · subst e
    obtain ⟨t, rfl⟩ := r1
    refine wpAny_pyIter_strU ?_
    exact ⟨s1.heap.objs.size, [s1.heap.objs.size], _, _, H1, rfl, I1.kept (t' := s1.toks) fun b o e => Heap.get?_push_of_some _ e, turn_str _ z t, ⟨_, Heap.get?_push_size _ rfl, rfl, rfl⟩, fp, q⟩
end
end L2

set_option Elab.async false
set_option linter.all false
set_option maxRecDepth 100000
set_option maxHeartbeats 4000000
namespace L2
open PySem PySem.Spec PyProof.Rows

/-! ### a comprehension whose test and element leave all that was there as it was -/
theorem comp_mapf {J : It} {tt : TT} {te : TE} {σ : St} {H : Hp} {D : Addr} {Q : Hp → Prop} (n : Nat) (hn : n ≤ sizeLine) (hD : H D = none) (item f : Nat → V) (p : Nat → Bool)
    (hstop : ∀ H', Same H H' → J.stop n H') (hgo : ∀ i H', Same H H' → i < n → J.go i H') (hy : ∀ i H' x H'', Same H H' → i < n → J.yld i H' x H'' → H'' = H' ∧ x = item i)
    (ht : ∀ i H', i < n → Same H H' → ∀ Qt : Bool → Hp → Prop, (∀ H'', Same H' H'' → Qt (p i) H'') → tt (some (item i) :: σ) H' Qt)
    (he : ∀ i H', i < n → p i = true → Same H H' → ∀ Qe : VK, (∀ H'', Same H' H'' → Qe (f i) H'') → te (some (item i) :: σ) H' Qe)
    (hd : ∀ H', Same H H' → H' D = some (.lst (((List.range n).filter p).map f)) → Q H') :
    ∃ W : Nat → Nat → List V → Hp → Prop, (∃ m, W 0 m [] (upd H D (.lst []))) ∧ ∀ i m ys H2, W i m ys H2 →
      (J.stop i H2 ∧ H2 D = some (.lst ys) ∧ Q H2) ∨ (J.go i H2 ∧ ys.length < sizeLine ∧ ∀ x H3, J.yld i H2 x H3 → tt (some x :: σ) H3 fun b H4 =>
        if b = true then te (some x :: σ) H4 fun y H5 => H5 D = some (.lst ys) ∧ ∃ m', m' < m ∧ W (i + 1) m' (ys ++ [y]) (upd H5 D (.lst (ys ++ [y]))) else ∃ m', m' < m ∧ W (i + 1) m' ys H4) := by
  have same0 : ∀ {H' : Hp} {ys : List V}, Same H H' → Same H (upd H' D (.lst ys)) := fun {H' ys} h b o e => by
    rw [upd_ne (ne_of_none e hD)]
    exact h b o e
  refine ⟨fun i m ys H2 => m = n - i ∧ i ≤ n ∧ ys = ((List.range i).filter p).map f ∧ H2 D = some (.lst ys) ∧ Same H H2, ⟨n, rfl, Nat.zero_le _, rfl, upd_same, same0 (Same.refl _)⟩, ?_⟩
  rintro i m ys H2 ⟨rfl, hi, e, hH, hs⟩
  have hlen : ys.length ≤ i := by
    rw [e, List.length_map]
    exact Nat.le_trans (List.length_filter_le _ _) (by rw [List.length_range]; exact Nat.le_refl _)
  by_cases hlt : i < n
  · refine .inr ⟨hgo i H2 hs hlt, by omega, fun x H3 y => ?_⟩
    obtain ⟨rfl, rfl⟩ := hy i H2 x H3 hs hlt y
    have grow : ((List.range (i + 1)).filter p).map f = if p i = true then ys ++ [f i] else ys := by
      rw [List.range_succ, List.filter_append, List.map_append, ← e]
      by_cases hp : p i = true
      · rw [if_pos hp]; simp [hp]
      · have hp' : p i = false := by simpa using hp
        rw [if_neg hp]; simp [hp']
    refine ht i _ hlt hs _ fun H4 s4 => ?_
    by_cases hp : p i = true
    · rw [hp, if_pos rfl]
      rw [if_pos hp] at grow
      refine he i H4 hlt hp (hs.trans s4) _ fun H5 s5 => ⟨s5 _ _ (s4 _ _ hH), n - (i + 1), by omega, rfl, hlt, grow.symm, upd_same, same0 ((hs.trans s4).trans s5)⟩
    · have hp' : p i = false := by simpa using hp
      rw [hp', if_neg Bool.false_ne_true]
      rw [if_neg hp] at grow
      exact ⟨n - (i + 1), by omega, rfl, hlt, grow.symm, s4 _ _ hH, hs.trans s4⟩
  · have ei : i = n := by omega
    subst ei
    rw [e] at hH
    exact .inl ⟨hstop _ hs, by rw [e]; exact hH, hd _ hs hH⟩
theorem filter_true {α : Type} (l : List α) : l.filter (fun _ => true) = l := by induction l <;> simp_all
/-- [f i for i in range(..)] -/
theorem comp_range {te : TE} {σ : St} {H : Hp} {D : Addr} {Q : Hp → Prop} (lo : Int) (n : Nat) (hn : n ≤ sizeLine) (hD : H D = none) (f : Nat → V)
    (he : ∀ i H', i < n → Same H H' → ∀ Qe : VK, (∀ H'', Same H' H'' → Qe (f i) H'') → te (some (.int (lo + i)) :: σ) H' Qe)
    (hd : ∀ H', Same H H' → H' D = some (.lst ((List.range n).map f)) → Q H') :
    ∃ W : Nat → Nat → List V → Hp → Prop, (∃ m, W 0 m [] (upd H D (.lst []))) ∧ ∀ i m ys H2, W i m ys H2 →
      ((Itr lo n).stop i H2 ∧ H2 D = some (.lst ys) ∧ Q H2) ∨ ((Itr lo n).go i H2 ∧ ys.length < sizeLine ∧ ∀ x H3, (Itr lo n).yld i H2 x H3 → tYes (some x :: σ) H3 fun b H4 =>
        if b = true then te (some x :: σ) H4 fun y H5 => H5 D = some (.lst ys) ∧ ∃ m', m' < m ∧ W (i + 1) m' (ys ++ [y]) (upd H5 D (.lst (ys ++ [y]))) else ∃ m', m' < m ∧ W (i + 1) m' ys H4) :=
  comp_mapf (J := Itr lo n) n hn hD (fun i => .int (lo + i)) f (fun _ => true) (fun _ _ => Nat.le_refl _) (fun i _ _ h => h) (fun i H' x H'' _ _ y => y) (fun i H' _ _ Qt q => q H' (Same.refl _)) (fun i H' h _ s Qe q => he i H' h s Qe q)
    (fun H' s h => hd H' s (by rw [filter_true] at h; exact h))
theorem Same.upd {H : Hp} {D : Addr} {o : HO} (hD : H D = none) : Same H (upd H D o) := fun b u e => by
  rw [upd_ne (ne_of_none e hD)]
  exact e
/-- a list's place, in bounds -/
theorem atI_get? {α : Type} {xs : List α} {i : Int} {v : α} (h0 : 0 ≤ i) (h : xs[i.toNat]? = some v) : atI xs i = some v := by
  have := atI_nat (xs := xs) (j := i.toNat) h
  rwa [show ((i.toNat : Nat) : Int) = i by omega] at this
theorem Same.tup {K : PySem.W.Frag} {H H' : Hp} {a : Addr} {xs : List V} (e : Same H H') (h : SqT K H a xs) : SqT K H' a xs := by
  rcases h with (h | ⟨o, h⟩) | h
  · exact .inl (.inl (e _ _ h))
  · exact .inl (.inr ⟨o, e _ _ h⟩)
  · exact .inr h
mutual
theorem Den.same {K : PySem.W.Frag} {H H' : Hp} (s : Same H H') : ∀ {v : V} {d : PyData}, Den K H v d → Den K H' v d
  | _, _, .non => .non
  | _, _, .bl b => .bl b
  | _, _, .int i => .int i
  | _, _, .str x => .str x
  | _, _, .lst h t => .lst (s.seq h) (DenAll.same s t)
  | _, _, .tup h t => .tup (s.tup h) (DenAll.same s t)
theorem DenAll.same {K : PySem.W.Frag} {H H' : Hp} (s : Same H H') : ∀ {v : List V} {d : List PyData}, DenAll K H v d → DenAll K H' v d
  | _, _, .nil => .nil
  | _, _, .cons h t => .cons (Den.same s h) (DenAll.same s t)
end
/-- what isinstance tells of the plain values -/
theorem rIsi_iff {K : PySem.W.Frag} {H : Hp} {Q : VK} {x : V} {n T : String} {b : Bool} (hT : ∀ t, TyOf K H x t ↔ t = .type T) (hk : PySem.W.kitOne K (.type T) (.type n) = some b) : rIsi K [x, .ty n] H Q ↔ Q (.bl b) H := by
  constructor
  · rintro (⟨x', t, n', b', e, ty, k, q⟩ | ⟨x', t, C, b', e, ty, k, q⟩)
    · simp only [List.cons.injEq, V.ty.injEq, and_true] at e
      obtain ⟨rfl, rfl⟩ := e
      rw [(hT t).mp ty, hk] at k
      cases k
      exact q
    · simp at e
  · intro q
    exact .inl ⟨x, _, n, b, rfl, (hT _).mpr rfl, hk, q⟩
theorem tyOf_non {K : PySem.W.Frag} {H : Hp} (t : Value) : TyOf K H .non t ↔ t = .type "NoneType" := ⟨fun h => by cases h; rfl, fun h => h ▸ .non⟩
theorem tyOf_bl {K : PySem.W.Frag} {H : Hp} (b : Bool) (t : Value) : TyOf K H (.bl b) t ↔ t = .type "bool" := ⟨fun h => by cases h; rfl, fun h => h ▸ .bl b⟩
theorem tyOf_int {K : PySem.W.Frag} {H : Hp} (b : Int) (t : Value) : TyOf K H (.int b) t ↔ t = .type "int" := ⟨fun h => by cases h; rfl, fun h => h ▸ .int b⟩
theorem tyOf_str {K : PySem.W.Frag} {H : Hp} (b : Str) (t : Value) : TyOf K H (.str b) t ↔ t = .type "str" := ⟨fun h => by cases h; rfl, fun h => h ▸ .str b⟩
theorem tyOf_dK {K : PySem.W.Frag} {H : Hp} {a : Addr} {xs : List (Key × V)} (e : H a = some (.dK xs)) (t : Value) : TyOf K H (.ref a) t ↔ t = .type "dict" := by
  constructor
  · intro h
    cases h <;> first | rfl | (rename_i e'; rw [e] at e'; cases e') | (rename_i e' _ _ _ _ _; rw [e] at e'; cases e')
  · intro h
    exact h ▸ .dK e
theorem isi_non_int {K : PySem.W.Frag} {H : Hp} {Q : VK} : rIsi K [.non, .ty "int"] H Q ↔ Q (.bl false) H := rIsi_iff (tyOf_non) (by rfl)
theorem isi_non_bool {K : PySem.W.Frag} {H : Hp} {Q : VK} : rIsi K [.non, .ty "bool"] H Q ↔ Q (.bl false) H := rIsi_iff (tyOf_non) (by rfl)
theorem isi_non_str {K : PySem.W.Frag} {H : Hp} {Q : VK} : rIsi K [.non, .ty "str"] H Q ↔ Q (.bl false) H := rIsi_iff (tyOf_non) (by rfl)
theorem isi_non_list {K : PySem.W.Frag} {H : Hp} {Q : VK} : rIsi K [.non, .ty "list"] H Q ↔ Q (.bl false) H := rIsi_iff (tyOf_non) (by rfl)
theorem isi_non_tuple {K : PySem.W.Frag} {H : Hp} {Q : VK} : rIsi K [.non, .ty "tuple"] H Q ↔ Q (.bl false) H := rIsi_iff (tyOf_non) (by rfl)
theorem isi_non_dict {K : PySem.W.Frag} {H : Hp} {Q : VK} : rIsi K [.non, .ty "dict"] H Q ↔ Q (.bl false) H := rIsi_iff (tyOf_non) (by rfl)
theorem isi_bl_int {K : PySem.W.Frag} {H : Hp} {Q : VK} {b : Bool} : rIsi K [(.bl b), .ty "int"] H Q ↔ Q (.bl true) H := rIsi_iff (tyOf_bl _) (by rfl)
theorem isi_bl_bool {K : PySem.W.Frag} {H : Hp} {Q : VK} {b : Bool} : rIsi K [(.bl b), .ty "bool"] H Q ↔ Q (.bl true) H := rIsi_iff (tyOf_bl _) (by rfl)
theorem isi_bl_str {K : PySem.W.Frag} {H : Hp} {Q : VK} {b : Bool} : rIsi K [(.bl b), .ty "str"] H Q ↔ Q (.bl false) H := rIsi_iff (tyOf_bl _) (by rfl)
theorem isi_bl_list {K : PySem.W.Frag} {H : Hp} {Q : VK} {b : Bool} : rIsi K [(.bl b), .ty "list"] H Q ↔ Q (.bl false) H := rIsi_iff (tyOf_bl _) (by rfl)
theorem isi_bl_tuple {K : PySem.W.Frag} {H : Hp} {Q : VK} {b : Bool} : rIsi K [(.bl b), .ty "tuple"] H Q ↔ Q (.bl false) H := rIsi_iff (tyOf_bl _) (by rfl)
theorem isi_bl_dict {K : PySem.W.Frag} {H : Hp} {Q : VK} {b : Bool} : rIsi K [(.bl b), .ty "dict"] H Q ↔ Q (.bl false) H := rIsi_iff (tyOf_bl _) (by rfl)
theorem isi_int_int {K : PySem.W.Frag} {H : Hp} {Q : VK} {b : Int} : rIsi K [(.int b), .ty "int"] H Q ↔ Q (.bl true) H := rIsi_iff (tyOf_int _) (by rfl)
theorem isi_int_bool {K : PySem.W.Frag} {H : Hp} {Q : VK} {b : Int} : rIsi K [(.int b), .ty "bool"] H Q ↔ Q (.bl false) H := rIsi_iff (tyOf_int _) (by rfl)
theorem isi_int_str {K : PySem.W.Frag} {H : Hp} {Q : VK} {b : Int} : rIsi K [(.int b), .ty "str"] H Q ↔ Q (.bl false) H := rIsi_iff (tyOf_int _) (by rfl)
theorem isi_int_list {K : PySem.W.Frag} {H : Hp} {Q : VK} {b : Int} : rIsi K [(.int b), .ty "list"] H Q ↔ Q (.bl false) H := rIsi_iff (tyOf_int _) (by rfl)
theorem isi_int_tuple {K : PySem.W.Frag} {H : Hp} {Q : VK} {b : Int} : rIsi K [(.int b), .ty "tuple"] H Q ↔ Q (.bl false) H := rIsi_iff (tyOf_int _) (by rfl)
theorem isi_int_dict {K : PySem.W.Frag} {H : Hp} {Q : VK} {b : Int} : rIsi K [(.int b), .ty "dict"] H Q ↔ Q (.bl false) H := rIsi_iff (tyOf_int _) (by rfl)
theorem isi_str_int {K : PySem.W.Frag} {H : Hp} {Q : VK} {b : Str} : rIsi K [(.str b), .ty "int"] H Q ↔ Q (.bl false) H := rIsi_iff (tyOf_str _) (by rfl)
theorem isi_str_bool {K : PySem.W.Frag} {H : Hp} {Q : VK} {b : Str} : rIsi K [(.str b), .ty "bool"] H Q ↔ Q (.bl false) H := rIsi_iff (tyOf_str _) (by rfl)
theorem isi_str_str {K : PySem.W.Frag} {H : Hp} {Q : VK} {b : Str} : rIsi K [(.str b), .ty "str"] H Q ↔ Q (.bl true) H := rIsi_iff (tyOf_str _) (by rfl)
theorem isi_str_list {K : PySem.W.Frag} {H : Hp} {Q : VK} {b : Str} : rIsi K [(.str b), .ty "list"] H Q ↔ Q (.bl false) H := rIsi_iff (tyOf_str _) (by rfl)
theorem isi_str_tuple {K : PySem.W.Frag} {H : Hp} {Q : VK} {b : Str} : rIsi K [(.str b), .ty "tuple"] H Q ↔ Q (.bl false) H := rIsi_iff (tyOf_str _) (by rfl)
theorem isi_str_dict {K : PySem.W.Frag} {H : Hp} {Q : VK} {b : Str} : rIsi K [(.str b), .ty "dict"] H Q ↔ Q (.bl false) H := rIsi_iff (tyOf_str _) (by rfl)
theorem isi_dK_dict {K : PySem.W.Frag} {H : Hp} {Q : VK} {a : Addr} {xs : List (Key × V)} (e : H a = some (.dK xs)) : rIsi K [.ref a, .ty "dict"] H Q ↔ Q (.bl true) H := rIsi_iff (tyOf_dK e) (by rfl)
/-! ### loops, kept folded while a body is read -/
def forW (J : It) (g : TG) (tb : TS) (D : Ends) (σ : St) (H1 : Hp) : Prop := ∃ W : Nat → Nat → St → Hp → Prop, (∃ m, W 0 m σ H1) ∧ ∀ i m σ H, W i m σ H →
  (J.stop i H ∧ D.nx σ H) ∨ (J.go i H ∧ ∃ N : St → Hp → Prop, (∀ σ' H', N σ' H' → ∃ m', m' < m ∧ W (i + 1) m' σ' H') ∧ ∀ x H', J.yld i H x H' → g x σ H' fun σ2 H2 => tb { D with nx := N, ct := N, bk := D.nx } σ2 H2)
theorem tFor_eq (wi : TI) (g : TG) (tb : TS) (D : Ends) (σ : St) (H : Hp) : tFor wi g tb D σ H = wi σ H fun J H1 => forW J g tb D σ H1 := rfl
def compW (J : It) (tt : TT) (te : TE) (σ : St) (H1 : Hp) (Q : VK) : Prop := ∀ D, H1 D = none → ∃ W : Nat → Nat → List V → Hp → Prop, (∃ m, W 0 m [] (upd H1 D (.lst []))) ∧ ∀ i m ys H2, W i m ys H2 →
  (J.stop i H2 ∧ H2 D = some (.lst ys) ∧ Q (.ref D) H2) ∨ (J.go i H2 ∧ ys.length < sizeLine ∧ ∀ x H3, J.yld i H2 x H3 → tt (some x :: σ) H3 fun b H4 =>
    if b = true then te (some x :: σ) H4 fun y H5 => H5 D = some (.lst ys) ∧ ∃ m', m' < m ∧ W (i + 1) m' (ys ++ [y]) (upd H5 D (.lst (ys ++ [y]))) else ∃ m', m' < m ∧ W (i + 1) m' ys H4)
theorem tComp_eq (wi : TI) (tt : TT) (te : TE) (σ : St) (H : Hp) (Q : VK) : tComp wi tt te σ H Q = wi σ H fun J H1 => compW J tt te σ H1 Q := rfl
theorem forW_list {K : PySem.W.Frag} {a : Addr} {xs : List V} {g : TG} {tb : TS} {D : Ends} {σ : St} {H : Hp} (Pv : Nat → St → Hp → Prop) (h0 : Pv 0 σ H) (hl : ∀ i σ H, i ≤ xs.length → Pv i σ H → SqL K H a xs)
    (hs : ∀ i x σ H, xs[i]? = some x → Pv i σ H → g x σ H fun σ2 H2 => tb { D with nx := Pv (i + 1), ct := Pv (i + 1), bk := D.nx } σ2 H2) (hd : ∀ σ H, Pv xs.length σ H → D.nx σ H) : forW (Itl K a) g tb D σ H :=
  for_list Pv h0 hl hs hd
theorem forW_tup {K : PySem.W.Frag} {a : Addr} {xs : List V} {g : TG} {tb : TS} {D : Ends} {σ : St} {H : Hp} (Pv : Nat → St → Hp → Prop) (h0 : Pv 0 σ H) (hl : ∀ i σ H, i ≤ xs.length → Pv i σ H → SqT K H a xs)
    (hs : ∀ i x σ H, xs[i]? = some x → Pv i σ H → g x σ H fun σ2 H2 => tb { D with nx := Pv (i + 1), ct := Pv (i + 1), bk := D.nx } σ2 H2) (hd : ∀ σ H, Pv xs.length σ H → D.nx σ H) : forW (Itt K a) g tb D σ H :=
  for_tup Pv h0 hl hs hd
theorem compW_range {te : TE} {σ : St} {H : Hp} {Q : VK} {lo : Int} {n : Nat} (hn : n ≤ sizeLine) (f : Nat → V)
    (he : ∀ i H', i < n → Same H H' → ∀ Qe : VK, (∀ H'', Same H' H'' → Qe (f i) H'') → te (some (.int (lo + i)) :: σ) H' Qe)
    (hd : ∀ D H', H D = none → Same H H' → H' D = some (.lst ((List.range n).map f)) → Q (.ref D) H') : compW (Itr lo n) tYes te σ H Q :=
  fun D hD => comp_range lo n hn hD f he fun H' s h => hd D H' hD s h
theorem cx_K {CX : CXT} {P : Program} {w : World} {K : PySem.W.Frag} {mg : Str → Option Value} {base : Heap} {N : List Str} {qual : Str} {scope : Scope} {f : Addr} {cd : Value} {A : Around} {outer : List Env} {s : Shared} {H : Hp} {E : XK} :
    (cxOf CX P w K mg base N qual scope f cd A outer s H E).K = K := rfl
theorem S_iff (a b : List Nat) : (S a = S b) = (a = b) := propext ⟨S_inj, fun h => by rw [h]⟩
end L2

set_option Elab.async false
set_option linter.all false
set_option maxRecDepth 100000
set_option maxHeartbeats 4000000
namespace L2
open PySem PySem.Spec PyProof.Rows
/-! ### the joined rules by name -/
def rPlus (K : PySem.W.Frag) : R2 := fun x y H Q => rI0 (fun i j => .int (i + j)) x y H Q ∨ (rCatT2 x y H Q ∨ rCatS K x y H Q)
def rEqq (K : PySem.W.Frag) : R2 := fun x y H Q => rEq x y H Q ∨ rEqD K false x y H Q
def rNeq (K : PySem.W.Frag) : R2 := fun x y H Q => rNe x y H Q ∨ rEqD K true x y H Q
def rLt : R2 := fun x y H Q => rI0 (fun i j => .bl (decide (i < j))) x y H Q ∨ rStrs (fun a b => decide (a < b)) x y H Q
def rLe : R2 := fun x y H Q => rI0 (fun i j => .bl (decide (i ≤ j))) x y H Q ∨ rStrs (fun a b => !decide (b < a)) x y H Q
def rLen (K : PySem.W.Frag) : List V → Hp → VK → Prop := fun xs H Q => (∃ p ys, xs = [.ref p] ∧ (SqL K H p ys ∨ SqT K H p ys) ∧ Q (.int ys.length) H) ∨ ((∃ l, xs = [.str (S l)] ∧ l.length ≤ sizeLine ∧ Q (.int l.length) H) ∨ (∃ a kvs, xs = [V.ref a] ∧ H a = some (.dK kvs) ∧ Q (.int kvs.length) H))
def rInn (K : PySem.W.Frag) : R2 := fun x y H Q => rIn K false x y H Q ∨ ((∃ i j, x = .str i ∧ y = .str j ∧ Q (.bl (occB j i)) H) ∨ (∃ a o, y = .ref a ∧ DGet H a x o ∧ Q (.bl o.isSome) H))
def rNin (K : PySem.W.Frag) : R2 := fun x y H Q => rIn K true x y H Q ∨ ((∃ i j, x = .str i ∧ y = .str j ∧ Q (.bl (!occB j i)) H) ∨ (∃ a o, y = .ref a ∧ DGet H a x o ∧ Q (.bl (!o.isSome)) H))
def rListOf (K : PySem.W.Frag) : List V → Hp → VK → Prop := fun xs H Q => ∃ p ys, xs = [.ref p] ∧ (SqL K H p ys ∨ SqT K H p ys) ∧ ∀ l, H l = none → Q (.ref l) (upd H l (.lst ys))
def rOrd : List V → Hp → VK → Prop := fun xs H Q => ∃ c, xs = [.str (S [c])] ∧ Q (.int (c : Nat)) H
def rAny (K : PySem.W.Frag) (x : V) (H1 : Hp) (R : It → Hp → Prop) : Prop := (∃ a, x = .ref a ∧ (∃ xs, SqL K H1 a xs) ∧ R (Itl K a) H1) ∨ ((∃ a, x = .ref a ∧ (∃ xs, SqT K H1 a xs) ∧ R (Itt K a) H1) ∨ (∃ z, x = .str z ∧ R (Its z) H1))
theorem iAny_eq (K : PySem.W.Frag) (tl : TE) (σ : St) (H : Hp) (R : It → Hp → Prop) : iAny K tl σ H R = tl σ H fun x H1 => rAny K x H1 R := rfl
def tTru (K : PySem.W.Frag) (ta : TE) : TT := fun σ H Q => ta σ H fun x H' => ∃ k, TruV K x H' k ∧ Q k H'
/-! ### the joined rules, read: by equations where no object is met, by lemmas where one is -/
section
variable {K : PySem.W.Frag} {H : Hp} {Q : VK} {R : It → Hp → Prop} {x y : V} {a b p : Addr} {xs zs ys : List V}
theorem rPlus_ii (i j : Int) : rPlus K (.int i) (.int j) H Q = Q (.int (i + j)) H := by simp [rPlus, rI0, rCatT2, rCatS]
theorem rPlus_ss (i j : Str) : rPlus K (.str i) (.str j) H Q = ∃ l m, i = S l ∧ j = S m ∧ l.length + m.length ≤ sizeLine ∧ Q (.str (S (l ++ m))) H := by simp [rPlus, rI0, rCatT2, rCatS]
theorem rPlus_l (h1 : SqL K H a xs) (h2 : SqL K H b zs) (hz : xs.length + zs.length ≤ sizeLine) (q : ∀ p, H p = none → Q (.ref p) (upd H p (.lst (xs ++ zs)))) : rPlus K (.ref a) (.ref b) H Q := .inr (.inr ⟨a, b, xs, zs, rfl, rfl, h1, h2, hz, q⟩)
theorem rEqq_ii (i j : Int) : rEqq K (.int i) (.int j) H Q = Q (.bl (decide (i = j))) H := by simp [rEqq, rEq, rEqD, scal, isRef]
theorem rNeq_ii (i j : Int) : rNeq K (.int i) (.int j) H Q = Q (.bl (!(decide (i = j)))) H := by simp [rNeq, rNe, rEqD, scal, isRef]
theorem rEqq_ss (i j : Str) : rEqq K (.str i) (.str j) H Q = Q (.bl (decide (i = j))) H := by simp [rEqq, rEq, rEqD, scal, isRef]
theorem rNeq_ss (i j : Str) : rNeq K (.str i) (.str j) H Q = Q (.bl (!(decide (i = j)))) H := by simp [rNeq, rNe, rEqD, scal, isRef]
theorem rEqq_bb (i j : Bool) : rEqq K (.bl i) (.bl j) H Q = Q (.bl (decide (i = j))) H := by simp [rEqq, rEq, rEqD, scal, isRef]
theorem rNeq_bb (i j : Bool) : rNeq K (.bl i) (.bl j) H Q = Q (.bl (!(decide (i = j)))) H := by simp [rNeq, rNe, rEqD, scal, isRef]
theorem rEqq_nn  : rEqq K .non .non H Q = Q (.bl (true)) H := by simp [rEqq, rEq, rEqD, scal, isRef]
theorem rNeq_nn  : rNeq K .non .non H Q = Q (.bl (!(true))) H := by simp [rNeq, rNe, rEqD, scal, isRef]
theorem rEqq_ni (j : Int) : rEqq K .non (.int j) H Q = Q (.bl (false)) H := by simp [rEqq, rEq, rEqD, scal, isRef]
theorem rNeq_ni (j : Int) : rNeq K .non (.int j) H Q = Q (.bl (!(false))) H := by simp [rNeq, rNe, rEqD, scal, isRef]
theorem rEqq_in (j : Int) : rEqq K (.int j) .non H Q = Q (.bl (false)) H := by simp [rEqq, rEq, rEqD, scal, isRef]
theorem rNeq_in (j : Int) : rNeq K (.int j) .non H Q = Q (.bl (!(false))) H := by simp [rNeq, rNe, rEqD, scal, isRef]
theorem rEqq_ns (j : Str) : rEqq K .non (.str j) H Q = Q (.bl (false)) H := by simp [rEqq, rEq, rEqD, scal, isRef]
theorem rNeq_ns (j : Str) : rNeq K .non (.str j) H Q = Q (.bl (!(false))) H := by simp [rNeq, rNe, rEqD, scal, isRef]
theorem rEqq_sn (j : Str) : rEqq K (.str j) .non H Q = Q (.bl (false)) H := by simp [rEqq, rEq, rEqD, scal, isRef]
theorem rNeq_sn (j : Str) : rNeq K (.str j) .non H Q = Q (.bl (!(false))) H := by simp [rNeq, rNe, rEqD, scal, isRef]
theorem rEqq_nb (j : Bool) : rEqq K .non (.bl j) H Q = Q (.bl (false)) H := by simp [rEqq, rEq, rEqD, scal, isRef]
theorem rNeq_nb (j : Bool) : rNeq K .non (.bl j) H Q = Q (.bl (!(false))) H := by simp [rNeq, rNe, rEqD, scal, isRef]
theorem rEqq_bn (j : Bool) : rEqq K (.bl j) .non H Q = Q (.bl (false)) H := by simp [rEqq, rEq, rEqD, scal, isRef]
theorem rNeq_bn (j : Bool) : rNeq K (.bl j) .non H Q = Q (.bl (!(false))) H := by simp [rNeq, rNe, rEqD, scal, isRef]
theorem rEqq_is (i : Int) (j : Str) : rEqq K (.int i) (.str j) H Q = Q (.bl (false)) H := by simp [rEqq, rEq, rEqD, scal, isRef]
theorem rNeq_is (i : Int) (j : Str) : rNeq K (.int i) (.str j) H Q = Q (.bl (!(false))) H := by simp [rNeq, rNe, rEqD, scal, isRef]
theorem rEqq_si (i : Int) (j : Str) : rEqq K (.str j) (.int i) H Q = Q (.bl (false)) H := by simp [rEqq, rEq, rEqD, scal, isRef]
theorem rNeq_si (i : Int) (j : Str) : rNeq K (.str j) (.int i) H Q = Q (.bl (!(false))) H := by simp [rNeq, rNe, rEqD, scal, isRef]
theorem rNeq_d {d e : PyData} (hr : (isRef x || isRef y) = true) (h1 : Den K H x d) (h2 : Den K H y e) (s1 : SeqAt.shaped d = true) (s2 : SeqAt.shaped e = true) (q : Q (.bl (!PyData.eqv d e)) H) : rNeq K x y H Q := .inr ⟨hr, d, e, h1, h2, s1, s2, q⟩
theorem rLt_ii (i j : Int) : rLt (.int i) (.int j) H Q = Q (.bl (decide (i < j))) H := by simp [rLt, rI0, rStrs]
theorem rLt_ss (i j : Str) : rLt (.str i) (.str j) H Q = Q (.bl (decide (i.cps.toList < j.cps.toList))) H := by simp [rLt, rI0, rStrs]
theorem rLe_ii (i j : Int) : rLe (.int i) (.int j) H Q = Q (.bl (decide (i ≤ j))) H := by simp [rLe, rI0, rStrs]
theorem rLe_ss (i j : Str) : rLe (.str i) (.str j) H Q = Q (.bl (!decide (j.cps.toList < i.cps.toList))) H := by simp [rLe, rI0, rStrs]
theorem rLen_s (i : Str) : rLen K [.str i] H Q = ∃ l, i = S l ∧ l.length ≤ sizeLine ∧ Q (.int l.length) H := by simp [rLen]
theorem rLen_l (h : SqL K H p ys) (q : Q (.int ys.length) H) : rLen K [.ref p] H Q := .inl ⟨p, ys, rfl, .inl h, q⟩
theorem rInn_s (i j : Str) : rInn K (.str i) (.str j) H Q = Q (.bl (occB j i)) H := by simp [rInn, rIn]
theorem rNin_s (i j : Str) : rNin K (.str i) (.str j) H Q = Q (.bl (!occB j i)) H := by simp [rNin, rIn]
theorem rNin_f (h : SqL K H p xs ∨ SqT K H p xs) (f : flatV x = true) (g : xs.all flatV = true) (q : Q (.bl (!inV x xs)) H) : rNin K x (.ref p) H Q := .inl ⟨p, xs, rfl, h, f, g, q⟩
theorem rNin_d {o : Option V} (h : DGet H p x o) (q : Q (.bl (!o.isSome)) H) : rNin K x (.ref p) H Q := .inr (.inr ⟨p, o, rfl, h, q⟩)
theorem rListOf_l (h : SqL K H p ys ∨ SqT K H p ys) (q : ∀ l, H l = none → Q (.ref l) (upd H l (.lst ys))) : rListOf K [.ref p] H Q := ⟨p, ys, rfl, h, q⟩
theorem rIxA_s (i : Str) : rIxA K (.str i) y H Q = rIxS2 (.str i) y H Q := by simp [rIxA, rIxL, rIxT]
theorem rIxA_l {i : Int} {v : V} (h : SqL K H p xs) (e : atI xs i = some v) (q : Q v H) : rIxA K (.ref p) (.int i) H Q := .inl ⟨p, xs, i, v, rfl, rfl, h, e, q⟩
theorem rIxA_t {i : Int} {v : V} (h : SqT K H p xs) (e : atI xs i = some v) (q : Q v H) : rIxA K (.ref p) (.int i) H Q := .inr (.inl ⟨p, xs, i, v, rfl, rfl, h, e, q⟩)
theorem rIxA_d {v : V} (h : DGet H p y (some v)) (q : Q v H) : rIxA K (.ref p) y H Q := .inr (.inr (.inr ⟨p, v, rfl, h, q⟩))
theorem rSlA_s (i : Str) (lo hi : Option Int) : rSlA K (.str i) lo hi H Q = rSlS (.str i) lo hi H Q := by simp [rSlA, rSlL]
theorem rSlA_l {lo hi : Option Int} (h : SqL K H a xs) (q : ∀ p, H p = none → Q (.ref p) (upd H p (.lst (cutV xs lo hi)))) : rSlA K (.ref a) lo hi H Q := .inl ⟨a, xs, rfl, h, q⟩
theorem rAny_s (z : Str) : rAny K (.str z) H R = R (Its z) H := by simp [rAny]
theorem rAny_l (h : SqL K H a xs) (q : R (Itl K a) H) : rAny K (.ref a) H R := .inl ⟨a, rfl, ⟨xs, h⟩, q⟩
theorem rAny_t (h : SqT K H a xs) (q : R (Itt K a) H) : rAny K (.ref a) H R := .inr (.inl ⟨a, rfl, ⟨xs, h⟩, q⟩)
theorem rSetA_d {v : V} {H' : Hp} {Qh : Hp → Prop} (h : DPut H p y v H') (q : Qh H') : rSetA (.ref p) y v H Qh := .inr ⟨p, H', rfl, h, q⟩
theorem TruV_b (b k : Bool) : TruV K (.bl b) H k = (k = b) := rfl
theorem TruV_n (k : Bool) : TruV K .non H k = (k = false) := rfl
theorem TruV_i (i : Int) (k : Bool) : TruV K (.int i) H k = (k = (i != 0)) := rfl
end
/-! ### the same rules, the written part named (so that a block's rule does not hang on the block) -/
section
variable {X : Cx} {K : PySem.W.Frag} {a b c e o l tg : Expr} {es : List Expr} {ta tb to te tl : TE} {t : TA} {pos apos cpos p2 : Pos} {f name : Str} {lo hi : Option Expr} {tlo thi : TO}
theorem op_plusK (hK : X.K = K := by rfl) : OpR X (binaryOp .Add) (rPlus K) := hK ▸ op_plus
theorem op_eqK (hu : X.A.units + 64 < cLine) (hK : X.K = K := by rfl) : OpR X (compareOp .Eq) (rEqq K) := hK ▸ op_eqA hu
theorem op_neK (hu : X.A.units + 64 < cLine) (hK : X.K = K := by rfl) : OpR X (compareOp .NotEq) (rNeq K) := hK ▸ op_neA hu
theorem call_lenK (hK : X.K = K := by rfl) : CallR X (.builtin "len") (rLen K) := hK ▸ call_lenA
theorem op_ltK : OpR X (compareOp .Lt) rLt := op_ltA
theorem op_leK : OpR X (compareOp .LtE) rLe := op_leA
theorem call_isinstanceK (hK : X.K = K := by rfl) : CallR X (.builtin "isinstance") (rIsi K) := hK ▸ call_isinstanceA
theorem call_listK (hK : X.K = K := by rfl) : CallR X (.type "list") (rListOf K) := hK ▸ call_list_of
theorem ix_anyK (hu : X.A.units + 1 < cLine) (hK : X.K = K := by rfl) : IxR X (rIxA K) := hK ▸ ix_any hu
theorem sl_anyK (hK : X.K = K := by rfl) : SlR X (rSlA K) := hK ▸ sl_any
theorem op_inK (hu : X.A.units + 1 < cLine) (hK : X.K = K := by rfl) : OpR X (compareOp .In) (rInn K) := hK ▸ op_inA hu
theorem op_notInK (hu : X.A.units + 1 < cLine) (hK : X.K = K := by rfl) : OpR X (compareOp .NotIn) (rNin K) := hK ▸ op_notInA hu
theorem mt_joinK (hK : X.K = K := by rfl) : MtR X "str.join" (rJoin K) := hK ▸ mt_join
theorem pi_anyK (hl : PE X l tl) (hK : X.K = K := by rfl) : PI X tg l (iAny K tl) := hK ▸ pi_any hl
theorem pt_truthK (ha : PE X a ta) (he : ∀ whole, isTrue a X.env whole = (do let v ← whole; standAt a.pos; holding [v] (truthy v))) (hK : X.K = K := by rfl) :
    PT X a (tTru K ta) := hK ▸ pt_truth ha he
theorem pe_bm0K {T id : String} {r : V → List V → Hp → VK → Prop} (pa : PlainAttrs T) (slot : Slot T name id) (hty : typeOf (.builtin id) = pure (.type "method_descriptor")) (hm : MtR X id r) (ho : PE X o to)
    (hbase : attributeBase o name X.env (eval o X.env) = eval o X.env := by rfl) (hline : (apos.endLine == cpos.line) = true := by rfl) (hK : X.K = K := by rfl) : PE X (.Call (.Attribute o name apos) [] [] cpos) (tBM0 K T r to) := hK ▸ pe_bm0 pa slot hty hm ho hbase hline
theorem pe_bmK {T id : String} {r : V → List V → Hp → VK → Prop} (pa : PlainAttrs T) (slot : Slot T name id) (hty : typeOf (.builtin id) = pure (.type "method_descriptor")) (hm : MtR X id r) (ho : PE X o to) (ha : PA X (e :: es) t)
    (hbase : attributeBase o name X.env (eval o X.env) = eval o X.env := by rfl)
    (hfew : ((backTo cpos (starEach (e :: es) X.env)).all (fun x => !x.1) && (backToKw cpos (keywordEach [] X.env)).all (fun x => x.1.isSome)
      && decide ((e :: es).length + ([] : List Keyword).length + (if ([] : List Keyword).isEmpty then 0 else 1) < 30)) = true := by rfl)
    (hline : (apos.endLine == cpos.line) = true := by rfl) (hs : starEach (e :: es) X.env = (false, eval e X.env) :: starEach es X.env := by rfl) (hplain : (backTo cpos (starEach es X.env)).any (·.1) = false := by rfl) (hK : X.K = K := by rfl) :
    PE X (.Call (.Attribute o name apos) (e :: es) [] cpos) (tBM K T r to t) := hK ▸ pe_bm pa slot hty hm ho ha hbase hfew hline hs hplain
theorem pg_tupK {es : List Expr} {k : Nat} {t : TGs} {n : Nat} (hc : X.calm = true) (h : PGs X es t)
    (hn : (assignEach es X.env).length = n := by rfl) (hst : (assignEach es X.env).findIdx? (·.1) = none := by rfl) (hK : X.K = K := by rfl) : PG X (.Tuple es k pos) (gTup K n t) := hK ▸ pg_tup hc h hn hst
end
end L2

set_option Elab.async false
set_option linter.all false
set_option maxRecDepth 100000
set_option maxHeartbeats 4000000
namespace L2
open PySem PySem.Spec PyProof.Rows

/-! ### x in range(a, b) -/
section
variable {X : Cx}
def tInRng (neg : Bool) (ta : TE) (tr : TA) : TE := fun σ H Q => ta σ H fun x H1 => tr σ H1 fun vs H2 => ∃ i a b : Int, x = .int i ∧ vs = [.int a, .int b] ∧ Q (.bl (if neg then !(decide (a ≤ i) && decide (i < b)) else (decide (a ≤ i) && decide (i < b)))) H2
def tInRng1 (neg : Bool) (ta : TE) (tr : TA) : TE := fun σ H Q => ta σ H fun x H1 => tr σ H1 fun vs H2 => ∃ i b : Int, x = .int i ∧ vs = [.int b] ∧ Q (.bl (if neg then !(decide (0 ≤ i) && decide (i < b)) else (decide (0 ≤ i) && decide (i < b)))) H2
/-! ### all, any, sum of a list -/
def rAll (K : PySem.W.Frag) : List V → Hp → VK → Prop := fun xs H Q => ∃ (p : Addr) (bs : List Bool), xs = [.ref p] ∧ SqL K H p (bs.map V.bl) ∧ Q (.bl (bs.all id)) H
def rAnyB (K : PySem.W.Frag) : List V → Hp → VK → Prop := fun xs H Q => ∃ (p : Addr) (bs : List Bool), xs = [.ref p] ∧ SqL K H p (bs.map V.bl) ∧ Q (.bl (bs.any id)) H
def rSum (K : PySem.W.Frag) : List V → Hp → VK → Prop := fun xs H Q => ∃ (p : Addr) (ns : List Int), xs = [.ref p] ∧ SqL K H p (ns.map V.int) ∧ Q (.int ns.sum) H
theorem call_sumH (hc : X.calm = true) : CallR X (.builtin "sum") (rSum X.K) := by
  intro pins s σ H xs us Q I r h
  obtain ⟨p, ns, rfl, hq, q⟩ := h
  obtain ⟨u, rfl, ru⟩ := vals1 r
  cases ru
  obtain ⟨its, rv, pl, hz⟩ := I.list hq
  have hi := intsAre_of rv
  obtain ⟨xs, hx⟩ := hi.allInts.items
  have hl' : s.heap.IsList p (intItems xs) := hx ▸ pl.isList
  refine sum_intListG (I.ok.hd hc) hl' fun h' tk t' hk => ?_
  have e1 : ns = xs.toList.map (·.1) := by
    rw [← nums_intItems, ← hx]
    exact (show numsOf its.toArray.toList = ns from hi.numsOf).symm
  have e2 : preSum (numAt xs) xs.size = ns.sum := by
    rw [preSum_eq, List.take_of_length_le (by simp), e1]
  rw [e2]
  exact ⟨.int _, H, I.kept hk, ⟨_, rfl⟩, q⟩
theorem call_sumK {K : PySem.W.Frag} (hc : X.calm = true := by rfl) (hK : X.K = K := by rfl) : CallR X (.builtin "sum") (rSum K) := hK ▸ call_sumH hc
theorem rSum_l {K : PySem.W.Frag} {H : Hp} {Q : VK} {p : Addr} {ns : List Int} (h : SqL K H p (ns.map V.int)) (q : Q (.int ns.sum) H) : rSum K [.ref p] H Q := ⟨p, ns, rfl, h, q⟩

/-! ### min, max, int, str -/
def rMax : List V → Hp → VK → Prop := fun xs H Q => ∃ i j, xs = [.int i, .int j] ∧ Q (.int (max i j)) H
def rMin : List V → Hp → VK → Prop := fun xs H Q => ∃ i j, xs = [.int i, .int j] ∧ Q (.int (min i j)) H
theorem call_minA (hc : X.calm = true) : CallR X (.builtin "min") rMin := by
  intro pins s σ H xs us Q I r h
  obtain ⟨i, j, rfl, q⟩ := h
  refine call_min2 hc pins s σ H _ us Q I r ⟨i, j, rfl, ?_⟩
  rw [show (if j < i then j else i) = min i j by split <;> omega]
  exact q
def rInt : List V → Hp → VK → Prop := fun xs H Q => (∃ i, xs = [.int i] ∧ Q (.int i) H) ∨ ∃ k, xs = [.bl k] ∧ Q (.int (if k = true then 1 else 0)) H
theorem call_intK {K : PySem.W.Frag} : CallR X (.type "int") rInt := fun pins s σ H xs us Q I r h => call_int1 pins s σ H xs us Q I r h
theorem rInt_i {H : Hp} {Q : VK} (i : Int) : rInt [.int i] H Q = Q (.int i) H := by simp [rInt]
theorem rInt_b {H : Hp} {Q : VK} (k : Bool) : rInt [.bl k] H Q = Q (.int (if k = true then 1 else 0)) H := by simp [rInt]
/-- the figures of a whole number -/
def strI (i : Int) : List Nat := (toString i : Str).cps.toList
def rStrI : List V → Hp → VK → Prop := fun xs H Q => ∃ i, xs = [.int i] ∧ i.natAbs.log2 < 1920 ∧ Q (.str (S (strI i))) H
end
end L2

set_option Elab.async false
set_option linter.all false
set_option maxRecDepth 100000
set_option maxHeartbeats 4000000
namespace L2
open PySem PySem.Spec PyProof.Rows

/-! ### a def with defaults -/
structure FunD (K : PySem.W.Frag) (x qual : Str) (st : Stmt) (f : Addr) (fd : FuncData) (items : List Value) : Prop where
  ex : ∃ (oc : Value) (od : Option Addr) (kV doc pm : Value) (an : Option Addr) (cdv ct : Value) (osl : Array (Option Value)) (tD : Addr) (o : Obj) (n : Nat),
    fd = PySem.W.fnOf x qual (defArgs st) (defBody st) (defScope st) (.ref tD) kV doc pm an cdv ct ∧ K.lookup f = some ⟨oc, od, .func fd, osl⟩ ∧ PySem.W.codeIn K cdv qual = true ∧ K.lookup tD = some o ∧ o.data = .seq items.toArray n
  kp : PySem.W.keepIn K (.ref f) = true
section
variable {P : Program} {w : World} {K : PySem.W.Frag} {mg : Str → Option Value} {base : Heap}
theorem FunD.ok {x qual : Str} {st : Stmt} {f : Addr} {fd : FuncData} {items : List Value} {N ps : List Str} {k : Nat} {sp : Sp} (F : FunD K x qual st f fd items) (S : FnScope N ps (defScope st)) (len : ∀ vs H Q E, sp vs H Q E → vs.length = ps.length)
    (hbody : ∀ (cdv : Value) (A : Around) (outer : List Env) (s : Shared) (H : Hp) (vs : List V) (Q : VK) (E : XK), Room k (A.deeper (envOfC qual (defScope st) s.heap.objs.size f cdv)) → sp vs H Q E →
      ∃ t, PSs (cxOf CX0 P w K mg base N qual (defScope st) f cdv A outer s H E).nox (defBody st) t ∧ t { nx := fun _ H' => Q .non H', rt := Q } (start N vs) H) : FnOk P w K mg base CX0 (k + 1) f fd ps sp := by
  obtain ⟨oc, od, kV, doc, pm, an, cdv, ct, osl, tD, o, n, rfl, lk, hcd, _⟩ := F.ex
  refine fn_of lk hcd S len fun A outer s H vs Q E hr hsp => ?_
  obtain ⟨t, h, q⟩ := hbody cdv A outer s H vs Q E hr hsp
  exact ⟨t, h.nox, q⟩
/-- how its arguments bind, ds the defaults that fill up -/
theorem FunD.binds {x qual : Str} {st : Stmt} {f : Addr} {fd : FuncData} {items : List Value} {ps : List Str} (ds : List Value) (m : Nat) (hm : m + ds.length = ps.length) (F : FunD K x qual st f fd items)
    (h : ∀ (tD : Addr) (kV doc pm : Value) (an : Option Addr) (cdv ct : Value) (us : List Value), us.length = m →
      ∃ kk, bindArgs (PySem.W.fnOf x qual (defArgs st) (defBody st) (defScope st) (.ref tD) kV doc pm an cdv ct) ⟨us, []⟩ = seqItems? (.ref tD) >>= kk ∧ kk (some items.toArray) = pure (ps.zip (us ++ ds))) : Binds K fd ps ds := by
  obtain ⟨oc, od, kV, doc, pm, an, cdv, ct, osl, tD, o, n, rfl, lk, hcd, ho, hs⟩ := F.ex
  intro s us X hl
  rw [List.length_append] at hl
  obtain ⟨kk, h1, h2⟩ := h tD kV doc pm an cdv ct us (by omega)
  exact BindsTo.of_defaults rfl (X _ _ ho) hs h1 h2
end

/-! ### what a step may change -/
/-- of what stood only the objects at A may have changed, tuples never -/
structure Chg (A : List Addr) (H H' : Hp) : Prop where
  keep : ∀ b o, H b = some o → b ∉ A → H' b = some o
  tup : ∀ b xs, H b = some (.tup xs) → H' b = some (.tup xs)
theorem Chg.refl {A : List Addr} (H : Hp) : Chg A H H := ⟨fun _ _ h _ => h, fun _ _ h => h⟩
theorem Chg.of_same {A : List Addr} {H H' : Hp} (s : Same H H') : Chg A H H' := ⟨fun b o h _ => s b o h, fun b xs h => s b _ h⟩
theorem Chg.same {H H' : Hp} (s : Chg [] H H') : Same H H' := fun b o h => s.keep b o h (by simp)
theorem Chg.trans {A : List Addr} {H H1 H2 : Hp} (x : Chg A H H1) (y : Chg A H1 H2) : Chg A H H2 := ⟨fun b o h n => y.keep b o (x.keep b o h n) n, fun b xs h => y.tup b xs (x.tup b xs h)⟩
theorem Chg.mono {A B : List Addr} {H H' : Hp} (x : Chg A H H') (h : ∀ b, b ∈ A → b ∈ B) : Chg B H H' := ⟨fun b o e n => x.keep b o e fun z => n (h b z), x.tup⟩
theorem Chg.upd {A : List Addr} {H : Hp} {a : Addr} {o : HO} (ha : a ∈ A) (hm : ∀ xs, H a ≠ some (.tup xs)) : Chg A H (L2.upd H a o) := by
  refine ⟨fun b u e n => ?_, fun b xs e => ?_⟩
  · have hb : b ≠ a := fun z => by subst z; exact n ha
    rw [upd_ne hb]; exact e
  · have hb : b ≠ a := fun z => by subst z; exact hm xs e
    rw [upd_ne hb]; exact e
theorem Chg.new {A : List Addr} {H : Hp} {a : Addr} {o : HO} (ha : H a = none) : Chg A H (L2.upd H a o) := .of_same (Same.upd ha)
/-- an address that was free stays out of what was there -/
theorem Chg.free {H H' : Hp} {l b : Addr} {A : List Addr} {o : HO} (x : Chg A H H') (h : H' l = none) (e : H b = some o) (n : b ∉ A) : l ≠ b := fun z => by
  have := x.keep b o e n
  rw [← z, h] at this
  cases this
theorem mut_dK {H : Hp} {a : Addr} {kvs : List (Key × V)} (h : H a = some (.dK kvs)) : ∀ xs, H a ≠ some (.tup xs) := fun xs z => by rw [h] at z; cases z
theorem mut_lst {H : Hp} {a : Addr} {kvs : List V} (h : H a = some (.lst kvs)) : ∀ xs, H a ≠ some (.tup xs) := fun xs z => by rw [h] at z; cases z
/-! ### comprehensions with a test, over a range; over a list -/
/-- a comprehension over a list that stays: the items by a function -/
theorem compW_listIf {K : PySem.W.Frag} {tt : TT} {te : TE} {σ : St} {H : Hp} {Q : VK} {a : Addr} {xs : List V} (hl : SqL K H a xs) (hn : xs.length ≤ sizeLine) (p : V → Bool) (f : V → V)
    (ht : ∀ x H', x ∈ xs → Same H H' → ∀ Qt : Bool → Hp → Prop, (∀ H'', Same H' H'' → Qt (p x) H'') → tt (some x :: σ) H' Qt)
    (he : ∀ x H', x ∈ xs → p x = true → Same H H' → ∀ Qe : VK, (∀ H'', Same H' H'' → Qe (f x) H'') → te (some x :: σ) H' Qe)
    (hd : ∀ D H', H D = none → Same H H' → H' D = some (.lst ((xs.filter p).map f)) → Q (.ref D) H') : compW (Itl K a) tt te σ H Q := fun D hD =>
  comp_mapf (J := Itl K a) xs.length hn hD (fun i => xs.getD i .non) (fun i => f (xs.getD i .non)) (fun i => p (xs.getD i .non)) (fun H' s => ⟨xs, s.seq hl, Nat.le_refl _⟩)
    (fun i H' s h => ⟨xs, xs[i], s.seq hl, by simp⟩)
    (fun i H' x H'' s hi y => by
      obtain ⟨rfl, z⟩ := y
      have hz := z xs (s.seq hl)
      refine ⟨rfl, ?_⟩
      rw [List.getD_eq_getElem?_getD, hz]
      rfl)
    (fun i H' h s Qt q => ht _ H' (by rw [List.getD_eq_getElem?_getD, List.getElem?_eq_getElem h]; exact List.getElem_mem h) s Qt q)
    (fun i H' h hp s Qe q => he _ H' (by rw [List.getD_eq_getElem?_getD, List.getElem?_eq_getElem h]; exact List.getElem_mem h) hp s Qe q)
    (fun H' s h => hd D H' hD s (by
      rw [h]
      congr 2
      have e : (List.range xs.length).map (fun i => xs.getD i .non) = xs := by
        refine List.ext_getElem (by simp) fun i h1 h2 => ?_
        simp at h1 h2 ⊢
        rw [List.getElem?_eq_getElem h2]
        rfl
      conv => rhs; rw [← e]
      rw [List.filter_map, List.map_map]
      rfl))
/-! ### addresses apart -/
/-- all there -/
def Pres (H : Hp) (l : List Addr) : Prop := ∀ a ∈ l, H a ≠ none
theorem Pres.nil (H : Hp) : Pres H [] := fun a h => by cases h
theorem Pres.same {H H' : Hp} {l : List Addr} (p : Pres H l) (s : Same H H') : Pres H' l := fun a h z => by
  cases e : H a with
  | none => exact p a h e
  | some o => rw [s a o e] at z; cases z
theorem Pres.cons {H : Hp} {l : List Addr} {a : Addr} {o : HO} (p : Pres H l) (h : H a = some o) : Pres H (a :: l) := fun b hb => by
  rcases List.mem_cons.mp hb with rfl | hb
  · rw [h]; intro z; cases z
  · exact p b hb
theorem Pres.new {H : Hp} {l : List Addr} {a : Addr} (p : Pres H l) (nd : l.Nodup) (h : H a = none) : (a :: l).Nodup := List.nodup_cons.mpr ⟨fun hm => p a hm h, nd⟩
end L2

set_option Elab.async false
set_option linter.all false
set_option maxRecDepth 100000
set_option maxHeartbeats 4000000
namespace L2
open PySem PySem.Spec PyProof.Rows
section
variable {X : Cx} {pins : List (Addr × Obj)} {σ : St} {H : Hp} {s : Shared} {h' : Heap}
/-- untracked records of ours have turned -/
theorem Inv.turnedL {t' : Nat} {l : List Addr} (I : Inv X pins σ H s) (k : ∀ b o, b ∉ l → s.heap.get? b = some o → h'.get? b = some o) (hf : ∀ b ∈ l, FpOk X pins H b) : Inv X pins σ H { s with heap := h', toks := t' } := by
  have nit : ∀ b u, H b = some u → b ∉ l := fun b u e z => by rw [(hf b z).1] at e; cases e
  refine I.step (g' := s.gens) (d' := s.drawn) (ch := l) (fun b hb => ?_) (fun b o _ _ hc e _ => k b o hc e) (fun b o _ _ hc e _ => ⟨o.slots, k b o hc e⟩) (fun _ _ _ _ n => n)
    (fun b o hc e => ⟨o, k b o hc e⟩) (fun _ _ e => e) (fun _ _ _ e => e) (fun b ps e => ⟨#[], by rw [e]; simp⟩) (fun m hm => ?_) (fun b u e => ?_) I.bare
  · obtain ⟨f0, f1, f2, f3, f4, f5⟩ := hf b hb
    exact ⟨f3, f1, f4, f5⟩
  · obtain ⟨o, es, ep, ho, r⟩ := hm
    exact ⟨o, es, ep, k _ o (fun z => (hf _ z).2.1 rfl) ho, r⟩
  · refine (I.hok b u e).stay (fun c v hc q => k c v ?_ q) (fun _ q => q) fun _ _ q => q
    rcases hc with z | z
    · rw [z]; exact nit b u e
    · exact nit c _ z
/-- an untracked record of ours is tracked from now on -/
theorem Inv.track {t' : Nat} {T : Addr} {o : HO} (I : Inv X pins σ H s) (f : FpOk X pins H T) (new : ObjOk X.prog X.w (upd H T o) s.heap T o) (ht : ∀ xs, o = .tup xs → True) : Inv X pins σ (upd H T o) { s with toks := t' } := by
  obtain ⟨f0, f1, f2, f3, f4, f5⟩ := f
  refine I.step (h' := s.heap) (g' := s.gens) (d' := s.drawn) (ch := [T]) (fun b hb => ?_) (fun b ob _ _ hc e _ => e) (fun b ob _ _ hc e _ => ⟨ob.slots, e⟩) (fun b ob hc e n => ?_)
    (fun b ob hc e => ⟨ob, e⟩) (fun b xs e => ?_) (fun b ob u e => ?_) (fun b ps e => ⟨#[], ?_⟩) (fun m hm => hm) (fun b u e => ?_) I.bare
  · have e : b = T := by simpa using hb
    subst e
    exact ⟨f3, f1, f4, f5⟩
  · rw [upd_ne (fun z => hc (by simp [z]))]; exact n
  · rw [upd_ne (ne_of_none e f0)]; exact e
  · rw [upd_ne (ne_of_none e f0)]; exact e
  · rw [upd_ne (ne_of_none e f0), e]; simp
  · by_cases hb : b = T
    · subst hb
      rw [upd_same] at e
      cases e
      exact new
    · rw [upd_ne hb] at e
      refine (I.hok b u e).stay (fun c v _ q => q) (fun c q => ?_) fun c xs q => ?_
      · rw [upd_ne (ne_of_none q f0)]; exact q
      · rw [upd_ne (ne_of_none q f0)]; exact q
end

/-! ### zip of two lists -/
def Itz (K : PySem.W.Frag) (a b : Addr) : It :=
  ⟨fun i H => ∃ xs ys x y, SqL K H a xs ∧ SqL K H b ys ∧ xs[i]? = some x ∧ ys[i]? = some y,
   fun i H v H' => ∃ T x y, v = .ref T ∧ H T = none ∧ H' = upd H T (.tup [x, y]) ∧ (∀ xs, SqL K H a xs → xs[i]? = some x) ∧ ∀ ys, SqL K H b ys → ys[i]? = some y,
   fun i H => ∃ xs ys, SqL K H a xs ∧ SqL K H b ys ∧ (xs.length ≤ i ∨ ys.length ≤ i)⟩
section
variable {X : Cx}
def iZip (K : PySem.W.Frag) (ta : TA) : TI := fun σ H R => ta σ H fun vs H1 => ∃ a b xs ys, vs = [.ref a, .ref b] ∧ SqL K H1 a xs ∧ SqL K H1 b ys ∧ R (Itz K a b) H1
/-! ### enumerate of a list -/
end
def Ite (K : PySem.W.Frag) (a : Addr) : It :=
  ⟨fun i H => ∃ xs x, SqL K H a xs ∧ xs[i]? = some x,
   fun i H v H' => ∃ T x, v = .ref T ∧ H T = none ∧ H' = upd H T (.tup [.int (i : Nat), x]) ∧ ∀ xs, SqL K H a xs → xs[i]? = some x,
   fun i H => ∃ xs, SqL K H a xs ∧ xs.length ≤ i⟩
theorem turn_enum {P : Program} {w : World} {K : PySem.W.Frag} {elts : List Expr} {k0 : Nat} {pos : Pos} (a e it : Addr) (hei : e ≠ it) :
    Turn P w K (.Tuple elts k0 pos) (Ite K a) [e, it] e (fun i h => (∃ old, IsEnum h e it ((i : Nat) : Int) old) ∧ h.IsListIter it a i) where
  mem := by simp
  obj := fun i h st c hc => by
    obtain ⟨⟨old, he⟩, ⟨o1, e1, c1, d1⟩⟩ := st
    simp only [List.mem_cons, List.not_mem_nil, or_false] at hc
    rcases hc with rfl | rfl
    · exact ⟨_, he, fun v q => by cases q⟩
    · exact ⟨_, e1, fun v q => by rw [d1] at q; cases q⟩
  keep := fun i h h' st k => by
    obtain ⟨⟨old, he⟩, h1⟩ := st
    exact ⟨⟨old, k _ (by simp) _ he⟩, h1.at fun o e => k _ (by simp) o e⟩
  item := by
    intro X hP hw hK hc i pins s σ H E I hf st hg
    subst hP hw hK
    obtain ⟨⟨old, he⟩, h1⟩ := st
    obtain ⟨xs, x, hx, ex⟩ := hg
    obtain ⟨its, rv, p, _⟩ := I.list hx
    obtain ⟨u, hu, ru⟩ := rv.get ex
    refine wpAny_pyNext_enum_item he h1 p.isList (x := u) (by simpa using hu) hei fun h' a1 a2 a3 a4 hk => ?_
    refine ⟨_, rfl, wpAny_letOwnedTupleGo_enum a1 fun h'' he'' sb => ?_⟩
    have fT : FpOk X pins H s.heap.objs.size := I.fpOk (Nat.le_refl _) I.fresh
    have I1 : Inv X pins σ H { s with heap := h'', toks := s.toks + 1 } := I.turnedL (t' := s.toks + 1) (l := [e, it]) (fun c o hc q => sb.extBut _ _ (fun z => hc (by simp [z])) (hk c o (fun z => hc (by simp [z])) (fun z => hc (by simp [z])) q)) hf
    have hTe : s.heap.objs.size ≠ e := Nat.ne_of_gt (Heap.lt_size he)
    have hT'' : h''.get? s.heap.objs.size = some { cls := .type "tuple", data := .seq #[.int i s.toks, u] } := sb.extBut _ _ hTe a3
    have I2 : Inv X pins σ (upd H s.heap.objs.size (.tup [.int (i : Nat), x])) { s with heap := h'', toks := s.toks + 1 } := I1.track (t' := s.toks + 1) fT ⟨(by show 2 ≤ sizeLine; decide), [.int i s.toks, u], .cons ⟨_, rfl⟩ (.cons ru .nil), _, hT'', rfl, _, rfl⟩ (fun _ _ => trivial)
    refine ⟨.ref s.heap.objs.size, _, I2, rfl, ⟨_, x, rfl, I.fresh, rfl, fun zs hq => by rw [I.list_inj hq hx]; exact ex⟩, ?_, fun c hc => ?_⟩
    · exact ⟨⟨u, by rw [show (((i + 1 : Nat)) : Int) = (i : Int) + 1 by omega]; exact he''⟩, a2.extBut sb.extBut (Ne.symm hei)⟩
    · have hcl : c < s.heap.objs.size := by
        obtain ⟨o1, e1, _⟩ := h1
        simp only [List.mem_cons, List.not_mem_nil, or_false] at hc
        rcases hc with rfl | rfl
        · exact Heap.lt_size he
        · exact Heap.lt_size e1
      rw [upd_ne (Nat.ne_of_lt hcl)]
      exact (hf c hc).1
  done := by
    intro X hP hw hK hc i pins s σ H E I hf st hg
    subst hP hw hK
    obtain ⟨⟨old, he⟩, h1⟩ := st
    obtain ⟨xs, hx, hend⟩ := hg
    obtain ⟨its, rv, p, _⟩ := I.list hx
    have l1 := rv.length
    refine wpAny_pyNext_enum_end (I.ok.hd hc) he h1 p.isList (by simp; omega) fun h' hk => ⟨rfl, ?_⟩
    exact I.turnedL (t' := s.toks) (l := [e, it]) (fun c o hc q => hk c o (fun z => hc (by simp [z])) q) hf
  self := fun _ _ _ _ _ st h => by
    obtain ⟨⟨old, he⟩, _⟩ := st
    exact wpAny_pyIter_enum he h
section
variable {X : Cx}
def iEnum (K : PySem.W.Frag) (ta : TA) : TI := fun σ H R => ta σ H fun vs H1 => ∃ a xs, vs = [.ref a] ∧ SqL K H1 a xs ∧ R (Ite K a) H1
theorem pi_enumH {elts : List Expr} {k0 : Nat} {tpos : Pos} {a : Expr} {ta : TA} {p pos : Pos} (hg : Gl X "enumerate") (hm : X.mg "enumerate" = none) (ha : PA X [a] ta) (hs : starEach [a] X.env = [(false, eval a X.env)] := by rfl) :
    PI X (.Tuple elts k0 tpos) (.Call (.Name "enumerate" p) [a] [] pos) (iEnum X.K ta) := by
  intro pins s σ H R I h
  refine Call_ (ld_blt I hg hm boot_enumerate (PyProof.Rows.callWith_type1 (thn (ha pos pins s σ H _ I h) fun us s1 ⟨vs, H1, I1, r1, q1⟩ => ?_) hs rfl))
  obtain ⟨l1, xs, rfl, hx, q⟩ := q1
  obtain ⟨u, rfl, ru⟩ := vals1 r1
  cases ru
  obtain ⟨its, rx, px, _⟩ := I1.list hx
  refine call_enumerate_list px.isList fun h' z1 z2 z3 hk => ?_
  have I2 : Inv X pins σ H1 { s1 with heap := h' } := I1.kept (t' := s1.toks) hk
  refine wpAny_pyIter_enum z1 ⟨_, _, _, _, H1, rfl, I2, turn_enum l1 _ _ (Nat.ne_of_gt (Nat.lt_succ_self _)), ⟨⟨_, z1⟩, z2⟩, fun c hc => ?_, q⟩
  have hcl : s1.heap.objs.size ≤ c := by
    simp only [List.mem_cons, List.not_mem_nil, or_false] at hc
    rcases hc with rfl | rfl <;> omega
  exact I1.fpOk hcl (I1.hok.fresh hcl)
theorem pi_enumerate {K : PySem.W.Frag} {elts : List Expr} {k0 : Nat} {tpos : Pos} {a : Expr} {ta : TA} {p pos : Pos} (hg : Gl X "enumerate") (hm : X.mg "enumerate" = none) (ha : PA X [a] ta) (hs : starEach [a] X.env = [(false, eval a X.env)] := by rfl)
    (hK : X.K = K := by rfl) : PI X (.Tuple elts k0 tpos) (.Call (.Name "enumerate" p) [a] [] pos) (iEnum K ta) := hK ▸ pi_enumH hg hm ha hs
end
/-! ### loops over these -/
theorem forW_enum {K : PySem.W.Frag} {a : Addr} {xs : List V} {g : TG} {tb : TS} {D : Ends} {σ : St} {H : Hp} (Pv : Nat → St → Hp → Prop) (h0 : Pv 0 σ H) (hl : ∀ i σ H, i ≤ xs.length → Pv i σ H → SqL K H a xs)
    (hs : ∀ i x T σ H, xs[i]? = some x → H T = none → Pv i σ H → g (.ref T) σ (upd H T (.tup [.int (i : Nat), x])) fun σ2 H2 => tb { D with nx := Pv (i + 1), ct := Pv (i + 1), bk := D.nx } σ2 H2)
    (hd : ∀ σ H, Pv xs.length σ H → D.nx σ H) : forW (Ite K a) g tb D σ H := by
  refine ⟨fun i m σ H => m = xs.length - i ∧ i ≤ xs.length ∧ Pv i σ H, ⟨_, rfl, Nat.zero_le _, h0⟩, ?_⟩
  rintro i m σ H ⟨rfl, hi, p⟩
  have lx := hl i σ H hi p
  by_cases hlt : i < xs.length
  · refine .inr ⟨⟨xs, xs[i], lx, by simp⟩, Pv (i + 1), fun σ' H' p' => ⟨xs.length - (i + 1), by omega, rfl, hlt, p'⟩, fun v H' y => ?_⟩
    obtain ⟨T, x, rfl, hT, rfl, h1⟩ := y
    exact hs i x T σ _ (h1 xs lx) hT p
  · have e : i = xs.length := by omega
    subst e
    exact .inl ⟨⟨xs, lx, by omega⟩, hd σ H p⟩
end L2

set_option Elab.async false
set_option linter.all false
set_option maxRecDepth 100000
set_option maxHeartbeats 4000000
namespace L2
open PySem PySem.Spec PyProof.Rows
/-! ### what the laws' own small defs are worth -/
def mixN (c k : Int) : Int := ((c % 2147483647 * 48271 + 7919 * k + 1) % 2147483647) * ((c % 2147483647 * 48271 + 7919 * k + 1) % 2147483647) % 2147483647
theorem mixN_bd (c k : Int) : 0 ≤ mixN c k ∧ mixN c k < 2147483647 := by unfold mixN; omega
def sp_mixed : Sp := fun vs H Q _ => ∃ c k, vs = [.int c, .int k] ∧ Q (.int (mixN c k)) H
def sp_cell_at (K : PySem.W.Frag) : Sp := fun vs H Q _ => ∃ (p : Addr) (ns : List Int) (k : Int), vs = [.ref p, .int k] ∧ SqL K H p (ns.map V.int) ∧ 0 ≤ k ∧ Q (.int (ns.getD k.toNat 0)) H
def T62 : List Nat := [48, 49, 50, 51, 52, 53, 54, 55, 56, 57, 97, 98, 99, 100, 101, 102, 103, 104, 105, 106, 107, 108, 109, 110, 111, 112, 113, 114, 115, 116, 117, 118, 119, 120, 121, 122, 65, 66, 67, 68, 69, 70, 71, 72, 73, 74, 75, 76, 77, 78, 79, 80, 81, 82, 83, 84, 85, 86, 87, 88, 89, 90]
def T34 : List Nat := [32, 33, 34, 35, 36, 38, 39, 40, 41, 42, 43, 44, 45, 46, 47, 58, 59, 60, 61, 62, 63, 64, 91, 92, 93, 94, 95, 96, 123, 124, 125, 126, 10, 9]
def T96 : List Nat := T62 ++ T34
def sgn (n m : Int) : Nat := T96.getD (n % m).toNat 0
def sp_sign : Sp := fun vs H Q _ => ∃ n m : Int, vs = [.int n, .int m] ∧ 0 < m ∧ m ≤ 96 ∧ Q (.str (S [sgn n m])) H
/-- texts of the blank to ~ but the per cent sign -/
def okSign (c : Nat) : Bool := decide (32 ≤ c) && decide (c ≤ 126) && decide (c ≠ 37)
def sp_law (K : PySem.W.Frag) : Sp := fun vs H Q _ => ∃ (p : Addr) (ns : List Int), vs = [.ref p] ∧ SqL K H p (ns.map V.int) ∧ ns.length ≤ 63 ∧ ∀ H', Q (.bl true) H'
end L2

set_option Elab.async false
set_option linter.all false
set_option maxRecDepth 100000
set_option maxHeartbeats 4000000
namespace L2
open PySem PySem.Spec PyProof.Rows
/-! ### equal data -/
def okS (l : List Nat) : Prop := ∀ c ∈ l, c < 1114112
def wd (n : Nat) (d : PyData) : Prop := d.canLay0 = true ∧ d.depth ≤ n
theorem wd_int (n : Nat) (i : Int) : wd n (.int i) := ⟨rfl, Nat.zero_le _⟩
theorem wd_all {n : Nat} : ∀ {ds : List PyData}, (∀ d ∈ ds, wd n d) → PyData.canLayAll0 ds = true ∧ PyData.depthAll ds ≤ n
  | [], _ => ⟨rfl, Nat.zero_le _⟩
  | d :: r, h => by
    obtain ⟨h1, h2⟩ := h d List.mem_cons_self
    obtain ⟨h3, h4⟩ := wd_all (n := n) (ds := r) fun x hx => h x (List.mem_cons_of_mem _ hx)
    refine ⟨?_, ?_⟩
    · rw [PyData.canLayAll0, h1, h3]; rfl
    · rw [PyData.depthAll]; exact Nat.max_le.mpr ⟨h2, h4⟩
theorem wd_list {n : Nat} {ds : List PyData} (h : ∀ d ∈ ds, wd n d) : wd (n + 1) (.list ds) := by
  obtain ⟨h1, h2⟩ := wd_all h
  exact ⟨by rw [PyData.canLay0]; exact h1, by rw [PyData.depth]; omega⟩
theorem wd.shaped {n : Nat} {d : PyData} (h : wd n d) (hn : n ≤ 64 := by decide) : SeqAt.shaped d = true := by
  unfold SeqAt.shaped
  rw [h.1, decide_eq_true (Nat.le_trans h.2 hn)]
  rfl
theorem rNeq_same {K : PySem.W.Frag} {H : Hp} {Q : VK} {x y : V} {n : Nat} {d : PyData} (h1 : Den K H x d) (h2 : Den K H y d) (hw : wd n d) (hr : (isRef x || isRef y) = true) (q : Q (.bl false) H) (hn : n ≤ 64 := by decide) : rNeq K x y H Q :=
  rNeq_d hr h1 h2 (hw.shaped hn) (hw.shaped hn) (by rw [SeqAt.eqv_refl d hw.1]; exact q)
theorem denAll_ints {K : PySem.W.Frag} {H : Hp} : ∀ ns : List Int, DenAll K H (ns.map V.int) (ns.map PyData.int)
  | [] => .nil
  | n :: r => .cons (.int n) (denAll_ints r)
theorem den_ints {K : PySem.W.Frag} {H : Hp} {p : Addr} {ns : List Int} (h : SqL K H p (ns.map V.int)) : Den K H (.ref p) (.list (ns.map PyData.int)) := .lst h (denAll_ints ns)
theorem wd_ints (ns : List Int) : wd 1 (.list (ns.map PyData.int)) := wd_list fun d hd => by
  obtain ⟨n, _, rfl⟩ := List.mem_map.mp hd
  exact wd_int 0 n
/-! ### a list that stays, whatever is done to the objects at A -/
def Scr (K : PySem.W.Frag) (H : Hp) (A : List Addr) (p : Addr) (xs : List V) : Prop := (SqL K H p xs ∧ p ∉ A) ∨ ∀ H', SqL K H' p xs
theorem Scr.chg {K : PySem.W.Frag} {H H' : Hp} {A : List Addr} {p : Addr} {xs : List V} (h : Scr K H A p xs) (c : Chg A H H') : Scr K H' A p xs := by
  rcases h with ⟨h, hp⟩ | h
  · refine .inl ⟨?_, hp⟩
    rcases h with (h | ⟨o, h⟩) | h
    · exact .inl (.inl (c.keep _ _ h hp))
    · exact .inl (.inr ⟨o, c.keep _ _ h hp⟩)
    · exact .inr h
  · exact .inr h
theorem Scr.mono {K : PySem.W.Frag} {H : Hp} {A B : List Addr} {p : Addr} {xs : List V} (h : Scr K H A p xs) (s : ∀ b ∈ B, b ∈ A) : Scr K H B p xs := h.elim (fun h => .inl ⟨h.1, fun z => h.2 (s _ z)⟩) .inr
theorem Scr.of {K : PySem.W.Frag} {H : Hp} {A : List Addr} {p : Addr} {xs : List V} (h : SqL K H p xs) (f : ∀ b ∈ A, H b = none) : Scr K H A p xs := by
  rcases h with (h' | ⟨o, h'⟩) | h'
  · exact .inl ⟨.inl (.inl h'), fun z => by rw [f p z] at h'; cases h'⟩
  · exact .inl ⟨.inl (.inr ⟨o, h'⟩), fun z => by rw [f p z] at h'; cases h'⟩
  · exact .inr fun _ => .inr h'
/-! ### lists of tuples of plain values -/
def scalD : V → PyData
  | .bl b => .bool b
  | .int i => .int i
  | .str x => .str x
  | _ => .none
theorem den_scal {K : PySem.W.Frag} {H : Hp} {v : V} (f : flatV v = true) : Den K H v (scalD v) := by
  cases v with
  | non => exact .non
  | bl b => exact .bl b
  | int i => exact .int i
  | str x => exact .str x
  | _ => exact absurd (show false = true from f) Bool.false_ne_true
theorem denAll_scal {K : PySem.W.Frag} {H : Hp} : ∀ {vs : List V}, vs.all flatV = true → DenAll K H vs (vs.map scalD)
  | [], _ => .nil
  | v :: r, h => by
    rw [List.all_cons, Bool.and_eq_true] at h
    exact .cons (den_scal h.1) (denAll_scal h.2)
def okV : V → Prop
  | .str x => okS x.cps.toList
  | _ => True
/-- the tuples at these addresses -/
def TupsAt (H : Hp) : List Addr → List (List V) → Prop := Paired fun t xs => H t = some (.tup xs)
def LTups (H : Hp) (D : Addr) (rows : List (List V)) : Prop := ∃ ts, H D = some (.lst (ts.map V.ref)) ∧ TupsAt H ts rows
theorem TupsAt.chg {A : List Addr} {H H' : Hp} {ts : List Addr} {rows : List (List V)} (h : TupsAt H ts rows) (c : Chg A H H') : TupsAt H' ts rows := Paired.mapP h fun _ _ e => c.tup _ _ e
theorem LTups.chg {A : List Addr} {H H' : Hp} {D : Addr} {rows : List (List V)} (h : LTups H D rows) (c : Chg A H H') (hD : D ∉ A) : LTups H' D rows := by
  obtain ⟨ts, e, t⟩ := h
  exact ⟨ts, c.keep _ _ e hD, t.chg c⟩
theorem LTups.same {H H' : Hp} {D : Addr} {rows : List (List V)} (h : LTups H D rows) (s : Same H H') : LTups H' D rows := h.chg (A := []) (Chg.of_same s) (by simp)
theorem TupsAt.den {K : PySem.W.Frag} {H : Hp} {ts : List Addr} {rows : List (List V)} (h : TupsAt H ts rows) : (∀ r ∈ rows, r.all flatV = true) → DenAll K H (ts.map V.ref) (rows.map fun r => .tuple (r.map scalD)) := by
  intro f
  unfold TupsAt at h
  induction h with
  | nil => exact .nil
  | @cons t xs ts rows e r ih =>
    exact .cons (.tup (.inl (.inl e)) (denAll_scal (f xs List.mem_cons_self))) (ih fun z hz => f z (List.mem_cons_of_mem _ hz))
theorem LTups.den {K : PySem.W.Frag} {H : Hp} {D : Addr} {rows : List (List V)} (h : LTups H D rows) (f : ∀ r ∈ rows, r.all flatV = true) : Den K H (.ref D) (.list (rows.map fun r => .tuple (r.map scalD))) := by
  obtain ⟨ts, e, t⟩ := h
  exact .lst (.inl (.inl e)) (t.den f)
theorem TupsAt.get {H : Hp} {ts : List Addr} {rows : List (List V)} (h : TupsAt H ts rows) : ∀ {i : Nat} {t : Addr}, ts[i]? = some t → ∃ xs, rows[i]? = some xs ∧ H t = some (.tup xs) := by
  unfold TupsAt at h
  induction h with
  | nil => intro i t e; simp at e
  | @cons a b as bs e r ih =>
    intro i t q
    cases i with
    | zero => simp at q; subst q; exact ⟨b, rfl, e⟩
    | succ i => simpa using ih (by simpa using q)
theorem TupsAt.length {H : Hp} {ts : List Addr} {rows : List (List V)} (h : TupsAt H ts rows) : ts.length = rows.length := Paired.length h
theorem TupsAt.snoc {H : Hp} {ts : List Addr} {rows : List (List V)} {t : Addr} {xs : List V} (h : TupsAt H ts rows) (e : H t = some (.tup xs)) : TupsAt H (ts ++ [t]) (rows ++ [xs]) := by
  unfold TupsAt at h ⊢
  induction h with
  | nil => exact .cons e .nil
  | cons e' r ih => exact .cons e' ih
theorem TupsAt.filter {H : Hp} {ts : List Addr} {rows : List (List V)} (h : TupsAt H ts rows) (p : Addr → Bool) (q : List V → Bool) (hpq : ∀ t xs, H t = some (.tup xs) → t ∈ ts → p t = q xs) : TupsAt H (ts.filter p) (rows.filter q) := by
  unfold TupsAt at h ⊢
  induction h with
  | nil => exact .nil
  | @cons t xs ts rows e r ih =>
    have ih' := ih fun t' xs' e' m' => hpq t' xs' e' (List.mem_cons_of_mem _ m')
    have hp := hpq t xs e List.mem_cons_self
    by_cases hq : q xs = true
    · rw [List.filter_cons_of_pos hq, List.filter_cons_of_pos (hp.trans hq)]
      exact .cons e ih'
    · rw [List.filter_cons_of_neg hq, List.filter_cons_of_neg (by rw [hp]; exact hq)]
      exact ih'
theorem TupsAt.take {H : Hp} {ts : List Addr} {rows : List (List V)} (h : TupsAt H ts rows) (n : Nat) : TupsAt H (ts.take n) (rows.take n) := by
  unfold TupsAt at h ⊢
  induction h generalizing n with
  | nil => simp; exact .nil
  | cons e r ih =>
    cases n with
    | zero => exact .nil
    | succ n => exact .cons e (ih n)
end L2

set_option Elab.async false
set_option linter.all false
set_option maxRecDepth 100000
set_option maxHeartbeats 4000000
namespace L2
open PySem PySem.Spec PyProof.Rows
/-! ### a row, as it stands -/
abbrev Ltr := List Nat × Option (List Nat) × Int
def wV : Option (List Nat) → V
  | none => .non
  | some l => .str (S l)
def letV (x : Ltr) : List V := [.str (S x.1), wV x.2.1, .int x.2.2]
structure RowM where
  first : Int
  last : Int
  drawn : Int
  L : Int → Option Ltr
def row0 : RowM := ⟨0, 0, 0, fun _ => none⟩
def rowF (M : RowM) (d : Addr) : List (Str × V) := [("first", .int M.first), ("end", .int M.last), ("drawn", .int M.drawn), ("letters", .ref d)]
/-- what a value says of a place: nothing, or the letter's tuple -/
def LetVal (H : Hp) : Option Ltr → V → Prop
  | none, v => v = .non
  | some x, v => ∃ t, v = .ref t ∧ H t = some (.tup (letV x))
def LetsAt (H : Hp) (kvs : List (Key × V)) (L : Int → Option Ltr) : Prop := ∀ p : Int, LetVal H (L p) ((valV kvs (.inl p)).getD .non) ∧ ((valV kvs (.inl p)).isSome = (L p).isSome)
theorem LetVal.chg {A : List Addr} {H H' : Hp} {o : Option Ltr} {v : V} (c : Chg A H H') (h : LetVal H o v) : LetVal H' o v := by
  cases o with
  | none => exact h
  | some x => obtain ⟨t, e, ht⟩ := h; exact ⟨t, e, c.tup _ _ ht⟩
theorem LetsAt.chg {A : List Addr} {H H' : Hp} {kvs : List (Key × V)} {L : Int → Option Ltr} (c : Chg A H H') (h : LetsAt H kvs L) : LetsAt H' kvs L := fun p => ⟨(h p).1.chg c, (h p).2⟩
theorem LetsAt.none {H : Hp} {kvs : List (Key × V)} {L : Int → Option Ltr} (h : LetsAt H kvs L) {p : Int} (e : L p = Option.none) : valV kvs (.inl p) = Option.none := by
  have := (h p).2
  rw [e] at this
  simpa using this
theorem LetsAt.some {H : Hp} {kvs : List (Key × V)} {L : Int → Option Ltr} (h : LetsAt H kvs L) {p : Int} {x : Ltr} (e : L p = Option.some x) : ∃ t, valV kvs (.inl p) = Option.some (.ref t) ∧ H t = Option.some (.tup (letV x)) := by
  obtain ⟨h1, h2⟩ := h p
  rw [e] at h1 h2
  obtain ⟨v, hv⟩ := Option.isSome_iff_exists.mp (h2.trans rfl)
  rw [hv] at h1
  obtain ⟨t, et, ht⟩ := h1
  refine ⟨t, ?_, ht⟩
  rw [hv]
  exact congrArg Option.some et
theorem LetsAt.put {H : Hp} {kvs : List (Key × V)} {L : Int → Option Ltr} (h : LetsAt H kvs L) {p : Int} {x : Ltr} {t : Addr} (ht : H t = Option.some (.tup (letV x))) : LetsAt H (putK kvs (.inl p) (.ref t)) (fun q => if q = p then Option.some x else L q) := by
  intro q
  rw [valV_put]
  by_cases e : q = p
  · subst e
    rw [if_pos rfl]
    dsimp only
    rw [if_pos rfl]
    exact ⟨⟨t, rfl, ht⟩, rfl⟩
  · have e' : ¬ (Sum.inl q : Key) = Sum.inl p := fun z => e (Sum.inl.inj z)
    rw [if_neg e']
    dsimp only
    rw [if_neg e]
    exact h q
theorem valV_drop {κ : Type} [DecidableEq κ] (kvs : List (κ × V)) (k j : κ) : valV (dropK kvs k) j = if j = k then Option.none else valV kvs j := by
  induction kvs with
  | nil => rw [show dropK ([] : List (κ × V)) k = [] from rfl, valV_nil]; split <;> rfl
  | cons p r ih =>
    by_cases e : p.1 = k
    · rw [dropK_pos e, ih]
      by_cases ej : j = k
      · rw [if_pos ej, if_pos ej]
      · rw [if_neg ej, if_neg ej, valV_neg (fun z => ej (z.symm.trans e))]
    · rw [dropK_neg e]
      by_cases ep : p.1 = j
      · rw [valV_pos ep, valV_pos ep, if_neg (fun z => e (ep.trans z))]
      · rw [valV_neg ep, valV_neg ep, ih]
theorem LetsAt.drop {H : Hp} {kvs : List (Key × V)} {L : Int → Option Ltr} (h : LetsAt H kvs L) (p : Int) : LetsAt H (dropK kvs (.inl p)) (fun q => if q = p then Option.none else L q) := by
  intro q
  rw [valV_drop]
  by_cases e : q = p
  · subst e
    rw [if_pos rfl]
    dsimp only
    rw [if_pos rfl]
    exact ⟨rfl, rfl⟩
  · have e' : ¬ (Sum.inl q : Key) = Sum.inl p := fun z => e (Sum.inl.inj z)
    rw [if_neg e']
    dsimp only
    rw [if_neg e]
    exact h q
structure RowAt (C : Addr) (H : Hp) (r d : Addr) (M : RowM) : Prop where
  obj : ∃ dx, H r = some (.ins C dx (rowF M d))
  dict : ∃ kvs, H d = some (.dK kvs) ∧ (kvs.length : Int) ≤ M.last ∧ LetsAt H kvs M.L
  f0 : 0 ≤ M.first
  fl : M.first ≤ M.last
  dr : 0 ≤ M.drawn
  within : ∀ p, (M.L p).isSome = true → M.first ≤ p ∧ p < M.last
theorem RowAt.chg {A : List Addr} {C : Addr} {H H' : Hp} {r d : Addr} {M : RowM} (h : RowAt C H r d M) (c : Chg A H H') (hr : r ∉ A) (hd : d ∉ A) : RowAt C H' r d M := by
  obtain ⟨dx, e⟩ := h.obj
  obtain ⟨kvs, e2, l, t⟩ := h.dict
  exact ⟨⟨dx, c.keep _ _ e hr⟩, ⟨kvs, c.keep _ _ e2 hd, l, t.chg c⟩, h.f0, h.fl, h.dr, h.within⟩
theorem RowAt.ne {C : Addr} {H : Hp} {r d : Addr} {M : RowM} (h : RowAt C H r d M) : r ≠ d := by
  obtain ⟨dx, e⟩ := h.obj
  obtain ⟨kvs, e2, _⟩ := h.dict
  exact ne_of e e2 (by intro z; cases z)
def RowM.add (M : RowM) (x : Ltr) : RowM := { M with last := M.last + 1, L := fun q => if q = M.last then some x else M.L q }
def RowM.out (M : RowM) (p : Int) : RowM := { M with L := fun q => if q = p then none else M.L q }
def RowM.upto (M : RowM) (p : Int) : Int := min p M.last
def RowM.cut (M : RowM) (p : Int) : RowM := { M with first := max M.first (M.upto p), L := fun q => if q < M.upto p then none else M.L q }
def RowM.raised (M : RowM) (p : Int) : RowM := { M with drawn := max M.drawn p }
/-- the places from lo on, n of them, where a letter stands -/
def RowM.standing (M : RowM) (lo : Int) (n : Nat) : List Int := ((List.range n).map fun (i : Nat) => lo + (i : Int)).filter fun q => (M.L q).isSome
def okL (x : Ltr) : Prop := okS x.1 ∧ ∀ w, x.2.1 = some w → okS w
def wordD : Option (List Nat) → PyData
  | none => .none
  | some l => .str (S l)
def letD (x : Ltr) : PyData := .tuple [.str (S x.1), wordD x.2.1, .int x.2.2]
/-- what is told of a place -/
def RowM.rowV (M : RowM) (p : Int) : List V := match M.L p with
  | some x => [.int p, .str (S x.1), wV x.2.1]
  | none => []
def RowM.seenP (M : RowM) (start limit most : Int) : List Int := (M.standing (max start M.first) (min limit M.last - max start M.first).toNat).take most.toNat
def sp_row_seen (C : Addr) : Sp := fun vs H Q _ => ∃ (r d : Addr) (M : RowM) (st li mo : Int), vs = [.ref r, .int st, .int li, .int mo] ∧ RowAt C H r d M ∧ M.last ≤ 100000 ∧ 0 ≤ st ∧ st ≤ 10 ^ 12 ∧ 0 ≤ li ∧ 0 ≤ mo ∧
  ∀ D H', H D = none → Same H H' → LTups H' D ((M.seenP st li mo).map M.rowV) → Q (.ref D) H'
def sp_row_init (C : Addr) : Sp := fun vs H Q _ => ∃ x dx, vs = [.ref x] ∧ H x = some (.ins C dx []) ∧ ∀ d H', H d = none → d ≠ x → Chg [x] H H' → RowAt C H' x d row0 → Q .non H'
def sp_row_add (C : Addr) : Sp := fun vs H Q _ => ∃ (r d : Addr) (M : RowM) (x : Ltr), vs = [.ref r, .str (S x.1), wV x.2.1, .int x.2.2] ∧ RowAt C H r d M ∧ M.last ≤ 100000 ∧ ∀ H', Chg [r, d] H H' → RowAt C H' r d (M.add x) → Q (.int M.last) H'
def sp_row_at (C : Addr) : Sp := fun vs H Q _ => ∃ (r d : Addr) (M : RowM) (p : Int), vs = [.ref r, .int p] ∧ RowAt C H r d M ∧ ∀ v, LetVal H (M.L p) v → Q v H
def sp_row_out (C : Addr) : Sp := fun vs H Q _ => ∃ (r d : Addr) (M : RowM) (p : Int), vs = [.ref r, .int p] ∧ RowAt C H r d M ∧ ∀ H', Chg [d] H H' → RowAt C H' r d (M.out p) → Q (.bl (M.L p).isSome) H'
def sp_row_cut (C : Addr) : Sp := fun vs H Q _ => ∃ (r d : Addr) (M : RowM) (p : Int), vs = [.ref r, .int p] ∧ RowAt C H r d M ∧ M.last ≤ 100000 ∧ -100000000000 ≤ p ∧
  ∀ D H', H D = none → Chg [r, d] H H' → RowAt C H' r d (M.cut p) → H' D = some (.lst ((M.standing M.first (M.upto p - M.first).toNat).map V.int)) → Q (.ref D) H'
def sp_row_raise (C : Addr) : Sp := fun vs H Q _ => ∃ (r d : Addr) (M : RowM) (p : Int), vs = [.ref r, .int p] ∧ RowAt C H r d M ∧ ∀ H', Chg [r] H H' → RowAt C H' r d (M.raised p) → Q .non H'
end L2

set_option Elab.async false
set_option linter.all false
set_option maxRecDepth 100000
set_option maxHeartbeats 4000000
namespace L2
open PySem PySem.Spec PyProof.Rows

/-! ### list(range(..)) -/
section
variable {X : Cx}
def rngV (lo : Int) (n : Nat) : List V := (List.range n).map fun (i : Nat) => V.int (lo + (i : Int))
def rngI (lo : Int) (n : Nat) : List Int := (List.range n).map fun (i : Nat) => lo + (i : Int)
def tLR1 (ta : TA) : TE := fun σ H Q => ta σ H fun vs H1 => ∃ j : Int, vs = [.int j] ∧ -(2 ^ 62) ≤ j ∧ j ≤ sizeLine ∧ ∀ l, H1 l = none → Q (.ref l) (upd H1 l (.lst (rngV 0 j.toNat)))
def tLR2 (ta : TA) : TE := fun σ H Q => ta σ H fun vs H1 => ∃ i j : Int, vs = [.int i, .int j] ∧ (-(2 ^ 62) ≤ i ∧ i < 2 ^ 62 ∧ -(2 ^ 62) ≤ j ∧ j < 2 ^ 62) ∧ j - i ≤ sizeLine ∧ ∀ l, H1 l = none → Q (.ref l) (upd H1 l (.lst (rngV i (j - i).toNat)))
/-! ### sorted(list of ints) -/
def rSortI (K : PySem.W.Frag) : List V → Hp → VK → Prop := fun xs H Q => ∃ (p : Addr) (ns : List Int), xs = [.ref p] ∧ SqL K H p (ns.map V.int) ∧ ns.length < 64 ∧
  ∀ l (ms : List Int), H l = none → ms.Perm ns → ms.Pairwise (· ≤ ·) → Q (.ref l) (upd H l (.lst (ms.map V.int)))
theorem call_sortedH : CallR X (.builtin "sorted") (rSortI X.K) := by
  intro pins s σ H xs us Q I r h
  obtain ⟨p, ns, rfl, hq, h64, q⟩ := h
  obtain ⟨u, rfl, ru⟩ := vals1 r
  cases ru
  obtain ⟨its, rv, pl, hz⟩ := I.list hq
  have hi := intsAre_of rv
  have hlen := rv.length
  refine sorted_ints pl.isList hi (by rw [List.length_map] at hlen; omega) fun out ns' a1 a2 a3 => ?_
  obtain ⟨e, he⟩ := sortedAll_at s.heap its out
  have hz' : (ns'.map V.int).length ≤ sizeLine := by
    rw [List.length_map, a2.length_eq]
    exact Nat.le_trans (Nat.le_of_lt h64) (by decide)
  exact ⟨.ref _, _, I.laid (t' := s.toks) (fun b o => sortedAll_old) (Nat.le_succ _) (show ObjOk X.prog X.w _ (sortedAll s.heap its out) _ (.lst _) from ⟨hz', out.toList, e, vals_ints a1, he⟩), rfl, q _ ns' (I.hok.fresh (Nat.le_succ _)) a2 a3⟩
end

/-! ### len(set(list of texts)) -/
def addS (l : List Str) (x : Str) : List Str := if l.any (· == x) then l else l ++ [x]
def onceS (l : List Str) : List Str := l.foldl addS []
section
variable {prog : Program} {w : World} {A : Around} {s : Shared}
end
section
variable {prog : Program} {w : World} {A : Around} {E : Value → Shared → Prop} {s : Shared}
def emptySet (led : Bool) : Obj := { cls := .type "set", dict := none, data := .set #[] 0 (.fresh 0 0 led) }
/-- what the init of a set leaves -/
def SetDone (prog : Program) (w : World) (s : Shared) (ls : List Str) (s₂ : Shared) : Prop := ∃ h' tk, s₂ = { s with heap := h', toks := tk } ∧ h'.SetOf (strKind prog w) s.heap.objs.size (fun x => (onceS ls).any (· == x)) (onceS ls).length ∧
  ∀ b o, s.heap.get? b = some o → h'.get? b = some o
end
section
variable {X : Cx}
def tLenSet (K : PySem.W.Frag) (te : TE) : TE := fun σ H Q => te σ H fun x H1 => ∃ (p : Addr) (ls : List Str), x = .ref p ∧ SqL K H1 p (ls.map V.str) ∧ ls.length ≤ 4000 ∧ Q (.int (onceS ls).length) H1
/-- a tuple of the module -/
def TConst (K : PySem.W.Frag) (mg : Str → Option Value) (x : Str) (xs : List V) : Prop := ∃ p, mg x = some (.ref p) ∧ ∀ H, SqT K H p xs
def tCT (K : PySem.W.Frag) (xs : List V) : TE := fun _ H Q => ∀ p, (∀ H', SqT K H' p xs) → Q (.ref p) H
end
end L2

set_option Elab.async false
set_option linter.all false
set_option maxRecDepth 100000
set_option maxHeartbeats 4000000
namespace L2
open PySem PySem.Spec PyProof.Rows
/-! ### a comprehension whose target is a tuple of names -/
def hideT (xs : List Str) (y : Str) : Str := if y ∈ xs then Str.empty else y
abbrev blkT (X : Cx) (xs : List Str) (scope : Scope) (M : List Str) (C : Addr) (s₀ : Shared) (H₀ : Hp) (fp : List Addr) : Cx :=
  { X with N := xs ++ M, s₀ := s₀, H₀ := H₀, env := compEnvC scope (closOf X.env.cells scope.names []) C X.env, outer := X.stack, stack := X.stack, ex := fp, fn := fun _ => false, pn := [], xe := fun _ _ => False }
structure CompOkT (N M : List Str) (sc : Scope) (xs : List Str) (scope : Scope) : Prop where
  kind : scope.kind = .function
  cell : ∀ y ∈ scope.names, y.2 ≠ .cell
  names : ∀ y ∈ scope.names, y.2 = .local → scope.names.lookup y.1 = some .local
  free : ∀ y ∈ scope.names, y.2 = .free → sc.names.lookup y.1 = some .cell ∨ sc.names.lookup y.1 = some .free
  hid : N.map (hideT xs) = M
  others : ∀ y ∈ M, scope.names.lookup y ≠ some .local
  void : scope.names.lookup Str.empty = none
def tCompT (n : Nat) (wi : TI) (g : TG) (tt : TT) (te : TE) : TE := fun σ H Q => wi σ H fun J H1 => ∀ D, H1 D = none → ∃ W : Nat → Nat → List V → Hp → Prop, (∃ m, W 0 m [] (upd H1 D (.lst []))) ∧ ∀ i m ys H2, W i m ys H2 →
  (J.stop i H2 ∧ H2 D = some (.lst ys) ∧ Q (.ref D) H2) ∨ (J.go i H2 ∧ ys.length < sizeLine ∧ ∀ x H3, J.yld i H2 x H3 → ∀ o : St, o.length = n → g x (o ++ σ) H3 fun σ' H3' => (∃ o' : St, o'.length = n ∧ σ' = o' ++ σ) ∧ tt σ' H3' fun b H4 =>
    if b = true then te σ' H4 fun y H5 => H5 D = some (.lst ys) ∧ ∃ m', m' < m ∧ W (i + 1) m' (ys ++ [y]) (upd H5 D (.lst (ys ++ [y]))) else ∃ m', m' < m ∧ W (i + 1) m' ys H4)
section
variable {X : Cx} {pins : List (Addr × Obj)} {σ : St} {H2 : Hp} {s2 : Shared} {E : Value → Shared → Prop}
variable {elt iter tg : Expr} {ifs : List Expr} {xs : List Str} {pos : Pos} {g : TG} {N M : List Str} {sc scope : Scope} {tt : TT} {te : TE} {it : Addr} {fp : List Addr} {tn : Nat → Heap → Prop} {J : It}
end
section
variable {X : Cx} {elt iter c tg : Expr} {ifs : List Expr} {xs : List Str} {y : Str} {py pos spos : Pos} {scope sc : Scope} {N M : List Str} {wi : TI} {tt : TT} {te : TE} {g : TG}
end
end L2

set_option Elab.async false
set_option linter.all false
set_option maxRecDepth 100000
set_option maxHeartbeats 4000000
namespace L2
open PySem PySem.Spec PyProof.Rows
/-! ### a dict is walked: frozen while the loop runs, thawed behind it -/
section
variable {X : Cx} {pins : List (Addr × Obj)} {σ : St} {H : Hp} {s : Shared} {d : Addr} {kvs : List (Key × V)} {od : Obj}
theorem Inv.reH {H' : Hp} (I : Inv X pins σ H s) (same : ∀ b, b ≠ d → H' b = H b) (hd : ∃ o, H d = some o) (hd' : ∃ o, H' d = some o) (nt : ∀ xs, H d ≠ some (.tup xs)) (no : ∀ y, H d ≠ some (.own y))
    (b1 : ∀ xs, X.H₀ d ≠ some (.tup xs)) (b2 : ∀ o u, X.H₀ d ≠ some (.frz o u)) (b3 : ∀ ps, X.H₀ d ≠ some (.tbl ps)) (new : ∀ o, H' d = some o → ObjOk X.prog X.w H' s.heap d o) : Inv X pins σ H' s := by
  obtain ⟨o0, e0⟩ := hd
  have nn : ∀ b, H b = none → H' b = none := fun b hb => by
    rw [same b (fun z => by rw [z, e0] at hb; cases hb)]; exact hb
  refine ⟨I.ok, I.os, I.bare, ⟨I.base.keep, I.base.slot, fun b o e n hx => nn b (I.base.free b o e n hx), I.base.there, fun b xs e => ?_, fun b o u e => ?_, fun b ps e => ?_⟩, I.loc, I.cell, nn _ I.free, fun x c e => nn _ (I.freeC x c e), fun p hp => ?_, fun b u e => ?_, I.len⟩
  · rw [same b (fun z => b1 xs (by rw [← z]; exact e))]; exact I.base.tups b xs e
  · rw [same b (fun z => b2 o u (by rw [← z]; exact e))]; exact I.base.frzs b o u e
  · rw [same b (fun z => b3 ps (by rw [← z]; exact e))]; exact I.base.tbls b ps e
  · obtain ⟨p1, p2, p3⟩ := I.pin p hp
    exact ⟨p1, nn _ p2, p3⟩
  · by_cases hb : b = d
    · subst hb; exact new u e
    · rw [same b hb] at e
      refine (I.hok b u e).stay (fun c v _ q => q) (fun c q => ?_) fun c xs q => ?_
      · rw [same c (fun z => no b (by rw [← z]; exact q))]; exact q
      · rw [same c (fun z => nt xs (by rw [← z]; exact q))]; exact q
/-- a dict that is not frozen at the entry: it may be frozen and thawed here -/
structure Cold (X : Cx) (d : Addr) : Prop where
  tup : ∀ xs, X.H₀ d ≠ some (.tup xs)
  frz : ∀ o u, X.H₀ d ≠ some (.frz o u)
  tbl : ∀ ps, X.H₀ d ≠ some (.tbl ps)
theorem Inv.cold (I : Inv X pins σ H s) (e : H d = some (.dK kvs)) : Cold X d where
  tup := fun xs z => by have q := I.base.tups d xs z; rw [e] at q; cases q
  frz := fun o u z => by have q := I.base.frzs d o u z; rw [e] at q; cases q
  tbl := fun ps z => by obtain ⟨m, q⟩ := I.base.tbls d ps z; rw [e] at q; cases q
theorem Inv.freeze (I : Inv X pins σ H s) (e : H d = some (.dK kvs)) : ∃ od, s.heap.get? d = some od ∧ Inv X pins σ (upd H d (.frz od (.dK kvs))) s := by
  have c := I.cold e
  have ok := I.hok d _ e
  obtain ⟨od, ho⟩ : ∃ od, s.heap.get? d = some od := by
    obtain ⟨_, _, _, _, o, _, _, ho, _⟩ := ok
    exact ⟨o, ho⟩
  refine ⟨od, ho, I.reH (d := d) (fun b hb => upd_ne hb) ⟨_, e⟩ ⟨_, upd_same⟩ (fun xs z => by rw [e] at z; cases z) (fun y z => by rw [e] at z; cases z) c.tup c.frz c.tbl fun o q => ?_⟩
  rw [upd_same] at q
  cases q
  exact ⟨ho, ok⟩
theorem kV_of {P : Program} {w : World} {k : Key} {u : Value} (h : (mixKind P w).is k u = true) : RelV (kV k) u := by
  rcases keyIs_shape (show keyIs k u = true from h) with ⟨i, t, rfl, rfl⟩ | ⟨x, t, rfl, rfl⟩
  · exact ⟨t, rfl⟩
  · exact ⟨t, rfl⟩
theorem KV.getP {vs : List (Key × Value)} : ∀ {kvs : List (Key × V)} {vs : List (Key × Value)} {i : Nat} {k : Key} {x : V}, KV kvs vs → kvs[i]? = some (k, x) → ∃ u, vs[i]? = some (k, u) ∧ RelV x u
  | _, _, _, _, _, .nil, e => by simp at e
  | _, (k', u) :: _, 0, k, x, .cons r _, e => by
    simp at e
    subst e
    obtain ⟨r1, r2⟩ := r
    simp only at r1 r2
    subst r1
    exact ⟨u, rfl, r2⟩
  | _, _, i + 1, k, x, .cons _ t, e => by
    obtain ⟨u, h1, h2⟩ := KV.getP (vs := vs) (i := i) (k := k) (x := x) t (by simpa using e)
    exact ⟨u, by simpa using h1, h2⟩
end
theorem valV_nd : ∀ {kvs : List (Key × V)}, (kvs.map (·.1)).Nodup → ∀ {i : Nat} {k : Key} {x : V}, kvs[i]? = some (k, x) → valV kvs k = some x
  | [], _, i, k, x, e => by simp at e
  | p :: r, h, 0, k, x, e => by
    have e' : p = (k, x) := by simpa using e
    subst e'
    exact valV_pos rfl
  | p :: r, h, i + 1, k, x, e => by
    have e' : r[i]? = some (k, x) := by simpa using e
    rw [List.map_cons, List.nodup_cons] at h
    rw [valV_neg (fun z => h.1 (by rw [z]; exact List.mem_map.mpr ⟨_, List.mem_of_getElem? e', rfl⟩))]
    exact valV_nd h.2 e'
theorem valV_at : ∀ {kvs : List (Key × V)} {k : Key} {x : V}, valV kvs k = some x → ∃ i : Nat, kvs[i]? = some (k, x)
  | [], k, x, e => by cases e
  | p :: r, k, x, e => by
    by_cases h : p.1 = k
    · rw [valV_pos h] at e
      cases e
      exact ⟨0, by subst h; rfl⟩
    · rw [valV_neg h] at e
      obtain ⟨i, hi⟩ := valV_at e
      exact ⟨i + 1, by simpa using hi⟩
/-- the pairs of the dict at d -/
def Iti (d : Addr) (od : Obj) (kvs : List (Key × V)) : It :=
  ⟨fun i H => H d = some (.frz od (.dK kvs)) ∧ i < kvs.length, fun i H v H' => ∃ T k x, v = .ref T ∧ H T = none ∧ H' = upd H T (.tup [kV k, x]) ∧ kvs[i]? = some (k, x) ∧ valV kvs k = some x, fun i H => H d = some (.frz od (.dK kvs)) ∧ kvs.length ≤ i⟩
/-- its keys -/
def Itk (d : Addr) (od : Obj) (kvs : List (Key × V)) : It :=
  ⟨fun i H => H d = some (.frz od (.dK kvs)) ∧ i < kvs.length, fun i H v H' => H' = H ∧ ∃ k x, v = kV k ∧ kvs[i]? = some (k, x) ∧ valV kvs k = some x, fun i H => H d = some (.frz od (.dK kvs)) ∧ kvs.length ≤ i⟩
/-- its values -/
def Itv (d : Addr) (od : Obj) (kvs : List (Key × V)) : It :=
  ⟨fun i H => H d = some (.frz od (.dK kvs)) ∧ i < kvs.length, fun i H v H' => H' = H ∧ ∃ k, kvs[i]? = some (k, v), fun i H => H d = some (.frz od (.dK kvs)) ∧ kvs.length ≤ i⟩
/-- what the object od says -/
def Says (P : Program) (w : World) (d : Addr) (od : Obj) (kvs : List (Key × V)) (vs : List (Key × Value)) (ep : Nat) : Prop := KV kvs vs ∧ ∀ h : Heap, h.get? d = some od → h.DictAt (mixKind P w) d vs ep
theorem says_of {P : Program} {w : World} {h : Heap} {d : Addr} {od : Obj} {kvs : List (Key × V)} {H : Hp} (ok : ObjOk P w H h d (.dK kvs)) (e : h.get? d = some od) : ∃ vs ep, Says P w d od kvs vs ep ∧ (d == sysModules) = false := by
  obtain ⟨_, hs, vs, r, o, es, ep, e', c⟩ := ok
  rw [e] at e'
  cases e'
  exact ⟨vs, ep, ⟨r, fun h' e' => ⟨od, es, e', c⟩⟩, hs⟩
/-! the judgement: an iterator over a frozen dict has come -/
abbrev TIF := St → Hp → (Addr → Obj → List (Key × V) → It → Hp → Prop) → Prop
def PIEF (X : Cx) (pins : List (Addr × Obj)) (σ : St) (tg : Expr) (R : Addr → Obj → List (Key × V) → It → Hp → Prop) (itv : Value) (s2 : Shared) : Prop :=
  ∃ (it : Addr) (fp : List Addr) (tn : Nat → Heap → Prop) (J : It) (H' : Hp) (d : Addr) (od : Obj) (kvs : List (Key × V)), itv = .ref it ∧ Inv X pins σ H' s2 ∧ Turn X.prog X.w X.K tg J fp it tn ∧ tn 0 s2.heap ∧ (∀ b ∈ fp, FpOk X pins H' b) ∧ Cold X d ∧ R d od kvs J H'
def PIF (X : Cx) (tg iter : Expr) (wi : TIF) : Prop :=
  ∀ (pins : List (Addr × Obj)) (s : Shared) (σ : St) (H : Hp) (R : Addr → Obj → List (Key × V) → It → Hp → Prop), Inv X pins σ H s → wi σ H R →
    wpAny (model X.prog X.w) X.A (eval iter X.env) (fun v s1 => wpAny (model X.prog X.w) X.A (pyIter v) (PIEF X pins σ tg R) X.xe s1) X.xe s
def iItems (td : TE) : TIF := fun σ H R => td σ H fun x H1 => ∃ d kvs, x = .ref d ∧ H1 d = some (.dK kvs) ∧ ∀ od, R d od kvs (Iti d od kvs) (upd H1 d (.frz od (.dK kvs)))
def iKeys (td : TE) : TIF := fun σ H R => td σ H fun x H1 => ∃ d kvs, x = .ref d ∧ H1 d = some (.dK kvs) ∧ ∀ od, R d od kvs (Itk d od kvs) (upd H1 d (.frz od (.dK kvs)))
def iVals (td : TE) : TIF := fun σ H R => td σ H fun x H1 => ∃ d kvs, x = .ref d ∧ H1 d = some (.dK kvs) ∧ ∀ od, R d od kvs (Itv d od kvs) (upd H1 d (.frz od (.dK kvs)))
section
variable {X : Cx} {o : Expr} {apos cpos : Pos} {td : TE}
end
/-! ### for -/
def thawE (d : Addr) (od : Obj) (kvs : List (Key × V)) (D : Ends) : Ends :=
  { D with nx := fun σ H => H d = some (.frz od (.dK kvs)) ∧ D.nx σ (upd H d (.dK kvs)), rt := fun v H => H d = some (.frz od (.dK kvs)) ∧ D.rt v (upd H d (.dK kvs)) }
def tForD (wi : TIF) (g : TG) (tb : TS) : TS := fun D σ H => wi σ H fun d od kvs J H1 => forW J g tb (thawE d od kvs D) σ H1
section
variable {X : Cx} {tg : Expr}
end
theorem tForD_eq (wi : TIF) (g : TG) (tb : TS) (D : Ends) (σ : St) (H : Hp) : tForD wi g tb D σ H = wi σ H fun d od kvs J H1 => forW J g tb (thawE d od kvs D) σ H1 := rfl
/-! ### a comprehension over a dict -/
def tCompD (n : Nat) (wi : TIF) (g : TG) (tt : TT) (te : TE) : TE := fun σ H Q => wi σ H fun d od kvs J H1 => ∀ D, H1 D = none → ∃ W : Nat → Nat → List V → Hp → Prop, (∃ m, W 0 m [] (upd H1 D (.lst []))) ∧ ∀ i m ys H2, W i m ys H2 →
  (J.stop i H2 ∧ H2 D = some (.lst ys) ∧ H2 d = some (.frz od (.dK kvs)) ∧ Q (.ref D) (upd H2 d (.dK kvs))) ∨ (J.go i H2 ∧ ys.length < sizeLine ∧ ∀ x H3, J.yld i H2 x H3 → ∀ o : St, o.length = n → g x (o ++ σ) H3 fun σ' H3' => (∃ o' : St, o'.length = n ∧ σ' = o' ++ σ) ∧ tt σ' H3' fun b H4 =>
    if b = true then te σ' H4 fun y H5 => H5 D = some (.lst ys) ∧ ∃ m', m' < m ∧ W (i + 1) m' (ys ++ [y]) (upd H5 D (.lst (ys ++ [y]))) else ∃ m', m' < m ∧ W (i + 1) m' ys H4)
section
variable {X : Cx} {elt iter c tg : Expr} {ifs : List Expr} {xs : List Str} {y : Str} {py pos spos : Pos} {scope sc : Scope} {N M : List Str} {wi : TIF} {tt : TT} {te : TE} {g : TG}
end
end L2

set_option Elab.async false
set_option linter.all false
set_option maxRecDepth 100000
set_option maxHeartbeats 4000000
namespace L2
open PySem PySem.Spec PyProof.Rows
/-! ### text * int -/
def repL (n : Nat) (l : List Nat) : List Nat := (List.replicate n l).flatten
theorem foldl_app_toList (xs : List (Array Nat)) : ∀ a : Array Nat, (xs.foldl (· ++ ·) a).toList = a.toList ++ (xs.map Array.toList).flatten := by
  induction xs with
  | nil => intro a; simp
  | cons x r ih => intro a; rw [List.foldl_cons, ih]; simp
theorem mul_S (l : List Nat) (n : Int) : Txt.mul (S l) n = S (repL n.toNat l) := by
  unfold Txt.mul repL
  by_cases h1 : n < 1
  · rw [if_pos h1]
    have : n.toNat = 0 := by omega
    rw [this]
    rfl
  · rw [if_neg h1]
    by_cases h2 : (n == 1 || (S l).length == 0) = true
    · rw [if_pos h2]
      rw [Bool.or_eq_true] at h2
      rcases h2 with h2 | h2
      · have : n = 1 := by simpa using h2
        subst this
        simp
      · have : l = [] := by
          have : (S l).length = 0 := by simpa using h2
          rw [S_len] at this
          exact List.length_eq_zero_iff.mp this
        subst this
        congr 1
        simp
    · rw [if_neg h2]
      show (⟨_⟩ : Str) = ⟨_⟩
      congr 1
      apply Array.toList_inj.mp
      rw [foldl_app_toList]
      simp
def rRepT : R2 := fun x y H Q => ∃ l n, x = .str (S l) ∧ y = .int n ∧ -(2 ^ 62) ≤ n ∧ n ≤ 65536 ∧ l.length ≤ 200 ∧ Q (.str (S (repL n.toNat l))) H
section
variable {X : Cx}
theorem op_repT : OpR X (binaryOp .Mult) rRepT := by
  intro pins s σ H x y v u Q I rx ry h
  obtain ⟨l, n, rfl, rfl, h0, h1, hl, q⟩ := h
  obtain ⟨t, rfl⟩ := rx
  obtain ⟨t', rfl⟩ := ry
  refine SB.mul ⟨?_, fun h2 _ => ?_, fun h2 _ => ?_⟩ fun t'' k => ⟨.str (S (repL n.toNat l)), H, I.tok k, ⟨t'', by rw [mul_S]⟩, q⟩
  · rw [decide_eq_false (by omega), decide_eq_false (by omega)]; rfl
  · rw [S_len]
    intro h3
    have h4 : (2 ^ 63 - 1 : Int) / n ≥ (2 ^ 63 - 1) / 65536 := by
      refine Int.le_ediv_of_mul_le (by omega) ?_
      have : (2 ^ 63 - 1 : Int) / 65536 * n ≤ (2 ^ 63 - 1 : Int) / 65536 * 65536 := Int.mul_le_mul_of_nonneg_left h1 (by decide)
      have : (2 ^ 63 - 1 : Int) / 65536 * 65536 ≤ 2 ^ 63 - 1 := by decide
      omega
    have h5 : (2 ^ 63 - 1 : Int) / 65536 > 200 := by decide
    omega
  · rw [S_len]
    have h3 : l.length * n.toNat ≤ 200 * 65536 := Nat.mul_le_mul hl (by omega)
    have e : Builtin.Str.tooLong (l.length * n.toNat) = decide (l.length * n.toNat > sizeLine) := rfl
    rw [e, decide_eq_false]
    rw [sizeLine_eq]
    omega
def rMulA : R2 := fun x y H Q => rI CMul (fun i j => .int (i * j)) x y H Q ∨ rRepT x y H Q
theorem op_mulA : OpR X (binaryOp .Mult) rMulA := op_mul.or op_repT
theorem rMul_ii {H : Hp} {Q : VK} (i j : Int) : rMulA (.int i) (.int j) H Q = (CMul i j ∧ Q (.int (i * j)) H) := by
  simp [rMulA, rI, rRepT]
theorem rMul_si {H : Hp} {Q : VK} (z : Str) (n : Int) : rMulA (.str z) (.int n) H Q = ∃ l, z = S l ∧ -(2 ^ 62) ≤ n ∧ n ≤ 65536 ∧ l.length ≤ 200 ∧ Q (.str (S (repL n.toNat l))) H := by
  simp [rMulA, rI, rRepT]
/-! ### isinstance(x, (A, B)) -/
def rIsiT (K : PySem.W.Frag) : List V → Hp → VK → Prop := fun xs H Q => ∃ (x : V) (t : Value) (p : Addr) (ns : List String) (b : Bool), xs = [x, .ref p] ∧ H p = some (.tup (ns.map V.ty)) ∧ TyOf K H x t ∧ PySem.W.kitAny K t (ns.map Value.type) = some b ∧ Q (.bl b) H
theorem vals_ty : ∀ {ns : List String} {us : List Value}, Vals (ns.map V.ty) us → us = ns.map Value.type
  | [], _, .nil => rfl
  | n :: r, _, .cons (b := u) q t => by
    have e : u = Value.type n := q
    rw [e, vals_ty t]
    rfl
theorem isinst_tup {pins : List (Addr × Obj)} {σ : St} {H : Hp} {s : Shared} {A : Around} {E : Value → Shared → Prop} {Q : Value → Shared → Prop} {b : Bool} {tp : Addr} {its : List Value} {x : V} {u t : Value} (I : Inv X pins σ H s) (rx : RelV x u) (ty : TyOf X.K H x t)
    (htp : IsTup s.heap tp its.toArray) (e : PySem.W.kitAny X.K t its = some b) (h : ∀ tk, Q (.bool b) { s with toks := tk }) :
    wpAny (model X.prog X.w) A (call (.builtin "isinstance") [u, .ref tp]) Q E s := by
  obtain ⟨⟨cls, dd, dat, sl⟩, ho, hc, n, hdat⟩ := htp
  simp only at hc hdat
  subst hc hdat
  cases ty with
  | non => cases (show u = Value.none from rx); exact PySem.W.kia_tup PySem.W.kitx_none I.kIn True.intro ho e (fun z => nomatch z) h
  | bl y => cases (show u = Value.bool y from rx); exact PySem.W.kia_tup PySem.W.kitx_bool I.kIn True.intro ho e (fun z => nomatch z) h
  | int i => obtain ⟨t, q⟩ := (show ∃ t, u = Value.int i t from rx); cases q; exact PySem.W.kia_tup PySem.W.kitx_int I.kIn True.intro ho e (fun z => nomatch z) h
  | str y => obtain ⟨t, q⟩ := (show ∃ t, u = Value.str y t from rx); cases q; exact PySem.W.kia_tup PySem.W.kitx_str I.kIn True.intro ho e (fun z => nomatch z) h
  | flt y => obtain ⟨t, q⟩ := (show ∃ t, u = Value.float y t from rx); cases q; exact PySem.W.kia_tup PySem.W.kitx_float I.kIn True.intro ho e (fun z => nomatch z) h
  | @lst a xs ea =>
    cases (show u = Value.ref a from rx)
    obtain ⟨_, _, n, _, h1⟩ := (show ObjOk X.prog X.w H s.heap a (.lst xs) from I.hok a _ ea)
    exact PySem.W.kia_tup PySem.W.kitx_list I.kIn ⟨_, h1, rfl⟩ ho e (fun z => nomatch z) h
  | @frz a ob xs ea =>
    cases (show u = Value.ref a from rx)
    obtain ⟨_, _, _, n, _, h1⟩ := (show ObjOk X.prog X.w H s.heap a (.frz ob (.lst xs)) from I.hok a _ ea)
    exact PySem.W.kia_tup PySem.W.kitx_list I.kIn ⟨_, h1, rfl⟩ ho e (fun z => nomatch z) h
  | @tup a xs ea =>
    cases (show u = Value.ref a from rx)
    obtain ⟨_, _, _, p⟩ := (show ObjOk X.prog X.w H s.heap a (.tup xs) from I.hok a _ ea)
    obtain ⟨o, h1, h2, _⟩ := p
    exact PySem.W.kia_tup PySem.W.kitx_tuple I.kIn ⟨o, h1, h2⟩ ho e (fun z => nomatch z) h
  | @dK a kvs ea =>
    cases (show u = Value.ref a from rx)
    obtain ⟨_, _, vs, _, p⟩ := (show ObjOk X.prog X.w H s.heap a (.dK kvs) from I.hok a _ ea)
    obtain ⟨o, es, ep, h1, h2, _⟩ := p
    exact PySem.W.kia_tup PySem.W.kitx_dict I.kIn ⟨o, h1, h2.1⟩ ho e (fun z => nomatch z) h
  | @dT a kvs ea =>
    cases (show u = Value.ref a from rx)
    obtain ⟨_, _, xs, _, o, es, ep, h1, h2, _⟩ := (show ObjOk X.prog X.w H s.heap a (.dT kvs) from I.hok a _ ea)
    exact PySem.W.kia_tup PySem.W.kitx_dict I.kIn ⟨o, h1, h2.1⟩ ho e (fun z => nomatch z) h
  | @ins a C dx fs ea cl ha hn htk hm =>
    cases (show u = Value.ref a from rx)
    obtain ⟨mA, O, _⟩ := ins_get I.hok ea
    obtain ⟨od, J, _⟩ := O.look
    exact PySem.W.kia_tup (PySem.W.kitx_own (cl.get _) cl.hd ha hn htk hm) I.kIn J ho e (fun z => nomatch z) h
theorem call_isiT : CallR X (.builtin "isinstance") (rIsiT X.K) := by
  intro pins s σ H xs us Q I r h
  obtain ⟨x, t, p, ns, b, rfl, hp, ty, e, q⟩ := h
  obtain ⟨u, w, rfl, rx, rw'⟩ := vals2 r
  cases rw'
  obtain ⟨_, its, rv, it⟩ := (show ObjOk X.prog X.w H s.heap p (.tup (ns.map V.ty)) from I.hok p _ hp)
  have ei := vals_ty rv
  subst ei
  exact isinst_tup I rx ty it e fun tk => ⟨.bl b, H, I.tok tk, rfl, q⟩
theorem call_isiTK {K : PySem.W.Frag} (hK : X.K = K := by rfl) : CallR X (.builtin "isinstance") (rIsiT K) := hK ▸ call_isiT
/-! ### d.clear() -/
def rDClear : V → List V → Hp → VK → Prop := fun x vs H Q => ∃ a kvs, x = .ref a ∧ vs = [] ∧ H a = some (.dK kvs) ∧ Q .non (upd H a (.dK []))
def tDClear (td : TE) : TE := fun σ H Q => td σ H fun x H1 => ∃ a kvs, x = .ref a ∧ H1 a = some (.dK kvs) ∧ Q .non (upd H1 a (.dK []))
end
/-! ### reversed(list) -/
def Itv' (K : PySem.W.Frag) (a : Addr) (n : Nat) : It :=
  ⟨fun i H => i < n ∧ ∃ xs, SqL K H a xs ∧ xs.length = n, fun i H x H' => H' = H ∧ ∀ xs, SqL K H a xs → xs[n - 1 - i]? = some x, fun i H => n ≤ i⟩
section
variable {X : Cx}
def iRev (K : PySem.W.Frag) (ta : TA) : TI := fun σ H R => ta σ H fun vs H1 => ∃ a xs, vs = [.ref a] ∧ SqL K H1 a xs ∧ R (Itv' K a xs.length) H1
end
end L2

set_option Elab.async false
set_option linter.all false
set_option maxRecDepth 100000
set_option maxHeartbeats 4000000
namespace L2
open PySem PySem.Spec PyProof.Rows
/-! ### a lending, as it stands -/
abbrev Loan := Int × List Nat × Int
def loanV (x : Loan) : List V := [.int x.1, .str (S x.2.1), .int x.2.2]
structure LendM where
  row : Int
  start : Int
  turns : Int
  tries : Int
  width : Int
  lent : Int
  F : Int → Option Str
  T : Int → Int
  L : Int → Option Loan
  sz : Nat
def lend0 (r s t n w : Int) : LendM := ⟨r, s, t, n, w, 0, fun _ => none, fun _ => 0, fun _ => none, 0⟩
def lendF (M : LendM) (f t l : Addr) : List (Str × V) := [("row", .int M.row), ("start", .int M.start), ("turns", .int M.turns), ("tries", .int M.tries), ("width", .int M.width), ("lent", .int M.lent), ("fates", .ref f), ("tried", .ref t), ("loans", .ref l)]
/-- what a dict's answer says of a loan -/
def LoanO (H : Hp) : Option Loan → Option V → Prop
  | none, v => v = none
  | some x, v => ∃ t, v = some (.ref t) ∧ H t = some (.tup (loanV x))
/-- what a value says of a loan -/
def LoanVal (H : Hp) : Option Loan → V → Prop
  | none, v => v = .non
  | some x, v => ∃ t, v = .ref t ∧ H t = some (.tup (loanV x))
theorem LoanO.val {H : Hp} {o : Option Loan} {v : Option V} (h : LoanO H o v) : LoanVal H o (v.getD .non) := by
  cases o with
  | none => rw [show v = none from h]; rfl
  | some x => obtain ⟨t, e, ht⟩ := h; exact ⟨t, by rw [e]; rfl, ht⟩
theorem LoanO.chg {A : List Addr} {H H' : Hp} {o : Option Loan} {v : Option V} (c : Chg A H H') (h : LoanO H o v) : LoanO H' o v := by
  cases o with
  | none => exact h
  | some x => obtain ⟨t, e, ht⟩ := h; exact ⟨t, e, c.tup _ _ ht⟩
def fateV : Option Str → V
  | none => .non
  | some z => .str z
structure LendAt (C : Addr) (H : Hp) (r f t l : Addr) (M : LendM) : Prop where
  obj : ∃ dx, H r = some (.ins C dx (lendF M f t l))
  fat : ∃ kvs, H f = some (.dK kvs) ∧ kvs.length ≤ M.sz ∧ (∀ p : Int, valV kvs (.inl p) = (M.F p).map V.str) ∧ ∀ z, valV kvs (.inr z) = none
  tri : ∃ kvs, H t = some (.dK kvs) ∧ kvs.length ≤ M.sz ∧ ∀ p : Int, (valV kvs (.inl p)).getD (.int 0) = .int (M.T p)
  loa : ∃ kvs, H l = some (.dK kvs) ∧ kvs.length ≤ M.sz ∧ (∀ p : Int, LoanO H (M.L p) (valV kvs (.inl p))) ∧ ∀ z, valV kvs (.inr z) = none
  rf : r ≠ f
  rt : r ≠ t
  rl : r ≠ l
  ft : f ≠ t
  fl : f ≠ l
  tl : t ≠ l
theorem LendAt.chg {A : List Addr} {C : Addr} {H H' : Hp} {r f t l : Addr} {M : LendM} (h : LendAt C H r f t l M) (c : Chg A H H') (hr : r ∉ A) (hf : f ∉ A) (ht : t ∉ A) (hl : l ∉ A) : LendAt C H' r f t l M := by
  obtain ⟨dx, e⟩ := h.obj
  obtain ⟨k1, e1, l1, v1, w1⟩ := h.fat
  obtain ⟨k2, e2, l2, v2⟩ := h.tri
  obtain ⟨k3, e3, l3, v3, w3⟩ := h.loa
  exact ⟨⟨dx, c.keep _ _ e hr⟩, ⟨k1, c.keep _ _ e1 hf, l1, v1, w1⟩, ⟨k2, c.keep _ _ e2 ht, l2, v2⟩, ⟨k3, c.keep _ _ e3 hl, l3, fun p => (v3 p).chg c, w3⟩, h.rf, h.rt, h.rl, h.ft, h.fl, h.tl⟩
def LendM.lend (M : LendM) (p : Int) (tk : List Nat) (turn : Int) : LendM :=
  { M with lent := M.lent + 1, L := fun q => if q = p then some (M.lent + 1, tk, turn + M.turns) else M.L q, T := fun q => if q = p then M.T p + 1 else M.T q, sz := M.sz + 1 }
def LendM.back (M : LendM) (p : Int) : LendM := { M with L := fun q => if q = p then none else M.L q }
def LendM.fate (M : LendM) (p : Int) (z : Str) : LendM := { M with L := fun q => if q = p then none else M.L q, F := fun q => if q = p then some z else M.F q, sz := M.sz + 1 }
def LendM.isLent (M : LendM) (p turn : Int) : Bool := match M.L p with
  | some x => decide (turn < x.2.2)
  | none => false
def sp_l_init (C : Addr) : Sp := fun vs H Q _ => ∃ (x dx : Addr) (r s t n w : Int), vs = [.ref x, .int r, .int s, .int t, .int n, .int w] ∧ H x = some (.ins C dx []) ∧
  ∀ f u l H', H f = none → H u = none → H l = none → Chg [x] H H' → LendAt C H' x f u l (lend0 r s t n w) → Q .non H'
def sp_l_lend (C : Addr) : Sp := fun vs H Q _ => ∃ (r f t l : Addr) (M : LendM) (p : Int) (tk : List Nat) (turn : Int), vs = [.ref r, .int p, .str (S tk), .int turn] ∧ LendAt C H r f t l M ∧ M.sz ≤ 100000 ∧
  ∀ H', Chg [r, t, l] H H' → LendAt C H' r f t l (M.lend p tk turn) → Q (.int (M.lent + 1)) H'
def sp_l_next (C : Addr) : Sp := fun vs H Q _ => ∃ (r f t l : Addr) (M : LendM), vs = [.ref r] ∧ LendAt C H r f t l M ∧ Q (.int (M.lent + 1)) H
def sp_l_loan_at (C : Addr) : Sp := fun vs H Q _ => ∃ (r f t l : Addr) (M : LendM) (p : Int), vs = [.ref r, .int p] ∧ LendAt C H r f t l M ∧ ∀ v, LoanVal H (M.L p) v → Q v H
def sp_l_tried_at (C : Addr) : Sp := fun vs H Q _ => ∃ (r f t l : Addr) (M : LendM) (p : Int), vs = [.ref r, .int p] ∧ LendAt C H r f t l M ∧ Q (.int (M.T p)) H
def sp_l_fate_at (C : Addr) : Sp := fun vs H Q _ => ∃ (r f t l : Addr) (M : LendM) (p : Int), vs = [.ref r, .int p] ∧ LendAt C H r f t l M ∧ Q (fateV (M.F p)) H
def sp_l_back (C : Addr) : Sp := fun vs H Q _ => ∃ (r f t l : Addr) (M : LendM) (p : Int), vs = [.ref r, .int p] ∧ LendAt C H r f t l M ∧ ∀ H', Chg [l] H H' → LendAt C H' r f t l (M.back p) → Q .non H'
def sp_l_fate (C : Addr) (z : Str) : Sp := fun vs H Q _ => ∃ (r f t l : Addr) (M : LendM) (p : Int), vs = [.ref r, .int p] ∧ LendAt C H r f t l M ∧ M.sz ≤ 100000 ∧ ∀ H', Chg [f, l] H H' → LendAt C H' r f t l (M.fate p z) → Q .non H'
def sp_l_place_of (C : Addr) : Sp := fun vs H Q _ => ∃ (r f t l : Addr) (M : LendM) (p turn : Int) (x : Loan), vs = [.ref r, .int x.1, .int turn] ∧ LendAt C H r f t l M ∧ M.L p = some x ∧ 1 ≤ x.1 ∧ turn < x.2.2 ∧
  (∀ q y, M.L q = some y → y.1 = x.1 → q = p) ∧ ∀ H', Same H H' → Q (.int p) H'
def sp_l_is_lent (C : Addr) : Sp := fun vs H Q _ => ∃ (r f t l : Addr) (M : LendM) (p turn : Int), vs = [.ref r, .int p, .int turn] ∧ LendAt C H r f t l M ∧ Q (.bl (M.isLent p turn)) H
end L2

set_option Elab.async false
set_option linter.all false
set_option maxRecDepth 100000
set_option maxHeartbeats 4000000
namespace L2
open PySem PySem.Spec PyProof.Rows
/-! ### tables of letters -/
/-- place, key, word -/
abbrev L3 := Int × List Nat × Option (List Nat)
def l3V (x : L3) : List V := [.int x.1, .str (S x.2.1), wV x.2.2]
def lastW : List L3 → List Nat → Option (Option (List Nat))
  | [], _ => none
  | x :: r, k => match lastW r k with
    | some y => some y
    | none => if x.2.1 = k then some x.2.2 else none
theorem lastW_app (a b : List L3) (k : List Nat) : lastW (a ++ b) k = match lastW b k with
    | some y => some y
    | none => lastW a k := by
  induction a with
  | nil => rw [List.nil_append]; cases lastW b k <;> rfl
  | cons x r ih =>
    rw [List.cons_append, lastW, ih]
    cases hb : lastW b k with
    | some y => rfl
    | none => rw [lastW]
theorem lastW_snoc (a : List L3) (x : L3) (k : List Nat) : lastW (a ++ [x]) k = if x.2.1 = k then some x.2.2 else lastW a k := by
  rw [lastW_app]
  by_cases h : x.2.1 = k
  · rw [if_pos h]; simp [lastW, h]
  · rw [if_neg h]; simp [lastW, h]
/-- the word that a table of the letters has for a key -/
def wordAt (l : List L3) (k : List Nat) : Option (List Nat) := (lastW l k).join
def NdK (kvs : List (Key × V)) : Prop := (kvs.map (·.1)).Nodup
theorem nd_sub_len {α : Type} [DecidableEq α] : ∀ {l m : List α}, l.Nodup → (∀ x ∈ l, x ∈ m) → l.length ≤ m.length
  | [], m, _, _ => Nat.zero_le _
  | a :: r, m, h, s => by
    rw [List.nodup_cons] at h
    have ha : a ∈ m := s a List.mem_cons_self
    have ih := nd_sub_len (l := r) (m := m.erase a) h.2 fun x hx => (List.mem_erase_of_ne (fun (z : x = a) => h.1 (by rw [← z]; exact hx))).mpr (s x (List.mem_cons_of_mem _ hx))
    rw [List.length_erase_of_mem ha] at ih
    have : 0 < m.length := List.length_pos_of_mem ha
    rw [List.length_cons]
    omega
theorem NdK.nil : NdK [] := List.nodup_nil
theorem NdK.put {kvs : List (Key × V)} (h : NdK kvs) (k : Key) (v : V) : NdK (putK kvs k v) := by
  unfold putK
  by_cases a : (kvs.any fun kv => decide (kv.1 = k)) = true
  · rw [if_pos a]
    unfold NdK
    rw [List.map_map]
    have e : ((fun x : Key × V => x.1) ∘ fun kv : Key × V => if kv.1 = k then (kv.1, v) else kv) = fun x => x.1 := by
      funext x
      show (if x.1 = k then (x.1, v) else x).1 = x.1
      split <;> rfl
    rw [e]
    exact h
  · rw [if_neg a]
    unfold NdK
    rw [List.map_append, List.nodup_append]
    refine ⟨h, by simp, fun x hx y hy => ?_⟩
    have hy' : y = k := by simpa using hy
    subst hy'
    rintro rfl
    obtain ⟨p, hp, e⟩ := List.mem_map.mp hx
    exact a (List.any_eq_true.mpr ⟨p, hp, decide_eq_true e⟩)
theorem NdK.drop {kvs : List (Key × V)} (h : NdK kvs) (k : Key) : NdK (dropK kvs k) := by
  unfold NdK dropK
  exact List.Nodup.sublist (List.Sublist.map _ List.filter_sublist) h
/-- two tables with the same keys have one length -/
theorem NdK.len {a b : List (Key × V)} (ha : NdK a) (hb : NdK b) (h : ∀ k, (valV a k).isSome = (valV b k).isSome) : a.length = b.length := by
  have sub : ∀ {x y : List (Key × V)}, (∀ k, (valV x k).isSome = (valV y k).isSome) → ∀ k, k ∈ x.map (·.1) → k ∈ y.map (·.1) := by
    intro x y h k hk
    have h1 : (valV x k).isSome = true := by
      cases e : valV x k with
      | none => exact absurd hk (valV_not e)
      | some v => rfl
    rw [h k] at h1
    obtain ⟨v, hv⟩ := Option.isSome_iff_exists.mp h1
    exact valV_in hv
  have l1 : (a.map (·.1)).length ≤ (b.map (·.1)).length := nd_sub_len ha fun k hk => sub h k hk
  have l2 : (b.map (·.1)).length ≤ (a.map (·.1)).length := nd_sub_len hb fun k hk => sub (fun k => (h k).symm) k hk
  simp only [List.length_map] at l1 l2
  omega
/-- a dict that is the table of these letters -/
structure TabOf (H : Hp) (d : Addr) (f : List Nat → Option (List Nat)) (n : Nat) : Prop where
  dict : ∃ kvs, H d = some (.dK kvs) ∧ kvs.length ≤ n ∧ NdK kvs ∧ (∀ k : List Nat, valV kvs (.inr (S k)) = (f k).map fun z => V.str (S z)) ∧ ∀ i : Int, valV kvs (.inl i) = none
end L2

set_option Elab.async false
set_option linter.all false
set_option maxRecDepth 100000
set_option maxHeartbeats 4000000
namespace L2
open PySem PySem.Spec PyProof.Rows
/-! ### slices by places -/
theorem cutV_pre (l : List V) (k : Nat) : cutV l none (some (k : Int)) = l.take k := by
  unfold cutV
  rw [HT.sIx_nat, HT.sIx_none, List.drop_zero, Nat.sub_zero]
  by_cases h : k ≤ l.length
  · rw [Nat.min_eq_left h]
  · rw [Nat.min_eq_right (by omega), List.take_of_length_le (Nat.le_refl _), List.take_of_length_le (by omega)]
theorem cutV_suf (l : List V) (k : Nat) : cutV l (some (k : Int)) none = l.drop k := by
  unfold cutV
  rw [HT.sIx_nat, HT.sIx_none]
  by_cases h : k ≤ l.length
  · rw [Nat.min_eq_left h, List.take_of_length_le (by rw [List.length_drop]; omega)]
  · rw [Nat.min_eq_right (by omega), List.drop_of_length_le (Nat.le_refl _), List.drop_of_length_le (by omega), List.take_nil]
end L2

set_option Elab.async false
set_option linter.all false
set_option maxRecDepth 100000
set_option maxHeartbeats 4000000
namespace L2
open PySem PySem.Spec PyProof.Rows
/-! ### comprehensions over lists of tuples -/
def tupV (H : Hp) : V → List V
  | .ref t => match H t with
    | some (.tup xs) => xs
    | _ => []
  | _ => []
theorem TupsAt.comp {H : Hp} {ts : List Addr} {rows : List (List V)} (h : TupsAt H ts rows) (q : List V → Bool) (g : List V → V) : ((ts.map V.ref).filter fun x => q (tupV H x)).map (fun x => g (tupV H x)) = (rows.filter q).map g := by
  unfold TupsAt at h
  induction h with
  | nil => rfl
  | @cons t xs ts' rows' e _ ih =>
    have et : tupV H (.ref t) = xs := by simp only [tupV, e]
    simp only [List.map_cons, List.filter_cons, et]
    cases q xs with
    | true => simp only [if_true, List.map_cons, et]; rw [ih]
    | false => simpa using ih
theorem TupsAt.mem {H : Hp} {ts : List Addr} {rows : List (List V)} (h : TupsAt H ts rows) {x : V} (hx : x ∈ ts.map V.ref) : ∃ t xs, x = .ref t ∧ xs ∈ rows ∧ H t = some (.tup xs) := by
  obtain ⟨t, ht, rfl⟩ := List.mem_map.mp hx
  obtain ⟨i, hi⟩ := List.getElem?_of_mem ht
  obtain ⟨xs, h1, h2⟩ := h.get hi
  exact ⟨t, xs, rfl, List.mem_of_getElem? h1, h2⟩
theorem compW_tupsIf {K : PySem.W.Frag} {tt : TT} {te : TE} {σ : St} {H : Hp} {Q : VK} {a : Addr} {rows : List (List V)} (hl : LTups H a rows) (hn : rows.length ≤ sizeLine) (q : List V → Bool) (g : List V → V)
    (ht : ∀ t xs H', xs ∈ rows → Same H H' → H' t = some (.tup xs) → ∀ Qt : Bool → Hp → Prop, (∀ H'', Same H' H'' → Qt (q xs) H'') → tt (some (.ref t) :: σ) H' Qt)
    (he : ∀ t xs H', xs ∈ rows → Same H H' → H' t = some (.tup xs) → ∀ Qe : VK, (∀ H'', Same H' H'' → Qe (g xs) H'') → te (some (.ref t) :: σ) H' Qe)
    (hd : ∀ D H', H D = none → Same H H' → H' D = some (.lst ((rows.filter q).map g)) → Q (.ref D) H') : compW (Itl K a) tt te σ H Q := by
  obtain ⟨ts, e, hT⟩ := hl
  refine compW_listIf (xs := ts.map V.ref) (.inl (.inl e)) (by rw [List.length_map, hT.length]; exact hn) (fun x => q (tupV H x)) (fun x => g (tupV H x)) ?_ ?_ ?_
  · intro x H' hx s Qt qt
    obtain ⟨t, xs, rfl, hm, h1⟩ := hT.mem hx
    have et : tupV H (.ref t) = xs := by simp only [tupV, h1]
    rw [et] at qt
    exact ht t xs H' hm s (s _ _ h1) Qt qt
  · intro x H' hx _ s Qe qe
    obtain ⟨t, xs, rfl, hm, h1⟩ := hT.mem hx
    have et : tupV H (.ref t) = xs := by simp only [tupV, h1]
    rw [et] at qe
    exact he t xs H' hm s (s _ _ h1) Qe qe
  · intro D H' hD s h
    refine hd D H' hD s ?_
    rw [h, hT.comp]
theorem compW_tups {K : PySem.W.Frag} {te : TE} {σ : St} {H : Hp} {Q : VK} {a : Addr} {rows : List (List V)} (hl : LTups H a rows) (hn : rows.length ≤ sizeLine) (g : List V → V)
    (he : ∀ t xs H', xs ∈ rows → Same H H' → H' t = some (.tup xs) → ∀ Qe : VK, (∀ H'', Same H' H'' → Qe (g xs) H'') → te (some (.ref t) :: σ) H' Qe)
    (hd : ∀ D H', H D = none → Same H H' → H' D = some (.lst (rows.map g)) → Q (.ref D) H') : compW (Itl K a) tYes te σ H Q :=
  compW_tupsIf hl hn (fun _ => true) g (fun t xs H' _ s _ Qt qt => qt H' (Same.refl _)) he (fun D H' h s e => hd D H' h s (by rw [filter_true] at e; exact e))

/-! ### things, texts, names -/
inductive Thg (H : Hp) : V → Prop
  | non : Thg H .non
  | bl (b : Bool) : Thg H (.bl b)
  | int (i : Int) : Thg H (.int i)
  | str (l : List Nat) (h : l.length ≤ 1000) : Thg H (.str (S l))
  | lst {p : Addr} {xs : List V} (h : H p = some (.lst xs)) : Thg H (.ref p)
  | tup {p : Addr} {xs : List V} (h : H p = some (.tup xs)) : Thg H (.ref p)
def textV (x : V) (lo hi : Int) : Bool := match x with
  | .str z => decide (lo ≤ z.length) && decide ((z.length : Int) ≤ hi)
  | _ => false
def formV (x : V) (lo hi : Int) (p : Nat → Bool) : Bool := match x with
  | .str z => decide (lo ≤ z.length) && (decide ((z.length : Int) ≤ hi) && z.cps.toList.all p)
  | _ => false
def wholeV (x : V) (lo hi : Int) : Bool := match x with
  | .int i => decide (lo ≤ i) && decide (i ≤ hi)
  | _ => false
def T36 : List Nat := [97, 98, 99, 100, 101, 102, 103, 104, 105, 106, 107, 108, 109, 110, 111, 112, 113, 114, 115, 116, 117, 118, 119, 120, 121, 122, 48, 49, 50, 51, 52, 53, 54, 55, 56, 57]
theorem T36_is : (Str.ofString "abcdefghijklmnopqrstuvwxyz0123456789") = S T36 := by decide +kernel
def inN (c : Nat) : Bool := decide (c ∈ T36)
def sp_is_text : Sp := fun vs H Q _ => ∃ (x : V) (lo hi : Int), vs = [x, .int lo, .int hi] ∧ Thg H x ∧ Q (.bl (textV x lo hi)) H
def sp_is_name : Sp := fun vs H Q _ => ∃ x : V, vs = [x] ∧ Thg H x ∧ ∀ H', Same H H' → Q (.bl (formV x 1 12 inN)) H'
def sp_is_whole : Sp := fun vs H Q _ => ∃ (x : V) (lo hi : Int), vs = [x, .int lo, .int hi] ∧ Thg H x ∧ Q (.bl (wholeV x lo hi)) H
/-! ### the spread of a key -/
def foldK (l : List Nat) : Int := l.foldl (fun (h : Int) (c : Nat) => Builtin.bitAnd (h * 37 + (c : Int)) 65535) 1
def sprN (l : List Nat) : Int := Builtin.bitXor (foldK l) (foldK l / 2 ^ (8 : Int).toNat)
/-! ### shelves -/
structure Shf where
  name : List Nat
  rows : Nat
  kind : Str
def Shf.v (x : Shf) : List V := [.str (S x.name), .int x.rows, .str x.kind]
def okShf (x : Shf) : Prop := (1 ≤ x.name.length ∧ x.name.length ≤ 12 ∧ x.name.all inN = true) ∧ (1 ≤ x.rows ∧ x.rows ≤ 9) ∧ (x.kind = Str.ofString "table" ∨ x.kind = Str.ofString "stream")
structure OkShfs (xs : List Shf) : Prop where
  lo : 1 ≤ xs.length
  hi : xs.length ≤ 6
  each : ∀ x ∈ xs, okShf x
  nd : (xs.map Shf.name).Nodup
structure ShAt (C : Addr) (H : Hp) (s l : Addr) (xs : List Shf) : Prop where
  obj : ∃ dx, H s = some (.ins C dx [("shelves", .ref l)])
  lst : LTups H l (xs.map Shf.v)
theorem ShAt.chg {A : List Addr} {C : Addr} {H H' : Hp} {s l : Addr} {xs : List Shf} (h : ShAt C H s l xs) (c : Chg A H H') (hs : s ∉ A) (hl : l ∉ A) : ShAt C H' s l xs := by
  obtain ⟨dx, e⟩ := h.obj
  exact ⟨⟨dx, c.keep _ _ e hs⟩, h.lst.chg c hl⟩
def startOf (xs : List Shf) (k : Nat) : Nat := ((xs.take k).map Shf.rows).sum
def sp_is_kind : Sp := fun vs H Q _ => ∃ z : Str, vs = [.str z] ∧ (z = Str.ofString "table" ∨ z = Str.ofString "stream") ∧ Q (.bl true) H
def sp_is_shelf : Sp := fun vs H Q _ => ∃ (t : Addr) (x : Shf), vs = [.ref t] ∧ H t = some (.tup x.v) ∧ okShf x ∧ ∀ H', Same H H' → Q (.bl true) H'
def sp_are_shelves : Sp := fun vs H Q _ => ∃ (p : Addr) (xs : List Shf), vs = [.ref p] ∧ LTups H p (xs.map Shf.v) ∧ OkShfs xs ∧ ∀ H', Same H H' → Q (.bl true) H'
def sp_sh_init (C : Addr) : Sp := fun vs H Q _ => ∃ (x dx p : Addr) (xs : List Shf), vs = [.ref x, .ref p] ∧ H x = some (.ins C dx []) ∧ LTups H p (xs.map Shf.v) ∧ OkShfs xs ∧ ∀ l H', H l = none → Chg [x] H H' → ShAt C H' x l xs → Q .non H'
def sp_sh_many (C : Addr) : Sp := fun vs H Q _ => ∃ (s l : Addr) (xs : List Shf), vs = [.ref s] ∧ ShAt C H s l xs ∧ xs.length ≤ 1000 ∧ ∀ H', Same H H' → Q (.int (startOf xs xs.length)) H'
def sp_sh_rows_of (C : Addr) : Sp := fun vs H Q _ => ∃ (s l : Addr) (xs : List Shf) (k : Nat) (x : Shf), vs = [.ref s, .str (S x.name)] ∧ ShAt C H s l xs ∧ OkShfs xs ∧ xs[k]? = some x ∧ ∀ D H', H D = none → Same H H' → H' D = some (.lst (rngV (startOf xs k) x.rows)) → Q (.ref D) H'
def rowNo (xs : List Shf) (k : Nat) (x : Shf) (key : List Nat) : Nat := startOf xs k + (sprN key % (x.rows : Int)).toNat
def sp_sh_row_for (C : Addr) : Sp := fun vs H Q _ => ∃ (s l : Addr) (xs : List Shf) (k : Nat) (x : Shf) (key : List Nat), vs = [.ref s, .str (S x.name), .str (S key)] ∧ ShAt C H s l xs ∧ OkShfs xs ∧ xs[k]? = some x ∧ ∀ H', Same H H' → Q (.int (rowNo xs k x key)) H'
def sp_spread : Sp := fun vs H Q _ => ∃ l : List Nat, vs = [.str (S l)] ∧ Q (.int (sprN l)) H
def sp_row_in : Sp := fun vs H Q _ => ∃ (l : List Nat) (m : Int), vs = [.str (S l), .int m] ∧ 0 < m ∧ Q (.int (sprN l % m)) H

/-! ### rows told by a list of letters put there in turn -/
abbrev KW := List Nat × List Nat
def rowOf (c : List KW) : RowM := ⟨0, c.length, 0, fun p => if 0 ≤ p then (c[p.toNat]?).map fun x => (x.1, some x.2, 0) else none⟩
def seenV (c : List KW) (k : Nat) : List (List V) := (c.zipIdx k).map fun y => [.int (y.2 : Nat), .str (S y.1.1), .str (S y.1.2)]
def it (i : Nat) (xs : List V) : V := xs.getD i .non
def kwV (x : KW) : List V := [.str (S x.1), .str (S x.2)]
structure RowsAt (C : Addr) (H : Hp) (R : Addr) (rs : List (Addr × Addr)) (f : Nat → List KW) : Prop where
  lst : H R = some (.lst (rs.map fun y => V.ref y.1))
  row : ∀ (i : Nat) r d, rs[i]? = some (r, d) → RowAt C H r d (rowOf (f i))
theorem RowsAt.same {C : Addr} {H H' : Hp} {R : Addr} {rs : List (Addr × Addr)} {f : Nat → List KW} (h : RowsAt C H R rs f) (s : Same H H') : RowsAt C H' R rs f :=
  ⟨s _ _ h.lst, fun i r d e => (h.row i r d e).chg (A := []) (Chg.of_same s) (by simp) (by simp)⟩
def ofKey (P : List KW) (key : List Nat) : List V := (P.filter fun x => decide (x.1 = key)).map fun x => .str (S x.2)
def sp_of_key : Sp := fun vs H Q _ => ∃ (p : Addr) (P : List KW) (key : List Nat), vs = [.ref p, .str (S key)] ∧ LTups H p (P.map kwV) ∧ P.length ≤ 1000 ∧ ∀ D H', H D = none → Same H H' → H' D = some (.lst (ofKey P key)) → Q (.ref D) H'
/-- the letters of a shelf stand in its own rows by their keys -/
structure Parted (P : List KW) (f : Nat → List KW) (lo n : Nat) : Prop where
  pos : 0 < n
  each : ∀ i, lo ≤ i → i < lo + n → f i = P.filter fun x => decide (lo + (sprN x.1 % (n : Int)).toNat = i)
  few : P.length ≤ 63
  ok : ∀ x ∈ P, okS x.1 ∧ okS x.2
def sp_shelf_holds (C : Addr) : Sp := fun vs H Q _ => ∃ (R N p kl : Addr) (rs : List (Addr × Addr)) (f : Nat → List KW) (P : List KW) (lo n : Nat) (keys : List (List Nat)), vs = [.ref R, .ref N, .ref p, .ref kl] ∧ RowsAt C H R rs f ∧ H N = some (.lst (rngV lo n)) ∧
  LTups H p (P.map kwV) ∧ H kl = some (.lst (keys.map fun l => .str (S l))) ∧ keys.length ≤ 100 ∧ lo + n ≤ rs.length ∧ n ≤ 9 ∧ Parted P f lo n ∧ ∀ H', Same H H' → Q (.bl true) H'
def ltr36 (n : Int) : Nat := T36.getD (n % 36).toNat 0
theorem ltr36_at (n : Int) : T36[(n % 36).toNat]? = some (ltr36 n) := by
  have h : (n % 36).toNat < T36.length := by
    show (n % 36).toNat < 36
    omega
  unfold ltr36
  rw [List.getD_eq_getElem?_getD, List.getElem?_eq_getElem h]
  rfl
theorem ltr36_inj {n m : Int} (h : ltr36 n = ltr36 m) : n % 36 = m % 36 := by
  have hn : T36.Nodup := by decide
  have h1 := ltr36_at n
  have h2 := ltr36_at m
  rw [h] at h1
  obtain ⟨i1, e1⟩ := List.getElem?_eq_some_iff.mp h1
  obtain ⟨i2, e2⟩ := List.getElem?_eq_some_iff.mp h2
  have hp := List.pairwise_iff_getElem.mp hn
  rcases Nat.lt_trichotomy (n % 36).toNat (m % 36).toNat with z | z | z
  · exact absurd (e1.trans e2.symm) (hp _ _ i1 i2 z)
  · omega
  · exact absurd (e2.trans e1.symm) (hp _ _ i2 i1 z)
def sp_wholeI : Sp := fun vs H Q _ => ∃ x y : Int, vs = [.int x, .int y] ∧ Q (.bl (decide (x = y))) H
def sp_letter : Sp := fun vs H Q _ => ∃ n : Int, vs = [.int n] ∧ Q (.str (S [ltr36 n])) H
def sp_names : Sp := fun vs H Q _ => ∃ (c m : Int), vs = [.int c, .int m] ∧ 1 ≤ m ∧ m ≤ 36 ∧ ∀ D H' (ns : List (List Nat)), H D = none → Same H H' → H' D = some (.lst (ns.map fun l => .str (S l))) → ns.length = m.toNat →
  (∀ l ∈ ns, 1 ≤ l.length ∧ l.length ≤ 12 ∧ l.all inN = true) → ns.Nodup → Q (.ref D) H'
def sp_keys : Sp := fun vs H Q _ => ∃ c : Int, vs = [.int c] ∧ ∀ D H' (ks : List (List Nat)), H D = none → Same H H' → H' D = some (.lst (ks.map fun l => .str (S l))) → ks.length = 12 → (∀ l ∈ ks, okS l ∧ l.length ≤ 24) → Q (.ref D) H'
/-! ### comprehensions whose items are made anew -/
def addrs (rs : List (Addr × Addr)) : List Addr := rs.flatMap fun y => [y.1, y.2]
/-- a letter more: it comes into the row of its key, and the other shelves' rows stay -/
theorem Parted.put {P : List KW} {f : Nat → List KW} {lo n : Nat} (h : Parted P f lo n) (x : KW) (hf : P.length < 63) (ok : okS x.1 ∧ okS x.2) :
    Parted (P ++ [x]) (fun i => if i = lo + (sprN x.1 % (n : Int)).toNat then f i ++ [x] else f i) lo n := by
  refine ⟨h.pos, fun i h1 h2 => ?_, by simp; omega, fun y hy => ?_⟩
  · show (if i = lo + (sprN x.1 % (n : Int)).toNat then f i ++ [x] else f i) = _
    rw [List.filter_append, ← h.each i h1 h2]
    by_cases e : i = lo + (sprN x.1 % (n : Int)).toNat
    · rw [if_pos e]
      simp [e]
    · rw [if_neg e]
      have e' : ¬ lo + (sprN x.1 % (n : Int)).toNat = i := fun z => e z.symm
      simp [e']
  · rcases List.mem_append.mp hy with z | z
    · exact h.ok y z
    · rw [List.mem_singleton.mp z]; exact ok
theorem Parted.other {P : List KW} {f g : Nat → List KW} {lo n : Nat} (h : Parted P f lo n) (e : ∀ i, lo ≤ i → i < lo + n → g i = f i) : Parted P g lo n :=
  ⟨h.pos, fun i h1 h2 => (e i h1 h2).trans (h.each i h1 h2), h.few, h.ok⟩
def shf (c : Int) (i : Nat) (n : List Nat) : Shf := ⟨n, (1 + mixN c (6 + (i : Int)) % 9).toNat, if i % 2 = 0 then Str.ofString "table" else Str.ofString "stream"⟩
def mkS (c : Int) (ns : List (List Nat)) : List Shf := ns.mapIdx fun i n => shf c i n
end L2

set_option Elab.async false
set_option linter.all false
set_option maxRecDepth 100000
set_option maxHeartbeats 4000000
namespace L2
open PySem PySem.Spec PyProof.Rows
/-! ### what the laws of the lending share -/
/-- the mixed cell at a place -/
def cellN (ns : List Int) (k : Int) : Int := mixN (if k < (ns.length : Int) then ns.getD k.toNat 0 else 104729 * k + 7) k
def sp_cellN (K : PySem.W.Frag) : Sp := fun vs H Q _ => ∃ (p : Addr) (ns : List Int) (k : Int), vs = [.ref p, .int k] ∧ SqL K H p (ns.map V.int) ∧ 0 ≤ k ∧ Q (.int (cellN ns k)) H
def manyN (ns : List Int) (f m : Int) : Int := min m (max (cellN ns (f - 1) / 7 % (m + 1)) ((ns.length : Int) - f))
def sp_many (K : PySem.W.Frag) : Sp := fun vs H Q _ => ∃ (p : Addr) (ns : List Int) (f m : Int), vs = [.ref p, .int f, .int m] ∧ SqL K H p (ns.map V.int) ∧ 1 ≤ f ∧ 0 ≤ m ∧ Q (.int (manyN ns f m)) H
def sp_namesL : Sp := fun vs H Q _ => ∃ (c o m : Int), vs = [.int c, .int o, .int m] ∧ 0 ≤ c ∧ 0 ≤ o ∧ 0 ≤ m ∧ m ≤ 36 ∧ ∀ D H' (ns : List (List Nat)), H D = none → Same H H' → (ns.length : Int) = m → H' D = some (.lst (ns.map fun l => V.str (S l))) → Q (.ref D) H'
def sp_loan_eq : Sp := fun vs H Q _ => ∃ (v u : V) (o : Option Loan), vs = [v, u] ∧ LoanVal H o v ∧ LoanVal H o u ∧ Q (.bl true) H
end L2

set_option Elab.async false
set_option linter.all false
set_option maxRecDepth 100000
set_option maxHeartbeats 4000000
namespace L2
open PySem PySem.Spec PyProof.Rows
/-! ### tables, by their pairs -/
structure TabK (kvs : List (Key × V)) (f : List Nat → Option (List Nat)) (n : Nat) : Prop where
  len : kvs.length ≤ n
  nd : NdK kvs
  val : ∀ k : List Nat, valV kvs (.inr (S k)) = (f k).map fun z => V.str (S z)
  int : ∀ i : Int, valV kvs (.inl i) = none
theorem TabK.nil : TabK [] (fun _ => none) 0 := ⟨Nat.le_refl _, NdK.nil, fun _ => rfl, fun _ => rfl⟩
theorem inr_S {q k : List Nat} : (Sum.inr (S q) : Key) = Sum.inr (S k) ↔ q = k := ⟨fun h => S_inj (Sum.inr.inj h), fun h => by rw [h]⟩
theorem TabK.put {kvs : List (Key × V)} {f : List Nat → Option (List Nat)} {n : Nat} (h : TabK kvs f n) (k w : List Nat) : TabK (putK kvs (.inr (S k)) (.str (S w))) (fun q => if q = k then some w else f q) (n + 1) := by
  refine ⟨?_, h.nd.put _ _, fun q => ?_, fun i => ?_⟩
  · have := length_putK kvs (.inr (S k) : Key) (.str (S w)); have := h.len; omega
  · rw [valV_put]
    by_cases e : q = k
    · rw [if_pos (inr_S.mpr e), if_pos e]; rfl
    · rw [if_neg (fun z => e (inr_S.mp z)), if_neg e]; exact h.val q
  · rw [valV_put, if_neg (by intro z; cases z)]; exact h.int i
theorem TabK.drop {kvs : List (Key × V)} {f : List Nat → Option (List Nat)} {n : Nat} (h : TabK kvs f n) (k : List Nat) : TabK (dropK kvs (.inr (S k))) (fun q => if q = k then none else f q) n := by
  refine ⟨Nat.le_trans (dropK_le _ _) h.len, h.nd.drop _, fun q => ?_, fun i => ?_⟩
  · rw [valV_drop]
    by_cases e : q = k
    · rw [if_pos (inr_S.mpr e), if_pos e]; rfl
    · rw [if_neg (fun z => e (inr_S.mp z)), if_neg e]; exact h.val q
  · rw [valV_drop, if_neg (by intro z; cases z)]; exact h.int i
theorem TabK.mono {kvs : List (Key × V)} {f g : List Nat → Option (List Nat)} {n m : Nat} (h : TabK kvs f n) (e : ∀ q, f q = g q) (hn : n ≤ m) : TabK kvs g m := ⟨Nat.le_trans h.len hn, h.nd, fun k => by rw [← e k]; exact h.val k, h.int⟩
/-- a dict that is such a table -/
def Tab (H : Hp) (d : Addr) (f : List Nat → Option (List Nat)) (n : Nat) : Prop := ∃ kvs, H d = some (.dK kvs) ∧ TabK kvs f n
theorem Tab.same {H H' : Hp} {d : Addr} {f : List Nat → Option (List Nat)} {n : Nat} (h : Tab H d f n) (s : Same H H') : Tab H' d f n := let ⟨kvs, e, t⟩ := h; ⟨kvs, s _ _ e, t⟩
theorem Tab.chg {A : List Addr} {H H' : Hp} {d : Addr} {f : List Nat → Option (List Nat)} {n : Nat} (h : Tab H d f n) (c : Chg A H H') (hd : d ∉ A) : Tab H' d f n := let ⟨kvs, e, t⟩ := h; ⟨kvs, c.keep _ _ e hd, t⟩
theorem Tab.ne {H : Hp} {d e : Addr} {f : List Nat → Option (List Nat)} {n : Nat} (h : Tab H d f n) (he : H e = none) : d ≠ e := fun z => by
  obtain ⟨kvs, hk, _⟩ := h
  rw [z, he] at hk
  cases hk
theorem TupsAt.drop {H : Hp} {ts : List Addr} {rows : List (List V)} (h : TupsAt H ts rows) (n : Nat) : TupsAt H (ts.drop n) (rows.drop n) := by
  unfold TupsAt at h ⊢
  induction h generalizing n with
  | nil => simp; exact .nil
  | cons r t ih =>
    cases n with
    | zero => exact .cons r t
    | succ n => exact ih n
def sp_table (K : PySem.W.Frag) : Sp := fun vs H Q _ => ∃ (p : Addr) (ls : List L3), vs = [.ref p] ∧ LTups H p (ls.map l3V) ∧ ls.length ≤ 100 ∧ ∀ D H', H D = none → Same H H' → Tab H' D (wordAt ls) ls.length → Q (.ref D) H'
def sp_is_table : Sp := fun vs H Q _ => ∃ (d e : Addr) (f : List Nat → Option (List Nat)) (n m : Nat), vs = [.ref d, .ref e] ∧ Tab H d f n ∧ Tab H e f m ∧ d ≠ e ∧ ∀ H', Same H H' → Q (.bl true) H'
def sp_sign94 : Sp := fun vs H Q _ => ∃ n : Int, vs = [.int n] ∧ Q (.str (S [sgn n 94])) H
def sp_keysT : Sp := fun vs H Q _ => ∃ (c m : Int), vs = [.int c, .int m] ∧ 0 ≤ m ∧ m ≤ 36 ∧ ∀ D H' (ks : List (List Nat)), H D = none → Same H H' → (ks.length : Int) = m → (∀ k ∈ ks, okS k) → H' D = some (.lst (ks.map fun l => V.str (S l))) → Q (.ref D) H'
def sp_word : Sp := fun vs H Q _ => ∃ c : Int, vs = [.int c] ∧ ∀ w : List Nat, okS w → Q (.str (S w)) H
theorem inV_strs (k : List Nat) (ks : List (List Nat)) : inV (.str (S k)) (ks.map fun l => V.str (S l)) = decide (k ∈ ks) := by
  unfold inV
  induction ks with
  | nil => rfl
  | cons x r ih =>
    rw [List.map_cons, List.any_cons, ih]
    show ((S x == S k) || decide (k ∈ r)) = _
    by_cases e : k = x
    · subst e; simp
    · have e1 : (S x == S k) = false := by
        rw [beq_eq_false_iff_ne]
        exact fun z => e (S_inj z).symm
      rw [e1]
      simp [e]
theorem LTups.at {K : PySem.W.Frag} {H : Hp} {p : Addr} {rows : List (List V)} (h : LTups H p rows) : ∃ ts : List Addr, SqL K H p (ts.map V.ref) ∧ ts.length = rows.length ∧ ∀ (i : Nat) (x : V), (ts.map V.ref)[i]? = some x → ∃ t r, x = .ref t ∧ rows[i]? = some r ∧ H t = some (.tup r) := by
  obtain ⟨ts, h1, h2⟩ := h
  refine ⟨ts, .inl (.inl h1), h2.length, fun i x hx => ?_⟩
  rw [List.getElem?_map] at hx
  cases e : ts[i]? with
  | none => rw [e] at hx; cases hx
  | some t =>
    rw [e] at hx
    obtain ⟨r, hr, ht⟩ := h2.get e
    exact ⟨t, r, (Option.some.inj hx).symm, hr, ht⟩
theorem same_back {H H' : Hp} {b : Addr} (s : Same H H') (h : H' b = none) : H b = none := by
  cases e : H b with
  | none => rfl
  | some o => rw [s _ _ e] at h; cases h
theorem Same.wr {H H' : Hp} {b : Addr} {o : HO} (s : Same H H') (h : H b = none) : Same H (L2.upd H' b o) := fun c u hc => (upd_ne (ne_of_none hc h)).trans (s c u hc)
def okL3 (x : L3) : Prop := okS x.2.1 ∧ ∀ w, x.2.2 = some w → okS w
end L2

set_option Elab.async false
set_option linter.all false
set_option maxRecDepth 100000
set_option maxHeartbeats 4000000
namespace L2
open PySem PySem.Spec PyProof.Rows
/-! ### plain things: None, texts, ints, lists and tuples of these -/
def Pl (H : Hp) : Nat → V → Prop
  | _, .non => True
  | _, .int _ => True
  | _, .str _ => True
  | n + 1, .ref a => ∃ xs, (H a = some (.lst xs) ∨ H a = some (.tup xs)) ∧ ∀ x ∈ xs, Pl H n x
  | _, _ => False
theorem Pl.same {H H' : Hp} (s : Same H H') : ∀ {n : Nat} {v : V}, Pl H n v → Pl H' n v := by
  intro n
  induction n with
  | zero =>
    intro v h
    cases v with
    | non => trivial
    | int i => trivial
    | str x => trivial
    | _ => exact (show False from h).elim
  | succ n ih =>
    intro v h
    cases v with
    | non => trivial
    | int i => trivial
    | str x => trivial
    | ref a =>
      obtain ⟨xs, h, hx⟩ := (show ∃ xs, (H a = some (.lst xs) ∨ H a = some (.tup xs)) ∧ ∀ x ∈ xs, Pl H n x from h)
      exact ⟨xs, h.elim (fun h => .inl (s _ _ h)) fun h => .inr (s _ _ h), fun x m => ih (hx x m)⟩
    | _ => exact (show False from h).elim
def sp_plainN : Nat → Sp
  | 0 => fun _ _ _ _ => False
  | n + 1 => fun vs H Q _ => ∃ v, vs = [v] ∧ Pl H n v ∧ ∀ H', Same H H' → Q (.bl true) H'
def sp_same (K : PySem.W.Frag) : Sp := fun vs H Q _ => ∃ (x y : V) (d : PyData), vs = [x, y] ∧ Pl H 2 x ∧ Den K H x d ∧ Den K H y d ∧ wd 3 d ∧ ∀ H', Same H H' → Q (.bl true) H'
theorem isiT_no {K : PySem.W.Frag} {H : Hp} {Q : VK} {x : V} {p : Addr} {T : String} (hp : H p = some (.tup [.ty "tuple", .ty "list"])) (ty : TyOf K H x (.type T)) (hk : PySem.W.kitAny K (.type T) [.type "tuple", .type "list"] = some false) (q : Q (.bl false) H) : rIsiT K [x, .ref p] H Q :=
  ⟨x, _, p, ["tuple", "list"], false, rfl, hp, ty, hk, q⟩
theorem isiT_yes {K : PySem.W.Frag} {H : Hp} {Q : VK} {x : V} {p : Addr} {T : String} (hp : H p = some (.tup [.ty "tuple", .ty "list"])) (ty : TyOf K H x (.type T)) (hk : PySem.W.kitAny K (.type T) [.type "tuple", .type "list"] = some true) (q : Q (.bl true) H) : rIsiT K [x, .ref p] H Q :=
  ⟨x, _, p, ["tuple", "list"], true, rfl, hp, ty, hk, q⟩
end L2

set_option Elab.async false
set_option linter.all false
set_option maxRecDepth 100000
set_option maxHeartbeats 4000000
namespace L2
open PySem PySem.Spec PyProof.Rows
/-! ### what stands in a row, and what of it is drawn away -/
def RowM.rowL (M : RowM) (p : Int) : L3 := match M.L p with
  | some x => (p, x.1, x.2.1)
  | none => (p, [], none)
/-- all letters that stand -/
def RowM.stand (M : RowM) : List L3 := (M.standing 0 M.last.toNat).map M.rowL
/-! the last of each key -/
def lastP : List L3 → List Nat → Option Int
  | [], _ => none
  | x :: r, k => match lastP r k with
    | some y => some y
    | none => if x.2.1 = k then some x.1 else none
theorem lastP_snoc (a : List L3) (x : L3) (k : List Nat) : lastP (a ++ [x]) k = if x.2.1 = k then some x.1 else lastP a k := by
  induction a with
  | nil => rw [List.nil_append]; simp [lastP]
  | cons y r ih =>
    rw [List.cons_append, lastP, ih]
    by_cases h : x.2.1 = k
    · rw [if_pos h, if_pos h]
    · rw [if_neg h, if_neg h, lastP]
def laterB (ls : List L3) (k : Nat) : Bool := (ls.drop (k + 1)).any fun y => decide (y.2.1 = (ls.getD k (0, [], none)).2.1)
def awayL (ls : List L3) (passed : Int) : List Int := (ls.filter fun x => !(lastP ls x.2.1 == some x.1) || (x.2.2.isNone && decide (x.1 < passed))).map (·.1)
def at3 (ls : List L3) (k : Nat) : L3 := ls.getD k (0, [], none)
open Classical in
noncomputable def tupP (H : Hp) (P : L3 → Bool) (x : V) : Bool := decide (∃ t y, x = .ref t ∧ H t = some (.tup (l3V y)) ∧ P y = true)
open Classical in
theorem Chg.wr {A : List Addr} {H H' : Hp} {b : Addr} {o : HO} (c : Chg A H H') (h : H b = none) : Chg A H (L2.upd H' b o) :=
  ⟨fun e u he n => (upd_ne (ne_of_none he h)).trans (c.keep e u he n), fun e xs he => (upd_ne (ne_of_none he h)).trans (c.tup e xs he)⟩
theorem wd.mono {n m : Nat} {d : PyData} (h : wd n d) (hn : n ≤ m) : wd m d := ⟨h.1, Nat.le_trans h.2 hn⟩
theorem Pl.ints {H : Hp} {p : Addr} {ns : List Int} (h : H p = some (.lst (ns.map V.int))) : Pl H 2 (.ref p) := ⟨_, .inl h, fun x hx => by
  obtain ⟨n, _, rfl⟩ := List.mem_map.mp hx
  trivial⟩
theorem Pl.l3 {H : Hp} {p : Addr} {ls : List L3} (h : LTups H p (ls.map l3V)) : Pl H 2 (.ref p) := by
  obtain ⟨ts, hts, htl, hat⟩ := h.at (K := [])
  obtain ⟨ts', h1, h2⟩ := h
  refine ⟨_, .inl h1, fun x hx => ?_⟩
  obtain ⟨t, ht, rfl⟩ := List.mem_map.mp hx
  obtain ⟨i, hi, e⟩ := List.getElem_of_mem ht
  obtain ⟨r, hr, htr⟩ := h2.get (i := i) (t := t) (by rw [List.getElem?_eq_getElem hi, e])
  rw [List.getElem?_map] at hr
  cases e2 : ls[i]? with
  | none => rw [e2] at hr; cases hr
  | some y =>
    rw [e2] at hr
    cases hr
    refine ⟨_, .inr htr, fun v hv => ?_⟩
    obtain ⟨p0, k, w⟩ := y
    simp only [l3V, List.mem_cons, List.not_mem_nil, or_false] at hv
    rcases hv with rfl | rfl | rfl
    · trivial
    · trivial
    · cases w <;> trivial
def sp_drawn (C : Addr) : Sp := fun vs H Q _ => ∃ (r d : Addr) (M : RowM) (fl pa : Int), vs = [.ref r, .int fl, .int pa] ∧ RowAt C H r d M ∧ M.last ≤ 1000 ∧ 0 ≤ fl ∧ ∀ D H', H D = none → Same H H' → H' D = some (.lst ((awayL (M.stand.filter fun x => decide (x.1 < fl)) pa).map V.int)) → Q (.ref D) H'
def sp_later (K : PySem.W.Frag) : Sp := fun vs H Q _ => ∃ (p : Addr) (ls : List L3) (k : Nat), vs = [.ref p, .int k] ∧ LTups H p (ls.map l3V) ∧ k < ls.length ∧ ∀ H', Same H H' → Q (.bl (laterB ls k)) H'
def dueL (ls : List L3) (v : Int) : List Int := ((List.range (ls.filter fun x => decide (x.1 < v)).length).filter fun k => laterB (ls.filter fun x => decide (x.1 < v)) k).map fun k => (at3 (ls.filter fun x => decide (x.1 < v)) k).1
end L2

set_option Elab.async false
set_option linter.all false
set_option maxRecDepth 100000
set_option maxHeartbeats 4000000
namespace L2
open PySem PySem.Spec PyProof.Rows
/-! ### x is True -/
def rIsB : R2 := fun x y H Q => ∃ b c, x = .bl b ∧ y = .bl c ∧ Q (.bl (decide (b = c))) H
def rNotB : R2 := fun x y H Q => ∃ b c, x = .bl b ∧ y = .bl c ∧ Q (.bl (!decide (b = c))) H
section
variable {X : Cx}
theorem rIsB_bb {H : Hp} {Q : VK} (b c : Bool) : rIsB (.bl b) (.bl c) H Q = Q (.bl (decide (b = c))) H := by simp [rIsB]
theorem rNotB_bb {H : Hp} {Q : VK} (b c : Bool) : rNotB (.bl b) (.bl c) H Q = Q (.bl (!decide (b = c))) H := by simp [rNotB]
end
/-! ### what is left once it is drawn -/
/-- goes when drawn -/
def goes (ls : List L3) (pa : Int) (x : L3) : Bool := !(lastP ls x.2.1 == some x.1) || (x.2.2.isNone && decide (x.1 < pa))
end L2

set_option Elab.async false
set_option linter.all false
set_option maxRecDepth 100000
set_option maxHeartbeats 4000000
namespace L2
open PySem PySem.Spec PyProof.Rows
def RowM.outs (M : RowM) (l : List Int) : RowM := { M with L := fun q => if q ∈ l then none else M.L q }
end L2

set_option Elab.async false
set_option linter.all false
set_option maxRecDepth 100000
set_option maxHeartbeats 4000000
namespace L2
open PySem PySem.Spec PyProof.Rows
/-! ### max(list of ints), max(list of ints, default=d) -/
section
variable {prog : Program} {w : World} {A : Around} {R : Result → Shared → Prop} {I : Addr} {fp wr : List Addr} {n : Nat} {P : Nat → Value → Prop} {St : Nat → Heap → Prop} {kw : List (Str × Value)}
end
section
variable {prog : Program} {w : World} {A : Around} {E : Value → Shared → Prop} {s : Shared}
end
section
variable {X : Cx}
def rMaxL (K : PySem.W.Frag) : List V → Hp → VK → Prop := fun xs H Q => ∃ (p : Addr) (ns : List Int), xs = [.ref p] ∧ SqL K H p (ns.map V.int) ∧ ns ≠ [] ∧ ∀ m ∈ ns, (∀ a ∈ ns, a ≤ m) → Q (.int m) H
def tMaxD (K : PySem.W.Frag) (te td : TE) : TE := fun σ H Q => te σ H fun x H1 => td σ H1 fun y H2 => ∃ (p : Addr) (ns : List Int) (d : Int), x = .ref p ∧ y = .int d ∧ SqL K H2 p (ns.map V.int) ∧ ∀ m, (ns = [] → m = d) → (ns ≠ [] → m ∈ ns ∧ ∀ a ∈ ns, a ≤ m) → Q (.int m) H2
end
end L2

set_option Elab.async false
set_option linter.all false
set_option maxRecDepth 100000
set_option maxHeartbeats 4000000
namespace L2
open PySem PySem.Spec PyProof.Rows
theorem TupsAt.append {H : Hp} {ts us : List Addr} {rows more : List (List V)} (h : TupsAt H ts rows) (h2 : TupsAt H us more) : TupsAt H (ts ++ us) (rows ++ more) := by
  unfold TupsAt at h h2 ⊢
  induction h with
  | nil => exact h2
  | cons r t ih => exact .cons r ih
/-! ### a table that takes letters -/
def tblF (pl : Int) (w l : Addr) : List (Str × V) := [("place", .int pl), ("words", .ref w), ("lasts", .ref l)]
structure WrdK (kvs : List (Key × V)) (tk : List L3) : Prop where
  len : kvs.length ≤ tk.length
  nd : NdK kvs
  val : ∀ k : List Nat, valV kvs (.inr (S k)) = (lastW tk k).map wV
  int : ∀ i : Int, valV kvs (.inl i) = none
structure LstK (kvs : List (Key × V)) (tk : List L3) : Prop where
  len : kvs.length ≤ tk.length
  val : ∀ k : List Nat, valV kvs (.inr (S k)) = (lastP tk k).map V.int
theorem WrdK.nil : WrdK [] [] := ⟨Nat.le_refl _, NdK.nil, fun _ => rfl, fun _ => rfl⟩
theorem LstK.nil : LstK [] [] := ⟨Nat.le_refl _, fun _ => rfl⟩
theorem WrdK.put {kvs : List (Key × V)} {tk : List L3} (h : WrdK kvs tk) (x : L3) : WrdK (putK kvs (.inr (S x.2.1)) (wV x.2.2)) (tk ++ [x]) := by
  refine ⟨?_, h.nd.put _ _, fun q => ?_, fun i => ?_⟩
  · have := length_putK kvs (.inr (S x.2.1) : Key) (wV x.2.2); have := h.len; rw [List.length_append, List.length_singleton]; omega
  · rw [valV_put, lastW_snoc]
    by_cases e : q = x.2.1
    · rw [if_pos (inr_S.mpr e), if_pos e.symm]; rfl
    · rw [if_neg (fun z => e (inr_S.mp z)), if_neg (Ne.symm e)]; exact h.val q
  · rw [valV_put, if_neg (by intro z; cases z)]; exact h.int i
theorem LstK.put {kvs : List (Key × V)} {tk : List L3} (h : LstK kvs tk) (x : L3) : LstK (putK kvs (.inr (S x.2.1)) (.int x.1)) (tk ++ [x]) := by
  refine ⟨?_, fun q => ?_⟩
  · have := length_putK kvs (.inr (S x.2.1) : Key) (.int x.1); have := h.len; rw [List.length_append, List.length_singleton]; omega
  · rw [valV_put, lastP_snoc]
    by_cases e : q = x.2.1
    · rw [if_pos (inr_S.mpr e), if_pos e.symm]; rfl
    · rw [if_neg (fun z => e (inr_S.mp z)), if_neg (Ne.symm e)]; exact h.val q
structure TblAt (C : Addr) (H : Hp) (t w l : Addr) (tk : List L3) (pl : Int) : Prop where
  obj : ∃ dx, H t = some (.ins C dx (tblF pl w l))
  words : ∃ kvs, H w = some (.dK kvs) ∧ WrdK kvs tk
  lasts : ∃ kvs, H l = some (.dK kvs) ∧ LstK kvs tk
  nwl : w ≠ l
theorem TblAt.chg {A : List Addr} {C : Addr} {H H' : Hp} {t w l : Addr} {tk : List L3} {pl : Int} (h : TblAt C H t w l tk pl) (c : Chg A H H') (ht : t ∉ A) (hw : w ∉ A) (hl : l ∉ A) : TblAt C H' t w l tk pl := by
  obtain ⟨dx, e⟩ := h.obj
  obtain ⟨k1, e1, a1⟩ := h.words
  obtain ⟨k2, e2, a2⟩ := h.lasts
  exact ⟨⟨dx, c.keep _ _ e ht⟩, ⟨k1, c.keep _ _ e1 hw, a1⟩, ⟨k2, c.keep _ _ e2 hl, a2⟩, h.nwl⟩
theorem TblAt.same {C : Addr} {H H' : Hp} {t w l : Addr} {tk : List L3} {pl : Int} (h : TblAt C H t w l tk pl) (s : Same H H') : TblAt C H' t w l tk pl := h.chg (A := []) (Chg.of_same s) (by simp) (by simp) (by simp)
/-- what is another thing than a table's parts -/
theorem TblAt.apart {C : Addr} {H : Hp} {t w l b : Addr} {tk : List L3} {pl : Int} (h : TblAt C H t w l tk pl) (hb : ∀ o, H b = some o → (∀ dx, o ≠ .ins C dx (tblF pl w l)) ∧ ∀ kvs, o ≠ .dK kvs) : b ∉ [t, w, l] := by
  obtain ⟨dx, e⟩ := h.obj
  obtain ⟨k1, e1, a1⟩ := h.words
  obtain ⟨k2, e2, a2⟩ := h.lasts
  intro m
  simp only [List.mem_cons, List.not_mem_nil, or_false] at m
  rcases m with rfl | rfl | rfl
  · exact (hb _ e).1 _ rfl
  · exact (hb _ e1).2 _ rfl
  · exact (hb _ e2).2 _ rfl
def sp_tbl_init (C : Addr) : Sp := fun vs H Q _ => ∃ x dx, vs = [.ref x] ∧ H x = some (.ins C dx []) ∧ ∀ w l H', H w = none → H l = none → Chg [x] H H' → TblAt C H' x w l [] 0 → Q .non H'
def sp_tbl_take (C : Addr) : Sp := fun vs H Q _ => ∃ (t w l : Addr) (tk : List L3) (pl : Int) (p : Addr) (ls : List L3) (up : Int), vs = [.ref t, .ref p, .int up] ∧ TblAt C H t w l tk pl ∧ LTups H p (ls.map l3V) ∧ tk.length + ls.length ≤ 1000 ∧
  ∀ H', Chg [t, w, l] H H' → TblAt C H' t w l (tk ++ ls.filter fun x => decide (pl ≤ x.1)) (max pl up) → Q .non H'
def sp_tbl_shown (C : Addr) : Sp := fun vs H Q _ => ∃ (t w l : Addr) (tk : List L3) (pl : Int), vs = [.ref t] ∧ TblAt C H t w l tk pl ∧ tk.length ≤ 1000 ∧ ∀ D H', H D = none → Same H H' → Tab H' D (wordAt tk) tk.length → Q (.ref D) H'
def sp_tbl_last (C : Addr) : Sp := fun vs H Q _ => ∃ (t w l : Addr) (tk : List L3) (pl : Int) (k : List Nat), vs = [.ref t, .str (S k)] ∧ TblAt C H t w l tk pl ∧ Q (.int ((lastP tk k).getD (-1))) H
def sp_last : Sp := fun vs H Q _ => ∃ (p : Addr) (ls : List L3) (k : List Nat), vs = [.ref p, .str (S k)] ∧ LTups H p (ls.map l3V) ∧ ls.length ≤ 100 ∧ (ls.Pairwise fun x y => x.1 < y.1) ∧ ∀ H', Same H H' → Q (.int ((lastP ls k).getD (-1))) H'
def sp_stands (K : PySem.W.Frag) (C : Addr) : Sp := fun vs H Q _ => ∃ (t w l : Addr) (tk : List L3) (pl : Int) (kp p : Addr) (ks : List (List Nat)), vs = [.ref t, .ref kp, .ref p, .int pl] ∧ TblAt C H t w l tk pl ∧ H kp = some (.lst (ks.map fun z => V.str (S z))) ∧ LTups H p (tk.map l3V) ∧ tk.length ≤ 100 ∧ (tk.Pairwise fun x y => x.1 < y.1) ∧
  ∀ H', Same H H' → Q (.bl true) H'
def sp_letters (K : PySem.W.Frag) : Sp := fun vs H Q _ => ∃ (p kp : Addr) (ns : List Int) (ks : List (List Nat)), vs = [.ref p, .ref kp] ∧ SqL K H p (ns.map V.int) ∧ H kp = some (.lst (ks.map fun z => V.str (S z))) ∧ 5 ≤ ks.length ∧ (∀ k ∈ ks, okS k) ∧
  ∀ D H' (ls : List L3), H D = none → Same H H' → ls.length = 30 → (ls.Pairwise fun x y => x.1 < y.1) → (∀ x ∈ ls, okL3 x ∧ 0 ≤ x.1) → LTups H' D (ls.map l3V) → Q (.ref D) H'
end L2

set_option Elab.async false
set_option linter.all false
set_option maxRecDepth 100000
set_option maxHeartbeats 4000000
namespace L2
open PySem PySem.Spec PyProof.Rows
/-! ### lendings: reads while the loans are walked, what is due -/
def LoanAt (C : Addr) (H : Hp) (r l : Addr) (M : LendM) : Prop := (∃ dx f t, H r = some (.ins C dx (lendF M f t l))) ∧ ∃ kvs, Rd H l (.dK kvs) ∧ ∀ p : Int, LoanO H (M.L p) (valV kvs (.inl p))
theorem LendAt.loan {C : Addr} {H : Hp} {r f t l : Addr} {M : LendM} (h : LendAt C H r f t l M) : LoanAt C H r l M := by
  obtain ⟨dx, e⟩ := h.obj
  obtain ⟨kvs, e2, _, v, _⟩ := h.loa
  exact ⟨⟨dx, f, t, e⟩, kvs, .inl e2, v⟩
theorem LendAt.same {C : Addr} {H H' : Hp} {r f t l : Addr} {M : LendM} (h : LendAt C H r f t l M) (s : Same H H') : LendAt C H' r f t l M := h.chg (A := []) (Chg.of_same s) (by simp) (by simp) (by simp) (by simp)
theorem RowAt.same {C : Addr} {H H' : Hp} {r d : Addr} {M : RowM} (h : RowAt C H r d M) (s : Same H H') : RowAt C H' r d M := h.chg (A := []) (Chg.of_same s) (by simp) (by simp)
def LSz (H : Hp) (l : Addr) (c : Nat) : Prop := ∃ kvs, H l = some (.dK kvs) ∧ kvs.length ≤ c
theorem LSz.same {H H' : Hp} {l : Addr} {c : Nat} (h : LSz H l c) (s : Same H H') : LSz H' l c := let ⟨k, e, b⟩ := h; ⟨k, s _ _ e, b⟩
theorem LSz.chg {A : List Addr} {H H' : Hp} {l : Addr} {c : Nat} (h : LSz H l c) (s : Chg A H H') (n : l ∉ A) : LSz H' l c := let ⟨k, e, b⟩ := h; ⟨k, s.keep _ _ e n, b⟩
theorem LSz.mono {H : Hp} {l : Addr} {c d : Nat} (h : LSz H l c) (s : c ≤ d) : LSz H l d := let ⟨k, e, b⟩ := h; ⟨k, e, Nat.le_trans b s⟩
theorem putK_there {kvs : List (Key × V)} {k : Key} {v x : V} (h : valV kvs k = some x) : (putK kvs k v).length = kvs.length := by
  unfold putK
  rw [if_pos (by rw [valV_any, h]; rfl), List.length_map]
def dueS (M : LendM) (turn : Int) (acc : List Int × Option Int) (p : Int) : List Int × Option Int := match acc.2 with
  | some _ => acc
  | none => if M.isLent p turn = true then acc else if M.T p < M.tries then (acc.1, some p) else (acc.1 ++ [p], none)
def dueG (M : LendM) (turn : Int) (l : List Int) : List Int × Option Int := l.foldl (dueS M turn) ([], none)
def oV : Option Int → V
  | none => .non
  | some p => .int p
def sp_r_loan_at (C : Addr) : Sp := fun vs H Q _ => ∃ (r l : Addr) (M : LendM) (p : Int), vs = [.ref r, .int p] ∧ LoanAt C H r l M ∧ ∀ v, LoanVal H (M.L p) v → Q v H
def sp_r_is_lent (C : Addr) : Sp := fun vs H Q _ => ∃ (r l : Addr) (M : LendM) (p turn : Int), vs = [.ref r, .int p, .int turn] ∧ LoanAt C H r l M ∧ Q (.bl (M.isLent p turn)) H
def sp_l_lend2 (C : Addr) : Sp := fun vs H Q _ => ∃ (r f t l : Addr) (M : LendM) (p : Int) (tk : List Nat) (turn : Int) (c : Nat), vs = [.ref r, .int p, .str (S tk), .int turn] ∧ LendAt C H r f t l M ∧ LSz H l c ∧ M.sz ≤ 100000 ∧
  ∀ H', Chg [r, t, l] H H' → LendAt C H' r f t l (M.lend p tk turn) → LSz H' l (if (M.L p).isSome = true then c else c + 1) → Q (.int (M.lent + 1)) H'
def pwf (M : LendM) (R : RowM) (fr : Int) : List Int := (R.seenP M.start fr R.last).filter fun p => (M.F p).isNone
def sp_pwf (C CR : Addr) : Sp := fun vs H Q _ => ∃ (r f t l : Addr) (M : LendM) (row d : Addr) (R : RowM) (fr : Int), vs = [.ref r, .ref row, .int fr] ∧ LendAt C H r f t l M ∧ RowAt CR H row d R ∧ R.last ≤ 1000 ∧ 0 ≤ M.start ∧ M.start ≤ 1000 ∧ 0 ≤ fr ∧
  ∀ D H', H D = none → Same H H' → H' D = some (.lst ((pwf M R fr).map V.int)) → Q (.ref D) H'
def sp_due_in (C CR : Addr) : Sp := fun vs H Q _ => ∃ (r f t l : Addr) (M : LendM) (row d : Addr) (R : RowM) (fr turn : Int) (c : Nat), vs = [.ref r, .ref row, .int fr, .int turn] ∧ LendAt C H r f t l M ∧ RowAt CR H row d R ∧ R.last ≤ 1000 ∧ 0 ≤ M.start ∧ M.start ≤ 1000 ∧ 0 ≤ fr ∧ LSz H l c ∧ (c : Int) < M.width ∧ c ≤ 1000 ∧
  ∀ A u H', H A = none → H u = none → Same H H' → H' A = some (.lst ((dueG M turn (pwf M R fr)).1.map V.int)) → H' u = some (.tup [.ref A, oV (dueG M turn (pwf M R fr)).2]) → Q (.ref u) H'
def sp_is_due (K : PySem.W.Frag) : Sp := fun vs H Q _ => ∃ (u A B : Addr) (xs : List Int) (o : Option Int), vs = [.ref u, .ref B, oV o] ∧ H u = some (.tup [.ref A, oV o]) ∧ H A = some (.lst (xs.map V.int)) ∧ H B = some (.lst (xs.map V.int)) ∧ xs.length ≤ 1000 ∧ ∀ H', Same H H' → Q (.bl true) H'
end L2

set_option Elab.async false
set_option linter.all false
set_option maxRecDepth 100000
set_option maxHeartbeats 4000000
namespace L2
open PySem PySem.Spec PyProof.Rows
/-! ### list.remove of an int -/
section
variable {X : Cx}
def rRemove : V → List V → Hp → VK → Prop := fun x vs H Q => ∃ (l : Addr) (ns : List Int) (k : Int) (j : Nat), x = .ref l ∧ vs = [.int k] ∧ H l = some (.lst (ns.map V.int)) ∧ ns[j]? = some k ∧ (∀ m, m < j → ns[m]? ≠ some k) ∧ Q .non (upd H l (.lst ((ns.eraseIdx j).map V.int)))
def isIntV (k : Int) : Value → Bool
  | .int n _ => n == k
  | _ => false
end
end L2

set_option Elab.async false
set_option linter.all false
set_option maxRecDepth 100000
set_option maxHeartbeats 4000000
namespace L2
open PySem
/-! ### an exception on its way, its own dict with it -/
/-- the exception at e: its class, its dict, its arguments, and where the newest entry of its tale stands -/
def TrD (h B : Heap) (e : Addr) (cls : Value) (dc : Option Addr) (a0 fl : Value) : Prop :=
  ∃ oe vs T oT ts, h.get? e = some oe ∧ oe.cls = cls ∧ oe.dict = dc ∧ oe.data = .fields vs ∧ vs[0]? = some a0 ∧ vs[1]? = some (.ref T) ∧ B.get? T = none ∧ T ≠ e ∧ h.get? T = some oT ∧ oT.data = .fields ts ∧ ts[3]? = some fl
/-- it flies through the frames l -/
structure Fly (B : Heap) (l : List Env) (e : Addr) (cls : Value) (dc : Option Addr) (a0 fl : Value) (h : Heap) : Prop where
  stay : B.StaysIn h
  new : B.get? e = none
  fun' : h.FunFrames B l
  tale : TrD h B e cls dc a0 fl
section
variable {M : Model} {A : Around} {E : Value → Shared → Prop} {s : Shared}
theorem Fly.pop {B : Heap} {env : Env} {out : List Env} {e : Addr} {cls : Value} {dc : Option Addr} {a0 fl : Value} {h : Heap} (f : Fly B (env :: out) e cls dc a0 fl h) : Fly B out e cls dc a0 fl h :=
  ⟨f.stay, f.new, let ⟨_, _, z⟩ := f.fun'; z, f.tale⟩
end
end L2

set_option Elab.async false
set_option linter.all false
set_option maxRecDepth 100000
set_option maxHeartbeats 4000000
namespace L2
open PySem PySem.Spec PyProof.Rows
/-! ### an exception leaves a def -/
/-- what B (the heap at the throw, without the frames and the exception) keeps of h -/
structure Bas (l : List Env) (H H' : Hp) (h B : Heap) : Prop where
  keep : ∀ b o, h.get? b = some o → H b = none → b ∉ frs l → B.get? b = some o
  free : ∀ b o, h.get? b = some o → H b = none → H' b = none
  there : ∀ b o, h.get? b = some o → b ∉ frs l → ∃ o', B.get? b = some o'
  tups : ∀ b xs, H b = some (.tup xs) → H' b = some (.tup xs)
  frzs : ∀ b o u, H b = some (.frz o u) → H' b = some (.frz o u)
  tbls : ∀ b ps, H b = some (.tbl ps) → ∃ more, H' b = some (.tbl (ps ++ more))
/-- of the frames only the slots changed -/
def Slo (l : List Env) (h h' : Heap) : Prop := ∀ b o, b ∈ frs l → h.get? b = some o → ∃ sl, h'.get? b = some { o with slots := sl }
structure Thr (P : Program) (w : World) (l : List Env) (H : Hp) (s : Shared) (ea C : Addr) (dx : Option Addr) (fl : Value) (B : Heap) (H' : Hp) (s' : Shared) : Prop where
  os : s'.os = s.os
  bare : AllBare s'.gens
  fly : ∃ a0, Fly B l ea (.ref C) dx a0 fl s'.heap
  hok : HOk P w H' B
  bas : Bas l H H' s.heap B
  slo : Slo l s.heap s'.heap
def CXv (P : Program) (w : World) : CXT := fun l H s E e s' => ∃ ea C dx B H', e = .ref ea ∧ Thr P w l H s ea C dx .none B H' s' ∧ E (.ref C) dx H'
section
variable {P : Program} {w : World} {l : List Env} {H H' : Hp} {s s' : Shared} {ea C : Addr} {dx : Option Addr} {fl : Value} {B : Heap}
theorem Thr.stay (t : Thr P w l H s ea C dx fl B H' s') : B.StaysIn s'.heap := let ⟨_, f⟩ := t.fly; f.stay
theorem Thr.held (t : Thr P w l H s ea C dx fl B H' s') : HOk P w H' s'.heap := t.hok.kept t.stay
theorem Thr.un (t : Thr P w l H s ea C dx fl B H' s') : Un (frs l) [] H H' s.heap s'.heap where
  keep := fun b o e n hb _ => t.stay b o (t.bas.keep b o e n hb)
  slot := fun b o e _ hb _ => t.slo b o hb e
  free := fun b o e n _ => t.bas.free b o e n
  there := fun b o e _ => by
    by_cases hb : b ∈ frs l
    · obtain ⟨sl, q⟩ := t.slo b o hb e; exact ⟨_, q⟩
    · obtain ⟨o', q⟩ := t.bas.there b o e hb; exact ⟨o', t.stay b o' q⟩
  tups := t.bas.tups
  frzs := t.bas.frzs
  tbls := t.bas.tbls
end
section
variable {X : Cx} {pins : List (Addr × Obj)} {σ : St} {H H' : Hp} {s s' : Shared} {ea C : Addr} {dx : Option Addr} {fl : Value} {B : Heap}
theorem Inv.low (I : Inv X pins σ H s) {b : Addr} {o : Obj} (e : X.s₀.heap.get? b = some o) (hb : b ∉ frs X.outer) : b ∉ frs X.stack := fun z => by
  rcases List.mem_cons.mp (I.stkSub b z) with r | r
  · exact absurd (Heap.lt_size e) (by rw [r]; exact Nat.not_lt.mpr I.ok.above)
  · exact hb r
/-- from a body to its caller -/
theorem Bas.out (I : Inv X pins σ H s) (hex : X.ex = []) (t : Bas X.stack H H' s.heap B) : Bas X.outer X.H₀ H' X.s₀.heap B where
  keep := fun b o e n hb => t.keep b o (I.base.keep b o e n hb (by rw [hex]; simp)) (I.base.free b o e n (by rw [hex]; simp)) (I.low e hb)
  free := fun b o e n => by
    obtain ⟨o', q⟩ := I.base.there b o e (by rw [hex]; simp)
    exact t.free b o' q (I.base.free b o e n (by rw [hex]; simp))
  there := fun b o e hb => by
    obtain ⟨o', q⟩ := I.base.there b o e (by rw [hex]; simp)
    exact t.there b o' q (I.low e hb)
  tups := fun b xs q => t.tups b xs (I.base.tups b xs q)
  frzs := fun b o u q => t.frzs b o u (I.base.frzs b o u q)
  tbls := fun b ps q => by
    obtain ⟨m1, e1⟩ := I.base.tbls b ps q
    obtain ⟨m2, e2⟩ := t.tbls b _ e1
    exact ⟨m1 ++ m2, by rw [e2, Array.append_assoc]⟩
theorem Inv.inner (I : Inv X pins σ H s) {b : Addr} (hb : b ∈ frs X.outer) : b ∈ frs X.stack := by
  rcases I.ok.stk with e | ⟨e, hf⟩
  · rw [e]; exact hb
  · rw [e]
    unfold frs
    rw [List.filterMap_cons, hf]
    exact List.mem_cons_of_mem _ hb
theorem Slo.out {h' : Heap} (I : Inv X pins σ H s) (hex : X.ex = []) (t : Slo X.stack s.heap s'.heap) (u : s'.heap.UpToSlots h') : Slo X.outer X.s₀.heap h' := fun b o hb e => by
  obtain ⟨_, o1, ho1, nf⟩ := I.ok.funs.mem hb
  rw [e] at ho1
  cases ho1
  obtain ⟨sl, e1⟩ := I.base.slot b o e (I.ok.frf b hb) hb (by rw [hex]; simp)
  obtain ⟨sl2, e2⟩ := t b _ (I.inner hb) e1
  obtain ⟨sl3, e3⟩ := u b _ e2 nf
  exact ⟨sl3, e3⟩
end
section
variable {P : Program} {w : World} {K : PySem.W.Frag} {mg : Str → Option Value} {base : Heap} {N : List Str} {qual : Str} {scope : Scope} {f : Addr} {cd : Value} {A : Around} {outer : List Env} {s : Shared} {H : Hp} {E : XK}
end
/-! ### an exception's object -/
abbrev XObj (C t : Addr) (dx : Option Addr) : Obj := { cls := .ref C, dict := dx, data := .fields #[.ref t, .none, .none, .none, .bool false, .none] }
def xo (ea C t : Addr) (dx : Option Addr) : HO := .ext fun h => h.get? ea = some (XObj C t dx)
def del (H : Hp) (a : Addr) : Hp := fun b => if b = a then none else H b
/-- where a fresh exception goes -/
def RaiseTo (X : Cx) (E : XK) : Prop := ∀ (pins : List (Addr × Obj)) (σ : St) (H : Hp) (s : Shared) (ea C t : Addr) (dx : Option Addr), Inv X pins σ H s → H ea = some (xo ea C t dx) → X.s₀.heap.objs.size ≤ ea → E (.ref C) dx (del H ea) → X.xe (.ref ea) s
section
variable {X : Cx} {pins : List (Addr × Obj)} {σ : St} {H : Hp} {s : Shared} {ea C t : Addr} {dx : Option Addr}
/-- the heap at the throw -/
def atThrow (X : Cx) (s : Shared) (ea : Addr) : Heap := PySem.W.hideAll s.heap (ea :: frs X.stack)
end
section
variable {P : Program} {w : World} {K : PySem.W.Frag} {mg : Str → Option Value} {base : Heap} {N : List Str} {qual : Str} {scope : Scope} {f : Addr} {cd : Value} {A : Around} {outer : List Env} {s : Shared} {H : Hp} {E : XK}
end
section
variable {P : Program} {w : World} {K : PySem.W.Frag} {mg : Str → Option Value} {base : Heap}
end
end L2

set_option Elab.async false
set_option linter.all false
set_option maxRecDepth 100000
set_option maxHeartbeats 4000000
namespace L2
open PySem PySem.Spec PyProof.Rows Builtin Builtin.ObjectAttr
/-! ### an own exception's class, by the text -/
def valTail : List Value := [.type "ValueError", .type "Exception", .type "BaseException", .type "object"]
def xOver : List Value → Bool
  | .ref _ :: r => xOver r
  | l => l == valTail
def xIn (K : PySem.W.Frag) (C : Addr) : Bool := match K.lookup C with
  | some ⟨.type "type", _, .cls cd, sl⟩ => (match cd.mro, sl.toList with
    | .ref C' :: bm, [_, _, _, _, some (.builtin n), _] => C' == C && (!cd.hasDel && (cd.hasDict && (xOver bm && n == "ValueError.__new__")))
    | _, _ => false)
  | _ => false
structure XCls (K : PySem.W.Frag) (C : Addr) : Prop where
  x : xIn K C = true
  kp : PySem.W.keepIn K (.ref C) = true
  sa : PySem.W.findIn K (.ref C) "__setattr__" = some (some (.builtin "object.__setattr__"))
  ga : PySem.W.findIn K (.ref C) "__getattribute__" = some (some (.builtin "BaseException.__getattribute__"))
  gn : PySem.W.findIn K (.ref C) "__getattr__" = some none
  hd : PySem.W.hasDictIn K C = true
section
variable {M : Model} {A : Around} {E : Value → Shared → Prop} {h : Heap} {g : Array GenState} {d : Drawn} {t : Nat} {os : OsState}
variable {nm qn : Str} {C N : Addr} {bs bm : List Value} {hdct : Bool} {sn : List Str} {sub : List Value} {ab : Bool} {col : Option Bool} {dd : Option Addr} {k0 k1 k2 k3 k5 : Option Value}
end
section
variable {prog : Program} {w : World} {A : Around} {R : Result → Shared → Prop} {h : Heap} {g : Array GenState} {d : Drawn} {t : Nat} {os : OsState}
variable {nm qn : Str} {C N : Addr} {bs bm : List Value} {hdct : Bool} {sn : List Str} {sub : List Value} {ab : Bool} {col : Option Bool} {dd : Option Addr} {k0 k1 k2 k3 k5 : Option Value}
abbrev xTup (us : List Value) : Obj := { cls := .type "tuple", data := .seq us.toArray }
end
section
variable {prog : Program} {w : World} {A : Around} {E : Value → Shared → Prop} {s : Shared} {K : PySem.W.Frag} {x C : Addr} {name : Str} {v : Value}
end
end L2

set_option Elab.async false
set_option linter.all false
set_option maxRecDepth 100000
set_option maxHeartbeats 4000000
namespace L2
open PySem PySem.Spec PyProof.Rows Builtin Builtin.ObjectAttr
/-! ### an exception's own dict -/
def xdo (d : Addr) (fs : List (Str × V)) : HO := .ext fun h => ∃ mA, h.Ns1 d mA ∧ ∀ f, RelO (fs.lookup f) (mA f)
section
variable {prog : Program} {w : World} {A : Around} {E : Value → Shared → Prop} {s : Shared} {K : PySem.W.Frag} {x C t dx : Addr} {name : Str} {v : Value}
end
/-- self.f = v in an exception's __init__ -/
def sXs (K : PySem.W.Frag) (ta tv : TE) (f : Str) : TS := fun D σ H => tv σ H fun y H1 => ta σ H1 fun x H2 => ∃ ea C t, x = .ref ea ∧ XCls K C ∧ NoAttr K C f ∧
  ((H2 ea = some (xo ea C t none) ∧ ∀ d, H2 d = none → d ≠ ea → D.nx σ (upd (upd H2 d (xdo d [(f, y)])) ea (xo ea C t (some d)))) ∨
   ∃ d fs, d ≠ ea ∧ H2 ea = some (xo ea C t (some d)) ∧ H2 d = some (xdo d fs) ∧ fs.length ≤ 100 ∧ D.nx σ (upd H2 d (xdo d (putF f y fs))))
section
variable {X : Cx} {o value : Expr} {f : Str} {pos pos' : Pos} {ta tv : TE}
end
/-! ### raise C(..) -/
/-- what the __init__ of an own exception does: it keeps its arguments under the names -/
def sp_xs (C : Addr) (names : List Str) : Sp := fun vs H Q _ => ∃ (ea t : Addr) (ys : List V), vs = .ref ea :: ys ∧ ys.length = names.length ∧ H ea = some (xo ea C t none) ∧
  ∀ d H', H d = none → d ≠ ea → (∀ b, b ≠ d → b ≠ ea → H' b = H b) → H' ea = some (xo ea C t (some d)) → H' d = some (xdo d (names.zip ys)) → Q .non H'
def tRaise (C : Addr) (names : List Str) (E : XK) (t : TA) : TS := fun _ σ H => t σ H fun ys H1 => ys.length = names.length ∧ ∀ d H', H1 d = none → Same H1 H' → H' d = some (xdo d (names.zip ys)) → E (.ref C) (some d) H'
section
variable {X : Cx} {k : Nat} {f C : Addr} {fd : FuncData} {ps names : List Str} {E : XK} {x : Str} {np cpos pos : Pos} {e : Expr} {es : List Expr} {t : TA}
end
end L2

set_option Elab.async false
set_option linter.all false
set_option maxRecDepth 100000
set_option maxHeartbeats 4000000
namespace L2
open PySem PySem.Spec PyProof.Rows
theorem ObjOk.here {P : Program} {w : World} {H : Hp} {h : Heap} {a : Addr} {o : HO} (x : ObjOk P w H h a o) : ∃ u, h.get? a = some u := by
  cases o with
  | lst xs => obtain ⟨_, _, _, _, e⟩ := x; exact ⟨_, e⟩
  | tup xs => obtain ⟨_, _, _, ob, e, _⟩ := x; exact ⟨_, e⟩
  | dK kvs => obtain ⟨_, _, _, _, o, _, _, e, _⟩ := x; exact ⟨_, e⟩
  | dT kvs => obtain ⟨_, _, _, _, o, _, _, e, _⟩ := x; exact ⟨_, e⟩
  | set S n => obtain ⟨o, _, _, _, e, _⟩ := x; exact ⟨_, e⟩
  | ins C dx fs => obtain ⟨_, _, _, e, _⟩ := x; exact ⟨_, e⟩
  | own y => exact x
  | xd fs => obtain ⟨_, ⟨_, _, _, e, _⟩, _⟩ := x; exact ⟨_, e⟩
  | rng lo hi => obtain ⟨_, _, _, e⟩ := x; exact ⟨_, e⟩
  | frz ob u => obtain ⟨e, _⟩ := x; exact ⟨_, e⟩
  | tbl ps => exact ⟨_, (show h.get? a = some _ from x)⟩
  | met f y => exact ⟨_, (show h.get? a = some _ from x)⟩
  | ext φ => obtain ⟨_, e, _⟩ := x; exact e
/-! ### what surely raises -/
/-- an exception is on its way to this frame -/
def Lands (X : Cx) (pins : List (Addr × Obj)) (σ : St) (E : XK) (e : Value) (s' : Shared) : Prop :=
  ∃ (s : Shared) (H : Hp) (ea C : Addr) (dx : Option Addr) (B : Heap) (H' : Hp), e = .ref ea ∧ Inv X pins σ H s ∧ Thr X.prog X.w X.stack H s ea C dx .none B H' s' ∧ E (.ref C) dx H'
abbrev TX := XK → St → Hp → Prop
def PEx (X : Cx) (e : Expr) (t : TX) : Prop := ∀ (pins : List (Addr × Obj)) (s : Shared) (σ : St) (H : Hp) (E : XK), Inv X pins σ H s → t E σ H → wpAny (model X.prog X.w) X.A (eval e X.env) (fun _ _ => False) (Lands X pins σ E) s
def PSx (X : Cx) (st : Stmt) (t : TX) : Prop := ∀ (pins : List (Addr × Obj)) (s : Shared) (σ : St) (H : Hp) (E : XK), Inv X pins σ H s → t E σ H → wpAny (model X.prog X.w) X.A (exec st X.env) (fun _ _ => False) (Lands X pins σ E) s
def PSsx (X : Cx) (st : List Stmt) (t : TX) : Prop := ∀ (pins : List (Addr × Obj)) (s : Shared) (σ : St) (H : Hp) (E : XK), Inv X pins σ H s → t E σ H → wpAny (model X.prog X.w) X.A (execs st X.env) (fun _ _ => False) (Lands X pins σ E) s
def xCall (sp : Sp) (dvs : List V) (t : TA) : TX := fun E σ H => t σ H fun vs H1 => sp (vs ++ dvs) H1 (fun _ _ => False) E
def xMeth (C : Addr) (m : Str) (sp : Sp) (dvs : List V) (ta : TE) (t : TA) : TX := fun E σ H => ta σ H fun x H1 => ∃ a dx fs, x = .ref a ∧ H1 a = some (.ins C dx fs) ∧ fs.lookup m = none ∧ t σ H1 fun vs H2 => sp (x :: (vs ++ dvs)) H2 (fun _ _ => False) E
def xMake (C : Addr) (sp : Sp) (dvs : List V) (t : TA) : TX := fun E σ H => t σ H fun vs H1 => ∀ x dx, H1 x = none → H1 dx = none → dx ≠ x → sp (.ref x :: (vs ++ dvs)) (upd (upd H1 dx (.own x)) x (.ins C dx [])) (fun _ _ => False) E
/-- it is never so -/
def xNo : TX := fun _ _ _ => False
section
variable {X : Cx} {k : Nat} {f C : Addr} {fd : FuncData} {ps : List Str} {sp : Sp} {dvs : List V} {ds : List Value} {E : XK} {x m : Str} {p pos apos : Pos} {e o : Expr} {es : List Expr} {ta : TE} {t : TA} {pins : List (Addr × Obj)} {σ : St} {H : Hp} {s : Shared}
end
/-! ### within a handler -/
/-- the exception as it lies while it is handled -/
def xh (ea C : Addr) (dx : Option Addr) : HO := .ext fun h => ∃ o vs, h.get? ea = some o ∧ o.cls = .ref C ∧ o.dict = dx ∧ o.data = .fields vs
/-- e.f of it -/
def tXFld (K : PySem.W.Frag) (ta : TE) (f : Str) : TE := fun σ H Q => ta σ H fun x H1 => ∃ ea C d fs v, x = .ref ea ∧ H1 ea = some (xh ea C (some d)) ∧ H1 d = some (xdo d fs) ∧ XCls K C ∧ NoAttr K C f ∧ fs.lookup f = some v ∧ Q v H1
section
variable {X : Cx} {e : Expr} {f : Str} {pos : Pos} {ta : TE}
end
/-- the context of a handler's suite -/
abbrev Cx.han (X : Cx) (ea : Addr) : Cx := { X with A := X.A.mark (some (.ref ea)), calm := false }
theorem Inv.han {X : Cx} {pins : List (Addr × Obj)} {σ : St} {H : Hp} {s : Shared} (I : Inv X pins σ H s) (ea : Addr) : Inv (X.han ea) pins σ H s :=
  ⟨⟨I.ok.mod, I.ok.kind, I.ok.glob, I.ok.blt, I.ok.above, I.ok.inj, I.ok.has, I.ok.cab, (fun z => nomatch z), I.ok.frames, I.ok.stk, I.ok.exf, I.ok.bs, I.ok.bsz, I.ok.noex, I.ok.exfs, I.ok.funs, I.ok.frf⟩, I.os, I.bare, I.base, I.loc, I.cell, I.free, I.freeC, I.pin, I.hok, I.len⟩
section
variable {X : Cx} {pins : List (Addr × Obj)} {σ : St} {H H' : Hp} {s s' : Shared} {ea C : Addr} {dx : Option Addr} {B : Heap} {fl : Value}
/-- nothing that stood ahead is the exception -/
theorem Thr.new (T : Thr X.prog X.w X.stack H s ea C dx fl B H' s') (I : Inv X pins σ H s) {b : Addr} {o : Obj} (e : s.heap.get? b = some o) : b ≠ ea := by
  rintro rfl
  obtain ⟨a0, f⟩ := T.fly
  by_cases hb : b ∈ frs X.stack
  · obtain ⟨sl, e1⟩ := T.slo b o hb e
    obtain ⟨oe, vs, _, _, _, ge, _, _, dt, _⟩ := f.tale
    obtain ⟨_, o1, ho1, nf⟩ := f.fun'.mem hb
    rw [ge] at ho1
    cases ho1
    exact nf _ dt
  · obtain ⟨o', e1⟩ := T.bas.there b o e hb
    rw [f.new] at e1
    cases e1
theorem Thr.none (T : Thr X.prog X.w X.stack H s ea C dx fl B H' s') : H' ea = none := by
  obtain ⟨a0, f⟩ := T.fly
  cases q : H' ea with
  | none => rfl
  | some u =>
    obtain ⟨o, e⟩ := (T.hok ea u q).here
    rw [f.new] at e
    cases e
/-- a next station -/
theorem Thr.on {fl' : Value} {h2 : Heap} {a0 : Value} (T : Thr X.prog X.w X.stack H s ea C dx fl B H' s') (f2 : Fly B X.stack ea (.ref C) dx a0 fl' h2) (u : s'.heap.UpToSlots h2) (I : Inv X pins σ H s) : Thr X.prog X.w X.stack H s ea C dx fl' B H' { s' with heap := h2 } :=
  ⟨T.os, T.bare, ⟨a0, f2⟩, T.hok, T.bas, fun b o hb e => by
    obtain ⟨sl, e1⟩ := T.slo b o hb e
    obtain ⟨_, o1, ho1, nf⟩ := I.stack.mem hb
    rw [e] at ho1
    cases ho1
    obtain ⟨sl2, e2⟩ := u b _ e1 nf
    exact ⟨sl2, e2⟩⟩
end
/-! ### handlers -/
section
variable {X : Cx} {pins : List (Addr × Obj)} {σ : St} {H : Hp} {s : Shared} {M : Model} {A : Around} {E : Value → Shared → Prop}
end
abbrev THs := Addr → Addr → Option Addr → TS
def PH (X : Cx) (hs : List ExceptHandler) (th : THs) : Prop :=
  ∀ (pins : List (Addr × Obj)) (σ : St) (H H' : Hp) (D : Ends) (s s' : Shared) (ea C : Addr) (dx : Option Addr) (B : Heap), Inv X pins σ H s → Thr X.prog X.w X.stack H s ea C dx .none B H' s' → th C ea dx D σ H' →
    wpAny (model X.prog X.w) X.A (handleBy (.ref ea) X.env hs) (SP X pins D) X.xe s'
def Ends.less (D : Ends) (i : Nat) : Ends := { nx := fun σ H => D.nx (σ.set i none) H, rt := D.rt, bk := fun σ H => D.bk (σ.set i none) H, ct := fun σ H => D.ct (σ.set i none) H }
def tAs (K : PySem.W.Frag) (Ck : Addr) (i : Nat) (ts : TS) (rest : THs) : THs := fun C ea dx D σ H =>
  (PySem.W.exmOne K (.ref C) (.ref Ck) = some true ∧ ts (D.less i) (σ.set i (some (.ref ea))) (upd H ea (xh ea C dx))) ∨ (PySem.W.exmOne K (.ref C) (.ref Ck) = some false ∧ rest C ea dx D σ H)
def tBare (K : PySem.W.Frag) (Ck : Addr) (ts : TS) (rest : THs) : THs := fun C ea dx D σ H =>
  (PySem.W.exmOne K (.ref C) (.ref Ck) = some true ∧ ts D σ (upd H ea (xh ea C dx))) ∨ (PySem.W.exmOne K (.ref C) (.ref Ck) = some false ∧ rest C ea dx D σ H)
def tNoH : THs := fun _ _ _ _ _ _ => False
def tTry (tb : TS) (tx : TX) (th : THs) : TS := fun D σ H => tb D σ H ∨ ∃ E, tx E σ H ∧ ∀ C dx H' ea, E (.ref C) dx H' → H' ea = none → th C ea dx D σ H'
section
variable {X : Cx} {x n : Str} {np hpos pos : Pos} {b₀ : Stmt} {suite body : List Stmt} {h₀ : ExceptHandler} {rest : List ExceptHandler} {Ck : Addr} {i : Nat} {ts tb : TS} {tx : TX} {tr : THs}
end
/-- a statement that never raises, in a def that may -/
theorem PS.nox {X : Cx} {st : Stmt} {t : TS} (h : PS X.nox st t) : PS X st t := fun pins s σ H D I hw =>
  wpAny_mono (h pins s σ H D (I.wish _) hw) (fun _ _ q => q.unwish) fun _ _ z => False.elim z
/-- an exception of class C that bears these fields -/
def Bears (E : XK) (H : Hp) (C : Addr) (fs : List (Str × V)) : Prop := ∀ d H', H d = none → Same H H' → H' d = some (xdo d fs) → E (.ref C) (some d) H'
/-- .. and that it is what came -/
def Got (H : Hp) (C : Addr) (fs : List (Str × V)) : XK := fun c dx H' => c = .ref C ∧ ∃ d, dx = some d ∧ H d = none ∧ Same H H' ∧ H' d = some (xdo d fs)
theorem Got.at {H H' : Hp} {C D ea : Addr} {fs : List (Str × V)} {dx : Option Addr} (g : Got H C fs (.ref D) dx H') (he : H' ea = none) : D = C ∧ ∃ d, dx = some d ∧ Same H (upd H' ea (xh ea C (some d))) ∧ upd H' ea (xh ea C (some d)) ea = some (xh ea C (some d)) ∧ upd H' ea (xh ea C (some d)) d = some (xdo d fs) := by
  obtain ⟨e, d, rfl, hd, sm, hdd⟩ := g
  cases e
  have ned : d ≠ ea := fun z => by rw [z, he] at hdd; cases hdd
  exact ⟨rfl, d, rfl, fun b o hb => (upd_ne (ne_of_none (sm _ _ hb) he)).trans (sm _ _ hb), upd_same, (upd_ne ned).trans hdd⟩
end L2

set_option Elab.async false
set_option linter.all false
set_option maxRecDepth 100000
set_option maxHeartbeats 4000000
namespace L2
open PySem PySem.Spec PyProof.Rows
/-! ### senders, as they stand -/
abbrev Spot := Int × Int
def spotV (x : Spot) : List V := [.int x.1, .int x.2]
structure SendM where
  L : Str → Option Int
  T : Str → Int
  P : Str → List Spot
  sz : Nat
def send0 : SendM := ⟨fun _ => none, fun _ => 0, fun _ => [], 0⟩
def sendF (l t p : Addr) : List (Str × V) := [("lives", .ref l), ("lasts", .ref t), ("spots", .ref p)]
/-- Z: lists that are none of its own -/
structure SendAt (C : Addr) (H : Hp) (r l t p : Addr) (Z : List Addr) (M : SendM) : Prop where
  obj : ∃ dx, H r = some (.ins C dx (sendF l t p))
  liv : ∃ kvs, H l = some (.dK kvs) ∧ kvs.length ≤ M.sz ∧ ∀ z, valV kvs (.inr z) = (M.L z).map V.int
  las : ∃ kvs, H t = some (.dK kvs) ∧ kvs.length ≤ M.sz ∧ ∀ z, valV kvs (.inr z) = (M.L z).map fun _ => V.int (M.T z)
  spo : ∃ kvs, H p = some (.dK kvs) ∧ kvs.length ≤ M.sz ∧ ∀ z, (M.L z).isSome = true → ∃ q, valV kvs (.inr z) = some (.ref q) ∧ LTups H q ((M.P z).map spotV) ∧ q ∉ Z
  len : ∀ z, (M.P z).length ≤ 8
  rl : r ≠ l
  rt : r ≠ t
  rp : r ≠ p
  lt : l ≠ t
  lp : l ≠ p
  tp : t ≠ p
theorem SendAt.chg {A : List Addr} {C : Addr} {H H' : Hp} {r l t p : Addr} {Z : List Addr} {M : SendM} (h : SendAt C H r l t p Z M) (c : Chg A H H') (hr : r ∉ A) (hl : l ∉ A) (ht : t ∉ A) (hp : p ∉ A) (hz : ∀ b ∈ A, b ∈ Z ∨ ∀ xs, H b ≠ some (.lst xs)) : SendAt C H' r l t p Z M := by
  obtain ⟨dx, e⟩ := h.obj
  obtain ⟨k1, e1, l1, v1⟩ := h.liv
  obtain ⟨k2, e2, l2, v2⟩ := h.las
  obtain ⟨k3, e3, l3, v3⟩ := h.spo
  refine ⟨⟨dx, c.keep _ _ e hr⟩, ⟨k1, c.keep _ _ e1 hl, l1, v1⟩, ⟨k2, c.keep _ _ e2 ht, l2, v2⟩, ⟨k3, c.keep _ _ e3 hp, l3, fun z hzz => ?_⟩, h.len, h.rl, h.rt, h.rp, h.lt, h.lp, h.tp⟩
  obtain ⟨q, a1, a2, a3⟩ := v3 z hzz
  refine ⟨q, a1, a2.chg c fun m => ?_, a3⟩
  rcases hz q m with y | y
  · exact a3 y
  · obtain ⟨ts, b1, _⟩ := a2
    exact y _ b1
theorem SendAt.same {C : Addr} {H H' : Hp} {r l t p : Addr} {Z : List Addr} {M : SendM} (h : SendAt C H r l t p Z M) (s : Same H H') : SendAt C H' r l t p Z M := h.chg (A := []) (Chg.of_same s) (by simp) (by simp) (by simp) (by simp) (by simp)
theorem SendAt.less {C : Addr} {H : Hp} {r l t p : Addr} {Z Z' : List Addr} {M : SendM} (h : SendAt C H r l t p Z M) (hz : ∀ b ∈ Z', b ∈ Z ∨ H b = none) : SendAt C H r l t p Z' M := by
  obtain ⟨k3, e3, l3, v3⟩ := h.spo
  refine ⟨h.obj, h.liv, h.las, ⟨k3, e3, l3, fun z hzz => ?_⟩, h.len, h.rl, h.rt, h.rp, h.lt, h.lp, h.tp⟩
  obtain ⟨q, a1, a2, a3⟩ := v3 z hzz
  refine ⟨q, a1, a2, fun m => ?_⟩
  rcases hz q m with y | y
  · exact a3 y
  · obtain ⟨ts, b1, _⟩ := a2
    rw [y] at b1
    cases b1
def SendM.hail (M : SendM) (n : Str) : SendM := { M with
  L := fun z => if z = n then some ((M.L n).getD 0 + 1) else M.L z
  T := fun z => if z = n then (if (M.L n).getD 0 = 0 then 0 else M.T n) else M.T z
  P := fun z => if z = n then (if (M.L n).getD 0 = 0 then [] else M.P n) else M.P z
  sz := M.sz + 1 }
def SendM.note (M : SendM) (n : Str) (k : Int) (x : Spot) : SendM := { M with
  T := fun z => if z = n then k else M.T z
  P := fun z => if z = n then (M.P n ++ [x]).drop ((M.P n ++ [x]).length - 8) else M.P z
  sz := M.sz + 1 }
def sp_s_init (C : Addr) : Sp := fun vs H Q _ => ∃ (x dx : Addr), vs = [.ref x] ∧ H x = some (.ins C dx []) ∧
  ∀ l t p H', H l = none → H t = none → H p = none → Chg [x] H H' → SendAt C H' x l t p [] send0 → Q .non H'
def sp_s_hail (C : Addr) : Sp := fun vs H Q _ => ∃ (r l t p : Addr) (Z : List Addr) (M : SendM) (n : Str), vs = [.ref r, .str n] ∧ SendAt C H r l t p Z M ∧ M.sz ≤ 100000 ∧ (∀ v, M.L n = some v → 1 ≤ v) ∧ (∀ b ∈ Z, ∃ o, H b = some o) ∧
  ∀ u H', Chg [l, t, p] H H' → SendAt C H' r l t p Z (M.hail n) → H u = none → H' u = some (.tup [.int ((M.L n).getD 0 + 1), .int ((M.hail n).T n)]) → Q (.ref u) H'
def sp_s_life (C : Addr) : Sp := fun vs H Q _ => ∃ (r l t p : Addr) (Z : List Addr) (M : SendM) (n : Str), vs = [.ref r, .str n] ∧ SendAt C H r l t p Z M ∧ Q (.int ((M.L n).getD 0)) H
def sp_s_last (C : Addr) : Sp := fun vs H Q _ => ∃ (r l t p : Addr) (Z : List Addr) (M : SendM) (n : Str), vs = [.ref r, .str n] ∧ SendAt C H r l t p Z M ∧ Q (.int (if (M.L n).isSome = true then M.T n else 0)) H
def sp_s_need (C CN : Addr) : Sp := fun vs H Q E => ∃ (r l t p : Addr) (Z : List Addr) (M : SendM) (n : Str), vs = [.ref r, .str n] ∧ SendAt C H r l t p Z M ∧
  (((M.L n).isSome = true ∧ Q .non H) ∨ (M.L n = none ∧ Bears E H CN [("name", .str n)]))
def sp_s_allow (C CN CF : Addr) : Sp := fun vs H Q E => ∃ (r l t p : Addr) (Z : List Addr) (M : SendM) (n : Str) (k : Int), vs = [.ref r, .str n, .int k] ∧ SendAt C H r l t p Z M ∧
  ((M.L n = none ∧ Bears E H CN [("name", .str n)]) ∨ ∃ v, M.L n = some v ∧ ((k = v ∧ Q .non H) ∨ (k ≠ v ∧ Bears E H CF [("life", .int v)])))
def sp_s_spot (C CN CG CT : Addr) : Sp := fun vs H Q E => ∃ (r l t p : Addr) (Z : List Addr) (M : SendM) (n : Str) (k : Int), vs = [.ref r, .str n, .int k] ∧ SendAt C H r l t p Z M ∧
  ((M.L n = none ∧ Bears E H CN [("name", .str n)]) ∨ ((M.L n).isSome = true ∧ (
    (M.T n + 1 < k ∧ Bears E H CG [("due", .int (M.T n + 1))]) ∨ (k = M.T n + 1 ∧ Q .non H) ∨ (k < M.T n + 1 - (M.P n).length ∧ Bears E H CT [("number", .int k)]) ∨
    (∃ (i : Nat) (x : Spot), k = M.T n + 1 - (M.P n).length + i ∧ (M.P n)[i]? = some x ∧ ∀ u, H u = some (.tup (spotV x)) → Q (.ref u) H))))
def sp_s_note (C CN CG CT : Addr) : Sp := fun vs H Q E => ∃ (r l t p : Addr) (Z : List Addr) (M : SendM) (n : Str) (k a b : Int), vs = [.ref r, .str n, .int k, .int a, .int b] ∧ SendAt C H r l t p Z M ∧
  ((M.L n = none ∧ Bears E H CN [("name", .str n)]) ∨ ((M.L n).isSome = true ∧ (
    (M.T n + 1 < k ∧ Bears E H CG [("due", .int (M.T n + 1))]) ∨ (k < M.T n + 1 ∧ Bears E H CT [("number", .int k)]) ∨
    (k = M.T n + 1 ∧ M.sz ≤ 100000 ∧ (∀ b ∈ Z, ∃ o, H b = some o) ∧ ∀ H', Chg [t, p] H H' → SendAt C H' r l t p Z (M.note n k (a, b)) → Q .non H'))))
/-! ### pairs that are alike -/
def spotD (x : Spot) : PyData := .tuple [.int x.1, .int x.2]
/-- the last eight -/
def last8 (l : List Spot) : List Spot := l.drop (l.length - 8)
end L2

set_option Elab.async false
set_option linter.all false
set_option maxRecDepth 100000
set_option maxHeartbeats 4000000
namespace L2
open PySem PySem.Spec PyProof.Rows
/-! ### the names that the laws draw -/
def nmSz1 (c k : Int) : Nat := (mixN c (22 + k) % 12).toNat
def nmSz3 (c : Int) : Nat := (1 + mixN c 1 % 12).toNat
def nmAt (c : Int) : Int := mixN c 2 % (1 + mixN c 1 % 12)
def nm6 (c way k : Int) : List Nat :=
  if way = 0 then List.replicate (k + 1).toNat (ltr36 (mixN c 21))
  else if way = 1 then ltr36 (mixN c 21 + 5 * k) :: (List.range (nmSz1 c k)).map fun (j : Nat) => ltr36 (mixN c (200 + 12 * k + (0 + (j : Int))))
  else if way = 2 then (List.range 12).map fun (j : Nat) => ltr36 (mixN c 21 + ((0 + (j : Int)) + k) % 12)
  else (List.range (nmSz3 c)).map fun (j : Nat) => ltr36 (mixN c (3 + (0 + (j : Int))) + 5 * k * (if 0 + (j : Int) = nmAt c then 1 else 0))
def sp_nm6 : Sp := fun vs H Q _ => ∃ (c way k : Int), vs = [.int c, .int way, .int k] ∧ 0 ≤ way ∧ 0 ≤ k ∧ k ≤ 40 ∧ ∀ H', Same H H' → Q (.str (S (nm6 c way k))) H'
def names6 (c : Int) (m : Nat) : List (List Nat) := (List.range m).map fun (k : Nat) => nm6 c (mixN c 20 % 6) (0 + (k : Int))
def sp_names6 : Sp := fun vs H Q _ => ∃ (c : Int) (m : Nat), vs = [.int c, .int m] ∧ m ≤ 40 ∧ ∀ D H', H D = none → Same H H' → H' D = some (.lst ((names6 c m).map fun l => V.str (S l))) → Q (.ref D) H'
theorem nm6_in (c way k : Int) : ∀ x ∈ nm6 c way k, ∃ n, x = ltr36 n := by
  intro x hx
  unfold nm6 at hx
  split at hx
  · exact ⟨_, (List.mem_replicate.mp hx).2⟩
  · split at hx
    · rcases List.mem_cons.mp hx with e | e
      · exact ⟨_, e⟩
      · obtain ⟨j, _, rfl⟩ := List.mem_map.mp e; exact ⟨_, rfl⟩
    · split at hx
      · obtain ⟨j, _, rfl⟩ := List.mem_map.mp hx; exact ⟨_, rfl⟩
      · obtain ⟨j, _, rfl⟩ := List.mem_map.mp hx; exact ⟨_, rfl⟩
/-- different numbers, different names -/
theorem nm6_inj {c way k j : Int} (hk : 0 ≤ k) (hk1 : k < 12) (hj : 0 ≤ j) (hj1 : j < 12) (h : nm6 c way k = nm6 c way j) : k = j := by
  unfold nm6 at h
  split at h
  · have := congrArg List.length h
    rw [List.length_replicate, List.length_replicate] at this
    omega
  · split at h
    · have := ltr36_inj (List.cons.inj h).1
      omega
    · split at h
      · have h0 := congrArg (fun l => l[0]?) h
        simp only [List.getElem?_map] at h0
        have e : (List.range 12)[0]? = some 0 := rfl
        rw [e] at h0
        have := ltr36_inj (Option.some.inj h0)
        omega
      · have b1 := Int.emod_nonneg (mixN c 1) (show (12 : Int) ≠ 0 by decide)
        have b2 : 0 ≤ nmAt c ∧ nmAt c < 1 + mixN c 1 % 12 := ⟨Int.emod_nonneg _ (by omega), Int.emod_lt_of_pos _ (by omega)⟩
        have h0 := congrArg (fun l => l[(nmAt c).toNat]?) h
        simp only [List.getElem?_map] at h0
        have e : (List.range (nmSz3 c))[(nmAt c).toNat]? = some (nmAt c).toNat := by
          rw [List.getElem?_range]
          unfold nmSz3; omega
        rw [e] at h0
        have h1 := ltr36_inj (Option.some.inj h0)
        have h2 : 0 + ((nmAt c).toNat : Int) = nmAt c := by omega
        rw [h2, if_pos rfl, Int.mul_one, Int.mul_one] at h1
        omega
theorem ltr36_ok (n : Int) : ltr36 n < 1114112 := by
  have h := List.mem_of_getElem? (ltr36_at n)
  have : ∀ x ∈ T36, x < 1114112 := by decide
  exact this _ h
end L2

set_option Elab.async false
set_option linter.all false
set_option maxRecDepth 100000
set_option maxHeartbeats 4000000
namespace L2
open PySem PySem.Spec PyProof.Rows
/-! ### min(list of ints) -/
section
variable {X : Cx}
def rMinL (K : PySem.W.Frag) : List V → Hp → VK → Prop := fun xs H Q => ∃ (p : Addr) (ns : List Int), xs = [.ref p] ∧ SqL K H p (ns.map V.int) ∧ ns ≠ [] ∧ ∀ m ∈ ns, (∀ a ∈ ns, m ≤ a) → Q (.int m) H
end
/-! ### for x in d.values() -/
section
variable {X : Cx} {o : Expr} {apos cpos : Pos} {td : TE}
end
end L2

set_option Elab.async false
set_option linter.all false
set_option maxRecDepth 100000
set_option maxHeartbeats 4000000
namespace L2
open PySem PySem.Spec PyProof.Rows
/-! ### sorted(d.values()) -/
theorem kv_vals {κ : Type} : ∀ {kvs : List (κ × V)} {vs : List (κ × Value)}, KV kvs vs → Vals (kvs.map (·.2)) (vs.map (·.2))
  | _, _, .nil => .nil
  | _, _, .cons r t => .cons r.2 (kv_vals t)
section
variable {X : Cx} {o : Expr} {apos cpos : Pos} {td : TE}
def tSortV (td : TE) : TE := fun σ H Q => td σ H fun x H1 => ∃ (d : Addr) (kvs : List (Key × V)) (ns : List Int), x = .ref d ∧ H1 d = some (.dK kvs) ∧ kvs.map (·.2) = ns.map V.int ∧ ns.length < 64 ∧
  ∀ l (ms : List Int), H1 l = none → ms.Perm ns → ms.Pairwise (· ≤ ·) → Q (.ref l) (upd H1 l (.lst (ms.map V.int)))
end
end L2

set_option Elab.async false
set_option linter.all false
set_option maxRecDepth 100000
set_option maxHeartbeats 4000000
namespace L2
open PySem PySem.Spec PyProof.Rows
/-! ### list(d) of a dict; l.count(k) -/
def rListD : List V → Hp → VK → Prop := fun xs H Q => ∃ d kvs, xs = [.ref d] ∧ H d = some (.dK kvs) ∧ kvs.length ≤ 1000000 ∧ (NdK kvs → ∀ l, H l = none → Q (.ref l) (upd H l (.lst (kvs.map fun kv => kV kv.1))))
section
variable {X : Cx}
def rCount (K : PySem.W.Frag) : V → List V → Hp → VK → Prop := fun x vs H Q => ∃ (l : Addr) (ns : List Int) (k : Int), x = .ref l ∧ vs = [.int k] ∧ SqL K H l (ns.map V.int) ∧ Q (.int (ns.count k : Nat)) H
end
/-- list(x) of a list, a tuple or a dict -/
def rListO (K : PySem.W.Frag) : List V → Hp → VK → Prop := fun xs H Q => rListOf K xs H Q ∨ rListD xs H Q
end L2

set_option Elab.async false
set_option linter.all false
namespace L2
open PySem PySem.Spec PyProof.Rows
/-! ### a body walked piece by piece; lists by their length -/
theorem cut1 {t1 tR : TS} {D : Ends} {σ : L2.St} {H : Hp} (h : ∀ R, R = tR → tSeq t1 R D σ H) : tSeq t1 tR D σ H := h _ rfl
theorem cut2 {t1 t2 tR : TS} {D : Ends} {σ : L2.St} {H : Hp} (h : ∀ R, R = tR → tSeq t1 (tSeq t2 R) D σ H) : tSeq t1 (tSeq t2 tR) D σ H := h _ rfl
theorem cut4 {t1 t2 t3 t4 tR : TS} {D : Ends} {σ : L2.St} {H : Hp} (h : ∀ R, R = tR → tSeq t1 (tSeq t2 (tSeq t3 (tSeq t4 R))) D σ H) : tSeq t1 (tSeq t2 (tSeq t3 (tSeq t4 tR))) D σ H := h _ rfl
theorem cut5 {t1 t2 t3 t4 t5 tR : TS} {D : Ends} {σ : L2.St} {H : Hp} (h : ∀ R, R = tR → tSeq t1 (tSeq t2 (tSeq t3 (tSeq t4 (tSeq t5 R)))) D σ H) : tSeq t1 (tSeq t2 (tSeq t3 (tSeq t4 (tSeq t5 tR)))) D σ H := h _ rfl
theorem el1 {α : Type} {p : List α → Prop} (h : ∀ a, p [a]) : ∀ us : List α, us.length = 1 → p us
  | [a], _ => h a
theorem el2 {α : Type} {p : List α → Prop} (h : ∀ a b, p [a, b]) : ∀ us : List α, us.length = 2 → p us
  | [a, b], _ => h a b
theorem el3 {α : Type} {p : List α → Prop} (h : ∀ a b c, p [a, b, c]) : ∀ us : List α, us.length = 3 → p us
  | [a, b, c], _ => h a b c
theorem el4 {α : Type} {p : List α → Prop} (h : ∀ a b c d, p [a, b, c, d]) : ∀ us : List α, us.length = 4 → p us
  | [a, b, c, d], _ => h a b c d
end L2

set_option Elab.async false
set_option linter.all false
set_option maxRecDepth 100000
set_option maxHeartbeats 4000000
namespace L2
open PySem PySem.Spec PyProof.Rows
/-! ### orders: sorted lists of whole numbers, of texts -/
def leT (a b : List Nat) : Bool := !decide (b < a)
def srtT (l : List (List Nat)) : List (List Nat) := l.mergeSort leT
def srtI (l : List Int) : List Int := l.mergeSort fun a b => decide (a ≤ b)
theorem leT_iff {a b : List Nat} : leT a b = true ↔ a ≤ b := by
  unfold leT
  rw [Bool.not_eq_true', decide_eq_false_iff_not]
  exact List.not_lt
theorem srtT_perm (l : List (List Nat)) : (srtT l).Perm l := List.mergeSort_perm _ _
theorem srtI_perm (l : List Int) : (srtI l).Perm l := List.mergeSort_perm _ _
theorem srtT_pw (l : List (List Nat)) : (srtT l).Pairwise fun a b => a ≤ b := by
  refine (List.pairwise_mergeSort (le := leT) (fun a b c h1 h2 => ?_) (fun a b => ?_) l).imp fun h => leT_iff.mp h
  · rw [leT_iff] at *; exact List.le_trans h1 h2
  · rw [Bool.or_eq_true, leT_iff, leT_iff]; exact List.le_total a b
theorem srtI_pw (l : List Int) : (srtI l).Pairwise (· ≤ ·) := by
  refine (List.pairwise_mergeSort (le := fun (a b : Int) => decide (a ≤ b)) (fun a b c h1 h2 => ?_) (fun a b => ?_) l).imp fun h => of_decide_eq_true h
  · simp only [decide_eq_true_eq] at *; omega
  · simp only [Bool.or_eq_true, decide_eq_true_eq]; omega
theorem srtT_uniq {l m : List (List Nat)} (h : m.Perm l) (hs : m.Pairwise fun a b => a ≤ b) : m = srtT l :=
  List.Perm.eq_of_pairwise (le := fun a b => a ≤ b) (fun a b _ _ h1 h2 => List.le_antisymm h1 h2) hs (srtT_pw l) (h.trans (srtT_perm l).symm)
theorem srtI_uniq {l m : List Int} (h : m.Perm l) (hs : m.Pairwise (· ≤ ·)) : m = srtI l :=
  List.Perm.eq_of_pairwise (le := fun a b => a ≤ b) (fun a b _ _ h1 h2 => Int.le_antisymm h1 h2) hs (srtI_pw l) (h.trans (srtI_perm l).symm)
theorem srtI_congr {l m : List Int} (h : m.Perm l) : srtI m = srtI l := srtI_uniq ((srtI_perm m).trans h) (srtI_pw m)
theorem srtT_len (l : List (List Nat)) : (srtT l).length = l.length := (srtT_perm l).length_eq
theorem srtI_len (l : List Int) : (srtI l).length = l.length := (srtI_perm l).length_eq
theorem srtT_mem {l : List (List Nat)} {x : List Nat} : x ∈ srtT l ↔ x ∈ l := (srtT_perm l).mem_iff
theorem srtI_mem {l : List Int} {x : Int} : x ∈ srtI l ↔ x ∈ l := (srtI_perm l).mem_iff
theorem srtT_nd {l : List (List Nat)} (h : l.Nodup) : (srtT l).Nodup := (srtT_perm l).nodup_iff.mpr h
theorem srtI_nd {l : List Int} (h : l.Nodup) : (srtI l).Nodup := (srtI_perm l).nodup_iff.mpr h
theorem rises_pw : ∀ (p : Str) (l : List Str), risingS p l = true → (p :: l).Pairwise fun a b => a.cps.toList ≤ b.cps.toList
  | p, [], _ => by simp
  | p, x :: r, h => by
    unfold risingS at h
    rw [Bool.and_eq_true] at h
    obtain ⟨h1, h2⟩ := h
    have ih := rises_pw x r h2
    have hpx : p.cps.toList ≤ x.cps.toList := by
      rw [Bool.not_eq_true', ltCps_eq, decide_eq_false_iff_not] at h1
      exact List.not_lt.mp h1
    rw [List.pairwise_cons]
    refine ⟨fun y hy => ?_, ih⟩
    rcases List.mem_cons.mp hy with rfl | hy
    · exact hpx
    · exact List.le_trans hpx ((List.pairwise_cons.mp ih).1 y hy)
theorem sortedS_pw {l : List Str} (h : sortedS l = true) : l.Pairwise fun a b => a.cps.toList ≤ b.cps.toList := by
  cases l with
  | nil => exact .nil
  | cons x r => exact rises_pw x r h
theorem srtT_of {ls : List (List Nat)} {ss : List Str} (hp : ss.Perm (ls.map S)) (hs : sortedS ss = true) : ss = (srtT ls).map S := by
  have e1 : ss = (ss.map fun z => z.cps.toList).map S := by
    rw [List.map_map]
    exact (List.map_id ss).symm.trans (List.map_congr_left fun z _ => S_of z)
  have e2 : (ss.map fun z => z.cps.toList) = srtT ls := by
    refine srtT_uniq ?_ ?_
    · have := hp.map (fun z : Str => z.cps.toList)
      rw [List.map_map] at this
      have e3 : ls.map ((fun z : Str => z.cps.toList) ∘ S) = ls := by
        refine (List.map_congr_left fun l _ => ?_).trans (List.map_id ls)
        show l.toArray.toList = l
        simp
      rwa [e3] at this
    · rw [List.pairwise_map]; exact sortedS_pw hs
  rw [e1, e2]
/-! ### the heap never shrinks -/
theorem upd_size (h : Heap) (a : Addr) (f : Obj → Obj) : h.objs.size ≤ (h.update a f).objs.size := by
  unfold Heap.update
  simp
theorem runs_size {M : Model} {Γ : PySem.Ctx} {p : Pos} {t : Sem PySem.Fin} {fs : List Frame} {s s' : Shared} {e : End} (h : Runs M Γ p t fs s e s') : s.heap.objs.size ≤ s'.heap.objs.size := by
  induction h <;> first
    | exact Nat.le_refl _
    | assumption
    | (rename_i ih; exact ih)
    | (rename_i ih; exact Nat.le_trans (upd_size _ _ _) ih)
    | (rename_i ih; exact Nat.le_trans (by rw [size_push']; exact Nat.le_succ _) ih)
    | (rename_i ih1 ih2; exact Nat.le_trans ih1 ih2)
theorem wakes_size {M : Model} {Γ : PySem.Ctx} {p : Pos} {g : Nat} {r : Resume} {s s' : Shared} {res : GenResult} (h : Wakes M Γ p g r s res s') : s.heap.objs.size ≤ s'.heap.objs.size := by
  unfold Wakes at h
  split at h
  · exact h.elim
  · split at h
    · obtain ⟨e, s1, hr, _, _, rfl⟩ := h
      have := runs_size hr
      exact this
    · rw [h.2]; exact Nat.le_refl _
    · rw [h.2]; exact Nat.le_refl _
  · obtain ⟨e, s1, hr, _, _, rfl⟩ := h
    have := runs_size hr
    exact this
  · rw [h.2]; exact Nat.le_refl _
  · rw [h.2]; exact Nat.le_refl _
theorem wp_size {α : Type} {M : Model} {Γ : PySem.Ctx} (t : Sem α) : ∀ (Q : α → Pos → Shared → Prop) (E : Value → Pos → Shared → Prop) (p : Pos) (s : Shared) (n : Nat), n ≤ s.heap.objs.size → Sem.wp M Γ t Q E p s →
    Sem.wp M Γ t (fun a p' s' => Q a p' s' ∧ n ≤ s'.heap.objs.size) (fun e p' s' => E e p' s' ∧ n ≤ s'.heap.objs.size) p s := by
  induction t with
  | pure a => intro Q E p s n hn h; rw [Sem.wp] at h ⊢; exact ⟨h, hn⟩
  | raise a => intro Q E p s n hn h; rw [Sem.wp] at h ⊢; exact ⟨h, hn⟩
  | load a pt k ih => intro Q E p s n hn h; rw [Sem.wp] at h ⊢; obtain ⟨o, h1, h2⟩ := h; exact ⟨o, h1, ih _ _ _ _ _ _ hn h2⟩
  | update a pt f k ih => intro Q E p s n hn h; rw [Sem.wp] at h ⊢; exact ⟨h.1, ih _ _ _ _ _ _ (Nat.le_trans hn (upd_size _ _ _)) h.2⟩
  | alloc o k ih => intro Q E p s n hn h; rw [Sem.wp] at h ⊢; exact ih _ _ _ _ _ _ (Nat.le_trans hn (by rw [size_push']; exact Nat.le_succ _)) h
  | choose src m k ih => intro Q E p s n hn h; rw [Sem.wp] at h ⊢; exact ⟨h.1, ih _ _ _ _ _ _ hn h.2⟩
  | call c hd g l k ih =>
    intro Q E p s n hn h
    rw [Sem.wp] at h ⊢
    obtain ⟨r, s', hr, h2⟩ := h
    exact ⟨r, s', hr, ih _ _ _ _ _ _ (Nat.le_trans hn (runs_size hr)) h2⟩
  | genState g k ih => intro Q E p s n hn h; rw [Sem.wp] at h ⊢; obtain ⟨o, h1, h2⟩ := h; exact ⟨o, h1, ih _ _ _ _ _ _ hn h2⟩
  | resume g r l k ih =>
    intro Q E p s n hn h
    rw [Sem.wp] at h ⊢
    obtain ⟨r, s', hr, h2⟩ := h
    exact ⟨r, s', hr, ih _ _ _ _ _ _ (Nat.le_trans hn (wakes_size hr)) h2⟩
  | _ =>
    intro Q E p s n hn h
    rw [Sem.wp] at h
    first
    | exact h.elim
    | (rw [Sem.wp]; rename_i ih; exact ih _ _ _ _ _ _ hn h)
theorem any_size {α : Type} {M : Model} {A : Around} {t : Sem α} {Q : α → Shared → Prop} {E : Value → Shared → Prop} {s : Shared} (h : wpAny M A t Q E s) :
    wpAny M A t (fun a s' => Q a s' ∧ s.heap.objs.size ≤ s'.heap.objs.size) E s := fun Γ p hΓ =>
  Sem.wp_mono M Γ t (fun _ _ _ x => x) (fun _ _ _ x => x.1) p s (wp_size t _ _ p s s.heap.objs.size (Nat.le_refl _) (h Γ p hΓ))
/-! ### sorted(x) of a list of whole numbers, a list of texts, a dict by whole numbers, a dict by texts -/
def rSortT (K : PySem.W.Frag) : List V → Hp → VK → Prop := fun xs H Q => ∃ (p : Addr) (ls : List (List Nat)), xs = [.ref p] ∧ SqL K H p (ls.map fun l => V.str (S l)) ∧ ls.length < 64 ∧
  ∀ l, H l = none → Q (.ref l) (upd H l (.lst ((srtT ls).map fun l => V.str (S l))))
def rSortD : List V → Hp → VK → Prop := fun xs H Q => ∃ (d : Addr) (kvs : List (Key × V)) (ks : List Int), xs = [.ref d] ∧ H d = some (.dK kvs) ∧ kvs.map (·.1) = ks.map Sum.inl ∧ ks.length < 64 ∧
  (NdK kvs → ∀ l, H l = none → Q (.ref l) (upd H l (.lst ((srtI ks).map V.int))))
def rSortDT : List V → Hp → VK → Prop := fun xs H Q => ∃ (d : Addr) (kvs : List (Key × V)) (ks : List (List Nat)), xs = [.ref d] ∧ H d = some (.dK kvs) ∧ kvs.map (·.1) = ks.map (fun l => Sum.inr (S l)) ∧ ks.length < 64 ∧
  (NdK kvs → ∀ l, H l = none → Q (.ref l) (upd H l (.lst ((srtT ks).map fun l => V.str (S l)))))
theorem vals_strs {ls : List (List Nat)} : ∀ {us : List Value}, StrsAre us (ls.map S) → Vals (ls.map fun l => V.str (S l)) us := by
  induction ls with
  | nil => intro us h; cases h; exact .nil
  | cons l r ih =>
    intro us h
    cases h with
    | cons _ _ h1 => exact .cons ⟨_, rfl⟩ (ih h1)
section
variable {X : Cx}
theorem call_sortedT : CallR X (.builtin "sorted") (rSortT X.K) := by
  intro pins s σ H xs us Q I r h
  obtain ⟨p, ls, rfl, hq, h64, q⟩ := h
  obtain ⟨u, rfl, ru⟩ := vals1 r
  cases ru
  obtain ⟨its, rv, pl, hz⟩ := I.list hq
  have hi := strsAre_of rv
  have hlen := rv.length
  refine sorted_strs pl.isList hi (by rw [List.length_map] at hlen; omega) fun out ss' a1 a2 a3 => ?_
  obtain ⟨e, he⟩ := sortedAll_at s.heap its out
  have hss := srtT_of a2 a3
  subst hss
  have hz' : ((srtT ls).map fun l => V.str (S l)).length ≤ sizeLine := by
    rw [List.length_map, srtT_len]
    exact Nat.le_trans (Nat.le_of_lt h64) (by decide)
  exact ⟨.ref _, _, I.laid (t' := s.toks) (fun b o => sortedAll_old) (Nat.le_succ _) (show ObjOk X.prog X.w _ (sortedAll s.heap its out) _ (.lst _) from ⟨hz', out.toList, e, vals_strs a1, he⟩), rfl, q _ (I.hok.fresh (Nat.le_succ _))⟩
/-- the keys of a dict, as they are laid out -/
theorem keys_vals {kvs : List (Key × V)} {vs : List (Key × Value)} {acc : Array Value} (S : KV kvs vs) (hacc : acc.size = vs.length) (h : ∀ (i : Nat) (v : Value), acc[i]? = some v → ∃ (k : Key) (x : Value), vs[i]? = some (k, x) ∧ (mixKind X.prog X.w).is k v = true) : Vals (kvs.map fun kv => kV kv.1) acc.toList := by
  have key : ∀ (n : Nat) (ks : List (Key × V)) (l : List Value), ks.length = n → l.length = n → (∀ (i : Nat) k x v, ks[i]? = some (k, x) → l[i]? = some v → RelV (kV k) v) → Vals (ks.map fun kv => kV kv.1) l := by
    intro n
    induction n with
    | zero =>
      intro ks l h1 h2 _
      rw [List.length_eq_zero_iff.mp h1, List.length_eq_zero_iff.mp h2]
      exact .nil
    | succ n ih =>
      intro ks l h1 h2 h3
      match ks, l, h1, h2 with
      | (k, x) :: ks, v :: l, h1, h2 =>
        exact .cons (h3 0 k x v rfl rfl) (ih ks l (by simpa using h1) (by simpa using h2) fun i k x v a b => h3 (i + 1) k x v (by simpa using a) (by simpa using b))
  have hl : kvs.length = vs.length := Paired.length S
  refine key kvs.length kvs acc.toList rfl (by rw [Array.length_toList, hacc, hl]) fun i k x v h1 h2 => ?_
  obtain ⟨k', x', e1, e2⟩ := h i v (by rw [← Array.getElem?_toList]; exact h2)
  obtain ⟨u, hu, ru⟩ := KV.getP (vs := vs) S h1
  rw [hu] at e1
  cases e1
  exact kV_of e2
theorem call_sortedD (hc : X.calm = true) : CallR X (.builtin "sorted") rSortD := by
  intro pins s σ H xs us Q I r h
  obtain ⟨d, kvs, ks, rfl, ed, hk, h64, q⟩ := h
  obtain ⟨u, rfl, rx⟩ := vals1 r
  cases rx
  obtain ⟨t1, t2, t3⟩ := isD_at I (.inl ⟨kvs, .inl ed⟩)
  obtain ⟨od, hod, IF⟩ := I.freeze ed
  obtain ⟨vs, ep, SS, _⟩ := says_of (I.hok d _ ed) hod
  have D := SS.2 _ hod
  have hkl : kvs.length = ks.length := by have := congrArg List.length hk; rwa [List.length_map, List.length_map] at this
  have hvl : vs.length = ks.length := by rw [← hkl]; exact (Paired.length SS.1).symm
  refine Calls.call_function_entry kind_sorted plain_sorted entry_sorted (args_sorted1 _) ?_
  unfold Builtin.«sorted»
  refine wpAny_bind (m := checkCount "sorted" 1 1 _) (wpAny_pure ?_)
  refine wpAny_bind (thn (any_size (PySem.W.kdu_collect (A := X.A.in1) (s := s) (R := fun l s' => ∃ (h' : Heap) (tk : Nat) (acc : Array Value), l = acc.toList ∧ s' = { s with heap := h', toks := tk } ∧ (∀ b o, s.heap.get? b = some o → h'.get? b = some o) ∧ ItemsOf (fun (i : Nat) (v : Value) => ∃ (k : Key) (x : Value), vs[i]? = some (k, x) ∧ (mixKind X.prog X.w).is k v = true) acc vs.length) (PySem.W.kdl_dict (knd := mixKind X.prog X.w) (kvs := vs) (ep := ep) t3) (I.ok.hd hc) D (by rw [hvl]; exact Nat.le_trans (Nat.le_of_lt h64) (by decide)) fun h' tk acc hkp hacc => ⟨h', tk, acc, rfl, rfl, hkp, hacc⟩)) fun l s' hh => ?_)
  obtain ⟨⟨h', tk, acc, rfl, rfl, hkp, hacc⟩, hsz1⟩ := hh
  have hsz1 : s.heap.objs.size ≤ h'.objs.size := hsz1
  have hvals := keys_vals (X := X) SS.1 hacc.1 hacc.2
  have ekv : (kvs.map fun kv => kV kv.1) = ks.map V.int := by
    have : (kvs.map (·.1)).map kV = (ks.map Sum.inl).map kV := by rw [hk]
    rw [List.map_map, List.map_map] at this
    exact this
  rw [ekv] at hvals
  have hi := intsAre_of hvals
  have hal : acc.toList.length = ks.length := by have := hvals.length; rw [List.length_map] at this; exact this.symm
  refine wpAny_bind (wpAny_newList ?_ (by rw [hal]; exact Nat.le_trans (Nat.le_of_lt h64) (by decide)))
  have hoL : (h'.push (seqObj "list" acc.toList.toArray 0)).get? h'.objs.size = some (seqObj "list" acc.toList.toArray 0) := Heap.get?_push_size _ rfl
  show wpAny _ _ _ _ _ { s with heap := h'.push (seqObj "list" acc.toList.toArray 0), toks := tk }
  refine wpAny_bind (wpAny_holding (wpAny_call_entry slot_list_sort ⟨_, hoL, rfl⟩ entry_list_sort (list_sort_tree hoL hi (by omega) fun out ns' a1 a2 a3 => ⟨_, rfl, ?_⟩) (args_list_sort _)))
  refine wpAny_pure ⟨_, rfl, ?_⟩
  obtain ⟨e, he'⟩ := sortedHeap_at (out := out) hoL
  have hns := srtI_uniq a2 a3
  subst hns
  have hz' : ((srtI ks).map V.int).length ≤ sizeLine := by
    rw [List.length_map, srtI_len]
    exact Nat.le_trans (Nat.le_of_lt h64) (by decide)
  refine ⟨.ref _, _, I.laid (t' := tk) (fun b o hb => ?_) hsz1 (show ObjOk X.prog X.w _ (sortedHeap (h'.push (seqObj "list" acc.toList.toArray 0)) h'.objs.size acc.toList out) _ (.lst _) from ⟨hz', out.toList, e, vals_ints a1, he'⟩), rfl, q (by unfold NdK; rw [KV.keys SS.1]; obtain ⟨_, _, _, _, _, _, _, n⟩ := D; exact n) _ (I.hok.fresh hsz1)⟩
  have hb' := hkp b o hb
  have hlt := Heap.lt_size hb'
  rw [sortedHeap_old (Nat.ne_of_lt hlt) (by rw [size_push']; exact Nat.lt_succ_of_lt hlt)]
  exact Heap.get?_push_of_some _ hb'
theorem call_dictC : CallR X (.type "dict") (fun xs H Q => ∃ d kvs, xs = [.ref d] ∧ H d = some (.dK kvs) ∧ ∀ p, H p = none → Q (.ref p) (upd H p (.dK kvs))) := by
  intro pins s σ H xs us Q I r h
  obtain ⟨d, kvs, rfl, ed, q⟩ := h
  obtain ⟨u, rfl, rx⟩ := vals1 r
  cases rx
  exact d_copyOf I (.inl ed) fun p s' hp I' => ⟨.ref p, _, I', rfl, q p hp⟩
end
/-- dict(d) -/
def rDict (K : PySem.W.Frag) : List V → Hp → VK → Prop := fun xs H Q => ∃ d kvs, xs = [.ref d] ∧ H d = some (.dK kvs) ∧ ∀ p, H p = none → Q (.ref p) (upd H p (.dK kvs))
theorem call_dictK {X : Cx} {K : PySem.W.Frag} (hK : X.K = K := by rfl) : CallR X (.type "dict") (rDict K) := call_dictC
def rSortA (K : PySem.W.Frag) : List V → Hp → VK → Prop := fun xs H Q => rSortI K xs H Q ∨ rSortT K xs H Q ∨ rSortD xs H Q
theorem call_sortedA {X : Cx} {K : PySem.W.Frag} (hc : X.calm = true := by rfl) (hK : X.K = K := by rfl) : CallR X (.builtin "sorted") (rSortA K) := by
  subst hK
  intro pins s σ H xs us Q I r h
  rcases h with h | h | h
  · exact call_sortedH pins s σ H xs us Q I r h
  · exact call_sortedT pins s σ H xs us Q I r h
  · exact call_sortedD hc pins s σ H xs us Q I r h
section
variable {K : PySem.W.Frag} {H : Hp} {Q : VK} {p : Addr}
theorem rSortA_i {ns : List Int} (h : SqL K H p (ns.map V.int)) (h64 : ns.length < 64) (q : ∀ l, H l = none → Q (.ref l) (upd H l (.lst ((srtI ns).map V.int)))) : rSortA K [.ref p] H Q :=
  .inl ⟨p, ns, rfl, h, h64, fun l ms hl hp hs => by rw [srtI_uniq hp hs]; exact q l hl⟩
theorem rSortA_t {ls : List (List Nat)} (h : SqL K H p (ls.map fun l => V.str (S l))) (h64 : ls.length < 64) (q : ∀ l, H l = none → Q (.ref l) (upd H l (.lst ((srtT ls).map fun l => V.str (S l))))) : rSortA K [.ref p] H Q :=
  .inr (.inl ⟨p, ls, rfl, h, h64, q⟩)
theorem rSortA_d {kvs : List (Key × V)} {ks : List Int} (h : H p = some (.dK kvs)) (hk : kvs.map (·.1) = ks.map Sum.inl) (h64 : ks.length < 64) (q : NdK kvs → ∀ l, H l = none → Q (.ref l) (upd H l (.lst ((srtI ks).map V.int)))) : rSortA K [.ref p] H Q :=
  .inr (.inr ⟨p, kvs, ks, rfl, h, hk, h64, q⟩)
end
/-! ### == of two lists whose items are the same, dicts by whole numbers among them -/
def flatO : V → Prop
  | .non => True
  | .bl _ => True
  | .int _ => True
  | .str _ => True
  | _ => False
inductive ItEq (K : PySem.W.Frag) (H : Hp) : V → V → Prop
  | den {u v : V} {d : PyData} : Den K H u d → Den K H v d → SeqAt.shaped d = true → PyData.eqv d d = true → ItEq K H u v
  | dic {a b : Addr} {kvs : List (Key × V)} : a ≠ b → H a = some (.dK kvs) → H b = some (.dK kvs) → (∀ kv ∈ kvs, ∃ i, kv.1 = Sum.inl i) → (∀ kv ∈ kvs, flatO kv.2) → ItEq K H (.ref a) (.ref b)
def outI : Key → Int
  | .inl i => i
  | .inr _ => 0
section
variable {X : Cx} {pins : List (Addr × Obj)} {σ : St} {H : Hp} {s : Shared}
end
def rEqL (K : PySem.W.Frag) : R2 := fun x y H Q => rEqq K x y H Q ∨ ∃ (a b : Addr) (xs ys : List V), x = .ref a ∧ y = .ref b ∧ SqL K H a xs ∧ SqL K H b ys ∧ xs.length = ys.length ∧ (∀ (i : Nat) (u v : V), xs[i]? = some u → ys[i]? = some v → ItEq K H u v) ∧ Q (.bl true) H
theorem ItEq.same {K : PySem.W.Frag} {H : Hp} {u v : V} {n : Nat} {d : PyData} (h1 : Den K H u d) (h2 : Den K H v d) (hw : wd n d) (hn : n ≤ 64 := by decide) : ItEq K H u v := .den h1 h2 (hw.shaped hn) (SeqAt.eqv_refl d hw.1)
end L2

set_option Elab.async false
set_option linter.all false
set_option maxRecDepth 100000
set_option maxHeartbeats 4000000
namespace L2
open PySem PySem.Spec PyProof.Rows
/-! ### dealings: who had which row, shares -/
def NS (v : V) : Prop := v = .non ∨ ∃ l, v = .str (S l)
structure HadK (kvs : List (Key × V)) : Prop where
  ks : ∀ kv ∈ kvs, ∃ i, kv.1 = Sum.inl i
  vs : ∀ kv ∈ kvs, NS kv.2
def hdF (kvs : List (Key × V)) (r : Int) : V := (valV kvs (.inl r)).getD .non
theorem valV_mem {kvs : List (Key × V)} {k : Key} {v : V} (h : valV kvs k = some v) : (k, v) ∈ kvs := by
  obtain ⟨i, hi⟩ := valV_at h
  exact List.mem_of_getElem? hi
theorem HadK.ns {kvs : List (Key × V)} (h : HadK kvs) (r : Int) : NS (hdF kvs r) := by
  unfold hdF
  cases e : valV kvs (.inl r) with
  | none => exact .inl rfl
  | some v => exact h.vs _ (valV_mem e)
theorem putK_mem {kvs : List (Key × V)} {k : Key} {v : V} {kv : Key × V} (h : kv ∈ putK kvs k v) : kv ∈ kvs ∨ kv = (k, v) := by
  unfold putK at h
  split at h
  · obtain ⟨x, hx, e⟩ := List.mem_map.mp h
    split at e
    · rename_i ek
      right; rw [← e, ek]
    · left; rw [← e]; exact hx
  · rcases List.mem_append.mp h with h | h
    · exact .inl h
    · right; simpa using h
theorem HadK.put {kvs : List (Key × V)} (h : HadK kvs) (i : Int) {v : V} (hv : NS v) : HadK (putK kvs (.inl i) v) := by
  constructor
  · intro kv m
    rcases putK_mem m with m | m
    · exact h.ks _ m
    · exact ⟨i, by rw [m]⟩
  · intro kv m
    rcases putK_mem m with m | m
    · exact h.vs _ m
    · rw [m]; exact hv
theorem hadK_nil : HadK [] := ⟨fun _ h => (nomatch h), fun _ h => (nomatch h)⟩
theorem HadK.flat {kvs : List (Key × V)} (h : HadK kvs) : ∀ kv ∈ kvs, flatO kv.2 := fun kv m => by
  rcases h.vs kv m with e | ⟨l, e⟩ <;> rw [e] <;> trivial
def hasF (kvs : List (Key × V)) (tk : List Nat) (r : Int) : Bool := decide (hdF kvs r = .str (S tk))
theorem eqq_had {K : PySem.W.Frag} {H : Hp} {Q : VK} {v : V} {z : Str} (h : NS v) (q : Q (.bl (decide (v = .str z))) H) : rEqq K v (.str z) H Q := by
  rcases h with rfl | ⟨l, rfl⟩
  · rw [rEqq_ns]
    simpa using q
  · rw [rEqq_ss]
    have : decide (S l = z) = decide (V.str (S l) = V.str z) := by
      by_cases e : S l = z
      · rw [decide_eq_true e, decide_eq_true (by rw [e])]
      · rw [decide_eq_false e, decide_eq_false (fun h => e (V.str.inj h))]
    rw [this]; exact q
def nHas (rows : List Int) (kvs : List (Key × V)) (tk : List Nat) : Nat := (rows.filter (hasF kvs tk)).length
/-- how many each gets, one after the other -/
def shK (low more : Nat) (l : List (List Nat)) : List (Key × V) := l.zipIdx.map fun x => (Sum.inr (S x.1), V.int (if x.2 < more then (low : Int) + 1 else low))
theorem shK_snoc (low more : Nat) (l : List (List Nat)) (t : List Nat) : shK low more (l ++ [t]) = shK low more l ++ [(Sum.inr (S t), V.int (if l.length < more then (low : Int) + 1 else low))] := by
  unfold shK
  rw [List.zipIdx_append, List.map_append]
  simp
theorem shK_len (low more : Nat) (l : List (List Nat)) : (shK low more l).length = l.length := by unfold shK; simp
theorem shK_keys (low more : Nat) (l : List (List Nat)) : (shK low more l).map (·.1) = l.map fun t => (Sum.inr (S t) : Key) := by
  unfold shK
  rw [List.map_map]
  have : ((fun x : Key × V => x.1) ∘ fun x : List Nat × Nat => ((Sum.inr (S x.1), V.int (if x.2 < more then (low : Int) + 1 else low)) : Key × V)) = (fun t : List Nat => (Sum.inr (S t) : Key)) ∘ Prod.fst := rfl
  rw [this, ← List.map_map, List.zipIdx_map_fst]
theorem shK_none {low more : Nat} {l : List (List Nat)} {t : List Nat} (h : t ∉ l) : valV (shK low more l) (.inr (S t)) = none := by
  cases e : valV (shK low more l) (.inr (S t)) with
  | none => rfl
  | some v =>
    have m := valV_mem e
    have : (Sum.inr (S t) : Key) ∈ (shK low more l).map (·.1) := List.mem_map.mpr ⟨_, m, rfl⟩
    rw [shK_keys] at this
    obtain ⟨t', ht', e'⟩ := List.mem_map.mp this
    exact absurd (S_inj (Sum.inr.inj e') ▸ ht') h
theorem shK_int {low more : Nat} {l : List (List Nat)} {kv : Key × V} (h : kv ∈ shK low more l) : ∃ t n, t ∈ l ∧ kv = (Sum.inr (S t), V.int n) ∧ (n = (low : Int) + 1 ∨ n = low) := by
  unfold shK at h
  obtain ⟨x, hx, e⟩ := List.mem_map.mp h
  refine ⟨x.1, if x.2 < more then (low : Int) + 1 else low, ?_, e.symm, by split <;> simp⟩
  have : x.1 ∈ l.zipIdx.map Prod.fst := List.mem_map.mpr ⟨x, hx, rfl⟩
  rwa [List.zipIdx_map_fst] at this
def richP (rows : List Int) (kvs : List (Key × V)) (low : Nat) (tk : List Nat) : Bool := decide (low < nHas rows kvs tk)
def shOrd (rows : List Int) (tks : List (List Nat)) (kvs : List (Key × V)) : List (List Nat) :=
  (srtT tks).filter (richP rows kvs (rows.length / tks.length)) ++ (srtT tks).filter fun t => !richP rows kvs (rows.length / tks.length) t
def shareK (rows : List Int) (tks : List (List Nat)) (kvs : List (Key × V)) : List (Key × V) := shK (rows.length / tks.length) (rows.length % tks.length) (shOrd rows tks kvs)
theorem shOrd_nil (rows : List Int) (kvs : List (Key × V)) : shOrd rows [] kvs = [] := by unfold shOrd srtT; simp
theorem shareK_nil (rows : List Int) (kvs : List (Key × V)) : shareK rows [] kvs = [] := by unfold shareK; rw [shOrd_nil]; rfl
theorem shOrd_perm (rows : List Int) (tks : List (List Nat)) (kvs : List (Key × V)) : (shOrd rows tks kvs).Perm tks := (List.filter_append_perm _ _).trans (srtT_perm tks)
theorem shOrd_nd {rows : List Int} {tks : List (List Nat)} {kvs : List (Key × V)} (h : tks.Nodup) : (shOrd rows tks kvs).Nodup := (shOrd_perm rows tks kvs).nodup_iff.mpr h
theorem shOrd_len (rows : List Int) (tks : List (List Nat)) (kvs : List (Key × V)) : (shOrd rows tks kvs).length = tks.length := (shOrd_perm rows tks kvs).length_eq
theorem shareK_len (rows : List Int) (tks : List (List Nat)) (kvs : List (Key × V)) : (shareK rows tks kvs).length = tks.length := by unfold shareK; rw [shK_len, shOrd_len]
/-- lists of texts, lists of whole numbers -/
abbrev txV (ls : List (List Nat)) : List V := ls.map fun l => V.str (S l)
theorem filter_ints (p : Int → Bool) (f : V → Bool) (h : ∀ r, f (.int r) = p r) (rows : List Int) : (rows.map V.int).filter f = (rows.filter p).map V.int := by
  rw [List.filter_map]
  congr 1
  refine List.filter_congr fun r _ => ?_
  exact h r
theorem filter_txts (p : List Nat → Bool) (f : V → Bool) (h : ∀ r, f (.str (S r)) = p r) (rows : List (List Nat)) : (txV rows).filter f = txV (rows.filter p) := by
  unfold txV
  rw [List.filter_map]
  congr 1
  refine List.filter_congr fun r _ => ?_
  exact h r
theorem compW_iF {K : PySem.W.Frag} {tt : TT} {σ : St} {H : Hp} {Q : VK} {a : Addr} {rows : List Int} (hl : SqL K H a (rows.map V.int)) (hn : rows.length ≤ 1000) (p : Int → Bool)
    (ht : ∀ r H', r ∈ rows → Same H H' → ∀ Qt : Bool → Hp → Prop, (∀ H'', Same H' H'' → Qt (p r) H'') → tt (some (.int r) :: σ) H' Qt)
    (hd : ∀ D H', H D = none → Same H H' → H' D = some (.lst ((rows.filter p).map V.int)) → Q (.ref D) H') : compW (Itl K a) tt (tVar 0) σ H Q := by
  refine compW_listIf hl (by rw [List.length_map]; exact Nat.le_trans hn (by decide)) (fun v => match v with | .int r => p r | _ => false) (fun v => v) (fun x H' hx s Qt q => ?_) (fun x H' _ _ s Qe q => ⟨x, rfl, q H' (Same.refl _)⟩) (fun D H' h1 h2 h3 => hd D H' h1 h2 ?_)
  · obtain ⟨r, hr, rfl⟩ := List.mem_map.mp hx
    exact ht r H' hr s Qt q
  · rw [h3, filter_ints p _ (fun r => rfl), List.map_id']
theorem compW_tF {K : PySem.W.Frag} {tt : TT} {σ : St} {H : Hp} {Q : VK} {a : Addr} {tks : List (List Nat)} (hl : SqL K H a (txV tks)) (hn : tks.length ≤ 1000) (p : List Nat → Bool)
    (ht : ∀ r H', r ∈ tks → Same H H' → ∀ Qt : Bool → Hp → Prop, (∀ H'', Same H' H'' → Qt (p r) H'') → tt (some (.str (S r)) :: σ) H' Qt)
    (hd : ∀ D H', H D = none → Same H H' → H' D = some (.lst (txV (tks.filter p))) → Q (.ref D) H') : compW (Itl K a) tt (tVar 0) σ H Q := by
  refine compW_listIf hl (by rw [List.length_map]; exact Nat.le_trans hn (by decide)) (fun v => match v with | .str z => p z.cps.toList | _ => false) (fun v => v) (fun x H' hx s Qt q => ?_) (fun x H' _ _ s Qe q => ⟨x, rfl, q H' (Same.refl _)⟩) (fun D H' h1 h2 h3 => hd D H' h1 h2 ?_)
  · obtain ⟨r, hr, rfl⟩ := List.mem_map.mp hx
    refine ht r H' hr s Qt fun H'' s' => ?_
    have := q H'' s'
    simpa [S] using this
  · rw [h3, filter_txts p _ (fun r => by simp [S]), List.map_id']
def sp_rhad : Sp := fun vs H Q _ => ∃ (rp dp : Addr) (rows : List Int) (tk : List Nat) (kvs : List (Key × V)), vs = [.ref rp, .str (S tk), .ref dp] ∧ H rp = some (.lst (rows.map V.int)) ∧ H dp = some (.dK kvs) ∧ HadK kvs ∧ rows.length < 64 ∧
  ∀ D H', H D = none → Same H H' → H' D = some (.lst ((srtI (rows.filter (hasF kvs tk))).map V.int)) → Q (.ref D) H'
def sp_shares : Sp := fun vs H Q _ => ∃ (rp tp dp : Addr) (rows : List Int) (tks : List (List Nat)) (kvs : List (Key × V)), vs = [.ref rp, .ref tp, .ref dp] ∧ H rp = some (.lst (rows.map V.int)) ∧ H tp = some (.lst (txV tks)) ∧ H dp = some (.dK kvs) ∧ HadK kvs ∧ rows.length < 64 ∧ tks.length < 64 ∧ tks.Nodup ∧
  ∀ D H', H D = none → Same H H' → H' D = some (.dK (shareK rows tks kvs)) → Q (.ref D) H'
theorem nm6_ok (c way k : Int) : okS (nm6 c way k) := fun x hx => by
  obtain ⟨n, rfl⟩ := nm6_in c way k x hx
  exact ltr36_ok n
theorem names6_ok (c : Int) (m : Nat) : ∀ a ∈ names6 c m, okS a := fun a ha => by
  obtain ⟨k, _, rfl⟩ := List.mem_map.mp ha
  exact nm6_ok _ _ _
theorem names6_len (c : Int) (m : Nat) : (names6 c m).length = m := by unfold names6; rw [List.length_map, List.length_range]
theorem names6_nd (c : Int) {m : Nat} (hm : m ≤ 12) : (names6 c m).Nodup := by
  unfold names6
  rw [List.Nodup, List.pairwise_map]
  refine (List.pairwise_iff_getElem.mpr fun i j hi hj hij z => ?_)
  rw [List.getElem_range, List.getElem_range] at z
  rw [List.length_range] at hi hj
  have := nm6_inj (by omega) (by omega) (by omega) (by omega) z
  omega
def sp_lshares : Sp := fun vs H Q _ => ∃ (rp tp dp : Addr) (rows : List Int) (tks : List (List Nat)) (kvs : List (Key × V)), vs = [.ref rp, .ref tp, .ref dp] ∧ H rp = some (.lst (rows.map V.int)) ∧ H tp = some (.lst (txV tks)) ∧ H dp = some (.dK kvs) ∧ HadK kvs ∧ rows.length < 64 ∧ tks.length < 64 ∧ tks.Nodup ∧ (∀ a ∈ tks, okS a) ∧
  ∀ D H', H D = none → Same H H' → H' D = some (.dK (shareK rows tks kvs)) → Q (.ref D) H'
def sp_lrows : Sp := fun vs H Q _ => ∃ (c : Int) (m : Nat), vs = [.int c, .int m] ∧ m ≤ 63 ∧ ∀ D H' (rows : List Int), H D = none → Same H H' → rows.length = m → rows.Nodup → (∀ r ∈ rows, 0 ≤ r ∧ r < 2000) → H' D = some (.lst (rows.map V.int)) → Q (.ref D) H'
def sp_ltakers : Sp := fun vs H Q _ => ∃ (c : Int) (np : Addr) (ns : List (List Nat)) (m : Nat), vs = [.int c, .ref np, .int m] ∧ H np = some (.lst (txV ns)) ∧ m ≤ ns.length ∧ ns.length ≤ 40 ∧ ∀ D H' (tks : List (List Nat)), H D = none → Same H H' → tks.Perm (ns.take m) → H' D = some (.lst (txV tks)) → Q (.ref D) H'
def sp_lhad (K : PySem.W.Frag) : Sp := fun vs H Q _ => ∃ (sp rp np : Addr) (sc : List Int) (st : Int) (rows : List Int) (ns : List (List Nat)), vs = [.ref sp, .int st, .ref rp, .ref np] ∧ SqL K H sp (sc.map V.int) ∧ 0 ≤ st ∧ H rp = some (.lst (rows.map V.int)) ∧ H np = some (.lst (txV ns)) ∧ 2 ≤ ns.length ∧ ns.length ≤ 40 ∧ rows.length < 64 ∧
  ∀ D H' (kvs : List (Key × V)), H D = none → Same H H' → HadK kvs → kvs.length ≤ rows.length + 2 → H' D = some (.dK kvs) → Q (.ref D) H'
def sp_isdueT : Sp := fun vs H Q _ => ∃ (f d : Addr) (kvs : List (Key × V)), vs = [.ref f, .ref d] ∧ f ≠ d ∧ H f = some (.dK kvs) ∧ H d = some (.dK kvs) ∧ (∀ kv ∈ kvs, ∃ (t : List Nat) (n : Int), kv = (Sum.inr (S t), V.int n)) ∧ ∀ H', Same H H' → Q (.bl true) H'
end L2

set_option Elab.async false
set_option linter.all false
set_option maxRecDepth 100000
set_option maxHeartbeats 4000000
namespace L2
open PySem PySem.Spec PyProof.Rows
/-! ### the keys of the loans -/
def LKs (H : Hp) (l : Addr) (ks : List Int) : Prop := ∃ kvs : List (Key × V), H l = some (.dK kvs) ∧ kvs.map (·.1) = ks.map Sum.inl
theorem LKs.same {H H' : Hp} {l : Addr} {ks : List Int} (h : LKs H l ks) (s : Same H H') : LKs H' l ks := let ⟨k, e, b⟩ := h; ⟨k, s _ _ e, b⟩
theorem LKs.chg {A : List Addr} {H H' : Hp} {l : Addr} {ks : List Int} (h : LKs H l ks) (s : Chg A H H') (n : l ∉ A) : LKs H' l ks := let ⟨k, e, b⟩ := h; ⟨k, s.keep _ _ e n, b⟩
def addK (ks : List Int) (p : Int) : List Int := if p ∈ ks then ks else ks ++ [p]
def delK (ks : List Int) (p : Int) : List Int := ks.filter fun q => decide (q ≠ p)
theorem keys_mem {kvs : List (Key × V)} {ks : List Int} (h : kvs.map (·.1) = ks.map Sum.inl) (p : Int) : (valV kvs (.inl p)).isSome = true ↔ p ∈ ks := by
  rw [← valV_any, List.any_eq_true]
  constructor
  · rintro ⟨kv, hm, e⟩
    have e' : kv.1 = (.inl p : Key) := of_decide_eq_true e
    have : (.inl p : Key) ∈ ks.map Sum.inl := by rw [← h, ← e']; exact List.mem_map.mpr ⟨kv, hm, rfl⟩
    obtain ⟨q, hq, e2⟩ := List.mem_map.mp this
    cases e2
    exact hq
  · intro hp
    have : (.inl p : Key) ∈ kvs.map (·.1) := by rw [h]; exact List.mem_map.mpr ⟨p, hp, rfl⟩
    obtain ⟨kv, hm, e⟩ := List.mem_map.mp this
    exact ⟨kv, hm, by rw [e]; simp⟩
def runL (M : LendM) (turn : Int) (ks : List Int) : List Int := ks.filter fun p => M.isLent p turn
def due33 (M : LendM) (R : RowM) (fr turn : Int) (ks : List Int) : List Int × Option Int := if ((runL M turn ks).length : Int) < M.width then dueG M turn (pwf M R fr) else ([], none)
def sp_lend33 (C : Addr) : Sp := fun vs H Q _ => ∃ (r f t l : Addr) (M : LendM) (p : Int) (tk : List Nat) (turn : Int) (ks : List Int), vs = [.ref r, .int p, .str (S tk), .int turn] ∧ LendAt C H r f t l M ∧ LKs H l ks ∧ M.sz ≤ 100000 ∧
  ∀ H', Chg [r, t, l] H H' → LendAt C H' r f t l (M.lend p tk turn) → LKs H' l (addK ks p) → Q (.int (M.lent + 1)) H'
def sp_back33 (C : Addr) : Sp := fun vs H Q _ => ∃ (r f t l : Addr) (M : LendM) (p : Int) (ks : List Int), vs = [.ref r, .int p] ∧ LendAt C H r f t l M ∧ LKs H l ks ∧ ∀ H', Chg [l] H H' → LendAt C H' r f t l (M.back p) → LKs H' l (delK ks p) → Q .non H'
def sp_fate33 (C : Addr) (z : Str) : Sp := fun vs H Q _ => ∃ (r f t l : Addr) (M : LendM) (p : Int) (ks : List Int), vs = [.ref r, .int p] ∧ LendAt C H r f t l M ∧ LKs H l ks ∧ M.sz ≤ 100000 ∧ ∀ H', Chg [f, l] H H' → LendAt C H' r f t l (M.fate p z) → LKs H' l (delK ks p) → Q .non H'
def sp_due33 (C CR : Addr) : Sp := fun vs H Q _ => ∃ (r f t l : Addr) (M : LendM) (row d : Addr) (R : RowM) (fr turn : Int) (ks : List Int), vs = [.ref r, .ref row, .int fr, .int turn] ∧ LendAt C H r f t l M ∧ RowAt CR H row d R ∧ R.last ≤ 1000 ∧ 0 ≤ M.start ∧ M.start ≤ 1000 ∧ 0 ≤ fr ∧ LKs H l ks ∧ ks.length ≤ 1000 ∧
  ∀ A u H', H A = none → H u = none → Same H H' → H' A = some (.lst ((due33 M R fr turn ks).1.map V.int)) → H' u = some (.tup [.ref A, oV (due33 M R fr turn ks).2]) → Q (.ref u) H'
end L2

set_option Elab.async false
set_option linter.all false
set_option maxRecDepth 100000
set_option maxHeartbeats 4000000
namespace L2
open PySem PySem.Spec PyProof.Rows
/-! ### papers and moves of a dealing -/
theorem compW_listIfI {K : PySem.W.Frag} {tt : TT} {te : TE} {σ : St} {H : Hp} {Q : VK} {a : Addr} {xs : List V} (hn : xs.length ≤ 1000) (Pv : Addr → Nat → List V → Hp → Prop) (h0 : ∀ D, H D = none → Pv D 0 [] (upd H D (.lst [])))
    (hl : ∀ D i ys H', i ≤ xs.length → Pv D i ys H' → H' D = some (.lst ys) ∧ ys.length ≤ i ∧ SqL K H' a xs)
    (hs : ∀ D i ys H' x, H D = none → xs[i]? = some x → Pv D i ys H' → ∀ (Qe : VK) (Qn : Hp → Prop), (∀ y H5, H5 D = some (.lst ys) → Pv D (i + 1) (ys ++ [y]) (upd H5 D (.lst (ys ++ [y]))) → Qe y H5) → (∀ H4, Pv D (i + 1) ys H4 → Qn H4) → tt (some x :: σ) H' fun b H2 => if b = true then te (some x :: σ) H2 Qe else Qn H2)
    (hd : ∀ D ys H', H D = none → Pv D xs.length ys H' → Q (.ref D) H') : compW (Itl K a) tt te σ H Q := by
  intro D hD
  refine ⟨fun i m ys H => m = xs.length - i ∧ i ≤ xs.length ∧ Pv D i ys H, ⟨xs.length, rfl, Nat.zero_le _, h0 D hD⟩, ?_⟩
  rintro i m ys H2 ⟨rfl, hi, p⟩
  obtain ⟨h1, h2, h3⟩ := hl D i ys H2 hi p
  by_cases hlt : i < xs.length
  · refine .inr ⟨⟨xs, xs[i], h3, by simp⟩, Nat.lt_of_le_of_lt (show ys.length ≤ 1000 by omega) (by decide), fun x H3 y => ?_⟩
    obtain ⟨rfl, z⟩ := y
    exact hs D i ys _ x hD (z xs h3) p _ _ (fun y H5 h5 h6 => ⟨h5, xs.length - (i + 1), by omega, rfl, hlt, h6⟩) (fun H4 h4 => ⟨xs.length - (i + 1), by omega, rfl, hlt, h4⟩)
  · have e : i = xs.length := by omega
    subst e
    exact .inl ⟨⟨xs, h3, Nat.le_refl _⟩, h1, hd D ys H2 hD p⟩
theorem LTups.put {H : Hp} {D t : Addr} {rows : List (List V)} {r : List V} {ts0 : List Addr} (e : H D = some (.lst (ts0.map V.ref))) (h : TupsAt H ts0 rows) (ht : H t = some (.tup r)) : LTups (upd H D (.lst (ts0.map V.ref ++ [V.ref t]))) D (rows ++ [r]) := by
  have c : Chg [D] H (upd H D (.lst (ts0.map V.ref ++ [V.ref t]))) := Chg.upd (by simp) (mut_lst e)
  refine ⟨ts0 ++ [t], ?_, (h.chg c).snoc (c.tup _ _ ht)⟩
  rw [List.map_append]
  exact upd_same
theorem tups_app {H3 H4 : Hp} {p t : Addr} {ts : List Addr} {rows : List (List V)} {r : List V} (c : Chg [p] H3 H4) (hp : H4 p = some (.lst (ts.map V.ref))) (ht : TupsAt H4 ts rows) (hn : H4 t = none) :
    upd H4 t (.tup r) p = some (.lst (ts.map V.ref)) ∧ Chg [p] H3 (upd (upd H4 t (.tup r)) p (.lst (ts.map V.ref ++ [V.ref t]))) ∧ ∃ ts', upd (upd H4 t (.tup r)) p (.lst (ts.map V.ref ++ [V.ref t])) p = some (.lst (ts'.map V.ref)) ∧ TupsAt (upd (upd H4 t (.tup r)) p (.lst (ts.map V.ref ++ [V.ref t]))) ts' (rows ++ [r]) := by
  have s1 : Same H4 (upd H4 t (.tup r)) := Same.upd hn
  have p1 := s1 _ _ hp
  have c1 : Chg [p] (upd H4 t (.tup r)) (upd (upd H4 t (.tup r)) p (.lst (ts.map V.ref ++ [V.ref t]))) := Chg.upd (by simp) (mut_lst p1)
  refine ⟨p1, c.trans ((Chg.of_same s1).trans c1), ts ++ [t], ?_, ((ht.chg (Chg.of_same (A := []) s1)).chg c1).snoc (c1.tup _ _ upd_same)⟩
  rw [List.map_append]
  exact upd_same
def HadO (kvs : List (Key × V)) : Prop := ∀ kv ∈ kvs, okV kv.2
structure HadKO (kvs : List (Key × V)) : Prop where
  k : HadK kvs
  o : HadO kvs
structure NSO (v : V) : Prop where
  n : NS v
  o : okV v
theorem hadKO_nil : HadKO [] := ⟨hadK_nil, fun _ h => nomatch h⟩
theorem HadKO.put {kvs : List (Key × V)} (h : HadKO kvs) (i : Int) {v : V} (hv : NSO v) : HadKO (putK kvs (.inl i) v) := by
  refine ⟨h.k.put i hv.n, fun kv m => ?_⟩
  rcases putK_mem m with m | m
  · exact h.o _ m
  · rw [m]; exact hv.o
theorem nso_txt {l : List Nat} (h : okS l) : NSO (.str (S l)) := ⟨.inr ⟨l, rfl⟩, by show okS (S l).cps.toList; simpa [S] using h⟩
theorem nso_non : NSO .non := ⟨.inl rfl, trivial⟩
def ksOf (kvs : List (Key × V)) : List Int := kvs.map fun kv => outI kv.1
theorem HadK.keys {kvs : List (Key × V)} (h : HadK kvs) : kvs.map (·.1) = (ksOf kvs).map Sum.inl := by
  unfold ksOf
  rw [List.map_map]
  refine List.map_congr_left fun kv m => ?_
  obtain ⟨i, e⟩ := h.ks kv m
  show kv.1 = Sum.inl (outI kv.1)
  rw [e]; rfl
theorem ksOf_len (kvs : List (Key × V)) : (ksOf kvs).length = kvs.length := by unfold ksOf; rw [List.length_map]
theorem HadK.get {kvs : List (Key × V)} (h : HadK kvs) {r : Int} (hr : r ∈ ksOf kvs) : valV kvs (.inl r) = some (hdF kvs r) := by
  have := (keys_mem h.keys r).mpr hr
  unfold hdF
  cases e : valV kvs (.inl r) with
  | none => rw [e] at this; cases this
  | some v => rfl
theorem neq_had {K : PySem.W.Frag} {H : Hp} {Q : VK} {v w : V} (h : NS v) (h' : NS w) (q : Q (.bl (!decide (v = w))) H) : rNeq K v w H Q := by
  rcases h with rfl | ⟨l, rfl⟩ <;> rcases h' with rfl | ⟨m, rfl⟩
  · rw [rNeq_nn]; simpa using q
  · rw [rNeq_ns]; simpa using q
  · rw [rNeq_sn]; simpa using q
  · rw [rNeq_ss]
    have : decide (S l = S m) = decide (V.str (S l) = V.str (S m)) := by
      by_cases e : S l = S m
      · rw [decide_eq_true e, decide_eq_true (by rw [e])]
      · rw [decide_eq_false e, decide_eq_false (fun h => e (V.str.inj h))]
    rw [this]; exact q
def movP (had now : List (Key × V)) (r : Int) : Bool := !decide (hdF had r = hdF now r)
def movT (had now : List (Key × V)) (r : Int) : List V := [.int r, hdF had r, hdF now r]
def movR (had now : List (Key × V)) : List (List V) := ((srtI (ksOf now)).filter (movP had now)).map (movT had now)
def shN (rows : List Int) (tks : List (List Nat)) (kvs : List (Key × V)) (t : List Nat) : Int := match valV (shareK rows tks kvs) (.inr (S t)) with
  | some (.int n) => n
  | _ => 0
theorem shN_get {rows : List Int} {tks : List (List Nat)} {kvs : List (Key × V)} {t : List Nat} (h : t ∈ tks) : valV (shareK rows tks kvs) (.inr (S t)) = some (.int (shN rows tks kvs t)) ∧ 0 ≤ shN rows tks kvs t ∧ shN rows tks kvs t ≤ rows.length + 1 := by
  have hm : (Sum.inr (S t) : Key) ∈ (shareK rows tks kvs).map (·.1) := by
    unfold shareK
    rw [shK_keys]
    exact List.mem_map.mpr ⟨t, (shOrd_perm rows tks kvs).mem_iff.mpr h, rfl⟩
  obtain ⟨kv, m, e⟩ := List.mem_map.mp hm
  have hs : (valV (shareK rows tks kvs) (.inr (S t))).isSome = true := by
    rw [← valV_any, List.any_eq_true]
    exact ⟨kv, m, by simpa using e⟩
  obtain ⟨v, hv⟩ := Option.isSome_iff_exists.mp hs
  obtain ⟨t', n, _, e2, e3⟩ := shK_int (valV_mem hv)
  cases e2
  unfold shN
  rw [hv]
  have hd := Nat.div_le_self rows.length tks.length
  generalize rows.length / tks.length = low at e3 hd
  refine ⟨rfl, ?_, ?_⟩
  · show 0 ≤ n; omega
  · show n ≤ _; omega
def papT (rows : List Int) (tks : List (List Nat)) (kvs : List (Key × V)) (t : List Nat) : List V := [.str (S t), .int (nHas rows kvs t : Nat), .int (shN rows tks kvs t), .int (min (nHas rows kvs t : Nat) (shN rows tks kvs t))]
def papR (rows : List Int) (tks : List (List Nat)) (kvs : List (Key × V)) : List (List V) := (srtT tks).map (papT rows tks kvs)
def sp_moved : Sp := fun vs H Q _ => ∃ (hp np : Addr) (had now : List (Key × V)), vs = [.ref hp, .ref np] ∧ H hp = some (.dK had) ∧ H np = some (.dK now) ∧ HadK had ∧ HadK now ∧ now.length < 64 ∧ ∀ D H', H D = none → Same H H' → LTups H' D (movR had now) → Q (.ref D) H'
def sp_paper : Sp := fun vs H Q _ => ∃ (rp tp dp : Addr) (rows : List Int) (tks : List (List Nat)) (kvs : List (Key × V)), vs = [.ref rp, .ref tp, .ref dp] ∧ H rp = some (.lst (rows.map V.int)) ∧ H tp = some (.lst (txV tks)) ∧ H dp = some (.dK kvs) ∧ HadK kvs ∧ rows.length < 64 ∧ tks.length < 64 ∧ tks.Nodup ∧ (∀ a ∈ tks, okS a) ∧
  ∀ D H', H D = none → Same H H' → LTups H' D (papR rows tks kvs) → Q (.ref D) H'
def sp_lhadO (K : PySem.W.Frag) : Sp := fun vs H Q _ => ∃ (sp rp np : Addr) (sc : List Int) (st : Int) (rows : List Int) (ns : List (List Nat)), vs = [.ref sp, .int st, .ref rp, .ref np] ∧ SqL K H sp (sc.map V.int) ∧ 0 ≤ st ∧ H rp = some (.lst (rows.map V.int)) ∧ H np = some (.lst (txV ns)) ∧ 2 ≤ ns.length ∧ ns.length ≤ 40 ∧ rows.length < 64 ∧ (∀ a ∈ ns, okS a) ∧
  ∀ D H' (kvs : List (Key × V)), H D = none → Same H H' → HadKO kvs → kvs.length ≤ rows.length + 2 → H' D = some (.dK kvs) → Q (.ref D) H'
def sp_lnow : Sp := fun vs H Q _ => ∃ (c : Int) (rp np : Addr) (rows : List Int) (ns : List (List Nat)), vs = [.int c, .ref rp, .ref np] ∧ H rp = some (.lst (rows.map V.int)) ∧ H np = some (.lst (txV ns)) ∧ ns.length ≤ 40 ∧ rows.length < 60 ∧ (∀ a ∈ ns, okS a) ∧
  ∀ D H' (kvs : List (Key × V)), H D = none → Same H H' → HadKO kvs → kvs.length ≤ rows.length + 3 → H' D = some (.dK kvs) → Q (.ref D) H'
theorem Pl.tups {H : Hp} {p : Addr} {rows : List (List V)} (h : LTups H p rows) (f : ∀ r ∈ rows, ∀ v ∈ r, v = .non ∨ (∃ i, v = .int i) ∨ ∃ z, v = .str z) : Pl H 2 (.ref p) := by
  obtain ⟨ts, e, t⟩ := h
  refine ⟨_, .inl e, fun x hx => ?_⟩
  obtain ⟨u, hu, rfl⟩ := List.mem_map.mp hx
  obtain ⟨i, hi⟩ := List.getElem?_of_mem hu
  obtain ⟨xs, h1, h2⟩ := t.get hi
  refine ⟨xs, .inr h2, fun v hv => ?_⟩
  rcases f xs (List.mem_of_getElem? h1) v hv with rfl | ⟨i, rfl⟩ | ⟨z, rfl⟩ <;> trivial
def plV (v : V) : Prop := v = .non ∨ (∃ i, v = .int i) ∨ ∃ z, v = .str z
theorem NS.pl {v : V} (h : NS v) : plV v := by
  rcases h with rfl | ⟨l, rfl⟩
  · exact .inl rfl
  · exact .inr (.inr ⟨_, rfl⟩)
theorem movR_pl {had now : List (Key × V)} (h1 : HadK had) (h2 : HadK now) : ∀ r ∈ movR had now, ∀ v ∈ r, plV v := by
  intro r hr v hv
  obtain ⟨k, _, rfl⟩ := List.mem_map.mp hr
  unfold movT at hv
  simp only [List.mem_cons, List.not_mem_nil, or_false] at hv
  rcases hv with rfl | rfl | rfl
  · exact .inr (.inl ⟨_, rfl⟩)
  · exact (h1.ns k).pl
  · exact (h2.ns k).pl
theorem papR_pl {rows : List Int} {tks : List (List Nat)} {kvs : List (Key × V)} : ∀ r ∈ papR rows tks kvs, ∀ v ∈ r, plV v := by
  intro r hr v hv
  obtain ⟨k, hk, rfl⟩ := List.mem_map.mp hr
  unfold papT at hv
  simp only [List.mem_cons, List.not_mem_nil, or_false] at hv
  rcases hv with rfl | rfl | rfl | rfl
  · exact .inr (.inr ⟨_, rfl⟩)
  · exact .inr (.inl ⟨_, rfl⟩)
  · exact .inr (.inl ⟨_, rfl⟩)
  · exact .inr (.inl ⟨_, rfl⟩)
end L2

set_option Elab.async false
set_option linter.all false
set_option maxRecDepth 100000
set_option maxHeartbeats 4000000
namespace L2
open PySem PySem.Spec PyProof.Rows
/-! ### a dealing: who keeps, what is left, who lacks -/
section
variable (rows : List Int) (tks : List (List Nat)) (kvs : List (Key × V))
def shM (t : List Nat) : Nat := (shN rows tks kvs t).toNat
def kpR (t : List Nat) : List Int := (srtI (rows.filter (hasF kvs t))).take (shM rows tks kvs t)
def kpB (r : Int) : Bool := tks.any fun t => decide (r ∈ kpR rows tks kvs t)
def lftR : List Int := (srtI rows).filter fun r => !kpB rows tks kvs r
def lakR : List (List Nat) := (srtT tks).flatMap fun t => List.replicate (shM rows tks kvs t - (kpR rows tks kvs t).length) t
def lakV (k : Nat) : V := match (lakR rows tks kvs)[k]? with
  | some t => .str (S t)
  | none => .non
def ownV (r : Int) : V := if kpB rows tks kvs r = true then hdF kvs r else lakV rows tks kvs ((lftR rows tks kvs).idxOf r)
def ownK (ord : List Int) : List (Key × V) := ord.map fun r => (Sum.inl r, ownV rows tks kvs r)
end
section
variable {rows : List Int} {tks : List (List Nat)} {kvs : List (Key × V)}
theorem kp_has {t : List Nat} {r : Int} (h : r ∈ kpR rows tks kvs t) : r ∈ rows ∧ hdF kvs r = .str (S t) := by
  have := List.mem_filter.mp (srtI_mem.mp (List.mem_of_mem_take h))
  exact ⟨this.1, of_decide_eq_true this.2⟩
theorem kp_one {t u : List Nat} {r : Int} (h : r ∈ kpR rows tks kvs t) (h' : r ∈ kpR rows tks kvs u) : t = u := by
  have := (kp_has h).2.symm.trans (kp_has h').2
  exact S_inj (V.str.inj this)
theorem kp_nd (nd : rows.Nodup) (t : List Nat) : (kpR rows tks kvs t).Nodup := List.Nodup.sublist (List.take_sublist _ _) (srtI_nd (List.Nodup.sublist List.filter_sublist nd))
theorem kpB_iff {r : Int} : kpB rows tks kvs r = true ↔ ∃ t ∈ tks, r ∈ kpR rows tks kvs t := by
  unfold kpB
  rw [List.any_eq_true]
  constructor
  · rintro ⟨t, h1, h2⟩; exact ⟨t, h1, of_decide_eq_true h2⟩
  · rintro ⟨t, h1, h2⟩; exact ⟨t, h1, decide_eq_true h2⟩
theorem flat_nd {α β : Type} (f : α → List β) : ∀ l : List α, l.Nodup → (∀ a ∈ l, (f a).Nodup) → (∀ a b x, x ∈ f a → x ∈ f b → a = b) → (l.flatMap f).Nodup
  | [], _, _, _ => by simp
  | a :: l, hn, h1, h2 => by
    rw [List.nodup_cons] at hn
    rw [List.flatMap_cons, List.nodup_append]
    refine ⟨h1 a List.mem_cons_self, flat_nd f l hn.2 (fun b hb => h1 b (List.mem_cons_of_mem _ hb)) h2, fun x hx y hy e => ?_⟩
    subst e
    obtain ⟨b, hb, hxb⟩ := List.mem_flatMap.mp hy
    exact hn.1 (h2 a b x hx hxb ▸ hb)
theorem kept_nd (nd : rows.Nodup) {l : List (List Nat)} (hl : l.Nodup) : (l.flatMap (kpR rows tks kvs)).Nodup := flat_nd _ l hl (fun t _ => kp_nd nd t) fun _ _ _ h h' => kp_one h h'
theorem lft_nd (nd : rows.Nodup) : (lftR rows tks kvs).Nodup := List.Nodup.sublist List.filter_sublist (srtI_nd nd)
theorem mem_kept {l : List (List Nat)} (hp : l.Perm tks) {r : Int} : r ∈ l.flatMap (kpR rows tks kvs) ↔ kpB rows tks kvs r = true := by
  rw [List.mem_flatMap, kpB_iff]
  constructor
  · rintro ⟨t, h1, h2⟩; exact ⟨t, hp.mem_iff.mp h1, h2⟩
  · rintro ⟨t, h1, h2⟩; exact ⟨t, hp.mem_iff.mpr h1, h2⟩
theorem mem_lft {r : Int} : r ∈ lftR rows tks kvs ↔ r ∈ rows ∧ kpB rows tks kvs r = false := by
  unfold lftR
  rw [List.mem_filter, srtI_mem]
  simp
theorem ord_nd (nd : rows.Nodup) (tn : tks.Nodup) {l : List (List Nat)} (hp : l.Perm tks) : (l.flatMap (kpR rows tks kvs) ++ lftR rows tks kvs).Nodup := by
  rw [List.nodup_append]
  refine ⟨kept_nd nd (hp.nodup_iff.mpr tn), lft_nd nd, fun x hx y hy e => ?_⟩
  subst e
  rw [mem_kept hp] at hx
  rw [mem_lft, hx] at hy
  exact absurd hy.2 (by decide)
theorem ord_perm (nd : rows.Nodup) (tn : tks.Nodup) {l : List (List Nat)} (hp : l.Perm tks) : (l.flatMap (kpR rows tks kvs) ++ lftR rows tks kvs).Perm rows := by
  refine (List.perm_ext_iff_of_nodup (ord_nd nd tn hp) nd).mpr fun r => ?_
  rw [List.mem_append, mem_kept hp, mem_lft]
  constructor
  · rintro (h | h)
    · obtain ⟨t, _, h2⟩ := kpB_iff.mp h
      exact (kp_has h2).1
    · exact h.1
  · intro h
    cases e : kpB rows tks kvs r with
    | true => exact .inl rfl
    | false => exact .inr ⟨h, rfl⟩
/-- the shares, all together, are the rows -/
def vN : V → Nat
  | .int n => n.toNat
  | _ => 0
theorem shK_sum (low more : Nat) (l : List (List Nat)) : ((shK low more l).map fun kv => vN kv.2).sum = l.length * low + min more l.length := by
  have key : ∀ (n : Nat) (l : List (List Nat)), l.length = n → ((shK low more l).map fun kv => vN kv.2).sum = l.length * low + min more l.length := by
    intro n
    induction n with
    | zero => intro l hl; rw [List.length_eq_zero_iff.mp hl]; simp [shK]
    | succ n ih =>
      intro l hl
      rcases List.eq_nil_or_concat l with rfl | ⟨r, t, rfl⟩
      · cases hl
      · have hr : r.length = n := by simpa using hl
        rw [List.concat_eq_append, shK_snoc, List.map_append, List.sum_append, ih r hr, List.length_append, hr]
        show _ + ([vN _] : List Nat).sum = _
        have e : vN (V.int (if n < more then (low : Int) + 1 else low)) = if n < more then low + 1 else low := by
          show (if n < more then (low : Int) + 1 else low).toNat = _
          split <;> omega
        rw [e, List.sum_singleton, List.length_singleton, Nat.succ_mul]
        split <;> omega
  exact key _ l rfl
theorem shM_sum (t0 : tks ≠ []) (tn : tks.Nodup) : (tks.map (shM rows tks kvs)).sum = rows.length := by
  have hl : 0 < tks.length := List.length_pos_iff.mpr t0
  have h1 : ((shOrd rows tks kvs).map (shM rows tks kvs)).sum = (tks.map (shM rows tks kvs)).sum := ((shOrd_perm rows tks kvs).map _).sum_nat
  have h2 : (shOrd rows tks kvs).map (shM rows tks kvs) = (shareK rows tks kvs).map fun kv => vN kv.2 := by
    refine List.ext_getElem? fun i => ?_
    rw [List.getElem?_map, List.getElem?_map]
    cases e : (shOrd rows tks kvs)[i]? with
    | none =>
      have : (shareK rows tks kvs).length ≤ i := by rw [shareK_len]; have := List.getElem?_eq_none_iff.mp e; rwa [shOrd_len] at this
      rw [List.getElem?_eq_none this]; rfl
    | some t =>
      have hi := (List.getElem?_eq_some_iff.mp e).1
      obtain ⟨kv, hkv⟩ : ∃ kv, (shareK rows tks kvs)[i]? = some kv := ⟨(shareK rows tks kvs)[i]'(by rw [shareK_len]; rwa [shOrd_len] at hi), List.getElem?_eq_getElem _⟩
      have hk : kv.1 = Sum.inr (S t) := by
        have : ((shareK rows tks kvs).map (·.1))[i]? = ((shOrd rows tks kvs).map fun t => (Sum.inr (S t) : Key))[i]? := by unfold shareK; rw [shK_keys]
        rw [List.getElem?_map, List.getElem?_map, hkv, e] at this
        exact Option.some.inj this
      have nk : ((shareK rows tks kvs).map (·.1)).Nodup := by
        unfold shareK
        rw [shK_keys, List.Nodup, List.pairwise_map]
        exact (shOrd_nd tn).imp fun h z => h (S_inj (Sum.inr.inj z))
      have hv := valV_nd nk (show (shareK rows tks kvs)[i]? = some (kv.1, kv.2) from hkv)
      rw [hk] at hv
      obtain ⟨_, n, _, e2, _⟩ := shK_int (List.mem_of_getElem? hkv)
      rw [hkv]
      show some (shM rows tks kvs t) = some (vN kv.2)
      unfold shM shN
      rw [hv]
      have e3 : kv.2 = V.int n := by rw [e2]
      rw [e3]; rfl
  rw [← h1, h2]
  unfold shareK
  rw [shK_sum, shOrd_len]
  have hm := Nat.mod_lt rows.length hl
  have hd := Nat.div_add_mod rows.length tks.length
  rw [Nat.min_eq_left (Nat.le_of_lt hm)]
  exact hd
theorem kp_le (t : List Nat) : (kpR rows tks kvs t).length ≤ shM rows tks kvs t := by unfold kpR; rw [List.length_take]; exact Nat.min_le_left _ _
theorem sum_sub (f g : List Nat → Nat) (h : ∀ t, g t ≤ f t) : ∀ l : List (List Nat), (l.map fun t => f t - g t).sum + (l.map g).sum = (l.map f).sum
  | [] => rfl
  | t :: l => by
    have := sum_sub f g h l
    have := h t
    simp only [List.map_cons, List.sum_cons]
    omega
theorem lak_len (nd : rows.Nodup) (t0 : tks ≠ []) (tn : tks.Nodup) : (lakR rows tks kvs).length = (lftR rows tks kvs).length := by
  have h1 := (ord_perm (kvs := kvs) nd tn (srtT_perm tks)).length_eq
  rw [List.length_append, List.length_flatMap] at h1
  have h2 := shM_sum (rows := rows) (kvs := kvs) t0 tn
  have h3 : ((srtT tks).map (shM rows tks kvs)).sum = (tks.map (shM rows tks kvs)).sum := ((srtT_perm tks).map _).sum_nat
  have h4 := sum_sub (shM rows tks kvs) (fun t => (kpR rows tks kvs t).length) (fun t => kp_le t) (srtT tks)
  unfold lakR
  rw [List.length_flatMap]
  have e : ((srtT tks).map fun a => (List.replicate (shM rows tks kvs a - (kpR rows tks kvs a).length) a).length) = (srtT tks).map fun t => shM rows tks kvs t - (kpR rows tks kvs t).length := List.map_congr_left fun t _ => List.length_replicate
  rw [e]
  omega
theorem own_kept {t : List Nat} {r : Int} (ht : t ∈ tks) (h : r ∈ kpR rows tks kvs t) : ownV rows tks kvs r = .str (S t) := by
  unfold ownV
  rw [if_pos (kpB_iff.mpr ⟨t, ht, h⟩)]
  exact (kp_has h).2
theorem own_left (nd : rows.Nodup) {k : Nat} {r : Int} (h : (lftR rows tks kvs)[k]? = some r) : ownV rows tks kvs r = lakV rows tks kvs k := by
  obtain ⟨hk, e⟩ := List.getElem?_eq_some_iff.mp h
  have hm := (mem_lft.mp (List.mem_of_getElem? h)).2
  unfold ownV
  rw [if_neg (by rw [hm]; decide), ← e, (lft_nd nd).idxOf_getElem k hk]
theorem lakV_ns (k : Nat) : NS (lakV rows tks kvs k) := by
  unfold lakV
  split
  · exact .inr ⟨_, rfl⟩
  · exact .inl rfl
theorem own_ns (hk : HadK kvs) (r : Int) : NS (ownV rows tks kvs r) := by
  unfold ownV
  split
  · exact hk.ns r
  · exact lakV_ns _
theorem lakR_mem {t : List Nat} (h : t ∈ lakR rows tks kvs) : t ∈ tks := by
  obtain ⟨u, hu, h2⟩ := List.mem_flatMap.mp h
  rw [List.eq_of_mem_replicate h2]
  exact srtT_mem.mp hu
theorem ownK_snoc (ord : List Int) (r : Int) : ownK rows tks kvs (ord ++ [r]) = ownK rows tks kvs ord ++ [(Sum.inl r, ownV rows tks kvs r)] := by unfold ownK; rw [List.map_append]; rfl
theorem ownK_keys (ord : List Int) : (ownK rows tks kvs ord).map (·.1) = ord.map Sum.inl := by unfold ownK; rw [List.map_map]; rfl
theorem ownK_len (ord : List Int) : (ownK rows tks kvs ord).length = ord.length := by unfold ownK; rw [List.length_map]
theorem ownK_none {ord : List Int} {r : Int} (h : r ∉ ord) : valV (ownK rows tks kvs ord) (.inl r) = none := by
  cases e : valV (ownK rows tks kvs ord) (.inl r) with
  | none => rfl
  | some v => exact absurd ((keys_mem (ownK_keys ord) r).mp (by rw [e]; rfl)) h
theorem ownK_some {ord : List Int} {r : Int} (h : r ∈ ord) : valV (ownK rows tks kvs ord) (.inl r) = some (ownV rows tks kvs r) := by
  obtain ⟨v, hv⟩ := Option.isSome_iff_exists.mp ((keys_mem (ownK_keys (rows := rows) (tks := tks) (kvs := kvs) ord) r).mpr h)
  have m := valV_mem hv
  unfold ownK at m
  obtain ⟨r', _, e⟩ := List.mem_map.mp m
  cases e
  exact hv
theorem ownK_put {ord : List Int} {r : Int} (h : r ∉ ord) : putK (ownK rows tks kvs ord) (.inl r) (ownV rows tks kvs r) = ownK rows tks kvs (ord ++ [r]) := by rw [putK_new _ (ownK_none h), ownK_snoc]
end
/-! rooms: what each has left -/
def expR (ord : List (List Nat)) (rm : List Nat → Nat) : List (List Nat) := ord.flatMap fun t => List.replicate (rm t) t
def decR (rm : List Nat → Nat) (t : List Nat) : List Nat → Nat := fun u => if u = t then rm t - 1 else rm u
def RoomK (H : Hp) (D : Addr) (tks : List (List Nat)) (rm : List Nat → Nat) : Prop := ∃ rk : List (Key × V), H D = some (.dK rk) ∧ rk.length ≤ 64 ∧ ∀ t ∈ tks, valV rk (.inr (S t)) = some (.int (rm t : Nat))
theorem RoomK.get {H : Hp} {D : Addr} {tks : List (List Nat)} {rm : List Nat → Nat} {t : List Nat} (h : RoomK H D tks rm) (ht : t ∈ tks) : DGet H D (.str (S t)) (some (.int (rm t : Nat))) := by
  obtain ⟨rk, e, _, v⟩ := h
  have := DGet.k (k := .inr (S t)) e
  rw [v t ht] at this
  exact this
theorem RoomK.chg {A : List Addr} {H H' : Hp} {D : Addr} {tks : List (List Nat)} {rm : List Nat → Nat} (h : RoomK H D tks rm) (c : Chg A H H') (n : D ∉ A) : RoomK H' D tks rm := let ⟨rk, e, r⟩ := h; ⟨rk, c.keep _ _ e n, r⟩
theorem RoomK.same {H H' : Hp} {D : Addr} {tks : List (List Nat)} {rm : List Nat → Nat} (h : RoomK H D tks rm) (s : Same H H') : RoomK H' D tks rm := let ⟨rk, e, r⟩ := h; ⟨rk, s _ _ e, r⟩
theorem RoomK.eq {H : Hp} {D : Addr} {tks : List (List Nat)} {rm rm' : List Nat → Nat} (h : RoomK H D tks rm) (e : ∀ t ∈ tks, rm' t = rm t) : RoomK H D tks rm' := let ⟨rk, e1, l, v⟩ := h; ⟨rk, e1, l, fun t ht => by rw [e t ht]; exact v t ht⟩
theorem RoomK.set {H : Hp} {D : Addr} {tks : List (List Nat)} {rm : List Nat → Nat} {t : List Nat} {n : Nat} {Qh : Hp → Prop} (h : RoomK H D tks rm) (ht : t ∈ tks) (q : ∀ H', Chg [D] H H' → RoomK H' D tks (fun u => if u = t then n else rm u) → (∀ b, b ≠ D → H' b = H b) → Qh H') : rSetA (.ref D) (.str (S t)) (.int (n : Nat)) H Qh := by
  obtain ⟨rk, e, l, v⟩ := h
  refine rSetA_d (DPut.k (k := .inr (S t)) e (Nat.lt_of_le_of_lt l (by decide))) (q _ (Chg.upd (by simp) (mut_dK e)) ⟨_, upd_same, by rw [putK_there (v t ht)]; exact l, fun u hu => ?_⟩ fun b hb => upd_ne hb)
  rw [valV_put]
  show _ = some (V.int ((if u = t then n else rm u : Nat) : Int))
  by_cases z : u = t
  · rw [if_pos z, z, if_pos rfl]
  · rw [if_neg z, if_neg (fun y => z (S_inj (Sum.inr.inj y)))]
    exact v u hu
def rMulL : R2 := fun x y H Q => rMulA x y H Q ∨ rRep x y H Q
theorem op_mulL {X : Cx} : OpR X (binaryOp .Mult) rMulL := op_mulA.or op_rep
def sp_kept : Sp := fun vs H Q _ => ∃ (rp dp : Addr) (rows : List Int) (tk : List Nat) (kvs : List (Key × V)) (n : Nat), vs = [.ref rp, .str (S tk), .ref dp, .int n] ∧ H rp = some (.lst (rows.map V.int)) ∧ H dp = some (.dK kvs) ∧ HadK kvs ∧ rows.length < 64 ∧
  ∀ D H', H D = none → Same H H' → H' D = some (.lst (((srtI (rows.filter (hasF kvs tk))).take n).map V.int)) → Q (.ref D) H'
def sp_dealt : Sp := fun vs H Q _ => ∃ (rp tp dp : Addr) (rows : List Int) (tks : List (List Nat)) (kvs : List (Key × V)), vs = [.ref rp, .ref tp, .ref dp] ∧ H rp = some (.lst (rows.map V.int)) ∧ H tp = some (.lst (txV tks)) ∧ H dp = some (.dK kvs) ∧ HadK kvs ∧ rows.length < 64 ∧ tks.length < 64 ∧ tks.Nodup ∧ rows.Nodup ∧ (∀ a ∈ tks, okS a) ∧
  ∀ D H' (ord : List Int), H D = none → Same H H' → ord.Perm rows → H' D = some (.dK (ownK rows tks kvs ord)) → Q (.ref D) H'
def sp_isdueO : Sp := fun vs H Q _ => ∃ (f d : Addr) (rows o1 o2 : List Int) (tks : List (List Nat)) (kvs : List (Key × V)), vs = [.ref f, .ref d] ∧ f ≠ d ∧ H f = some (.dK (ownK rows tks kvs o1)) ∧ H d = some (.dK (ownK rows tks kvs o2)) ∧ o1.Perm o2 ∧ HadKO kvs ∧ (∀ a ∈ tks, okS a) ∧ o1.length ≤ 64 ∧ ∀ H', Same H H' → Q (.bl true) H'
end L2

set_option Elab.async false
set_option linter.all false
set_option maxRecDepth 100000
set_option maxHeartbeats 4000000
namespace L2
open PySem PySem.Spec PyProof.Rows
/-! ### max(d.values()), min(d.values()) -/
theorem best_at (ns : List Int) (hne : ns ≠ []) : ns.getD (argBest (fun i j => decide (ns.getD i 0 > ns.getD j 0)) (ns.length - 1)) 0 ∈ ns ∧ ∀ a ∈ ns, a ≤ ns.getD (argBest (fun i j => decide (ns.getD i 0 > ns.getD j 0)) (ns.length - 1)) 0 := by
  have hl := List.length_pos_iff.mpr hne
  obtain ⟨h1, h2⟩ := argBest_gt (fun i => ns.getD i 0) (ns.length - 1)
  refine ⟨getD_mem (by omega), fun a ha => ?_⟩
  obtain ⟨j, hj, rfl⟩ := mem_getD ha
  exact h2 j (by omega)
theorem least_at (ns : List Int) (hne : ns ≠ []) : ns.getD (argBest (fun i j => decide (ns.getD i 0 < ns.getD j 0)) (ns.length - 1)) 0 ∈ ns ∧ ∀ a ∈ ns, ns.getD (argBest (fun i j => decide (ns.getD i 0 < ns.getD j 0)) (ns.length - 1)) 0 ≤ a := by
  have hl := List.length_pos_iff.mpr hne
  obtain ⟨h1, h2⟩ := argBest_lt (fun i => ns.getD i 0) (ns.length - 1)
  refine ⟨getD_mem (by omega), fun a ha => ?_⟩
  obtain ⟨j, hj, rfl⟩ := mem_getD ha
  exact h2 j (by omega)
theorem kv_int {κ : Type} {kvs : List (κ × V)} {vs : List (κ × Value)} {ns : List Int} (hp : KV kvs vs) (he : kvs.map (·.2) = ns.map V.int) {i : Nat} {v : Value} (h : ∃ k, vs[i]? = some (k, v)) : ∃ t : Tok, v = Value.int (ns.getD i 0) t := by
  have hv : Vals (ns.map V.int) (vs.map (·.2)) := he ▸ kv_vals hp
  obtain ⟨k, hk⟩ := h
  have e2 : (vs.map (·.2))[i]? = some v := by rw [List.getElem?_map, hk]; rfl
  cases hn : ns[i]? with
  | none =>
    have := hv.none_of (i := i) (by rw [List.getElem?_map, hn]; rfl)
    rw [e2] at this; cases this
  | some n =>
    obtain ⟨u, h1, r⟩ := hv.get (i := i) (x := .int n) (by rw [List.getElem?_map, hn]; rfl)
    rw [e2] at h1
    cases h1
    rw [List.getD_eq_getElem?_getD, hn]
    exact r
section
variable {X : Cx} {o : Expr} {apos cpos : Pos} {td : TE}
def tMaxV (td : TE) : TE := fun σ H Q => td σ H fun x H1 => ∃ (d : Addr) (kvs : List (Key × V)) (ns : List Int), x = .ref d ∧ H1 d = some (.dK kvs) ∧ kvs.map (·.2) = ns.map V.int ∧ ns ≠ [] ∧
  ∀ m ∈ ns, (∀ a ∈ ns, a ≤ m) → Q (.int m) H1
def tMinV (td : TE) : TE := fun σ H Q => td σ H fun x H1 => ∃ (d : Addr) (kvs : List (Key × V)) (ns : List Int), x = .ref d ∧ H1 d = some (.dK kvs) ∧ kvs.map (·.2) = ns.map V.int ∧ ns ≠ [] ∧
  ∀ m ∈ ns, (∀ a ∈ ns, m ≤ a) → Q (.int m) H1
theorem pe_maxV {p pos : Pos} (hc : X.calm = true) (hg : Gl X "max") (hm : X.mg "max" = none) (ho : PE X o td) (hbase : attributeBase o "values" X.env (eval o X.env) = eval o X.env := by rfl) (hline : (apos.endLine == cpos.line) = true := by rfl)
    (he : starEach [.Call (.Attribute o "values" apos) [] [] cpos] X.env = [(false, eval (.Call (.Attribute o "values" apos) [] [] cpos) X.env)] := by rfl) :
    PE X (.Call (.Name "max" p) [.Call (.Attribute o "values" apos) [] [] cpos] [] pos) (tMaxV td) := by
  intro pins s σ H Q I h
  refine wpAny_Call_Name_kw (ld_blt I hg hm boot_max ?_ (by decide) (by decide))
  refine PyProof.Rows.callWith_builtin1 ?_ he rfl
  rw [he]
  show wpAny _ _ (spliced [(false, eval (.Call (.Attribute o "values" apos) [] [] cpos) X.env)]) _ _ s
  refine Calls.spliced_cons (wpAny_Call_method0_late hbase hline (thn (ho pins s σ H _ I h) fun v s1 ⟨x, H1, I1, r1, q1⟩ => ?_))
  obtain ⟨d, kvs, ns, rfl, ed, ev, hne, q⟩ := q1
  obtain rfl : v = Value.ref d := r1
  obtain ⟨t1, t2, t3⟩ := isD_at I1 (.inl ⟨kvs, .inl ed⟩)
  refine ⟨"dict", "dict.values", PySem.F.plainAttrs_dict, PySem.F.slot_dict_values, PySem.F.type_dict_values, t1, t2, Calls.callWith_builtin rfl (PySem.evalArgs_none ?_)⟩
  obtain ⟨od, hod, IF⟩ := I1.freeze ed
  obtain ⟨vs, ep, S, _⟩ := says_of (I1.hok d _ ed) hod
  have D := S.2 _ hod
  refine call_meetsIn PySem.F.slot_dict_values t1 PySem.F.entry_dict_values (PySem.F.args_dict_values_1 _) (meets_dict_values (mixKind X.prog X.w) d t3) ⟨⟨vs, D.dictOf⟩, ?_⟩
  have hvl : vs.length = ns.length := by
    have h1 : kvs.length = vs.length := Paired.length S.1
    have h2 := congrArg List.length ev
    rw [List.length_map, List.length_map] at h2
    omega
  have hpos : 0 < vs.length := by rw [hvl]; exact List.length_pos_iff.mpr hne
  have hview : Heap.IsValuesView (s1.heap.push { cls := .type "dict_values", data := .fields #[.ref d] }) s1.heap.objs.size d := ⟨_, Heap.get?_push_size _ rfl, rfl, rfl⟩
  have K := PySem.W.kdl_values (prog := X.prog) (w := X.w) (r := s1.heap.objs.size) (d := d) (knd := mixKind X.prog X.w) (kvs := vs) (ep := ep)
  refine Calls.spliced_nil (call_max_walk ?_)
  obtain ⟨oI, St, hit, W, st⟩ := K.iter X.A.in1 { s1 with heap := s1.heap.push { cls := .type "dict_values", data := .fields #[.ref d] } } (I1.ok.hd hc) ⟨hview, D.push _⟩
  refine hit _ _ ⟨_, _, _, vs.length, _, _, _, rfl, W, st, fun b hb => ?_, hpos, CmpOf.ints_gt (fun i => ns.getD i 0) (fun _ _ hv => kv_int S.1 ev hv), fun v h' tk hP hk => ?_⟩
  · show b < ((s1.heap.push _).push oI).objs.size
    have hlt : d < s1.heap.objs.size := Heap.lt_size hod
    rw [size_push', size_push']
    rcases List.mem_cons.mp hb with e | hb
    · rw [e]; show (s1.heap.push _).objs.size < _; rw [size_push']; exact Nat.lt_succ_self _
    · rw [List.mem_singleton.mp hb]; exact Nat.lt_succ_of_lt (Nat.lt_succ_of_lt hlt)
  · obtain ⟨t, rfl⟩ := kv_int S.1 ev hP
    obtain ⟨b1, b2⟩ := best_at ns hne
    rw [hvl]
    refine ⟨.int _, H1, I1.kept (t' := tk) (h' := h') fun b o e => hk b o (fun hI => ?_) (Heap.get?_push_of_some _ (Heap.get?_push_of_some _ e)), ⟨_, rfl⟩, q _ b1 b2⟩
    have hlt := Heap.lt_size e
    rw [List.mem_singleton.mp hI] at hlt
    have : (s1.heap.push { cls := .type "dict_values", data := .fields #[.ref d] }).objs.size < s1.heap.objs.size := hlt
    rw [size_push'] at this
    omega
theorem pe_minV {p pos : Pos} (hc : X.calm = true) (hg : Gl X "min") (hm : X.mg "min" = none) (ho : PE X o td) (hbase : attributeBase o "values" X.env (eval o X.env) = eval o X.env := by rfl) (hline : (apos.endLine == cpos.line) = true := by rfl)
    (he : starEach [.Call (.Attribute o "values" apos) [] [] cpos] X.env = [(false, eval (.Call (.Attribute o "values" apos) [] [] cpos) X.env)] := by rfl) :
    PE X (.Call (.Name "min" p) [.Call (.Attribute o "values" apos) [] [] cpos] [] pos) (tMinV td) := by
  intro pins s σ H Q I h
  refine wpAny_Call_Name_kw (ld_blt I hg hm boot_min ?_ (by decide) (by decide))
  refine PyProof.Rows.callWith_builtin1 ?_ he rfl
  rw [he]
  show wpAny _ _ (spliced [(false, eval (.Call (.Attribute o "values" apos) [] [] cpos) X.env)]) _ _ s
  refine Calls.spliced_cons (wpAny_Call_method0_late hbase hline (thn (ho pins s σ H _ I h) fun v s1 ⟨x, H1, I1, r1, q1⟩ => ?_))
  obtain ⟨d, kvs, ns, rfl, ed, ev, hne, q⟩ := q1
  obtain rfl : v = Value.ref d := r1
  obtain ⟨t1, t2, t3⟩ := isD_at I1 (.inl ⟨kvs, .inl ed⟩)
  refine ⟨"dict", "dict.values", PySem.F.plainAttrs_dict, PySem.F.slot_dict_values, PySem.F.type_dict_values, t1, t2, Calls.callWith_builtin rfl (PySem.evalArgs_none ?_)⟩
  obtain ⟨od, hod, IF⟩ := I1.freeze ed
  obtain ⟨vs, ep, S, _⟩ := says_of (I1.hok d _ ed) hod
  have D := S.2 _ hod
  refine call_meetsIn PySem.F.slot_dict_values t1 PySem.F.entry_dict_values (PySem.F.args_dict_values_1 _) (meets_dict_values (mixKind X.prog X.w) d t3) ⟨⟨vs, D.dictOf⟩, ?_⟩
  have hvl : vs.length = ns.length := by
    have h1 : kvs.length = vs.length := Paired.length S.1
    have h2 := congrArg List.length ev
    rw [List.length_map, List.length_map] at h2
    omega
  have hpos : 0 < vs.length := by rw [hvl]; exact List.length_pos_iff.mpr hne
  have hview : Heap.IsValuesView (s1.heap.push { cls := .type "dict_values", data := .fields #[.ref d] }) s1.heap.objs.size d := ⟨_, Heap.get?_push_size _ rfl, rfl, rfl⟩
  have K := PySem.W.kdl_values (prog := X.prog) (w := X.w) (r := s1.heap.objs.size) (d := d) (knd := mixKind X.prog X.w) (kvs := vs) (ep := ep)
  refine Calls.spliced_nil (call_min_walk ?_)
  obtain ⟨oI, St, hit, W, st⟩ := K.iter X.A.in1 { s1 with heap := s1.heap.push { cls := .type "dict_values", data := .fields #[.ref d] } } (I1.ok.hd hc) ⟨hview, D.push _⟩
  refine hit _ _ ⟨_, _, _, vs.length, _, _, _, rfl, W, st, fun b hb => ?_, hpos, CmpOf.ints_lt (fun i => ns.getD i 0) (fun _ _ hv => kv_int S.1 ev hv), fun v h' tk hP hk => ?_⟩
  · show b < ((s1.heap.push _).push oI).objs.size
    have hlt : d < s1.heap.objs.size := Heap.lt_size hod
    rw [size_push', size_push']
    rcases List.mem_cons.mp hb with e | hb
    · rw [e]; show (s1.heap.push _).objs.size < _; rw [size_push']; exact Nat.lt_succ_self _
    · rw [List.mem_singleton.mp hb]; exact Nat.lt_succ_of_lt (Nat.lt_succ_of_lt hlt)
  · obtain ⟨t, rfl⟩ := kv_int S.1 ev hP
    obtain ⟨b1, b2⟩ := least_at ns hne
    rw [hvl]
    refine ⟨.int _, H1, I1.kept (t' := tk) (h' := h') fun b o e => hk b o (fun hI => ?_) (Heap.get?_push_of_some _ (Heap.get?_push_of_some _ e)), ⟨_, rfl⟩, q _ b1 b2⟩
    have hlt := Heap.lt_size e
    rw [List.mem_singleton.mp hI] at hlt
    have : (s1.heap.push { cls := .type "dict_values", data := .fields #[.ref d] }).objs.size < s1.heap.objs.size := hlt
    rw [size_push'] at this
    omega
end
/-! ### None in d -/
theorem pyHash_none {prog : Program} {w : World} {A : Around} {E : Value → Shared → Prop} {s : Shared} {Q : Int → Shared → Prop} (h : Q 0xFCA86420 { s with toks := s.toks + 1 }) : wpAny (model prog w) A (PySem.pyHash .none) Q E s := by
  unfold PySem.pyHash
  have hv : [Value.none].any Value.onHeap = false := rfl
  refine wpAny_bind ?_
  rw [cRoomFor, if_neg (by rw [hv]; exact Bool.false_ne_true)]; refine wpAny_pure ?_
  refine wpAny_bind (wpAny_specialOf (typeIs_none s) PySem.F.slot_NoneType_hash.lookup ?_)
  show wpAny _ _ (if (some (Value.builtin "NoneType.__hash__") == some Value.none) = true then _ else _) Q E s
  rw [if_neg (by rw [beq_builtin_none]; exact Bool.false_ne_true)]
  refine wpAny_bind (wpAny_specialOf (typeIs_none s) PySem.F.slot_NoneType_hash.lookup ?_)
  show wpAny _ _ (callSpecialIfBoundUnlessNone? .none "__hash__" _ >>= _) Q E s
  refine wpAny_bind (wpAny_callSpecialIfBoundUnlessNone?_slot (typeIs_none s) PySem.F.slot_NoneType_hash
    (wpAny_call_entry PySem.F.slot_NoneType_hash (typeIs_none s) PySem.F.entry_NoneType_hash
      (show wpAny _ _ (do ret (← mkInt 0xFCA86420)) _ _ s from wpAny_ret_mkInt ?_) (PySem.F.args_NoneType_hash_1 _)))
  show wpAny _ _ (if (decide (-(2 : Int) ^ 63 ≤ 0xFCA86420) && decide ((0xFCA86420 : Int) < 2 ^ 63)) = true then _ else _) Q E _
  rw [if_pos (by decide)]
  exact wpAny_pure h
def keyIsN : Option Key → Value → Bool
  | none, .none => true
  | none, _ => false
  | some k, v => keyIs k v
theorem keyIsN_none {v : Value} (h : keyIsN none v = true) : v = .none := by cases v <;> first | rfl | exact nomatch h
theorem keyIs_nn (k : Key) : keyIs k .none = false := by
  cases e : keyIs k .none with
  | false => rfl
  | true => rcases keyIs_shape e with ⟨_, _, _, z⟩ | ⟨_, _, _, z⟩ <;> exact nomatch z
def keyHN (w : World) : Option Key → Int
  | none => 0xFCA86420
  | some k => keyH w k
def nKind (prog : Program) (w : World) : PySem.KeyKind prog w (Option Key) where
  is := keyIsN
  hash := keyHN w
  inj := fun v a b ha hb => by
    cases a with
    | none =>
      cases keyIsN_none ha
      cases b with
      | none => rfl
      | some b => exact absurd (show keyIs b .none = true from hb) (by rw [keyIs_nn]; decide)
    | some a =>
      cases b with
      | none => cases keyIsN_none hb; exact absurd (show keyIs a .none = true from ha) (by rw [keyIs_nn]; decide)
      | some b => rw [(mixKind prog w).inj v a b ha hb]
  byValue := fun k v h => by
    cases k with
    | none => cases keyIsN_none h; rfl
    | some k => exact (mixKind prog w).byValue k v h
  pyHash := fun {A E s k v Q} hv h => by
    cases k with
    | none => cases keyIsN_none hv; exact pyHash_none h
    | some k => exact (mixKind prog w).pyHash (k := k) hv h
  eqBool := fun {A E s a b u v Q} hu hv h => by
    cases a with
    | none =>
      cases keyIsN_none hu
      cases b with
      | none =>
        cases keyIsN_none hv
        unfold PySem.eqBool
        simp only [beq_self_eq_true, if_true]
        exact wpAny_bind (wpAny_rule (wpAny_pure (by simpa using h)))
      | some b =>
        have h' : Q false s := by simpa using h
        rcases keyIs_shape hv with ⟨j, u, rfl, rfl⟩ | ⟨y, u, rfl, rfl⟩
        · exact SeqAt.EqAt.none_int j u _ _ _ _ h'
        · exact SeqAt.EqAt.none_str y u _ _ _ _ h'
    | some a =>
      cases b with
      | none =>
        cases keyIsN_none hv
        have h' : Q false s := by simpa using h
        rcases keyIs_shape hu with ⟨j, u, rfl, rfl⟩ | ⟨y, u, rfl, rfl⟩
        · exact SeqAt.EqAt.int_none j u _ _ _ _ h'
        · exact SeqAt.EqAt.str_none y u _ _ _ _ h'
      | some b =>
        refine (mixKind prog w).eqBool (a := a) (b := b) hu hv ?_
        have e : decide (some a = some b) = decide (a = b) := by
          by_cases z : a = b
          · rw [decide_eq_true z, decide_eq_true (by rw [z])]
          · rw [decide_eq_false z, decide_eq_false (fun y => z (Option.some.inj y))]
        rw [← e]; exact h
  «strs» := fun k x t v h => by
    cases k with
    | none => exact nomatch keyIsN_none h
    | some k => exact (mixKind prog w).strs k x t v h
theorem op_inNon {X : Cx} : OpR X (compareOp .In) (fun x y H Q => ∃ a kvs, x = .non ∧ y = .ref a ∧ H a = some (.dK kvs) ∧ Q (.bl false) H) := by
  intro pins s σ H x y v u Q I rx ry h
  obtain ⟨a, kvs, rfl, rfl, e, q⟩ := h
  cases (show u = Value.ref a from ry)
  cases (show v = Value.none from rx)
  obtain ⟨z, hd, vs, rel, o, es, ep, h1, h2, h3, h4, h5, h6⟩ := dk_rd I.hok (.inl e)
  have hm : s.heap.MapOf (nKind X.prog X.w) a (fun k => findBy (nKind X.prog X.w).is es k) := ⟨o, es, ep, h1, h2, h3, fun e he => by
    obtain ⟨k, k1, k2⟩ := h4 e he
    exact ⟨some k, k1, k2⟩, fun _ => rfl⟩
  refine wpAny_in_of (knd := nKind X.prog X.w) (k := none) rfl hd hm ?_
  have hn : findBy (nKind X.prog X.w).is es none = none := by
    unfold findBy
    have : es.find? (fun e => (nKind X.prog X.w).is none e.key) = none := by
      rw [Array.find?_eq_none]
      intro e he z
      obtain ⟨k, k1, _⟩ := h4 e he
      rw [keyIsN_none z] at k1
      exact absurd (show keyIs k .none = true from k1) (by rw [keyIs_nn]; decide)
    rw [this]; rfl
  rw [hn]
  exact ⟨.bl false, H, I.tok _, rfl, q⟩
def rInN (K : PySem.W.Frag) : R2 := fun x y H Q => rInn K x y H Q ∨ ∃ a kvs, x = .non ∧ y = .ref a ∧ H a = some (.dK kvs) ∧ Q (.bl false) H
theorem op_inN {X : Cx} {K : PySem.W.Frag} (hu : X.A.units + 1 < cLine) (hK : X.K = K := by rfl) : OpR X (compareOp .In) (rInN K) := (op_inK hu hK).or op_inNon
theorem rInN_non {K : PySem.W.Frag} {H : Hp} {Q : VK} {a : Addr} {kvs : List (Key × V)} (e : H a = some (.dK kvs)) (q : Q (.bl false) H) : rInN K .non (.ref a) H Q := .inr ⟨a, kvs, rfl, rfl, e, q⟩
theorem rInN_d {K : PySem.W.Frag} {H : Hp} {Q : VK} {a : Addr} {x : V} {o : Option V} (g : DGet H a x o) (q : Q (.bl o.isSome) H) : rInN K x (.ref a) H Q := .inl (.inr (.inr ⟨a, o, rfl, g, q⟩))
end L2

set_option Elab.async false
set_option linter.all false
set_option maxRecDepth 100000
set_option maxHeartbeats 4000000
namespace L2
open PySem PySem.Spec PyProof.Rows
/-! ### no even dealing moves fewer -/
def cntG (g : Int → V) (l : List Int) (t : List Nat) : Nat := (l.filter fun r => decide (g r = .str (S t))).length
theorem cntG_append (g : Int → V) (l m : List Int) (t : List Nat) : cntG g (l ++ m) t = cntG g l t + cntG g m t := by unfold cntG; rw [List.filter_append, List.length_append]
theorem cntG_perm {g : Int → V} {l m : List Int} (h : l.Perm m) (t : List Nat) : cntG g l t = cntG g m t := (h.filter _).length_eq
theorem cntG_cons (g : Int → V) (r : Int) (l : List Int) (t : List Nat) : cntG g (r :: l) t = (if g r = .str (S t) then 1 else 0) + cntG g l t := by
  unfold cntG
  by_cases h : g r = .str (S t)
  · rw [List.filter_cons_of_pos (by simp [h]), List.length_cons, if_pos h]; omega
  · rw [List.filter_cons_of_neg (by simp [h]), if_neg h]; omega
theorem cntG_congr {g g' : Int → V} {l : List Int} (h : ∀ r ∈ l, g r = g' r) (t : List Nat) : cntG g l t = cntG g' l t := by
  unfold cntG
  congr 1
  exact List.filter_congr fun r hr => by rw [h r hr]
theorem sumT_add (f h : List Nat → Nat) : ∀ l : List (List Nat), (l.map fun t => f t + h t).sum = (l.map f).sum + (l.map h).sum
  | [] => rfl
  | t :: l => by
    have := sumT_add f h l
    simp only [List.map_cons, List.sum_cons]
    omega
theorem sumT_le {f h : List Nat → Nat} : ∀ {l : List (List Nat)}, (∀ t ∈ l, f t ≤ h t) → (l.map f).sum ≤ (l.map h).sum
  | [], _ => Nat.le_refl _
  | t :: l, k => by
    have := sumT_le (l := l) fun u hu => k u (List.mem_cons_of_mem _ hu)
    have := k t List.mem_cons_self
    simp only [List.map_cons, List.sum_cons]
    omega
theorem sumT_eq {f h : List Nat → Nat} {l : List (List Nat)} (k : ∀ t ∈ l, f t = h t) : (l.map f).sum = (l.map h).sum := by rw [List.map_congr_left k]
theorem sumT_zero {f : List Nat → Nat} {l : List (List Nat)} (k : ∀ t ∈ l, f t = 0) : (l.map f).sum = 0 := by
  induction l with
  | nil => rfl
  | cons a l ih => simp only [List.map_cons, List.sum_cons]; rw [k a List.mem_cons_self, ih fun t ht => k t (List.mem_cons_of_mem _ ht)]
theorem sumT_pos {f : List Nat → Nat} {l : List (List Nat)} (h : 0 < (l.map f).sum) : ∃ t ∈ l, 0 < f t := by
  refine Classical.byContradiction fun z => ?_
  have := sumT_zero (f := f) (l := l) fun t ht => Nat.eq_zero_of_not_pos fun y => z ⟨t, ht, y⟩
  omega
theorem ind_le {x : V} : ∀ {l : List (List Nat)}, l.Nodup → (l.map fun t => if x = V.str (S t) then 1 else 0).sum ≤ 1
  | [], _ => by simp
  | t :: l, nd => by
    rw [List.nodup_cons] at nd
    simp only [List.map_cons, List.sum_cons]
    by_cases h : x = .str (S t)
    · rw [if_pos h, sumT_zero (l := l) fun u hu => if_neg fun z => ?_]
      · omega
      · have : S t = S u := V.str.inj (h ▸ z)
        exact nd.1 (S_inj this ▸ hu)
    · rw [if_neg h]
      have := ind_le (x := x) nd.2
      omega
theorem ind_ge {x : V} : ∀ {l : List (List Nat)}, (∃ t ∈ l, x = .str (S t)) → 1 ≤ (l.map fun t => if x = V.str (S t) then 1 else 0).sum
  | [], ⟨_, h, _⟩ => nomatch h
  | t :: l, ⟨u, hu, e⟩ => by
    simp only [List.map_cons, List.sum_cons]
    rcases List.mem_cons.mp hu with rfl | hu
    · rw [if_pos e]; omega
    · have := ind_ge (x := x) (l := l) ⟨u, hu, e⟩
      omega
theorem cnt_sum_le {g : Int → V} {tks : List (List Nat)} (tn : tks.Nodup) : ∀ l : List Int, (tks.map (cntG g l)).sum ≤ (l.filter fun r => !decide (g r = .non)).length
  | [] => by rw [sumT_zero]; · simp
             · intro t _; rfl
  | r :: l => by
    have ih := cnt_sum_le (g := g) tn l
    rw [show (tks.map (cntG g (r :: l))) = tks.map (fun t => (if g r = .str (S t) then 1 else 0) + cntG g l t) from List.map_congr_left fun t _ => cntG_cons g r l t, sumT_add]
    by_cases h : g r = .non
    · rw [List.filter_cons_of_neg (by simp [h]), sumT_zero fun t _ => if_neg (by rw [h]; exact fun z => nomatch z)]
      omega
    · rw [List.filter_cons_of_pos (by simp [h]), List.length_cons]
      have := ind_le (x := g r) tn
      omega
theorem part_le {g : Int → V} {tks : List (List Nat)} (P : Int → Bool) : ∀ l : List Int, (∀ r ∈ l, ∃ t ∈ tks, g r = .str (S t)) → (l.filter P).length ≤ (tks.map fun t => cntG g (l.filter P) t).sum
  | [], _ => Nat.zero_le _
  | r :: l, h => by
    have ih := part_le (g := g) P l fun u hu => h u (List.mem_cons_of_mem _ hu)
    cases hp : P r with
    | false => rw [List.filter_cons_of_neg (by simp [hp])]; exact ih
    | true =>
      rw [List.filter_cons_of_pos hp, List.length_cons, show (tks.map fun t => cntG g (r :: l.filter P) t) = tks.map (fun t => (if g r = .str (S t) then 1 else 0) + cntG g (l.filter P) t) from List.map_congr_left fun t _ => cntG_cons g r _ t, sumT_add]
      have := ind_ge (x := g r) (h r List.mem_cons_self)
      exact Nat.le_trans (by omega) (Nat.add_le_add this ih)
theorem cnt_exp {f : List Nat → Nat} {t : List Nat} : ∀ {ord : List (List Nat)}, ord.Nodup → ((expR ord f).filter fun u => decide (u = t)).length = if t ∈ ord then f t else 0
  | [], _ => by rw [if_neg (by simp)]; rfl
  | a :: l, nd => by
    rw [List.nodup_cons] at nd
    show ((List.replicate (f a) a ++ expR l f).filter fun u => decide (u = t)).length = _
    rw [List.filter_append, List.length_append, cnt_exp nd.2]
    by_cases h : a = t
    · subst h
      rw [if_neg nd.1, if_pos List.mem_cons_self, List.filter_eq_self.mpr (fun x hx => by rw [List.eq_of_mem_replicate hx]; simp), List.length_replicate]
      omega
    · rw [List.filter_eq_nil_iff.mpr (fun x hx => by rw [List.eq_of_mem_replicate hx]; simp [h])]
      by_cases h2 : t ∈ l
      · rw [if_pos h2, if_pos (List.mem_cons_of_mem _ h2)]; simp
      · rw [if_neg h2, if_neg (fun z => by rcases List.mem_cons.mp z with z | z; exact h z.symm; exact h2 z)]; simp
section
variable {rows : List Int} {tks : List (List Nat)} {kvs : List (Key × V)}
theorem own_some (nd : rows.Nodup) (t0 : tks ≠ []) (tn : tks.Nodup) {r : Int} (hr : r ∈ rows) : ∃ t ∈ tks, ownV rows tks kvs r = .str (S t) ∧ (kpB rows tks kvs r = false → (kpR rows tks kvs t).length < shM rows tks kvs t) := by
  cases h : kpB rows tks kvs r with
  | true =>
    obtain ⟨t, ht, m⟩ := kpB_iff.mp h
    exact ⟨t, ht, own_kept ht m, fun z => nomatch z⟩
  | false =>
    obtain ⟨k, hk⟩ := List.getElem?_of_mem (mem_lft.mpr ⟨hr, h⟩)
    have hl := (List.getElem?_eq_some_iff.mp hk).1
    rw [← lak_len nd t0 tn] at hl
    have e2 : (lakR rows tks kvs)[k]? = some ((lakR rows tks kvs)[k]) := List.getElem?_eq_getElem hl
    have m := List.getElem_mem hl
    refine ⟨(lakR rows tks kvs)[k], lakR_mem m, ?_, fun _ => ?_⟩
    · rw [own_left nd hk]
      unfold lakV
      rw [e2]
    · obtain ⟨u, hu, h2⟩ := List.mem_flatMap.mp m
      have e := List.eq_of_mem_replicate h2
      rw [e]
      rw [e] at h2
      have : 0 < shM rows tks kvs u - (kpR rows tks kvs u).length := by
        refine Nat.pos_of_ne_zero fun z => ?_
        rw [z] at h2
        exact nomatch h2
      omega
theorem same_iff (nd : rows.Nodup) (t0 : tks ≠ []) (tn : tks.Nodup) {r : Int} (hr : r ∈ rows) : decide (hdF kvs r = ownV rows tks kvs r) = kpB rows tks kvs r := by
  cases h : kpB rows tks kvs r with
  | true => rw [decide_eq_true]; unfold ownV; rw [if_pos h]
  | false =>
    obtain ⟨t, ht, e, hl⟩ := own_some (kvs := kvs) nd t0 tn hr
    refine decide_eq_false fun z => ?_
    rw [e] at z
    have hl := hl h
    have : r ∈ kpR rows tks kvs t := by
      unfold kpR at hl ⊢
      rw [List.length_take] at hl
      rw [List.take_of_length_le (by omega), srtI_mem, List.mem_filter]
      exact ⟨hr, by unfold hasF; rw [z]; simp⟩
    rw [kpB_iff.mpr ⟨t, ht, this⟩] at h
    cases h
theorem changed_len (nd : rows.Nodup) (t0 : tks ≠ []) (tn : tks.Nodup) : (rows.filter fun r => !decide (hdF kvs r = ownV rows tks kvs r)).length = (lftR rows tks kvs).length := by
  unfold lftR
  rw [((srtI_perm rows).filter _).length_eq]
  congr 1
  exact List.filter_congr fun r hr => by rw [same_iff nd t0 tn hr]
theorem lftV (nd : rows.Nodup) (t0 : tks ≠ []) (tn : tks.Nodup) : (lftR rows tks kvs).map (ownV rows tks kvs) = (lakR rows tks kvs).map fun t => V.str (S t) := by
  refine List.ext_getElem? fun i => ?_
  rw [List.getElem?_map, List.getElem?_map]
  have hl := lak_len (kvs := kvs) nd t0 tn
  cases e : (lftR rows tks kvs)[i]? with
  | none =>
    have := List.getElem?_eq_none_iff.mp e
    rw [List.getElem?_eq_none (by omega)]; rfl
  | some r =>
    have := (List.getElem?_eq_some_iff.mp e).1
    have e2 : (lakR rows tks kvs)[i]? = some ((lakR rows tks kvs)[i]) := List.getElem?_eq_getElem (by omega)
    rw [e2]
    show some (ownV rows tks kvs r) = _
    rw [own_left nd e]
    unfold lakV
    rw [e2]; rfl
theorem cnt_kept {t : List Nat} : ∀ {l : List (List Nat)}, l.Nodup → (∀ u ∈ l, u ∈ tks) → cntG (ownV rows tks kvs) (l.flatMap (kpR rows tks kvs)) t = if t ∈ l then (kpR rows tks kvs t).length else 0
  | [], _, _ => by rw [if_neg (by simp)]; rfl
  | a :: l, nd, h => by
    rw [List.nodup_cons] at nd
    rw [List.flatMap_cons, cntG_append, cnt_kept nd.2 fun u hu => h u (List.mem_cons_of_mem _ hu)]
    by_cases e : a = t
    · subst e
      rw [if_neg nd.1, if_pos List.mem_cons_self]
      unfold cntG
      rw [List.filter_eq_self.mpr (fun x hx => by rw [own_kept (h a List.mem_cons_self) hx]; simp)]
      omega
    · have z : cntG (ownV rows tks kvs) (kpR rows tks kvs a) t = 0 := by
        unfold cntG
        rw [List.filter_eq_nil_iff.mpr (fun x hx => by rw [own_kept (h a List.mem_cons_self) hx]; simp; exact e)]
        rfl
      rw [z]
      by_cases h2 : t ∈ l
      · rw [if_pos h2, if_pos (List.mem_cons_of_mem _ h2)]; omega
      · rw [if_neg h2, if_neg (fun z => by rcases List.mem_cons.mp z with z | z; exact e z.symm; exact h2 z)]
theorem cnt_own (nd : rows.Nodup) (t0 : tks ≠ []) (tn : tks.Nodup) {t : List Nat} (ht : t ∈ tks) : cntG (ownV rows tks kvs) rows t = shM rows tks kvs t := by
  rw [← cntG_perm (ord_perm (kvs := kvs) nd tn (srtT_perm tks)) t, cntG_append, cnt_kept (srtT_nd tn) fun u hu => srtT_mem.mp hu, if_pos (srtT_mem.mpr ht)]
  have h1 : cntG (ownV rows tks kvs) (lftR rows tks kvs) t = (((lftR rows tks kvs).map (ownV rows tks kvs)).filter fun v => decide (v = .str (S t))).length := by
    rw [List.filter_map, List.length_map]; rfl
  have h2 : (((lakR rows tks kvs).map fun t => V.str (S t)).filter fun v => decide (v = .str (S t))).length = ((lakR rows tks kvs).filter fun u => decide (u = t)).length := by
    rw [List.filter_map, List.length_map]
    congr 1
    refine List.filter_congr fun u _ => ?_
    show decide (V.str (S u) = V.str (S t)) = decide (u = t)
    by_cases z : u = t
    · rw [z]; simp
    · rw [decide_eq_false z, decide_eq_false (fun y => z (S_inj (V.str.inj y)))]
  have h3 : ((lakR rows tks kvs).filter fun u => decide (u = t)).length = shM rows tks kvs t - (kpR rows tks kvs t).length := by
    have := cnt_exp (f := fun t => shM rows tks kvs t - (kpR rows tks kvs t).length) (t := t) (srtT_nd tn)
    rw [if_pos (srtT_mem.mpr ht)] at this
    exact this
  rw [h1, lftV nd t0 tn, h2, h3]
  have := kp_le (rows := rows) (tks := tks) (kvs := kvs) t
  omega
theorem shM_at (tn : tks.Nodup) {i : Nat} {t : List Nat} (e : (shOrd rows tks kvs)[i]? = some t) : shM rows tks kvs t = if i < rows.length % tks.length then rows.length / tks.length + 1 else rows.length / tks.length := by
  have nk : ((shareK rows tks kvs).map (·.1)).Nodup := by
    unfold shareK
    rw [shK_keys, List.Nodup, List.pairwise_map]
    exact (shOrd_nd tn).imp fun h z => h (S_inj (Sum.inr.inj z))
  have hk : (shareK rows tks kvs)[i]? = some (Sum.inr (S t), V.int (if i < rows.length % tks.length then ((rows.length / tks.length : Nat) : Int) + 1 else (rows.length / tks.length : Nat))) := by
    unfold shareK shK
    rw [List.getElem?_map, List.getElem?_zipIdx, e]
    simp
  have hv := valV_nd nk hk
  unfold shM shN
  rw [hv]
  generalize rows.length % tks.length = more
  generalize rows.length / tks.length = low
  show (if i < more then (low : Int) + 1 else (low : Int)).toNat = _
  split <;> omega
theorem shM_two (tn : tks.Nodup) {t : List Nat} (ht : t ∈ tks) : shM rows tks kvs t = rows.length / tks.length ∨ shM rows tks kvs t = rows.length / tks.length + 1 := by
  obtain ⟨i, hi⟩ := List.getElem?_of_mem ((shOrd_perm rows tks kvs).mem_iff.mpr ht)
  rw [shM_at tn hi]
  split <;> simp
theorem idx_filter {p : List Nat → Bool} {m : Nat} : ∀ {l : List (List Nat)} {k : Nat}, (∀ i t, l[i]? = some t → p t = decide (i + k < m)) → (l.filter p).length = min (m - k) l.length
  | [], _, _ => by simp
  | a :: l, k, h => by
    have ih := idx_filter (p := p) (m := m) (l := l) (k := k + 1) fun i t e => by
      have := h (i + 1) t (by simpa using e)
      rw [this]; congr 1; rw [Nat.add_right_comm, Nat.add_assoc]
    have h0 := h 0 a rfl
    rw [Nat.zero_add] at h0
    by_cases z : k < m
    · rw [List.filter_cons_of_pos (by rw [h0]; simp [z]), List.length_cons, List.length_cons, ih]; omega
    · rw [List.filter_cons_of_neg (by rw [h0]; simp [z]), List.length_cons, ih]; omega
/-- how many are kept at most, by shares f -/
def keepN (rows : List Int) (tks : List (List Nat)) (kvs : List (Key × V)) (f : List Nat → Nat) : Nat := (tks.map fun t => min (nHas rows kvs t) (f t)).sum
theorem keepN_two {low : Nat} {f : List Nat → Nat} : ∀ {l : List (List Nat)}, (∀ t ∈ l, f t = low ∨ f t = low + 1) → keepN rows l kvs f = keepN rows l kvs (fun _ => low) + (l.filter fun t => decide (f t = low + 1) && richP rows kvs low t).length
  | [], _ => rfl
  | a :: l, h => by
    have ih := keepN_two (f := f) (low := low) (l := l) fun t ht => h t (List.mem_cons_of_mem _ ht)
    unfold keepN at ih ⊢
    simp only [List.map_cons, List.sum_cons] at ih ⊢
    rw [ih]
    have hr : richP rows kvs low a = decide (low < nHas rows kvs a) := rfl
    rcases h a List.mem_cons_self with e | e
    · rw [List.filter_cons_of_neg (by rw [e]; simp), e]; omega
    · by_cases z : low < nHas rows kvs a
      · rw [List.filter_cons_of_pos (by rw [e, hr]; simp [z]), List.length_cons, e]; omega
      · rw [List.filter_cons_of_neg (by rw [e, hr]; simp [z]), e]; omega
def overN (rows : List Int) (tks : List (List Nat)) (kvs : List (Key × V)) : Nat := (tks.filter (richP rows kvs (rows.length / tks.length))).length
def bestN (rows : List Int) (tks : List (List Nat)) (kvs : List (Key × V)) : Nat := keepN rows tks kvs (fun _ => rows.length / tks.length) + min (rows.length % tks.length) (overN rows tks kvs)
theorem idx_filter' {p r : List Nat → Bool} {m : Nat} {l : List (List Nat)} (h : ∀ i t, (l.filter r)[i]? = some t → p t = decide (i + 0 < m)) : ((l.filter r).filter p).length = min m (l.filter r).length := by
  rw [idx_filter h, Nat.sub_zero]
theorem filt_le {p q : List Nat → Bool} (h : ∀ t, p t = true → q t = true) : ∀ l : List (List Nat), (l.filter p).length ≤ (l.filter q).length
  | [] => Nat.le_refl _
  | a :: l => by
    have ih := filt_le h l
    cases hp : p a with
    | true => rw [List.filter_cons_of_pos hp, List.filter_cons_of_pos (h a hp), List.length_cons, List.length_cons]; omega
    | false =>
      rw [List.filter_cons_of_neg (by simp [hp])]
      cases hq : q a with
      | true => rw [List.filter_cons_of_pos hq, List.length_cons]; omega
      | false => rw [List.filter_cons_of_neg (by simp [hq])]; exact ih
theorem keep_le {f : List Nat → Nat} (h : ∀ t ∈ tks, f t = rows.length / tks.length ∨ f t = rows.length / tks.length + 1) (hm : (tks.filter fun t => decide (f t = rows.length / tks.length + 1)).length ≤ rows.length % tks.length) : keepN rows tks kvs f ≤ bestN rows tks kvs := by
  rw [keepN_two h]
  unfold bestN overN
  have h1 := filt_le (p := fun t => decide (f t = rows.length / tks.length + 1) && richP rows kvs (rows.length / tks.length) t) (q := fun t => decide (f t = rows.length / tks.length + 1)) (fun t z => by rw [Bool.and_eq_true] at z; exact z.1) tks
  have h2 := filt_le (p := fun t => decide (f t = rows.length / tks.length + 1) && richP rows kvs (rows.length / tks.length) t) (q := richP rows kvs (rows.length / tks.length)) (fun t z => by rw [Bool.and_eq_true] at z; exact z.2) tks
  omega
theorem keep_sh (tn : tks.Nodup) : keepN rows tks kvs (shM rows tks kvs) = bestN rows tks kvs := by
  rw [keepN_two fun t ht => shM_two tn ht]
  unfold bestN overN
  congr 1
  have hp := shOrd_perm rows tks kvs
  rw [← (hp.filter (fun t => decide (shM rows tks kvs t = rows.length / tks.length + 1) && richP rows kvs (rows.length / tks.length) t)).length_eq]
  have e1 : (tks.filter (richP rows kvs (rows.length / tks.length))).length = ((srtT tks).filter (richP rows kvs (rows.length / tks.length))).length := ((srtT_perm tks).filter _).length_eq.symm
  rw [e1]
  have hat : ∀ i t, ((srtT tks).filter (richP rows kvs (rows.length / tks.length)))[i]? = some t → (decide (shM rows tks kvs t = rows.length / tks.length + 1) && richP rows kvs (rows.length / tks.length) t) = decide (i + 0 < rows.length % tks.length) := by
    intro i t e
    have hi := (List.getElem?_eq_some_iff.mp e).1
    have e2 : (shOrd rows tks kvs)[i]? = some t := by unfold shOrd; rw [List.getElem?_append_left hi]; exact e
    have hr := (List.mem_filter.mp (List.mem_of_getElem? e)).2
    rw [hr, Bool.and_true, shM_at tn e2, Nat.add_zero]
    by_cases z : i < rows.length % tks.length
    · rw [if_pos z]; simp [z]
    · rw [if_neg z]; simp [z]
  conv => lhs; unfold shOrd
  have e3 : ((srtT tks).filter fun t => !richP rows kvs (rows.length / tks.length) t).filter (fun t => decide (shM rows tks kvs t = rows.length / tks.length + 1) && richP rows kvs (rows.length / tks.length) t) = [] := List.filter_eq_nil_iff.mpr fun t ht => by
    have := (List.mem_filter.mp ht).2
    rw [Bool.not_eq_true'] at this
    rw [this]; simp
  rw [List.filter_append, List.length_append, idx_filter' hat, e3]
  simp
theorem kp_min (t : List Nat) : (kpR rows tks kvs t).length = min (nHas rows kvs t) (shM rows tks kvs t) := by unfold kpR nHas; rw [List.length_take, srtI_len, Nat.min_comm]
theorem kept_left (nd : rows.Nodup) (tn : tks.Nodup) : bestN rows tks kvs + (lftR rows tks kvs).length = rows.length := by
  have h1 := (ord_perm (kvs := kvs) nd tn (List.Perm.refl tks)).length_eq
  rw [List.length_append, List.length_flatMap] at h1
  rw [← keep_sh tn, ← h1]
  unfold keepN
  congr 2
  exact List.map_congr_left fun t _ => (kp_min t).symm
theorem split_len (p : Int → Bool) : ∀ l : List Int, (l.filter p).length + (l.filter fun r => !p r).length = l.length
  | [] => rfl
  | a :: l => by
    have := split_len p l
    cases h : p a with
    | true => rw [List.filter_cons_of_pos h, List.filter_cons_of_neg (by simp [h]), List.length_cons, List.length_cons]; omega
    | false => rw [List.filter_cons_of_neg (by simp [h]), List.filter_cons_of_pos (by simp [h]), List.length_cons, List.length_cons]; omega
theorem rival_le {g : Int → V} {f : List Nat → Nat} (hg : ∀ r ∈ rows, ∃ t ∈ tks, g r = .str (S t)) (hc : ∀ t ∈ tks, cntG g rows t ≤ f t) (h : ∀ t ∈ tks, f t = rows.length / tks.length ∨ f t = rows.length / tks.length + 1) (hm : (tks.filter fun t => decide (f t = rows.length / tks.length + 1)).length ≤ rows.length % tks.length)
    (nd : rows.Nodup) (t0 : tks ≠ []) (tn : tks.Nodup) : (rows.filter fun r => !decide (hdF kvs r = ownV rows tks kvs r)).length ≤ (rows.filter fun r => !decide (hdF kvs r = g r)).length := by
  have h1 := part_le (g := g) (tks := tks) (fun r => decide (hdF kvs r = g r)) rows hg
  have h2 : (tks.map fun t => cntG g (rows.filter fun r => decide (hdF kvs r = g r)) t).sum ≤ keepN rows tks kvs f := by
    unfold keepN
    refine sumT_le fun t ht => ?_
    have a1 : cntG g (rows.filter fun r => decide (hdF kvs r = g r)) t ≤ cntG g rows t := by
      unfold cntG
      exact (List.Sublist.filter _ List.filter_sublist).length_le
    have a2 : cntG g (rows.filter fun r => decide (hdF kvs r = g r)) t ≤ nHas rows kvs t := by
      unfold cntG nHas
      rw [List.filter_filter]
      have key : ∀ l : List Int, (l.filter fun r => decide (g r = .str (S t)) && decide (hdF kvs r = g r)).length ≤ (l.filter (hasF kvs t)).length := by
        intro l
        induction l with
        | nil => exact Nat.le_refl _
        | cons a l ih =>
          by_cases z : g a = .str (S t) ∧ hdF kvs a = g a
          · rw [List.filter_cons_of_pos (by simp [z.1, z.2]), List.filter_cons_of_pos (by unfold hasF; rw [z.2, z.1]; simp), List.length_cons, List.length_cons]; omega
          · rw [List.filter_cons_of_neg (by simpa using z)]
            cases hq : hasF kvs t a with
            | true => rw [List.filter_cons_of_pos hq, List.length_cons]; omega
            | false => rw [List.filter_cons_of_neg (by simp [hq])]; exact ih
      exact key rows
    have a3 := hc t ht
    omega
  have h3 := keep_le (kvs := kvs) h hm
  have h4 := split_len (fun r => decide (hdF kvs r = g r)) rows
  rw [changed_len nd t0 tn]
  have h5 := kept_left (kvs := kvs) nd tn
  omega
end
def mapK (rows : List Int) (g : Int → V) : List (Key × V) := rows.map fun r => (Sum.inl r, g r)
theorem mapK_snoc (l : List Int) (r : Int) (g : Int → V) : mapK (l ++ [r]) g = mapK l g ++ [(Sum.inl r, g r)] := by unfold mapK; rw [List.map_append]; rfl
theorem mapK_len (l : List Int) (g : Int → V) : (mapK l g).length = l.length := by unfold mapK; rw [List.length_map]
theorem mapK_keys (l : List Int) (g : Int → V) : (mapK l g).map (·.1) = l.map Sum.inl := by unfold mapK; rw [List.map_map]; rfl
theorem mapK_congr {l : List Int} {g h : Int → V} (e : ∀ r ∈ l, g r = h r) : mapK l g = mapK l h := List.map_congr_left fun r hr => by rw [e r hr]
theorem mapK_some {l : List Int} {g : Int → V} {r : Int} (h : r ∈ l) : valV (mapK l g) (.inl r) = some (g r) := by
  obtain ⟨v, hv⟩ := Option.isSome_iff_exists.mp ((keys_mem (mapK_keys l g) r).mpr h)
  have m := valV_mem hv
  unfold mapK at m
  obtain ⟨r', _, e⟩ := List.mem_map.mp m
  cases e
  exact hv
theorem mapK_none {l : List Int} {g : Int → V} {r : Int} (h : r ∉ l) : valV (mapK l g) (.inl r) = none := by
  cases e : valV (mapK l g) (.inl r) with
  | none => rfl
  | some v => exact absurd ((keys_mem (mapK_keys l g) r).mp (by rw [e]; rfl)) h
def setG (g : Int → V) (r : Int) (v : V) : Int → V := fun x => if x = r then v else g x
theorem mapK_put {l : List Int} {g : Int → V} {r : Int} {v : V} (h : r ∈ l) : putK (mapK l g) (.inl r) v = mapK l (setG g r v) := by
  have ha : ((mapK l g).any fun kv => decide (kv.1 = Sum.inl r)) = true := by rw [valV_any, mapK_some h]; rfl
  unfold putK
  rw [if_pos (by simpa using ha)]
  unfold mapK
  rw [List.map_map]
  refine List.map_congr_left fun x _ => ?_
  show (if (Sum.inl x : Key) = Sum.inl r then _ else _) = (Sum.inl x, setG g r v x)
  unfold setG
  by_cases z : x = r
  · rw [if_pos (by rw [z]), if_pos z]
  · rw [if_neg (fun y => z (Sum.inl.inj y)), if_neg z]
theorem cnt_set {g : Int → V} {r : Int} {v : V} {l : List Int} {t : List Nat} (nd : l.Nodup) (h : r ∈ l) (hn : g r = .non) : cntG (setG g r v) l t = cntG g l t + if v = .str (S t) then 1 else 0 := by
  induction l with
  | nil => cases h
  | cons a l ih =>
    rw [List.nodup_cons] at nd
    rw [cntG_cons, cntG_cons]
    rcases List.mem_cons.mp h with e | h'
    · subst e
      have e0 : cntG (setG g r v) l t = cntG g l t := cntG_congr (fun x hx => by unfold setG; exact if_neg fun (z : x = r) => nd.1 (z ▸ hx)) t
      rw [e0, hn, if_neg (show ¬ V.non = V.str (S t) from fun z => nomatch z)]
      unfold setG
      rw [if_pos rfl]
      omega
    · rw [ih nd.2 h']
      have : setG g r v a = g a := by unfold setG; exact if_neg fun (z : a = r) => nd.1 (z ▸ h')
      rw [this]
      omega
/-- what each has left: just these keys -/
def RoomN (H : Hp) (D : Addr) (tks : List (List Nat)) (rm : List Nat → Nat) : Prop := ∃ rk : List (Key × V), H D = some (.dK rk) ∧ rk.length ≤ 64 ∧ (∀ t ∈ tks, valV rk (.inr (S t)) = some (.int (rm t : Nat))) ∧ ∀ t, t ∉ tks → valV rk (.inr (S t)) = none
theorem RoomN.get {H : Hp} {D : Addr} {tks : List (List Nat)} {rm : List Nat → Nat} {t : List Nat} (h : RoomN H D tks rm) (ht : t ∈ tks) : DGet H D (.str (S t)) (some (.int (rm t : Nat))) := by
  obtain ⟨rk, e, _, v, _⟩ := h
  have := DGet.k (k := .inr (S t)) e
  rw [v t ht] at this
  exact this
theorem RoomN.getN {H : Hp} {D : Addr} {tks : List (List Nat)} {rm : List Nat → Nat} {t : List Nat} (h : RoomN H D tks rm) (ht : t ∉ tks) : DGet H D (.str (S t)) none := by
  obtain ⟨rk, e, _, _, v⟩ := h
  have := DGet.k (k := .inr (S t)) e
  rw [v t ht] at this
  exact this
theorem RoomN.chg {A : List Addr} {H H' : Hp} {D : Addr} {tks : List (List Nat)} {rm : List Nat → Nat} (h : RoomN H D tks rm) (c : Chg A H H') (n : D ∉ A) : RoomN H' D tks rm := let ⟨rk, e, r⟩ := h; ⟨rk, c.keep _ _ e n, r⟩
theorem RoomN.same {H H' : Hp} {D : Addr} {tks : List (List Nat)} {rm : List Nat → Nat} (h : RoomN H D tks rm) (s : Same H H') : RoomN H' D tks rm := let ⟨rk, e, r⟩ := h; ⟨rk, s _ _ e, r⟩
theorem RoomN.set {H : Hp} {D : Addr} {tks : List (List Nat)} {rm : List Nat → Nat} {t : List Nat} {n : Nat} {Qh : Hp → Prop} (h : RoomN H D tks rm) (ht : t ∈ tks) (q : ∀ H', Chg [D] H H' → RoomN H' D tks (fun u => if u = t then n else rm u) → (∀ b, b ≠ D → H' b = H b) → Qh H') : rSetA (.ref D) (.str (S t)) (.int (n : Nat)) H Qh := by
  obtain ⟨rk, e, l, v, w⟩ := h
  refine rSetA_d (DPut.k (k := .inr (S t)) e (Nat.lt_of_le_of_lt l (by decide))) (q _ (Chg.upd (by simp) (mut_dK e)) ⟨_, upd_same, by rw [putK_there (v t ht)]; exact l, fun u hu => ?_, fun u hu => ?_⟩ fun b hb => upd_ne hb)
  · rw [valV_put]
    show _ = some (V.int ((if u = t then n else rm u : Nat) : Int))
    by_cases z : u = t
    · rw [if_pos z, z, if_pos rfl]
    · rw [if_neg z, if_neg (fun y => z (S_inj (Sum.inr.inj y)))]
      exact v u hu
  · rw [valV_put, if_neg (fun y => hu (by rw [show u = t from S_inj (Sum.inr.inj y)]; exact ht))]
    exact w u hu
def sp_even : Sp := fun vs H Q _ => ∃ (d rp tp : Addr) (rows ord : List Int) (tks : List (List Nat)) (kvs : List (Key × V)), vs = [.ref d, .ref rp, .ref tp] ∧ H d = some (.dK (ownK rows tks kvs ord)) ∧ H rp = some (.lst (rows.map V.int)) ∧ H tp = some (.lst (txV tks)) ∧ ord.Perm rows ∧ rows.Nodup ∧ tks.Nodup ∧ tks ≠ [] ∧ rows.length < 64 ∧ tks.length < 64 ∧ ∀ H', Same H H' → Q (.bl true) H'
def sp_rival : Sp := fun vs H Q _ => ∃ (c : Int) (rp tp dp : Addr) (rows : List Int) (tks : List (List Nat)) (kvs : List (Key × V)), vs = [.int c, .ref rp, .ref tp, .ref dp] ∧ H rp = some (.lst (rows.map V.int)) ∧ H tp = some (.lst (txV tks)) ∧ H dp = some (.dK kvs) ∧ HadK kvs ∧ rows.length < 64 ∧ tks.length < 64 ∧ tks.Nodup ∧ tks ≠ [] ∧ rows.Nodup ∧
  ∀ D H' (g : Int → V) (f : List Nat → Nat), H D = none → Same H H' → H' D = some (.dK (mapK rows g)) → (∀ r ∈ rows, ∃ t ∈ tks, g r = .str (S t)) → (∀ t ∈ tks, cntG g rows t ≤ f t) → (∀ t ∈ tks, f t = rows.length / tks.length ∨ f t = rows.length / tks.length + 1) → (tks.filter fun t => decide (f t = rows.length / tks.length + 1)).length ≤ rows.length % tks.length → Q (.ref D) H'
def sp_most : Sp := fun vs H Q _ => ∃ (rp tp dp : Addr) (rows : List Int) (tks : List (List Nat)) (kvs : List (Key × V)), vs = [.ref rp, .ref tp, .ref dp] ∧ H rp = some (.lst (rows.map V.int)) ∧ H tp = some (.lst (txV tks)) ∧ H dp = some (.dK kvs) ∧ HadK kvs ∧ rows.length < 64 ∧ tks.length < 64 ∧ tks ≠ [] ∧ ∀ H', Same H H' → Q (.int (bestN rows tks kvs : Nat)) H'
/-- how many each has so far -/
def manyK (tks : List (List Nat)) (f : List Nat → Nat) : List (Key × V) := tks.map fun t => (Sum.inr (S t), V.int (f t : Nat))
theorem manyK_snoc (l : List (List Nat)) (t : List Nat) (f : List Nat → Nat) : manyK (l ++ [t]) f = manyK l f ++ [(Sum.inr (S t), V.int (f t : Nat))] := by unfold manyK; rw [List.map_append]; rfl
theorem manyK_len (l : List (List Nat)) (f : List Nat → Nat) : (manyK l f).length = l.length := by unfold manyK; rw [List.length_map]
theorem manyK_mem {l : List (List Nat)} {f : List Nat → Nat} {t : List Nat} {v : V} (h : valV (manyK l f) (.inr (S t)) = some v) : t ∈ l ∧ v = .int (f t : Nat) := by
  have m := valV_mem h
  unfold manyK at m
  obtain ⟨u, hu, e⟩ := List.mem_map.mp m
  injection e with e1 e2
  have : u = t := S_inj (Sum.inr.inj e1)
  subst this
  exact ⟨hu, e2.symm⟩
theorem manyK_some {l : List (List Nat)} {f : List Nat → Nat} {t : List Nat} (h : t ∈ l) : valV (manyK l f) (.inr (S t)) = some (.int (f t : Nat)) := by
  have hs : (valV (manyK l f) (.inr (S t))).isSome = true := by
    rw [← valV_any, List.any_eq_true]
    exact ⟨_, List.mem_map.mpr ⟨t, h, rfl⟩, by simp⟩
  obtain ⟨v, hv⟩ := Option.isSome_iff_exists.mp hs
  rw [hv, (manyK_mem hv).2]
theorem manyK_none {l : List (List Nat)} {f : List Nat → Nat} {t : List Nat} (h : t ∉ l) : valV (manyK l f) (.inr (S t)) = none := by
  cases e : valV (manyK l f) (.inr (S t)) with
  | none => rfl
  | some v => exact absurd (manyK_mem e).1 h
theorem manyK_put {l : List (List Nat)} {f : List Nat → Nat} {t : List Nat} {n : Nat} (h : t ∈ l) : putK (manyK l f) (.inr (S t)) (.int (n : Nat)) = manyK l (fun u => if u = t then n else f u) := by
  have ha : ((manyK l f).any fun kv => decide (kv.1 = Sum.inr (S t))) = true := by rw [valV_any, manyK_some h]; rfl
  unfold putK
  rw [if_pos (by simpa using ha)]
  unfold manyK
  rw [List.map_map]
  refine List.map_congr_left fun x _ => ?_
  show (if (Sum.inr (S x) : Key) = Sum.inr (S t) then _ else _) = (Sum.inr (S x), V.int ((if x = t then n else f x : Nat) : Int))
  by_cases z : x = t
  · rw [if_pos (by rw [z]), if_pos z]
  · rw [if_neg (fun y => z (S_inj (Sum.inr.inj y))), if_neg z]
theorem manyK_congr {l : List (List Nat)} {f g : List Nat → Nat} (e : ∀ t ∈ l, f t = g t) : manyK l f = manyK l g := List.map_congr_left fun r hr => by rw [e r hr]
theorem manyK_vals (l : List (List Nat)) (f : List Nat → Nat) : (manyK l f).map (·.2) = (l.map fun t => (f t : Int)).map V.int := by unfold manyK; rw [List.map_map, List.map_map]; rfl
theorem keepN_snoc {rows : List Int} {l : List (List Nat)} {t : List Nat} {kvs : List (Key × V)} {f : List Nat → Nat} : keepN rows (l ++ [t]) kvs f = keepN rows l kvs f + min (nHas rows kvs t) (f t) := by
  unfold keepN
  rw [List.map_append, List.sum_append]
  simp
/-- the rival's shares -/
def fS (low more : Nat) (ord : List (List Nat)) (t : List Nat) : Nat := if ord.idxOf t < more then low + 1 else low
theorem fS_at {low more : Nat} {ord : List (List Nat)} (nd : ord.Nodup) {i : Nat} {t : List Nat} (e : ord[i]? = some t) : fS low more ord t = if i < more then low + 1 else low := by
  obtain ⟨hi, e⟩ := List.getElem?_eq_some_iff.mp e
  unfold fS
  rw [← e, nd.idxOf_getElem i hi]
theorem fS_two (low more : Nat) (ord : List (List Nat)) (t : List Nat) : fS low more ord t = low ∨ fS low more ord t = low + 1 := by unfold fS; split <;> simp
theorem fS_cnt {low more : Nat} {ord : List (List Nat)} (nd : ord.Nodup) : (ord.filter fun t => decide (fS low more ord t = low + 1)).length = min more ord.length := by
  rw [idx_filter (m := more) (k := 0) (fun i t e => ?_), Nat.sub_zero]
  rw [fS_at nd e, Nat.add_zero]
  by_cases z : i < more
  · rw [if_pos z]; simp [z]
  · rw [if_neg z]; simp [z]
theorem two_sum {low : Nat} {f : List Nat → Nat} : ∀ {l : List (List Nat)}, (∀ t ∈ l, f t = low ∨ f t = low + 1) → (l.map f).sum = l.length * low + (l.filter fun t => decide (f t = low + 1)).length
  | [], _ => by simp
  | a :: l, h => by
    have ih := two_sum (f := f) (low := low) (l := l) fun t ht => h t (List.mem_cons_of_mem _ ht)
    simp only [List.map_cons, List.sum_cons, List.length_cons, Nat.succ_mul]
    rcases h a List.mem_cons_self with e | e
    · rw [List.filter_cons_of_neg (by rw [e]; simp), e, ih]; omega
    · rw [List.filter_cons_of_pos (by rw [e]; simp), List.length_cons, e, ih]; omega
theorem fS_sum {n : Nat} {ord tks : List (List Nat)} (nd : ord.Nodup) (hp : ord.Perm tks) (t0 : 0 < tks.length) : (tks.map (fS (n / tks.length) (n % tks.length) ord)).sum = n := by
  rw [← (hp.map _).sum_nat, two_sum (fun t _ => fS_two _ _ _ t), fS_cnt nd, hp.length_eq]
  have hm := Nat.mod_lt n t0
  have hd := Nat.div_add_mod n tks.length
  rw [Nat.min_eq_left (Nat.le_of_lt hm)]
  exact hd
theorem fS_few {low more : Nat} {ord tks : List (List Nat)} (nd : ord.Nodup) (hp : ord.Perm tks) : (tks.filter fun t => decide (fS low more ord t = low + 1)).length ≤ more := by
  rw [← (hp.filter _).length_eq, fS_cnt nd]
  exact Nat.min_le_left _ _
theorem fS_room {low more : Nat} {ord tks : List (List Nat)} {H : Hp} {D : Addr} (nd : ord.Nodup) (hp : ord.Perm tks) (hl : tks.length ≤ 64) (e : H D = some (.dK (shK low more ord))) : RoomN H D tks (fS low more ord) := by
  refine ⟨_, e, by rw [shK_len, hp.length_eq]; exact hl, fun t ht => ?_, fun t ht => shK_none fun z => ht (hp.mem_iff.mp z)⟩
  obtain ⟨i, hi⟩ := List.getElem?_of_mem (hp.mem_iff.mpr ht)
  have nk : ((shK low more ord).map (·.1)).Nodup := by
    rw [shK_keys, List.Nodup, List.pairwise_map]
    exact nd.imp fun h z => h (S_inj (Sum.inr.inj z))
  have hk : (shK low more ord)[i]? = some (Sum.inr (S t), V.int (if i < more then (low : Int) + 1 else low)) := by
    unfold shK
    rw [List.getElem?_map, List.getElem?_zipIdx, hi]
    simp
  rw [valV_nd nk hk, fS_at nd hi]
  congr 2
  split <;> omega
structure RivG (H : Hp) (q p : Addr) (l : List Int) (tks : List (List Nat)) (f : List Nat → Nat) (g : Int → V) (rm : List Nat → Nat) : Prop where
  q : H q = some (.dK (mapK l g))
  p : RoomN H p tks rm
  v : ∀ r ∈ l, g r = .non ∨ ∃ t ∈ tks, g r = .str (S t)
  s : ∀ t ∈ tks, rm t + cntG g l t = f t
theorem RivG.same {H H' : Hp} {q p : Addr} {l : List Int} {tks : List (List Nat)} {f : List Nat → Nat} {g : Int → V} {rm : List Nat → Nat} (h : RivG H q p l tks f g rm) (s : Same H H') : RivG H' q p l tks f g rm := ⟨s _ _ h.q, h.p.same s, h.v, h.s⟩
theorem RivG.put {H : Hp} {q p : Addr} {l : List Int} {tks : List (List Nat)} {f : List Nat → Nat} {g : Int → V} {rm : List Nat → Nat} {r : Int} {Qh : Hp → Prop} (h : RivG H q p l tks f g rm) (hl : l.length ≤ 64) (hr : r ∉ l) (np : p ≠ q) (k : ∀ H' g', Chg [q, p] H H' → RivG H' q p (l ++ [r]) tks f g' rm → g' r = .non → Qh H') : rSetA (.ref q) (.int r) .non H Qh := by
  refine rSetA_d (DPut.k (k := .inl r) h.q (by rw [mapK_len]; exact Nat.lt_of_le_of_lt hl (by decide))) (k _ (setG g r .non) (Chg.upd (by simp) (mut_dK h.q)) ⟨?_, h.p.chg (A := [q]) (Chg.upd (by simp) (mut_dK h.q)) (by simp; exact np), fun x hx => ?_, fun t ht => ?_⟩ ?_)
  · have e : ∀ x ∈ l, g x = setG g r .non x := fun x hx => by unfold setG; exact (if_neg fun (z : x = r) => hr (z ▸ hx)).symm
    rw [putK_new _ (mapK_none hr), mapK_snoc, mapK_congr e, show setG g r .non r = .non by unfold setG; rw [if_pos rfl]]
    exact upd_same
  · unfold setG
    by_cases z : x = r
    · rw [if_pos z]; exact .inl rfl
    · rw [if_neg z]
      rcases List.mem_append.mp hx with hx | hx
      · exact h.v x hx
      · exact absurd (List.mem_singleton.mp hx) z
  · have e : cntG (setG g r .non) l t = cntG g l t := cntG_congr (fun x hx => by unfold setG; exact if_neg fun (z : x = r) => hr (z ▸ hx)) t
    have e2 : cntG (setG g r .non) [r] t = 0 := by rw [cntG_cons]; unfold setG; rw [if_pos rfl, if_neg (fun z => nomatch z)]; rfl
    rw [cntG_append, e, e2]
    exact h.s t ht
  · unfold setG; rw [if_pos rfl]
theorem RivG.set {K : PySem.W.Frag} {H : Hp} {q p : Addr} {l : List Int} {tks : List (List Nat)} {f : List Nat → Nat} {g : Int → V} {rm : List Nat → Nat} {r : Int} {t : List Nat} {Qh : Hp → Prop} (h : RivG H q p l tks f g rm) (hl : l.length ≤ 64) (nd : l.Nodup) (hr : r ∈ l) (hn : g r = .non) (ht : t ∈ tks) (hp : 0 < rm t) (np : p ≠ q)
    (k : ∀ H', Chg [q, p] H H' → RivG H' q p l tks f (setG g r (.str (S t))) (fun u => if u = t then rm t - 1 else rm u) → Qh H') : rSetA (.ref q) (.int r) (.str (S t)) H fun H1 => rIxA K (.ref p) (.str (S t)) H1 fun x H2 => ∃ i, x = .int i ∧ rSetA (.ref p) (.str (S t)) (.int (i - 1)) H2 Qh := by
  have c1 : Chg [q] H (upd H q (.dK (putK (mapK l g) (.inl r) (.str (S t))))) := Chg.upd (by simp) (mut_dK h.q)
  refine rSetA_d (DPut.k (k := .inl r) h.q (by rw [mapK_len]; exact Nat.lt_of_le_of_lt hl (by decide))) ?_
  have q1 : upd H q (.dK (putK (mapK l g) (.inl r) (.str (S t)))) q = some (.dK (mapK l (setG g r (.str (S t))))) := by rw [mapK_put hr]; exact upd_same
  generalize upd H q (.dK (putK (mapK l g) (.inl r) (.str (S t)))) = H1 at c1 q1 ⊢
  have R1 := h.p.chg c1 (by simp; exact np)
  refine rIxA_d (R1.get ht) ⟨_, rfl, ?_⟩
  rw [show ((rm t : Nat) : Int) - 1 = ((rm t - 1 : Nat) : Int) by omega]
  refine R1.set ht fun H2 c2 R2 f2 => k H2 ((c1.mono (by simp)).trans (c2.mono (by simp))) ⟨(f2 _ (Ne.symm np)).trans q1, R2, fun x hx => ?_, fun u hu => ?_⟩
  · unfold setG
    by_cases z : x = r
    · rw [if_pos z]; exact .inr ⟨t, ht, rfl⟩
    · rw [if_neg z]; exact h.v x hx
  · rw [cnt_set nd hr hn]
    have := h.s u hu
    show (if u = t then rm t - 1 else rm u) + _ = _
    by_cases z : u = t
    · rw [if_pos z, if_pos (by rw [z])]
      subst z
      omega
    · rw [if_neg z, if_neg (fun y => z (S_inj (V.str.inj y)).symm)]
      omega
theorem RivG.room {H : Hp} {q p : Addr} {l : List Int} {tks : List (List Nat)} {f : List Nat → Nat} {g : Int → V} {rm : List Nat → Nat} {r : Int} (h : RivG H q p l tks f g rm) (tn : tks.Nodup) (hf : (tks.map f).sum = l.length) (hr : r ∈ l) (hn : g r = .non) : ∃ t ∈ tks, 0 < rm t := by
  refine sumT_pos (Nat.pos_of_ne_zero fun z => ?_)
  have h1 : (tks.map f).sum = (tks.map rm).sum + (tks.map (cntG g l)).sum := by rw [← sumT_add]; exact sumT_eq fun t ht => (h.s t ht).symm
  have h2 := cnt_sum_le (g := g) tn l
  have h3 := split_len (fun r => !decide (g r = .non)) l
  have h4 : 0 < (l.filter fun r => !!decide (g r = .non)).length := List.length_pos_iff.mpr fun e => by
    have : r ∈ l.filter fun r => !!decide (g r = .non) := List.mem_filter.mpr ⟨hr, by rw [hn]; rfl⟩
    rw [e] at this; cases this
  omega
theorem pap_sum {rows : List Int} {tks : List (List Nat)} {kvs : List (Key × V)} : ∀ l : List (List Nat), (∀ t ∈ l, t ∈ tks) → (l.map fun t => min ((nHas rows kvs t : Nat) : Int) (shN rows tks kvs t)).sum = (keepN rows l kvs (shM rows tks kvs) : Nat)
  | [], _ => rfl
  | t :: l, h => by
    have ih := pap_sum (rows := rows) (tks := tks) (kvs := kvs) l fun u hu => h u (List.mem_cons_of_mem _ hu)
    obtain ⟨_, g1, _⟩ := shN_get (rows := rows) (kvs := kvs) (h t List.mem_cons_self)
    have e : keepN rows (t :: l) kvs (shM rows tks kvs) = min (nHas rows kvs t) (shM rows tks kvs t) + keepN rows l kvs (shM rows tks kvs) := by unfold keepN; rw [List.map_cons, List.sum_cons]
    rw [List.map_cons, List.sum_cons, ih, e]
    have : shM rows tks kvs t = (shN rows tks kvs t).toNat := rfl
    omega
theorem keepN_perm {rows : List Int} {l m : List (List Nat)} {kvs : List (Key × V)} {f : List Nat → Nat} (h : l.Perm m) : keepN rows l kvs f = keepN rows m kvs f := (h.map _).sum_nat
theorem mov_len {rows ord : List Int} {tks : List (List Nat)} {kvs : List (Key × V)} (pm : ord.Perm rows) : (movR kvs (ownK rows tks kvs ord)).length = (rows.filter fun r => !decide (hdF kvs r = ownV rows tks kvs r)).length := by
  unfold movR
  rw [List.length_map]
  have e : ksOf (ownK rows tks kvs ord) = ord := by
    unfold ksOf ownK
    rw [List.map_map]
    exact (List.map_congr_left fun r _ => rfl).trans (List.map_id ord)
  rw [e, (((srtI_perm ord).trans pm).filter _).length_eq]
  congr 1
  refine List.filter_congr fun r hr => ?_
  unfold movP
  have : hdF (ownK rows tks kvs ord) r = ownV rows tks kvs r := by unfold hdF; rw [ownK_some (pm.mem_iff.mpr hr)]; rfl
  rw [this]
end L2

set_option Elab.async false
set_option linter.all false
set_option maxRecDepth 100000
set_option maxHeartbeats 4000000
set_option pp.deepTerms true
set_option pp.maxSteps 200000
namespace K44
open PySem PySem.Spec PyProof.Rows L2
def top (i : Nat) : Stmt := PySem.Challenge.pw_lettercell_k44_whole_no_even_dealing_mov.main.body.getD i (.Pass ⟨0, 0, 0, 0⟩)
abbrev s_rows_had : Stmt := top 1
theorem sc_rows_had : FnScope ["rows", "taker", "had"] ["rows", "taker", "had"] (defScope s_rows_had) := ⟨rfl, rfl, rfl, by decide +kernel, rfl, by decide +kernel, by decide +kernel⟩
abbrev s_shares : Stmt := top 2
theorem sc_shares : FnScope ["rows", "takers", "had", "told", "least", "greater", "order", "rich", "poor", "k", "taker"] ["rows", "takers", "had"] (defScope s_shares) := ⟨rfl, rfl, rfl, by decide +kernel, rfl, by decide +kernel, by decide +kernel⟩
abbrev s_rows_kept : Stmt := top 3
theorem sc_rows_kept : FnScope ["rows", "taker", "had", "share"] ["rows", "taker", "had", "share"] (defScope s_rows_kept) := ⟨rfl, rfl, rfl, by decide +kernel, rfl, by decide +kernel, by decide +kernel⟩
abbrev s_dealt : Stmt := top 4
theorem sc_dealt : FnScope ["rows", "takers", "had", "now", "lacks", "share_of", "taker", "kept", "row", "left", "k"] ["rows", "takers", "had"] (defScope s_dealt) := ⟨rfl, rfl, rfl, by decide +kernel, rfl, by decide +kernel, by decide +kernel⟩
abbrev s_paper_of : Stmt := top 5
theorem sc_paper_of : FnScope ["rows", "takers", "had", "paper", "share_of", "taker", "many"] ["rows", "takers", "had"] (defScope s_paper_of) := ⟨rfl, rfl, rfl, by decide +kernel, rfl, by decide +kernel, by decide +kernel⟩
abbrev s_moved : Stmt := top 6
theorem sc_moved : FnScope ["had", "now"] ["had", "now"] (defScope s_moved) := ⟨rfl, rfl, rfl, by decide +kernel, rfl, by decide +kernel, by decide +kernel⟩
abbrev s_l_cell_at : Stmt := top 8
theorem sc_l_cell_at : FnScope ["_law_script", "_law_k"] ["_law_script", "_law_k"] (defScope s_l_cell_at) := ⟨rfl, rfl, rfl, by decide +kernel, rfl, by decide +kernel, by decide +kernel⟩
abbrev s_l_mixed : Stmt := top 9
theorem sc_l_mixed : FnScope ["_law_cell", "_law_k", "_law_number"] ["_law_cell", "_law_k"] (defScope s_l_mixed) := ⟨rfl, rfl, rfl, by decide +kernel, rfl, by decide +kernel, by decide +kernel⟩
abbrev s_l_plain : Stmt := top 10
theorem sc_l_plain : FnScope ["_law_thing", "_law_part"] ["_law_thing"] (defScope s_l_plain) := ⟨rfl, rfl, rfl, by decide +kernel, rfl, by decide +kernel, by decide +kernel⟩
abbrev s_l_name : Stmt := top 12
theorem sc_l_name : FnScope ["_law_cell", "_law_way", "_law_k", "_law_signs", "_law_first", "_law_size", "_law_rest", "_law_at"] ["_law_cell", "_law_way", "_law_k"] (defScope s_l_name) := ⟨rfl, rfl, rfl, by decide +kernel, rfl, by decide +kernel, by decide +kernel⟩
abbrev s_l_names : Stmt := top 13
theorem sc_l_names : FnScope ["_law_cell", "_law_many"] ["_law_cell", "_law_many"] (defScope s_l_names) := ⟨rfl, rfl, rfl, by decide +kernel, rfl, by decide +kernel, by decide +kernel⟩
abbrev s_l_rows : Stmt := top 14
theorem sc_l_rows : FnScope ["_law_cell", "_law_many", "_law_start", "_law_step", "_law_rows_here", "_law_cut"] ["_law_cell", "_law_many"] (defScope s_l_rows) := ⟨rfl, rfl, rfl, by decide +kernel, rfl, by decide +kernel, by decide +kernel⟩
abbrev s_l_had : Stmt := top 15
theorem sc_l_had : FnScope ["_law_script", "_law_start", "_law_rows_here", "_law_names_here", "_law_had_here", "_law_k", "_law_row", "_law_number", "_law_owner"] ["_law_script", "_law_start", "_law_rows_here", "_law_names_here"] (defScope s_l_had) := ⟨rfl, rfl, rfl, by decide +kernel, rfl, by decide +kernel, by decide +kernel⟩
abbrev s_l_takers : Stmt := top 16
theorem sc_l_takers : FnScope ["_law_cell", "_law_names_here", "_law_many", "_law_some", "_law_cut"] ["_law_cell", "_law_names_here", "_law_many"] (defScope s_l_takers) := ⟨rfl, rfl, rfl, by decide +kernel, rfl, by decide +kernel, by decide +kernel⟩
abbrev s_l_rival : Stmt := top 17
theorem sc_l_rival : FnScope ["_law_cell", "_law_rows_here", "_law_takers_here", "_law_had_here", "_law_low", "_law_more", "_law_cut", "_law_order", "_law_room", "_law_k", "_law_taker", "_law_rival_here", "_law_row", "_law_owner"] ["_law_cell", "_law_rows_here", "_law_takers_here", "_law_had_here"] (defScope s_l_rival) := ⟨rfl, rfl, rfl, by decide +kernel, rfl, by decide +kernel, by decide +kernel⟩
abbrev s_l_most_kept : Stmt := top 18
theorem sc_l_most_kept : FnScope ["_law_rows_here", "_law_takers_here", "_law_had_here", "_law_low", "_law_more", "_law_kept", "_law_over", "_law_taker", "_law_has"] ["_law_rows_here", "_law_takers_here", "_law_had_here"] (defScope s_l_most_kept) := ⟨rfl, rfl, rfl, by decide +kernel, rfl, by decide +kernel, by decide +kernel⟩
abbrev s_l_even : Stmt := top 19
theorem sc_l_even : FnScope ["_law_found", "_law_rows_here", "_law_takers_here", "_law_many", "_law_taker", "_law_row"] ["_law_found", "_law_rows_here", "_law_takers_here"] (defScope s_l_even) := ⟨rfl, rfl, rfl, by decide +kernel, rfl, by decide +kernel, by decide +kernel⟩
abbrev s_law : Stmt := top 20
theorem sc_law : FnScope ["_law_script", "_law_names_here", "_law_second", "_law_rows_here", "_law_third", "_law_takers_here", "_law_had_here", "_law_now", "_law_moves", "_law_paper", "_law_changed", "_law_kept", "_law_rival_here"] ["_law_script"] (defScope s_law) := ⟨rfl, rfl, rfl, by decide +kernel, rfl, by decide +kernel, by decide +kernel⟩
structure Adr where
  f_rows_had : Addr
  d_rows_had : FuncData
  f_shares : Addr
  d_shares : FuncData
  f_rows_kept : Addr
  d_rows_kept : FuncData
  f_dealt : Addr
  d_dealt : FuncData
  f_paper_of : Addr
  d_paper_of : FuncData
  f_moved : Addr
  d_moved : FuncData
  f_l_cell_at : Addr
  d_l_cell_at : FuncData
  f_l_mixed : Addr
  d_l_mixed : FuncData
  f_l_plain : Addr
  d_l_plain : FuncData
  f_l_name : Addr
  d_l_name : FuncData
  f_l_names : Addr
  d_l_names : FuncData
  f_l_rows : Addr
  d_l_rows : FuncData
  f_l_had : Addr
  d_l_had : FuncData
  f_l_takers : Addr
  d_l_takers : FuncData
  f_l_rival : Addr
  d_l_rival : FuncData
  f_l_most_kept : Addr
  d_l_most_kept : FuncData
  f_l_even : Addr
  d_l_even : FuncData
  f_law : Addr
  d_law : FuncData
structure Txt (K : PySem.W.Frag) (mg : Str → Option Value) (a : Adr) : Prop where
  F_rows_had : Fun K "rows_had" "rows_had" s_rows_had a.f_rows_had a.d_rows_had
  b_rows_had : Binds K a.d_rows_had ["rows", "taker", "had"] []
  m_rows_had : mg "rows_had" = some (.ref a.f_rows_had)
  F_shares : Fun K "shares" "shares" s_shares a.f_shares a.d_shares
  b_shares : Binds K a.d_shares ["rows", "takers", "had"] []
  m_shares : mg "shares" = some (.ref a.f_shares)
  F_rows_kept : Fun K "rows_kept" "rows_kept" s_rows_kept a.f_rows_kept a.d_rows_kept
  b_rows_kept : Binds K a.d_rows_kept ["rows", "taker", "had", "share"] []
  m_rows_kept : mg "rows_kept" = some (.ref a.f_rows_kept)
  F_dealt : Fun K "dealt" "dealt" s_dealt a.f_dealt a.d_dealt
  b_dealt : Binds K a.d_dealt ["rows", "takers", "had"] []
  m_dealt : mg "dealt" = some (.ref a.f_dealt)
  F_paper_of : Fun K "paper_of" "paper_of" s_paper_of a.f_paper_of a.d_paper_of
  b_paper_of : Binds K a.d_paper_of ["rows", "takers", "had"] []
  m_paper_of : mg "paper_of" = some (.ref a.f_paper_of)
  F_moved : Fun K "moved" "moved" s_moved a.f_moved a.d_moved
  b_moved : Binds K a.d_moved ["had", "now"] []
  m_moved : mg "moved" = some (.ref a.f_moved)
  F_l_cell_at : Fun K "_law_cell_at" "_law_cell_at" s_l_cell_at a.f_l_cell_at a.d_l_cell_at
  b_l_cell_at : Binds K a.d_l_cell_at ["_law_script", "_law_k"] []
  m_l_cell_at : mg "_law_cell_at" = some (.ref a.f_l_cell_at)
  F_l_mixed : Fun K "_law_mixed" "_law_mixed" s_l_mixed a.f_l_mixed a.d_l_mixed
  b_l_mixed : Binds K a.d_l_mixed ["_law_cell", "_law_k"] []
  m_l_mixed : mg "_law_mixed" = some (.ref a.f_l_mixed)
  F_l_plain : Fun K "_law_plain" "_law_plain" s_l_plain a.f_l_plain a.d_l_plain
  b_l_plain : Binds K a.d_l_plain ["_law_thing"] []
  m_l_plain : mg "_law_plain" = some (.ref a.f_l_plain)
  F_l_name : Fun K "_law_name" "_law_name" s_l_name a.f_l_name a.d_l_name
  b_l_name : Binds K a.d_l_name ["_law_cell", "_law_way", "_law_k"] []
  m_l_name : mg "_law_name" = some (.ref a.f_l_name)
  F_l_names : Fun K "_law_names" "_law_names" s_l_names a.f_l_names a.d_l_names
  b_l_names : Binds K a.d_l_names ["_law_cell", "_law_many"] []
  m_l_names : mg "_law_names" = some (.ref a.f_l_names)
  F_l_rows : Fun K "_law_rows" "_law_rows" s_l_rows a.f_l_rows a.d_l_rows
  b_l_rows : Binds K a.d_l_rows ["_law_cell", "_law_many"] []
  m_l_rows : mg "_law_rows" = some (.ref a.f_l_rows)
  F_l_had : Fun K "_law_had" "_law_had" s_l_had a.f_l_had a.d_l_had
  b_l_had : Binds K a.d_l_had ["_law_script", "_law_start", "_law_rows_here", "_law_names_here"] []
  m_l_had : mg "_law_had" = some (.ref a.f_l_had)
  F_l_takers : Fun K "_law_takers" "_law_takers" s_l_takers a.f_l_takers a.d_l_takers
  b_l_takers : Binds K a.d_l_takers ["_law_cell", "_law_names_here", "_law_many"] []
  m_l_takers : mg "_law_takers" = some (.ref a.f_l_takers)
  F_l_rival : Fun K "_law_rival" "_law_rival" s_l_rival a.f_l_rival a.d_l_rival
  b_l_rival : Binds K a.d_l_rival ["_law_cell", "_law_rows_here", "_law_takers_here", "_law_had_here"] []
  m_l_rival : mg "_law_rival" = some (.ref a.f_l_rival)
  F_l_most_kept : Fun K "_law_most_kept" "_law_most_kept" s_l_most_kept a.f_l_most_kept a.d_l_most_kept
  b_l_most_kept : Binds K a.d_l_most_kept ["_law_rows_here", "_law_takers_here", "_law_had_here"] []
  m_l_most_kept : mg "_law_most_kept" = some (.ref a.f_l_most_kept)
  F_l_even : Fun K "_law_even" "_law_even" s_l_even a.f_l_even a.d_l_even
  b_l_even : Binds K a.d_l_even ["_law_found", "_law_rows_here", "_law_takers_here"] []
  m_l_even : mg "_law_even" = some (.ref a.f_l_even)
  F_law : Fun K "law" "law" s_law a.f_law a.d_law
  b_law : Binds K a.d_law ["_law_script"] []
  m_law : mg "law" = some (.ref a.f_law)
  n_bool : mg "bool" = none
  n_dict : mg "dict" = none
  n_enumerate : mg "enumerate" = none
  n_int : mg "int" = none
  n_isinstance : mg "isinstance" = none
  n_len : mg "len" = none
  n_list : mg "list" = none
  n_max : mg "max" = none
  n_min : mg "min" = none
  n_range : mg "range" = none
  n_sorted : mg "sorted" = none
  n_str : mg "str" = none
  n_sum : mg "sum" = none
  n_tuple : mg "tuple" = none
  bl_law : ∀ (s : Shared) (u : Value), BindsTo s a.d_law ⟨[u], []⟩ [("_law_script", u)]

local macro_rules | `(tactic| walk_at "rd") => do
  let ns := (("sp_rhad, sp_shares, sp_lrows, sp_ltakers, sp_lhadO, sp_kept, sp_dealt, sp_moved, sp_paper, sp_even, sp_rival, sp_most, tMaxV, tMinV, rDict, tCompD, sp_nm6, sp_names6, sp_mixed, sp_cell_at, sp_plainN, sp_same, S_iff, and_assoc, tFor_eq, tComp_eq, cx_K, iAny_eq, iRng1, iRng2, rSlA_s, rSlS, tSl, tNoPart, tPart, tBM, tBM0, tyV, rJoin, tLst, tTup, tSeq, tAsg, gName, gTup, gCons, gNil, gSub, tVar, tC, tOp, tUn, rU, rI, rI0, tTest, tIfS, tRet, tRetN, tNext, tBreak, tCont, tDrop, tCons, tNil, tCall, tMeth, tMake, tCB, tB, tNot, tAnd, tOr, tAndV, tOrV, tNotV, tChain, tIf, tIsN, tNotN, tFld, sFld, tInRng, tInRng1, tDGet1, tDGet2, tDPop1, tDPop2, tDisp, tPairs, tDNewK, rAppend, rMax, rMin, iZip, iEnum, rInt_i, rInt_b, rStrI, rMul_ii, rMul_si, rIsB_bb, rNotB_bb, tForD_eq, iItems, iKeys, iRev, tDClear, rPlus_ii, rPlus_ss, rEqq_ii, rNeq_ii, rEqq_ss, rNeq_ss, rEqq_bb, rNeq_bb, rEqq_nn, rNeq_nn, rEqq_ni, rNeq_ni, rEqq_in, rNeq_in, rEqq_ns, rNeq_ns, rEqq_sn, rNeq_sn, rEqq_nb, rNeq_nb, rEqq_bn, rNeq_bn, rEqq_is, rNeq_is, rEqq_si, rNeq_si, rLt_ii, rLt_ss, rLe_ii, rLe_ss, rLen_s, rInn_s, rNin_s, rOrd, tTru, TruV_b, TruV_n, TruV_i, rIxA_s, rIxS2, rAny_s, isi_non_int, isi_non_bool, isi_non_str, isi_non_list, isi_non_tuple, isi_non_dict, isi_bl_int, isi_bl_bool, isi_bl_str, isi_bl_list, isi_bl_tuple, isi_bl_dict, isi_int_int, isi_int_bool, isi_int_str, isi_int_list, isi_int_tuple, isi_int_dict, isi_str_int, isi_str_bool, isi_str_str, isi_str_list, isi_str_tuple, isi_str_dict, _root_.L2.start, CMul, CDiv, CPow, Int.reduceNeg, Int.reducePow, Int.reduceLT, Int.reduceLE, Int.reduceToNat, or_true, true_or, and_self, Nat.reducePow, List.map_cons, List.map_nil, List.length_cons, List.length_nil, List.replicate, List.cons_append, List.nil_append, List.append_nil, Nat.reduceAdd, Nat.reduceSub, Nat.zero_add, Nat.add_zero, Nat.sub_self, List.getElem?_cons_zero, List.getElem?_cons_succ, List.set_cons_zero, List.set_cons_succ, Option.some.injEq, V.int.injEq, V.bl.injEq, V.str.injEq, V.ref.injEq, V.ty.injEq, reduceCtorEq, exists_eq, exists_eq', not_true_eq_false, not_false_eq_true, exists_eq_left', exists_eq_left, exists_eq_right, exists_eq_right', exists_and_left, exists_and_right, exists_const, false_and, and_false, true_and, and_true, exists_false, or_false, false_or, List.cons.injEq, eq_self_iff_true, Bool.false_eq_true, Bool.or_self, Bool.or_true, Bool.true_or, Bool.or_false, Bool.false_or, if_true, if_false, ite_true, ite_false, Bool.not_true, Bool.not_false, decide_eq_true_eq, Bool.not_eq_true', decide_eq_false_iff_not".splitOn ",").map String.trim).filter (fun s => !s.isEmpty)
  let ls ← ns.mapM fun s => `(Lean.Parser.Tactic.simpLemma| $(Lean.mkIdent s.toName):term)
  let ls := ls.toArray
  `(tactic| simp (maxSteps := 3000000) only [$ls,*, ↓reduceIte])
seal PE PT PW PA PS PSs PG PGs PI PO PPs PC
section
variable {P : Program} {w : World} {K : PySem.W.Frag} {mg : Str → Option Value} {base : Heap} {a : Adr}

theorem ok_l_mixed (T : Txt K mg a) : FnOk P w K mg base CX0 1 a.f_l_mixed a.d_l_mixed ["_law_cell", "_law_k"] sp_mixed := by
  refine T.F_l_mixed.ok sc_l_mixed (fun vs H Q E h => ?_) (fun cdv A outer s H vs Q E hr h => ?_)
  · obtain ⟨c, k, rfl, _⟩ := h
    rfl
  · obtain ⟨c, k, rfl, q⟩ := h
    refine ⟨_, (pss_cons (ps_set (i := 2) sc_l_mixed.nd rfl (Or.inl rfl) (pe_op op_mod (pe_op (op_plusK (K := K)) (pe_op (op_plusK (K := K)) (pe_op op_mulA (pe_op op_mod (pv 0) pe_int) pe_int) (pe_op op_mulA pe_int (pv 1))) pe_int) pe_int))
      (pss_one (ps_ret (pe_op op_mod (pe_op op_mulA (pv 2) (pv 2)) pe_int)))), ?_⟩
    walk_at "rd"
    refine ⟨.inl ?_, q⟩
    omega

theorem ok_l_cell_at (T : Txt K mg a) : FnOk P w K mg base CX0 1 a.f_l_cell_at a.d_l_cell_at ["_law_script", "_law_k"] (sp_cell_at K) := by
  refine T.F_l_cell_at.ok sc_l_cell_at (fun vs H Q E h => ?_) (fun cdv A outer s H vs Q E hr h => ?_)
  · obtain ⟨p, ns, k, rfl, _⟩ := h
    rfl
  · obtain ⟨p, ns, k, rfl, hs, hk, q⟩ := h
    refine ⟨_, (pss_cons (ps_if (pt_cmpR op_ltK (pv 1) (pe_callB (call_lenK (K := K)) (by rfl) T.n_len boot_len (pa_cons (pv 0) pa_nil)) (nomark _)) (pss_one (ps_ret (pe_ix (ix_anyK (K := K) (hU1 hr)) (pv 0) (pv 1) (fun _ _ => rfl)))) pss_nil)
      (pss_one (ps_ret pe_int))), ?_⟩
    walk_at "rd"
    refine rLen_l hs ?_
    walk_at "rd"
    rw [List.length_map]
    refine ite2 (fun hlt => ?_) (fun hge => ?_)
    · refine rIxA_l hs (v := .int (ns.getD k.toNat 0)) (atI_get? hk ?_) q
      rw [List.getElem?_map, List.getD_eq_getElem?_getD, List.getElem?_eq_getElem (show k.toNat < ns.length by omega)]
      rfl
    · rw [List.getD_eq_getElem?_getD, List.getElem?_eq_none (show ns.length ≤ k.toNat by omega)] at q
      exact q

theorem ok_plainN (T : Txt K mg a) : ∀ n, FnOk P w K mg base CX0 (n + 1) a.f_l_plain a.d_l_plain ["_law_thing"] (sp_plainN n)
  | 0 => T.F_l_plain.ok sc_l_plain (fun vs H Q E h => False.elim h) (fun cdv A outer s H vs Q E hr h => False.elim h)
  | n + 1 => by
    have ih := ok_plainN T n
    refine T.F_l_plain.ok sc_l_plain (fun vs H Q E h => ?_) (fun cdv A outer s H vs Q E hr h => ?_)
    · obtain ⟨v, rfl, _⟩ := h
      rfl
    · obtain ⟨v, rfl, pl, q⟩ := h
      refine ⟨_, (pss_cons (ps_if (pt_truthK (K := K) (pe_callB (call_isiTK (K := K)) (by rfl) T.n_isinstance boot_isinstance (pa_cons (pv 0) (pa_cons (pe_tup (pa_cons (pe_bltn (v := .ty "tuple") rfl T.n_tuple boot_tuple rfl) (pa_cons (pe_bltn (v := .ty "list") rfl T.n_list boot_list rfl) pa_nil))) pa_nil))) (by intro _; rfl)) (pss_cons (ps_for PassesOwn.never rfl (pi_anyK (K := K) (pv 0)) (pg_name (i := 1) sc_l_plain.nd rfl (Or.inl rfl)) (pss_one (ps_if (pt_not (pt_truthK (K := K) (pe_call ih (hr.mono (by omega)) rfl T.m_l_plain T.F_l_plain.kp T.b_l_plain .nil pass0 (pa_cons (pv 1) pa_nil)) (by intro _; rfl))) (pss_one (ps_ret pe_bl)) pss_nil)))
      (pss_one (ps_ret pe_bl))) pss_nil)
      (pss_cons (ps_if (PW.pt (pw_or (pt_cmp (pc_isN (pv 0))) (pw_or1 (pt_truthK (K := K) (pe_callB (call_isinstanceK (K := K)) (by rfl) T.n_isinstance boot_isinstance (pa_cons (pv 0) (pa_cons (pe_bltn (v := .ty "str") rfl T.n_str boot_str rfl) pa_nil))) (by intro _; rfl))))) (pss_one (ps_ret pe_bl)) pss_nil)
      (pss_one (ps_ret (pe_and (pe_callB (call_isinstanceK (K := K)) (by rfl) T.n_isinstance boot_isinstance (pa_cons (pv 0) (pa_cons (pe_bltn (v := .ty "int") rfl T.n_int boot_int rfl) pa_nil))) (pe_one (pe_not (pe_callB (call_isinstanceK (K := K)) (by rfl) T.n_isinstance boot_isinstance (pa_cons (pv 0) (pa_cons (pe_bltn (v := .ty "bool") rfl T.n_bool boot_bool rfl) pa_nil)))))))))), ?_⟩
      walk_at "rd"
      refine ⟨by decide, fun p hp => ?_⟩
      have hpt : upd H p (.tup [V.ty "tuple", V.ty "list"]) p = some (.tup [V.ty "tuple", V.ty "list"]) := upd_same
      have sm : Same H (upd H p (.tup [V.ty "tuple", V.ty "list"])) := Same.upd hp
      cases v with
      | non => refine isiT_no hpt .non rfl ?_; walk_at "rd"; exact q _ sm
      | int i => refine isiT_no hpt (.int i) rfl ?_; walk_at "rd"; exact q _ sm
      | str x => refine isiT_no hpt (.str x) rfl ?_; walk_at "rd"; exact q _ sm
      | ref b =>
        cases n with
        | zero => exact (show False from pl).elim
        | succ n =>
          obtain ⟨xs, h, hx⟩ := (show ∃ xs, (H b = some (.lst xs) ∨ H b = some (.tup xs)) ∧ ∀ x ∈ xs, Pl H n x from pl)
          rcases h with h | h
          · refine isiT_yes hpt (.lst (sm _ _ h)) rfl ?_
            walk_at "rd"
            refine rAny_l (.inl (.inl (sm _ _ h))) (forW_list (xs := xs) (fun i σ H' => Same H H' ∧ ∃ v, σ = [some (V.ref b), v]) ⟨sm, none, rfl⟩ (fun i σ H' _ z => .inl (.inl (z.1 _ _ h))) ?_ ?_)
            · rintro i x σ H' hx' ⟨s', v, rfl⟩
              walk_at "rd"
              exact ⟨(hx x (List.mem_of_getElem? hx')).same s', fun H2 s2 => s'.trans s2⟩
            · rintro σ H' ⟨s', v, rfl⟩
              walk_at "rd"
              exact q _ s'
          · refine isiT_yes hpt (.tup (sm _ _ h)) rfl ?_
            walk_at "rd"
            refine rAny_t (.inl (.inl (sm _ _ h))) (forW_tup (xs := xs) (fun i σ H' => Same H H' ∧ ∃ v, σ = [some (V.ref b), v]) ⟨sm, none, rfl⟩ (fun i σ H' _ z => .inl (.inl (z.1 _ _ h))) ?_ ?_)
            · rintro i x σ H' hx' ⟨s', v, rfl⟩
              walk_at "rd"
              exact ⟨(hx x (List.mem_of_getElem? hx')).same s', fun H2 s2 => s'.trans s2⟩
            · rintro σ H' ⟨s', v, rfl⟩
              walk_at "rd"
              exact q _ s'
      | _ => exact (show False by cases n <;> exact pl).elim
theorem ok_l_plain (T : Txt K mg a) : FnOk P w K mg base CX0 4 a.f_l_plain a.d_l_plain ["_law_thing"] (sp_plainN 3) := ok_plainN T 3

theorem ok_l_name (T : Txt K mg a) : FnOk P w K mg base CX0 2 a.f_l_name a.d_l_name ["_law_cell", "_law_way", "_law_k"] sp_nm6 := by
  refine T.F_l_name.ok sc_l_name (fun vs H Q E h => ?_) (fun cdv A outer s H vs Q E hr h => ?_)
  · obtain ⟨c, way, k, rfl, _⟩ := h
    rfl
  · obtain ⟨c, way, k, rfl, hw, h0, h1, q⟩ := h
    refine ⟨_, (pss_cons (ps_set (i := 3) sc_l_name.nd rfl (Or.inr rfl) pe_str)
      (pss_cons (ps_set (i := 4) sc_l_name.nd rfl (Or.inr rfl) (pe_call (ok_l_mixed T) (hr.mono (by decide)) rfl T.m_l_mixed T.F_l_mixed.kp T.b_l_mixed .nil pass0 (pa_cons (pv 0) (pa_cons pe_int pa_nil))))
      (pss_cons (ps_if (pt_cmpR (op_eqK (K := K) (hU hr)) (pv 1) pe_int (nomark _)) (pss_one (ps_ret (pe_op op_mulA (pe_ix (ix_anyK (K := K) (hU1 hr)) (pv 3) (pe_op op_mod (pv 4) pe_int) (fun _ _ => rfl)) (pe_op (op_plusK (K := K)) (pv 2) pe_int)))) pss_nil)
      (pss_cons (ps_if (pt_cmpR (op_eqK (K := K) (hU hr)) (pv 1) pe_int (nomark _)) (pss_cons (ps_set (i := 5) sc_l_name.nd rfl (Or.inl rfl) (pe_op op_mod (pe_call (ok_l_mixed T) (hr.mono (by decide)) rfl T.m_l_mixed T.F_l_mixed.kp T.b_l_mixed .nil pass0 (pa_cons (pv 0) (pa_cons (pe_op (op_plusK (K := K)) pe_int (pv 2)) pa_nil))) pe_int))
      (pss_cons (ps_setc (i := 6) ["_law_cell", "_law_way", "_law_k", "_law_signs", "_law_first", "_law_size", "_law_rest", "_law_at"] ["_law_cell", "_law_way", "_law_k", "_law_signs", "_law_first", "_law_size", "_law_rest", "_law_at"] (defScope s_l_name) (by exact ⟨rfl, by decide +kernel, by decide +kernel, by decide +kernel, by decide +kernel, by decide +kernel, by decide +kernel, by decide +kernel, by decide +kernel⟩) (pi_range1 rfl T.n_range (pa_cons (pv 5) pa_nil)) (fun C₁ s₁ H₁ f₁ => (pe_ix (ix_anyK (K := K) (hU1 hr)) (pv 4) (pe_op op_mod (pe_call (ok_l_mixed T) (hr.mono (by decide)) rfl T.m_l_mixed T.F_l_mixed.kp T.b_l_mixed .nil pass0 (pa_cons (pv 1) (pa_cons (pe_op (op_plusK (K := K)) (pe_op (op_plusK (K := K)) pe_int (pe_op op_mulA pe_int (pv 3))) (pv 0)) pa_nil))) pe_int) (fun _ _ => rfl))) sc_l_name.nd)
      (pss_one (ps_ret (pe_op (op_plusK (K := K)) (pe_ix (ix_anyK (K := K) (hU1 hr)) (pv 3) (pe_op op_mod (pe_op (op_plusK (K := K)) (pv 4) (pe_op op_mulA pe_int (pv 2))) pe_int) (fun _ _ => rfl)) (pe_bmK (K := K) PySem.F.plainAttrs_str PySem.F.slot_str_join PySem.F.type_str_join (mt_joinK (K := K)) pe_str (pa_cons (pv 6) pa_nil))))))) pss_nil)
      (pss_cons (ps_if (pt_cmpR (op_eqK (K := K) (hU hr)) (pv 1) pe_int (nomark _)) (pss_one (ps_ret (pe_bmK (K := K) PySem.F.plainAttrs_str PySem.F.slot_str_join PySem.F.type_str_join (mt_joinK (K := K)) pe_str (pa_cons (pe_comp ["_law_cell", "_law_way", "_law_k", "_law_signs", "_law_first", "_law_size", "_law_rest", "_law_at"] ["_law_cell", "_law_way", "_law_k", "_law_signs", "_law_first", "_law_size", "_law_rest", "_law_at"] (defScope s_l_name) (by exact ⟨rfl, by decide +kernel, by decide +kernel, by decide +kernel, by decide +kernel, by decide +kernel, by decide +kernel, by decide +kernel, by decide +kernel⟩) (pi_range1 rfl T.n_range (pa_cons pe_int pa_nil)) (fun C₁ s₁ H₁ f₁ => (pe_ix (ix_anyK (K := K) (hU1 hr)) (pv 4) (pe_op op_mod (pe_op (op_plusK (K := K)) (pv 5) (pe_op op_mod (pe_op (op_plusK (K := K)) (pv 0) (pv 3)) pe_int)) pe_int) (fun _ _ => rfl)))) pa_nil)))) pss_nil)
      (pss_cons (ps_set (i := 5) sc_l_name.nd rfl (Or.inl rfl) (pe_op (op_plusK (K := K)) pe_int (pe_op op_mod (pe_call (ok_l_mixed T) (hr.mono (by decide)) rfl T.m_l_mixed T.F_l_mixed.kp T.b_l_mixed .nil pass0 (pa_cons (pv 0) (pa_cons pe_int pa_nil))) pe_int)))
      (pss_cons (ps_set (i := 7) sc_l_name.nd rfl (Or.inr rfl) (pe_op op_mod (pe_call (ok_l_mixed T) (hr.mono (by decide)) rfl T.m_l_mixed T.F_l_mixed.kp T.b_l_mixed .nil pass0 (pa_cons (pv 0) (pa_cons pe_int pa_nil))) (pv 5)))
      (pss_one (ps_ret (pe_bmK (K := K) PySem.F.plainAttrs_str PySem.F.slot_str_join PySem.F.type_str_join (mt_joinK (K := K)) pe_str (pa_cons (pe_comp ["_law_cell", "_law_way", "_law_k", "_law_signs", "_law_first", "_law_size", "_law_rest", "_law_at"] ["_law_cell", "_law_way", "_law_k", "_law_signs", "_law_first", "_law_size", "_law_rest", "_law_at"] (defScope s_l_name) (by exact ⟨rfl, by decide +kernel, by decide +kernel, by decide +kernel, by decide +kernel, by decide +kernel, by decide +kernel, by decide +kernel, by decide +kernel⟩) (pi_range1 rfl T.n_range (pa_cons (pv 5) pa_nil)) (fun C₁ s₁ H₁ f₁ => (pe_ix (ix_anyK (K := K) (hU1 hr)) (pv 4) (pe_op op_mod (pe_op (op_plusK (K := K)) (pe_call (ok_l_mixed T) (hr.mono (by decide)) rfl T.m_l_mixed T.F_l_mixed.kp T.b_l_mixed .nil pass0 (pa_cons (pv 1) (pa_cons (pe_op (op_plusK (K := K)) pe_int (pv 0)) pa_nil))) (pe_op op_mulA (pe_op op_mulA pe_int (pv 3)) (pe_callTy (call_intK (K := K)) rfl T.n_int boot_int (pa_cons (pe_cmpR (op_eqK (K := K) (hU hr)) (pv 0) (pv 8) (nomark _)) pa_nil)))) pe_int) (fun _ _ => rfl)))) pa_nil))))))))))), ?_⟩
    walk_at "rd"
    rw [T36_is]
    have e0 : Str.ofString "" = S [] := by decide +kernel
    have one : ∀ (f : Nat → Int) (n : Nat), (List.map List.length ((List.range n).map fun (j : Nat) => [ltr36 (f j)])).sum = n := fun f n => by
      rw [List.map_map]
      have : (List.length ∘ fun (j : Nat) => [ltr36 (f j)]) = fun _ => 1 := rfl
      rw [this, List.map_const', List.sum_replicate_nat, List.length_range, Nat.mul_one]
    have joi : ∀ (f : Nat → Int) (n : Nat), joinL [] ((List.range n).map fun (j : Nat) => [ltr36 (f j)]) = (List.range n).map fun (j : Nat) => ltr36 (f j) := fun f n => by
      rw [joinL_nil]
      generalize List.range n = rs
      induction rs with
      | nil => rfl
      | cons x r ih => rw [List.map_cons, List.flatten_cons, ih, List.map_cons]; rfl
    have bd : ∀ n : Nat, n ≤ 12 → n + n * ([] : List Nat).length ≤ 16777216 := fun n h => by simp; omega
    refine ite2 (fun e => ?_) (fun e => ite2 (fun e1 => ?_) (fun e1 => ite2 (fun e2 => ?_) (fun e2 => ?_)))
    · refine ⟨T36, rfl, by decide, _, atI_get? (Int.emod_nonneg _ (by decide)) (ltr36_at _), by omega, by omega, by decide, ?_⟩
      have := q H (Same.refl _)
      unfold nm6 at this
      rw [if_pos e] at this
      have er : ∀ n x, repL n [x] = List.replicate n x := fun n x => by
        induction n with
        | zero => rfl
        | succ n ih => unfold repL at ih ⊢; rw [List.replicate_succ, List.flatten_cons, ih, List.replicate_succ]; rfl
      rw [er]
      exact this
    · have b1 := Int.emod_nonneg (mixN c (22 + k)) (show (12 : Int) ≠ 0 by decide)
      have b2 := Int.emod_lt_of_pos (mixN c (22 + k)) (show (0 : Int) < 12 by decide)
      refine ⟨by omega, by omega, compW_range (Nat.le_trans (show (mixN c (22 + k) % 12).toNat ≤ 12 by omega) (by decide)) (fun j => .str (S [ltr36 (mixN c (200 + 12 * k + (0 + (j : Int))))])) ?_ ?_⟩
      · intro j H' hj s Qe qe
        walk_at "rd"
        exact ⟨by decide, _, atI_get? (Int.emod_nonneg _ (by decide)) (ltr36_at _), qe H' (Same.refl _)⟩
      · intro D H1 hD s1 h1
        refine ⟨T36, rfl, by decide, _, atI_get? (Int.emod_nonneg _ (by decide)) (ltr36_at _), [], e0, D, rfl, (List.range (mixN c (22 + k) % 12).toNat).map fun (j : Nat) => [ltr36 (mixN c (200 + 12 * k + (0 + (j : Int))))], .inl (.inl (by rw [h1, List.map_map]; rfl)), ?_, ?_, ?_⟩
        · rw [one, List.length_map, List.length_range]; exact bd _ (by omega)
        · rw [joi, List.length_map, List.length_range]; exact Nat.le_trans (show 1 + (mixN c (22 + k) % 12).toNat ≤ 13 by omega) (by decide)
        · have := q H1 s1
          unfold nm6 at this
          rw [if_neg e, if_pos e1] at this
          rw [joi]
          exact this
    · refine compW_range (by decide) (fun j => .str (S [ltr36 (mixN c 21 + ((0 + (j : Int)) + k) % 12)])) ?_ ?_
      · intro j H' hj s Qe qe
        walk_at "rd"
        exact ⟨by decide, _, atI_get? (Int.emod_nonneg _ (by decide)) (ltr36_at _), qe H' (Same.refl _)⟩
      · intro D H1 hD s1 h1
        refine ⟨[], e0, D, rfl, (List.range 12).map fun (j : Nat) => [ltr36 (mixN c 21 + ((0 + (j : Int)) + k) % 12)], .inl (.inl (by rw [h1, List.map_map]; rfl)), ?_, ?_⟩
        · rw [one, List.length_map, List.length_range]; exact bd _ (by omega)
        · have := q H1 s1
          unfold nm6 at this
          rw [if_neg e, if_neg e1, if_pos e2] at this
          rw [joi]
          exact this
    · have b1 := Int.emod_nonneg (mixN c 1) (show (12 : Int) ≠ 0 by decide)
      have b2 := Int.emod_lt_of_pos (mixN c 1) (show (0 : Int) < 12 by decide)
      refine ⟨by omega, by omega, by omega, compW_range (Nat.le_trans (show (1 + mixN c 1 % 12).toNat ≤ 12 by omega) (by decide)) (fun j => .str (S [ltr36 (mixN c (3 + (0 + (j : Int))) + 5 * k * (if 0 + (j : Int) = nmAt c then 1 else 0))])) ?_ ?_⟩
      · intro j H' hj s Qe qe
        walk_at "rd"
        exact ⟨.inl ⟨by omega, by omega⟩, by decide, _, atI_get? (Int.emod_nonneg _ (by decide)) (ltr36_at _), qe H' (Same.refl _)⟩
      · intro D H1 hD s1 h1
        refine ⟨[], e0, D, rfl, (List.range (1 + mixN c 1 % 12).toNat).map fun (j : Nat) => [ltr36 (mixN c (3 + (0 + (j : Int))) + 5 * k * (if 0 + (j : Int) = nmAt c then 1 else 0))], .inl (.inl (by rw [h1, List.map_map]; rfl)), ?_, ?_⟩
        · rw [one, List.length_map, List.length_range]; exact bd _ (by omega)
        · have := q H1 s1
          unfold nm6 at this
          rw [if_neg e, if_neg e1, if_neg e2] at this
          rw [joi]
          exact this
theorem ok_l_names (T : Txt K mg a) : FnOk P w K mg base CX0 3 a.f_l_names a.d_l_names ["_law_cell", "_law_many"] sp_names6 := by
  refine T.F_l_names.ok sc_l_names (fun vs H Q E h => ?_) (fun cdv A outer s H vs Q E hr h => ?_)
  · obtain ⟨c, m, rfl, _⟩ := h
    rfl
  · obtain ⟨c, m, rfl, hm, q⟩ := h
    refine ⟨_, (pss_one (ps_ret (pe_comp ["_law_cell", "_law_many"] ["_law_cell", "_law_many"] (defScope s_l_names) (by exact ⟨rfl, by decide +kernel, by decide +kernel, by decide +kernel, by decide +kernel, by decide +kernel, by decide +kernel, by decide +kernel, by decide +kernel⟩) (pi_range1 rfl T.n_range (pa_cons (pv 1) pa_nil)) (fun C₁ s₁ H₁ f₁ => (pe_call (ok_l_name T) (hr.mono (by decide)) rfl T.m_l_name T.F_l_name.kp T.b_l_name .nil pass0 (pa_cons (pv 1) (pa_cons (pe_op op_mod (pe_call (ok_l_mixed T) (hr.mono (by decide)) rfl T.m_l_mixed T.F_l_mixed.kp T.b_l_mixed .nil pass0 (pa_cons (pv 1) (pa_cons pe_int pa_nil))) pe_int) (pa_cons (pv 0) pa_nil)))))))), ?_⟩
    walk_at "rd"
    refine ⟨by omega, by omega, ?_⟩
    rw [Int.toNat_natCast]
    refine compW_range (Nat.le_trans hm (by decide)) (fun k => .str (S (nm6 c (mixN c 20 % 6) (0 + (k : Int))))) ?_ ?_
    · intro k H' hk s Qe qe
      walk_at "rd"
      exact ⟨Int.emod_nonneg _ (by decide), by omega, by omega, fun H2 s2 => qe H2 s2⟩
    · intro D H1 hD s1 h1
      refine q D H1 hD s1 ?_
      rw [h1]
      unfold names6
      rw [List.map_map]
      rfl

theorem ok_rows_had (T : Txt K mg a) : FnOk P w K mg base CX0 1 a.f_rows_had a.d_rows_had ["rows", "taker", "had"] sp_rhad := by
  refine T.F_rows_had.ok sc_rows_had (fun vs H Q E h => ?_) (fun cdv A0 outer s0 H vs Q E hr h => ?_)
  · obtain ⟨rp, dp, rows, tk, kvs, rfl, _⟩ := h
    rfl
  · obtain ⟨rp, dp, rows, tk, kvs, rfl, hr0, hd0, hk, h64, q⟩ := h
    refine ⟨_, (pss_one (ps_ret (pe_callB (call_sortedA (K := K)) (by rfl) T.n_sorted boot_sorted (pa_cons (pe_compIf ["rows", "taker", "had"] ["rows", "taker", "had"] (defScope s_rows_had) (by exact ⟨rfl, by decide +kernel, by decide +kernel, by decide +kernel, by decide +kernel, by decide +kernel, by decide +kernel, by decide +kernel, by decide +kernel⟩) (pi_anyK (K := K) (pv 0)) (fun C₁ s₁ H₁ f₁ => (pt_cmpR (op_eqK (K := K) (hU hr)) (pe_dget1 (hU1 hr) (pv 3) (pv 0) ⟨rfl, rfl, rfl, rfl⟩) (pv 2) (nomark _))) (fun C₁ s₁ H₁ f₁ => (pv 0))) pa_nil)))), ?_⟩
    walk_at "rd"
    refine rAny_l (.inl (.inl hr0)) (compW_iF (.inl (.inl hr0)) (by omega) (hasF kvs tk) (fun r H' _ s Qt qt => ?_) fun D H1 hD s1 h1 => ?_)
    · walk_at "rd"
      exact ⟨.inl ⟨kvs, .inl (s _ _ hd0)⟩, _, DGet.k (k := .inl r) (s _ _ hd0), eqq_had (hk.ns r) ⟨_, rfl, qt H' (Same.refl _)⟩⟩
    · refine rSortA_i (.inl (.inl h1)) (Nat.lt_of_le_of_lt (List.length_filter_le _ _) h64) fun l hl => q l _ (same_back s1 hl) (s1.trans (Same.upd hl)) upd_same
theorem ok_shares (T : Txt K mg a) : FnOk P w K mg base CX0 2 a.f_shares a.d_shares ["rows", "takers", "had"] sp_shares := by
  refine T.F_shares.ok sc_shares (fun vs H Q E h => ?_) (fun cdv A0 outer s0 H vs Q E hr h => ?_)
  · obtain ⟨rp, tp, dp, rows, tks, kvs, rfl, _⟩ := h
    rfl
  · obtain ⟨rp, tp, dp, rows, tks, kvs, rfl, hr0, ht0, hd0, hk, h64, t64, nd, q⟩ := h
    refine ⟨_, (pss_cons (ps_set (i := 3) sc_shares.nd rfl (Or.inl rfl) pe_dnewK)
      (pss_cons (ps_if (pt_not (pt_truthK (K := K) (pv 1) (by intro _; rfl))) (pss_one (ps_ret (pv 3))) pss_nil)
      (pss_cons (ps_set (i := 4) sc_shares.nd rfl (Or.inr rfl) (pe_op op_fdiv (pe_callB (call_lenK (K := K)) (by rfl) T.n_len boot_len (pa_cons (pv 0) pa_nil)) (pe_callB (call_lenK (K := K)) (by rfl) T.n_len boot_len (pa_cons (pv 1) pa_nil))))
      (pss_cons (ps_set (i := 5) sc_shares.nd rfl (Or.inl rfl) (pe_op op_mod (pe_callB (call_lenK (K := K)) (by rfl) T.n_len boot_len (pa_cons (pv 0) pa_nil)) (pe_callB (call_lenK (K := K)) (by rfl) T.n_len boot_len (pa_cons (pv 1) pa_nil))))
      (pss_cons (ps_set (i := 6) sc_shares.nd rfl (Or.inl rfl) (pe_callB (call_sortedA (K := K)) (by rfl) T.n_sorted boot_sorted (pa_cons (pv 1) pa_nil)))
      (pss_cons (ps_set (i := 7) sc_shares.nd rfl (Or.inr rfl) (pe_compIf ["rows", "takers", "had", "told", "least", "greater", "order", "rich", "poor", "k", "taker"] ["rows", "takers", "had", "told", "least", "greater", "order", "rich", "poor", "k", ""] (defScope s_shares) (by exact ⟨rfl, by decide +kernel, by decide +kernel, by decide +kernel, by decide +kernel, by decide +kernel, by decide +kernel, by decide +kernel, by decide +kernel⟩) (pi_anyK (K := K) (pv 6)) (fun C₁ s₁ H₁ f₁ => (pt_cmpR op_gtA (pe_callB (call_lenK (K := K)) (by rfl) T.n_len boot_len (pa_cons (pe_call (ok_rows_had T) (hr.mono (by decide)) rfl T.m_rows_had T.F_rows_had.kp T.b_rows_had .nil pass0 (pa_cons (pv 1) (pa_cons (pv 0) (pa_cons (pv 3) pa_nil)))) pa_nil)) (pv 5) (nomark _))) (fun C₁ s₁ H₁ f₁ => (pv 0))))
      (pss_cons (ps_setcIf (i := 8) ["rows", "takers", "had", "told", "least", "greater", "order", "rich", "poor", "k", "taker"] ["rows", "takers", "had", "told", "least", "greater", "order", "rich", "poor", "k", ""] (defScope s_shares) (by exact ⟨rfl, by decide +kernel, by decide +kernel, by decide +kernel, by decide +kernel, by decide +kernel, by decide +kernel, by decide +kernel, by decide +kernel⟩) (pi_anyK (K := K) (pv 6)) (fun C₁ s₁ H₁ f₁ => (pt_cmpR (op_notInK (K := K) (hU1 hr)) (pv 0) (pv 8) (by rfl))) (fun C₁ s₁ H₁ f₁ => (pv 0)) sc_shares.nd)
      (pss_cons (ps_for PassesOwn.never rfl (pi_enumerate rfl T.n_enumerate (pa_cons (pe_op (op_plusK (K := K)) (pv 7) (pv 8)) pa_nil)) (pg_tupK (K := K) (n := 2) rfl (pgs_cons (pg_name (i := 9) sc_shares.nd rfl (Or.inl rfl)) (pgs_cons (pg_name (i := 10) sc_shares.nd rfl (Or.inl rfl)) pgs_nil))) (pss_one (ps_asg (pe_ifExp (pt_cmpR op_ltK (pv 9) (pv 5) (nomark _)) (pe_op (op_plusK (K := K)) (pv 4) pe_int) (pv 4)) (pg_sub (pv 3) (pv 10) (set_any (hU1 hr))))))
      (pss_one (ps_ret (pv 3))))))))))), ?_⟩
    walk_at "rd"
    intro p hp
    have s1 : Same H (upd H p (.dK [])) := Same.upd hp
    have a1 : upd H p (.dK []) p = some (.dK []) := upd_same
    generalize upd H p (.dK []) = H1 at s1 a1 ⊢
    refine ⟨_, .inl ⟨_, .inl (.inl (s1 _ _ ht0)), rfl⟩, ?_⟩
    by_cases e0 : tks = []
    · subst e0
      rw [if_pos (by rfl)]
      exact q p H1 hp s1 (by rw [shareK_nil]; exact a1)
    rw [if_neg (by cases tks with | nil => exact absurd rfl e0 | cons => simp)]
    have t0 : 0 < tks.length := List.length_pos_iff.mpr e0
    have R1 : SqL K H1 rp (rows.map V.int) := .inl (.inl (s1 _ _ hr0))
    have T1 : SqL K H1 tp (txV tks) := .inl (.inl (s1 _ _ ht0))
    refine rLen_l R1 (rLen_l T1 ⟨_, rfl, _, rfl, by rw [List.length_map]; omega, by rw [List.length_map]; omega, rLen_l R1 (rLen_l T1 ⟨_, rfl, _, rfl, by rw [List.length_map]; omega, rSortA_t T1 t64 fun op ho => ?_⟩)⟩)
    rw [List.length_map, List.length_map]
    have elow : (rows.length : Int) / (tks.length : Int) = ((rows.length / tks.length : Nat) : Int) := by omega
    have emor : (rows.length : Int) % (tks.length : Int) = ((rows.length % tks.length : Nat) : Int) := by omega
    rw [elow, emor]
    have s2 : Same H1 (upd H1 op (.lst (txV (srtT tks)))) := Same.upd ho
    have a2 : upd H1 op (.lst (txV (srtT tks))) op = some (.lst (txV (srtT tks))) := upd_same
    generalize upd H1 op (.lst (txV (srtT tks))) = H2 at s2 a2 ⊢
    have ol : (srtT tks).length ≤ 1000 := by rw [srtT_len]; omega
    refine rAny_l (.inl (.inl a2)) (compW_tF (.inl (.inl a2)) ol (richP rows kvs (rows.length / tks.length)) (fun t H' _ s Qt qt => ?_) fun rc H3 hrc s3 h3 => ?_)
    · walk_at "rd"
      have sx := s1.trans (s2.trans s)
      refine ⟨rows, sx _ _ hr0, kvs, sx _ _ hd0, hk, h64, fun D H4 hD s4 h4 => rLen_l (.inl (.inl h4)) ⟨_, rfl, ?_⟩⟩
      have := qt H4 s4
      unfold richP nHas at this
      rw [List.length_map, srtI_len]
      have e : decide (((rows.length / tks.length : Nat) : Int) < (((rows.filter (hasF kvs t)).length : Nat) : Int)) = decide (rows.length / tks.length < (rows.filter (hasF kvs t)).length) := by simp only [Int.ofNat_lt]
      rw [e]
      exact this
    refine rAny_l (.inl (.inl (s3 _ _ a2))) (compW_tF (.inl (.inl (s3 _ _ a2))) ol (fun t => !richP rows kvs (rows.length / tks.length) t) (fun t H' ht s Qt qt => ?_) fun pc H4 hpc s4 h4 => ?_)
    · walk_at "rd"
      refine rNin_f (.inl (.inl (.inl (s _ _ h3)))) rfl (by simp [flatV]) ⟨_, rfl, ?_⟩
      rw [inV_strs]
      have := qt H' (Same.refl _)
      have e : decide (t ∈ (srtT tks).filter (richP rows kvs (rows.length / tks.length))) = richP rows kvs (rows.length / tks.length) t := by
        simp only [List.mem_filter, ht, true_and]
        cases richP rows kvs (rows.length / tks.length) t <;> rfl
      rw [e]
      exact this
    have fl1 := List.length_filter_le (richP rows kvs (rows.length / tks.length)) (srtT tks)
    have fl2 := List.length_filter_le (fun t => !richP rows kvs (rows.length / tks.length) t) (srtT tks)
    refine rPlus_l (.inl (.inl (s4 _ _ h3))) (.inl (.inl h4)) (by rw [List.length_map, List.length_map]; exact Nat.le_trans (show _ ≤ 2000 by omega) (by decide)) fun l hl => ?_
    have s5 : Same H4 (upd H4 l (.lst (txV (shOrd rows tks kvs)))) := Same.upd hl
    have a5 : upd H4 l (.lst (txV (shOrd rows tks kvs))) l = some (.lst (txV (shOrd rows tks kvs))) := upd_same
    have ea : txV ((srtT tks).filter (richP rows kvs (rows.length / tks.length))) ++ txV ((srtT tks).filter fun t => !richP rows kvs (rows.length / tks.length) t) = txV (shOrd rows tks kvs) := by unfold shOrd txV; rw [List.map_append]
    rw [ea]
    generalize upd H4 l (.lst (txV (shOrd rows tks kvs))) = H5 at s5 a5 ⊢
    have s15 : Same H1 H5 := s2.trans (s3.trans (s4.trans s5))
    have npl : p ≠ l := ne_of_none (s4 _ _ (s3 _ _ (s2 _ _ a1))) hl
    refine ⟨l, rfl, ⟨_, .inl (.inl a5)⟩, ?_⟩
    have sol := shOrd_len rows tks kvs
    refine forW_enum (xs := txV (shOrd rows tks kvs)) (fun i σ H' => (Chg [p] H5 H' ∧ H' p = some (.dK (shK (rows.length / tks.length) (rows.length % tks.length) ((shOrd rows tks kvs).take i)))) ∧ ∃ v9 v10, σ = [some (V.ref rp), some (V.ref tp), some (V.ref dp), some (V.ref p), some (V.int ((rows.length / tks.length : Nat) : Int)), some (V.int ((rows.length % tks.length : Nat) : Int)), some (V.ref op), some (V.ref rc), some (V.ref pc), v9, v10]) ⟨⟨Chg.refl _, by rw [List.take_zero]; exact s15 _ _ a1⟩, none, none, rfl⟩ (fun i σ H' _ ⟨⟨c, _⟩, _⟩ => .inl (.inl (c.keep _ _ a5 (by simp; exact Ne.symm npl)))) ?_ ?_
    · rintro i x Tp σ H' hx hT ⟨⟨c, hp'⟩, v9, v10, rfl⟩
      rw [List.getElem?_map] at hx
      obtain ⟨t, ht, rfl⟩ := Option.map_eq_some_iff.mp hx
      have htk : (shOrd rows tks kvs).take (i + 1) = (shOrd rows tks kvs).take i ++ [t] := by rw [List.take_add_one, ht]; rfl
      have hil := (List.getElem?_eq_some_iff.mp ht).1
      have hnt : t ∉ (shOrd rows tks kvs).take i := fun z => by
        have hn2 := List.Nodup.sublist (List.take_sublist (i + 1) (shOrd rows tks kvs)) (shOrd_nd nd)
        rw [htk, List.nodup_append] at hn2
        exact hn2.2.2 t z t (by simp) rfl
      have til : ((shOrd rows tks kvs).take i).length = i := by rw [List.length_take]; omega
      have s6 : Same H' (upd H' Tp (.tup [.int (i : Nat), .str (S t)])) := Same.upd hT
      have a6 : upd H' Tp (.tup [.int (i : Nat), .str (S t)]) Tp = some (.tup [.int (i : Nat), .str (S t)]) := upd_same
      generalize upd H' Tp (.tup [.int (i : Nat), .str (S t)]) = H6 at s6 a6 ⊢
      have p6 := s6 _ _ hp'
      refine ⟨Tp, _, rfl, .inl (.inl a6), rfl, ?_⟩
      walk_at "rd"
      have fin : ∀ n : Int, n = (if i < rows.length % tks.length then ((rows.length / tks.length : Nat) : Int) + 1 else ((rows.length / tks.length : Nat) : Int)) → rSetA (V.ref p) (V.str (S t)) (V.int n) H6 fun H'_1 => Chg [p] H5 H'_1 ∧ H'_1 p = some (HO.dK (shK (rows.length / tks.length) (rows.length % tks.length) ((shOrd rows tks kvs).take (i + 1)))) := fun n hn => by
        refine rSetA_d (DPut.k (k := .inr (S t)) p6 (by rw [shK_len, til]; exact Nat.lt_of_lt_of_le (show i < 64 by omega) (by decide))) ⟨c.trans ((Chg.of_same s6).trans (Chg.upd (by simp) (mut_dK p6))), ?_⟩
        rw [putK_new _ (shK_none hnt), htk, shK_snoc, til, ← hn]
        exact upd_same
      exact ite2 (fun z => fin _ (by rw [if_pos (by omega)])) (fun z => fin _ (by rw [if_neg (by omega)]))
    · rintro σ H' ⟨⟨c, hp'⟩, v9, v10, rfl⟩
      walk_at "rd"
      rw [List.length_map, List.take_length] at hp'
      have sF : Same H H' := fun b o hb => c.keep _ _ (s15 _ _ (s1 _ _ hb)) (by simp; exact ne_of_none hb hp)
      exact q p H' hp sF hp'

theorem ok_l_rows (T : Txt K mg a) : FnOk P w K mg base CX0 2 a.f_l_rows a.d_l_rows ["_law_cell", "_law_many"] sp_lrows := by
  refine T.F_l_rows.ok sc_l_rows (fun vs H Q E h => ?_) (fun cdv A0 outer s0 H vs Q E hr h => ?_)
  · obtain ⟨c, m, rfl, _⟩ := h
    rfl
  · obtain ⟨c, m, rfl, hm, q⟩ := h
    refine ⟨_, (pss_cons (ps_set (i := 2) sc_l_rows.nd rfl (Or.inr rfl) (pe_op op_mod (pe_call (ok_l_mixed T) (hr.mono (by decide)) rfl T.m_l_mixed T.F_l_mixed.kp T.b_l_mixed .nil pass0 (pa_cons (pv 0) (pa_cons pe_int pa_nil))) pe_int))
      (pss_cons (ps_set (i := 3) sc_l_rows.nd rfl (Or.inr rfl) (pe_op (op_plusK (K := K)) pe_int (pe_op op_mod (pe_call (ok_l_mixed T) (hr.mono (by decide)) rfl T.m_l_mixed T.F_l_mixed.kp T.b_l_mixed .nil pass0 (pa_cons (pv 0) (pa_cons pe_int pa_nil))) pe_int)))
      (pss_cons (ps_setc (i := 4) ["_law_cell", "_law_many", "_law_start", "_law_step", "_law_rows_here", "_law_cut"] ["_law_cell", "_law_many", "_law_start", "_law_step", "_law_rows_here", "_law_cut"] (defScope s_l_rows) (by exact ⟨rfl, by decide +kernel, by decide +kernel, by decide +kernel, by decide +kernel, by decide +kernel, by decide +kernel, by decide +kernel, by decide +kernel⟩) (pi_range1 rfl T.n_range (pa_cons (pv 1) pa_nil)) (fun C₁ s₁ H₁ f₁ => (pe_op (op_plusK (K := K)) (pv 3) (pe_op op_mulA (pv 4) (pv 0)))) sc_l_rows.nd)
      (pss_cons (ps_set (i := 5) sc_l_rows.nd rfl (Or.inl rfl) (pe_op op_mod (pe_call (ok_l_mixed T) (hr.mono (by decide)) rfl T.m_l_mixed T.F_l_mixed.kp T.b_l_mixed .nil pass0 (pa_cons (pv 0) (pa_cons pe_int pa_nil))) (pe_op (op_plusK (K := K)) (pv 1) pe_int)))
      (pss_cons (ps_set (i := 4) sc_l_rows.nd rfl (Or.inl rfl) (pe_op (op_plusK (K := K)) (pe_slice (sl_anyK (K := K)) (pv 4) (po_some (pv 5)) po_none) (pe_slice (sl_anyK (K := K)) (pv 4) po_none (po_some (pv 5)))))
      (pss_cons (ps_if (pt_cmpR (op_eqK (K := K) (hU hr)) (pe_op op_mod (pe_call (ok_l_mixed T) (hr.mono (by decide)) rfl T.m_l_mixed T.F_l_mixed.kp T.b_l_mixed .nil pass0 (pa_cons (pv 0) (pa_cons pe_int pa_nil))) pe_int) pe_int (nomark _)) (pss_one (ps_expr (pe_bm0K (K := K) PySem.F.plainAttrs_list PySem.F.slot_list_reverse PySem.F.type_list_reverse mt_reverse (pv 4)))) pss_nil)
      (pss_one (ps_ret (pv 4))))))))), ?_⟩
    walk_at "rd"
    have b0 := Int.emod_nonneg (mixN c 41) (show (1000 : Int) ≠ 0 by decide)
    have b1 := Int.emod_lt_of_pos (mixN c 41) (show (0 : Int) < 1000 by decide)
    have b2 := Int.emod_nonneg (mixN c 42) (show (5 : Int) ≠ 0 by decide)
    have b3 := Int.emod_lt_of_pos (mixN c 42) (show (0 : Int) < 5 by decide)
    have b4 := Int.emod_nonneg (mixN c 43) (show (m : Int) + 1 ≠ 0 by omega)
    obtain ⟨k, hk⟩ : ∃ k : Nat, mixN c 43 % ((m : Int) + 1) = k := ⟨(mixN c 43 % ((m : Int) + 1)).toNat, by omega⟩
    generalize mixN c 41 % 1000 = st at b0 b1 ⊢
    generalize hsp : 1 + mixN c 42 % 5 = sp
    have b5 : 1 ≤ sp ∧ sp ≤ 5 := by omega
    rw [hk, Int.toNat_natCast]
    refine ⟨by omega, by omega, compW_range (Nat.le_trans hm (by decide)) (fun j => .int (st + sp * (0 + (j : Int)))) (fun i H' hi s Qe qe => ?_) fun D H1 hD s1 h1 => ?_⟩
    · walk_at "rd"
      exact ⟨.inl (by omega), qe H' (Same.refl _)⟩
    obtain ⟨bs, hbs⟩ : ∃ bs : List Int, bs = (List.range m).map fun (j : Nat) => st + sp * (0 + (j : Int)) := ⟨_, rfl⟩
    have ebs : ((List.range m).map fun (j : Nat) => V.int (st + sp * (0 + (j : Int)))) = bs.map V.int := by rw [hbs, List.map_map]; rfl
    rw [ebs] at h1
    have lbs : bs.length = m := by rw [hbs, List.length_map, List.length_range]
    have nbs : bs.Nodup := by
      rw [hbs, List.Nodup, List.pairwise_map]
      refine List.nodup_range.imp fun {i j} hij z => hij ?_
      have : sp * (0 + (i : Int)) = sp * (0 + (j : Int)) := by omega
      have := Int.eq_of_mul_eq_mul_left (by omega) this
      omega
    have rbs : ∀ r ∈ bs, 0 ≤ r ∧ r < 2000 := fun r hr => by
      rw [hbs] at hr
      obtain ⟨j, hj, rfl⟩ := List.mem_map.mp hr
      have := List.mem_range.mp hj
      have h0 : 0 ≤ sp * (0 + (j : Int)) := Int.mul_nonneg (by omega) (by omega)
      have h1 : sp * (0 + (j : Int)) ≤ 5 * 63 := Int.mul_le_mul (by omega) (by omega) (by omega) (by omega)
      omega
    refine ⟨by omega, rSlA_l (.inl (.inl h1)) fun p2 hp2 => ?_⟩
    rw [cutV_suf]
    have s2 : Same H1 (upd H1 p2 (.lst ((bs.map V.int).drop k))) := Same.upd hp2
    have a2 : upd H1 p2 (.lst ((bs.map V.int).drop k)) p2 = some (.lst ((bs.drop k).map V.int)) := by rw [List.map_drop]; exact upd_same
    generalize upd H1 p2 (.lst ((bs.map V.int).drop k)) = H2 at s2 a2 ⊢
    refine rSlA_l (.inl (.inl (s2 _ _ h1))) fun p3 hp3 => ?_
    rw [cutV_pre]
    have s3 : Same H2 (upd H2 p3 (.lst ((bs.map V.int).take k))) := Same.upd hp3
    have a3 : upd H2 p3 (.lst ((bs.map V.int).take k)) p3 = some (.lst ((bs.take k).map V.int)) := by rw [List.map_take]; exact upd_same
    generalize upd H2 p3 (.lst ((bs.map V.int).take k)) = H3 at s3 a3 ⊢
    refine rPlus_l (.inl (.inl (s3 _ _ a2))) (.inl (.inl a3)) (by simp only [List.length_map, List.length_drop, List.length_take]; exact Nat.le_trans (show _ ≤ 200 by omega) (by decide)) fun p4 hp4 => ?_
    have s4 : Same H3 (upd H3 p4 (.lst ((bs.drop k ++ bs.take k).map V.int))) := Same.upd hp4
    have a4 : upd H3 p4 (.lst ((bs.drop k ++ bs.take k).map V.int)) p4 = some (.lst ((bs.drop k ++ bs.take k).map V.int)) := upd_same
    rw [← List.map_append]
    generalize upd H3 p4 (.lst ((bs.drop k ++ bs.take k).map V.int)) = H4 at s4 a4 ⊢
    have pm : (bs.drop k ++ bs.take k).Perm bs := List.perm_append_comm.trans (by rw [List.take_append_drop])
    have s04 := s1.trans (s2.trans (s3.trans s4))
    have n4 : H p4 = none := same_back (s1.trans (s2.trans s3)) hp4
    have fin : ∀ (rs : List Int) (H' : Hp), rs.Perm bs → Same H H' → H' p4 = some (.lst (rs.map V.int)) → Q (.ref p4) H' := fun rs H' hp sm h => q p4 H' rs n4 sm (by rw [hp.length_eq, lbs]) (hp.nodup_iff.mpr nbs) (fun r hr => rbs r (hp.mem_iff.mp hr)) h
    refine ite2 (fun _ => ⟨.inl ⟨_, .inl (.inl a4)⟩, p4, _, rfl, rfl, a4, fin (bs.drop k ++ bs.take k).reverse _ ((List.reverse_perm _).trans pm) (fun b o hb => (upd_ne (ne_of_none hb n4)).trans (s04 b o hb)) ?_⟩) (fun _ => fin _ H4 pm s04 a4)
    rw [List.map_reverse]; exact upd_same
theorem ok_l_takers (T : Txt K mg a) : FnOk P w K mg base CX0 2 a.f_l_takers a.d_l_takers ["_law_cell", "_law_names_here", "_law_many"] sp_ltakers := by
  refine T.F_l_takers.ok sc_l_takers (fun vs H Q E h => ?_) (fun cdv A0 outer s0 H vs Q E hr h => ?_)
  · obtain ⟨c, np, ns, m, rfl, _⟩ := h
    rfl
  · obtain ⟨c, np, ns, m, rfl, hn0, hm, hn, q⟩ := h
    refine ⟨_, (pss_cons (ps_set (i := 3) sc_l_takers.nd rfl (Or.inl rfl) (pe_callTy (call_listK (K := K)) rfl T.n_list boot_list (pa_cons (pe_slice (sl_anyK (K := K)) (pv 1) po_none (po_some (pv 2))) pa_nil)))
      (pss_cons (ps_set (i := 4) sc_l_takers.nd rfl (Or.inl rfl) (pe_op op_mod (pe_call (ok_l_mixed T) (hr.mono (by decide)) rfl T.m_l_mixed T.F_l_mixed.kp T.b_l_mixed .nil pass0 (pa_cons (pv 0) (pa_cons pe_int pa_nil))) (pe_op (op_plusK (K := K)) (pv 2) pe_int)))
      (pss_cons (ps_set (i := 3) sc_l_takers.nd rfl (Or.inl rfl) (pe_op (op_plusK (K := K)) (pe_slice (sl_anyK (K := K)) (pv 3) (po_some (pv 4)) po_none) (pe_slice (sl_anyK (K := K)) (pv 3) po_none (po_some (pv 4)))))
      (pss_cons (ps_if (pt_cmpR (op_eqK (K := K) (hU hr)) (pe_op op_mod (pe_call (ok_l_mixed T) (hr.mono (by decide)) rfl T.m_l_mixed T.F_l_mixed.kp T.b_l_mixed .nil pass0 (pa_cons (pv 0) (pa_cons pe_int pa_nil))) pe_int) pe_int (nomark _)) (pss_one (ps_expr (pe_bm0K (K := K) PySem.F.plainAttrs_list PySem.F.slot_list_reverse PySem.F.type_list_reverse mt_reverse (pv 3)))) pss_nil)
      (pss_one (ps_ret (pv 3))))))), ?_⟩
    walk_at "rd"
    have b4 := Int.emod_nonneg (mixN c 45) (show (m : Int) + 1 ≠ 0 by omega)
    obtain ⟨k, hk⟩ : ∃ k : Nat, mixN c 45 % ((m : Int) + 1) = k := ⟨(mixN c 45 % ((m : Int) + 1)).toNat, by omega⟩
    rw [hk]
    refine rSlA_l (.inl (.inl hn0)) fun p0 hp0 => ?_
    rw [cutV_pre]
    have s0' : Same H (upd H p0 (.lst ((txV ns).take m))) := Same.upd hp0
    have a0 : upd H p0 (.lst ((txV ns).take m)) p0 = some (.lst (txV (ns.take m))) := by unfold txV; rw [List.map_take]; exact upd_same
    generalize upd H p0 (.lst ((txV ns).take m)) = H0 at s0' a0 ⊢
    have lbs : (ns.take m).length ≤ 40 := by rw [List.length_take]; omega
    generalize ns.take m = bs at a0 q lbs
    refine rListOf_l (.inl (.inl (.inl a0))) fun p1 hp1 => ?_
    have s1 : Same H0 (upd H0 p1 (.lst (txV bs))) := Same.upd hp1
    have h1 : upd H0 p1 (.lst (txV bs)) p1 = some (.lst (txV bs)) := upd_same
    generalize upd H0 p1 (.lst (txV bs)) = H1 at s1 h1 ⊢
    refine ⟨by omega, rSlA_l (.inl (.inl h1)) fun p2 hp2 => ?_⟩
    rw [cutV_suf]
    have s2 : Same H1 (upd H1 p2 (.lst ((txV bs).drop k))) := Same.upd hp2
    have a2 : upd H1 p2 (.lst ((txV bs).drop k)) p2 = some (.lst (txV (bs.drop k))) := by unfold txV; rw [List.map_drop]; exact upd_same
    generalize upd H1 p2 (.lst ((txV bs).drop k)) = H2 at s2 a2 ⊢
    refine rSlA_l (.inl (.inl (s2 _ _ h1))) fun p3 hp3 => ?_
    rw [cutV_pre]
    have s3 : Same H2 (upd H2 p3 (.lst ((txV bs).take k))) := Same.upd hp3
    have a3 : upd H2 p3 (.lst ((txV bs).take k)) p3 = some (.lst (txV (bs.take k))) := by unfold txV; rw [List.map_take]; exact upd_same
    generalize upd H2 p3 (.lst ((txV bs).take k)) = H3 at s3 a3 ⊢
    refine rPlus_l (.inl (.inl (s3 _ _ a2))) (.inl (.inl a3)) (by simp only [txV, List.length_map, List.length_drop, List.length_take]; exact Nat.le_trans (show _ ≤ 200 by omega) (by decide)) fun p4 hp4 => ?_
    have s4 : Same H3 (upd H3 p4 (.lst (txV (bs.drop k ++ bs.take k)))) := Same.upd hp4
    have a4 : upd H3 p4 (.lst (txV (bs.drop k ++ bs.take k))) p4 = some (.lst (txV (bs.drop k ++ bs.take k))) := upd_same
    rw [show txV (bs.drop k) ++ txV (bs.take k) = txV (bs.drop k ++ bs.take k) by unfold txV; rw [List.map_append]]
    generalize upd H3 p4 (.lst (txV (bs.drop k ++ bs.take k))) = H4 at s4 a4 ⊢
    have pm : (bs.drop k ++ bs.take k).Perm bs := List.perm_append_comm.trans (by rw [List.take_append_drop])
    have s04 := s0'.trans (s1.trans (s2.trans (s3.trans s4)))
    have n4 : H p4 = none := same_back (s0'.trans (s1.trans (s2.trans s3))) hp4
    refine ite2 (fun _ => ⟨.inl ⟨_, .inl (.inl a4)⟩, p4, _, rfl, rfl, a4, q p4 _ (bs.drop k ++ bs.take k).reverse n4 (fun b o hb => (upd_ne (ne_of_none hb n4)).trans (s04 b o hb)) ((List.reverse_perm _).trans pm) ?_⟩) (fun _ => q p4 H4 _ n4 s04 pm a4)
    unfold txV; rw [List.map_reverse]; exact upd_same
theorem ok_l_had (T : Txt K mg a) : FnOk P w K mg base CX0 2 a.f_l_had a.d_l_had ["_law_script", "_law_start", "_law_rows_here", "_law_names_here"] (sp_lhadO K) := by
  refine T.F_l_had.ok sc_l_had (fun vs H Q E h => ?_) (fun cdv A0 outer s0 H vs Q E hr h => ?_)
  · obtain ⟨sp, rp, np, sc, st, rows, ns, rfl, _⟩ := h
    rfl
  · obtain ⟨sp, rp, np, sc, st, rows, ns, rfl, hs0, st0, hr0, hn0, n2, n40, h64, okn, q⟩ := h
    refine ⟨_, (pss_cons (ps_set (i := 4) sc_l_had.nd rfl (Or.inl rfl) pe_dnewK)
      (pss_cons (ps_for PassesOwn.never rfl (pi_enumerate rfl T.n_enumerate (pa_cons (pv 2) pa_nil)) (pg_tupK (K := K) (n := 2) rfl (pgs_cons (pg_name (i := 5) sc_l_had.nd rfl (Or.inl rfl)) (pgs_cons (pg_name (i := 6) sc_l_had.nd rfl (Or.inl rfl)) pgs_nil))) (pss_cons (ps_set (i := 7) sc_l_had.nd rfl (Or.inl rfl) (pe_call (ok_l_mixed T) (hr.mono (by decide)) rfl T.m_l_mixed T.F_l_mixed.kp T.b_l_mixed .nil pass0 (pa_cons (pe_call (ok_l_cell_at T) (hr.mono (by decide)) rfl T.m_l_cell_at T.F_l_cell_at.kp T.b_l_cell_at .nil pass0 (pa_cons (pv 0) (pa_cons (pe_op (op_plusK (K := K)) (pv 1) (pv 5)) pa_nil))) (pa_cons (pe_op (op_plusK (K := K)) pe_int (pv 5)) pa_nil))))
      (pss_cons (ps_set (i := 8) sc_l_had.nd rfl (Or.inl rfl) (pe_op op_mod (pv 7) (pe_op (op_plusK (K := K)) (pe_callB (call_lenK (K := K)) (by rfl) T.n_len boot_len (pa_cons (pv 3) pa_nil)) pe_int)))
      (pss_cons (ps_if (pt_cmpR (op_eqK (K := K) (hU hr)) (pe_op op_mod (pe_op op_fdiv (pv 7) pe_int) pe_int) pe_int (nomark _)) (pss_one (ps_set (i := 8) sc_l_had.nd rfl (Or.inl rfl) (pe_op op_mod (pe_op op_fdiv (pv 7) pe_int) pe_int))) pss_nil)
      (pss_one (ps_if (pt_cmpR op_ltK (pv 8) (pe_callB (call_lenK (K := K)) (by rfl) T.n_len boot_len (pa_cons (pv 3) pa_nil)) (nomark _)) (pss_one (ps_asg (pe_ix (ix_anyK (K := K) (hU1 hr)) (pv 3) (pv 8) (fun _ _ => rfl)) (pg_sub (pv 4) (pv 6) (set_any (hU1 hr))))) (pss_one (ps_if (pt_cmpR (op_eqK (K := K) (hU hr)) (pv 8) (pe_callB (call_lenK (K := K)) (by rfl) T.n_len boot_len (pa_cons (pv 3) pa_nil)) (nomark _)) (pss_one (ps_asg pe_non (pg_sub (pv 4) (pv 6) (set_any (hU1 hr))))) pss_nil))))))))
      (pss_cons (ps_asg (pe_ix (ix_anyK (K := K) (hU1 hr)) (pv 3) pe_int (fun _ _ => rfl)) (pg_sub (pv 4) (pe_op (op_plusK (K := K)) pe_int (pe_callB (call_lenK (K := K)) (by rfl) T.n_len boot_len (pa_cons (pv 2) pa_nil))) (set_any (hU1 hr))))
      (pss_cons (ps_asg (pe_ix (ix_anyK (K := K) (hU1 hr)) (pv 3) pe_int (fun _ _ => rfl)) (pg_sub (pv 4) pe_int (set_any (hU1 hr))))
      (pss_one (ps_ret (pv 4))))))), ?_⟩
    walk_at "rd"
    intro p hp
    have s1 : Same H (upd H p (.dK [])) := Same.upd hp
    have a1 : upd H p (.dK []) p = some (.dK []) := upd_same
    generalize upd H p (.dK []) = H1 at s1 a1 ⊢
    have npr : rp ≠ p := ne_of_none hr0 hp
    have npn : np ≠ p := ne_of_none hn0 hp
    refine ⟨⟨_, .inl (.inl (s1 _ _ hr0))⟩, forW_enum (xs := rows.map V.int) (fun i σ H' => (Chg [p] H1 H' ∧ ∃ kvs, HadKO kvs ∧ kvs.length ≤ i ∧ H' p = some (.dK kvs)) ∧ ∃ v5 v6 v7 v8, σ = [some (V.ref sp), some (V.int st), some (V.ref rp), some (V.ref np), some (V.ref p), v5, v6, v7, v8]) ⟨⟨Chg.refl _, [], hadKO_nil, Nat.le_refl _, a1⟩, none, none, none, none, rfl⟩ (fun i σ H' _ ⟨⟨c, _⟩, _⟩ => .inl (.inl (c.keep _ _ (s1 _ _ hr0) (by simp; exact npr)))) ?_ ?_⟩
    · rintro i x Tp σ H' hx hT ⟨⟨c, kvs, hk, kl, hp'⟩, v5, v6, v7, v8, rfl⟩
      rw [List.getElem?_map] at hx
      obtain ⟨r, hr1, rfl⟩ := Option.map_eq_some_iff.mp hx
      have s6 : Same H' (upd H' Tp (.tup [.int (i : Nat), .int r])) := Same.upd hT
      have a6 : upd H' Tp (.tup [.int (i : Nat), .int r]) Tp = some (.tup [.int (i : Nat), .int r]) := upd_same
      generalize upd H' Tp (.tup [.int (i : Nat), .int r]) = H6 at s6 a6 ⊢
      refine ⟨Tp, _, rfl, .inl (.inl a6), rfl, ?_⟩
      have c6 : Chg [p] H1 H6 := c.trans (Chg.of_same s6)
      have hn6 : SqL K H6 np (txV ns) := .inl (.inl (c6.keep _ _ (s1 _ _ hn0) (by simp; exact npn)))
      have p6 := s6 _ _ hp'
      have sm6 : Same H H6 := fun b o hb => c6.keep _ _ (s1 _ _ hb) (by simp; exact ne_of_none hb hp)
      have S6 : SqL K H6 sp (sc.map V.int) := sm6.seq hs0
      walk_at "rd"
      refine ⟨sc, S6, by omega, rLen_l hn6 ?_⟩
      rw [rPlus_ii, List.length_map]
      have m0 := mixN_bd (sc.getD (st + (i : Int)).toNat 0) (50 + (i : Int))
      generalize mixN (sc.getD (st + (i : Int)).toNat 0) (50 + (i : Int)) = mm at m0 ⊢
      have sto : ∀ v, NSO v → rSetA (V.ref p) (V.int r) v H6 fun H3 => Chg [p] H1 H3 ∧ ∃ kvs, HadKO kvs ∧ kvs.length ≤ i + 1 ∧ H3 p = some (HO.dK kvs) := fun v hv =>
        rSetA_d (DPut.k (k := .inl r) p6 (Nat.lt_of_le_of_lt (show kvs.length ≤ 64 by have := (List.getElem?_eq_some_iff.mp hr1).1; omega) (by decide))) ⟨c6.trans (Chg.upd (by simp) (mut_dK p6)), _, hk.put r hv, Nat.le_trans (length_putK _ _ _) (by omega), upd_same⟩
      have go : ∀ o : Int, 0 ≤ o → rLen K [V.ref np] H6 fun y H2 => rLt (V.int o) y H2 fun x_3 H' => ∃ k, x_3 = V.bl k ∧ if k = true then rIxA K (V.ref np) (V.int o) H' fun x H1_2 => rSetA (V.ref p) (V.int r) x H1_2 fun H3 => Chg [p] H1 H3 ∧ ∃ kvs, HadKO kvs ∧ kvs.length ≤ i + 1 ∧ H3 p = some (HO.dK kvs)
          else rLen K [V.ref np] H' fun y H2 => rEqq K (V.int o) y H2 fun x H' => ∃ k, x = V.bl k ∧ if k = true then rSetA (V.ref p) (V.int r) V.non H' fun H3 => Chg [p] H1 H3 ∧ ∃ kvs, HadKO kvs ∧ kvs.length ≤ i + 1 ∧ H3 p = some (HO.dK kvs) else Chg [p] H1 H' ∧ ∃ kvs, HadKO kvs ∧ kvs.length ≤ i + 1 ∧ H' p = some (HO.dK kvs) := fun o h0 => by
        refine rLen_l hn6 ?_
        rw [rLt_ii, List.length_map]
        refine ⟨_, rfl, ?_⟩
        by_cases e : o < (ns.length : Int)
        · rw [if_pos (decide_eq_true e)]
          obtain ⟨t, ht⟩ : ∃ t, ns[o.toNat]? = some t := ⟨ns[o.toNat]'(by omega), List.getElem?_eq_getElem (by omega)⟩
          exact rIxA_l hn6 (atI_get? h0 (by rw [List.getElem?_map, ht]; rfl)) (sto _ (nso_txt (okn t (List.mem_of_getElem? ht))))
        · rw [if_neg (by rw [decide_eq_false e]; exact Bool.false_ne_true)]
          refine rLen_l hn6 ?_
          rw [rEqq_ii]
          refine ⟨_, rfl, ?_⟩
          by_cases e2 : o = ((txV ns).length : Int)
          · rw [if_pos (decide_eq_true e2)]
            exact sto _ nso_non
          · rw [if_neg (by rw [decide_eq_false e2]; exact Bool.false_ne_true)]
            exact ⟨c6, kvs, hk, by omega, p6⟩
      exact ⟨_, rfl, by omega, ite2 (fun _ => go _ (by omega)) (fun _ => go _ (Int.emod_nonneg _ (by omega)))⟩
    · rintro σ H' ⟨⟨c, kvs, hk, kl, hp'⟩, v5, v6, v7, v8, rfl⟩
      rw [List.length_map] at kl
      have hn6 : SqL K H' np (txV ns) := .inl (.inl (c.keep _ _ (s1 _ _ hn0) (by simp; exact npn)))
      obtain ⟨t0, t1, tr, rfl⟩ : ∃ t0 t1 tr, ns = t0 :: t1 :: tr := by
        cases ns with
        | nil => exact absurd n2 (by simp)
        | cons t0 r =>
          cases r with
          | nil => exact absurd n2 (by simp)
          | cons t1 tr => exact ⟨t0, t1, tr, rfl⟩
      walk_at "rd"
      refine rIxA_l (v := .str (S t0)) hn6 (atI_get? (by decide) rfl) (rLen_l (.inl (.inl (c.keep _ _ (s1 _ _ hr0) (by simp; exact npr)))) ?_)
      rw [rPlus_ii]
      generalize (5000 : Int) + (((rows.map V.int).length : Nat) : Int) = k5
      refine rSetA_d (DPut.k (k := .inl k5) hp' (Nat.lt_of_le_of_lt (Nat.le_trans kl (Nat.le_of_lt h64)) (by decide))) ?_
      have k2 := hk.put k5 (v := .str (S t0)) (nso_txt (okn t0 (by simp)))
      have l2 := length_putK kvs (.inl k5 : Key) (.str (S t0))
      have c2 : Chg [p] H' (upd H' p (.dK (putK kvs (.inl k5) (.str (S t0))))) := Chg.upd (by simp) (mut_dK hp')
      have a2 : upd H' p (.dK (putK kvs (.inl k5) (.str (S t0)))) p = some (.dK (putK kvs (.inl k5) (.str (S t0)))) := upd_same
      generalize upd H' p (.dK (putK kvs (.inl k5) (.str (S t0)))) = H2 at c2 a2 ⊢
      generalize putK kvs (.inl k5) (.str (S t0)) = kv2 at k2 l2 a2
      have hn2 : SqL K H2 np (txV (t0 :: t1 :: tr)) := .inl (.inl ((c.trans c2).keep _ _ (s1 _ _ hn0) (by simp; exact npn)))
      refine rIxA_l (v := .str (S t1)) hn2 (atI_get? (by decide) rfl) ?_
      generalize (6000 : Int) = k6
      have b2 : kv2.length ≤ 65 := Nat.le_trans l2 (Nat.succ_le_succ (Nat.le_trans kl (Nat.le_of_lt h64)))
      refine rSetA_d (DPut.k (k := .inl k6) a2 (Nat.lt_of_le_of_lt b2 (by decide))) ?_
      have k3 := k2.put k6 (v := .str (S t1)) (nso_txt (okn t1 (by simp)))
      have l3 : (putK kv2 (.inl k6) (.str (S t1))).length ≤ rows.length + 2 := Nat.le_trans (length_putK kv2 _ _) (Nat.succ_le_succ (Nat.le_trans l2 (Nat.succ_le_succ kl)))
      have c3 : Chg [p] H2 (upd H2 p (.dK (putK kv2 (.inl k6) (.str (S t1))))) := Chg.upd (by simp) (mut_dK a2)
      exact q p _ _ hp (fun b o hb => (c.trans (c2.trans c3)).keep _ _ (s1 _ _ hb) (by simp; exact ne_of_none hb hp)) k3 l3 upd_same

theorem ok_rows_kept (T : Txt K mg a) : FnOk P w K mg base CX0 2 a.f_rows_kept a.d_rows_kept ["rows", "taker", "had", "share"] sp_kept := by
  refine T.F_rows_kept.ok sc_rows_kept (fun vs H Q E h => ?_) (fun cdv A0 outer s0 H vs Q E hr h => ?_)
  · obtain ⟨rp, dp, rows, tk, kvs, n, rfl, _⟩ := h
    rfl
  · obtain ⟨rp, dp, rows, tk, kvs, n, rfl, hr0, hd0, hk, h64, q⟩ := h
    refine ⟨_, (pss_one (ps_ret (pe_slice (sl_anyK (K := K)) (pe_call (ok_rows_had T) (hr.mono (by decide)) rfl T.m_rows_had T.F_rows_had.kp T.b_rows_had .nil pass0 (pa_cons (pv 0) (pa_cons (pv 1) (pa_cons (pv 2) pa_nil)))) po_none (po_some (pv 3))))), ?_⟩
    walk_at "rd"
    refine ⟨rows, hr0, kvs, hd0, hk, h64, fun D H1 hD s1 h1 => rSlA_l (.inl (.inl h1)) fun l hl => ?_⟩
    rw [cutV_pre, ← List.map_take]
    exact q l _ (same_back s1 hl) (s1.trans (Same.upd hl)) upd_same
theorem ok_dealt (T : Txt K mg a) : FnOk P w K mg base CX0 3 a.f_dealt a.d_dealt ["rows", "takers", "had"] sp_dealt := by
  refine T.F_dealt.ok sc_dealt (fun vs H Q E h => ?_) (fun cdv A0 outer s0 H vs Q E hr h => ?_)
  · obtain ⟨rp, tp, dp, rows, tks, kvs, rfl, _⟩ := h
    rfl
  · obtain ⟨rp, tp, dp, rows, tks, kvs, rfl, hr0, ht0, hd0, hk, h64, t64, nd, rn, okt, q⟩ := h
    refine ⟨_, (pss_cons (ps_set (i := 3) sc_dealt.nd rfl (Or.inr rfl) pe_dnewK)
      (pss_cons (ps_set (i := 4) sc_dealt.nd rfl (Or.inl rfl) (pe_lst pa_nil))
      (pss_cons (ps_set (i := 5) sc_dealt.nd rfl (Or.inl rfl) (pe_call (ok_shares T) (hr.mono (by decide)) rfl T.m_shares T.F_shares.kp T.b_shares .nil pass0 (pa_cons (pv 0) (pa_cons (pv 1) (pa_cons (pv 2) pa_nil)))))
      (pss_cons (ps_for PassesOwn.never rfl (pi_anyK (K := K) (pe_callB (call_sortedA (K := K)) (by rfl) T.n_sorted boot_sorted (pa_cons (pv 1) pa_nil))) (pg_name (i := 6) sc_dealt.nd rfl (Or.inl rfl)) (pss_cons (ps_set (i := 7) sc_dealt.nd rfl (Or.inl rfl) (pe_call (ok_rows_kept T) (hr.mono (by decide)) rfl T.m_rows_kept T.F_rows_kept.kp T.b_rows_kept .nil pass0 (pa_cons (pv 0) (pa_cons (pv 6) (pa_cons (pv 2) (pa_cons (pe_ix (ix_anyK (K := K) (hU1 hr)) (pv 5) (pv 6) (fun _ _ => rfl)) pa_nil))))))
      (pss_cons (ps_for PassesOwn.never rfl (pi_anyK (K := K) (pv 7)) (pg_name (i := 8) sc_dealt.nd rfl (Or.inl rfl)) (pss_one (ps_asg (pv 6) (pg_sub (pv 3) (pv 8) (set_any (hU1 hr))))))
      (pss_one (ps_expr (pe_bmK (K := K) PySem.F.plainAttrs_list PySem.F.slot_list_extend PySem.F.type_list_extend mt_extend (pv 4) (pa_cons (pe_op op_mulL (pe_lst (pa_cons (pv 6) pa_nil)) (pe_op op_sub (pe_ix (ix_anyK (K := K) (hU1 hr)) (pv 5) (pv 6) (fun _ _ => rfl)) (pe_callB (call_lenK (K := K)) (by rfl) T.n_len boot_len (pa_cons (pv 7) pa_nil)))) pa_nil)))))))
      (pss_cons (ps_setcIf (i := 9) ["rows", "takers", "had", "now", "lacks", "share_of", "taker", "kept", "row", "left", "k"] ["rows", "takers", "had", "now", "lacks", "share_of", "taker", "kept", "", "left", "k"] (defScope s_dealt) (by exact ⟨rfl, by decide +kernel, by decide +kernel, by decide +kernel, by decide +kernel, by decide +kernel, by decide +kernel, by decide +kernel, by decide +kernel⟩) (pi_anyK (K := K) (pe_callB (call_sortedA (K := K)) (by rfl) T.n_sorted boot_sorted (pa_cons (pv 0) pa_nil))) (fun C₁ s₁ H₁ f₁ => (pt_cmpR (op_notInK (K := K) (hU1 hr)) (pv 0) (pv 4) (by rfl))) (fun C₁ s₁ H₁ f₁ => (pv 0)) sc_dealt.nd)
      (pss_cons (ps_for PassesOwn.never rfl (pi_enumerate rfl T.n_enumerate (pa_cons (pv 9) pa_nil)) (pg_tupK (K := K) (n := 2) rfl (pgs_cons (pg_name (i := 10) sc_dealt.nd rfl (Or.inl rfl)) (pgs_cons (pg_name (i := 8) sc_dealt.nd rfl (Or.inl rfl)) pgs_nil))) (pss_one (ps_asg (pe_ifExp (pt_truthK (K := K) (pv 1) (by intro _; rfl)) (pe_ix (ix_anyK (K := K) (hU1 hr)) (pv 4) (pv 10) (fun _ _ => rfl)) pe_non) (pg_sub (pv 3) (pv 8) (set_any (hU1 hr))))))
      (pss_one (ps_ret (pv 3))))))))), ?_⟩
    refine cut4 fun Rz hRz => ?_
    walk_at "rd"
    intro p hp
    have s1 : Same H (upd H p (.dK [])) := Same.upd hp
    have a1 : upd H p (.dK []) p = some (.dK []) := upd_same
    generalize upd H p (.dK []) = H1 at s1 a1 ⊢
    refine ⟨Nat.zero_le _, fun lk hlk => ?_⟩
    have s2 : Same H1 (upd H1 lk (.lst [])) := Same.upd hlk
    have a2 : upd H1 lk (.lst []) lk = some (.lst []) := upd_same
    generalize upd H1 lk (.lst []) = H2 at s2 a2 ⊢
    have s02 := s1.trans s2
    refine ⟨rows, s02 _ _ hr0, tks, s02 _ _ ht0, kvs, s02 _ _ hd0, hk, h64, t64, nd, fun Sh H3 hSh s3 h3 => rSortA_t (.inl (.inl (s3 _ _ (s02 _ _ ht0)))) t64 fun op ho => ?_⟩
    have s4 : Same H3 (upd H3 op (.lst (txV (srtT tks)))) := Same.upd ho
    have a4 : upd H3 op (.lst (txV (srtT tks))) op = some (.lst (txV (srtT tks))) := upd_same
    generalize upd H3 op (.lst (txV (srtT tks))) = H4 at s4 a4 ⊢
    have s04 := s02.trans (s3.trans s4)
    have p4 := s4 _ _ (s3 _ _ (s2 _ _ a1))
    have l4 := s4 _ _ (s3 _ _ a2)
    have sh4 := s4 _ _ h3
    have lk0 : H lk = none := same_back s1 hlk
    have npl : lk ≠ p := Ne.symm (ne_of_none a1 hlk)
    have nps : Sh ≠ p := Ne.symm (ne_of_none (s2 _ _ a1) hSh)
    have nls : Sh ≠ lk := Ne.symm (ne_of_none a2 hSh)
    have npo : op ≠ p := Ne.symm (ne_of_none (s3 _ _ (s2 _ _ a1)) ho)
    have nlo : op ≠ lk := Ne.symm (ne_of_none (s3 _ _ a2) ho)
    have old : ∀ H', Chg [p, lk] H4 H' → Same H H' := fun H' c b o hb => c.keep _ _ (s04 _ _ hb) (by
      simp only [List.mem_cons, List.not_mem_nil, or_false, not_or]
      exact ⟨ne_of_none hb hp, ne_of_none hb lk0⟩)
    have lr : ((srtT tks).flatMap (kpR rows tks kvs) ++ lftR rows tks kvs).length = rows.length := (ord_perm rn nd (srtT_perm tks)).length_eq
    rw [List.length_append] at lr
    obtain ⟨lf, hlf⟩ : ∃ lf : List Nat → List (List Nat), lf = fun t => List.replicate (shM rows tks kvs t - (kpR rows tks kvs t).length) t := ⟨_, rfl⟩
    refine rAny_l (.inl (.inl a4)) (forW_list (xs := txV (srtT tks)) (fun i σ H' => (Chg [p, lk] H4 H' ∧ H' p = some (.dK (ownK rows tks kvs (((srtT tks).take i).flatMap (kpR rows tks kvs)))) ∧ H' lk = some (.lst (txV (((srtT tks).take i).flatMap lf)))) ∧ ∃ v6 v7 v8, σ = [some (V.ref rp), some (V.ref tp), some (V.ref dp), some (V.ref p), some (V.ref lk), some (V.ref Sh), v6, v7, v8, none, none]) ⟨⟨Chg.refl _, p4, l4⟩, none, none, none, rfl⟩ (fun i σ H' _ ⟨⟨c, _⟩, _⟩ => .inl (.inl (c.keep _ _ a4 (by simp; exact ⟨npo, nlo⟩)))) ?_ ?_)
    · rintro i x σ H' hx ⟨⟨c, hp', hl'⟩, v6, v7, v8, rfl⟩
      rw [List.getElem?_map] at hx
      obtain ⟨t, htt, rfl⟩ := Option.map_eq_some_iff.mp hx
      have htk : (srtT tks).take (i + 1) = (srtT tks).take i ++ [t] := by rw [List.take_add_one, htt]; rfl
      have tin : t ∈ tks := srtT_mem.mp (List.mem_of_getElem? htt)
      obtain ⟨g0, g1, g2⟩ := shN_get (rows := rows) (kvs := kvs) tin
      have esh : shN rows tks kvs t = ((shM rows tks kvs t : Nat) : Int) := by unfold shM; omega
      rw [esh] at g0 g2
      have sm := old H' c
      have shH : H' Sh = some (.dK (shareK rows tks kvs)) := c.keep _ _ sh4 (by simp; exact ⟨nps, nls⟩)
      have gg := DGet.k (k := .inr (S t)) shH
      rw [g0] at gg
      rw [htk, List.flatMap_append, List.flatMap_append]
      refine cut2 fun Rz hRz => ?_
      walk_at "rd"
      refine rIxA_d gg ?_
      refine ⟨rows, kvs, _, rfl, sm _ _ hr0, sm _ _ hd0, hk, h64, fun Kp H5 hKp s5 h5 => ?_⟩
      have h5' : H5 Kp = some (.lst ((kpR rows tks kvs t).map V.int)) := h5
      clear h5
      have ondK : (((srtT tks).take i).flatMap (kpR rows tks kvs) ++ kpR rows tks kvs t).Nodup := by
        have := kept_nd (rows := rows) (tks := tks) (kvs := kvs) rn (List.Nodup.sublist (List.take_sublist (i + 1) (srtT tks)) (srtT_nd nd))
        rw [htk, List.flatMap_append] at this
        simpa using this
      have kpl : (kpR rows tks kvs t).length < 64 := by
        have := List.length_filter_le (hasF kvs t) rows
        unfold kpR
        rw [List.length_take, srtI_len]
        omega
      have bl : (((srtT tks).take i).flatMap (kpR rows tks kvs)).length ≤ 64 := by
        have e : (srtT tks) = (srtT tks).take i ++ (srtT tks).drop i := (List.take_append_drop i _).symm
        have : ((srtT tks).flatMap (kpR rows tks kvs)).length = (((srtT tks).take i).flatMap (kpR rows tks kvs)).length + (((srtT tks).drop i).flatMap (kpR rows tks kvs)).length := by
          rw [← List.length_append, ← List.flatMap_append, List.take_append_drop]
        omega
      rw [show [t].flatMap (kpR rows tks kvs) = kpR rows tks kvs t by simp]
      have okr : ∀ r ∈ kpR rows tks kvs t, ownV rows tks kvs r = .str (S t) := fun r hr => own_kept tin hr
      generalize hbs : ((srtT tks).take i).flatMap (kpR rows tks kvs) = bs at hp' ondK bl ⊢
      have p5 := s5 _ _ hp'
      have nKp : Kp ≠ p := Ne.symm (ne_of_none hp' hKp)
      refine rAny_l (.inl (.inl h5')) (forW_list (xs := (kpR rows tks kvs t).map V.int) (fun j σ H6 => (Chg [p] H5 H6 ∧ H6 p = some (.dK (ownK rows tks kvs (bs ++ (kpR rows tks kvs t).take j)))) ∧ ∃ v8, σ = [some (V.ref rp), some (V.ref tp), some (V.ref dp), some (V.ref p), some (V.ref lk), some (V.ref Sh), some (V.str (S t)), some (V.ref Kp), v8, none, none]) ⟨⟨Chg.refl _, by rw [List.take_zero, List.append_nil]; exact p5⟩, v8, rfl⟩ (fun j σ H6 _ ⟨⟨c6, _⟩, _⟩ => .inl (.inl (c6.keep _ _ h5' (by simp; exact nKp)))) ?_ ?_)
      · rintro j x σ H6 hx ⟨⟨c6, p6⟩, v8, rfl⟩
        rw [List.getElem?_map] at hx
        obtain ⟨r, hr1, rfl⟩ := Option.map_eq_some_iff.mp hx
        have hrk : (kpR rows tks kvs t).take (j + 1) = (kpR rows tks kvs t).take j ++ [r] := by rw [List.take_add_one, hr1]; rfl
        have hnr : r ∉ bs ++ (kpR rows tks kvs t).take j := fun z => by
          have h1 := List.Nodup.sublist ((List.Sublist.refl bs).append (List.take_sublist (j + 1) (kpR rows tks kvs t))) ondK
          rw [hrk, ← List.append_assoc, List.nodup_append] at h1
          exact h1.2.2 r z r (by simp) rfl
        have lj : (bs ++ (kpR rows tks kvs t).take j).length ≤ 128 := by rw [List.length_append, List.length_take]; omega
        walk_at "rd"
        refine rSetA_d (DPut.k (k := .inl r) p6 (by rw [ownK_len]; exact Nat.lt_of_le_of_lt lj (by decide))) ⟨c6.trans (Chg.upd (by simp) (mut_dK p6)), ?_⟩
        rw [← okr r (List.mem_of_getElem? hr1), ownK_put hnr, hrk, List.append_assoc]
        exact upd_same
      · rintro σ H6 ⟨⟨c6, p6⟩, v8, rfl⟩
        rw [List.length_map, List.take_length] at p6
        show Rz _ _ _
        rw [hRz]
        clear hRz
        have shH6 : H6 Sh = some (.dK (shareK rows tks kvs)) := c6.keep _ _ (s5 _ _ shH) (by simp; exact nps)
        have gg6 := DGet.k (k := .inr (S t)) shH6
        rw [g0] at gg6
        have k6 : H6 Kp = some (.lst ((kpR rows tks kvs t).map V.int)) := c6.keep _ _ h5' (by simp; exact nKp)
        have lk6 : H6 lk = some (.lst (txV (((srtT tks).take i).flatMap lf))) := c6.keep _ _ (s5 _ _ hl') (by simp; exact npl)
        have kle := kp_le (rows := rows) (tks := tks) (kvs := kvs) t
        walk_at "rd"
        refine ⟨.inl ⟨_, .inl (.inl lk6)⟩, by decide, fun u1 hu1 => ?_⟩
        have s7 : Same H6 (upd H6 u1 (.lst [V.str (S t)])) := Same.upd hu1
        have a7 : upd H6 u1 (.lst [V.str (S t)]) u1 = some (.lst [V.str (S t)]) := upd_same
        generalize upd H6 u1 (.lst [V.str (S t)]) = H7 at s7 a7 ⊢
        have gg7 := DGet.k (k := .inr (S t)) (s7 _ _ shH6)
        rw [g0] at gg7
        refine rIxA_d gg7 (rLen_l (.inl (.inl (s7 _ _ k6))) ⟨_, rfl, _, rfl, .inr ⟨u1, _, _, rfl, rfl, a7, ?_⟩⟩)
        rw [List.length_map]
        have ek : (((shM rows tks kvs t : Nat) : Int) - ((kpR rows tks kvs t).length : Nat)).toNat = shM rows tks kvs t - (kpR rows tks kvs t).length := by omega
        rw [ek]
        have efl : (List.replicate (shM rows tks kvs t - (kpR rows tks kvs t).length) [V.str (S t)]).flatten = txV (lf t) := by
          rw [hlf]
          show _ = txV (List.replicate (shM rows tks kvs t - (kpR rows tks kvs t).length) t)
          generalize shM rows tks kvs t - (kpR rows tks kvs t).length = n
          induction n with
          | zero => rfl
          | succ n ih => rw [List.replicate_succ, List.flatten_cons, ih]; rfl
        rw [efl]
        have lfl : (lf t).length ≤ 65 := by rw [hlf]; show (List.replicate _ _).length ≤ 65; rw [List.length_replicate]; omega
        refine ⟨by omega, by omega, Nat.le_trans (show [V.str (S t)].length * (shM rows tks kvs t - (kpR rows tks kvs t).length) ≤ 65 by simp; omega) (by decide), fun u2 hu2 => ?_⟩
        have s8 : Same H7 (upd H7 u2 (.lst (txV (lf t)))) := Same.upd hu2
        have a8 : upd H7 u2 (.lst (txV (lf t))) u2 = some (.lst (txV (lf t))) := upd_same
        generalize upd H7 u2 (.lst (txV (lf t))) = H8 at s8 a8 ⊢
        have lk8 := s8 _ _ (s7 _ _ lk6)
        have p8 := s8 _ _ (s7 _ _ p6)
        have lbl : (((srtT tks).take i).flatMap lf).length ≤ 5000 := by
          rw [List.length_flatMap]
          have : ∀ l : List (List Nat), (∀ t ∈ l, t ∈ tks) → (l.map fun a => (lf a).length).sum ≤ l.length * 65 := by
            intro l
            induction l with
            | nil => intro _; exact Nat.le_refl _
            | cons a l ih =>
              intro hl
              have h1 := ih fun t ht => hl t (List.mem_cons_of_mem _ ht)
              have h2 : (lf a).length ≤ 65 := by
                obtain ⟨_, _, z⟩ := shN_get (rows := rows) (kvs := kvs) (hl a List.mem_cons_self)
                rw [hlf]; show (List.replicate _ _).length ≤ 65; rw [List.length_replicate]; unfold shM; omega
              rw [List.map_cons, List.sum_cons, List.length_cons]
              omega
          have h1 := this ((srtT tks).take i) fun t ht => srtT_mem.mp (List.mem_of_mem_take ht)
          have h2 : ((srtT tks).take i).length ≤ 64 := by rw [List.length_take, srtT_len]; omega
          omega
        have c8 : Chg [p, lk] H4 H8 := c.trans ((Chg.of_same s5).trans ((c6.mono (by simp)).trans ((Chg.of_same s7).trans (Chg.of_same s8))))
        refine ⟨lk, u2, _, _, rfl, rfl, lk8, a8, by rw [List.length_map, List.length_map]; exact Nat.le_trans (show _ ≤ 6000 by omega) (by decide), c8.trans (Chg.upd (by simp) (mut_lst lk8)), (upd_ne (Ne.symm npl)).trans p8, ?_⟩
        rw [show [t].flatMap lf = lf t by simp, show txV (((srtT tks).take i).flatMap lf ++ lf t) = txV (((srtT tks).take i).flatMap lf) ++ txV (lf t) from List.map_append]
        exact upd_same
    · rintro σ H' ⟨⟨c, hp', hl'⟩, v6, v7, v8, rfl⟩
      rw [List.length_map, List.take_length] at hp' hl'
      have sm := old H' c
      have elk : (srtT tks).flatMap lf = lakR rows tks kvs := by rw [hlf]; rfl
      rw [elk] at hl'
      show Rz { nx := fun x H' => Q V.non H', rt := Q } _ _
      rw [hRz]
      clear hRz
      walk_at "rd"
      refine rSortA_i (.inl (.inl (sm _ _ hr0))) h64 fun so hso => ?_
      have s5 : Same H' (upd H' so (.lst ((srtI rows).map V.int))) := Same.upd hso
      have a5 : upd H' so (.lst ((srtI rows).map V.int)) so = some (.lst ((srtI rows).map V.int)) := upd_same
      generalize upd H' so (.lst ((srtI rows).map V.int)) = H5 at s5 a5 ⊢
      have p5 := s5 _ _ hp'
      refine rAny_l (.inl (.inl a5)) (compW_iF (.inl (.inl a5)) (by rw [srtI_len]; omega) (fun r => !kpB rows tks kvs r) (fun r H6 _ s Qt qt => ?_) fun Lf H6 hLf s6 h6 => ?_)
      · walk_at "rd"
        refine rNin_d (DGet.k (k := .inl r) (s _ _ p5)) ⟨_, rfl, ?_⟩
        have := qt H6 (Same.refl _)
        have e : (valV (ownK rows tks kvs ((srtT tks).flatMap (kpR rows tks kvs))) (.inl r)).isSome = kpB rows tks kvs r := by
          cases hb : kpB rows tks kvs r with
          | true => rw [ownK_some ((mem_kept (srtT_perm tks)).mpr hb)]; rfl
          | false => rw [ownK_none (fun z => by rw [(mem_kept (srtT_perm tks)).mp z] at hb; cases hb)]; rfl
        rw [e]
        exact this
      have h6' : H6 Lf = some (.lst ((lftR rows tks kvs).map V.int)) := h6
      clear h6
      have p6 := s6 _ _ p5
      have l6 := s6 _ _ (s5 _ _ hl')
      have nLf : Lf ≠ p := Ne.symm (ne_of_none p5 hLf)
      have ondA := ord_nd (rows := rows) (tks := tks) (kvs := kvs) rn nd (srtT_perm tks)
      have old6 : ∀ H'', Chg [p] H6 H'' → Same H H'' := fun H'' c b o hb => c.keep _ _ (s6 _ _ (s5 _ _ (sm _ _ hb))) (by simp; exact ne_of_none hb hp)
      refine ⟨Lf, rfl, ⟨_, .inl (.inl h6')⟩, forW_enum (xs := (lftR rows tks kvs).map V.int) (fun k σ H7 => (Chg [p] H6 H7 ∧ H7 p = some (.dK (ownK rows tks kvs ((srtT tks).flatMap (kpR rows tks kvs) ++ (lftR rows tks kvs).take k)))) ∧ ∃ v8 v10, σ = [some (V.ref rp), some (V.ref tp), some (V.ref dp), some (V.ref p), some (V.ref lk), some (V.ref Sh), v6, v7, v8, some (V.ref Lf), v10]) ⟨⟨Chg.refl _, by rw [List.take_zero, List.append_nil]; exact p6⟩, v8, none, rfl⟩ (fun k σ H7 _ ⟨⟨c7, _⟩, _⟩ => .inl (.inl (c7.keep _ _ h6' (by simp; exact nLf)))) ?_ ?_⟩
      · rintro k x Tp σ H7 hx hT ⟨⟨c7, p7⟩, v8, v10, rfl⟩
        rw [List.getElem?_map] at hx
        obtain ⟨r, hr1, rfl⟩ := Option.map_eq_some_iff.mp hx
        have hrk : (lftR rows tks kvs).take (k + 1) = (lftR rows tks kvs).take k ++ [r] := by rw [List.take_add_one, hr1]; rfl
        have hkl := (List.getElem?_eq_some_iff.mp hr1).1
        have hnr : r ∉ (srtT tks).flatMap (kpR rows tks kvs) ++ (lftR rows tks kvs).take k := fun z => by
          have h1 := List.Nodup.sublist ((List.Sublist.refl ((srtT tks).flatMap (kpR rows tks kvs))).append (List.take_sublist (k + 1) (lftR rows tks kvs))) ondA
          rw [hrk, ← List.append_assoc, List.nodup_append] at h1
          exact h1.2.2 r z r (by simp) rfl
        have lj : ((srtT tks).flatMap (kpR rows tks kvs) ++ (lftR rows tks kvs).take k).length ≤ 128 := by rw [List.length_append, List.length_take]; omega
        have s8 : Same H7 (upd H7 Tp (.tup [.int (k : Nat), .int r])) := Same.upd hT
        have a8 : upd H7 Tp (.tup [.int (k : Nat), .int r]) Tp = some (.tup [.int (k : Nat), .int r]) := upd_same
        generalize upd H7 Tp (.tup [.int (k : Nat), .int r]) = H8 at s8 a8 ⊢
        refine ⟨Tp, _, rfl, .inl (.inl a8), rfl, ?_⟩
        have c8 := c7.trans (Chg.of_same s8)
        have p8 := s8 _ _ p7
        have l8 : H8 lk = some (.lst (txV (lakR rows tks kvs))) := c8.keep _ _ l6 (by simp; exact npl)
        have t8 : SqL K H8 tp (txV tks) := .inl (.inl (old6 H8 c8 _ _ ht0))
        have eow := own_left rn hr1
        walk_at "rd"
        have sto : rSetA (V.ref p) (V.int r) (lakV rows tks kvs k) H8 fun H3 => Chg [p] H6 H3 ∧ H3 p = some (.dK (ownK rows tks kvs ((srtT tks).flatMap (kpR rows tks kvs) ++ (lftR rows tks kvs).take (k + 1)))) := by
          refine rSetA_d (DPut.k (k := .inl r) p8 (by rw [ownK_len]; exact Nat.lt_of_le_of_lt lj (by decide))) ⟨c8.trans (Chg.upd (by simp) (mut_dK p8)), ?_⟩
          rw [← eow, ownK_put hnr, hrk, List.append_assoc]
          exact upd_same
        refine ⟨_, .inl ⟨_, t8, rfl⟩, ?_⟩
        by_cases e0 : tks = []
        · have e1 : lakR rows tks kvs = [] := by rw [e0]; unfold lakR srtT; simp
          have e2 : lakV rows tks kvs k = .non := by unfold lakV; rw [e1]; rfl
          rw [if_neg (by rw [e0]; simp), ← e2]
          exact sto
        · rw [if_pos (by cases tks with | nil => exact absurd rfl e0 | cons => rfl)]
          have hll := lak_len (kvs := kvs) rn e0 nd
          obtain ⟨t, ht⟩ : ∃ t, (lakR rows tks kvs)[k]? = some t := ⟨(lakR rows tks kvs)[k]'(by omega), List.getElem?_eq_getElem (by omega)⟩
          have e2 : lakV rows tks kvs k = .str (S t) := by unfold lakV; rw [ht]
          refine rIxA_l (v := .str (S t)) (.inl (.inl l8)) (atI_get? (by omega) (by rw [Int.toNat_natCast, List.getElem?_map, ht]; rfl)) ?_
          rw [← e2]
          exact sto
      · rintro σ H7 ⟨⟨c7, p7⟩, v8, v10, rfl⟩
        rw [List.length_map, List.take_length] at p7
        walk_at "rd"
        exact q p H7 _ hp (old6 H7 c7) (ord_perm rn nd (srtT_perm tks)) p7

theorem ok_moved (T : Txt K mg a) : FnOk P w K mg base CX0 1 a.f_moved a.d_moved ["had", "now"] sp_moved := by
  refine T.F_moved.ok sc_moved (fun vs H Q E h => ?_) (fun cdv A0 outer s0 H vs Q E hr h => ?_)
  · obtain ⟨hp, np, had, now, rfl, _⟩ := h
    rfl
  · obtain ⟨hp, np, had, now, rfl, h1, h2, k1, k2, l64, q⟩ := h
    refine ⟨_, (pss_one (ps_ret (pe_compIf ["had", "now"] ["had", "now"] (defScope s_moved) (by exact ⟨rfl, by decide +kernel, by decide +kernel, by decide +kernel, by decide +kernel, by decide +kernel, by decide +kernel, by decide +kernel, by decide +kernel⟩) (pi_anyK (K := K) (pe_callB (call_sortedA (K := K)) (by rfl) T.n_sorted boot_sorted (pa_cons (pv 1) pa_nil))) (fun C₁ s₁ H₁ f₁ => (pt_cmpR (op_neK (K := K) (hU hr)) (pe_dget1 (hU1 hr) (pv 1) (pv 0) ⟨rfl, rfl, rfl, rfl⟩) (pe_ix (ix_anyK (K := K) (hU1 hr)) (pv 2) (pv 0) (fun _ _ => rfl)) (nomark _))) (fun C₁ s₁ H₁ f₁ => (pe_tup (pa_cons (pv 0) (pa_cons (pe_dget1 (hU1 hr) (pv 1) (pv 0) ⟨rfl, rfl, rfl, rfl⟩) (pa_cons (pe_ix (ix_anyK (K := K) (hU1 hr)) (pv 2) (pv 0) (fun _ _ => rfl)) pa_nil)))))))), ?_⟩
    walk_at "rd"
    refine rSortA_d h2 k2.keys (by rw [ksOf_len]; exact l64) fun nd l hl => ?_
    have s1 : Same H (upd H l (.lst ((srtI (ksOf now)).map V.int))) := Same.upd hl
    have a1 : upd H l (.lst ((srtI (ksOf now)).map V.int)) l = some (.lst ((srtI (ksOf now)).map V.int)) := upd_same
    generalize upd H l (.lst ((srtI (ksOf now)).map V.int)) = H1 at s1 a1 ⊢
    have ll : ((srtI (ksOf now)).map V.int).length ≤ 64 := by rw [List.length_map, srtI_len, ksOf_len]; omega
    refine rAny_l (.inl (.inl a1)) (compW_listIfI (xs := (srtI (ksOf now)).map V.int) (by omega) (fun D i ys H' => Same H1 H' ∧ ∃ ts, ys = ts.map V.ref ∧ H' D = some (.lst (ts.map V.ref)) ∧ TupsAt H' ts ((((srtI (ksOf now)).take i).filter (movP had now)).map (movT had now))) (fun D hD => ⟨Same.upd hD, [], rfl, upd_same, .nil⟩) (fun D i ys H' hi ⟨s, ts, e, hD, ht⟩ => ⟨by rw [e]; exact hD, ?_, .inl (.inl (s _ _ a1))⟩) ?_ ?_)
    · rw [e, List.length_map, ht.length, List.length_map]
      refine Nat.le_trans (List.length_filter_le _ _) ?_
      rw [List.length_take]; omega
    · rintro D i ys H' x hD hx ⟨s, ts, rfl, hDl, ht⟩ Qe Qn qe qn
      rw [List.getElem?_map] at hx
      obtain ⟨r, hr1, rfl⟩ := Option.map_eq_some_iff.mp hx
      have htk : (srtI (ksOf now)).take (i + 1) = (srtI (ksOf now)).take i ++ [r] := by rw [List.take_add_one, hr1]; rfl
      have g1 := s _ _ (s1 _ _ h1)
      have g2 := DGet.k (k := .inl r) (s _ _ (s1 _ _ h2))
      rw [k2.get (srtI_mem.mp (List.mem_of_getElem? hr1))] at g2
      walk_at "rd"
      refine ⟨.inl ⟨had, .inl g1⟩, _, DGet.k (k := .inl r) g1, rIxA_d g2 (neq_had (k1.ns r) (k2.ns r) ⟨_, rfl, ?_⟩)⟩
      have em : (!decide ((valV had (.inl r)).getD V.non = hdF now r)) = movP had now r := rfl
      rw [em]
      by_cases e : movP had now r = true
      · rw [if_pos e]
        refine ⟨.inl ⟨had, .inl g1⟩, _, DGet.k (k := .inl r) g1, rIxA_d g2 ⟨by decide, fun p hp1 => ?_⟩⟩
        have s2 : Same H' (upd H' p (.tup (movT had now r))) := Same.upd hp1
        have a2 : upd H' p (.tup (movT had now r)) p = some (.tup (movT had now r)) := upd_same
        show Qe (V.ref p) (upd H' p (.tup (movT had now r)))
        generalize upd H' p (.tup (movT had now r)) = H2 at s2 a2 ⊢
        have d2 := s2 _ _ hDl
        have c3 : Chg [D] H2 (upd H2 D (.lst (ts.map V.ref ++ [V.ref p]))) := Chg.upd (by simp) (mut_lst d2)
        refine qe _ _ d2 ⟨fun b o hb => c3.keep _ _ (s2 _ _ (s _ _ hb)) (by simp; exact ne_of_none hb hD), ts ++ [p], by rw [List.map_append]; rfl, by rw [List.map_append]; exact upd_same, ?_⟩
        rw [htk, List.filter_append, show [r].filter (movP had now) = [r] by simp [e], List.map_append]
        exact ((ht.chg (Chg.of_same (A := []) s2)).chg c3).snoc (c3.tup _ _ a2)
      · rw [if_neg e]
        refine qn _ ⟨s, ts, rfl, hDl, ?_⟩
        rw [htk, List.filter_append, show [r].filter (movP had now) = [] by simp [e], List.append_nil]
        exact ht
    · rintro D ys H' hD ⟨s, ts, rfl, hDl, ht⟩
      rw [List.length_map, List.take_length] at ht
      exact q D H' (same_back s1 hD) (s1.trans s) ⟨ts, hDl, ht⟩

theorem ok_paper_of (T : Txt K mg a) : FnOk P w K mg base CX0 3 a.f_paper_of a.d_paper_of ["rows", "takers", "had"] sp_paper := by
  refine T.F_paper_of.ok sc_paper_of (fun vs H Q E h => ?_) (fun cdv A0 outer s0 H vs Q E hr h => ?_)
  · obtain ⟨rp, tp, dp, rows, tks, kvs, rfl, _⟩ := h
    rfl
  · obtain ⟨rp, tp, dp, rows, tks, kvs, rfl, hr0, ht0, hd0, hk, h64, t64, nd, okt, q⟩ := h
    refine ⟨_, (pss_cons (ps_set (i := 3) sc_paper_of.nd rfl (Or.inl rfl) (pe_lst pa_nil))
      (pss_cons (ps_set (i := 4) sc_paper_of.nd rfl (Or.inl rfl) (pe_call (ok_shares T) (hr.mono (by decide)) rfl T.m_shares T.F_shares.kp T.b_shares .nil pass0 (pa_cons (pv 0) (pa_cons (pv 1) (pa_cons (pv 2) pa_nil)))))
      (pss_cons (ps_for PassesOwn.never rfl (pi_anyK (K := K) (pe_callB (call_sortedA (K := K)) (by rfl) T.n_sorted boot_sorted (pa_cons (pv 1) pa_nil))) (pg_name (i := 5) sc_paper_of.nd rfl (Or.inl rfl)) (pss_cons (ps_set (i := 6) sc_paper_of.nd rfl (Or.inl rfl) (pe_callB (call_lenK (K := K)) (by rfl) T.n_len boot_len (pa_cons (pe_call (ok_rows_had T) (hr.mono (by decide)) rfl T.m_rows_had T.F_rows_had.kp T.b_rows_had .nil pass0 (pa_cons (pv 0) (pa_cons (pv 5) (pa_cons (pv 2) pa_nil)))) pa_nil)))
      (pss_one (ps_expr (pe_bmK (K := K) PySem.F.plainAttrs_list PySem.F.slot_list_append PySem.F.type_list_append mt_append (pv 3) (pa_cons (pe_tup (pa_cons (pv 5) (pa_cons (pv 6) (pa_cons (pe_ix (ix_anyK (K := K) (hU1 hr)) (pv 4) (pv 5) (fun _ _ => rfl)) (pa_cons (pe_callB (call_minA rfl) (by rfl) T.n_min boot_min (pa_cons (pv 6) (pa_cons (pe_ix (ix_anyK (K := K) (hU1 hr)) (pv 4) (pv 5) (fun _ _ => rfl)) pa_nil))) pa_nil))))) pa_nil))))))
      (pss_one (ps_ret (pv 3)))))), ?_⟩
    walk_at "rd"
    refine ⟨Nat.zero_le _, fun p hp => ?_⟩
    have s1 : Same H (upd H p (.lst [])) := Same.upd hp
    have a1 : upd H p (.lst []) p = some (.lst []) := upd_same
    generalize upd H p (.lst []) = H1 at s1 a1 ⊢
    refine ⟨rows, s1 _ _ hr0, tks, s1 _ _ ht0, kvs, s1 _ _ hd0, hk, h64, t64, nd, fun Sh H2 hSh s2 h2 => rSortA_t (.inl (.inl (s2 _ _ (s1 _ _ ht0)))) t64 fun op ho => ?_⟩
    have s3 : Same H2 (upd H2 op (.lst (txV (srtT tks)))) := Same.upd ho
    have a3 : upd H2 op (.lst (txV (srtT tks))) op = some (.lst (txV (srtT tks))) := upd_same
    generalize upd H2 op (.lst (txV (srtT tks))) = H3 at s3 a3 ⊢
    have s13 := s2.trans s3
    have s03 := s1.trans s13
    have p3 := s13 _ _ a1
    have old : ∀ H', Chg [p] H3 H' → Same H H' := fun H' c b o hb => c.keep _ _ (s03 _ _ hb) (by simp; exact ne_of_none hb hp)
    have npo : op ≠ p := Ne.symm (ne_of_none (s2 _ _ a1) ho)
    have nps : Sh ≠ p := Ne.symm (ne_of_none a1 hSh)
    refine rAny_l (.inl (.inl a3)) (forW_list (xs := txV (srtT tks)) (fun i σ H' => (Chg [p] H3 H' ∧ ∃ ts, H' p = some (.lst (ts.map V.ref)) ∧ TupsAt H' ts (((srtT tks).take i).map (papT rows tks kvs))) ∧ ∃ v5 v6, σ = [some (V.ref rp), some (V.ref tp), some (V.ref dp), some (V.ref p), some (V.ref Sh), v5, v6]) ⟨⟨Chg.refl _, [], p3, .nil⟩, none, none, rfl⟩ (fun i σ H' _ ⟨⟨c, _⟩, _⟩ => .inl (.inl (c.keep _ _ a3 (by simp; exact npo)))) ?_ ?_)
    · rintro i x σ H' hx ⟨⟨c, ts, hp', ht⟩, v5, v6, rfl⟩
      rw [List.getElem?_map] at hx
      obtain ⟨t, htt, rfl⟩ := Option.map_eq_some_iff.mp hx
      have htk : (srtT tks).take (i + 1) = (srtT tks).take i ++ [t] := by rw [List.take_add_one, htt]; rfl
      have hil := (List.getElem?_eq_some_iff.mp htt).1
      rw [srtT_len] at hil
      have sm := old H' c
      have tin : t ∈ tks := srtT_mem.mp (List.mem_of_getElem? htt)
      obtain ⟨g0, g1, g2⟩ := shN_get (rows := rows) (kvs := kvs) tin
      walk_at "rd"
      refine ⟨rows, sm _ _ hr0, kvs, sm _ _ hd0, hk, h64, fun D H4 hD s4 h4 => rLen_l (.inl (.inl h4)) ?_⟩
      rw [List.length_map, srtI_len]
      have hS4 : H4 Sh = some (.dK (shareK rows tks kvs)) := s4 _ _ (c.keep _ _ (s3 _ _ h2) (by simp; exact nps))
      have gg := DGet.k (k := .inr (S t)) hS4
      rw [g0] at gg
      have c4 := c.trans (Chg.of_same s4)
      have hp4 := s4 _ _ hp'
      have ht4 := ht.chg (Chg.of_same (A := []) s4)
      have tl : ts.length ≤ 64 := by rw [ht.length, List.length_map, List.length_take]; omega
      refine ⟨.inl ⟨_, .inl (.inl hp4)⟩, rIxA_d gg (rIxA_d gg ⟨_, rfl, _, rfl, by decide, fun u hu => ?_⟩)⟩
      obtain ⟨b1, b2, b3⟩ := tups_app (r := papT rows tks kvs t) c4 hp4 ht4 hu
      refine ⟨_, b1, by rw [List.length_map]; exact Nat.lt_of_le_of_lt tl (by decide), b2, ?_⟩
      rw [htk, List.map_append]
      exact b3
    · rintro σ H' ⟨⟨c, ts, hp', ht⟩, v5, v6, rfl⟩
      rw [List.length_map, List.take_length] at ht
      walk_at "rd"
      exact q p H' hp (old H' c) ⟨ts, hp', ht⟩

theorem ok_l_most_kept (T : Txt K mg a) : FnOk P w K mg base CX0 1 a.f_l_most_kept a.d_l_most_kept ["_law_rows_here", "_law_takers_here", "_law_had_here"] sp_most := by
  refine T.F_l_most_kept.ok sc_l_most_kept (fun vs H Q E h => ?_) (fun cdv A0 outer s0 H vs Q E hr h => ?_)
  · obtain ⟨rp, tp, dp, rows, tks, kvs, rfl, _⟩ := h
    rfl
  · obtain ⟨rp, tp, dp, rows, tks, kvs, rfl, hr0, ht0, hd0, hk, h64, t64, t0, q⟩ := h
    refine ⟨_, (pss_cons (ps_set (i := 3) sc_l_most_kept.nd rfl (Or.inl rfl) (pe_op op_fdiv (pe_callB (call_lenK (K := K)) (by rfl) T.n_len boot_len (pa_cons (pv 0) pa_nil)) (pe_callB (call_lenK (K := K)) (by rfl) T.n_len boot_len (pa_cons (pv 1) pa_nil))))
      (pss_cons (ps_set (i := 4) sc_l_most_kept.nd rfl (Or.inl rfl) (pe_op op_sub (pe_callB (call_lenK (K := K)) (by rfl) T.n_len boot_len (pa_cons (pv 0) pa_nil)) (pe_op op_mulA (pv 3) (pe_callB (call_lenK (K := K)) (by rfl) T.n_len boot_len (pa_cons (pv 1) pa_nil)))))
      (pss_cons (ps_set (i := 5) sc_l_most_kept.nd rfl (Or.inl rfl) pe_int)
      (pss_cons (ps_set (i := 6) sc_l_most_kept.nd rfl (Or.inl rfl) pe_int)
      (pss_cons (ps_for PassesOwn.never rfl (pi_anyK (K := K) (pv 1)) (pg_name (i := 7) sc_l_most_kept.nd rfl (Or.inr rfl)) (pss_cons (ps_set (i := 8) sc_l_most_kept.nd rfl (Or.inl rfl) (pe_callB (call_lenK (K := K)) (by rfl) T.n_len boot_len (pa_cons (pe_compIf ["_law_rows_here", "_law_takers_here", "_law_had_here", "_law_low", "_law_more", "_law_kept", "_law_over", "_law_taker", "_law_has"] ["_law_rows_here", "_law_takers_here", "_law_had_here", "_law_low", "_law_more", "_law_kept", "_law_over", "_law_taker", "_law_has"] (defScope s_l_most_kept) (by exact ⟨rfl, by decide +kernel, by decide +kernel, by decide +kernel, by decide +kernel, by decide +kernel, by decide +kernel, by decide +kernel, by decide +kernel⟩) (pi_anyK (K := K) (pv 0)) (fun C₁ s₁ H₁ f₁ => (pt_cmpR (op_eqK (K := K) (hU hr)) (pe_dget1 (hU1 hr) (pv 3) (pv 0) ⟨rfl, rfl, rfl, rfl⟩) (pv 8) (nomark _))) (fun C₁ s₁ H₁ f₁ => (pv 0))) pa_nil)))
      (pss_cons (ps_set (i := 5) sc_l_most_kept.nd rfl (Or.inl rfl) (pe_op (op_plusK (K := K)) (pv 5) (pe_callB (call_minA rfl) (by rfl) T.n_min boot_min (pa_cons (pv 8) (pa_cons (pv 3) pa_nil)))))
      (pss_one (ps_set (i := 6) sc_l_most_kept.nd rfl (Or.inl rfl) (pe_op (op_plusK (K := K)) (pv 6) (pe_callTy (call_intK (K := K)) rfl T.n_int boot_int (pa_cons (pe_cmpR op_gtA (pv 8) (pv 3) (nomark _)) pa_nil))))))))
      (pss_one (ps_ret (pe_op (op_plusK (K := K)) (pv 5) (pe_callB (call_minA rfl) (by rfl) T.n_min boot_min (pa_cons (pv 4) (pa_cons (pv 6) pa_nil))))))))))), ?_⟩
    have tpos : 0 < tks.length := List.length_pos_iff.mpr t0
    refine cut4 fun Rz hRz => ?_
    walk_at "rd"
    have R0 : SqL K H rp (rows.map V.int) := .inl (.inl hr0)
    have T0 : SqL K H tp (txV tks) := .inl (.inl ht0)
    refine rLen_l R0 (rLen_l T0 ⟨_, rfl, _, rfl, by rw [List.length_map]; omega, by rw [List.length_map]; omega, rLen_l R0 (rLen_l T0 ?_)⟩)
    rw [List.length_map, List.length_map]
    have elow : (rows.length : Int) / (tks.length : Int) = ((rows.length / tks.length : Nat) : Int) := by omega
    have hdm := Nat.div_add_mod rows.length tks.length
    have emor : (rows.length : Int) - ((rows.length / tks.length : Nat) : Int) * (tks.length : Int) = ((rows.length % tks.length : Nat) : Int) := by
      have : ((tks.length * (rows.length / tks.length) + rows.length % tks.length : Nat) : Int) = rows.length := by rw [hdm]
      rw [Int.natCast_add, Int.natCast_mul, Int.mul_comm] at this
      omega
    rw [elow, rMul_ii]
    refine ⟨?_, _, rfl, _, rfl, ?_⟩
    · exact .inr ⟨by omega, by omega⟩
    rw [emor]
    generalize hlow : rows.length / tks.length = low
    generalize hmor : rows.length % tks.length = more
    rw [hRz]
    clear hRz
    walk_at "rd"
    refine rAny_l T0 (forW_list (xs := txV tks) (fun i σ H' => Same H H' ∧ ∃ v7 v8, σ = [some (V.ref rp), some (V.ref tp), some (V.ref dp), some (V.int (low : Nat)), some (V.int (more : Nat)), some (V.int (keepN rows (tks.take i) kvs (fun _ => low) : Nat)), some (V.int (((tks.take i).filter (richP rows kvs low)).length : Nat)), v7, v8]) ⟨Same.refl _, none, none, rfl⟩ (fun i σ H' _ ⟨s, _⟩ => s.seq T0) ?_ ?_)
    · rintro i x σ H' hx ⟨sm, v7, v8, rfl⟩
      rw [List.getElem?_map] at hx
      obtain ⟨t, ht, rfl⟩ := Option.map_eq_some_iff.mp hx
      have htk : tks.take (i + 1) = tks.take i ++ [t] := by rw [List.take_add_one, ht]; rfl
      walk_at "rd"
      refine rAny_l (.inl (.inl (sm _ _ hr0))) (compW_iF (.inl (.inl (sm _ _ hr0))) (by omega) (hasF kvs t) (fun r H2 _ s Qt qt => ?_) fun D H2 hD s2 h2 => ?_)
      · walk_at "rd"
        have d2 := s _ _ (sm _ _ hd0)
        exact ⟨.inl ⟨kvs, .inl d2⟩, _, DGet.k (k := .inl r) d2, eqq_had (hk.ns r) ⟨_, rfl, qt H2 (Same.refl _)⟩⟩
      · refine rLen_l (.inl (.inl h2)) ⟨_, rfl, _, rfl, sm.trans s2, ?_, ?_⟩
        · rw [htk, keepN_snoc, List.length_map]
          show _ = ((_ + min (rows.filter (hasF kvs t)).length low : Nat) : Int)
          omega
        · rw [htk, List.filter_append, List.length_append, List.length_map]
          have er : richP rows kvs low t = decide (low < (rows.filter (hasF kvs t)).length) := rfl
          by_cases z : low < (rows.filter (hasF kvs t)).length
          · rw [if_pos (by omega), show [t].filter (richP rows kvs low) = [t] by rw [List.filter_cons_of_pos (by rw [er]; simpa using z)]; rfl, List.length_singleton]; omega
          · rw [if_neg (by omega), show [t].filter (richP rows kvs low) = [] by rw [List.filter_cons_of_neg (by rw [er]; simpa using z)]; rfl, List.length_nil]; omega
    · rintro σ H' ⟨sm, v7, v8, rfl⟩
      rw [List.length_map, List.take_length]
      walk_at "rd"
      have := q H' sm
      unfold bestN overN at this
      rw [hlow, hmor] at this
      have e : ((keepN rows tks kvs (fun _ => low) + min more (tks.filter (richP rows kvs low)).length : Nat) : Int) = (keepN rows tks kvs (fun _ => low) : Nat) + min (more : Int) ((tks.filter (richP rows kvs low)).length : Nat) := by omega
      rw [e] at this
      exact this
theorem ok_l_even (T : Txt K mg a) : FnOk P w K mg base CX0 1 a.f_l_even a.d_l_even ["_law_found", "_law_rows_here", "_law_takers_here"] sp_even := by
  refine T.F_l_even.ok sc_l_even (fun vs H Q E h => ?_) (fun cdv A0 outer s0 H vs Q E hr h => ?_)
  · obtain ⟨d, rp, tp, rows, ord, tks, kvs, rfl, _⟩ := h
    rfl
  · obtain ⟨d, rp, tp, rows, ord, tks, kvs, rfl, hd0, hr0, ht0, pm, rn, tn, t0, h64, t64, q⟩ := h
    refine ⟨_, (pss_cons (ps_if (PW.pt (pw_or (pt_not (pt_truthK (K := K) (pe_callB (call_isinstanceK (K := K)) (by rfl) T.n_isinstance boot_isinstance (pa_cons (pv 0) (pa_cons (pe_bltn (v := .ty "dict") rfl T.n_dict boot_dict rfl) pa_nil))) (by intro _; rfl))) (pw_or1 (pt_cmpR (op_neK (K := K) (hU hr)) (pe_callB (call_sortedA (K := K)) (by rfl) T.n_sorted boot_sorted (pa_cons (pv 0) pa_nil)) (pe_callB (call_sortedA (K := K)) (by rfl) T.n_sorted boot_sorted (pa_cons (pv 1) pa_nil)) (nomark _))))) (pss_one (ps_ret pe_bl)) pss_nil)
      (pss_cons (ps_set (i := 3) sc_l_even.nd rfl (Or.inl rfl) pe_dnewK)
      (pss_cons (ps_for PassesOwn.never rfl (pi_anyK (K := K) (pv 2)) (pg_name (i := 4) sc_l_even.nd rfl (Or.inl rfl)) (pss_one (ps_asg pe_int (pg_sub (pv 3) (pv 4) (set_any (hU1 hr))))))
      (pss_cons (ps_for PassesOwn.never rfl (pi_anyK (K := K) (pv 1)) (pg_name (i := 5) sc_l_even.nd rfl (Or.inl rfl)) (pss_cons (ps_if (pt_cmpR (op_notInK (K := K) (hU1 hr)) (pe_ix (ix_anyK (K := K) (hU1 hr)) (pv 0) (pv 5) (fun _ _ => rfl)) (pv 3) (by rfl)) (pss_one (ps_ret pe_bl)) pss_nil)
      (pss_one (ps_asg (pe_op (op_plusK (K := K)) (pe_ix (ix_anyK (K := K) (hU1 hr)) (pv 3) (pe_ix (ix_anyK (K := K) (hU1 hr)) (pv 0) (pv 5) (fun _ _ => rfl)) (fun _ _ => rfl)) pe_int) (pg_sub (pv 3) (pe_ix (ix_anyK (K := K) (hU1 hr)) (pv 0) (pv 5) (fun _ _ => rfl)) (set_any (hU1 hr)))))))
      (pss_one (ps_ret (pe_cmpR op_leK (pe_op op_sub (pe_maxV rfl rfl T.n_max (pv 3)) (pe_minV rfl rfl T.n_min (pv 3))) pe_int (nomark _)))))))), ?_⟩
    refine cut2 fun Rz hRz => ?_
    walk_at "rd"
    refine (isi_dK_dict hd0).mpr ⟨_, rfl, ?_⟩
    rw [if_neg (by decide)]
    refine rSortA_d hd0 (ownK_keys ord) (by rw [pm.length_eq]; exact h64) fun _ l1 hl1 => ?_
    have s1 : Same H (upd H l1 (.lst ((srtI ord).map V.int))) := Same.upd hl1
    have a1 : upd H l1 (.lst ((srtI ord).map V.int)) l1 = some (.lst ((srtI rows).map V.int)) := by rw [srtI_congr pm]; exact upd_same
    generalize upd H l1 (.lst ((srtI ord).map V.int)) = H1 at s1 a1 ⊢
    refine rSortA_i (.inl (.inl (s1 _ _ hr0))) h64 fun l2 hl2 => ?_
    have s2 : Same H1 (upd H1 l2 (.lst ((srtI rows).map V.int))) := Same.upd hl2
    have a2 : upd H1 l2 (.lst ((srtI rows).map V.int)) l2 = some (.lst ((srtI rows).map V.int)) := upd_same
    generalize upd H1 l2 (.lst ((srtI rows).map V.int)) = H2 at s2 a2 ⊢
    refine rNeq_same (den_ints (.inl (.inl (s2 _ _ a1)))) (den_ints (.inl (.inl a2))) (wd_ints _) rfl ⟨_, rfl, ?_⟩
    rw [if_neg (by decide)]
    intro p hp
    have s02 := s1.trans s2
    have s3 : Same H2 (upd H2 p (.dK [])) := Same.upd hp
    have a3 : upd H2 p (.dK []) p = some (.dK (manyK (tks.take 0) fun _ => 0)) := upd_same
    generalize upd H2 p (.dK []) = H3 at s3 a3 ⊢
    have s03 := s02.trans s3
    have hp0 : H p = none := same_back s02 hp
    have old : ∀ H', Chg [p] H3 H' → Same H H' := fun H' c b o hb => c.keep _ _ (s03 _ _ hb) (by simp; exact ne_of_none hb hp0)
    rw [hRz]
    clear hRz
    refine cut1 fun Rz hRz => ?_
    walk_at "rd"
    refine rAny_l (.inl (.inl (s03 _ _ ht0))) (forW_list (xs := txV tks) (fun i σ H' => (Chg [p] H3 H' ∧ H' p = some (.dK (manyK (tks.take i) fun _ => 0))) ∧ ∃ v4, σ = [some (V.ref d), some (V.ref rp), some (V.ref tp), some (V.ref p), v4, none]) ⟨⟨Chg.refl _, a3⟩, none, rfl⟩ (fun i σ H' _ ⟨⟨c, _⟩, _⟩ => .inl (.inl (old H' c _ _ ht0))) ?_ ?_)
    · rintro i x σ H' hx ⟨⟨c, hp'⟩, v4, rfl⟩
      rw [List.getElem?_map] at hx
      obtain ⟨t, ht, rfl⟩ := Option.map_eq_some_iff.mp hx
      have htk : tks.take (i + 1) = tks.take i ++ [t] := by rw [List.take_add_one, ht]; rfl
      have hnt : t ∉ tks.take i := fun z => by
        have hn2 := List.Nodup.sublist (List.take_sublist (i + 1) tks) tn
        rw [htk, List.nodup_append] at hn2
        exact hn2.2.2 t z t (by simp) rfl
      have til : (tks.take i).length ≤ 64 := by rw [List.length_take]; omega
      walk_at "rd"
      refine rSetA_d (DPut.k (k := .inr (S t)) hp' (by rw [manyK_len]; exact Nat.lt_of_le_of_lt til (by decide))) ⟨c.trans (Chg.upd (by simp) (mut_dK hp')), ?_⟩
      rw [putK_new _ (manyK_none hnt), htk, manyK_snoc]
      exact upd_same
    · rintro σ H4 ⟨⟨c4, h4⟩, v4, rfl⟩
      rw [List.length_map, List.take_length] at h4
      show Rz { nx := fun x H' => Q V.non H', rt := Q } _ _
      rw [hRz]
      clear hRz
      have o4 : ∀ H', Chg [p] H4 H' → Same H H' := fun H' c => old H' (c4.trans c)
      walk_at "rd"
      refine rAny_l (.inl (.inl (old H4 c4 _ _ hr0))) (forW_list (xs := rows.map V.int) (fun i σ H' => (Chg [p] H4 H' ∧ H' p = some (.dK (manyK tks (cntG (ownV rows tks kvs) (rows.take i))))) ∧ ∃ v5, σ = [some (V.ref d), some (V.ref rp), some (V.ref tp), some (V.ref p), v4, v5]) ⟨⟨Chg.refl _, h4⟩, none, rfl⟩ (fun i σ H' _ ⟨⟨c, _⟩, _⟩ => .inl (.inl (o4 H' c _ _ hr0))) ?_ ?_)
      · rintro i x σ H' hx ⟨⟨c, hp'⟩, v5, rfl⟩
        rw [List.getElem?_map] at hx
        obtain ⟨r, hr1, rfl⟩ := Option.map_eq_some_iff.mp hx
        have hrk : rows.take (i + 1) = rows.take i ++ [r] := by rw [List.take_add_one, hr1]; rfl
        have rin : r ∈ rows := List.mem_of_getElem? hr1
        obtain ⟨t, ht, eo, _⟩ := own_some (kvs := kvs) rn t0 tn rin
        have gd : DGet H' d (.int r) (some (.str (S t))) := by
          have := DGet.k (k := .inl r) (o4 H' c _ _ hd0)
          rw [ownK_some (pm.mem_iff.mpr rin), eo] at this
          exact this
        have gm : DGet H' p (.str (S t)) (some (.int (cntG (ownV rows tks kvs) (rows.take i) t : Nat))) := by
          have := DGet.k (k := .inr (S t)) hp'
          rw [manyK_some ht] at this
          exact this
        walk_at "rd"
        refine rIxA_d gd (rNin_d gm ⟨_, rfl, ?_⟩)
        rw [if_neg (by simp)]
        refine rIxA_d gd (rIxA_d gm ?_)
        walk_at "rd"
        refine rIxA_d gd (rSetA_d (DPut.k (k := .inr (S t)) hp' (by rw [manyK_len]; exact Nat.lt_trans t64 (by decide))) ⟨c.trans (Chg.upd (by simp) (mut_dK hp')), ?_⟩)
        rw [show ((cntG (ownV rows tks kvs) (rows.take i) t : Nat) : Int) + 1 = ((cntG (ownV rows tks kvs) (rows.take i) t + 1 : Nat) : Int) by omega, manyK_put ht, hrk, manyK_congr (g := cntG (ownV rows tks kvs) (rows.take i ++ [r])) (fun u hu => ?_)]
        · exact upd_same
        · rw [cntG_append, cntG_cons, eo]
          show _ = _ + (_ + 0)
          by_cases z : u = t
          · rw [if_pos z, if_pos (by rw [z]), z]
          · rw [if_neg z, if_neg (fun y => z (S_inj (V.str.inj y)).symm)]; omega
      · rintro σ H' ⟨⟨c, hp'⟩, v5, rfl⟩
        rw [List.length_map, List.take_length] at hp'
        walk_at "rd"
        have hv := manyK_vals tks (cntG (ownV rows tks kvs) rows)
        have hne : (tks.map fun t => (cntG (ownV rows tks kvs) rows t : Int)) ≠ [] := fun z => t0 (List.map_eq_nil_iff.mp z)
        have two : ∀ m ∈ (tks.map fun t => (cntG (ownV rows tks kvs) rows t : Int)), m = ((rows.length / tks.length : Nat) : Int) ∨ m = ((rows.length / tks.length : Nat) : Int) + 1 := fun m hm => by
          obtain ⟨t, ht, rfl⟩ := List.mem_map.mp hm
          rw [cnt_own rn t0 tn ht]
          rcases shM_two (rows := rows) (kvs := kvs) tn ht with e | e
          · left; rw [e]
          · right; rw [e]; rfl
        refine ⟨_, hp', _, hv, hne, fun m hm _ => ⟨_, hp', _, hv, hne, fun m' hm' _ => ?_⟩⟩
        have e1 := two m hm
        have e2 := two m' hm'
        rw [show decide (m - m' ≤ 1) = true from decide_eq_true (by omega)]
        exact q H' (o4 H' c)
theorem ok_l_rival (T : Txt K mg a) : FnOk P w K mg base CX0 2 a.f_l_rival a.d_l_rival ["_law_cell", "_law_rows_here", "_law_takers_here", "_law_had_here"] sp_rival := by
  refine T.F_l_rival.ok sc_l_rival (fun vs H Q E h => ?_) (fun cdv A0 outer s0 H vs Q E hr h => ?_)
  · obtain ⟨c, rp, tp, dp, rows, tks, kvs, rfl, _⟩ := h
    rfl
  · obtain ⟨c, rp, tp, dp, rows, tks, kvs, rfl, hr0, ht0, hd0, hk, h64, t64, tn, t0, rn, q⟩ := h
    refine ⟨_, (pss_cons (ps_set (i := 4) sc_l_rival.nd rfl (Or.inl rfl) (pe_op op_fdiv (pe_callB (call_lenK (K := K)) (by rfl) T.n_len boot_len (pa_cons (pv 1) pa_nil)) (pe_callB (call_lenK (K := K)) (by rfl) T.n_len boot_len (pa_cons (pv 2) pa_nil))))
      (pss_cons (ps_set (i := 5) sc_l_rival.nd rfl (Or.inl rfl) (pe_op op_sub (pe_callB (call_lenK (K := K)) (by rfl) T.n_len boot_len (pa_cons (pv 1) pa_nil)) (pe_op op_mulA (pv 4) (pe_callB (call_lenK (K := K)) (by rfl) T.n_len boot_len (pa_cons (pv 2) pa_nil)))))
      (pss_cons (ps_set (i := 6) sc_l_rival.nd rfl (Or.inl rfl) (pe_op op_mod (pe_call (ok_l_mixed T) (hr.mono (by decide)) rfl T.m_l_mixed T.F_l_mixed.kp T.b_l_mixed .nil pass0 (pa_cons (pv 0) (pa_cons pe_int pa_nil))) (pe_callB (call_lenK (K := K)) (by rfl) T.n_len boot_len (pa_cons (pv 2) pa_nil))))
      (pss_cons (ps_set (i := 7) sc_l_rival.nd rfl (Or.inl rfl) (pe_op (op_plusK (K := K)) (pe_slice (sl_anyK (K := K)) (pv 2) (po_some (pv 6)) po_none) (pe_slice (sl_anyK (K := K)) (pv 2) po_none (po_some (pv 6)))))
      (pss_cons (ps_set (i := 8) sc_l_rival.nd rfl (Or.inr rfl) pe_dnewK)
      (pss_cons (ps_for PassesOwn.never rfl (pi_enumerate rfl T.n_enumerate (pa_cons (pv 7) pa_nil)) (pg_tupK (K := K) (n := 2) rfl (pgs_cons (pg_name (i := 9) sc_l_rival.nd rfl (Or.inl rfl)) (pgs_cons (pg_name (i := 10) sc_l_rival.nd rfl (Or.inl rfl)) pgs_nil))) (pss_one (ps_asg (pe_op (op_plusK (K := K)) (pv 4) (pe_callTy (call_intK (K := K)) rfl T.n_int boot_int (pa_cons (pe_cmpR op_ltK (pv 9) (pv 5) (nomark _)) pa_nil))) (pg_sub (pv 8) (pv 10) (set_any (hU1 hr))))))
      (pss_cons (ps_set (i := 11) sc_l_rival.nd rfl (Or.inl rfl) pe_dnewK)
      (pss_cons (ps_for PassesOwn.never rfl (pi_enumerate rfl T.n_enumerate (pa_cons (pv 1) pa_nil)) (pg_tupK (K := K) (n := 2) rfl (pgs_cons (pg_name (i := 9) sc_l_rival.nd rfl (Or.inl rfl)) (pgs_cons (pg_name (i := 12) sc_l_rival.nd rfl (Or.inl rfl)) pgs_nil))) (pss_cons (ps_set (i := 13) sc_l_rival.nd rfl (Or.inl rfl) (pe_dget1 (hU1 hr) (pv 3) (pv 12) ⟨rfl, rfl, rfl, rfl⟩))
      (pss_cons (ps_asg pe_non (pg_sub (pv 11) (pv 12) (set_any (hU1 hr))))
      (pss_one (ps_if (PW.pt (pw_and (pt_cmpR (op_inN (K := K) (hU1 hr)) (pv 13) (pv 8) (by rfl)) (pw_and (pt_cmpR op_gtA (pe_ix (ix_anyK (K := K) (hU1 hr)) (pv 8) (pv 13) (fun _ _ => rfl)) pe_int (nomark _)) (pw_and1 (pt_cmpR op_gtA (pe_op op_mod (pe_call (ok_l_mixed T) (hr.mono (by decide)) rfl T.m_l_mixed T.F_l_mixed.kp T.b_l_mixed .nil pass0 (pa_cons (pv 0) (pa_cons (pe_op (op_plusK (K := K)) pe_int (pv 9)) pa_nil))) pe_int) pe_int (nomark _)))))) (pss_cons (ps_asg (pv 13) (pg_sub (pv 11) (pv 12) (set_any (hU1 hr))))
      (pss_one (ps_asg (pe_op op_sub (pe_ix (ix_anyK (K := K) (hU1 hr)) (pv 8) (pv 13) (fun _ _ => rfl)) pe_int) (pg_sub (pv 8) (pv 13) (set_any (hU1 hr)))))) pss_nil)))))
      (pss_cons (ps_for PassesOwn.never rfl (pi_anyK (K := K) (pv 1)) (pg_name (i := 12) sc_l_rival.nd rfl (Or.inl rfl)) (pss_one (ps_if (pt_cmp (pc_isN (pe_ix (ix_anyK (K := K) (hU1 hr)) (pv 11) (pv 12) (fun _ _ => rfl)))) (pss_cons (ps_set (i := 10) sc_l_rival.nd rfl (Or.inl rfl) (pe_ix (ix_anyK (K := K) (hU1 hr)) (pe_compIf ["_law_cell", "_law_rows_here", "_law_takers_here", "_law_had_here", "_law_low", "_law_more", "_law_cut", "_law_order", "_law_room", "_law_k", "_law_taker", "_law_rival_here", "_law_row", "_law_owner"] ["_law_cell", "_law_rows_here", "_law_takers_here", "_law_had_here", "_law_low", "_law_more", "_law_cut", "_law_order", "_law_room", "_law_k", "_law_taker", "_law_rival_here", "_law_row", "_law_owner"] (defScope s_l_rival) (by exact ⟨rfl, by decide +kernel, by decide +kernel, by decide +kernel, by decide +kernel, by decide +kernel, by decide +kernel, by decide +kernel, by decide +kernel⟩) (pi_anyK (K := K) (pv 7)) (fun C₁ s₁ H₁ f₁ => (pt_cmpR op_gtA (pe_ix (ix_anyK (K := K) (hU1 hr)) (pv 9) (pv 0) (fun _ _ => rfl)) pe_int (nomark _))) (fun C₁ s₁ H₁ f₁ => (pv 0))) pe_int (fun _ _ => rfl)))
      (pss_cons (ps_asg (pv 10) (pg_sub (pv 11) (pv 12) (set_any (hU1 hr))))
      (pss_one (ps_asg (pe_op op_sub (pe_ix (ix_anyK (K := K) (hU1 hr)) (pv 8) (pv 10) (fun _ _ => rfl)) pe_int) (pg_sub (pv 8) (pv 10) (set_any (hU1 hr))))))) pss_nil)))
      (pss_one (ps_ret (pv 11)))))))))))), ?_⟩
    have tpos : 0 < tks.length := List.length_pos_iff.mpr t0
    refine cut5 fun Rz hRz => ?_
    walk_at "rd"
    have R0 : SqL K H rp (rows.map V.int) := .inl (.inl hr0)
    have T0 : SqL K H tp (txV tks) := .inl (.inl ht0)
    refine rLen_l R0 (rLen_l T0 ⟨_, rfl, _, rfl, by rw [List.length_map]; omega, by rw [List.length_map]; omega, rLen_l R0 (rLen_l T0 ?_)⟩)
    rw [List.length_map, List.length_map]
    have elow : (rows.length : Int) / (tks.length : Int) = ((rows.length / tks.length : Nat) : Int) := by omega
    have hdm := Nat.div_add_mod rows.length tks.length
    have emor : (rows.length : Int) - ((rows.length / tks.length : Nat) : Int) * (tks.length : Int) = ((rows.length % tks.length : Nat) : Int) := by
      have : ((tks.length * (rows.length / tks.length) + rows.length % tks.length : Nat) : Int) = rows.length := by rw [hdm]
      rw [Int.natCast_add, Int.natCast_mul, Int.mul_comm] at this
      omega
    rw [elow, rMul_ii]
    refine ⟨.inr ⟨by omega, by omega⟩, _, rfl, _, rfl, ?_⟩
    rw [emor]
    refine rLen_l T0 ⟨_, rfl, by rw [List.length_map]; omega, ?_⟩
    rw [List.length_map]
    have b4 := Int.emod_nonneg (mixN c 48) (show (tks.length : Int) ≠ 0 by omega)
    obtain ⟨k, hk'⟩ : ∃ k : Nat, mixN c 48 % (tks.length : Int) = k := ⟨(mixN c 48 % (tks.length : Int)).toNat, by omega⟩
    rw [hk']
    refine rSlA_l T0 fun p2 hp2 => ?_
    rw [cutV_suf]
    have s2 : Same H (upd H p2 (.lst ((txV tks).drop k))) := Same.upd hp2
    have a2 : upd H p2 (.lst ((txV tks).drop k)) p2 = some (.lst (txV (tks.drop k))) := by unfold txV; rw [List.map_drop]; exact upd_same
    generalize upd H p2 (.lst ((txV tks).drop k)) = H2 at s2 a2 ⊢
    refine rSlA_l (s2.seq T0) fun p3 hp3 => ?_
    rw [cutV_pre]
    have s3 : Same H2 (upd H2 p3 (.lst ((txV tks).take k))) := Same.upd hp3
    have a3 : upd H2 p3 (.lst ((txV tks).take k)) p3 = some (.lst (txV (tks.take k))) := by unfold txV; rw [List.map_take]; exact upd_same
    generalize upd H2 p3 (.lst ((txV tks).take k)) = H3 at s3 a3 ⊢
    refine rPlus_l (.inl (.inl (s3 _ _ a2))) (.inl (.inl a3)) (by simp only [txV, List.length_map, List.length_drop, List.length_take]; exact Nat.le_trans (show _ ≤ 200 by omega) (by decide)) fun op hp4 => ?_
    obtain ⟨ord, hord⟩ : ∃ ord, ord = tks.drop k ++ tks.take k := ⟨_, rfl⟩
    have s4 : Same H3 (upd H3 op (.lst (txV ord))) := Same.upd hp4
    have a4 : upd H3 op (.lst (txV ord)) op = some (.lst (txV ord)) := upd_same
    rw [show txV (tks.drop k) ++ txV (tks.take k) = txV ord by rw [hord]; unfold txV; rw [List.map_append]]
    generalize upd H3 op (.lst (txV ord)) = H4 at s4 a4 ⊢
    have pm : ord.Perm tks := by rw [hord]; exact List.perm_append_comm.trans (by rw [List.take_append_drop])
    have ond : ord.Nodup := pm.nodup_iff.mpr tn
    have ol : ord.length < 64 := by rw [pm.length_eq]; exact t64
    clear hord a3 a2
    intro p hp
    have s04 := s2.trans (s3.trans s4)
    have s5 : Same H4 (upd H4 p (.dK [])) := Same.upd hp
    have a5 : upd H4 p (.dK []) p = some (.dK []) := upd_same
    generalize upd H4 p (.dK []) = H5 at s5 a5 ⊢
    have s05 := s04.trans s5
    have hp0 : H p = none := same_back s04 hp
    have o5 := s5 _ _ a4
    have npo : op ≠ p := ne_of_none a4 hp
    obtain ⟨low, hlow⟩ : ∃ low, rows.length / tks.length = low := ⟨_, rfl⟩
    obtain ⟨more, hmor⟩ : ∃ more, rows.length % tks.length = more := ⟨_, rfl⟩
    have fsum := fS_sum (n := rows.length) ond pm tpos
    have ffew := fS_few (low := rows.length / tks.length) (more := rows.length % tks.length) ond pm
    rw [hlow, hmor] at q ffew fsum ⊢
    clear emor elow hdm hlow hmor
    rw [hRz]
    clear hRz
    refine cut1 fun Rz hRz => ?_
    walk_at "rd"
    refine ⟨⟨_, .inl (.inl o5)⟩, forW_enum (xs := txV ord) (fun i σ H' => (Chg [p] H5 H' ∧ H' p = some (.dK (shK low more (ord.take i)))) ∧ ∃ v9 v10, σ = [some (V.int c), some (V.ref rp), some (V.ref tp), some (V.ref dp), some (V.int (low : Nat)), some (V.int (more : Nat)), some (V.int (k : Nat)), some (V.ref op), some (V.ref p), v9, v10, none, none, none]) ⟨⟨Chg.refl _, a5⟩, none, none, rfl⟩ (fun i σ H' _ ⟨⟨c, _⟩, _⟩ => .inl (.inl (c.keep _ _ o5 (by simp; exact npo)))) ?_ ?_⟩
    · rintro i x Tp σ H' hx hT ⟨⟨c, hp'⟩, v9, v10, rfl⟩
      rw [List.getElem?_map] at hx
      obtain ⟨t, ht, rfl⟩ := Option.map_eq_some_iff.mp hx
      have htk : ord.take (i + 1) = ord.take i ++ [t] := by rw [List.take_add_one, ht]; rfl
      have hil := (List.getElem?_eq_some_iff.mp ht).1
      have hnt : t ∉ ord.take i := fun z => by
        have hn2 := List.Nodup.sublist (List.take_sublist (i + 1) ord) ond
        rw [htk, List.nodup_append] at hn2
        exact hn2.2.2 t z t (by simp) rfl
      have til : (ord.take i).length = i := by rw [List.length_take]; omega
      have s6 : Same H' (upd H' Tp (.tup [.int (i : Nat), .str (S t)])) := Same.upd hT
      have a6 : upd H' Tp (.tup [.int (i : Nat), .str (S t)]) Tp = some (.tup [.int (i : Nat), .str (S t)]) := upd_same
      generalize upd H' Tp (.tup [.int (i : Nat), .str (S t)]) = H6 at s6 a6 ⊢
      have p6 := s6 _ _ hp'
      refine ⟨Tp, _, rfl, .inl (.inl a6), rfl, ?_⟩
      walk_at "rd"
      refine rSetA_d (DPut.k (k := .inr (S t)) p6 (by rw [shK_len, til]; exact Nat.lt_of_lt_of_le (show i < 64 by omega) (by decide))) ⟨c.trans ((Chg.of_same s6).trans (Chg.upd (by simp) (mut_dK p6))), ?_⟩
      rw [putK_new _ (shK_none hnt), htk, shK_snoc, til, show ((low : Int) + if (i : Int) < (more : Int) then 1 else 0) = (if i < more then (low : Int) + 1 else low) by split <;> split <;> omega]
      exact upd_same
    · rintro σ H6 ⟨⟨c6, h6⟩, v9, v10, rfl⟩
      rw [List.length_map, List.take_length] at h6
      show Rz { nx := fun x H' => Q V.non H', rt := Q } _ _
      rw [hRz]
      clear hRz
      have room := fS_room ond pm (by omega) h6
      have s06 : Same H H6 := fun b o hb => c6.keep _ _ (s05 _ _ hb) (by simp; exact ne_of_none hb hp0)
      have o6 : H6 op = some (.lst (txV ord)) := c6.keep _ _ o5 (by simp; exact npo)
      clear h6 c6 o5 a5 s05 s5 a4 s04
      refine cut2 fun Rz hRz => ?_
      walk_at "rd"
      intro q2 hq2
      have npq : p ≠ q2 := by
        obtain ⟨_, z, _⟩ := room
        exact ne_of_none z hq2
      have nq0 : H q2 = none := same_back s06 hq2
      have s7 : Same H6 (upd H6 q2 (.dK [])) := Same.upd hq2
      have a7 : upd H6 q2 (.dK []) q2 = some (.dK (mapK (rows.take 0) fun _ => .non)) := upd_same
      generalize upd H6 q2 (.dK []) = H7 at s7 a7 ⊢
      have s07 := s06.trans s7
      have rv0 : RivG H7 q2 p (rows.take 0) tks (fS low more ord) (fun _ => .non) (fS low more ord) := ⟨a7, room.same s7, fun r hr => by simp at hr, fun t ht => rfl⟩
      have old : ∀ H', Chg [q2, p] H7 H' → Same H H' := fun H' c b o hb => c.keep _ _ (s07 _ _ hb) (by
        simp only [List.mem_cons, List.not_mem_nil, or_false, not_or]
        exact ⟨ne_of_none hb nq0, ne_of_none hb hp0⟩)
      refine ⟨⟨_, .inl (.inl (s07 _ _ hr0))⟩, forW_enum (xs := rows.map V.int) (fun i σ H' => (Chg [q2, p] H7 H' ∧ ∃ g rm, RivG H' q2 p (rows.take i) tks (fS low more ord) g rm) ∧ ∃ v9 v12 v13, σ = [some (V.int c), some (V.ref rp), some (V.ref tp), some (V.ref dp), some (V.int (low : Nat)), some (V.int (more : Nat)), some (V.int (k : Nat)), some (V.ref op), some (V.ref p), v9, v10, some (V.ref q2), v12, v13]) ⟨⟨Chg.refl _, _, _, rv0⟩, v9, none, none, rfl⟩ (fun i σ H' _ ⟨⟨c, _⟩, _⟩ => .inl (.inl (old H' c _ _ hr0))) ?_ ?_⟩
      · rintro i x Tp σ H' hx hT ⟨⟨c, g, rm, rv⟩, v9, v12, v13, rfl⟩
        rw [List.getElem?_map] at hx
        obtain ⟨r, hr1, rfl⟩ := Option.map_eq_some_iff.mp hx
        have hrk : rows.take (i + 1) = rows.take i ++ [r] := by rw [List.take_add_one, hr1]; rfl
        have hil := (List.getElem?_eq_some_iff.mp hr1).1
        have nd1 := List.Nodup.sublist (List.take_sublist (i + 1) rows) rn
        have hnr : r ∉ rows.take i := fun z => by
          rw [hrk, List.nodup_append] at nd1
          exact nd1.2.2 r z r (by simp) rfl
        have til : (rows.take i).length ≤ 64 := by rw [List.length_take]; omega
        have til1 : (rows.take (i + 1)).length ≤ 64 := by rw [List.length_take]; omega
        have sT : Same H' (upd H' Tp (.tup [.int (i : Nat), .int r])) := Same.upd hT
        have aT : upd H' Tp (.tup [.int (i : Nat), .int r]) Tp = some (.tup [.int (i : Nat), .int r]) := upd_same
        generalize upd H' Tp (.tup [.int (i : Nat), .int r]) = H8 at sT aT ⊢
        refine ⟨Tp, _, rfl, .inl (.inl aT), rfl, ?_⟩
        have c8 := c.trans (Chg.of_same sT)
        have d8 := old H8 c8 _ _ hd0
        walk_at "rd"
        refine ⟨.inl ⟨kvs, .inl d8⟩, _, DGet.k (k := .inl r) d8, ?_⟩
        have hns : NS ((valV kvs (Sum.inl r)).getD V.non) := hk.ns r
        generalize (valV kvs (Sum.inl r)).getD V.non = v at hns ⊢
        refine (rv.same sT).put til hnr npq fun H9 g' c9 rv9 hg' => ?_
        rw [← hrk] at rv9
        have c89 := c8.trans c9
        have fin : Chg [q2, p] H7 H9 ∧ ∃ g rm, RivG H9 q2 p (rows.take (i + 1)) tks (fS low more ord) g rm := ⟨c89, _, _, rv9⟩
        rcases hns with rfl | ⟨l, rfl⟩
        · obtain ⟨rk, e, _⟩ := rv9.p
          refine rInN_non e ⟨_, rfl, ?_⟩
          rw [if_neg (by decide)]
          exact fin
        · by_cases hl : l ∈ tks
          · refine rInN_d (rv9.p.get hl) ⟨_, rfl, ?_⟩
            rw [if_pos (by rfl)]
            refine rIxA_d (rv9.p.get hl) ?_
            walk_at "rd"
            refine ite2 (fun hpos => ite2 (fun _ => ?_) (fun _ => fin)) (fun _ => fin)
            exact rv9.set til1 nd1 (by rw [hrk]; simp) hg' hl (by omega) npq fun HA cA rvA => ⟨c89.trans cA, _, _, rvA⟩
          · refine rInN_d (rv9.p.getN hl) ⟨_, rfl, ?_⟩
            rw [if_neg (by decide)]
            exact fin
      · rintro σ H8 ⟨⟨c8, g, rm, rv8⟩, v9, v12, v13, rfl⟩
        rw [List.length_map, List.take_length] at rv8
        show Rz { nx := fun x H' => Q V.non H', rt := Q } _ _
        rw [hRz]
        clear hRz
        have old8 : ∀ H', Chg [q2, p] H8 H' → Same H H' := fun H' c => old H' (c8.trans c)
        have o8 : ∀ H', Chg [q2, p] H8 H' → H' op = some (.lst (txV ord)) := fun H' c => (c8.trans c).keep _ _ (s7 _ _ o6) (by
          simp only [List.mem_cons, List.not_mem_nil, or_false, not_or]
          exact ⟨ne_of_none o6 hq2, npo⟩)
        walk_at "rd"
        refine rAny_l (.inl (.inl (old8 H8 (Chg.refl _) _ _ hr0))) (forW_list (xs := rows.map V.int) (fun i σ H' => (Chg [q2, p] H8 H' ∧ ∃ g rm, RivG H' q2 p rows tks (fS low more ord) g rm ∧ ∀ r ∈ rows.take i, g r ≠ .non) ∧ ∃ v10 v12, σ = [some (V.int c), some (V.ref rp), some (V.ref tp), some (V.ref dp), some (V.int (low : Nat)), some (V.int (more : Nat)), some (V.int (k : Nat)), some (V.ref op), some (V.ref p), v9, v10, some (V.ref q2), v12, v13]) ⟨⟨Chg.refl _, g, rm, rv8, fun r hr => by simp at hr⟩, v10, v12, rfl⟩ (fun i σ H' _ ⟨⟨c, _⟩, _⟩ => .inl (.inl (old8 H' c _ _ hr0))) ?_ ?_)
        · rintro i x σ H' hx ⟨⟨c9, g, rm, rv, hd⟩, v10, v12, rfl⟩
          rw [List.getElem?_map] at hx
          obtain ⟨r, hr1, rfl⟩ := Option.map_eq_some_iff.mp hx
          have hrk : rows.take (i + 1) = rows.take i ++ [r] := by rw [List.take_add_one, hr1]; rfl
          have rin : r ∈ rows := List.mem_of_getElem? hr1
          have gq : DGet H' q2 (.int r) (some (g r)) := by
            have := DGet.k (k := .inl r) rv.q
            rw [mapK_some rin] at this
            exact this
          walk_at "rd"
          refine rIxA_d gq (ite2 (fun hn => ?_) (fun hn => ⟨c9, g, ⟨rm, rv⟩, fun x hx => ?_⟩))
          · obtain ⟨t1, ht1, hp1⟩ := rv.room tn fsum rin hn
            have oo : SqL K H' op (txV ord) := .inl (.inl (o8 H' c9))
            refine rAny_l oo (compW_tF oo (by omega) (fun t => decide (0 < rm t)) (fun t H2 ht s Qt qt => ?_) fun Lk H2 hLk s2 h2 => ?_)
            · walk_at "rd"
              refine rIxA_d ((rv.p.same s).get (pm.mem_iff.mp ht)) ?_
              walk_at "rd"
              have := qt H2 (Same.refl _)
              rw [show decide ((0 : Int) < (rm t : Nat)) = decide (0 < rm t) by simp only [Int.natCast_pos]]
              exact this
            obtain ⟨t, ts, ets⟩ : ∃ t ts, ord.filter (fun t => decide (0 < rm t)) = t :: ts := by
              cases e : ord.filter (fun t => decide (0 < rm t)) with
              | nil =>
                have : t1 ∈ ord.filter (fun t => decide (0 < rm t)) := List.mem_filter.mpr ⟨pm.mem_iff.mpr ht1, by simpa using hp1⟩
                rw [e] at this; cases this
              | cons t ts => exact ⟨t, ts, rfl⟩
            have tm := List.mem_filter.mp (show t ∈ ord.filter (fun t => decide (0 < rm t)) by rw [ets]; exact List.mem_cons_self)
            rw [ets] at h2
            refine rIxA_l (v := .str (S t)) (.inl (.inl h2)) (atI_get? (by decide) rfl) ?_
            refine (rv.same s2).set (by omega) rn rin hn (pm.mem_iff.mp tm.1) (by simpa using tm.2) npq fun HA cA rvA => ⟨c9.trans ((Chg.of_same s2).trans cA), _, ⟨_, rvA⟩, fun x hx => ?_⟩
            unfold setG
            rw [hrk] at hx
            by_cases z : x = r
            · rw [if_pos z]; exact fun y => nomatch y
            · rw [if_neg z]
              rcases List.mem_append.mp hx with hx | hx
              · exact hd x hx
              · exact absurd (List.mem_singleton.mp hx) z
          · rw [hrk] at hx
            rcases List.mem_append.mp hx with hx | hx
            · exact hd x hx
            · rw [List.mem_singleton.mp hx]; exact hn
        · rintro σ H' ⟨⟨c9, g, rm, rv, hd⟩, v10, v12, rfl⟩
          rw [List.length_map, List.take_length] at hd
          walk_at "rd"
          refine q q2 H' g (fS low more ord) nq0 (old8 H' c9) rv.q (fun r hr => (rv.v r hr).resolve_left (hd r hr)) (fun t ht => ?_) (fun t _ => fS_two _ _ _ t) ffew
          have := rv.s t ht
          omega

theorem ok_law (T : Txt K mg a) : FnOk P w K mg base CX0 5 a.f_law a.d_law ["_law_script"] (sp_law K) := by
  refine T.F_law.ok sc_law (fun vs H Q E h => ?_) (fun cdv A0 outer s0 H vs Q E hr h => ?_)
  · obtain ⟨p, ns, rfl, _⟩ := h
    rfl
  · obtain ⟨p, ns, rfl, hS, hlen, q⟩ := h
    refine ⟨_, (pss_cons (ps_set (i := 1) sc_law.nd rfl (Or.inl rfl) (pe_call (ok_l_names T) (hr.mono (by decide)) rfl T.m_l_names T.F_l_names.kp T.b_l_names .nil pass0 (pa_cons (pe_call (ok_l_cell_at T) (hr.mono (by decide)) rfl T.m_l_cell_at T.F_l_cell_at.kp T.b_l_cell_at .nil pass0 (pa_cons (pv 0) (pa_cons pe_int pa_nil))) (pa_cons pe_int pa_nil))))
      (pss_cons (ps_set (i := 2) sc_law.nd rfl (Or.inl rfl) (pe_call (ok_l_cell_at T) (hr.mono (by decide)) rfl T.m_l_cell_at T.F_l_cell_at.kp T.b_l_cell_at .nil pass0 (pa_cons (pv 0) (pa_cons pe_int pa_nil))))
      (pss_cons (ps_set (i := 3) sc_law.nd rfl (Or.inl rfl) (pe_call (ok_l_rows T) (hr.mono (by decide)) rfl T.m_l_rows T.F_l_rows.kp T.b_l_rows .nil pass0 (pa_cons (pv 2) (pa_cons (pe_op op_mod (pe_call (ok_l_mixed T) (hr.mono (by decide)) rfl T.m_l_mixed T.F_l_mixed.kp T.b_l_mixed .nil pass0 (pa_cons (pv 2) (pa_cons pe_int pa_nil))) pe_int) pa_nil))))
      (pss_cons (ps_set (i := 4) sc_law.nd rfl (Or.inl rfl) (pe_call (ok_l_cell_at T) (hr.mono (by decide)) rfl T.m_l_cell_at T.F_l_cell_at.kp T.b_l_cell_at .nil pass0 (pa_cons (pv 0) (pa_cons pe_int pa_nil))))
      (pss_cons (ps_set (i := 5) sc_law.nd rfl (Or.inl rfl) (pe_call (ok_l_takers T) (hr.mono (by decide)) rfl T.m_l_takers T.F_l_takers.kp T.b_l_takers .nil pass0 (pa_cons (pv 4) (pa_cons (pv 1) (pa_cons (pe_op (op_plusK (K := K)) pe_int (pe_op op_mod (pe_call (ok_l_mixed T) (hr.mono (by decide)) rfl T.m_l_mixed T.F_l_mixed.kp T.b_l_mixed .nil pass0 (pa_cons (pv 4) (pa_cons pe_int pa_nil))) pe_int)) pa_nil)))))
      (pss_cons (ps_set (i := 6) sc_law.nd rfl (Or.inr rfl) (pe_call (ok_l_had T) (hr.mono (by decide)) rfl T.m_l_had T.F_l_had.kp T.b_l_had .nil pass0 (pa_cons (pv 0) (pa_cons pe_int (pa_cons (pv 3) (pa_cons (pv 1) pa_nil))))))
      (pss_cons (ps_set (i := 7) sc_law.nd rfl (Or.inr rfl) (pe_call (ok_dealt T) (hr.mono (by decide)) rfl T.m_dealt T.F_dealt.kp T.b_dealt .nil pass0 (pa_cons (pe_callTy (call_listK (K := K)) rfl T.n_list boot_list (pa_cons (pv 3) pa_nil)) (pa_cons (pe_callTy (call_listK (K := K)) rfl T.n_list boot_list (pa_cons (pv 5) pa_nil)) (pa_cons (pe_callTy (call_dictK (K := K)) rfl T.n_dict boot_dict (pa_cons (pv 6) pa_nil)) pa_nil)))))
      (pss_cons (ps_if (pt_not (pt_truthK (K := K) (pe_call (ok_l_even T) (hr.mono (by decide)) rfl T.m_l_even T.F_l_even.kp T.b_l_even .nil pass0 (pa_cons (pv 7) (pa_cons (pv 3) (pa_cons (pv 5) pa_nil)))) (by intro _; rfl))) (pss_one (ps_ret pe_bl)) pss_nil)
      (pss_cons (ps_set (i := 8) sc_law.nd rfl (Or.inl rfl) (pe_call (ok_moved T) (hr.mono (by decide)) rfl T.m_moved T.F_moved.kp T.b_moved .nil pass0 (pa_cons (pe_callTy (call_dictK (K := K)) rfl T.n_dict boot_dict (pa_cons (pv 6) pa_nil)) (pa_cons (pe_callTy (call_dictK (K := K)) rfl T.n_dict boot_dict (pa_cons (pv 7) pa_nil)) pa_nil))))
      (pss_cons (ps_set (i := 9) sc_law.nd rfl (Or.inl rfl) (pe_call (ok_paper_of T) (hr.mono (by decide)) rfl T.m_paper_of T.F_paper_of.kp T.b_paper_of .nil pass0 (pa_cons (pe_callTy (call_listK (K := K)) rfl T.n_list boot_list (pa_cons (pv 3) pa_nil)) (pa_cons (pe_callTy (call_listK (K := K)) rfl T.n_list boot_list (pa_cons (pv 5) pa_nil)) (pa_cons (pe_callTy (call_dictK (K := K)) rfl T.n_dict boot_dict (pa_cons (pv 6) pa_nil)) pa_nil)))))
      (pss_cons (ps_if (PW.pt (pw_or (pt_not (pt_truthK (K := K) (pe_call (ok_l_plain T) (hr.mono (by decide)) rfl T.m_l_plain T.F_l_plain.kp T.b_l_plain .nil pass0 (pa_cons (pv 8) pa_nil)) (by intro _; rfl))) (pw_or1 (pt_not (pt_truthK (K := K) (pe_call (ok_l_plain T) (hr.mono (by decide)) rfl T.m_l_plain T.F_l_plain.kp T.b_l_plain .nil pass0 (pa_cons (pv 9) pa_nil)) (by intro _; rfl)))))) (pss_one (ps_ret pe_bl)) pss_nil)
      (pss_cons (ps_set (i := 10) sc_law.nd rfl (Or.inl rfl) (pe_callB (call_lenK (K := K)) (by rfl) T.n_len boot_len (pa_cons (pe_compIf ["_law_script", "_law_names_here", "_law_second", "_law_rows_here", "_law_third", "_law_takers_here", "_law_had_here", "_law_now", "_law_moves", "_law_paper", "_law_changed", "_law_kept", "_law_rival_here"] ["_law_script", "_law_names_here", "_law_second", "_law_rows_here", "_law_third", "_law_takers_here", "_law_had_here", "_law_now", "_law_moves", "_law_paper", "_law_changed", "_law_kept", "_law_rival_here"] (defScope s_law) (by exact ⟨rfl, by decide +kernel, by decide +kernel, by decide +kernel, by decide +kernel, by decide +kernel, by decide +kernel, by decide +kernel, by decide +kernel⟩) (pi_anyK (K := K) (pv 3)) (fun C₁ s₁ H₁ f₁ => (pt_cmpR (op_neK (K := K) (hU hr)) (pe_dget1 (hU1 hr) (pv 7) (pv 0) ⟨rfl, rfl, rfl, rfl⟩) (pe_ix (ix_anyK (K := K) (hU1 hr)) (pv 8) (pv 0) (fun _ _ => rfl)) (nomark _))) (fun C₁ s₁ H₁ f₁ => (pv 0))) pa_nil)))
      (pss_cons (ps_set (i := 11) sc_law.nd rfl (Or.inl rfl) (pe_callB (call_sumK (K := K)) (by rfl) T.n_sum boot_sum (pa_cons (pe_comp ["_law_script", "_law_names_here", "_law_second", "_law_rows_here", "_law_third", "_law_takers_here", "_law_had_here", "_law_now", "_law_moves", "_law_paper", "_law_changed", "_law_kept", "_law_rival_here"] ["_law_script", "_law_names_here", "_law_second", "_law_rows_here", "_law_third", "_law_takers_here", "_law_had_here", "_law_now", "_law_moves", "_law_paper", "_law_changed", "_law_kept", "_law_rival_here"] (defScope s_law) (by exact ⟨rfl, by decide +kernel, by decide +kernel, by decide +kernel, by decide +kernel, by decide +kernel, by decide +kernel, by decide +kernel, by decide +kernel⟩) (pi_anyK (K := K) (pv 9)) (fun C₁ s₁ H₁ f₁ => (pe_ix (ix_anyK (K := K) (hU1 hr)) (pv 0) pe_int (fun _ _ => rfl)))) pa_nil)))
      (pss_cons (ps_if (PW.pt (pw_or (pt_cmpR (op_neK (K := K) (hU hr)) (pe_callB (call_lenK (K := K)) (by rfl) T.n_len boot_len (pa_cons (pv 8) pa_nil)) (pv 10) (nomark _)) (pw_or1 (pt_cmpR (op_neK (K := K) (hU hr)) (pe_op (op_plusK (K := K)) (pv 10) (pv 11)) (pe_callB (call_lenK (K := K)) (by rfl) T.n_len boot_len (pa_cons (pv 3) pa_nil)) (nomark _))))) (pss_one (ps_ret pe_bl)) pss_nil)
      (pss_cons (ps_set (i := 12) sc_law.nd rfl (Or.inr rfl) (pe_call (ok_l_rival T) (hr.mono (by decide)) rfl T.m_l_rival T.F_l_rival.kp T.b_l_rival .nil pass0 (pa_cons (pv 4) (pa_cons (pv 3) (pa_cons (pv 5) (pa_cons (pv 6) pa_nil))))))
      (pss_cons (ps_if (pt_cmpR op_gtA (pv 10) (pe_callB (call_lenK (K := K)) (by rfl) T.n_len boot_len (pa_cons (pe_compIf ["_law_script", "_law_names_here", "_law_second", "_law_rows_here", "_law_third", "_law_takers_here", "_law_had_here", "_law_now", "_law_moves", "_law_paper", "_law_changed", "_law_kept", "_law_rival_here"] ["_law_script", "_law_names_here", "_law_second", "_law_rows_here", "_law_third", "_law_takers_here", "_law_had_here", "_law_now", "_law_moves", "_law_paper", "_law_changed", "_law_kept", "_law_rival_here"] (defScope s_law) (by exact ⟨rfl, by decide +kernel, by decide +kernel, by decide +kernel, by decide +kernel, by decide +kernel, by decide +kernel, by decide +kernel, by decide +kernel⟩) (pi_anyK (K := K) (pv 3)) (fun C₁ s₁ H₁ f₁ => (pt_cmpR (op_neK (K := K) (hU hr)) (pe_dget1 (hU1 hr) (pv 7) (pv 0) ⟨rfl, rfl, rfl, rfl⟩) (pe_ix (ix_anyK (K := K) (hU1 hr)) (pv 13) (pv 0) (fun _ _ => rfl)) (nomark _))) (fun C₁ s₁ H₁ f₁ => (pv 0))) pa_nil)) (nomark _)) (pss_one (ps_ret pe_bl)) pss_nil)
      (pss_one (ps_ret (pe_cmpR (op_eqK (K := K) (hU hr)) (pv 11) (pe_call (ok_l_most_kept T) (hr.mono (by decide)) rfl T.m_l_most_kept T.F_l_most_kept.kp T.b_l_most_kept .nil pass0 (pa_cons (pv 3) (pa_cons (pv 5) (pa_cons (pv 6) pa_nil)))) (nomark _)))))))))))))))))))), ?_⟩
    refine cut5 fun Rz hRz => ?_
    walk_at "rd"
    have m0 := mixN_bd (ns.getD 1 0) 40
    have m1 := mixN_bd (ns.getD 2 0) 47
    obtain ⟨rn, hrn⟩ : ∃ rn : Nat, mixN (ns.getD 1 0) 40 % 41 = rn := ⟨(mixN (ns.getD 1 0) 40 % 41).toNat, by omega⟩
    obtain ⟨tn, htn⟩ : ∃ tn : Nat, 1 + mixN (ns.getD 2 0) 47 % 10 = tn := ⟨(1 + mixN (ns.getD 2 0) 47 % 10).toNat, by omega⟩
    refine ⟨ns, hS, 12, rfl, by decide, fun Nm H1 hNm s1 h1 => ⟨ns, s1.seq hS, rn, hrn, by omega, fun Rw H2 rows hRw s2 rl rnd rbd h2 => ⟨ns, (s1.trans s2).seq hS, names6 (ns.getD 0 0) 12, tn, htn, s2 _ _ h1, by rw [names6_len]; omega, by rw [names6_len]; decide, fun Tk H3 tks hTk s3 tp h3 => ?_⟩⟩⟩
    have tnd : tks.Nodup := tp.nodup_iff.mpr (List.Nodup.sublist (List.take_sublist _ _) (names6_nd _ (by decide)))
    have nok := names6_ok (ns.getD 0 0) 12
    have tok : ∀ a ∈ tks, okS a := fun a ha => nok a (List.mem_of_mem_take (tp.mem_iff.mp ha))
    have tl : tks.length = tn := by rw [tp.length_eq, List.length_take, names6_len]; omega
    have t0 : tks ≠ [] := fun z => by rw [z] at tl; simp at tl; omega
    have s03 := s1.trans (s2.trans s3)
    have n3 := s3 _ _ (s2 _ _ h1)
    have r3 := s3 _ _ h2
    rw [hRz]
    clear hRz
    refine cut2 fun Rz hRz => ?_
    walk_at "rd"
    refine ⟨⟨ns, s03.seq hS⟩, rows, r3, _, n3, by rw [names6_len]; decide, by rw [names6_len]; decide, by omega, nok, fun Hd H4 kvs hHd s4 hk kl h4 => ?_⟩
    have r4 := s4 _ _ r3
    have t4 := s4 _ _ h3
    refine rListOf_l (.inl (.inl (.inl r4))) fun c1 hc1 => ?_
    have s5 : Same H4 (upd H4 c1 (.lst (rows.map V.int))) := Same.upd hc1
    have a5 : upd H4 c1 (.lst (rows.map V.int)) c1 = some (.lst (rows.map V.int)) := upd_same
    generalize upd H4 c1 (.lst (rows.map V.int)) = H5 at s5 a5 ⊢
    refine rListOf_l (.inl (.inl (.inl (s5 _ _ t4)))) fun c2 hc2 => ?_
    have s6 : Same H5 (upd H5 c2 (.lst (txV tks))) := Same.upd hc2
    have a6 : upd H5 c2 (.lst (txV tks)) c2 = some (.lst (txV tks)) := upd_same
    generalize upd H5 c2 (.lst (txV tks)) = H6 at s6 a6 ⊢
    refine ⟨kvs, s6 _ _ (s5 _ _ h4), fun c3 hc3 => ?_⟩
    have s7 : Same H6 (upd H6 c3 (.dK kvs)) := Same.upd hc3
    have a7 : upd H6 c3 (.dK kvs) c3 = some (.dK kvs) := upd_same
    generalize upd H6 c3 (.dK kvs) = H7 at s7 a7 ⊢
    refine ⟨c1, rfl, c2, rfl, rows, s7 _ _ (s6 _ _ a5), tks, s7 _ _ a6, kvs, a7, hk.k, by omega, by omega, tnd, rnd, tok, fun Nw H8 ord hNw s8 pm h8 => ?_⟩
    have s48 := s5.trans (s6.trans (s7.trans s8))
    have r8 := s48 _ _ r4
    have t8 := s48 _ _ t4
    have d8 := s48 _ _ h4
    clear a5 a6 a7 hc1 hc2 hc3 s5 s6 s7 s8 hNw
    rw [hRz]
    clear hRz
    refine cut1 fun Rz hRz => ?_
    walk_at "rd"
    refine ⟨rows, ord, tks, ⟨kvs, h8⟩, r8, t8, pm, rnd, tnd, t0, by omega, by omega, fun H9 s9 => ?_⟩
    have r9 := s9 _ _ r8
    have t9 := s9 _ _ t8
    have d9 := s9 _ _ d8
    have w9 := s9 _ _ h8
    clear r8 t8 d8 h8 s9 r4 t4 h4 r3 n3 s48
    have hkn : HadK (ownK rows tks kvs ord) := ⟨fun kv m => by
      obtain ⟨r, _, rfl⟩ := List.mem_map.mp m
      exact ⟨r, rfl⟩, fun kv m => by
      obtain ⟨r, _, rfl⟩ := List.mem_map.mp m
      exact own_ns hk.k r⟩
    have nl : (ownK rows tks kvs ord).length < 64 := by rw [ownK_len, pm.length_eq]; omega
    rw [hRz]
    clear hRz
    refine cut2 fun Rz hRz => ?_
    walk_at "rd"
    refine ⟨kvs, d9, fun e1 he1 => ?_⟩
    have sA : Same H9 (upd H9 e1 (.dK kvs)) := Same.upd he1
    have aA : upd H9 e1 (.dK kvs) e1 = some (.dK kvs) := upd_same
    generalize upd H9 e1 (.dK kvs) = HA at sA aA ⊢
    refine ⟨_, sA _ _ w9, fun e2 he2 => ?_⟩
    have sB : Same HA (upd HA e2 (.dK (ownK rows tks kvs ord))) := Same.upd he2
    have aB : upd HA e2 (.dK (ownK rows tks kvs ord)) e2 = some (.dK (ownK rows tks kvs ord)) := upd_same
    generalize upd HA e2 (.dK (ownK rows tks kvs ord)) = HB at sB aB ⊢
    refine ⟨kvs, sB _ _ aA, _, aB, hk.k, hkn, nl, fun Mv HC hMv sC hC => ?_⟩
    have s9C := sA.trans (sB.trans sC)
    refine rListOf_l (.inl (.inl (.inl (s9C _ _ r9)))) fun c1 hc1 => ?_
    have sD : Same HC (upd HC c1 (.lst (rows.map V.int))) := Same.upd hc1
    have aD : upd HC c1 (.lst (rows.map V.int)) c1 = some (.lst (rows.map V.int)) := upd_same
    generalize upd HC c1 (.lst (rows.map V.int)) = HD at sD aD ⊢
    refine rListOf_l (.inl (.inl (.inl (sD _ _ (s9C _ _ t9))))) fun c2 hc2 => ?_
    have sE : Same HD (upd HD c2 (.lst (txV tks))) := Same.upd hc2
    have aE : upd HD c2 (.lst (txV tks)) c2 = some (.lst (txV tks)) := upd_same
    generalize upd HD c2 (.lst (txV tks)) = HE at sE aE ⊢
    refine ⟨kvs, sE _ _ (sD _ _ (s9C _ _ d9)), fun c3 hc3 => ?_⟩
    have sF : Same HE (upd HE c3 (.dK kvs)) := Same.upd hc3
    have aF : upd HE c3 (.dK kvs) c3 = some (.dK kvs) := upd_same
    generalize upd HE c3 (.dK kvs) = HF at sF aF ⊢
    refine ⟨c1, rfl, c2, rfl, rows, sF _ _ (sE _ _ aD), tks, sF _ _ aE, kvs, aF, hk.k, by omega, by omega, tnd, tok, fun Pp HG hPp sG hG => ?_⟩
    have sCG := sD.trans (sE.trans (sF.trans sG))
    have mG := hC.same sCG
    have s9G := s9C.trans sCG
    have rG := s9G _ _ r9
    have tG := s9G _ _ t9
    have dG := s9G _ _ d9
    have wG := s9G _ _ w9
    clear aA aB aD aE aF hc1 hc2 hc3 he1 he2 sA sB sC sD sE sF sG hC r9 t9 d9 w9 s9G s9C sCG
    rw [hRz]
    clear hRz
    refine cut1 fun Rz hRz => ?_
    walk_at "rd"
    refine ⟨Pl.tups mG (movR_pl hk.k hkn), fun HH sH => ⟨Pl.tups (hG.same sH) papR_pl, fun HI sI => ?_⟩⟩
    have sGI := sH.trans sI
    have mI := mG.same sGI
    have pI := hG.same sGI
    have rI := sGI _ _ rG
    have tI := sGI _ _ tG
    have dI := sGI _ _ dG
    have wI := sGI _ _ wG
    clear sH sI sGI rG tG dG wG mG hG
    rw [hRz]
    clear hRz
    refine cut2 fun Rz hRz => ?_
    walk_at "rd"
    refine rAny_l (.inl (.inl rI)) (compW_iF (.inl (.inl rI)) (by omega) (fun r => !decide (hdF kvs r = ownV rows tks kvs r)) (fun r HJ hr s Qt qt => ?_) fun Ch HJ hCh sJ hJ => ?_)
    · walk_at "rd"
      have dd := s _ _ dI
      have gw := DGet.k (k := .inl r) (s _ _ wI)
      rw [ownK_some (pm.mem_iff.mpr hr)] at gw
      exact ⟨.inl ⟨kvs, .inl dd⟩, _, DGet.k (k := .inl r) dd, rIxA_d gw (neq_had (hk.k.ns r) (own_ns hk.k r) ⟨_, rfl, qt HJ (Same.refl _)⟩)⟩
    refine rLen_l (.inl (.inl hJ)) ?_
    rw [List.length_map]
    have pJ := pI.same sJ
    have papl : (papR rows tks kvs).length ≤ 64 := by unfold papR; rw [List.length_map, srtT_len]; omega
    obtain ⟨pts, pe, ptt⟩ := id pJ
    refine rAny_l (.inl (.inl pe)) (compW_tups pJ (Nat.le_trans papl (by decide)) (fun it => it.getD 3 .non) (fun u xs HK hx s hu Qe qe => ?_) fun Kp HK hKp sK hK => ?_)
    · obtain ⟨t, ht, rfl⟩ := List.mem_map.mp hx
      walk_at "rd"
      exact rIxA_t (.inl (.inl hu)) (atI_get? (v := .int (min (nHas rows kvs t : Nat) (shN rows tks kvs t))) (by decide) rfl) (qe HK (Same.refl _))
    have eK : (papR rows tks kvs).map (fun it => it.getD 3 .non) = ((srtT tks).map fun t => min ((nHas rows kvs t : Nat) : Int) (shN rows tks kvs t)).map V.int := by
      unfold papR
      rw [List.map_map, List.map_map]
      rfl
    rw [eK] at hK
    refine rSum_l (.inl (.inl hK)) ?_
    have sIK := sJ.trans sK
    rw [pap_sum (srtT tks) (fun t ht => srtT_mem.mp ht), keepN_perm (srtT_perm tks), keep_sh tnd]
    have rK := sIK _ _ rI
    have tK := sIK _ _ tI
    have dK := sIK _ _ dI
    have mK := mI.same sIK
    have wK := sIK _ _ wI
    have hcl := changed_len (rows := rows) (kvs := kvs) rnd t0 tnd
    have hbl := kept_left (rows := rows) (kvs := kvs) rnd tnd
    have hml := mov_len (tks := tks) (kvs := kvs) pm
    clear sIK rI tI dI wI mI pI pJ pe ptt hK eK hJ sJ sK hKp hCh
    rw [hRz]
    clear hRz
    refine cut1 fun Rz hRz => ?_
    walk_at "rd"
    obtain ⟨mts, mE, mtt⟩ := mK
    refine rLen_l (.inl (.inl mE)) ?_
    rw [List.length_map, mtt.length, hml]
    walk_at "rd"
    refine rLen_l (.inl (.inl rK)) ?_
    rw [List.length_map]
    walk_at "rd"
    refine ite2 (fun z => absurd (show _ = _ by omega) z) (fun _ => ?_)
    rw [hRz]
    clear hRz
    refine cut1 fun Rz hRz => ?_
    walk_at "rd"
    refine ⟨rows, rK, tks, tK, kvs, dK, hk.k, by omega, by omega, tnd, t0, rnd, fun Rv HL g f hRv sL hL hg hc hf hm => ?_⟩
    have hrl := rival_le (kvs := kvs) hg hc hf hm rnd t0 tnd
    have rL := sL _ _ rK
    have tL := sL _ _ tK
    have dL := sL _ _ dK
    rw [hRz]
    clear hRz
    walk_at "rd"
    refine rAny_l (.inl (.inl rL)) (compW_iF (.inl (.inl rL)) (by omega) (fun r => !decide (hdF kvs r = g r)) (fun r HM hr s Qt qt => ?_) fun Cr HM hCr sM hM => ?_)
    · walk_at "rd"
      have dd := s _ _ dL
      have gw := DGet.k (k := .inl r) (s _ _ hL)
      rw [mapK_some hr] at gw
      obtain ⟨t, _, et⟩ := hg r hr
      exact ⟨.inl ⟨kvs, .inl dd⟩, _, DGet.k (k := .inl r) dd, rIxA_d gw (neq_had (hk.k.ns r) (.inr ⟨t, et⟩) ⟨_, rfl, qt HM (Same.refl _)⟩)⟩
    refine rLen_l (.inl (.inl hM)) ?_
    rw [List.length_map]
    walk_at "rd"
    refine ite2 (fun z => absurd hrl (by omega)) (fun _ => ?_)
    refine ⟨rows, sM _ _ rL, tks, sM _ _ tL, kvs, sM _ _ dL, hk.k, by omega, by omega, t0, fun HN sN => ?_⟩
    rw [show decide (((bestN rows tks kvs : Nat) : Int) = ((bestN rows tks kvs : Nat) : Int)) = true from decide_eq_true rfl]
    exact q HN

end
theorem txt_mk {K : PySem.W.Frag} {h : Heap} {mg : Str → Option Value} (X : K.In h) (G : h.Ns mainGlobals mg)
    {f1 : Addr} {od1 an1 : Option Addr} {sl1 : Array (Option Value)} {oc1 kV1 dc1 pm1 cd1 ct1 : Value}
    {f2 : Addr} {od2 an2 : Option Addr} {sl2 : Array (Option Value)} {oc2 kV2 dc2 pm2 cd2 ct2 : Value}
    {f3 : Addr} {od3 an3 : Option Addr} {sl3 : Array (Option Value)} {oc3 kV3 dc3 pm3 cd3 ct3 : Value}
    {f4 : Addr} {od4 an4 : Option Addr} {sl4 : Array (Option Value)} {oc4 kV4 dc4 pm4 cd4 ct4 : Value}
    {f5 : Addr} {od5 an5 : Option Addr} {sl5 : Array (Option Value)} {oc5 kV5 dc5 pm5 cd5 ct5 : Value}
    {f6 : Addr} {od6 an6 : Option Addr} {sl6 : Array (Option Value)} {oc6 kV6 dc6 pm6 cd6 ct6 : Value}
    {f7 : Addr} {od7 an7 : Option Addr} {sl7 : Array (Option Value)} {oc7 kV7 dc7 pm7 cd7 ct7 : Value}
    {f8 : Addr} {od8 an8 : Option Addr} {sl8 : Array (Option Value)} {oc8 kV8 dc8 pm8 cd8 ct8 : Value}
    {f9 : Addr} {od9 an9 : Option Addr} {sl9 : Array (Option Value)} {oc9 kV9 dc9 pm9 cd9 ct9 : Value}
    {f10 : Addr} {od10 an10 : Option Addr} {sl10 : Array (Option Value)} {oc10 kV10 dc10 pm10 cd10 ct10 : Value}
    {f11 : Addr} {od11 an11 : Option Addr} {sl11 : Array (Option Value)} {oc11 kV11 dc11 pm11 cd11 ct11 : Value}
    {f12 : Addr} {od12 an12 : Option Addr} {sl12 : Array (Option Value)} {oc12 kV12 dc12 pm12 cd12 ct12 : Value}
    {f13 : Addr} {od13 an13 : Option Addr} {sl13 : Array (Option Value)} {oc13 kV13 dc13 pm13 cd13 ct13 : Value}
    {f14 : Addr} {od14 an14 : Option Addr} {sl14 : Array (Option Value)} {oc14 kV14 dc14 pm14 cd14 ct14 : Value}
    {f15 : Addr} {od15 an15 : Option Addr} {sl15 : Array (Option Value)} {oc15 kV15 dc15 pm15 cd15 ct15 : Value}
    {f16 : Addr} {od16 an16 : Option Addr} {sl16 : Array (Option Value)} {oc16 kV16 dc16 pm16 cd16 ct16 : Value}
    {f17 : Addr} {od17 an17 : Option Addr} {sl17 : Array (Option Value)} {oc17 kV17 dc17 pm17 cd17 ct17 : Value}
    {f18 : Addr} {od18 an18 : Option Addr} {sl18 : Array (Option Value)} {oc18 kV18 dc18 pm18 cd18 ct18 : Value}
    (a1 : PySem.W.nsIn K mainGlobals "rows_had" = some (some (.ref f1)))
    (l1 : K.lookup f1 = some ⟨oc1, od1, .func (PySem.W.fnOf "rows_had" "rows_had" (defArgs s_rows_had) (defBody s_rows_had) (defScope s_rows_had) .none kV1 dc1 pm1 an1 cd1 ct1), sl1⟩) (c1 : PySem.W.codeIn K cd1 "rows_had" = true) (k1 : PySem.W.keepIn K (.ref f1) = true)
    (a2 : PySem.W.nsIn K mainGlobals "shares" = some (some (.ref f2)))
    (l2 : K.lookup f2 = some ⟨oc2, od2, .func (PySem.W.fnOf "shares" "shares" (defArgs s_shares) (defBody s_shares) (defScope s_shares) .none kV2 dc2 pm2 an2 cd2 ct2), sl2⟩) (c2 : PySem.W.codeIn K cd2 "shares" = true) (k2 : PySem.W.keepIn K (.ref f2) = true)
    (a3 : PySem.W.nsIn K mainGlobals "rows_kept" = some (some (.ref f3)))
    (l3 : K.lookup f3 = some ⟨oc3, od3, .func (PySem.W.fnOf "rows_kept" "rows_kept" (defArgs s_rows_kept) (defBody s_rows_kept) (defScope s_rows_kept) .none kV3 dc3 pm3 an3 cd3 ct3), sl3⟩) (c3 : PySem.W.codeIn K cd3 "rows_kept" = true) (k3 : PySem.W.keepIn K (.ref f3) = true)
    (a4 : PySem.W.nsIn K mainGlobals "dealt" = some (some (.ref f4)))
    (l4 : K.lookup f4 = some ⟨oc4, od4, .func (PySem.W.fnOf "dealt" "dealt" (defArgs s_dealt) (defBody s_dealt) (defScope s_dealt) .none kV4 dc4 pm4 an4 cd4 ct4), sl4⟩) (c4 : PySem.W.codeIn K cd4 "dealt" = true) (k4 : PySem.W.keepIn K (.ref f4) = true)
    (a5 : PySem.W.nsIn K mainGlobals "paper_of" = some (some (.ref f5)))
    (l5 : K.lookup f5 = some ⟨oc5, od5, .func (PySem.W.fnOf "paper_of" "paper_of" (defArgs s_paper_of) (defBody s_paper_of) (defScope s_paper_of) .none kV5 dc5 pm5 an5 cd5 ct5), sl5⟩) (c5 : PySem.W.codeIn K cd5 "paper_of" = true) (k5 : PySem.W.keepIn K (.ref f5) = true)
    (a6 : PySem.W.nsIn K mainGlobals "moved" = some (some (.ref f6)))
    (l6 : K.lookup f6 = some ⟨oc6, od6, .func (PySem.W.fnOf "moved" "moved" (defArgs s_moved) (defBody s_moved) (defScope s_moved) .none kV6 dc6 pm6 an6 cd6 ct6), sl6⟩) (c6 : PySem.W.codeIn K cd6 "moved" = true) (k6 : PySem.W.keepIn K (.ref f6) = true)
    (a7 : PySem.W.nsIn K mainGlobals "_law_cell_at" = some (some (.ref f7)))
    (l7 : K.lookup f7 = some ⟨oc7, od7, .func (PySem.W.fnOf "_law_cell_at" "_law_cell_at" (defArgs s_l_cell_at) (defBody s_l_cell_at) (defScope s_l_cell_at) .none kV7 dc7 pm7 an7 cd7 ct7), sl7⟩) (c7 : PySem.W.codeIn K cd7 "_law_cell_at" = true) (k7 : PySem.W.keepIn K (.ref f7) = true)
    (a8 : PySem.W.nsIn K mainGlobals "_law_mixed" = some (some (.ref f8)))
    (l8 : K.lookup f8 = some ⟨oc8, od8, .func (PySem.W.fnOf "_law_mixed" "_law_mixed" (defArgs s_l_mixed) (defBody s_l_mixed) (defScope s_l_mixed) .none kV8 dc8 pm8 an8 cd8 ct8), sl8⟩) (c8 : PySem.W.codeIn K cd8 "_law_mixed" = true) (k8 : PySem.W.keepIn K (.ref f8) = true)
    (a9 : PySem.W.nsIn K mainGlobals "_law_plain" = some (some (.ref f9)))
    (l9 : K.lookup f9 = some ⟨oc9, od9, .func (PySem.W.fnOf "_law_plain" "_law_plain" (defArgs s_l_plain) (defBody s_l_plain) (defScope s_l_plain) .none kV9 dc9 pm9 an9 cd9 ct9), sl9⟩) (c9 : PySem.W.codeIn K cd9 "_law_plain" = true) (k9 : PySem.W.keepIn K (.ref f9) = true)
    (a10 : PySem.W.nsIn K mainGlobals "_law_name" = some (some (.ref f10)))
    (l10 : K.lookup f10 = some ⟨oc10, od10, .func (PySem.W.fnOf "_law_name" "_law_name" (defArgs s_l_name) (defBody s_l_name) (defScope s_l_name) .none kV10 dc10 pm10 an10 cd10 ct10), sl10⟩) (c10 : PySem.W.codeIn K cd10 "_law_name" = true) (k10 : PySem.W.keepIn K (.ref f10) = true)
    (a11 : PySem.W.nsIn K mainGlobals "_law_names" = some (some (.ref f11)))
    (l11 : K.lookup f11 = some ⟨oc11, od11, .func (PySem.W.fnOf "_law_names" "_law_names" (defArgs s_l_names) (defBody s_l_names) (defScope s_l_names) .none kV11 dc11 pm11 an11 cd11 ct11), sl11⟩) (c11 : PySem.W.codeIn K cd11 "_law_names" = true) (k11 : PySem.W.keepIn K (.ref f11) = true)
    (a12 : PySem.W.nsIn K mainGlobals "_law_rows" = some (some (.ref f12)))
    (l12 : K.lookup f12 = some ⟨oc12, od12, .func (PySem.W.fnOf "_law_rows" "_law_rows" (defArgs s_l_rows) (defBody s_l_rows) (defScope s_l_rows) .none kV12 dc12 pm12 an12 cd12 ct12), sl12⟩) (c12 : PySem.W.codeIn K cd12 "_law_rows" = true) (k12 : PySem.W.keepIn K (.ref f12) = true)
    (a13 : PySem.W.nsIn K mainGlobals "_law_had" = some (some (.ref f13)))
    (l13 : K.lookup f13 = some ⟨oc13, od13, .func (PySem.W.fnOf "_law_had" "_law_had" (defArgs s_l_had) (defBody s_l_had) (defScope s_l_had) .none kV13 dc13 pm13 an13 cd13 ct13), sl13⟩) (c13 : PySem.W.codeIn K cd13 "_law_had" = true) (k13 : PySem.W.keepIn K (.ref f13) = true)
    (a14 : PySem.W.nsIn K mainGlobals "_law_takers" = some (some (.ref f14)))
    (l14 : K.lookup f14 = some ⟨oc14, od14, .func (PySem.W.fnOf "_law_takers" "_law_takers" (defArgs s_l_takers) (defBody s_l_takers) (defScope s_l_takers) .none kV14 dc14 pm14 an14 cd14 ct14), sl14⟩) (c14 : PySem.W.codeIn K cd14 "_law_takers" = true) (k14 : PySem.W.keepIn K (.ref f14) = true)
    (a15 : PySem.W.nsIn K mainGlobals "_law_rival" = some (some (.ref f15)))
    (l15 : K.lookup f15 = some ⟨oc15, od15, .func (PySem.W.fnOf "_law_rival" "_law_rival" (defArgs s_l_rival) (defBody s_l_rival) (defScope s_l_rival) .none kV15 dc15 pm15 an15 cd15 ct15), sl15⟩) (c15 : PySem.W.codeIn K cd15 "_law_rival" = true) (k15 : PySem.W.keepIn K (.ref f15) = true)
    (a16 : PySem.W.nsIn K mainGlobals "_law_most_kept" = some (some (.ref f16)))
    (l16 : K.lookup f16 = some ⟨oc16, od16, .func (PySem.W.fnOf "_law_most_kept" "_law_most_kept" (defArgs s_l_most_kept) (defBody s_l_most_kept) (defScope s_l_most_kept) .none kV16 dc16 pm16 an16 cd16 ct16), sl16⟩) (c16 : PySem.W.codeIn K cd16 "_law_most_kept" = true) (k16 : PySem.W.keepIn K (.ref f16) = true)
    (a17 : PySem.W.nsIn K mainGlobals "_law_even" = some (some (.ref f17)))
    (l17 : K.lookup f17 = some ⟨oc17, od17, .func (PySem.W.fnOf "_law_even" "_law_even" (defArgs s_l_even) (defBody s_l_even) (defScope s_l_even) .none kV17 dc17 pm17 an17 cd17 ct17), sl17⟩) (c17 : PySem.W.codeIn K cd17 "_law_even" = true) (k17 : PySem.W.keepIn K (.ref f17) = true)
    (a18 : PySem.W.nsIn K mainGlobals "law" = some (some (.ref f18)))
    (l18 : K.lookup f18 = some ⟨oc18, od18, .func (PySem.W.fnOf "law" "law" (defArgs s_law) (defBody s_law) (defScope s_law) .none kV18 dc18 pm18 an18 cd18 ct18), sl18⟩) (c18 : PySem.W.codeIn K cd18 "law" = true) (k18 : PySem.W.keepIn K (.ref f18) = true)
    (z_bool : PySem.W.nsIn K mainGlobals "bool" = some none)
    (z_dict : PySem.W.nsIn K mainGlobals "dict" = some none)
    (z_enumerate : PySem.W.nsIn K mainGlobals "enumerate" = some none)
    (z_int : PySem.W.nsIn K mainGlobals "int" = some none)
    (z_isinstance : PySem.W.nsIn K mainGlobals "isinstance" = some none)
    (z_len : PySem.W.nsIn K mainGlobals "len" = some none)
    (z_list : PySem.W.nsIn K mainGlobals "list" = some none)
    (z_max : PySem.W.nsIn K mainGlobals "max" = some none)
    (z_min : PySem.W.nsIn K mainGlobals "min" = some none)
    (z_range : PySem.W.nsIn K mainGlobals "range" = some none)
    (z_sorted : PySem.W.nsIn K mainGlobals "sorted" = some none)
    (z_str : PySem.W.nsIn K mainGlobals "str" = some none)
    (z_sum : PySem.W.nsIn K mainGlobals "sum" = some none)
    (z_tuple : PySem.W.nsIn K mainGlobals "tuple" = some none) :
    ∃ a, Txt K mg a :=
  ⟨⟨f1, (PySem.W.fnOf "rows_had" "rows_had" (defArgs s_rows_had) (defBody s_rows_had) (defScope s_rows_had) .none kV1 dc1 pm1 an1 cd1 ct1), f2, (PySem.W.fnOf "shares" "shares" (defArgs s_shares) (defBody s_shares) (defScope s_shares) .none kV2 dc2 pm2 an2 cd2 ct2), f3, (PySem.W.fnOf "rows_kept" "rows_kept" (defArgs s_rows_kept) (defBody s_rows_kept) (defScope s_rows_kept) .none kV3 dc3 pm3 an3 cd3 ct3), f4, (PySem.W.fnOf "dealt" "dealt" (defArgs s_dealt) (defBody s_dealt) (defScope s_dealt) .none kV4 dc4 pm4 an4 cd4 ct4), f5, (PySem.W.fnOf "paper_of" "paper_of" (defArgs s_paper_of) (defBody s_paper_of) (defScope s_paper_of) .none kV5 dc5 pm5 an5 cd5 ct5), f6, (PySem.W.fnOf "moved" "moved" (defArgs s_moved) (defBody s_moved) (defScope s_moved) .none kV6 dc6 pm6 an6 cd6 ct6), f7, (PySem.W.fnOf "_law_cell_at" "_law_cell_at" (defArgs s_l_cell_at) (defBody s_l_cell_at) (defScope s_l_cell_at) .none kV7 dc7 pm7 an7 cd7 ct7), f8, (PySem.W.fnOf "_law_mixed" "_law_mixed" (defArgs s_l_mixed) (defBody s_l_mixed) (defScope s_l_mixed) .none kV8 dc8 pm8 an8 cd8 ct8), f9, (PySem.W.fnOf "_law_plain" "_law_plain" (defArgs s_l_plain) (defBody s_l_plain) (defScope s_l_plain) .none kV9 dc9 pm9 an9 cd9 ct9), f10, (PySem.W.fnOf "_law_name" "_law_name" (defArgs s_l_name) (defBody s_l_name) (defScope s_l_name) .none kV10 dc10 pm10 an10 cd10 ct10), f11, (PySem.W.fnOf "_law_names" "_law_names" (defArgs s_l_names) (defBody s_l_names) (defScope s_l_names) .none kV11 dc11 pm11 an11 cd11 ct11), f12, (PySem.W.fnOf "_law_rows" "_law_rows" (defArgs s_l_rows) (defBody s_l_rows) (defScope s_l_rows) .none kV12 dc12 pm12 an12 cd12 ct12), f13, (PySem.W.fnOf "_law_had" "_law_had" (defArgs s_l_had) (defBody s_l_had) (defScope s_l_had) .none kV13 dc13 pm13 an13 cd13 ct13), f14, (PySem.W.fnOf "_law_takers" "_law_takers" (defArgs s_l_takers) (defBody s_l_takers) (defScope s_l_takers) .none kV14 dc14 pm14 an14 cd14 ct14), f15, (PySem.W.fnOf "_law_rival" "_law_rival" (defArgs s_l_rival) (defBody s_l_rival) (defScope s_l_rival) .none kV15 dc15 pm15 an15 cd15 ct15), f16, (PySem.W.fnOf "_law_most_kept" "_law_most_kept" (defArgs s_l_most_kept) (defBody s_l_most_kept) (defScope s_l_most_kept) .none kV16 dc16 pm16 an16 cd16 ct16), f17, (PySem.W.fnOf "_law_even" "_law_even" (defArgs s_l_even) (defBody s_l_even) (defScope s_l_even) .none kV17 dc17 pm17 an17 cd17 ct17), f18, (PySem.W.fnOf "law" "law" (defArgs s_law) (defBody s_law) (defScope s_law) .none kV18 dc18 pm18 an18 cd18 ct18)⟩, {
    m_rows_had := PySem.W.mg_of X G a1,
    F_rows_had := fun_mk (st := s_rows_had) l1 c1 k1,
    b_rows_had := ((fun_mk (st := s_rows_had) l1 c1 k1).binds (fun _ _ _ _ _ _ => el3 fun _ _ _ => rfl)),
    m_shares := PySem.W.mg_of X G a2,
    F_shares := fun_mk (st := s_shares) l2 c2 k2,
    b_shares := ((fun_mk (st := s_shares) l2 c2 k2).binds (fun _ _ _ _ _ _ => el3 fun _ _ _ => rfl)),
    m_rows_kept := PySem.W.mg_of X G a3,
    F_rows_kept := fun_mk (st := s_rows_kept) l3 c3 k3,
    b_rows_kept := ((fun_mk (st := s_rows_kept) l3 c3 k3).binds (fun _ _ _ _ _ _ => el4 fun _ _ _ _ => rfl)),
    m_dealt := PySem.W.mg_of X G a4,
    F_dealt := fun_mk (st := s_dealt) l4 c4 k4,
    b_dealt := ((fun_mk (st := s_dealt) l4 c4 k4).binds (fun _ _ _ _ _ _ => el3 fun _ _ _ => rfl)),
    m_paper_of := PySem.W.mg_of X G a5,
    F_paper_of := fun_mk (st := s_paper_of) l5 c5 k5,
    b_paper_of := ((fun_mk (st := s_paper_of) l5 c5 k5).binds (fun _ _ _ _ _ _ => el3 fun _ _ _ => rfl)),
    m_moved := PySem.W.mg_of X G a6,
    F_moved := fun_mk (st := s_moved) l6 c6 k6,
    b_moved := ((fun_mk (st := s_moved) l6 c6 k6).binds (fun _ _ _ _ _ _ => el2 fun _ _ => rfl)),
    m_l_cell_at := PySem.W.mg_of X G a7,
    F_l_cell_at := fun_mk (st := s_l_cell_at) l7 c7 k7,
    b_l_cell_at := ((fun_mk (st := s_l_cell_at) l7 c7 k7).binds (fun _ _ _ _ _ _ => el2 fun _ _ => rfl)),
    m_l_mixed := PySem.W.mg_of X G a8,
    F_l_mixed := fun_mk (st := s_l_mixed) l8 c8 k8,
    b_l_mixed := ((fun_mk (st := s_l_mixed) l8 c8 k8).binds (fun _ _ _ _ _ _ => el2 fun _ _ => rfl)),
    m_l_plain := PySem.W.mg_of X G a9,
    F_l_plain := fun_mk (st := s_l_plain) l9 c9 k9,
    b_l_plain := ((fun_mk (st := s_l_plain) l9 c9 k9).binds (fun _ _ _ _ _ _ => el1 fun _ => rfl)),
    m_l_name := PySem.W.mg_of X G a10,
    F_l_name := fun_mk (st := s_l_name) l10 c10 k10,
    b_l_name := ((fun_mk (st := s_l_name) l10 c10 k10).binds (fun _ _ _ _ _ _ => el3 fun _ _ _ => rfl)),
    m_l_names := PySem.W.mg_of X G a11,
    F_l_names := fun_mk (st := s_l_names) l11 c11 k11,
    b_l_names := ((fun_mk (st := s_l_names) l11 c11 k11).binds (fun _ _ _ _ _ _ => el2 fun _ _ => rfl)),
    m_l_rows := PySem.W.mg_of X G a12,
    F_l_rows := fun_mk (st := s_l_rows) l12 c12 k12,
    b_l_rows := ((fun_mk (st := s_l_rows) l12 c12 k12).binds (fun _ _ _ _ _ _ => el2 fun _ _ => rfl)),
    m_l_had := PySem.W.mg_of X G a13,
    F_l_had := fun_mk (st := s_l_had) l13 c13 k13,
    b_l_had := ((fun_mk (st := s_l_had) l13 c13 k13).binds (fun _ _ _ _ _ _ => el4 fun _ _ _ _ => rfl)),
    m_l_takers := PySem.W.mg_of X G a14,
    F_l_takers := fun_mk (st := s_l_takers) l14 c14 k14,
    b_l_takers := ((fun_mk (st := s_l_takers) l14 c14 k14).binds (fun _ _ _ _ _ _ => el3 fun _ _ _ => rfl)),
    m_l_rival := PySem.W.mg_of X G a15,
    F_l_rival := fun_mk (st := s_l_rival) l15 c15 k15,
    b_l_rival := ((fun_mk (st := s_l_rival) l15 c15 k15).binds (fun _ _ _ _ _ _ => el4 fun _ _ _ _ => rfl)),
    m_l_most_kept := PySem.W.mg_of X G a16,
    F_l_most_kept := fun_mk (st := s_l_most_kept) l16 c16 k16,
    b_l_most_kept := ((fun_mk (st := s_l_most_kept) l16 c16 k16).binds (fun _ _ _ _ _ _ => el3 fun _ _ _ => rfl)),
    m_l_even := PySem.W.mg_of X G a17,
    F_l_even := fun_mk (st := s_l_even) l17 c17 k17,
    b_l_even := ((fun_mk (st := s_l_even) l17 c17 k17).binds (fun _ _ _ _ _ _ => el3 fun _ _ _ => rfl)),
    m_law := PySem.W.mg_of X G a18,
    F_law := fun_mk (st := s_law) l18 c18 k18,
    b_law := ((fun_mk (st := s_law) l18 c18 k18).binds (fun _ _ _ _ _ _ => el1 fun _ => rfl)),
    n_bool := PySem.W.mg_none_of X G z_bool,
    n_dict := PySem.W.mg_none_of X G z_dict,
    n_enumerate := PySem.W.mg_none_of X G z_enumerate,
    n_int := PySem.W.mg_none_of X G z_int,
    n_isinstance := PySem.W.mg_none_of X G z_isinstance,
    n_len := PySem.W.mg_none_of X G z_len,
    n_list := PySem.W.mg_none_of X G z_list,
    n_max := PySem.W.mg_none_of X G z_max,
    n_min := PySem.W.mg_none_of X G z_min,
    n_range := PySem.W.mg_none_of X G z_range,
    n_sorted := PySem.W.mg_none_of X G z_sorted,
    n_str := PySem.W.mg_none_of X G z_str,
    n_sum := PySem.W.mg_none_of X G z_sum,
    n_tuple := PySem.W.mg_none_of X G z_tuple,
    bl_law := fun s u => .of_eq rfl }⟩
theorem walk {l : PySem.W.OpenLaw} {q : Program} {loose : List Str} {XP : (Str → Option Value) → Heap → Prop} {YP : World → Heap → Prop} {d : DefRec} {K : Params → PySem.W.Frag} (hn : l.most = some 63) (hdf : d.params.defaults = [])
    (hY : ∀ (w : World) (h : Heap), YP w h → (K w.params).In h)
    (F : ∀ (w : World) (mg : Str → Option Value) (fa : Addr) (h : Heap), (K w.params).In h → h.Ns mainGlobals mg → mg d.name = some (.ref fa) →
      ∃ fd : FuncData, (∀ (s : Shared) (u : Value), BindsTo s fd ⟨[u], []⟩ [("_law_script", u)]) ∧ ∀ base : Heap, (K w.params).In base → base.Ns mainGlobals mg → FnOk l.prog w (K w.params) mg base CX0 5 fa fd ["_law_script"] (sp_law (K w.params))) :
    PySem.W.WalkO q loose XP YP l.row.toRowW d [] (fun f vs => PySem.call f vs) :=
  L2.walk_of (n := 63) (k := 5) (x := "_law_script") (CX := fun _ => CX0) (sp := fun w => sp_law (K w.params)) hn (by decide) hdf ⟨rfl, by decide, by decide⟩ hY F (fun _ _ a ns hl _ hS => ⟨a, ns, rfl, hS, hl, fun _ => rfl⟩) fun _ _ _ _ _ z => z
end K44
def PySem.W.Fast.tw5597086386433290821 : Unit := ()
def PySem.W.Fast.tw12581374241168768592 : Unit := ()
def PySem.W.Fast.tw4196268089819862929 : Unit := ()
def PySem.W.Fast.tw17994399144359642895 : Unit := ()
def PySem.W.Fast.tw17786142254290521511 : Unit := ()
def PySem.W.Fast.tw18395540629187007095 : Unit := ()
def PySem.W.Fast.tw6657397548321354446 : Unit := ()
def PySem.W.Fast.tw9406167658141903531 : Unit := ()
def PySem.W.Fast.tw6566505529423894474 : Unit := ()
def PySem.W.Fast.tw2572234233954193025 : Unit := ()
def PySem.W.Fast.tw11169385873844841389 : Unit := ()
def PySem.W.Fast.tw13464018851097608376 : Unit := ()

open PySem PySem.W PyProof.Rows
set_option maxRecDepth 100000 in
set_option maxHeartbeats 0 in
theorem PySem.Challenge.cw_lettercell_k44_whole_no_even_dealing_mov_holds : PySem.Challenge.rw_lettercell_k44_whole_no_even_dealing_mov.Holds := by
  w_on; o_law; k_head; (case hw => w_witness2)
  k_fill
  refine K44.walk (l := PySem.Challenge.rw_lettercell_k44_whole_no_even_dealing_mov) rfl rfl (fun w h Y => PySem.W.kIn_of Y) ?F
  case F =>
    intro w mg fa h KX G hmg
    have T : ∃ t, K44.Txt (L2.KOf KX) mg t := by
      dsimp only [L2.KOf]
      refine' K44.txt_mk KX G ?a1 ?l1 ?c1 ?k1 ?a2 ?l2 ?c2 ?k2 ?a3 ?l3 ?c3 ?k3 ?a4 ?l4 ?c4 ?k4 ?a5 ?l5 ?c5 ?k5 ?a6 ?l6 ?c6 ?k6 ?a7 ?l7 ?c7 ?k7 ?a8 ?l8 ?c8 ?k8 ?a9 ?l9 ?c9 ?k9 ?a10 ?l10 ?c10 ?k10 ?a11 ?l11 ?c11 ?k11 ?a12 ?l12 ?c12 ?k12 ?a13 ?l13 ?c13 ?k13 ?a14 ?l14 ?c14 ?k14 ?a15 ?l15 ?c15 ?k15 ?a16 ?l16 ?c16 ?k16 ?a17 ?l17 ?c17 ?k17 ?a18 ?l18 ?c18 ?k18 ?z_bool ?z_dict ?z_enumerate ?z_int ?z_isinstance ?z_len ?z_list ?z_max ?z_min ?z_range ?z_sorted ?z_str ?z_sum ?z_tuple
      (case a1 => k_is)
      (case l1 => k_is)
      (case c1 => k_is)
      (case k1 => k_is)
      (case a2 => k_is)
      (case l2 => k_is)
      (case c2 => k_is)
      (case k2 => k_is)
      (case a3 => k_is)
      (case l3 => k_is)
      (case c3 => k_is)
      (case k3 => k_is)
      (case a4 => k_is)
      (case l4 => k_is)
      (case c4 => k_is)
      (case k4 => k_is)
      (case a5 => k_is)
      (case l5 => k_is)
      (case c5 => k_is)
      (case k5 => k_is)
      (case a6 => k_is)
      (case l6 => k_is)
      (case c6 => k_is)
      (case k6 => k_is)
      (case a7 => k_is)
      (case l7 => k_is)
      (case c7 => k_is)
      (case k7 => k_is)
      (case a8 => k_is)
      (case l8 => k_is)
      (case c8 => k_is)
      (case k8 => k_is)
      (case a9 => k_is)
      (case l9 => k_is)
      (case c9 => k_is)
      (case k9 => k_is)
      (case a10 => k_is)
      (case l10 => k_is)
      (case c10 => k_is)
      (case k10 => k_is)
      (case a11 => k_is)
      (case l11 => k_is)
      (case c11 => k_is)
      (case k11 => k_is)
      (case a12 => k_is)
      (case l12 => k_is)
      (case c12 => k_is)
      (case k12 => k_is)
      (case a13 => k_is)
      (case l13 => k_is)
      (case c13 => k_is)
      (case k13 => k_is)
      (case a14 => k_is)
      (case l14 => k_is)
      (case c14 => k_is)
      (case k14 => k_is)
      (case a15 => k_is)
      (case l15 => k_is)
      (case c15 => k_is)
      (case k15 => k_is)
      (case a16 => k_is)
      (case l16 => k_is)
      (case c16 => k_is)
      (case k16 => k_is)
      (case a17 => k_is)
      (case l17 => k_is)
      (case c17 => k_is)
      (case k17 => k_is)
      (case a18 => k_is)
      (case l18 => k_is)
      (case c18 => k_is)
      (case k18 => k_is)
      (case z_bool => k_is)
      (case z_dict => k_is)
      (case z_enumerate => k_is)
      (case z_int => k_is)
      (case z_isinstance => k_is)
      (case z_len => k_is)
      (case z_list => k_is)
      (case z_max => k_is)
      (case z_min => k_is)
      (case z_range => k_is)
      (case z_sorted => k_is)
      (case z_str => k_is)
      (case z_sum => k_is)
      (case z_tuple => k_is)
    obtain ⟨t, T⟩ := T
    have e0 := hmg.symm.trans T.m_law
    cases e0
    exact ⟨_, T.bl_law, fun base kb nb => K44.ok_law T⟩
#print axioms PySem.Challenge.cw_lettercell_k44_whole_no_even_dealing_mov_holds

